import Derived.Test.YtiblpcfkecalcaaDoorK01
import Derived.Deep.AppendLies
import Derived.Deep.RegionHeld3
import Derived.Lib.BytesEntry
import Derived.Laws.Externs
import Derived.Laws.ResultCell
import Derived.Lib.SliceRun
import Derived.Shelf.Bytes.SlEqualAll
import Derived.Maps.AppendAt
import Derived.RangeFuncNested
import Derived.RangeFuncBound
import Derived.RangeFuncCalls
import Derived.RangeFuncLeaves
import Derived.Shelf.Abstract
import Derived.Shelf.RegionOpen
import Derived.OwnWalkIn
import Derived.TacticsInMore
import Derived.LoopNIn
import Derived.LoopIn
import Derived.Stop.RegionWithIn
import Derived.OrdersIn
/-
  Items in memory.
-/
namespace Go.Proofs.YtiblpcfkecalcaaDoor
open Go.Shelf Go.RowKit Go.Lib
set_option linter.unusedVariables false
set_option linter.unusedSimpArgs false

/-- Bytes at a slice; P: the blocks where they may lie. -/
structure ByV (w : World) (P : Nat → Prop) (p : Option Addr) (c : Nat) (l : Bs) : Prop where
  cap : l.length ≤ c
  big : c ≤ 9223372036854775807
  lies : BAt w p l.length l
  ok : ∀ a, p = some a → 0 < l.length → P a.block
theorem ByV.lt {w : World} {P : Nat → Prop} {p : Option Addr} {c : Nat} {l : Bs} (h : ByV w P p c l) {a : Addr} (ha : p = some a) (h0 : 0 < l.length) : a.block < w.heap.size ∧ a.spot = none := by
  obtain ⟨b, o, e, hc⟩ := h.lies h0
  rw [ha] at e
  cases e
  exact ⟨World.block_lt_of_cell? w ⟨b, o + 0, none⟩ (hc 0 h0), rfl⟩
theorem ByV.keep {w w' : World} {P : Nat → Prop} {p : Option Addr} {c : Nat} {l : Bs} (h : ByV w P p c l) (hb : ∀ g, P g → g < w.heap.size → w'.heap[g]? = w.heap[g]?) : ByV w' P p c l := by
  refine ⟨h.cap, h.big, fun h0 => ?_, h.ok⟩
  obtain ⟨b, o, e, hc⟩ := h.lies h0
  have hl := h.lt e h0
  exact ⟨b, o, e, fun i hi => by rw [← hc i hi]; exact World.cell?_of_block (w := w) (hb b (h.ok _ e h0) hl.1)⟩
theorem ByV.mono {w : World} {P Q : Nat → Prop} {p : Option Addr} {c : Nat} {l : Bs} (h : ByV w P p c l) (hPQ : ∀ g, P g → g < w.heap.size → Q g) : ByV w Q p c l :=
  ⟨h.cap, h.big, h.lies, fun a ha h0 => hPQ _ (h.ok a ha h0) (h.lt ha h0).1⟩
theorem ByV.nil (w : World) (P : Nat → Prop) : ByV w P none 0 [] := ⟨Nat.le_refl _, by omega, fun h => absurd h (by simp), fun a ha => by cases ha⟩
theorem ByV.drop {w : World} {P : Nat → Prop} {p : Option Addr} {c : Nat} {l : Bs} (h : ByV w P p c l) (j : Nat) (hj : j ≤ l.length) : ByV w P (if c = j then p else p.map (fun x => x.add j)) (c - j) (l.drop j) := by
  have hc := h.cap
  have hb := h.big
  refine ⟨by rw [List.length_drop]; omega, by omega, ?_, ?_⟩
  · rw [List.length_drop]; exact bytesAt_drop h.lies rfl c j hj hc
  · intro a ha h0
    rw [List.length_drop] at h0
    rw [if_neg (by omega)] at ha
    cases p with
    | none => cases ha
    | some q =>
      have h1 := h.ok q rfl (by omega)
      simp at ha
      subst ha
      unfold Addr.add
      split <;> exact h1
theorem ByV.take {w : World} {P : Nat → Prop} {p : Option Addr} {c : Nat} {l : Bs} (h : ByV w P p c l) (j : Nat) (hj : j ≤ l.length) : ByV w P p c (l.take j) := by
  have hc := h.cap
  have hb := h.big
  have hl : (l.take j).length = j := by rw [List.length_take]; omega
  refine ⟨by omega, hb, fun h0 => ?_, fun a ha h0 => h.ok a ha (by omega)⟩
  rw [hl] at h0 ⊢
  obtain ⟨b, o, e, hcl⟩ := h.lies (by omega)
  refine ⟨b, o, e, fun i hi => ?_⟩
  rw [hcl i (by omega)]
  simp [List.getD, List.getElem?_take, hi]
/-- What an item is by itself; q: where its kids lie. -/
def ItHd (w : World) (P : Nat → Prop) (cs : List Value) (i : It) (q : Option Addr) : Prop :=
  ∃ p c c', cs = [.int .u8 (i.kind : Int), .int .u64 (i.n : Int), .slice p i.b.length c, .slice q i.kids.length c'] ∧ i.kind < 256 ∧ i.n < 18446744073709551616 ∧ ByV w P p c i.b ∧ i.kids.length ≤ c' ∧ c' ≤ 9223372036854775807
/-- Kids in memory. -/
def KidsAt (R : List Value → It → Prop) (w : World) (P : Nat → Prop) (q : Option Addr) (kids : List It) : Prop :=
  ∀ (j : Nat) (k : It), kids[j]? = some k → ∃ b o, q = some ⟨b, o, none⟩ ∧ P b ∧ ∃ c0 c1 c2 c3, w.cell? ⟨b, o + j * 4, none⟩ = some c0 ∧ w.cell? ⟨b, o + j * 4 + 1, none⟩ = some c1 ∧ w.cell? ⟨b, o + j * 4 + 2, none⟩ = some c2 ∧ w.cell? ⟨b, o + j * 4 + 3, none⟩ = some c3 ∧ R [c0, c1, c2, c3] k
/-- An item's cells, and what it reaches in memory, so deep. -/
def ItOk (w : World) (P : Nat → Prop) : Nat → List Value → It → Prop
  | 0, cs, i => ∃ q, ItHd w P cs i q
  | d + 1, cs, i => ∃ q, ItHd w P cs i q ∧ KidsAt (ItOk w P d) w P q i.kids
theorem ItOk.head {w : World} {P : Nat → Prop} {d : Nat} {cs : List Value} {i : It} (h : ItOk w P d cs i) : ∃ q, ItHd w P cs i q := by
  cases d with
  | zero => exact h
  | succ d => obtain ⟨q, h1, _⟩ := h; exact ⟨q, h1⟩
theorem ItHd.keep {w w' : World} {P : Nat → Prop} {cs : List Value} {i : It} {q : Option Addr} (h : ItHd w P cs i q) (hb : ∀ g, P g → g < w.heap.size → w'.heap[g]? = w.heap[g]?) : ItHd w' P cs i q := by
  obtain ⟨p, c, c', h1, h2, h3, h4, h5, h6⟩ := h
  exact ⟨p, c, c', h1, h2, h3, h4.keep hb, h5, h6⟩
theorem ItHd.mono {w : World} {P Q : Nat → Prop} {cs : List Value} {i : It} {q : Option Addr} (h : ItHd w P cs i q) (hPQ : ∀ g, P g → g < w.heap.size → Q g) : ItHd w Q cs i q := by
  obtain ⟨p, c, c', h1, h2, h3, h4, h5, h6⟩ := h
  exact ⟨p, c, c', h1, h2, h3, h4.mono hPQ, h5, h6⟩
theorem ItOk.keep {w w' : World} {P : Nat → Prop} (hb : ∀ g, P g → g < w.heap.size → w'.heap[g]? = w.heap[g]?) : ∀ {d : Nat} {cs : List Value} {i : It}, ItOk w P d cs i → ItOk w' P d cs i
  | 0, cs, i, ⟨q, h⟩ => ⟨q, h.keep hb⟩
  | d + 1, cs, i, ⟨q, h, hk⟩ => ⟨q, h.keep hb, fun j k hj => by
    obtain ⟨b, o, e, hp, c0, c1, c2, c3, k0, k1, k2, k3, hr⟩ := hk j k hj
    have hlt := World.block_lt_of_cell? w ⟨b, o + j * 4, none⟩ k0
    have hc : ∀ x v, w.cell? ⟨b, x, none⟩ = some v → w'.cell? ⟨b, x, none⟩ = some v := fun x v hv => by rw [← hv]; exact World.cell?_of_block (w := w) (hb b hp hlt)
    exact ⟨b, o, e, hp, c0, c1, c2, c3, hc _ _ k0, hc _ _ k1, hc _ _ k2, hc _ _ k3, ItOk.keep hb hr⟩⟩
theorem ItOk.mono {w : World} {P Q : Nat → Prop} (hPQ : ∀ g, P g → g < w.heap.size → Q g) : ∀ {d : Nat} {cs : List Value} {i : It}, ItOk w P d cs i → ItOk w Q d cs i
  | 0, cs, i, ⟨q, h⟩ => ⟨q, h.mono hPQ⟩
  | d + 1, cs, i, ⟨q, h, hk⟩ => ⟨q, h.mono hPQ, fun j k hj => by
    obtain ⟨b, o, e, hp, c0, c1, c2, c3, k0, k1, k2, k3, hr⟩ := hk j k hj
    exact ⟨b, o, e, hPQ b hp (World.block_lt_of_cell? w ⟨b, o + j * 4, none⟩ k0), c0, c1, c2, c3, k0, k1, k2, k3, ItOk.mono hPQ hr⟩⟩
theorem ItOk.below {w w' : World} {P : Nat → Prop} {d : Nat} {cs : List Value} {i : It} (h : ItOk w P d cs i) (hb : Below w.heap.size w w') : ItOk w' P d cs i := h.keep (fun g _ hg => hb.block g hg)
/-- An item without kids. -/
theorem ItOk.leaf {w : World} {P : Nat → Prop} (d : Nat) {p : Option Addr} {c : Nat} {i : It} (hk : i.kind < 256) (hn : i.n < 18446744073709551616) (hb : ByV w P p c i.b) (h0 : i.kids = []) : ItOk w P d [.int .u8 (i.kind : Int), .int .u64 (i.n : Int), .slice p i.b.length c, .slice none 0 0] i := by
  have hh : ItHd w P [.int .u8 (i.kind : Int), .int .u64 (i.n : Int), .slice p i.b.length c, .slice none 0 0] i none := ⟨p, c, 0, by rw [h0]; rfl, hk, hn, hb, by rw [h0]; simp, by omega⟩
  cases d with
  | zero => exact ⟨none, hh⟩
  | succ d => exact ⟨none, hh, fun j k hj => by rw [h0] at hj; simp at hj⟩
theorem ItOk.four {w : World} {P : Nat → Prop} {d : Nat} {cs : List Value} {i : It} (h : ItOk w P d cs i) : ∃ c0 c1 c2 c3, cs = [c0, c1, c2, c3] := by
  obtain ⟨q, p, c, c', e, _⟩ := h.head
  exact ⟨_, _, _, _, e⟩
theorem flatten_get : ∀ (css : List (List Value)) (i j : Nat) (cs : List Value), (∀ c ∈ css, c.length = 4) → css[i]? = some cs → j < 4 → css.flatten[i * 4 + j]? = cs[j]?
  | [], i, j, cs, _, hi, _ => by simp at hi
  | x :: css, 0, j, cs, h4, hi, hj => by
    simp at hi; subst hi
    rw [Nat.zero_mul, Nat.zero_add, List.flatten_cons, List.getElem?_append_left (by rw [h4 x (by simp)]; exact hj)]
  | x :: css, i + 1, j, cs, h4, hi, hj => by
    simp at hi
    have hx := h4 x (by simp)
    rw [List.flatten_cons, List.getElem?_append_right (by omega), hx, show (i + 1) * 4 + j - 4 = i * 4 + j by omega]
    exact flatten_get css i j cs (fun c hc => h4 c (by simp [hc])) hi hj
/-- So deep an item is at most. -/
def deepC : Nat → It → Prop
  | 0, i => i.kids = []
  | d + 1, i => ∀ k ∈ i.kids, deepC d k
end Go.Proofs.YtiblpcfkecalcaaDoor
/-
  Bytes of the call's own and bytes that came in: append, bytes.Clone, as a string.
-/
namespace Go.Proofs.YtiblpcfkecalcaaDoor
open Go.Shelf Go.RowKit
set_option linter.unusedVariables false
set_option linter.unusedSimpArgs false


theorem infoU8 : (Tryd.prog.info? 5).map (fun i => (i.zero, i.size, i.bytes)) = some (some (.int .u8 0), 1, 1) := by kernel_rfl
theorem byteCells_len (l : Bs) : (Lib.byteCells l).length = l.length := by simp [Lib.byteCells]
theorem byteCells_app (a b : Bs) : Lib.byteCells a ++ Lib.byteCells b = Lib.byteCells (a ++ b) := by simp [Lib.byteCells]
theorem own_byv {w : World} {base : Nat} {v : Value} {l : Bs} (h : w.ownsRow base 5 1 v l.length (Lib.byteCells l)) : ∃ p c, v = .slice p l.length c ∧ ByV w (fun b => base ≤ b) p c l := by
  rcases h.2 with ⟨e, h0⟩ | ⟨g, cap, cur, e, hb, hr, h1, h2, _⟩
  · have : l = [] := List.eq_nil_of_length_eq_zero h0
    subst this
    exact ⟨none, 0, e, ByV.nil w _⟩
  · refine ⟨some ⟨g, 0, none⟩, cap, e, ⟨h1, by unfold maxLen at h2; omega, fun _ => ⟨g, 0, rfl, fun i hi => ?_⟩, fun a ha _ => by cases ha; exact hb⟩⟩
    rw [e] at h
    rw [Nat.zero_add, owns_cell h i (by omega)]
    unfold Lib.byteCells
    rw [List.getElem?_map, List.getElem?_eq_getElem hi]
    simp [List.getD, hi]
/-- Bytes appended to bytes of the call's own. -/
theorem wpList_append_bat {w : World} {ops : Array Oper} {rest : List Oper} {o : Oper} {a : Act} {Q : Exit → Act → World → Prop} (hgd : o.guard = none) (s x : Operand)
    (ho : o.op = .call { callee := .builtin .append, args := #[s, x], argTypes := #[22, 22] }) (base : Nat) (v : Value) (hs : a.eval s = v) (old : Bs) (m : Nat) (hm : old.length = m) (hown : w.ownsRow base 5 1 v m (Lib.byteCells old)) (ad : Addr) (n c : Nat) (l : Bs) (hn : l.length = n) (hx : a.eval x = .slice (some ad) n c) (hr : BAt w (some ad) n l) (hlen : m + n ≤ 100000000) (hbase : base ≤ w.heap.size)
    (h : ∀ v' w', w'.ownsRow base 5 1 v' (m + n) (Lib.byteCells (old ++ l)) → w.grownBy w' v.ownBlock → wpList Tryd.prog ops Q rest (a.put o.dst v') w') : wpList Tryd.prog ops Q (o :: rest) a w := by
  obtain ⟨i0, hi0, hz0, hz1, hz2⟩ := info_parts infoU8
  refine wpList_append_own (w := w) hgd s x _ ho base 5 i0 (.int .u8 0) 1 1 Tryd.underlying22 hi0 hz0 hz1 hz2 rfl (by decide) v m (Lib.byteCells old) hs hown ad n c (Lib.byteCells l) hx (by rw [byteCells_len, hn, Nat.mul_one]) ?_ (by intro u hu; simp only [Lib.byteCells, List.mem_map] at hu; obtain ⟨x, _, rfl⟩ := hu; rfl) (by unfold maxLen; omega) (by omega) hbase ?_
  · intro j u hj
    obtain ⟨hj1, hj2⟩ := List.getElem?_eq_some_iff.1 hj
    have hj3 : j < l.length := by simpa [Lib.byteCells] using hj1
    obtain ⟨b, f, e, hc⟩ := hr (by omega)
    cases e
    rw [Addr.add_mid, hc j (by omega), ← hj2]
    simp [Lib.byteCells, List.getD, hj3]
  · intro v' w' hown' hgr _
    rw [byteCells_app] at hown'
    exact h v' w' hown' hgr
set_option maxRecDepth 100000 in
set_option maxHeartbeats 1000000 in
/-- bytes.Clone. -/
theorem clone_any (p : Option Addr) (n c : Nat) (l : Bs) (w : World) (hl : l.length = n) (h : BAt w p n l) (hn : n ≤ 1000000) :
    Calls Tryd.prog 38 #[.slice p n c] w fun e w' => Below w.heap.size w w' ∧ ∃ p' c', e = .returned (.slice p' n c') ∧ ByV w' (fun b => w.heap.size ≤ b) p' c' l := by
  have heq := fun (q : Option Addr) (m d : Nat) (W : World) => Lib.run_eql_slice_nil (P := Tryd.prog) W 22 5 q m d 0 0 Tryd.underlying22
  cases p with
  | none =>
    have h0 : n = 0 := by
      rcases Nat.eq_zero_or_pos n with h1 | h1
      · exact h1
      · obtain ⟨b, o, e, _⟩ := h h1
        cases e
    subst h0
    have : l = [] := List.eq_nil_of_length_eq_zero hl
    subst this
    have hq := heq none 0 c
    go_enter Tryd.func38, Tryd.ntmps38
    go_wp2
    go_ret
    exact ⟨Below.refl _ _, none, 0, rfl, ByV.nil w _⟩
  | some ad =>
    have hq := heq (some ad) n c
    have hown0 : (w.alloc (.cells #[] 5)).ownsRow w.heap.size 5 1 (.slice (some ⟨w.heap.size, 0, none⟩) 0 0) 0 [] := World.ownsRow_lit w #[] 0 (Nat.le_refl _) (Nat.zero_le _) (by simp)
    have hb0 : Below w.heap.size w (w.alloc (.cells #[] 5)) := (Below.refl _ _).alloc (Nat.le_refl _) _
    go_enter Tryd.func38, Tryd.ntmps38
    go_wp2_with (at_builtin; refine wpList_append_bat rfl (.tmp 5) (.tmp 6) rfl w.heap.size (.slice (some ⟨w.heap.size, 0, none⟩) 0 0) rfl [] 0 rfl hown0 ad n c l hl rfl (h.below hb0) (by omega) hb0.size ?_; intro v1 w1 o1 gr1)
    go_ret
    have hsz := alloc_sz w (.cells #[] 5)
    subst hl
    rw [Nat.zero_add, List.nil_append] at o1
    obtain ⟨p', c', e, hv⟩ := own_byv o1
    refine ⟨⟨gr1.os.trans hb0.os, gr1.tape.trans hb0.tape, gr1.output.trans hb0.output, Nat.le_trans hb0.size gr1.size, fun k hk => (gr1.block k (by omega) (fun e => by injection e with e; have e' : k = w.heap.size := e; omega)).trans (hb0.block k hk)⟩, p', c', by rw [← e]; rfl, hv⟩
theorem run_append_nilc {w : World} (base : Nat) (ty : TypeId) (v : Value) (n c : Nat) (xs : List Value) (hown : w.ownsRow base 5 1 v n xs) : (Builtin.append_ #[22, 22] ty #[v, .slice none 0 c]).run Tryd.prog w = .ok v w := by
  obtain ⟨i0, hi0, hz0, hz1, hz2⟩ := info_parts infoU8
  rcases hown.2 with ⟨rfl, rfl⟩ | ⟨g, cap, cur, rfl, _, _, hnc, _⟩
  · simp [Builtin.append_, run_underlying Tryd.underlying22, sizeOf, typeInfo, hi0, Builtin.lenOf, Builtin.firstCells]
  · simp [Builtin.append_, run_underlying Tryd.underlying22, sizeOf, typeInfo, hi0, Builtin.lenOf, Builtin.firstCells, hnc, storeCells]
theorem owns_slice {w : World} {base : Nat} {e : TypeId} {s : Nat} {v : Value} {n : Nat} {xs : List Value} (h : w.ownsRow base e s v n xs) : ∃ p c, v = .slice p n c := by
  rcases h.2 with ⟨rfl, rfl⟩ | ⟨g, cap, cur, rfl, _⟩
  · exact ⟨_, _, rfl⟩
  · exact ⟨_, _, rfl⟩
/-- Bytes appended to bytes of the call's own; where they lie then. -/
theorem wp_append_wt {w : World} {o : Oper} {a : Act} {K : Act → World → Prop} {Q : Exit → Act → World → Prop} (s x : Operand)
    (ho : o.op = .call { callee := .builtin .append, args := #[s, x], argTypes := #[22, 22] }) (base : Nat) (v : Value) (hs : a.eval s = v) (old : Bs) (m : Nat) (hm : old.length = m) (hown : w.ownsRow base 5 1 v m (Lib.byteCells old)) (p : Option Addr) (n c : Nat) (l : Bs) (hn : l.length = n) (hx : a.eval x = .slice p n c) (hr : BAt w p n l) (hlen : m + n ≤ 100000000) (hbase : base ≤ w.heap.size)
    (h : ∀ v' w', w'.ownsRow base 5 1 v' (m + n) (Lib.byteCells (old ++ l)) → w.grownBy w' v.ownBlock → (v'.ownBlock = v.ownBlock ∨ v'.ownBlock = some w.heap.size) → K (a.put o.dst v') w') : o.wp Tryd.prog a w K Q := by
  obtain ⟨i0, hi0, hz0, hz1, hz2⟩ := info_parts infoU8
  cases p with
  | none =>
    have h0 : n = 0 := by
      rcases Nat.eq_zero_or_pos n with h1 | h1
      · exact h1
      · obtain ⟨b, o, e, _⟩ := hr h1
        cases e
    subst h0
    have : l = [] := List.eq_nil_of_length_eq_zero hn
    subst this
    have hrun := run_append_nilc (w := w) base o.type v m c _ hown
    unfold Oper.wp
    simp [execOp, ho, resolve, invoke, builtin, hs, hx, hrun, Result.andThen]
    exact h v w (by simpa using hown) ⟨rfl, rfl, rfl, Nat.le_refl _, fun _ _ _ => rfl⟩ (.inl rfl)
  | some ad =>
    obtain ⟨v', w', hrun, h2, h3, _, h5⟩ := run_append_own_at (P := Tryd.prog) w base 22 o.type 5 i0 (.int .u8 0) 1 1 Tryd.underlying22 hi0 hz0 hz1 hz2 rfl (by decide) v m (Lib.byteCells old) hown ad n c (Lib.byteCells l) (by rw [byteCells_len, hn, Nat.mul_one]) (by
      intro j u hj
      obtain ⟨hj1, hj2⟩ := List.getElem?_eq_some_iff.1 hj
      have hj3 : j < l.length := by simpa [Lib.byteCells] using hj1
      obtain ⟨b, f, e, hc⟩ := hr (by omega)
      cases e
      rw [Addr.add_mid, hc j (by omega), ← hj2]
      simp [Lib.byteCells, List.getD, hj3]) (by intro u hu; simp only [Lib.byteCells, List.mem_map] at hu; obtain ⟨x, _, rfl⟩ := hu; rfl) (by unfold maxLen; omega) (by omega) hbase
    rw [byteCells_app] at h2
    unfold Oper.wp
    simp only [execOp, ho, resolve, invoke, builtin, Sem.run_bind, Sem.run_pure, Result.andThen_ok, List.map_toArray, List.map_cons, List.map_nil, hs, hx, hrun]
    exact h v' w' h2 h3 h5
theorem wpList_append_wt {w : World} {ops : Array Oper} {rest : List Oper} {o : Oper} {a : Act} {Q : Exit → Act → World → Prop} (hgd : o.guard = none) (s x : Operand)
    (ho : o.op = .call { callee := .builtin .append, args := #[s, x], argTypes := #[22, 22] }) (base : Nat) (v : Value) (hs : a.eval s = v) (old : Bs) (m : Nat) (hm : old.length = m) (hown : w.ownsRow base 5 1 v m (Lib.byteCells old)) (p : Option Addr) (n c : Nat) (l : Bs) (hn : l.length = n) (hx : a.eval x = .slice p n c) (hr : BAt w p n l) (hlen : m + n ≤ 100000000) (hbase : base ≤ w.heap.size)
    (h : ∀ v' w', w'.ownsRow base 5 1 v' (m + n) (Lib.byteCells (old ++ l)) → w.grownBy w' v.ownBlock → (v'.ownBlock = v.ownBlock ∨ v'.ownBlock = some w.heap.size) → wpList Tryd.prog ops Q rest (a.put o.dst v') w') : wpList Tryd.prog ops Q (o :: rest) a w :=
  wpList_plain hgd fun _ hK => wp_append_wt s x ho base v hs old m hm hown p n c l hn hx hr hlen hbase fun v' w' h1 h2 h3 => hK _ _ (h v' w' h1 h2 h3)
/-- The same in a region that draws. -/
theorem step_append_wt {w : World} {ops : Array Oper} {o : Oper} {a : Act} {K : Act → World → Prop} {Q : Exit → Act → World → Prop} {E : Prop} (hw : Region.wanted o (yielded ops a.tmps) = true) (s x : Operand)
    (ho : o.op = .call { callee := .builtin .append, args := #[s, x], argTypes := #[22, 22] }) (base : Nat) (v : Value) (hs : a.eval s = v) (old : Bs) (m : Nat) (hm : old.length = m) (hown : w.ownsRow base 5 1 v m (Lib.byteCells old)) (p : Option Addr) (n c : Nat) (l : Bs) (hn : l.length = n) (hx : a.eval x = .slice p n c) (hr : BAt w p n l) (hlen : m + n ≤ 100000000) (hbase : base ≤ w.heap.size)
    (h : ∀ v' w', w'.ownsRow base 5 1 v' (m + n) (Lib.byteCells (old ++ l)) → w.grownBy w' v.ownBlock → (v'.ownBlock = v.ownBlock ∨ v'.ownBlock = some w.heap.size) → K (a.put o.dst v') w') : if Region.wanted o (yielded ops a.tmps) = true then Oper.wp Tryd.prog o a w K Q else E := by
  rw [if_pos hw]
  exact wp_append_wt s x ho base v hs old m hm hown p n c l hn hx hr hlen hbase h
/-- Bytes as a string. -/
theorem conv_bat {w : World} {p : Option Addr} {n c : Nat} {l : Bs} (h : BAt w p n l) (hl : l.length = n) : (convert 22 9 (.slice p n c)).run Tryd.prog w = .ok (.string ⟨l.toArray⟩) w := by
  have h2 := Lib.BytesIn.convert (P := Tryd.prog) (bytesAt_in h hl) (by simp [hl]) c 22 5 9 Tryd.underlying22 Tryd.underlying5 Tryd.underlying9
  rw [h2, show strOfNums (l.map fun b => (b.toNat : Int)) = ⟨l.toArray⟩ from by
    apply ByteArray.ext
    apply Array.toList_inj.1
    rw [← Lib.toList_data, Lib.strOfNums_toList, bytesOf_map]]

theorem own_conv {w : World} {base n : Nat} {p : Option Addr} {c : Nat} {l : Bs} (h : w.ownsRow base 5 1 (.slice p n c) n (Lib.byteCells l)) (hl : l.length = n) : (convert 22 9 (.slice p n c)).run Tryd.prog w = .ok (.string ⟨l.toArray⟩) w := by
  subst hl
  obtain ⟨p', c', e, hv⟩ := own_byv h
  cases e
  exact conv_bat hv.lies rfl
/-- A slice of numbers that came in. -/
def CameJ (k : IntKind) (w : World) (a : Option Addr) (len cap : Nat) (zs : List Int) : Prop :=
  (a = none ∧ len = 0 ∧ cap = 0 ∧ zs = []) ∨
  ∃ x, a = some x ∧ len ≤ cap ∧ cap ≤ maxLen ∧ zs.length = cap ∧ (∀ i, i < zs.length → w.cell? (x.add i) = some (.int k (zs.getD i 0))) ∧ ∀ n ∈ zs, (Lit.int k n).wf = true
theorem byte_wf {x : Int} (h : (Lit.int .u8 x).wf = true) : 0 ≤ x ∧ x < 256 := by
  simp [Lit.wf, IntKind.min, IntKind.max, IntKind.signed, IntKind.bits] at h
  exact ⟨by omega, by omega⟩
theorem CameJ.le {k : IntKind} {w : World} {a : Option Addr} {len cap : Nat} {zs : List Int} (h : CameJ k w a len cap zs) : len ≤ maxLen := by
  rcases h with ⟨_, h1, _⟩ | ⟨x, _, h1, h2, _⟩
  · rw [h1]; exact Nat.zero_le _
  · exact Nat.le_trans h1 h2
/-- The bytes that came in. -/
theorem CameJ.byv {w : World} {a : Option Addr} {len cap : Nat} {zs : List Int} (h : CameJ .u8 w a len cap zs) : ∃ bs : Bs, bs.length = len ∧ ByV w (fun b => b < w.heap.size) a cap bs := by
  rcases h with ⟨rfl, rfl, rfl, rfl⟩ | ⟨x, rfl, h1, h2, h3, h4, h5⟩
  · exact ⟨[], rfl, ByV.nil w _⟩
  · obtain ⟨b, off, spot⟩ := x
    have hl : ((zs.take len).map fun z => UInt8.ofNat z.toNat).length = len := by simp; omega
    refine ⟨(zs.take len).map fun z => UInt8.ofNat z.toNat, hl, by rw [hl]; exact h1, by unfold maxLen at h2; omega, fun h0 => ?_, fun y hy h0 => ?_⟩
    · rw [hl] at h0
      have hsp : spot = none := by
        have := h4 0 (by omega)
        simpa [Addr.add] using World.cell?_spot this
      subst hsp
      refine ⟨b, off, rfl, fun i hi => ?_⟩
      rw [hl] at hi
      have hc := h4 i (by omega)
      rw [Addr.add_mid] at hc
      rw [hc]
      have hiz : i < zs.length := by omega
      have hw := byte_wf (h5 zs[i] (List.getElem_mem hiz))
      have e1 : zs.getD i 0 = zs[i] := by simp [List.getD, hiz]
      have e2 : ((zs.take len).map fun z => UInt8.ofNat z.toNat).getD i 0 = UInt8.ofNat (zs[i]).toNat := by
        simp [List.getD, List.getElem?_take, hi, List.getElem?_eq_getElem hiz]
      rw [e1, e2]
      congr 2
      simp [UInt8.toNat_ofNat']
      omega
    · cases hy
      rw [hl] at h0
      have hc := h4 0 (by omega)
      have hsp : spot = none := by simpa [Addr.add] using World.cell?_spot hc
      subst hsp
      rw [Addr.add_mid] at hc
      exact World.block_lt_of_cell? w _ hc

theorem alloc_le (w : World) (o : Obj) : w.heap.size ≤ (w.alloc o).heap.size := by rw [alloc_sz]; omega
/-- Bytes as cells. -/
def u8sC (l : Bs) : Array Value := (l.map fun b => Value.int .u8 (b.toNat : Int)).toArray
theorem byv_lit (W : World) (l : Bs) (hl : l.length ≤ 1000) : ByV (W.alloc (.cells (u8sC l) 5)) (fun b => b < (W.alloc (.cells (u8sC l) 5)).heap.size) (some ⟨W.heap.size, 0, none⟩) l.length l := by
  refine ⟨Nat.le_refl _, by omega, fun _ => ⟨W.heap.size, 0, rfl, fun i hi => ?_⟩, fun a ha _ => by cases ha; rw [alloc_sz]; show W.heap.size < W.heap.size + 1; omega⟩
  rw [Nat.zero_add, cell_of_row _ W.heap.size i _ _ _ (heap_alloc_new W _)]
  simp [u8sC, List.getD, hi]
theorem below_drews {B : Nat} {a w : World} (h : Below B a w) : ∀ q, Below B a (w.drewN q)
  | 0 => h
  | q + 1 => (below_drews h q).drew

/-- Bytes as a number, the greatest first. -/
def bv (l : Bs) : Nat := l.foldl (fun a c => a * 256 + c.toNat) 0
theorem bv_snoc (l : Bs) (c : UInt8) : bv (l ++ [c]) = bv l * 256 + c.toNat := by simp [bv]
theorem fold_lt : ∀ (l : Bs) (a : Nat), l.foldl (fun a c => a * 256 + c.toNat) a < (a + 1) * 256 ^ l.length
  | [], a => by simp
  | c :: l, a => by
    have h := fold_lt l (a * 256 + c.toNat)
    have hc := c.toNat_lt
    rw [List.foldl_cons, List.length_cons, Nat.pow_succ]
    refine Nat.lt_of_lt_of_le h ?_
    rw [Nat.mul_comm (256 ^ l.length) 256, ← Nat.mul_assoc]
    exact Nat.mul_le_mul_right _ (by omega)
theorem bv_lt (l : Bs) : bv l < 256 ^ l.length := by
  have := fold_lt l 0
  simpa [bv] using this
theorem take_snoc {l : Bs} {k : Nat} {c : UInt8} (h : l[k]? = some c) : l.take (k + 1) = l.take k ++ [c] := by
  rw [List.take_add_one, h]
  rfl

end Go.Proofs.YtiblpcfkecalcaaDoor
/-
  A range over a function whose elements lie in new memory.
-/
namespace Go.Proofs.YtiblpcfkecalcaaDoor
open Go.Shelf Go.RowKit
set_option linter.unusedVariables false
set_option linter.unusedSimpArgs false

/-- A range over a function that yields elements in new memory; each round may make memory of its own. -/
theorem range_new {α : Type} {P : Program} {n : Nat} {g : Operand} {ps : Array Tmp} {assign body : Code} {Q : Exit → Act → World → Prop} {a : Act} {w : World} {gf : Nat} {lb : Array Value} (hn : 1 ≤ n) (Gd : List α → α → Prop)
    (hg : a.eval g = .func (.func gf) #[] lb) (eg : ∀ args w, (callFunc gf args).run P w = .ok (.enter gf args) w)
    (E : α → Array Value) (hps : ∀ x, (E x).size = ps.size) (Y : Nat → α → World → Prop) (S Sp : List α → Prop) (I : List α → World → Prop) (Ix : Code → List α → World → Prop)
    (hit : ∀ (l : Nat) (r : Loop) (J Jx : List α → World → Prop), (∀ pre W, J pre W → I pre W) → (∀ pre W W', J pre W → Below W.heap.size W W' → J pre W') →
      (∀ pre x W0 W1, J pre W0 → Gd pre x → Below W0.heap.size W0 W1 → Y W0.heap.size x W1 → YieldAt Fence.wide (n - 1 - 1) P l (E x) W1 fun e W' => (e = .returned (.bool true) ∧ J (pre ++ [x]) W') ∨ (e = .returned (.bool false) ∧ Jx (pre ++ [x]) W')) →
      J [] ((w.alloc (.deferred (some []))).alloc (.loop r)) →
      CallsIn Fence.wide (n - 1) P gf (#[.func (.yield l) #[] #[]] ++ lb) ((w.alloc (.deferred (some []))).alloc (.loop r)) fun e W' => (∃ v, e = .returned v) ∧ ((∃ xs, S xs ∧ J xs W') ∨ (∃ pre, Sp pre ∧ Jx pre W')))
    (hIb : ∀ pre W W', I pre W → Below W.heap.size W W' → I pre W')
    (hIp : ∀ pre W r o o', I pre W → w.heap.size ≤ r → W.heap[r]? = some o → o.isCells = false → I pre (W.putObj r o'))
    (hXp : ∀ c pre W r o o', Ix c pre W → w.heap.size ≤ r → W.heap[r]? = some o → o.isCells = false → Ix c pre (W.putObj r o'))
    (h0 : I [] w)
    (hround : ∀ (l : Nat) (r : Loop) (pre : List α) (x : α) (W0 W : World), Gd pre x → w.heap.size ≤ l → l < W0.heap.size → W.heap[l]? = some (.loop r) → I pre W0 → Below W0.heap.size W0 W → I pre W → Y W0.heap.size x W →
      assign.wpIn (Fence.wide.inRound l) (n - 1 - 1) P (Exit.then (fun a1 W1 => Below W.heap.size W W1 ∧ ∀ o', body.wpIn (Fence.wide.inRound l) (n - 1 - 1) P (ownPostG w.heap.size (fun _ _ => True) I Ix (pre ++ [x]) (W1.putObj l o')) a1 (W1.putObj l o')) (fun _ _ _ => False))
        { tmps := (ps.zip (E x)).foldl (fun t (p, v) => t.setIfInBounds p v) a.tmps, defers := [] } W)
    (hdone : ∀ (D : Nat) (xs : List α) (W : World), w.heap.size ≤ D → S xs → I xs W → W.heap[D]? = some (.deferred (some [])) → Q .normal { a with defers := { target := .collected D, args := #[] } :: a.defers } W)
    (hstop : ∀ (D : Nat) (c : Code) (pre : List α) (W : World), w.heap.size ≤ D → Sp pre → Ix c pre W → W.heap[D]? = some (.deferred (some [])) → c.wpIn Fence.wide n P Q { a with defers := { target := .collected D, args := #[] } :: a.defers } W) :
    (Code.rangeFunc g ps assign body).wpIn Fence.wide n P Q a w := by
  refine wpIn_rangeFunc ?_
  intro fn _
  obtain ⟨st, hst⟩ : ∃ st : LoopState → Option Code → Loop, st = fun s pe => { state := s, pending := pe, fn := fn, tmps := a.tmps, params := ps, assign := assign, body := body, defers := w.heap.size } := ⟨_, rfl⟩
  have hd1 : ((w.alloc (.deferred (some []))).alloc (.loop (st .ready none))).heap[w.heap.size]? = some (.deferred (some [])) := (Below.heap_alloc _ _ _ (by simp)).trans (World.alloc_heap_new w _)
  have hl1 : ((w.alloc (.deferred (some []))).alloc (.loop (st .ready none))).heap[w.heap.size + 1]? = some (.loop (st .ready none)) := by
    have := World.alloc_heap_new (w.alloc (.deferred (some []))) (.loop (st .ready none))
    rwa [World.size_alloc] at this
  have hb1 : Below w.heap.size w ((w.alloc (.deferred (some []))).alloc (.loop (st .ready none))) := ((Below.refl _ w).alloc (Nat.le_refl _) _).alloc (by simp) _
  refine ⟨w.heap.size + 1, [{ target := .collected w.heap.size, args := #[] }], (w.alloc (.deferred (some []))).alloc (.loop (st .ready none)), { target := .fn (.func gf) lb, args := #[.func (.yield (w.heap.size + 1)) #[] #[]] }, (w.alloc (.deferred (some []))).alloc (.loop (st .ready none)), gf, #[.func (.yield (w.heap.size + 1)) #[] #[]] ++ lb, (w.alloc (.deferred (some []))).alloc (.loop (st .ready none)), by rw [hst]; exact run_enterLoop_outer _ _ _ _ _, by simp only [resolve, hg]; simp [go_sem], fun _ _ => trivial, by simp [invoke, go_sem, eg], fun _ => hn, ?_⟩
  refine (hit (w.heap.size + 1) (st .ready none)
    (fun pre W => I pre W ∧ W.heap[w.heap.size + 1]? = some (.loop (st .ready none)) ∧ W.heap[w.heap.size]? = some (.deferred (some [])))
    (fun pre W => ∃ c, Ix c pre W ∧ W.heap[w.heap.size + 1]? = some (.loop (st .done (some c))) ∧ W.heap[w.heap.size]? = some (.deferred (some [])))
    (fun _ _ h => h.1)
    (fun pre W W' h hb => ⟨hIb pre W W' h.1 hb, (hb.block _ (Array.getElem?_eq_some_iff.1 h.2.1).1).trans h.2.1, (hb.block _ (Array.getElem?_eq_some_iff.1 h.2.2).1).trans h.2.2⟩) ?_ ⟨hIb _ _ _ h0 hb1, hl1, hd1⟩).mono ?_
  · rintro pre x W0 W ⟨hi, hl0, hd0⟩ hlen hb hy
    have hlt0 : w.heap.size + 1 < W0.heap.size := (Array.getElem?_eq_some_iff.1 hl0).1
    have hl : W.heap[w.heap.size + 1]? = some (.loop (st .ready none)) := (hb.block _ hlt0).trans hl0
    have hd : W.heap[w.heap.size]? = some (.deferred (some [])) := (hb.block _ (by omega)).trans hd0
    have hlt : w.heap.size + 1 < W.heap.size := (Array.getElem?_eq_some_iff.1 hl).1
    have hyr := run_yield (P := P) (args := E x) hl (by rw [hst]; exact hps x)
    rw [hst] at hyr
    refine ⟨fn, _, assign, body, hyr, roundIn_of_wpIn trivial ?_⟩
    refine wpIn_mono (hround (w.heap.size + 1) (st .ready none) pre x W0 W hlen (by omega) hlt0 hl hi hb (hIb _ _ _ hi hb) hy) ?_
    rintro e a1 W1 hp
    cases e with
    | normal =>
      obtain ⟨hb1, hbody⟩ := hp
      have hl2 : W1.heap[w.heap.size + 1]? = some (.loop (st .ready none)) := (hb1.block _ hlt).trans hl
      have hd2 : W1.heap[w.heap.size]? = some (.deferred (some [])) := (hb1.block _ (by omega)).trans hd
      have hlt2 : w.heap.size + 1 < W1.heap.size := (Array.getElem?_eq_some_iff.1 hl2).1
      refine ⟨_, run_beginRound hl2 (by rw [hst]), ?_⟩
      refine wpIn_mono (hbody _) ?_
      have hl3 : (W1.putObj (w.heap.size + 1) (.loop { st .ready none with state := .busy })).heap[w.heap.size + 1]? = some (.loop { st .ready none with state := .busy }) := World.putObj_heap_same hlt2
      have hd3 : (W1.putObj (w.heap.size + 1) (.loop { st .ready none with state := .busy })).heap[w.heap.size]? = some (.deferred (some [])) := (World.putObj_heap_other (by omega)).trans hd2
      have fin : ∀ (jump : Option Code) (W3 : World), KeepsFrom w.heap.size (W1.putObj (w.heap.size + 1) (.loop { st .ready none with state := .busy })) W3 →
          (Instr.endRound (w.heap.size + 1) jump).run P W3 = .ok (.bool jump.isNone) (W3.putObj (w.heap.size + 1) (.loop (st (if jump.isNone then .ready else .done) jump))) ∧
          W3.heap[w.heap.size + 1]? = some (.loop { st .ready none with state := .busy }) ∧
          (W3.putObj (w.heap.size + 1) (.loop (st (if jump.isNone then .ready else .done) jump))).heap[w.heap.size + 1]? = some (.loop (st (if jump.isNone then .ready else .done) jump)) ∧
          (W3.putObj (w.heap.size + 1) (.loop (st (if jump.isNone then .ready else .done) jump))).heap[w.heap.size]? = some (.deferred (some [])) := fun jump W3 hk3 => by
        have h3 := hk3.same _ _ (by omega) hl3 rfl
        have := run_endRound (P := P) jump h3
        rw [hst] at this ⊢
        exact ⟨this, by rw [hst] at h3; exact h3, World.putObj_heap_same (Array.getElem?_eq_some_iff.1 h3).1, (World.putObj_heap_other (by omega)).trans (hk3.same _ _ (Nat.le_refl _) hd3 rfl)⟩
      rintro e a3 W3 hp
      cases e with
      | normal =>
        obtain ⟨hk3, _, hi3⟩ := hp
        obtain ⟨hr, h3, h4, h5⟩ := fin none W3 hk3
        exact ⟨_, _, hr, .inl ⟨rfl, hIp _ _ _ _ _ hi3 (by omega) h3 rfl, h4, h5⟩⟩
      | ret =>
        obtain ⟨hk3, hi3⟩ := hp
        obtain ⟨hr, h3, h4, h5⟩ := fin (some .ret) W3 hk3
        exact ⟨_, _, hr, .inr ⟨rfl, .ret, hXp _ _ _ _ _ _ hi3 (by omega) h3 rfl, h4, h5⟩⟩
      | exit id =>
        obtain ⟨hk3, hi3⟩ := hp
        obtain ⟨hr, h3, h4, h5⟩ := fin (some (.exit id)) W3 hk3
        exact ⟨_, _, hr, .inr ⟨rfl, .exit id, hXp _ _ _ _ _ _ hi3 (by omega) h3 rfl, h4, h5⟩⟩
      | goto t =>
        obtain ⟨hk3, hi3⟩ := hp
        obtain ⟨hr, h3, h4, h5⟩ := fin (some (.goto t)) W3 hk3
        exact ⟨_, _, hr, .inr ⟨rfl, .goto t, hXp _ _ _ _ _ _ hi3 (by omega) h3 rfl, h4, h5⟩⟩
      | panic ch => exact hp.elim
      | outgrown => exact hp.elim
    | ret => exact hp.elim
    | exit id => exact hp.elim
    | goto t => exact hp.elim
    | panic ch => exact hp.elim
    | outgrown => exact hp.elim
  · rintro e W2 ⟨⟨v, rfl⟩, (⟨xs, hS, hi, hl, hk⟩ | ⟨pre, hSp, c, hi, hl, hk⟩)⟩
    · exact ⟨none, _, by have := run_endLoop (P := P) hl (by rw [hst]; simp); rw [hst] at this; exact this, hdone _ xs _ (Nat.le_refl _) hS (hIp _ _ _ _ _ hi (by omega) hl rfl) ((World.putObj_heap_other (by omega)).trans hk)⟩
    · exact ⟨some c, _, by have := run_endLoop (P := P) hl (by rw [hst]; simp); rw [hst] at this; exact this, hstop _ c pre _ (Nat.le_refl _) hSp (hXp _ _ _ _ _ _ hi (by omega) hl rfl) ((World.putObj_heap_other (by omega)).trans hk)⟩
end Go.Proofs.YtiblpcfkecalcaaDoor
/-
  Regions that draw their order inside a round: facts, one an operation, told once for all orders. No program in sight.
-/
namespace Go.Proofs.YtiblpcfkecalcaaDoor
open Go.Shelf Go.RowKit
set_option linter.unusedVariables false
set_option linter.unusedSimpArgs false

theorem op_wide {P : Program} {o : Oper} {a : Act} {w : World} {K : Act → World → Prop} {Q : Exit → Act → World → Prop} {n l : Nat} (hd : ∀ c, o.op ≠ .defer c) (h : o.wp P a w K Q) : o.wpIn (Fence.wide.inRound l) n P a w K Q := by
  unfold Oper.wpIn
  refine ⟨fun _ _ => trivial, ?_⟩
  rw [Oper.semAt_eq _ _ _ hd]
  unfold Oper.wp at h
  cases hr : (execOp a.eval o).run P w with
  | ok nx w' =>
    rw [hr] at h
    cases nx with
    | value v => exact h
    | skip => exact h
    | defer d => exact h
    | enter f args => exact ⟨fun e => (by cases e), CallsIn.inRound l (callsIn_wide.2 h)⟩
    | row r args => exact ⟨fun e => (by cases e), fun c cs _ => by obtain ⟨v, w', r, s⟩ := h c cs; exact ⟨v, w', r, stepsIn_wide.2 s⟩⟩
    | _ => exact h.elim
  | halt x w' =>
    rw [hr] at h
    cases x with
    | panic v => exact h
    | _ => exact h.elim
def noDefer2 (o : Oper) : Bool := match o.op with
  | .defer _ => false
  | _ => true
theorem noDefer2_ne {o : Oper} (h : noDefer2 o = true) : ∀ c, o.op ≠ .defer c := fun c e => by
  unfold noDefer2 at h
  rw [e] at h
  cases h
section
variable {P : Program} {ops : Array Oper} {Q : Exit → Act → World → Prop} {md : Region.Mode}
theorem wpAnyIn_frames {nn l : Nat} (hnd : ∀ (i : Nat) (o : Oper), ops[i]? = some o → ∀ c, o.op ≠ .defer c) (n : Nat) (rd : List (List Nat)) (Fs : List (List Value → World → Prop)) (ord : List Nat) (a0 : Act) (w0 : World) (hok : framesOk md ops n rd = true) (hord : orderOk md ops ord [] = true)
    (step : ∀ i o, ops[i]? = some o → ∀ listed a w, GInv md ops rd Fs a0 w0 listed a w → listed.getD i false = false → (∀ e ∈ needsOf md ops i, listed.getD e false = true) → GStep P Q ops rd Fs w0 i o listed a w)
    (done : ∀ listed a w, GInv md ops rd Fs a0 w0 listed a w → (∀ i, i < ops.size → listed.getD i false = true) → Q .normal a w) :
    ∀ k listed a w, GInv md ops rd Fs a0 w0 listed a w → unl ops.size listed = k → wpAnyIn (Fence.wide.inRound l) nn P md ops Q k listed a w
  | 0, listed, a, w, h, hk => by
    have hall : ∀ i, i < ops.size → listed.getD i false = true := fun i hi => by
      have h1 : (List.range ops.size).filter (fun j => !listed.getD j false) = [] := List.length_eq_zero_iff.1 hk
      rw [List.filter_eq_nil_iff] at h1
      have := h1 i (List.mem_range.2 hi)
      simpa using this
    refine ⟨?_, done listed a w h hall⟩
    cases hr : Region.ready md ops listed with
    | nil => rfl
    | cons i l =>
      obtain ⟨h1, h2, _⟩ := ready_mem (md := md) (ops := ops) (listed := listed) (i := i) (by rw [hr]; exact List.mem_cons_self)
      rw [getD_or _ _ (by rw [h.size]; exact h1), hall i h1] at h2
      cases h2
  | k + 1, listed, a, w, h, hk => by
    refine ⟨fun hr => ?_, fun i hi => ?_⟩
    · rcases order_all ord [] listed hord (fun i hi => by cases hi) h.size with h1 | ⟨i, hi⟩
      · exact done listed a w h h1
      · rw [hr] at hi; cases hi
    · obtain ⟨hi1, hi2, o, ho, hd⟩ := ready_mem hi
      rw [getD_or _ _ (by rw [h.size]; omega)] at hi2
      have hneed : ∀ e ∈ needsOf md ops i, listed.getD e false = true := fun e he => by
        obtain ⟨e', h1, h2, rfl⟩ := (needs_mem i o ho e).1 he
        exact hd e' h1 h2
      unfold wpOpIn
      rw [ho]
      simp only
      have hs := step i o ho listed a w h hi2 hneed (wpAnyIn (Fence.wide.inRound l) nn P md ops Q k (listed.setIfInBounds i true)) (by
        intro v w' hb hkeep hnew
        refine wpAnyIn_frames hnd n rd Fs ord a0 w0 hok hord step done k _ _ _ ?_ ?_
        · have hput : ∀ s, dstIs ops i s = false → (a.put o.dst v).tmps.getD s undef = a.tmps.getD s undef := fun s hs => by
            unfold dstIs at hs
            rw [ho] at hs
            cases hdst : o.dst with
            | none => rfl
            | some d =>
              refine put_get _ _ _ _ ?_
              rintro rfl
              simp [hdst] at hs
          refine ⟨by simp [h.size], ?_, ?_, ?_, hb, ?_, ?_⟩
          · cases hdst : o.dst <;> exact h.defers
          · rw [← h.slots]
            cases hdst : o.dst with
            | none => rfl
            | some d => simp [Act.put]
          · intro s hs
            have h1 := hs i (by rw [lget_set _ _ _ (by rw [h.size]; omega), if_pos rfl])
            rw [hput s h1]
            refine h.old s fun j hj => hs j ?_
            rw [lget_set _ _ _ (by rw [h.size]; omega)]
            split
            · rfl
            · exact hj
          · intro j hj
            rw [lget_set _ _ _ (by rw [h.size]; omega)] at hj
            by_cases hij : i = j
            · subst hij
              exact hnew
            · rw [if_neg hij] at hj
              have h5 := hkeep j _ hj (h.facts j hj)
              have e : ((rd.getD j []).map fun s => (a.put o.dst v).tmps.getD s undef) = ((rd.getD j []).map fun s => a.tmps.getD s undef) := by
                apply List.map_congr_left
                intro s hs
                refine hput s ?_
                unfold framesOk at hok
                rw [List.all_eq_true] at hok
                have h6 := hok i (List.mem_range.2 hi1)
                rw [Bool.and_eq_true, List.all_eq_true, List.all_eq_true] at h6
                by_cases hjs : j < ops.size
                · have h7 := h6.2 j (List.mem_range.2 hjs)
                  rw [List.all_eq_true] at h7
                  have h8 := h7 s hs
                  rw [Bool.or_eq_true, Bool.or_eq_true] at h8
                  rcases h8 with (h8 | h8) | h8
                  · simpa using h8
                  · exact absurd (by simpa using h8) hij
                  · have hm : i ∈ reachOf md ops n j := by simpa using h8
                    have := reachN_sound (md := md) (ops := ops) (T := fun j => listed.getD j false = true) (fun x hx j hj => h.down x hx j hj) n _ (h.down j hj) i hm
                    rw [hi2] at this
                    cases this
                · have : listed.getD j false = false := by
                    simp only [Array.getD_eq_getD_getElem?]
                    rw [Array.getElem?_eq_none (by rw [h.size]; omega)]
                    rfl
                  rw [this] at hj
                  cases hj
              rw [e]
              exact h5
          · intro j hj e he
            rw [lget_set _ _ _ (by rw [h.size]; omega)] at hj ⊢
            by_cases hie : i = e
            · rw [if_pos hie]
            · rw [if_neg hie]
              by_cases hij : i = j
              · subst hij
                exact hneed e he
              · rw [if_neg hij] at hj
                exact h.down j hj e he
        · have := unl_set ops.size listed i hi1 (by rw [h.size]; omega) hi2
          omega)
      by_cases hw : Region.wanted o (yielded ops a.tmps) = true
      · rw [if_pos hw] at hs ⊢
        exact op_wide (hnd i o ho) hs
      · rw [if_neg hw] at hs ⊢
        exact ⟨fun _ _ => trivial, hs⟩
/-- The rule. -/
theorem wpIn_region_frames {id nn l : Nat} (hnd : ops.all noDefer2 = true) {a0 : Act} {w0 : World} (n : Nat) (rd : List (List Nat)) (Fs : List (List Value → World → Prop)) (ord : List Nat) (hmx : P.follows .mixedOrders = true) (hok : framesOk .any ops n rd = true) (hord : orderOk .any ops ord [] = true)
    (step : ∀ i o, ops[i]? = some o → ∀ listed a w, GInv .any ops rd Fs a0 w0.drew listed a w → listed.getD i false = false → (∀ e ∈ needsOf .any ops i, listed.getD e false = true) → GStep P Q ops rd Fs w0.drew i o listed a w)
    (done : ∀ listed a w, GInv .any ops rd Fs a0 w0.drew listed a w → (∀ i, i < ops.size → listed.getD i false = true) → Q .normal a w) : (Code.region id ops true).wpIn (Fence.wide.inRound l) nn P Q a0 w0 := by
  have hrep : ∀ i, (Array.replicate ops.size false).getD i false = false := fun i => by
    simp only [Array.getD_eq_getD_getElem?]
    by_cases h : i < ops.size
    · rw [Array.getElem?_eq_getElem (by simpa using h)]; simp
    · rw [Array.getElem?_eq_none (by simpa using Nat.le_of_not_lt h)]; rfl
  refine wpIn_region_any hmx ?_
  have hu : unl ops.size (Array.replicate ops.size false) = ops.size := by
    unfold unl
    have : (List.range ops.size).filter (fun j => !(Array.replicate ops.size false).getD j false) = List.range ops.size := by
      rw [List.filter_eq_self]
      intro j _
      rw [hrep]
      rfl
    rw [this, List.length_range]
  exact wpAnyIn_frames (P := P) (Q := Q) (md := .any) (nn := nn) (l := l) (fun i o ho => noDefer2_ne (by rw [Array.all_eq_true'] at hnd; exact hnd o (Array.mem_of_getElem? ho))) n rd Fs ord a0 w0.drew hok hord step done ops.size (Array.replicate ops.size false) a0 w0.drew ⟨by simp, rfl, rfl, fun _ _ => rfl, Below.refl _ _, fun i hl => (by rw [hrep] at hl; cases hl), fun i hl => (by rw [hrep] at hl; cases hl)⟩ hu
end
theorem unwanted_u {ops : Array Oper} {a : Act} {j d : Nat} {b' : Bool} {oj : Oper} (h1 : ops[j]? = some oj) (h2 : oj.dst = some d) (h : a.tmps.getD d undef = undef) : ¬ (yielded ops a.tmps j == some b') = true := by
  unfold yielded
  rw [h1]
  simp only [Option.bind_some, h2]
  rw [Array.getD_eq_getD_getElem?] at h
  cases he : a.tmps[d]? with
  | none => simp
  | some v => rw [he] at h; simp only [Option.getD_some] at h; rw [h]; simp [undef]
theorem unwanted_q {ops : Array Oper} {a : Act} {j d : Nat} {b b' : Bool} {oj : Oper} (h1 : ops[j]? = some oj) (h2 : oj.dst = some d) (h : a.tmps.getD d undef = .bool b) (hb : b ≠ b') : ¬ (yielded ops a.tmps j == some b') = true := by
  unfold yielded
  rw [h1]
  simp only [Option.bind_some, h2]
  rw [Array.getD_eq_getD_getElem?] at h
  cases he : a.tmps[d]? with
  | none => rw [he] at h; cases h
  | some v => rw [he] at h; simp only [Option.getD_some] at h; rw [h]; simp [hb]
end Go.Proofs.YtiblpcfkecalcaaDoor
/-
  DER as the document says it, by plain functions on bytes. No program in sight.
-/
namespace Go.Proofs.YtiblpcfkecalcaaDoor
open Go.RowKit
set_option linter.unusedVariables false

/-- A length of one byte, of two. -/
def len1 : Bs → Option (Nat × Bs)
  | [] => none
  | a :: ys => if a.toNat < 128 then none else some (a.toNat, ys)
def len2 : Bs → Option (Nat × Bs)
  | [] => none
  | [_] => none
  | a :: b :: ys => if a.toNat * 256 + b.toNat < 256 then none else some (a.toNat * 256 + b.toNat, ys)
/-- A length, and what is left. -/
def lenD : Bs → Option (Nat × Bs)
  | [] => none
  | f :: xs => if f.toNat < 128 then some (f.toNat, xs) else if f.toNat = 129 then len1 xs else if f.toNat = 130 then len2 xs else none
/-- A piece, and what is left; an error's number. -/
def readD (bs : Bs) : Except Nat ((UInt8 × Bs) × Bs) :=
  if 4096 < bs.length then .error 3 else match bs with
  | [] => .error 30
  | t :: xs => if t.toNat % 32 = 31 then .error 30 else match lenD xs with
    | none => .error 30
    | some (n, ys) => if ys.length < n then .error 30 else .ok ((t, ys.take n), ys.drop n)
/-- A length as bytes. -/
def headD (n : Nat) : Bs := if n < 128 then [UInt8.ofNat n] else if n < 256 then [129, UInt8.ofNat n] else [130, UInt8.ofNat (n / 256), UInt8.ofNat n]
/-- A piece as bytes. -/
def writeD (t : UInt8) (b : Bs) : Bs := t :: (headD b.length ++ b)
theorem headD_len (n : Nat) : (headD n).length = if n < 128 then 1 else if n < 256 then 2 else 3 := by
  unfold headD
  repeat' split
  all_goals rfl
theorem u8_of_toNat (c : UInt8) (n : Nat) (h : n % 256 = c.toNat) : UInt8.ofNat n = c := by
  apply UInt8.toNat_inj.1
  rw [UInt8.toNat_ofNat']
  exact h
theorem lenD_form : ∀ {xs : Bs} {n : Nat} {ys : Bs}, lenD xs = some (n, ys) → xs = headD n ++ ys ∧ n < 65536 := by
  intro xs n ys h
  cases xs with
  | nil => cases h
  | cons f xs =>
    have hf := f.toNat_lt
    simp only [lenD] at h
    by_cases h1 : f.toNat < 128
    · rw [if_pos h1] at h
      cases h
      exact ⟨by unfold headD; rw [if_pos h1, u8_of_toNat f _ (by omega)]; rfl, by omega⟩
    rw [if_neg h1] at h
    by_cases h2 : f.toNat = 129
    · rw [if_pos h2] at h
      cases xs with
      | nil => cases h
      | cons a xs =>
        simp only [len1] at h
        have ha := a.toNat_lt
        by_cases h3 : a.toNat < 128
        · rw [if_pos h3] at h; cases h
        rw [if_neg h3] at h
        cases h
        have e : f = 129 := UInt8.toNat_inj.1 h2
        exact ⟨by unfold headD; rw [if_neg h3, if_pos (by omega), u8_of_toNat a _ (by omega), e]; rfl, by omega⟩
    rw [if_neg h2] at h
    by_cases h3 : f.toNat = 130
    · rw [if_pos h3] at h
      match xs, h with
      | [], h => cases h
      | [_], h => cases h
      | a :: b :: xs, h =>
        simp only [len2] at h
        have ha := a.toNat_lt
        have hb := b.toNat_lt
        by_cases h4 : a.toNat * 256 + b.toNat < 256
        · rw [if_pos h4] at h; cases h
        rw [if_neg h4] at h
        cases h
        have e : f = 130 := UInt8.toNat_inj.1 h3
        exact ⟨by unfold headD; rw [if_neg (by omega), if_neg h4, u8_of_toNat a ((a.toNat * 256 + b.toNat) / 256) (by omega), u8_of_toNat b (a.toNat * 256 + b.toNat) (by omega), e]; rfl, by omega⟩
    rw [if_neg h3] at h
    cases h
theorem lenD_head (n : Nat) (ys : Bs) (hn : n < 65536) : lenD (headD n ++ ys) = some (n, ys) := by
  unfold headD
  by_cases h1 : n < 128
  · rw [if_pos h1]
    have : (UInt8.ofNat n).toNat = n := by rw [UInt8.toNat_ofNat']; omega
    simp [lenD, this, h1]
  rw [if_neg h1]
  by_cases h2 : n < 256
  · rw [if_pos h2]
    have : (UInt8.ofNat n).toNat = n := by rw [UInt8.toNat_ofNat']; omega
    simp [lenD, len1, this, h1]
  rw [if_neg h2]
  have e1 : (UInt8.ofNat (n / 256)).toNat = n / 256 := by rw [UInt8.toNat_ofNat']; omega
  have e2 : (UInt8.ofNat n).toNat = n % 256 := by rw [UInt8.toNat_ofNat']
  have e3 : n / 256 * 256 + n % 256 = n := by omega
  simp only [lenD, len2, List.cons_append, List.nil_append, e1, e2, e3, if_neg h2]
  rfl
/-- What is read is written as the bytes that were read. -/
theorem read_form {bs : Bs} {t : UInt8} {b r : Bs} (h : readD bs = .ok ((t, b), r)) : bs = writeD t b ++ r ∧ t.toNat % 32 ≠ 31 ∧ bs.length ≤ 4096 := by
  unfold readD at h
  by_cases h0 : 4096 < bs.length
  · rw [if_pos h0] at h; cases h
  rw [if_neg h0] at h
  cases bs with
  | nil => cases h
  | cons c xs =>
    simp only [] at h
    by_cases h1 : c.toNat % 32 = 31
    · rw [if_pos h1] at h; cases h
    rw [if_neg h1] at h
    cases hl : lenD xs with
    | none => rw [hl] at h; cases h
    | some q =>
      obtain ⟨n, ys⟩ := q
      rw [hl] at h
      simp only [] at h
      by_cases h2 : ys.length < n
      · rw [if_pos h2] at h; cases h
      rw [if_neg h2] at h
      cases h
      obtain ⟨e, hn⟩ := lenD_form hl
      refine ⟨?_, h1, by omega⟩
      unfold writeD
      rw [List.length_take, Nat.min_eq_left (by omega), e]
      simp
/-- What is written is read. -/
theorem write_read {t : UInt8} {b r : Bs} (ht : t.toNat % 32 ≠ 31) (hl : (writeD t b ++ r).length ≤ 4096) : readD (writeD t b ++ r) = .ok ((t, b), r) := by
  unfold readD
  rw [if_neg (by omega)]
  unfold writeD at hl ⊢
  simp only [List.cons_append, List.append_assoc]
  rw [if_neg ht, lenD_head _ _ (by simp at hl; omega)]
  simp
theorem read_err {bs : Bs} {k : Nat} (h : readD bs = .error k) : k = 3 ∧ 4096 < bs.length ∨ k = 30 ∧ bs.length ≤ 4096 := by
  unfold readD at h
  by_cases h0 : 4096 < bs.length
  · rw [if_pos h0] at h; cases h; exact .inl ⟨rfl, h0⟩
  rw [if_neg h0] at h
  refine .inr ⟨?_, by omega⟩
  cases bs with
  | nil => cases h; rfl
  | cons c xs =>
    simp only [] at h
    by_cases h1 : c.toNat % 32 = 31
    · rw [if_pos h1] at h; cases h; rfl
    rw [if_neg h1] at h
    cases hl : lenD xs with
    | none => rw [hl] at h; cases h; rfl
    | some q =>
      rw [hl] at h
      simp only [] at h
      by_cases h2 : q.2.length < q.1
      · rw [if_pos h2] at h; cases h; rfl
      rw [if_neg h2] at h
      cases h
theorem read_len {bs : Bs} {t : UInt8} {b r : Bs} (h : readD bs = .ok ((t, b), r)) : r.length + 2 ≤ bs.length ∧ b.length + 2 ≤ bs.length ∧ r.length + b.length + 2 ≤ bs.length := by
  obtain ⟨e, _⟩ := read_form h
  have hh := headD_len b.length
  have : 1 ≤ (headD b.length).length := by rw [hh]; (repeat' split) <;> omega
  rw [e]
  simp [writeD]
  omega
/-- All pieces, and the first fault. -/
def allD : Nat → Bs → List (UInt8 × Bs) × Nat
  | 0, _ => ([], 0)
  | m + 1, bs => if bs = [] then ([], 0) else match readD bs with
    | .error k => ([], k)
    | .ok (p, r) => (p :: (allD m r).1, (allD m r).2)
/-- The pieces, or the first fault. -/
def listD (bs : Bs) : Except Nat (List (UInt8 × Bs)) := if (allD bs.length bs).2 = 0 then .ok (allD bs.length bs).1 else .error (allD bs.length bs).2
end Go.Proofs.YtiblpcfkecalcaaDoor
