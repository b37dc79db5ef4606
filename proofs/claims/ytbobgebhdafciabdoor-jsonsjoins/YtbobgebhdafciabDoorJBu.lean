/-
  The library's contracts of strings.Builder at this program, for any sign; a builder beside a reader.
-/
import Derived.Test.YtbobgebhdafciabDoorJY
import Derived.Test.YtbobgebhdafciabDoorJU8
import Derived.Shelf.Strings.BuilderK
import Derived.Shelf.Strings.BuilderRune
import Derived.Shelf.Unicode.DecodeLastEight
namespace Go.Proofs.YtbobgebhdafciabDoor
open Go.Shelf Go.RowKit
set_option linter.unusedVariables false
set_option linter.unusedSimpArgs false
/-- The names of the library's shelf at this program. -/
def renWR : Go.Shelf.Ren := ⟨fun | 168 => 41 | 240 => 53 | 242 => 54 | 276 => 58 | 278 => 59 | n => n, fun | 0 => 0 | 3 => 3 | 4 => 4 | 5 => 5 | 9 => 9 | 20 => 20 | 21 => 21 | 37 => 27 | 46 => 102 | 51 => 100 | 70 => 76 | 72 => 78 | 75 => 82 | 164 => 98 | 80 => 85 | n => n, fun | n => n⟩
theorem laysWR : Go.Proofs.Lays.n168 Tryd.prog renWR := {
  mixed := by kernel_rfl
  f168 := Tryd.func41.trans (congrArg some (by kernel_rfl))
  f240 := Tryd.func53.trans (congrArg some (by kernel_rfl))
  f242 := Tryd.func54.trans (congrArg some (by kernel_rfl))
  f276 := Tryd.func58.trans (congrArg some (by kernel_rfl))
  f278 := Tryd.func59.trans (congrArg some (by kernel_rfl))
  t0 := Tryd.underlying0
  a0 := Tryd.isAgg0
  z0 := Tryd.sizeOf0
  v0 := Tryd.zeroValue0
  t3 := Tryd.underlying3
  a3 := Tryd.isAgg3
  z3 := Tryd.sizeOf3
  v3 := Tryd.zeroValue3
  t4 := Tryd.underlying4
  a4 := Tryd.isAgg4
  z4 := Tryd.sizeOf4
  v4 := Tryd.zeroValue4
  t5 := Tryd.underlying5
  a5 := Tryd.isAgg5
  z5 := Tryd.sizeOf5
  v5 := Tryd.zeroValue5
  t9 := Tryd.underlying9
  a9 := Tryd.isAgg9
  z9 := Tryd.sizeOf9
  v9 := Tryd.zeroValue9
  t20 := Tryd.underlying20
  a20 := Tryd.isAgg20
  z20 := Tryd.sizeOf20
  v20 := Tryd.zeroValue20
  t21 := Tryd.underlying21
  a21 := Tryd.isAgg21
  z21 := Tryd.sizeOf21
  v21 := Tryd.zeroValue21
  t37 := Tryd.underlying27
  a37 := Tryd.isAgg27
  z37 := Tryd.sizeOf27
  v37 := Tryd.zeroValue27
  t46 := Tryd.underlying102
  a46 := Tryd.isAgg102
  z46 := Tryd.sizeOf102
  v46 := Tryd.zeroValue102
  t51 := Tryd.underlying100
  a51 := Tryd.isAgg100
  z51 := Tryd.sizeOf100
  v51 := Tryd.zeroValue100
  t70 := Tryd.underlying76
  a70 := Tryd.isAgg76
  z70 := Tryd.sizeOf76
  v70 := Tryd.zeroValue76
  t72 := Tryd.underlying78
  a72 := Tryd.isAgg78
  z72 := Tryd.sizeOf78
  v72 := Tryd.zeroValue78
  t75 := Tryd.underlying82
  a75 := Tryd.isAgg82
  z75 := Tryd.sizeOf82
  v75 := Tryd.zeroValue82
  t164 := Tryd.underlying98
  a164 := Tryd.isAgg98
  z164 := Tryd.sizeOf98
  v164 := Tryd.zeroValue98 }
theorem extraWR : Builder.Extra Tryd.prog renWR := {
  sizeBuilder := by kernel_rfl
  liesBuilder := by kernel_rfl
  t5 := Tryd.underlying5
  a5 := Tryd.isAgg5
  z5 := Tryd.sizeOf5
  v5 := Tryd.zeroValue5
  infoByte := by kernel_rfl
  cellsByte := by kernel_rfl
  sizeByte := by kernel_rfl
  neB5 := by decide }
/-- The names of the library's shelf at this program. -/
def renST : Go.Shelf.Ren := ⟨fun | 169 => 42 | n => n, fun | 0 => 0 | 3 => 3 | 9 => 9 | 37 => 27 | 70 => 76 | 72 => 78 | 127 => 96 | 5 => 5 | n => n, fun | n => n⟩
theorem laysST : Go.Proofs.Lays.n169 Tryd.prog renST := {
  mixed := by kernel_rfl
  f169 := Tryd.func42.trans (congrArg some (by kernel_rfl))
  t0 := Tryd.underlying0
  a0 := Tryd.isAgg0
  z0 := Tryd.sizeOf0
  v0 := Tryd.zeroValue0
  t3 := Tryd.underlying3
  a3 := Tryd.isAgg3
  z3 := Tryd.sizeOf3
  v3 := Tryd.zeroValue3
  t9 := Tryd.underlying9
  a9 := Tryd.isAgg9
  z9 := Tryd.sizeOf9
  v9 := Tryd.zeroValue9
  t37 := Tryd.underlying27
  a37 := Tryd.isAgg27
  z37 := Tryd.sizeOf27
  v37 := Tryd.zeroValue27
  t70 := Tryd.underlying76
  a70 := Tryd.isAgg76
  z70 := Tryd.sizeOf76
  v70 := Tryd.zeroValue76
  t72 := Tryd.underlying78
  a72 := Tryd.isAgg78
  z72 := Tryd.sizeOf78
  v72 := Tryd.zeroValue78
  t127 := Tryd.underlying96
  a127 := Tryd.isAgg96
  z127 := Tryd.sizeOf96
  v127 := Tryd.zeroValue96 }
theorem extraST : Builder.Extra Tryd.prog renST := {
  sizeBuilder := by kernel_rfl
  liesBuilder := by kernel_rfl
  t5 := Tryd.underlying5
  a5 := Tryd.isAgg5
  z5 := Tryd.sizeOf5
  v5 := Tryd.zeroValue5
  infoByte := by kernel_rfl
  cellsByte := by kernel_rfl
  sizeByte := by kernel_rfl
  neB5 := by decide }

theorem runeCells_bytes (r : Nat) : Lib.runeCells r = Lib.byteCells (Lib.encodeRune r) := by
  unfold Lib.runeCells Lib.encodeRune Lib.byteCells
  rw [List.map_map]
  apply List.map_congr_left
  intro x hx
  have h : 0 ≤ x ∧ x < 256 := by
    unfold Lib.encodeRuneZ at hx
    split at hx
    · simp at hx; omega
    · split at hx
      · simp at hx; omega
      · split at hx
        · simp at hx; omega
        · split at hx <;> (simp at hx; omega)
  simp [Function.comp, Nat.toUInt8, UInt8.toNat_ofNat']
  omega
/-- WriteRune. -/
theorem jRune (b : Nat) (l : Bs) (r : Nat) (hr : r < 1114112) (w : World) (h : Lib.IsBuilderF 78 5 b b (Lib.byteCells l) w) (hlen : l.length ≤ 1000000) (hBw : b ≤ w.heap.size) :
    Calls Tryd.prog 41 #[.pointer (some ⟨b, 0, none⟩), .int .i32 r] w fun e w' => (∃ n : Nat, e = .returned (.tuple #[.int .i64 n, .nilIface])) ∧ (Lib.IsBuilderF 78 5 b b (Lib.byteCells (l ++ Lib.encodeRune r)) w' ∧ Below b w w') := by
  refine (Any.Builder_WriteRune_k laysWR extraWR b b _ (r : Int) (by omega) (by omega) w h (by rw [Lib.byteCells_length]; omega) hBw).mono ?_
  rintro e' w' ⟨rfl, h1, h2, _⟩
  rw [runeCells_bytes, ← Lib.byteCells_append] at h1
  exact ⟨⟨_, rfl⟩, Or.inr h1, h2⟩
/-- String. -/
theorem jString (b : Nat) (l : Bs) (w : World) (h : Lib.IsBuilderF 78 5 b b (Lib.byteCells l) w) (hBw : b ≤ w.heap.size) :
    Calls Tryd.prog 42 #[.pointer (some ⟨b, 0, none⟩)] w fun e w' => e = .returned (.string ⟨l.toArray⟩) ∧ Below b w w' := by
  refine (Any.Builder_String_any_k laysST extraST b b l w h hBw).mono ?_
  rintro e w' ⟨rfl, _, h2, _⟩
  exact ⟨rfl, h2⟩
theorem builder_new (w : World) : Lib.IsBuilderF 78 5 w.heap.size w.heap.size (Lib.byteCells []) (w.alloc (.cells #[.pointer none, .slice none 0 0] 78)) :=
  Or.inl ⟨Nat.le_refl _, .slice none 0 0, alloc_new _ _, World.ownsRowF_nil _ _ _ _, by simp [Value.ownBlock]⟩
theorem builderAt_but {T e : TypeId} {b : Nat} {p : Value} {bs : List Value} {w w' : World} {g : Nat} (h : Lib.BuilderAtF T e b b p bs w) (hb : But g w w') (hg : g < b) : Lib.BuilderAtF T e b b p bs w' := by
  obtain ⟨h1, v, h2, h3, h4⟩ := h
  refine ⟨h1, v, (hb.block b (Array.getElem?_eq_some_iff.1 h2).1 (by omega)).trans h2, ⟨h3.1, ?_⟩, h4⟩
  rcases h3.2 with h0 | ⟨q, cap, cur, fz, rfl, hq, hrow, r⟩
  · exact .inl h0
  · exact .inr ⟨q, cap, cur, fz, rfl, hq, (hb.block q (Array.getElem?_eq_some_iff.1 hrow).1 (by omega)).trans hrow, r⟩
theorem builder_but {T e : TypeId} {b : Nat} {bs : List Value} {w w' : World} {g : Nat} (h : Lib.IsBuilderF T e b b bs w) (hb : But g w w') (hg : g < b) : Lib.IsBuilderF T e b b bs w' :=
  h.elim (fun h => .inl (builderAt_but h hb hg)) (fun h => .inr (builderAt_but h hb hg))

/-- The library's tables, kept. -/
theorem Tabs.keep {w w' : World} (h : Tabs w) (hb : ∀ k, k = 0 ∨ k = 1 → w'.heap[k]? = w.heap[k]?) : Tabs w' :=
  ⟨fun c hc => (World.cell?_of_block (w := w) (hb _ (.inl rfl))).trans (h.1 c hc), fun i hi => ⟨(World.cell?_of_block (w := w) (hb _ (.inr rfl))).trans (h.2 i hi).1, (World.cell?_of_block (w := w) (hb _ (.inr rfl))).trans (h.2 i hi).2⟩⟩
theorem Tabs.lt {w : World} (h : Tabs w) : ∀ k, k = 0 ∨ k = 1 → k < w.heap.size := fun k hk => by
  rcases hk with rfl | rfl
  · exact World.block_lt_of_cell? _ _ (h.1 0 (by decide))
  · exact World.block_lt_of_cell? _ _ (h.2 0 (by decide)).1
theorem Tabs.below {w w' : World} (h : Tabs w) (hb : Below w.heap.size w w') : Tabs w' := h.keep (fun k hk => hb.block k (h.lt k hk))
theorem Tabs.ne {w : World} (h : Tabs w) {g : Nat} {rv nv : Value} {o : Nat} (hr : RdAt w g rv nv o) (hs : ∃ p n c, rv = .slice p n c) : ∀ k, k = 0 ∨ k = 1 → k ≠ g := fun k hk e => by
  obtain ⟨p, n, c, rfl⟩ := hs
  have h0 := hr.rest
  subst e
  rcases hk with rfl | rfl
  · have := h.1 0 (by decide); rw [h0] at this; cases this
  · have := (h.2 0 (by decide)).1; rw [h0] at this; cases this
theorem Tabs.but {w w' : World} (h : Tabs w) {g : Nat} {bs : Bs} {nv : Value} {o : Nat} (hr : Rd w g bs nv o) (hb : But g w w') : Tabs w' := by
  obtain ⟨p, c, h1, _⟩ := hr
  exact h.keep (fun k hk => hb.block k (h.lt k hk) (h.ne h1 ⟨_, _, _, rfl⟩ k hk))

/-- What DecodeRune answers. -/
theorem dec_facts (xs : Bs) : (Lib.decodeGo ⟨xs.toArray⟩).1 < 1114112 ∧ (Lib.decodeGo ⟨xs.toArray⟩).2 ≤ xs.length ∧ (Lib.decodeGo ⟨xs.toArray⟩).2 ≤ 4 ∧ (xs ≠ [] → 1 ≤ (Lib.decodeGo ⟨xs.toArray⟩).2) := by
  refine ⟨?_, ?_, Lib.decodeGo_le4 _, fun h => ?_⟩
  · unfold Lib.decodeGo
    split
    · decide
    · rw [Lib.decode_at]
      unfold Lib.decodeN
      have b0 : ∀ x : UInt8, x.toNat < 256 := fun x => x.toNat_lt
      repeat' split
      all_goals first | (simp only; done) | skip
      all_goals simp only
      all_goals (first | omega | (have := b0 ((ByteArray.mk xs.toArray).get! 0); omega))
  · have := Lib.decodeGo_le_size ⟨xs.toArray⟩
    simpa [ByteArray.size] using this
  · unfold Lib.decodeGo
    rw [if_neg (by simp [ByteArray.size]; exact h)]
    exact Lib.decode_width_pos _ 0 (by simp [ByteArray.size]; exact List.length_pos_iff.2 h)
theorem decode_any (p : Option Addr) (c : Nat) (g : Nat) (bs : Bs) (w : World) (hT : Tabs w) (h : RestV w g p c bs) :
    Calls Tryd.prog 47 #[.slice p bs.length c] w fun e w' => e = .returned (.tuple #[.int .i32 (Lib.decodeGo ⟨bs.toArray⟩).1, .int .i64 (Lib.decodeGo ⟨bs.toArray⟩).2]) ∧ Below w.heap.size w w' := by
  cases p with
  | none =>
    have h0 : bs = [] := by
      cases bs with
      | nil => rfl
      | cons x xs => obtain ⟨b, o, e, _⟩ := h.lies (by simp); cases e
    subst h0
    obtain rfl := h.nil rfl
    refine (show Calls Tryd.prog 47 #[.slice none 0 0] w _ from Any7.utf8_DecodeRune_nil lays32 w).mono ?_
    rintro e w' ⟨rfl, rfl⟩
    exact ⟨rfl, Below.refl _ _⟩
  | some a =>
    obtain ⟨b, off, sp⟩ := a
    obtain ⟨_, h2⟩ := h.early _ rfl
    simp only at h2
    subst h2
    have := uDecode ⟨bs.toArray⟩ b off c w hT (fun j hj => by
      obtain ⟨b', o', e, hc⟩ := h.lies (by simp [ByteArray.size] at hj; omega)
      cases e
      rw [hc j (by simpa [ByteArray.size] using hj)]
      have hj' : j < bs.length := by simpa [ByteArray.size] using hj
      simp [ByteArray.get!, List.getD, hj'])
    simpa [ByteArray.size] using this
end Go.Proofs.YtbobgebhdafciabDoor
