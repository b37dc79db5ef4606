/-
  The document's reader of JSON: text. What a sign is; what the loop holds.
-/
import Derived.Test.YtbobgebhdafciabDoorJR6
import Derived.Lib.MapLaws
import Derived.Lib.TrimUEq
import Derived.Lib.TrimAscii
namespace Go.Proofs.YtbobgebhdafciabDoor
open Go.Shelf Go.RowKit
set_option linter.unusedVariables false
set_option linter.unusedSimpArgs false

theorem decGo_L (c : UInt8) (xs : Bs) : Lib.decodeGo ⟨(c :: xs).toArray⟩ = Lib.decodeL (c :: xs) := by
  unfold Lib.decodeGo Lib.decodeL
  rw [if_neg (by simp [ByteArray.size])]
theorem dec_ge (c : UInt8) (xs : Bs) (hc : 32 ≤ c.toNat) : 32 ≤ (Lib.decodeL (c :: xs)).1 := by
  by_cases h : c.toNat < 128
  · rw [Lib.decodeL_ascii c xs h]; exact hc
  · rw [Lib.decodeL_N]
    unfold Lib.decodeN
    simp only [List.getD_cons_zero]
    repeat' split
    all_goals first
      | omega
      | (simp only []; omega)
theorem sign_nil : signS [] = none := by decide
theorem sign_low (c : UInt8) (xs : Bs) (hc : c.toNat < 32) : signS (c :: xs) = none := by
  have h1 : tk [92] (c :: xs) = none := by
    unfold tk
    rw [if_neg]
    intro h
    simp at h
    rw [← h] at hc
    simp at hc
  unfold signS
  rw [h1]
  unfold selfS
  rw [decGo_L, Lib.decodeL_ascii c xs (by omega), if_neg]
  simp
  omega
theorem sign_esc (xs : Bs) : signS (92 :: xs) = escS xs := rfl
theorem sign_self (c : UInt8) (xs : Bs) (hc : 32 ≤ c.toNat) (hn : c ≠ 92) : signS (c :: xs) = if (Lib.decodeGo ⟨(c :: xs).toArray⟩).1 = 65533 ∧ (Lib.decodeGo ⟨(c :: xs).toArray⟩).2 = 1 then none else some ((Lib.decodeGo ⟨(c :: xs).toArray⟩).1, (c :: xs).drop (Lib.decodeGo ⟨(c :: xs).toArray⟩).2) := by
  have h1 : tk [92] (c :: xs) = none := by
    unfold tk
    rw [if_neg]
    intro h
    simp at h
    exact hn h.symm
  have hd := (dec_facts (c :: xs)).2.2.2 (by simp)
  unfold signS
  rw [h1]
  show selfS (c :: xs) = _
  unfold selfS
  have := dec_ge c xs hc
  rw [← decGo_L] at this
  by_cases q : (Lib.decodeGo ⟨(c :: xs).toArray⟩).1 = 65533 ∧ (Lib.decodeGo ⟨(c :: xs).toArray⟩).2 = 1
  · rw [if_pos q, if_neg]
    rintro ⟨h | h, _⟩
    · exact h q.1
    · omega
  · rw [if_neg q, if_pos]
    refine ⟨?_, this⟩
    by_cases h : (Lib.decodeGo ⟨(c :: xs).toArray⟩).1 = 65533
    · right; have : ¬ (Lib.decodeGo ⟨(c :: xs).toArray⟩).2 = 1 := fun h2 => q ⟨h, h2⟩; omega
    · exact .inl h
theorem enc_self (c : UInt8) (xs : Bs) (hv : ¬ ((Lib.decodeGo ⟨(c :: xs).toArray⟩).1 = 65533 ∧ (Lib.decodeGo ⟨(c :: xs).toArray⟩).2 = 1)) : Lib.encodeRune ((Lib.decodeGo ⟨(c :: xs).toArray⟩).1 : Int) = (c :: xs).take (Lib.decodeGo ⟨(c :: xs).toArray⟩).2 := by
  rw [decGo_L] at hv ⊢
  exact Lib.encode_decode _ (by simp) hv

/-- What the text's loop holds: the reader, and what was read. -/
structure TX (w W : World) (g : Nat) (B zs : Bs) (d : Nat) (nv : Value) (code : Nat) (v : Value) (l : Bs) : Prop where
  lt : g < w.heap.size
  but : But g w W
  dr : Dr W g B zs d nv code
  own : W.ownsRow w.heap.size 5 1 v l.length (Lib.byteCells l)
  tabs : Tabs W
  low : ∀ k, k = 0 ∨ k = 1 → k < w.heap.size ∧ k ≠ g
theorem own_keep {w w' : World} {base : Nat} {e : TypeId} {size : Nat} {v : Value} {n : Nat} {xs : List Value} (h : w.ownsRow base e size v n xs) (hb : ∀ k, base ≤ k → k < w.heap.size → w'.heap[k]? = w.heap[k]?) : w'.ownsRow base e size v n xs := by
  obtain ⟨h1, h2⟩ := h
  refine ⟨h1, ?_⟩
  rcases h2 with h2 | ⟨g, cap, cur, hv, hg, hh, h3⟩
  · exact .inl h2
  · exact .inr ⟨g, cap, cur, hv, hg, (hb g hg (Array.getElem?_eq_some_iff.1 hh).1).trans hh, h3⟩
theorem own_low {w : World} {base : Nat} {e : TypeId} {size : Nat} {v : Value} {n : Nat} {xs : List Value} (h : w.ownsRow base e size v n xs) (k : Nat) (hk : k < base) : some k ≠ v.ownBlock := by
  intro e1
  rcases h.2 with ⟨rfl, _⟩ | ⟨g, cap, cur, rfl, hg, _⟩
  · cases e1
  · simp [Value.ownBlock] at e1; omega
theorem dr_tabs {w : World} (h : Tabs w) {g : Nat} {B ys : Bs} {d : Nat} {nv : Value} {c : Nat} (hr : Dr w g B ys d nv c) : ∀ k, k = 0 ∨ k = 1 → k < w.heap.size ∧ k ≠ g := fun k hk => ⟨h.lt k hk, fun e => by
  obtain ⟨pre, p, q, h0, h1, _⟩ := hr
  have h0 := h1.b
  subst e
  rcases hk with rfl | rfl
  · have := h.1 0 (by decide); rw [h0] at this; cases this
  · have := (h.2 0 (by decide)).1; rw [h0] at this; cases this⟩
theorem TX.start {w : World} {g : Nat} {B zs : Bs} {d : Nat} {nv : Value} {code : Nat} (h : Dr w g B zs d nv code) (hT : Tabs w) : TX w w g B zs d nv code (.slice none 0 0) [] :=
  ⟨h.lt, But.refl _ _, h, World.ownsRow_nil w _ _ 1, hT, dr_tabs hT h⟩
theorem TX.move {w W W' : World} {g : Nat} {B zs ys : Bs} {d : Nat} {nv : Value} {code : Nat} {v : Value} {l : Bs} (h : TX w W g B zs d nv code v l) (hb : But g W W') (hd : Dr W' g B ys d nv code) : TX w W' g B ys d nv code v l :=
  ⟨h.lt, h.but.trans hb, hd, own_keep h.own (fun k h1 h2 => hb.block k h2 (by have := h.lt; omega)), h.tabs.keep (fun k hk => hb.block k (h.tabs.lt k hk) (h.low k hk).2), h.low⟩
theorem TX.grown {w W W' : World} {g : Nat} {B zs : Bs} {d : Nat} {nv : Value} {code : Nat} {v : Value} {l : Bs} (h : TX w W g B zs d nv code v l) (hg : W.grownBy W' v.ownBlock) : Below w.heap.size W W' :=
  ⟨hg.os, hg.tape, hg.output, hg.size, fun k hk => hg.block k (Nat.lt_of_lt_of_le hk h.but.size) (own_low h.own k hk)⟩
theorem TX.grow {w W W' : World} {g : Nat} {B zs : Bs} {d : Nat} {nv : Value} {code : Nat} {v v' : Value} {l l' : Bs} (h : TX w W g B zs d nv code v l) (hb : Below w.heap.size W W') (ho : W'.ownsRow w.heap.size 5 1 v' l'.length (Lib.byteCells l')) : TX w W' g B zs d nv code v' l' :=
  ⟨h.lt, h.but.behind hb (Nat.le_refl _), h.dr.keep (hb.mono h.lt), ho, h.tabs.keep (fun k hk => hb.block k (h.low k hk).1), h.low⟩
theorem infoU8 : (Tryd.prog.info? 5).map (fun i => (i.zero, i.size, i.bytes)) = some (some (.int .u8 0), 1, 1) := by kernel_rfl
/-- An owned row of bytes as a text. -/
theorem conv_own {w : World} {base : Nat} {v : Value} {l : Bs} (h : w.ownsRow base 5 1 v l.length (Lib.byteCells l)) : (convert 27 9 v).run Tryd.prog w = .ok (.string ⟨l.toArray⟩) w := by
  have key : ∀ p c, v = .slice p l.length c → Lib.BytesAt w p l.length l → (convert 27 9 v).run Tryd.prog w = .ok (.string ⟨l.toArray⟩) w := by
    rintro p c rfl hl
    have h2 := Lib.BytesIn.convert (P := Tryd.prog) (bytesAt_in hl rfl) (by simp) c 27 5 9 Tryd.underlying27 Tryd.underlying5 Tryd.underlying9
    rw [h2, show strOfNums (l.map fun b => (b.toNat : Int)) = ⟨l.toArray⟩ from by
      apply ByteArray.ext
      apply Array.toList_inj.1
      rw [← Lib.toList_data, Lib.strOfNums_toList, bytesOf_map]]
  by_cases h0 : l.length = 0
  · rcases h.2 with ⟨rfl, _⟩ | ⟨g, cap, cur, rfl, _⟩
    · exact key none 0 (by rw [h0]) (fun hh => absurd h0 (by omega))
    · exact key _ cap rfl (fun hh => absurd h0 (by omega))
  · obtain ⟨g, cap, rfl, _, _⟩ := h.form (by omega)
    refine key _ cap rfl (fun _ => ⟨g, 0, rfl, fun i hi => ?_⟩)
    rw [Nat.zero_add, h.cellAt i (by omega)]
    simp [Lib.byteCells, List.getD, hi]
/-- DecodeRune of what is left. -/
theorem dec_rest {wr : World} {g b off k n a : Nat} {B pre ys : Bs} {c : UInt8} (h0 : B = pre ++ c :: ys) (h2 : RestD wr g (some ⟨b, off, none⟩) k B) (ha : pre.length = a) (hak : ¬ k = a) (hT : Tabs wr) (hn : n = a + (c :: ys).length) {R M : Nat} (hR : (Lib.decodeGo ⟨(c :: ys).toArray⟩).1 = R ∧ (Lib.decodeGo ⟨(c :: ys).toArray⟩).2 = M) (N : Nat) :
    Calls Tryd.prog 47 #[.slice (some ⟨b, off + a, none⟩) (n - a) (k - a)] (wr.drewN N) fun e w' => e = .returned (.tuple #[.int .i32 R, .int .i64 M]) ∧ Below wr.heap.size wr w' := by
  have hlen : (c :: ys).length = n - a := by omega
  have hsz : (⟨(c :: ys).toArray⟩ : ByteArray).size = n - a := by rw [← hlen]; rfl
  have hq := uDecode ⟨(c :: ys).toArray⟩ b (off + a) (k - a) (wr.drewN N) (hT.keep (fun _ _ => rfl)) (fun j hj => by
    have hj2 : j < (c :: ys).length := by rw [hsz, ← hlen] at hj; exact hj
    obtain ⟨b', o', e, hc⟩ := h2.lies (by rw [h0]; simp; omega)
    cases e
    have h8 : a + j < B.length := by rw [h0, List.length_append, ha]; omega
    have hcc := hc (a + j) h8
    have hcd : (wr.drewN N).cell? ⟨b, off + a + j, none⟩ = wr.cell? ⟨b, off + (a + j), none⟩ := by rw [Nat.add_assoc]; exact World.cell?_of_block (w := wr) rfl
    rw [hcd, hcc, h0]
    simp only [List.getD]
    rw [← ha, List.getElem?_append_right (Nat.le_add_right _ _), Nat.add_sub_cancel_left]
    have hj' : j < ys.length + 1 := by simpa using hj2
    simp [ByteArray.get!, hj'])
  rw [hsz, hR.1, hR.2] at hq
  exact hq.mono (fun e w' h => ⟨h.1, (below_drewN wr N).trans h.2⟩)
end Go.Proofs.YtbobgebhdafciabDoor
