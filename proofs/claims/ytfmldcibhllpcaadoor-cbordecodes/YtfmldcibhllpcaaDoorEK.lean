/-
  The document's item, whole.
-/
import Derived.Test.YtfmldcibhllpcaaDoorED0
import Derived.Test.YtfmldcibhllpcaaDoorED7
import Derived.Test.YtfmldcibhllpcaaDoorED9
import Derived.Test.YtfmldcibhllpcaaDoorEDa
import Derived.Test.YtfmldcibhllpcaaDoorEDb
import Derived.Test.YtfmldcibhllpcaaDoorEDc
import Derived.Test.YtfmldcibhllpcaaDoorEDd
import Derived.Test.YtfmldcibhllpcaaDoorEI
namespace Go.Proofs.YtfmldcibhllpcaaDoor
open Go.Shelf Go.RowKit
set_option linter.unusedVariables false
set_option linter.unusedSimpArgs false
set_option maxRecDepth 100000
theorem ritem_byte (d : Nat) (ih : ∀ d', d = d' + 1 → RItemOK d') (g : Nat) (c : UInt8) (ys : Bs) (t o : Nat) (w : World) (h : Rr w g (c :: ys) t 0) (hG : Gl g) (hT : Tabs w) (hd : d + o = 8) (ht : t < 512) (hl : (c :: ys).length ≤ 8192) : Calls Tryd.prog 35 #[.pointer (some ⟨g, 0, none⟩), .int .i64 (o : Int)] w (RPost d g w (itemC d o t (c :: ys))) := by
  have HGp : ∀ d', d = d' + 1 → ∀ (Y N : Nat) (zs : Bs) (t : Nat) (W : World), Y = 4 ∨ Y = 5 → Rr W g zs t 0 → Tabs W → t ≤ 512 → zs.length ≤ 8192 → N < 18446744073709551616 → Calls Tryd.prog 54 #[.pointer (some ⟨g, 0, none⟩), .bool (decide (Y = 5)), .int .u64 (N : Int), .int .i64 ((o + 1 : Nat) : Int)] W (RPost d g W (kidsR Y (pcsC (itemC d') (decide (Y = 5)) (o + 1) N none [] t zs))) := by
    intro d' e Y N zs t W hY hr hT ht hl hN
    subst e
    rw [show ((o + 1 : Nat) : Int) = (o : Int) + 1 by omega]
    rcases hY with rfl | rfl
    · exact group_arr d' (ih d' rfl) N g zs t o W hr hG hT hd ht hl hN
    · exact group_map d' (ih d' rfl) N g zs t o W hr hG hT hd ht hl hN
  by_cases h7 : c.toNat / 32 = 7
  · exact ritem_7 d g c ys t o w h hG hT ht hl hd h7 HGp
  by_cases h0 : c.toNat % 32 < 24
  · exact ritem_0 d g c ys t o w h hG hT ht hl hd ⟨h7, h0⟩ HGp
  by_cases h9 : 27 < c.toNat % 32
  · exact ritem_9 d g c ys t o w h hG hT ht hl hd ⟨h7, h9⟩ HGp
  by_cases ha : c.toNat % 32 = 24
  · exact ritem_a d g c ys t o w h hG hT ht hl hd ⟨h7, ha⟩ HGp
  by_cases hb : c.toNat % 32 = 25
  · exact ritem_b d g c ys t o w h hG hT ht hl hd ⟨h7, hb⟩ HGp
  by_cases hc : c.toNat % 32 = 26
  · exact ritem_c d g c ys t o w h hG hT ht hl hd ⟨h7, hc⟩ HGp
  · exact ritem_d d g c ys t o w h hG hT ht hl hd ⟨h7, by omega⟩ HGp
theorem ritem_bytes (d : Nat) (ih : ∀ d', d = d' + 1 → RItemOK d') : RItemOK d := by
  intro g bs t o w h hG hT hd ht hl
  cases bs with
  | nil => exact ritem_many d g [] t o w h ht (.inr rfl) (by omega)
  | cons c ys =>
    rcases Nat.lt_or_eq_of_le ht with ht | rfl
    · exact ritem_byte d ih g c ys t o w h hG hT hd ht hl
    · exact ritem_many d g _ 512 o w h (Nat.le_refl _) (.inl rfl) (by omega)
/-- The document's item, for any bytes. -/
theorem ritem_ok : ∀ d : Nat, RItemOK d
  | 0 => ritem_bytes 0 (fun d' e => by omega)
  | d + 1 => ritem_bytes (d + 1) (fun d' e => by cases e; exact ritem_ok d)
end Go.Proofs.YtfmldcibhllpcaaDoor
