/-
  Contracts of sha.New, Put, Sum, Of; nil ones.
-/
import Derived.Test.YtclejcjbnmgaiaaShaV
namespace Go.Proofs.Ytclejcjbnmgaiaa
open Go.RowKit
set_option linter.unusedVariables false
set_option linter.unusedSimpArgs false
attribute [local go_sem ↓] keep_l8 keep_l64 keep_s8 keep_s32

/-- A hash at block g, of all that was put in. -/
def HashAt (w : World) (g : Nat) (all : List Int) : Prop := ∃ ws rs, HRow w g all.length ws rs ∧ Holds all ws rs
theorem HashAt.lt {w : World} {g : Nat} {all : List Int} (h : HashAt w g all) : g < w.heap.size := by obtain ⟨ws, rs, h, _⟩ := h; exact h.lt
theorem HashAt.old {w w' : World} {g B : Nat} {all : List Int} (h : HashAt w g all) (hb : Below B w w') (hg : g < B) : HashAt w' g all := by obtain ⟨ws, rs, h, h2⟩ := h; exact ⟨ws, rs, h.old hb hg, h2⟩

theorem put_grow {all bs : List Int} {s len : Nat} (hs : all.length = s) (hl : bs.length = len) {w : World} {g : Nat} {ws rs : List Int} (h : HRow w g ((s : Int) + (len : Int)) ws rs) (hh : Holds (all ++ bs) ws rs) : HashAt w g (all ++ bs) := by
  refine ⟨ws, rs, ?_, hh⟩
  rw [List.length_append, hs, hl]
  have e : ((s + len : Nat) : Int) = (s : Int) + (len : Int) := by omega
  rw [e]
  exact h

set_option maxRecDepth 100000 in
set_option maxHeartbeats 2000000 in
/-- Put. -/
theorem Put_any (g : Nat) (all bs : List Int) (ao : Option Addr) (len cap : Nat) (w : World) (h : HashAt w g all) (hd : Dg 256 bs) (hl : Lies .u8 w ao len bs) (hne : ∀ b off s, ao = some ⟨b, off, s⟩ → b ≠ g) (hlc : len ≤ cap) (hcm : cap ≤ maxLen) (hnn : ao = none → cap = 0) (hsm : all.length + len ≤ 1000000000000000) :
    Calls Try.prog 10 #[.pointer (some ⟨g, 0, none⟩), .slice ao len cap] w fun e w' => (∃ v, e = .returned v) ∧ HashAt w' g (all ++ bs) ∧ But g w w' := by
  obtain ⟨ws, rs, hh, ho⟩ := h
  obtain ⟨s, hs⟩ : ∃ s, all.length = s := ⟨_, rfl⟩
  obtain ⟨r, hr⟩ : ∃ r, s % 64 = r := ⟨_, rfl⟩
  rw [hs] at hh hsm
  have hsz := hh.size
  have hrI : (s : Int) % 64 = (r : Int) := by omega
  have hr64 : r < 64 := by omega
  have hbl := hl.len
  by_cases hfew : r + len < 64
  · have hfI : ((len : Int) < 64 - (r : Int)) := by omega
    have hSR := slice_rest g r hr64
    have HH : Hid (HRow w g s ws rs ∧ Lies .u8 w ao len bs) := ⟨hh, hl⟩
    have HF : Hid (Holds (all ++ bs) ws (rs.take r ++ bs.take len ++ rs.drop (r + len)) ∧ all.length = s ∧ bs.length = len) := by
      have := holds_few ho hh.lr r (by rw [hs]; exact hr) (by rw [hbl]; exact hfew) hd (by rw [hs, hbl]; exact hsm)
      rw [hbl] at this
      exact ⟨this, hs, hbl⟩
    clear ho hs hr hl hne hh
    go_enter Try.func10, Try.ntmps10
    go_wp2_with ((with_reducible show wpList _ _ _ (Oper.mk _ (Op.call { callee := .builtin .copy, args := _, argTypes := _ }) _ _ _ _ :: _) _ _); refine wpList_copy_rest (w := w) (by with_reducible rfl) _ _ 22 22 (by with_reducible rfl) 5 Try.underlying22 Try.sizeB g r ao _ _ _ _ (by rfl) (by rfl) (s : Int) ws rs bs HH.out.1 HH.out.2 (by omega) len (by omega) ?_; intro wZ hhZ hbZ hsZ; have hcz := hhZ.size; have hfz := hhZ.frozen 0)
    exact ⟨rfl, _, results_none rfl _ _, ⟨_, rfl⟩, put_grow HF.out.2.1 HF.out.2.2 (hhZ.setSize _) HF.out.1, hbZ.trans (But.setCell _ _ _ _)⟩
  · have hfI : ¬ ((len : Int) < 64 - (r : Int)) := by omega
    have HPB := putBlocks_any g all bs ws rs s r ao len cap w hs hr hh ho hd hl hne hlc hcm hnn (by omega) hsm
    have HF : Hid (all.length = s ∧ bs.length = len) := ⟨hs, hbl⟩
    clear ho hs hr hl hne hh
    go_enter Try.func10, Try.ntmps10
    go_wp2_with (go_at_call 17; refine HPB.mono ?_; rintro e wZ ⟨⟨v, rfl⟩, wsZ, rsZ, hhZ, hoZ, hbZ⟩; have hcz := hhZ.size; have hfz := hhZ.frozen 0)
    exact ⟨rfl, _, results_none rfl _ _, ⟨_, rfl⟩, put_grow HF.out.1 HF.out.2 (hhZ.setSize _) hoZ, hbZ.trans (But.setCell _ _ _ _)⟩

/-- Put on a nil one. -/
theorem Put_nil (ao : Option Addr) (len cap : Nat) (w : World) : Calls Try.prog 10 #[.pointer none, .slice ao len cap] w fun e w' => (∃ v, e = .returned v) ∧ w' = w := by
  go_enter Try.func10, Try.ntmps10
  go_wp2
  exact ⟨rfl, _, results_none rfl _ _, ⟨_, rfl⟩, rfl⟩
end Go.Proofs.Ytclejcjbnmgaiaa
