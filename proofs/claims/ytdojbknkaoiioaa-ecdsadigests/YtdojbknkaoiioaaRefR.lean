/-
  Contracts of the document's answer: bytes as a number (Read), a number as bytes (Bytes).
-/
import Derived.Test.YtdojbknkaoiioaaRefN
namespace Go.Proofs.Ytdojbknkaoiioaa
open Go.RowKit
set_option linter.unusedVariables false
set_option linter.unusedSimpArgs false

theorem pow256_2 (m : Nat) : (256 : Int) ^ (2 * m) = D16 ^ m := by rw [Int.pow_mul]; rfl

/-- Where a slice of the call's own lies: it is read there, and written. -/
theorem Own.spot {e : TypeId} {k : IntKind} {w : World} {base : Nat} {v : Value} {xs : List Int} (h : Own e k w base v xs) (h0 : 0 < xs.length) :
    ∃ g cap, v = .slice (some ⟨g, 0, none⟩) xs.length cap ∧ base ≤ g ∧ g < w.heap.size ∧ xs.length ≤ cap ∧ cap ≤ maxLen ∧ (∀ j, j < xs.length → w.cell? ⟨g, j, none⟩ = some (.int k (xs.getD j 0))) ∧ (∀ j, w.frozen? ⟨g, j, none⟩ = false) ∧
      ∀ j y, j < xs.length → Own e k (w.setCell ⟨g, j, none⟩ (.int k y)) base v (xs.set j y) := by
  rcases h.2 with ⟨rfl, h1⟩ | ⟨g, cap, cur, rfl, hg, hrow, h1, h2, h3, h4⟩
  · omega
  · refine ⟨g, cap, rfl, hg, (Array.getElem?_eq_some_iff.1 hrow).1, h1, h2, fun j hj => ?_, fun j => frozen_of_row w g j cur e hrow, fun j y hj => ⟨by simp, .inr ⟨g, cap, cur.set! j (.int k y), ?_, hg, heap_setCell_same w g j _ e _ hrow, ?_, h2, ?_, ?_⟩⟩⟩
    · rw [cell_of_row w g j cur e (0, 0) hrow]
      have : (cur.toList.take (xs.length * 1))[j]? = (xs.map (Value.int k))[j]? := by rw [h4]
      rw [List.getElem?_take, if_pos (by omega)] at this
      rw [← Array.getElem?_toList, this]
      simp [hj]
    · simp
    · simpa using h1
    · simpa using h3
    · have e1 : (cur.set! j (Value.int k y)).toList = cur.toList.set j (.int k y) := by simp
      rw [e1, List.length_set, List.take_set, h4, List.map_set]

/-- What Read has gathered when i bytes have been gone over, the last first. -/
def RReads (rb : List Int) (i : Nat) (ds : List Int) : Prop :=
  ds.length = (i + 1) / 2 ∧ Dg D16 ds ∧ (i % 2 = 1 → ds.getD (i / 2) 0 < 256) ∧ val D16 ds = low 256 rb i
theorem RReads.even {rb : List Int} {m : Nat} {ds : List Int} (h : RReads rb (2 * m) ds) (hd : 0 ≤ rb.getD (2 * m) 0 ∧ rb.getD (2 * m) 0 < 256) : RReads rb (2 * m + 1) (ds ++ [rb.getD (2 * m) 0]) := by
  obtain ⟨h1, h2, h3, h4⟩ := h
  have hl : ds.length = m := by omega
  refine ⟨by simp [hl]; omega, h2.append (Dg.cons (by unfold D16; omega) (Dg.nil _)), fun _ => ?_, ?_⟩
  · rw [show (2 * m + 1) / 2 = m by omega]
    have : (ds ++ [rb.getD (2 * m) 0]).getD m 0 = rb.getD (2 * m) 0 := by simp [List.getD, List.getElem?_append, hl]
    rw [this]; exact hd.2
  · rw [val_snoc, low_succ, h4, hl, pow256_2]
theorem RReads.odd {rb : List Int} {m : Nat} {ds : List Int} (h : RReads rb (2 * m + 1) ds) (hd : 0 ≤ rb.getD (2 * m + 1) 0 ∧ rb.getD (2 * m + 1) 0 < 256) : RReads rb (2 * m + 1 + 1) (ds.set m (ds.getD m 0 + 256 * rb.getD (2 * m + 1) 0)) := by
  obtain ⟨h1, h2, h3, h4⟩ := h
  have hl : ds.length = m + 1 := by omega
  have h3' := h3 (by omega)
  rw [show (2 * m + 1) / 2 = m by omega] at h3'
  have g := h2.getD D16_pos m
  refine ⟨by simp [hl]; omega, h2.set _ ⟨by omega, by unfold D16; omega⟩, fun e => by omega, ?_⟩
  rw [val_set _ _ _ _ (by omega), low_succ, h4, Int.pow_succ, pow256_2]
  generalize D16 ^ m = p at *
  grind

set_option maxHeartbeats 2000000 in
/-- the document's Read. -/
theorem rRead_any (ao : Option Addr) (n ca : Nat) (bs : List Int) (w : World) (h : NumIn .u8 256 w ao n ca bs) (hn : n ≤ 2000) :
    Calls Try.prog 32 #[.slice ao n ca] w fun e w' => ∃ v, e = .returned v ∧ NumOut .i64 D16 w w' v (val 256 bs.reverse) 1001 := by
  have hl := h.len
  go_enter Try.func32, Try.ntmps32
  go_wp2
  go_loopw [3, 4] (fun vo vi wr => ∃ (i : Nat) (ds : List Int), i ≤ n ∧ vi = .int .i64 i ∧ Own 3 .i64 wr w.heap.size vo ds ∧ RReads bs.reverse i ds ∧ Below w.heap.size w wr) (fun _ vi _ => n - (intOf vi).toNat)
  case atStart => exact ⟨0, [], Nat.zero_le _, rfl, Own.nil _ _ _ _, ⟨rfl, Dg.nil _, fun e => by omega, by simp [val, low_zero]⟩, Below.refl _ _⟩
  case round =>
    obtain ⟨i, ds, hi, rfl, hown, hs, hb⟩ := hrel
    by_cases hlt : i < n
    · have hx := h.lies.old hb
      obtain ⟨b, off, rfl, hblk, hcs⟩ := hx.at (by omega)
      have hcell := hcs (n - 1 - i) (by omega)
      have gx := h.dg.getD (by decide) (n - 1 - i)
      have er := getD_reverse bs i (by omega)
      rw [hl] at er
      have hlen := hs.1
      have hbs := hb.size
      obtain ⟨p, hp⟩ : ∃ p, n - 1 - i = p := ⟨_, rfl⟩
      rw [hp] at hcell gx er
      have hpn : p < n := by omega
      have hpe : n = p + 1 + i := by omega
      clear hp
      rw [← er] at gx hcell
      rcases (show i % 2 = 0 ∨ i % 2 = 1 by omega) with hpar | hpar
      · obtain ⟨m, rfl⟩ : ∃ m, i = 2 * m := ⟨i / 2, by omega⟩
        have HS : Hid (RReads bs.reverse (2 * m + 1) (ds ++ [bs.reverse.getD (2 * m) 0])) := hs.even gx
        have HLB : Hid (ds.length < 1073741824) := by unfold Hid; omega
        generalize bs.reverse.getD (2 * m) 0 = x at *
        obtain ⟨i, hie⟩ : ∃ i, 2 * m = i := ⟨_, rfl⟩
        rw [hie] at hlt hi hpe HS hlen ⊢
        have hev : (i : Int) % 2 = 0 := by omega
        have ek : (n : Int) - 1 - (i : Int) = (p : Int) := by omega
        clear hs hx hcs h hl er hpar hlen hie hpe
        go_wp2_with (at_builtin; refine wpList_append_one rfl _ _ 66 rfl 3 .i64 8 Try.underlying66 Try.infoI w.heap.size u3 ds x (by rfl) hown (by rfl) HLB.out (by decide) w hb hbs ?_)
        intro v' w' hown' hb'
        clear hown hb hbs
        go_wp2
        go_roundw
        case rel => exact ⟨i + 1, _, by omega, by go_num, hown', HS.out, hb'⟩
        case measure => simp [intOf] <;> omega
      · obtain ⟨m, rfl⟩ : ∃ m, i = 2 * m + 1 := ⟨i / 2, by omega⟩
        have HS : Hid (RReads bs.reverse (2 * m + 1 + 1) (ds.set m (ds.getD m 0 + 256 * bs.reverse.getD (2 * m + 1) 0))) := hs.odd gx
        obtain ⟨g, cap, hv, hg1, hg2, hg3, hg4, hcl, hfz, hset⟩ := hown.spot (by omega)
        have hm : m < ds.length := by omega
        have hcg := hcl m hm
        have hfr := hfz m
        have gd := hs.2.1.getD D16_pos m
        have gd0 := gd.1
        have gd1 : ds.getD m 0 < 65536 := gd.2
        have hbne : b < w.heap.size := by
          obtain ⟨b', off', e, hlt', _⟩ := h.lies.at (by omega)
          injection e with e
          injection e with e
          omega
        have hne : b ≠ g := by omega
        have HO : Hid (Own 3 .i64 (wr.setCell ⟨g, m, none⟩ (.int .i64 (ds.getD m 0 + 256 * bs.reverse.getD (2 * m + 1) 0))) w.heap.size (.slice (some ⟨g, 0, none⟩) ds.length cap) (ds.set m (ds.getD m 0 + 256 * bs.reverse.getD (2 * m + 1) 0))) := by have := hset m (ds.getD m 0 + 256 * bs.reverse.getD (2 * m + 1) 0) hm; rw [hv] at this; exact this
        have HB : Hid (Below w.heap.size w wr) := hb
        subst hv
        generalize bs.reverse.getD (2 * m + 1) 0 = x at *
        generalize ds.getD m 0 = y at *
        obtain ⟨i, hie⟩ : ∃ i, 2 * m + 1 = i := ⟨_, rfl⟩
        rw [hie] at hlt hi hpe HS hlen ⊢
        have hev : (i : Int) % 2 = 1 := by omega
        have ehalf : (i : Int) / 2 = (m : Int) := by omega
        have ek : (n : Int) - 1 - (i : Int) = (p : Int) := by omega
        have hmi : (m : Int) < (ds.length : Int) := by omega
        generalize ds.length = L at *
        clear hs hx hcs h hl er hpar hlen hie hpe hset hcl hfz hown hb gd
        go_wp2
        go_region
        all_goals
          go_wp2
          go_roundw
          case rel => exact ⟨i + 1, _, by omega, by go_num, HO.out, HS.out, (HB.out.setCell (by assumption) _).drew⟩
          case measure => simp [intOf] <;> omega
    · obtain rfl : i = n := by omega
      have hlen := hs.1
      obtain ⟨a2, c2, hv, hnum⟩ := hown.num hs.2.1 (by omega)
      have HV : Hid (val D16 ds = val 256 bs.reverse) := by
        unfold Hid
        have e : bs.reverse.length = i := by simp [hl]
        rw [hs.2.2.2, ← e, low_len]
      have HN : Hid (NumIn .i64 D16 wr a2 ds.length c2 ds) := hnum
      have HB : Hid (Below w.heap.size w wr) := hb
      have HL : Hid (ds.length ≤ 1001) := by unfold Hid; omega
      subst hv
      clear hown hs hnum hb h hlen
      go_wp2_with fail
      refine (rtrim_any a2 ds.length c2 ds wr HN.out).mono ?_
      rintro e w4 ⟨rfl, rfl⟩
      go_wp2
      go_ret
      exact ⟨_, rfl, HN.out.out HB.out _ HV.out _ HL.out⟩

end Go.Proofs.Ytdojbknkaoiioaa
