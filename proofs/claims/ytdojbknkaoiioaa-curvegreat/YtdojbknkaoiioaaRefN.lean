/-
  Contracts of the document's answer: a number of digits as limbs (Nat), two numbers as they stand (Same), and the law's own 'is'.
-/
import Derived.Test.YtdojbknkaoiioaaRef
namespace Go.Proofs.Ytdojbknkaoiioaa
open Go.RowKit
set_option linter.unusedVariables false
set_option linter.unusedSimpArgs false

/-- The number that n digits from place p on say. -/
def hi (ds : List Int) (p : Nat) : Nat → Int
  | 0 => 0
  | n + 1 => ds.getD p 0 + 65536 * hi ds (p + 1) n
theorem hi_range (ds : List Int) (hd : Dg D16 ds) : ∀ (n p : Nat), 0 ≤ hi ds p n ∧ hi ds p n < D16 ^ n
  | 0, p => by simp [hi]
  | n + 1, p => by
    have h := hi_range ds hd n (p + 1)
    have g := hd.getD D16_pos p
    rw [hi, Int.pow_succ]
    unfold D16 at *
    omega
theorem hi_low (ds : List Int) : ∀ (n p : Nat), low D16 ds (p + n) = low D16 ds p + D16 ^ p * hi ds p n
  | 0, p => by simp [hi]
  | n + 1, p => by
    have h := hi_low ds n (p + 1)
    rw [show p + (n + 1) = p + 1 + n by omega, h, hi, low_succ, Int.pow_succ]
    have : D16 = 65536 := rfl
    generalize D16 ^ p = q at *
    rw [this]
    grind
/-- A number that fills its digits has no zeros above. -/
theorem canon_of_ge {B : Int} (hB : 1 < B) {xs : List Int} (hd : Dg B xs) (n : Nat) (hl : xs.length = n + 1) (h : B ^ n ≤ val B xs) : Canon xs := by
  unfold Canon
  have ht := top_le xs
  by_cases e : top xs = xs.length
  · exact e
  · exfalso
    have a := val_lt (by omega) (hd.take (top xs))
    rw [val_take_top] at a
    have c : (xs.take (top xs)).length = top xs := by simp; omega
    rw [c] at a
    have d := pow_mono (B := B) (by omega) (show top xs ≤ n by omega)
    omega
/-- What Nat has gathered: m limbs. -/
def Nats (ds : List Int) (m : Nat) (outs : List Int) : Prop := outs.length = m ∧ Dg B64 outs ∧ val B64 outs = low D16 ds (4 * m)
theorem Nats.step {ds : List Int} {m : Nat} {outs : List Int} (hd : Dg D16 ds) (h : Nats ds m outs) : Nats ds (m + 1) (outs ++ [hi ds (4 * m) 4]) := by
  obtain ⟨h1, h2, h3⟩ := h
  have hr := hi_range ds hd 4 (4 * m)
  rw [D16_4] at hr
  refine ⟨by simp [h1], h2.append (Dg.cons hr (Dg.nil _)), ?_⟩
  rw [val_snoc, h3, h1, show 4 * (m + 1) = 4 * m + 4 by omega, hi_low, pow_D]
theorem Nats.done {ds : List Int} {m : Nat} {outs : List Int} (h : Nats ds m outs) (hd : Dg D16 ds) (hc : Canon ds) (h1 : ds.length ≤ 4 * m) (h2 : 4 * m < ds.length + 4) : val B64 outs = val D16 ds ∧ Canon outs := by
  obtain ⟨e1, e2, e3⟩ := h
  have hv : val B64 outs = val D16 ds := by rw [e3]; exact low_all _ _ _ (by unfold Canon at hc; omega)
  refine ⟨hv, ?_⟩
  cases m with
  | zero =>
    have : outs = [] := List.eq_nil_of_length_eq_zero e1
    rw [this]; exact Canon.nil
  | succ m =>
    refine canon_of_ge B64_one e2 m e1 ?_
    rw [hv, ← pow_D]
    have a := val_ge D16_pos hd (ds.length - 1) (by unfold Canon at hc; omega)
    have b := pow_mono (B := D16) (by decide) (show 4 * m ≤ ds.length - 1 by omega)
    omega

set_option maxHeartbeats 4000000 in
/-- the document's Nat. -/
theorem rNat_any (ao : Option Addr) (la ca : Nat) (ds : List Int) (w : World) (h : NumIn .i64 D16 w ao la ca ds) (hc : Canon ds) (hla : la ≤ 1000000) :
    Calls Try.prog 38 #[.slice ao la ca] w fun e w' => ∃ v, e = .returned v ∧ NumOut .u64 B64 w w' v (val D16 ds) la := by
  have hl := h.len
  go_enter Try.func38, Try.ntmps38
  go_wp2
  go_loopw [3, 4] (fun vo vi wr => ∃ (m : Nat) (outs : List Int), 4 * m < la + 4 ∧ vi = .int .i64 ((4 * m : Nat) : Int) ∧ Own 34 .u64 wr w.heap.size vo outs ∧ Nats ds m outs ∧ Below w.heap.size w wr) (fun _ vi _ => la + 4 - (intOf vi).toNat)
  case atStart => exact ⟨0, [], by omega, rfl, Own.nil _ _ _ _, ⟨rfl, Dg.nil _, by simp [val, low_zero]⟩, Below.refl _ _⟩
  case round =>
    obtain ⟨m, outs, hi0, rfl, hown, hns, hb⟩ := hrel
    by_cases hlt : 4 * m < la
    · have hx := h.lies.old hb
      obtain ⟨b, off, rfl, hblk, hcs⟩ := hx.at (by omega)
      have HC : Hid (∀ i, i < la → wr.cell? ⟨b, off + i, none⟩ = some (.int .i64 (ds.getD i 0))) := hcs
      have HN : Hid (Nats ds m outs) := hns
      have HOWN : Hid (Own 34 .u64 wr w.heap.size u3 outs) := hown
      have HB : Hid (Below w.heap.size w wr) := hb
      have HD : Hid (Dg D16 ds) := h.dg
      clear hns hown hb hcs hx h hc
      go_wp2
      go_loop [5, 6] (fun vx vk => ∃ (kk : Nat), kk ≤ 4 ∧ vk = .int .i64 ((kk : Int) - 1) ∧ vx = .int .u64 (hi ds (4 * m + kk) (4 - kk))) (fun _ vk => (intOf vk + 1).toNat)
      case atStart => exact ⟨4, by omega, rfl, rfl⟩
      case round =>
        obtain ⟨kk, hk, rfl, rfl⟩ := hrel
        by_cases hk0 : kk = 0
        · subst hk0
          have HS : Hid (Nats ds (m + 1) (outs ++ [hi ds (4 * m) 4])) := HN.out.step HD.out
          have hlen := HN.out.1
          have HLB : Hid (outs.length < 1073741824) := by unfold Hid; omega
          have hbs := HB.out.size
          have hbw := HB.out
          have how := HOWN.out
          rw [show 4 * m + 0 = 4 * m from rfl, show 4 - 0 = 4 from rfl]
          generalize hi ds (4 * m) 4 = x at *
          clear HN HB HOWN HC HD hlen
          go_wp2_with (at_builtin; refine wpList_append_one rfl _ _ 27 rfl 34 .u64 8 Try.underlying27 Try.infoU w.heap.size u3 outs x (by rfl) how (by rfl) HLB.out (by decide) w hbw hbs ?_)
          intro v' w' hown' hb'
          clear how hbw hbs
          go_wp2
          go_roundw
          case rel => exact ⟨m + 1, _, by omega, by go_num, hown', HS.out, hb'⟩
          case measure => simp [intOf]; omega
        · obtain ⟨k, rfl⟩ : ∃ k, kk = k + 1 := ⟨kk - 1, by omega⟩
          have hr := hi_range ds HD.out (4 - (k + 1)) (4 * m + (k + 1))
          have hp := pow_mono (B := D16) (by decide) (show 4 - (k + 1) ≤ 3 by omega)
          have e3 : D16 ^ 3 = 281474976710656 := by decide
          rw [e3] at hp
          have hx2 : hi ds (4 * m + (k + 1)) (4 - (k + 1)) < 281474976710656 := by omega
          have hx1 := hr.1
          have hg := HD.out.getD D16_pos (4 * m + k)
          have HE : Hid (hi ds (4 * m + k) (4 - k) = ds.getD (4 * m + k) 0 + 65536 * hi ds (4 * m + (k + 1)) (4 - (k + 1))) := by
            unfold Hid
            rw [show 4 - k = (4 - (k + 1)) + 1 by omega, hi]
            rfl
          clear hr hp e3
          unfold D16 at hg
          by_cases hin : 4 * m + k < la
          · have hcell := HC.out (4 * m + k) hin
            generalize hi ds (4 * m + (k + 1)) (4 - (k + 1)) = x at *
            generalize ds.getD (4 * m + k) 0 = y at *
            have ei : ((4 * m + k : Nat) : Int) = 4 * (m : Int) + (k : Int) := by omega
            clear HN HB HOWN HC HD
            go_wp2
            go_round
            case rel => exact ⟨k, by omega, by go_num, by rw [HE.out]; go_num⟩
            case measure => simp [intOf] <;> omega
          · have hz : ds.getD (4 * m + k) 0 = 0 := by simp [List.getD, List.getElem?_eq_none (show ds.length ≤ 4 * m + k by omega)]
            rw [hz] at HE
            generalize hi ds (4 * m + (k + 1)) (4 - (k + 1)) = x at *
            clear HN HB HOWN HC HD hz hg
            go_wp2
            go_round
            case rel => exact ⟨k, by omega, by go_num, by rw [HE.out]; go_num⟩
            case measure => simp [intOf] <;> omega
    · have hdn := hns.done h.dg hc (by omega) (by omega)
      have hlen := hns.1
      obtain ⟨a2, c2, hv, hnum⟩ := hown.num hns.2.1 (by omega)
      have HF : Hid (NumOut .u64 B64 w wr (.slice a2 outs.length c2) (val D16 ds) la) := ⟨_, _, _, _, rfl, hnum, hdn.2, hdn.1, by omega, hb⟩
      subst hv
      clear hown hns hnum hb hdn hlen hc h
      go_wp2
      go_ret
      exact ⟨_, rfl, HF.out⟩

set_option maxHeartbeats 1000000 in
/-- the document's Same, of two numbers that are the same. -/
theorem Same_yes (ao bo : Option Addr) (n ca cb : Nat) (xs : List Int) (w : World) (h : Lies .u64 w ao n xs) (h' : Lies .u64 w bo n xs) (hn : n ≤ 1073741824) :
    Calls Try.prog 36 #[.slice ao n ca, .slice bo n cb] w fun e w' => e = .returned (.bool true) ∧ Drew w w' := by
  go_enter Try.func36, Try.ntmps36
  go_wp2
  go_loopw [5] (fun vi wr => ∃ (i : Nat), i ≤ n ∧ vi = .int .i64 i ∧ Drew w wr) (fun vi _ => n - (intOf vi).toNat)
  case atStart => exact ⟨0, Nat.zero_le _, rfl, Drew.refl _⟩
  case round =>
    obtain ⟨i, hi, rfl, hdr⟩ := hrel
    by_cases hlt : i < n
    · obtain ⟨b, off, rfl, hb, hc⟩ := h.at (by omega)
      obtain ⟨b2, off2, rfl, hb2, hc2⟩ := h'.at (by omega)
      have hcell := (hdr.cell _).trans (hc i hlt)
      have hcell2 := (hdr.cell _).trans (hc2 i hlt)
      generalize xs.getD i 0 = x at *
      have HDR : Hid (Drew w wr) := hdr
      clear hc hc2 h h' hdr
      go_wp2
      go_quiet (fail)
      go_wp2
      go_roundw
      case rel => exact ⟨i + 1, by omega, by go_num, HDR.out.more _⟩
      case measure => simp [intOf]; omega
    · obtain rfl : i = n := by omega
      clear h h'
      go_wp2
      go_ret
      exact ⟨rfl, hdr⟩

end Go.Proofs.Ytdojbknkaoiioaa
