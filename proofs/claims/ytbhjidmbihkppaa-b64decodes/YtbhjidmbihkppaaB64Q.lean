/-
  The document's Decode.
-/
import Derived.Test.YtbhjidmbihkppaaB64R
namespace Go.Proofs.Ytbhjidmbihkppaa
open Go.RowKit
set_option linter.unusedVariables false
set_option linter.unusedSimpArgs false

/-- The place of a sign among the first k, or -1. -/
def fv (c k : Nat) : Int := if isS c = true ∧ vS c < k then (vS c : Int) else -1
theorem fv_zero (c : Nat) : fv c 0 = -1 := by simp [fv]
theorem fv_hit (k : Nat) (h : k < 64) : fv (sg k) (k + 1) = (k : Int) := by
  have := sg_facts k h
  unfold fv
  rw [if_pos ⟨this.1, by rw [this.2.1]; omega⟩, this.2.1]
theorem fv_miss (c k : Nat) (h : sg k ≠ c) : fv c (k + 1) = fv c k := by
  unfold fv
  by_cases hS : isS c = true
  · have hv := vS_facts c (isS_lt hS) hS
    have hne : vS c ≠ k := fun e => h (by rw [← e]; exact hv.1)
    by_cases hlt : vS c < k
    · rw [if_pos ⟨hS, by omega⟩, if_pos ⟨hS, hlt⟩]
    · rw [if_neg (fun x => by omega), if_neg (fun x => hlt x.2)]
  · rw [if_neg (fun x => hS x.1), if_neg (fun x => hS x.1)]
theorem fv_yes {c : Nat} (h : isS c = true) : fv c 64 = (vS c : Int) := by
  unfold fv
  rw [if_pos ⟨h, vS_lt c⟩]
theorem fv_no {c : Nat} (h : ¬ isS c = true) : fv c 64 = -1 := by
  unfold fv
  rw [if_neg (fun x => h x.1)]
theorem fv_bounds (c k : Nat) : -1 ≤ fv c k ∧ fv c k < 64 := by
  have := vS_lt c
  unfold fv
  split <;> omega

/-- The first u bits of a byte. -/
def pt (B u : Nat) : Nat := B / 2 ^ (8 - min u 8) * 2 ^ (8 - min u 8)
theorem pt_zero {B : Nat} (h : B < 256) : pt B 0 = 0 := by
  simp [pt, Nat.div_eq_of_lt h]
theorem pt_eight (B u : Nat) (h : 8 ≤ u) : pt B u = B := by
  simp [pt, Nat.min_eq_right h]
theorem pt_le (B u : Nat) : pt B u ≤ B := Nat.div_mul_le_self _ _
theorem pt_succ (B u : Nat) (h : u < 8) : pt B (u + 1) = pt B u + B / 2 ^ (7 - u) % 2 * 2 ^ (7 - u) := by
  unfold pt
  rw [Nat.min_eq_left (by omega), Nat.min_eq_left (by omega), show 8 - u = (7 - u) + 1 by omega, show 8 - (u + 1) = 7 - u by omega, Nat.pow_succ, ← Nat.div_div_eq_div_mul]
  generalize 2 ^ (7 - u) = d
  generalize B / d = q
  have e : q = q / 2 * 2 + q % 2 := by omega
  conv => lhs; rw [e]
  rw [Nat.add_mul, Nat.mul_assoc, Nat.mul_comm 2 d]

theorem getD_set_me (l : List Int) (i : Nat) (x : Int) (h : i < l.length) : (l.set i x).getD i 0 = x := by simp [List.getD, h]
/-- A byte of the answer. -/
def by8 (cs : List Nat) (c : Nat) : Nat := be 64 (cs.map vS) / 2 ^ (6 * cs.length - 8 * c - 8) % 256
theorem by8_lt (cs : List Nat) (c : Nat) : by8 cs c < 256 := Nat.mod_lt _ (by decide)
theorem by8_get (cs : List Nat) (c : Nat) (h : c < 6 * cs.length / 8) : (byt (cs.map vS)).getD c 0 = by8 cs c := by
  simp [byt, by8, List.getD, h]
/-- The answer's bytes, when T bits have been laid. -/
def OutP (cs : List Nat) (T : Nat) (cur : List Int) : Prop := cur.length = 6 * cs.length / 8 ∧ ∀ c, c < 6 * cs.length / 8 → cur.getD c 0 = ((pt (by8 cs c) (T - 8 * c) : Nat) : Int)
theorem OutP.zero (cs : List Nat) : OutP cs 0 (List.replicate (6 * cs.length / 8) 0) := by
  refine ⟨by simp, fun c hc => ?_⟩
  rw [show 0 - 8 * c = 0 by omega, pt_zero (by8_lt cs c)]
  simp [List.getD, hc]
theorem by8_bit (cs : List Nat) (T : Nat) (hT : T / 8 < 6 * cs.length / 8) : by8 cs (T / 8) / 2 ^ (7 - T % 8) % 2 = be 64 (cs.map vS) / 2 ^ (6 * cs.length - 1 - T) % 2 := by
  unfold by8
  rw [show (256 : Nat) = 2 ^ 8 by rfl, low_bit _ 8 _ (by omega), Nat.div_div_eq_div_mul, ← Nat.pow_add, show 6 * cs.length - 8 * (T / 8) - 8 + (7 - T % 8) = 6 * cs.length - 1 - T by omega]
theorem OutP.other {cs : List Nat} {T : Nat} {cur : List Int} (h : OutP cs T cur) (c : Nat) (hc : c < 6 * cs.length / 8) (hne : c ≠ T / 8) : cur.getD c 0 = ((pt (by8 cs c) (T + 1 - 8 * c) : Nat) : Int) := by
  rw [h.2 c hc]
  by_cases hlt : c < T / 8
  · rw [pt_eight _ _ (by omega), pt_eight _ _ (by omega)]
  · rw [show T - 8 * c = 0 by omega, show T + 1 - 8 * c = 0 by omega]
theorem OutP.skip {cs : List Nat} {T : Nat} {cur : List Int} (h : OutP cs T cur) (hz : T / 8 < 6 * cs.length / 8 → be 64 (cs.map vS) / 2 ^ (6 * cs.length - 1 - T) % 2 = 0) : OutP cs (T + 1) cur := by
  refine ⟨h.1, fun c hc => ?_⟩
  by_cases hne : c = T / 8
  · subst hne
    rw [h.2 _ hc, show T + 1 - 8 * (T / 8) = T % 8 + 1 by omega, show T - 8 * (T / 8) = T % 8 by omega, pt_succ _ _ (by omega), by8_bit cs T hc, hz hc]
    simp
  · exact h.other c hc hne
theorem OutP.set {cs : List Nat} {T : Nat} {cur : List Int} (h : OutP cs T cur) (hc : T / 8 < 6 * cs.length / 8) (hz : be 64 (cs.map vS) / 2 ^ (6 * cs.length - 1 - T) % 2 = 1) :
    OutP cs (T + 1) (cur.set (T / 8) (cur.getD (T / 8) 0 + ((2 ^ (7 - T % 8) : Nat) : Int))) ∧ cur.getD (T / 8) 0 + ((2 ^ (7 - T % 8) : Nat) : Int) < 256 ∧ 0 ≤ cur.getD (T / 8) 0 := by
  have e : cur.getD (T / 8) 0 + ((2 ^ (7 - T % 8) : Nat) : Int) = ((pt (by8 cs (T / 8)) (T % 8 + 1) : Nat) : Int) := by
    rw [h.2 _ hc, show T - 8 * (T / 8) = T % 8 by omega, pt_succ _ _ (by omega), by8_bit cs T hc, hz]
    simp
  refine ⟨⟨by simpa using h.1, fun c hc' => ?_⟩, ?_, ?_⟩
  · by_cases hne : c = T / 8
    · subst hne
      rw [getD_set_me _ _ _ (by rw [h.1]; exact hc), e, show T + 1 - 8 * (T / 8) = T % 8 + 1 by omega]
    · rw [show ∀ y, (cur.set (T / 8) y).getD c 0 = cur.getD c 0 from fun y => by simp only [List.getD, List.getElem?_set_ne (fun x => hne x.symm)]]
      exact h.other c hc' hne
  · rw [e]
    have := pt_le (by8 cs (T / 8)) (T % 8 + 1)
    have := by8_lt cs (T / 8)
    omega
  · rw [h.2 _ hc]; omega
theorem OutP.done {cs : List Nat} {cur : List Int} (h : OutP cs (6 * cs.length) cur) : cur = ints (byt (cs.map vS)) := by
  have hl : cur.length = (ints (byt (cs.map vS))).length := by rw [h.1, ints_length, byt_length, List.length_map]
  apply List.ext_getElem hl
  intro c h1 h2
  have hc : c < 6 * cs.length / 8 := by rw [← h.1]; exact h1
  have e := h.2 c hc
  rw [pt_eight _ _ (by omega), ← by8_get cs c hc] at e
  have h3 : c < (byt (cs.map vS)).length := by rw [byt_length, List.length_map]; exact hc
  simp only [List.getD, List.getElem?_eq_getElem h1, List.getElem?_eq_getElem h3, Option.getD_some] at e
  rw [e]
  simp [ints]
/-- A bit of a sign's value. -/
theorem sign_bit (cs : List Nat) (i k : Nat) (hi : i < cs.length) (hk : k < 6) : vS (cs.getD i 0) / 2 ^ (5 - k) % 2 = be 64 (cs.map vS) / 2 ^ (6 * cs.length - 1 - (6 * i + k)) % 2 := by
  have h64 : ∀ x ∈ cs.map vS, x < 64 := fun x hx => by
    obtain ⟨c, _, rfl⟩ := List.mem_map.1 hx
    exact vS_lt c
  have e := be_dig h64 i (by simpa using hi)
  rw [List.length_map] at e
  have e2 : (cs.map vS).getD i 0 = vS (cs.getD i 0) := by simp [List.getD, hi]
  rw [← e2, ← e]
  generalize be 64 (cs.map vS) = V
  rw [p64, show (64 : Nat) = 2 ^ 6 by rfl, low_bit _ 6 _ (by omega), Nat.div_div_eq_div_mul, ← Nat.pow_add, show 6 * (cs.length - 1 - i) + (5 - k) = 6 * cs.length - 1 - (6 * i + k) by omega]

theorem toList_ne' {a b : ByteArray} (h : a ≠ b) : (a.toList == b.toList) = false := by
  rw [ByteArray.toList_eq, ByteArray.toList_eq]
  cases e : a.data.toList == b.data.toList with
  | false => rfl
  | true =>
    exfalso
    apply h
    obtain ⟨⟨a⟩⟩ := a
    obtain ⟨⟨b⟩⟩ := b
    have := eq_of_beq e
    simp at this
    rw [this]

/-- What the document's Decode says. -/
def RDecSaid (e : TypeId) (cs : List Nat) (w w' : World) (r : Ending) : Prop :=
  (Good cs ∧ ∃ v, r = .returned (.tuple #[v, .bool true]) ∧ Own e .u8 w' w.heap.size v (ints (byt (cs.map vS)))) ∨ (¬ Good cs ∧ r = .returned (.tuple #[.slice none 0 0, .bool false]))

set_option maxHeartbeats 4000000 in
/-- The document's Decode. -/
theorem rDec_any (s : ByteArray) (w : World) (hl : s.size ≤ 16384) :
    Calls Try.prog 12 #[.string s] w fun e w' => RDecSaid 5 (cods s) w w' e ∧ Below w.heap.size w w' := by
  have HTX : Hid (¬ Good (cods s) → txt (byt ((cods s).map vS)) ≠ s) := fun hn e => hn (by have := good_txt (byt_lt ((cods s).map vS)); rw [e] at this; exact this)
  have HTY : Hid (Good (cods s) → txt (byt ((cods s).map vS)) = s) := fun g => txt_byt g
  obtain ⟨cs, hcs⟩ : ∃ cs, cods s = cs := ⟨_, rfl⟩
  have HC : Hid (cs.length = s.size ∧ ∀ i (h : i < s.size), cs.getD i 0 = (s[i]'h).toNat) := by rw [← hcs]; exact ⟨cods_length s, cods_at s⟩
  rw [hcs] at HTX HTY ⊢
  clear hcs
  obtain ⟨n, hn⟩ : ∃ n, 6 * s.size / 8 = n := ⟨_, rfl⟩
  have hnI : 6 * (s.size : Int) / 8 = (n : Int) := by omega
  have hn1 : n ≤ 16384 := by omega
  have HN : Hid (6 * cs.length / 8 = n) := by rw [HC.out.1]; exact hn
  clear hn
  go_enter Try.func12, Try.ntmps12
  go_wp2_with (at_make; refine wpList_make_row _ rfl _ _ 22 rfl 5 .u8 1 Try.underlying22 Try.infoB _ _ _ _ n rfl rfl (by first | rfl | omega) (by first | rfl | omega) (by omega) (by unfold maxLen; omega) ?_; intro w1 hr1 hb1)
  rw [show (⟨#[65, 66, 67, 68, 69, 70, 71, 72, 73, 74, 75, 76, 77, 78, 79, 80, 81, 82, 83, 84, 85, 86, 87, 88, 89, 90, 97, 98, 99, 100, 101, 102, 103, 104, 105, 106, 107, 108, 109, 110, 111, 112, 113, 114, 115, 116, 117, 118, 119, 120, 121, 122, 48, 49, 50, 51, 52, 53, 54, 55, 56, 57, 45, 95]⟩ : ByteArray) = signsT from rfl]
  have hS := signsT_size
  have HSA : Hid (∀ x : Nat, (h : x < signsT.size) → (signsT[x]'h).toNat = sg x) := fun x h => signsT_at x h
  generalize signsT = S at *
  have HR1 : Hid (Row 5 .u8 w1 w.heap.size (List.replicate n 0) ∧ Below w.heap.size w w1) := ⟨hr1, hb1⟩
  clear hr1 hb1
  go_loopw [6] (fun vi wr => ∃ (i : Nat) (cur : List Int), i ≤ s.size ∧ vi = .int .i64 i ∧ Row 5 .u8 wr w.heap.size cur ∧ OutP cs (6 * i) cur ∧ Below w.heap.size w wr ∧ ∀ j, j < i → isS (cs.getD j 0) = true) (fun vi _ => s.size - (intOf vi).toNat)
  case atStart => exact ⟨0, _, by omega, rfl, HR1.out.1, by have := OutP.zero cs; rw [HN.out] at this; exact this, HR1.out.2, fun j h => by omega⟩
  case round =>
    obtain ⟨i, cur, hi, rfl, hrw, hm, hbw, hsg⟩ := hrel
    clear HR1
    by_cases hlt : i < s.size
    · have hltI : (i : Int) < (s.size : Int) := by omega
      have hcp := HC.out.2 i hlt
      have HW : Hid (Row 5 .u8 wr w.heap.size cur ∧ OutP cs (6 * i) cur ∧ Below w.heap.size w wr ∧ ∀ j, j < i → isS (cs.getD j 0) = true) := ⟨hrw, hm, hbw, hsg⟩
      obtain ⟨c, hc⟩ : ∃ c, cs.getD i 0 = c := ⟨_, rfl⟩
      rw [hc] at hcp
      have HCC : Hid (cs.getD i 0 = c) := hc
      have hcp' : (s[i]'hlt).toNat = c := hcp.symm
      clear hrw hm hbw hsg hc hcp
      go_wp2
      generalize wr = wo at *
      go_loopw [7, 8] (fun vv vk wr => ∃ k : Nat, k ≤ 64 ∧ vk = .int .i64 k ∧ vv = .int .i64 (fv c k) ∧ Drew wo wr) (fun _ vk _ => 64 - (intOf vk).toNat)
      case atStart => exact ⟨0, by omega, rfl, by rw [fv_zero], Drew.refl _⟩
      case round =>
        obtain ⟨k, hk, rfl, rfl, hdr⟩ := hrel
        by_cases hk64 : k < 64
        · have hkI : (k : Int) < 64 := by omega
          have hsat := HSA.out k (by rw [hS]; exact hk64)
          by_cases he : sg k = c
          · have hfh := fv_hit k hk64
            rw [he] at hfh hsat
            have HF : Hid (fv c (k + 1) = (k : Int)) := hfh
            generalize fv c k = z at *
            clear hfh he
            have HDR : Hid (Drew wo wr) := hdr
            clear hdr
            go_wp2
            go_quiet (fail)
            go_wp2
            go_roundw
            case rel => exact ⟨k + 1, by omega, by go_num, by rw [HF.out], HDR.out.more _⟩
            case measure => simp [intOf] <;> omega
          · have HF : Hid (fv c (k + 1) = fv c k) := fv_miss c k he
            obtain ⟨y, hy⟩ : ∃ y, sg k = y := ⟨_, rfl⟩
            rw [hy] at hsat he
            have heb : ((y : Int) == (c : Int)) = false := by simp; omega
            clear hy
            have HDR : Hid (Drew wo wr) := hdr
            clear hdr
            go_wp2
            go_quiet (fail)
            go_wp2
            go_roundw
            case rel => exact ⟨k + 1, by omega, by go_num, by rw [HF.out], HDR.out.more _⟩
            case measure => simp [intOf] <;> omega
        · obtain rfl : k = 64 := by omega
          have HWr : Hid (Row 5 .u8 wr w.heap.size cur ∧ OutP cs (6 * i) cur ∧ Below w.heap.size w wr ∧ ∀ j, j < i → isS (cs.getD j 0) = true) := by
            obtain ⟨nq, rfl⟩ := hdr
            exact ⟨HW.out.1.drewN _, HW.out.2.1, HW.out.2.2.1.trans (Drew.below ⟨_, rfl⟩ _), HW.out.2.2.2⟩
          clear HW hdr
          by_cases hSg : isS c = true
          · rw [fv_yes hSg]
            have hv := vS_lt c
            obtain ⟨v, hvv⟩ : ∃ v, vS c = v := ⟨_, rfl⟩
            rw [hvv] at hv ⊢
            have HV : Hid (vS c = v ∧ isS c = true) := ⟨hvv, hSg⟩
            have hv0 : ¬ (v : Int) < 0 := by omega
            clear hvv hSg
            go_wp2
            generalize wr = wp at *
            go_loopw [9] (fun vk wr => ∃ (k : Nat) (cur : List Int), k ≤ 6 ∧ vk = .int .i64 k ∧ Row 5 .u8 wr w.heap.size cur ∧ OutP cs (6 * i + k) cur ∧ Below w.heap.size w wr) (fun vk _ => 6 - (intOf vk).toNat)
            case atStart => exact ⟨0, cur, by omega, rfl, HWr.out.1, HWr.out.2.1, HWr.out.2.2.1⟩
            case round =>
              obtain ⟨k, cur2, hk6, rfl, hrw2, hm2, hbw2⟩ := hrel
              have HSG : Hid (∀ j, j < i → isS (cs.getD j 0) = true) := HWr.out.2.2.2
              clear HWr hk64 hk
              by_cases hk : k < 6
              · have hkI : (k : Int) < 6 := by omega
                have hsb := sign_bit cs i k (by rw [HC.out.1]; exact hlt) hk
                rw [HCC.out, HV.out.1] at hsb
                obtain ⟨T, hT⟩ : ∃ T, 6 * i + k = T := ⟨_, rfl⟩
                have hTI : 6 * (i : Int) + (k : Int) = (T : Int) := by omega
                have hTb : T ≤ 98304 := by omega
                obtain ⟨e, he⟩ : ∃ e, 5 - k = e := ⟨_, rfl⟩
                have heI : 5 - (k : Int) = (e : Int) := by omega
                have he6 : e < 6 := by omega
                obtain ⟨Y, hY⟩ : ∃ Y, v / 2 ^ e = Y := ⟨_, rfl⟩
                have hYI : (v : Int) / 2 ^ e = (Y : Int) := by rw [← hY]; simp
                rw [he, hY, hT] at hsb
                rw [hT] at hm2
                obtain ⟨q, hq⟩ : ∃ q, T / 8 = q := ⟨_, rfl⟩
                obtain ⟨r, hr⟩ : ∃ r, T % 8 = r := ⟨_, rfl⟩
                obtain ⟨f, hf⟩ : ∃ f, 7 - r = f := ⟨_, rfl⟩
                have hqI : (T : Int) / 8 = (q : Int) := by omega
                have hrI : (T : Int) % 8 = (r : Int) := by omega
                have hfI : 7 - (r : Int) = (f : Int) := by omega
                have hf8 : f < 8 := by omega
                by_cases hz : Y % 2 = 1
                · have hzI : ((Y : Int) % 2 == 1) = true := by simp; omega
                  by_cases hqn : q < n
                  · have hqnI : (q : Int) < (n : Int) := by omega
                    have hst := hm2.set (by rw [hq, HN.out]; exact hqn) (by rw [← hsb]; exact hz)
                    rw [hq, hr, hf] at hst
                    have hc := hrw2.cell q (by have := hm2.1; rw [HN.out] at this; omega)
                    have hfz := hrw2.frozen q
                    obtain ⟨hst1, hst2, hst3⟩ := hst
                    generalize hy : cur2.getD q 0 = y at *
                    obtain ⟨p2, hp2⟩ : ∃ p2, 2 ^ f = p2 := ⟨_, rfl⟩
                    rw [hp2] at hst1 hst2
                    have hp2I : (2 : Int) ^ f = (p2 : Int) := by rw [← hp2]; simp
                    have HO : Hid (OutP cs (T + 1) (cur2.set q (y + (p2 : Int))) ∧ Row 5 .u8 wr w.heap.size cur2 ∧ Below w.heap.size w wr ∧ 6 * i + k = T) := ⟨hst1, hrw2, hbw2, hT⟩
                    clear hst1 hm2 hsb hY he hT hq hr hf hz hrw2 hbw2 hy
                    go_wp2
                    go_region
                    go_wp2
                    refine ⟨⟨k + 1, cur2.set q (y + (p2 : Int)), by omega, by go_num, HO.out.2.1.set q _, by rw [show 6 * i + (k + 1) = T + 1 by have := HO.out.2.2.2; omega]; exact HO.out.1, (HO.out.2.2.1.setCell (Nat.le_refl _) _).drew⟩, ?_⟩
                    simp [intOf] <;> omega
                  · have hqnI : ¬ (q : Int) < (n : Int) := by omega
                    have HO : Hid (OutP cs (T + 1) cur2 ∧ Row 5 .u8 wr w.heap.size cur2 ∧ Below w.heap.size w wr ∧ 6 * i + k = T) := ⟨hm2.skip (fun x => by rw [hq, HN.out] at x; omega), hrw2, hbw2, hT⟩
                    clear hm2 hsb hY he hT hq hr hf hz hrw2 hbw2
                    go_wp2
                    go_roundw
                    case rel => exact ⟨k + 1, cur2, by omega, by go_num, HO.out.2.1, by rw [show 6 * i + (k + 1) = T + 1 by have := HO.out.2.2.2; omega]; exact HO.out.1, HO.out.2.2.1⟩
                    case measure => simp [intOf] <;> omega
                · have hzI : ((Y : Int) % 2 == 1) = false := by simp; omega
                  have HO : Hid (OutP cs (T + 1) cur2 ∧ Row 5 .u8 wr w.heap.size cur2 ∧ Below w.heap.size w wr ∧ 6 * i + k = T) := ⟨hm2.skip (fun _ => by rw [← hsb]; omega), hrw2, hbw2, hT⟩
                  clear hm2 hsb hY he hT hq hr hf hz hrw2 hbw2
                  go_wp2
                  go_roundw
                  case rel => exact ⟨k + 1, cur2, by omega, by go_num, HO.out.2.1, by rw [show 6 * i + (k + 1) = T + 1 by have := HO.out.2.2.2; omega]; exact HO.out.1, HO.out.2.2.1⟩
                  case measure => simp [intOf] <;> omega
              · obtain rfl : k = 6 := by omega
                have HO : Hid (OutP cs (6 * (i + 1)) cur2) := hm2
                clear hm2
                go_wp2
                go_roundw
                case rel => exact ⟨i + 1, cur2, by omega, by go_num, hrw2, HO.out, hbw2, fun j hj => by
                  by_cases ej : j = i
                  · rw [ej, HCC.out]; exact HV.out.2
                  · exact HSG.out j (by omega)⟩
                case measure => simp [intOf] <;> omega
          · rw [fv_no hSg]
            have HB : Hid (¬ Good cs) := fun g => by
              have hp' : i < cs.length := by rw [HC.out.1]; exact hlt
              have := g.1 (cs.getD i 0) (by simp [List.getD, hp'])
              rw [HCC.out] at this
              exact hSg this
            clear hSg
            go_wp2
            go_ret2
            exact ⟨.inr ⟨HB.out, rfl⟩, HWr.out.2.2.1⟩
    · obtain rfl : i = s.size := by omega
      rw [← HC.out.1] at hm
      have hcur := hm.done
      subst hcur
      have hall : ∀ c ∈ cs, isS c = true := by
        intro c hc
        obtain ⟨j, hj, rfl⟩ := List.mem_iff_getElem.1 hc
        have := hsg j (by rw [← HC.out.1]; exact hj)
        simpa [List.getD, hj] using this
      have hln : (ints (byt (cs.map vS))).length = n := by rw [ints_length, byt_length, List.length_map, HN.out]
      have hnum := hrw.num (B := 256) (ints_dg (byt_lt _)) (by rw [hln]; omega)
      rw [hln] at hnum
      have HE := rEnc_any _ _ _ _ _ hnum (by omega)
      rw [nats_ints] at HE
      have HR : Hid (Row 5 .u8 wr w.heap.size (ints (byt (cs.map vS))) ∧ Below w.heap.size w wr ∧ (ints (byt (cs.map vS))).length = n) := ⟨hrw, hbw, hln⟩
      clear hrw hm hbw hsg hall hln hnum hnI
      by_cases g : Good cs
      · rw [HTY.out g] at HE
        go_wp2_with (go_at_call 10; refine HE.mono ?_; rintro e w3 ⟨rfl, hb3⟩)
        go_ret2
        refine ⟨.inl ⟨g, _, rfl, ?_⟩, HR.out.2.1.trans (hb3.mono HR.out.2.1.size)⟩
        have hlt0 := HR.out.1.lt
        have := (HR.out.1.below hb3 hlt0).own (base := w.heap.size) (Nat.le_refl _) (by rw [HR.out.2.2]; omega)
        rw [HR.out.2.2] at this
        exact this
      · have hne := HTX.out g
        generalize txt (byt (cs.map vS)) = t at *
        have hnl := toList_ne' hne
        go_wp2_with (go_at_call 10; refine HE.mono ?_; rintro e w3 ⟨rfl, hb3⟩)
        go_ret2
        exact ⟨.inr ⟨g, rfl⟩, HR.out.2.1.trans (hb3.mono HR.out.2.1.size)⟩
end Go.Proofs.Ytbhjidmbihkppaa
