import Derived.Test.YtnacgkkklmlhaaaK05
/-
  The signer's hex: digits of base sixteen as a number.
-/
namespace Go.Proofs.Ytnacgkkklmlhaaa
open Go.Shelf Go.RowKit
set_option linter.unusedVariables false
set_option linter.unusedSimpArgs false

def hcods (s : ByteArray) : List Nat := s.data.toList.map fun x => x.toNat
theorem hcods_at (s : ByteArray) (i : Nat) (h : i < s.size) : (hcods s).getD i 0 = (s[i]'h).toNat := by
  have h' : i < s.data.toList.length := by simpa using h
  simp [hcods, List.getD, h']
  rw [Array.getElem?_eq_getElem (by simpa using h)]
  rfl
def hexT : ByteArray := ⟨#[48, 49, 50, 51, 52, 53, 54, 55, 56, 57, 97, 98, 99, 100, 101, 102]⟩
def hgt (k : Nat) : Nat := if k < 10 then 48 + k else 87 + k
theorem hexT_size : hexT.size = 16 := rfl
theorem hexT_at : ∀ x, (h : x < hexT.size) → (hexT[x]'h).toNat = hgt x := by decide
/-- A sign's worth among the first k. -/
def hv (c : Nat) : Nat → Int
  | 0 => 0
  | k + 1 => if hgt k = c then (k : Int) else hv c k
theorem hv_range (c : Nat) : ∀ k, 0 ≤ hv c k ∧ (hv c k = 0 ∨ hv c k < k)
  | 0 => by simp [hv]
  | k + 1 => by
    have := hv_range c k
    unfold hv
    split <;> omega
def hstep (L i : Nat) (v : Int) (b : List Int) : List Int := if (L - i) % 2 = 0 ∨ (i = 0 ∧ L % 2 = 1) then b ++ [v] else b.set (b.length - 1) ((b.getD (b.length - 1) 0 * 16 % 256 + v) % 256)
/-- The bytes so far. -/
def hexB (cs : List Nat) (L : Nat) : Nat → List Int
  | 0 => []
  | i + 1 => hstep L i (hv (cs.getD i 0) 16) (hexB cs L i)
theorem hexB_facts (cs : List Nat) (L : Nat) : ∀ i, i ≤ L → (hexB cs L i).length ≤ i ∧ (0 < i → 0 < (hexB cs L i).length) ∧ Dg 256 (hexB cs L i)
  | 0, _ => ⟨by simp [hexB], fun h => by omega, by simp [hexB, Dg.nil]⟩
  | i + 1, hi => by
    obtain ⟨h1, h2, h3⟩ := hexB_facts cs L i (by omega)
    have hr := hv_range (cs.getD i 0) 16
    unfold hexB hstep
    split
    · exact ⟨by simp; omega, fun _ => by simp, h3.append (Dg.cons (by omega) (Dg.nil _))⟩
    · rename_i hc
      have : 0 < i := by
        rcases Nat.eq_zero_or_pos i with h | h
        · exfalso
          apply hc
          subst h
          omega
        · exact h
      exact ⟨by simp; omega, fun _ => by simpa using h2 this, h3.set _ (by omega)⟩
theorem OwnAt.ownR {e : TypeId} {k : IntKind} {w : World} {g cap base : Nat} {xs : List Int} (h : OwnAt e k w g cap xs) (hb : base ≤ g) : Own e k w base (.slice (some ⟨g, 0, none⟩) xs.length cap) xs := by
  obtain ⟨cur, h1, h2, h3⟩ := h.blk
  exact ⟨by simp, .inr ⟨g, cap, cur, rfl, hb, h1, h.lc, h.cm, by rw [h3, Nat.mul_one], by rw [Nat.mul_one]; exact h2⟩⟩
theorem Own.drewN {e : TypeId} {k : IntKind} {w : World} {base : Nat} {v : Value} {xs : List Int} (h : Own e k w base v xs) (n : Nat) : Own e k (w.drewN n) base v xs := h.below (Drew.below ⟨n, rfl⟩ _)
set_option maxRecDepth 100000 in
set_option maxHeartbeats 8000000 in
theorem hex_any (s : ByteArray) (w : World) (hl : s.size ≤ 1000) :
    Calls Try.prog 51 #[.string s] w fun e w' => ∃ v, e = .returned v ∧ NumOut .i64 D16 w w' v (val 256 (hexB (hcods s) s.size s.size).reverse) 1001 := by
  obtain ⟨cs, hcs⟩ : ∃ cs, hcods s = cs := ⟨_, rfl⟩
  have HC : Hid (∀ i (h : i < s.size), cs.getD i 0 = (s[i]'h).toNat) := by rw [← hcs]; exact hcods_at s
  rw [hcs]
  clear hcs
  have HF := hexB_facts cs s.size
  go_enter Try.func51, Try.ntmps51
  go_wp2
  rw [show (⟨#[48, 49, 50, 51, 52, 53, 54, 55, 56, 57, 97, 98, 99, 100, 101, 102]⟩ : ByteArray) = hexT from rfl]
  have hS := hexT_size
  have HSA : Hid (∀ x : Nat, (h : x < hexT.size) → (hexT[x]'h).toNat = hgt x) := fun x h => hexT_at x h
  generalize hexT = S at *
  go_loopw [3, 5] (fun vb vi wr => ∃ i : Nat, i ≤ s.size ∧ vi = .int .i64 i ∧ Own 5 .u8 wr w.heap.size vb (hexB cs s.size i) ∧ Below w.heap.size w wr) (fun _ vi _ => s.size - (intOf vi).toNat)
  case atStart => exact ⟨0, by omega, rfl, Own.nil _ _ _ _, Below.refl _ _⟩
  case round =>
    obtain ⟨i, hi, rfl, hown, hbw⟩ := hrel
    by_cases hlt : i < s.size
    · have hltI : (i : Int) < (s.size : Int) := by omega
      obtain ⟨c, hc⟩ : ∃ c, cs.getD i 0 = c := ⟨_, rfl⟩
      have hcp : (s[i]'hlt).toNat = c := by rw [← hc]; exact (HC.out i hlt).symm
      have HCC : Hid (hexB cs s.size (i + 1) = hstep s.size i (hv c 16) (hexB cs s.size i)) := by rw [← hc]; rfl
      have HI := HF i (by omega)
      have hx := hv_range c 16
      generalize hexB cs s.size i = bs at *
      obtain ⟨ao, cap, hv5, hlc, hcm⟩ := hown.openR
      have HW : Hid (Own 5 .u8 wr w.heap.size u3 bs ∧ Below w.heap.size w wr) := ⟨hown, hbw⟩
      subst hv5
      have HII : Hid (bs.length ≤ i ∧ (0 < i → 0 < bs.length) ∧ Dg 256 bs) := HI
      unfold maxLen at hcm
      clear hown hbw hc HF HI
      go_wp2
      generalize wr = wo at *
      go_loopw [6, 7] (fun vv vk wr => ∃ k : Nat, k ≤ 16 ∧ vk = .int .i64 k ∧ vv = .int .i64 (hv c k) ∧ Drew wo wr) (fun _ vk _ => 16 - (intOf vk).toNat)
      case atStart => exact ⟨0, by omega, rfl, rfl, Drew.refl _⟩
      case round =>
        obtain ⟨k, hk, rfl, rfl, hdr⟩ := hrel
        by_cases hk16 : k < 16
        · have hkI : (k : Int) < 16 := by omega
          have hsat := HSA.out k (by rw [hS]; exact hk16)
          by_cases he : hgt k = c
          · have HH : Hid (hv c (k + 1) = (k : Int)) := by unfold Hid hv; rw [if_pos he]
            rw [he] at hsat
            have HDR : Hid (Drew wo wr) := hdr
            generalize hv c k = z at *
            clear he hdr
            go_wp2
            go_quiet (fail)
            go_wp2
            go_roundw
            case rel => exact ⟨k + 1, by omega, by go_num, by rw [HH.out], HDR.out.more _⟩
            case measure => simp [intOf] <;> omega
          · have HH : Hid (hv c (k + 1) = hv c k) := by unfold Hid; rw [hv, if_neg he]
            obtain ⟨y, hy⟩ : ∃ y, hgt k = y := ⟨_, rfl⟩
            rw [hy] at hsat he
            have heb : ((y : Int) == (c : Int)) = false := by simp; omega
            have HDR : Hid (Drew wo wr) := hdr
            clear hy hdr
            go_wp2
            go_quiet (fail)
            go_wp2
            go_roundw
            case rel => exact ⟨k + 1, by omega, by go_num, by rw [HH.out], HDR.out.more _⟩
            case measure => simp [intOf] <;> omega
        · obtain rfl : k = 16 := by omega
          have HWr : Hid (Own 5 .u8 wr w.heap.size (.slice ao bs.length cap) bs ∧ Below w.heap.size w wr) := by
            obtain ⟨nq, rfl⟩ := hdr
            exact ⟨HW.out.1.drewN _, HW.out.2.trans (Drew.below ⟨_, rfl⟩ _)⟩
          clear HW hdr
          obtain ⟨x, hxx⟩ : ∃ x, hv c 16 = x := ⟨_, rfl⟩
          rw [hxx] at hx HCC
          rw [hxx]
          clear hxx
          have hx0 : 0 ≤ x := hx.1
          have hx1 : x < 16 := by omega
          have hxw : IntKind.u8.wrap x = x := by simp [IntKind.wrap, IntKind.bits, IntKind.signed]; omega
          obtain ⟨M, hM⟩ : ∃ M, s.size = M := ⟨_, rfl⟩
          by_cases hp : (s.size - i) % 2 = 0
          · have hpI : ((s.size : Int) - (i : Int)).tmod 2 = 0 := by rw [Int.tmod_eq_emod_of_nonneg (by omega)]; omega
            have HN : Hid (hexB cs s.size (i + 1) = bs ++ [x]) := by unfold Hid; rw [HCC.out, hstep, if_pos (.inl hp)]
            have HLB : Hid (bs.length < 1073741824) := by have := HII.out.1; unfold Hid; omega
            clear hp hx HCC hM
            go_wp2_with (at_builtin; refine wpList_append_one rfl _ _ 48 rfl 5 .u8 1 Try.underlying48 Try.infoB w.heap.size (.slice ao bs.length cap) bs x (by rfl) HWr.out.1 (by rfl) HLB.out (by decide) w HWr.out.2 HWr.out.2.size ?_; intro v6 w6 hown6 hb6)
            go_roundw
            case rel => exact ⟨i + 1, by omega, by go_num, by rw [HN.out]; exact hown6, hb6⟩
            case measure => simp [intOf] <;> omega
          · have hpI : ((s.size : Int) - (i : Int)).tmod 2 = 1 := by rw [Int.tmod_eq_emod_of_nonneg (by omega)]; omega
            by_cases hi0 : i = 0
            · have hqI : ((s.size : Int)).tmod 2 = 1 := by rw [Int.tmod_eq_emod_of_nonneg (by omega)]; omega
              have HN : Hid (hexB cs s.size (i + 1) = bs ++ [x]) := by unfold Hid; rw [HCC.out, hstep, if_pos (.inr ⟨hi0, by omega⟩)]
              have HLB : Hid (bs.length < 1073741824) := by have := HII.out.1; unfold Hid; omega
              have hi0I : (i : Int) = 0 := by omega
              have hi0B : ((i : Int) == 0) = true := by simp [hi0]
              clear hp hx HCC hM
              go_wp2_with (at_builtin; refine wpList_append_one rfl _ _ 48 rfl 5 .u8 1 Try.underlying48 Try.infoB w.heap.size (.slice ao bs.length cap) bs x (by rfl) HWr.out.1 (by rfl) HLB.out (by decide) w HWr.out.2 HWr.out.2.size ?_; intro v6 w6 hown6 hb6)
              go_roundw
              case rel => exact ⟨i + 1, by omega, by go_num, by rw [HN.out]; exact hown6, hb6⟩
              case measure => simp [intOf] <;> omega
            · obtain ⟨g, cap', hv', hat, hgb⟩ := HWr.out.1.at (HII.out.2.1 (by omega))
              injection hv' with e1 e2 e3
              subst e1
              subst e3
              have hi0B : ((i : Int) == 0) = false := by simp [hi0]
              have hl0 : 0 < bs.length := HII.out.2.1 (by omega)
              have hc5 := hat.cell (bs.length - 1) (by omega)
              have hf5 := hat.frozen (bs.length - 1)
              have hyd := HII.out.2.2.getD (by decide) (bs.length - 1)
              have HN : Hid (hexB cs s.size (i + 1) = bs.set (bs.length - 1) ((bs.getD (bs.length - 1) 0 * 16 % 256 + x) % 256)) := by unfold Hid; rw [HCC.out, hstep, if_neg (fun h => by rcases h with h | h <;> omega)]
              have HAT : Hid (OwnAt 5 .u8 wr g cap bs ∧ w.heap.size ≤ g ∧ Below w.heap.size w wr) := ⟨hat, hgb, HWr.out.2⟩
              generalize bs.getD (bs.length - 1) 0 = y at *
              obtain ⟨m, hm⟩ : ∃ m, bs.length = m + 1 := ⟨bs.length - 1, by omega⟩
              have hmI : ((bs.length : Nat) : Int) - 1 = (m : Int) := by omega
              have hmN : bs.length - 1 = m := by omega
              rw [hmN] at hc5 hf5 HN
              have hw1 : IntKind.u8.wrap (y * 16) = y * 16 % 256 := by simp [IntKind.wrap, IntKind.bits, IntKind.signed]
              have hw2 : IntKind.u8.wrap (y * 16 % 256 + x) = (y * 16 % 256 + x) % 256 := by simp [IntKind.wrap, IntKind.bits, IntKind.signed]
              have hmL : (m : Int) < (bs.length : Int) := by omega
              have HLen : Hid (bs.length = m + 1) := hm
              clear hp hx HCC hM hat hm HWr hmN
              go_wp2
              go_roundw
              case rel =>
                refine ⟨i + 1, by omega, by go_num, ?_, HAT.out.2.2.setCell HAT.out.2.1 _⟩
                have h9 := (HAT.out.1.set m (by have := HLen.out; omega) ((y * 16 + x) % 256)).ownR HAT.out.2.1
                rw [List.length_set] at h9
                rw [HN.out, show (y * 16 % 256 + x) % 256 = (y * 16 + x) % 256 by omega]
                exact h9
              case measure => simp [intOf] <;> omega
    · obtain rfl : i = s.size := by omega
      have HI := HF s.size (by omega)
      obtain ⟨ao, cap, rfl, hnum⟩ := hown.num HI.2.2 (by omega)
      have HR := rRead_any ao _ cap _ wr hnum (by omega)
      have HBW : Hid (Below w.heap.size w wr) := hbw
      clear hown hbw HF HI hnum
      go_wp2_with fail
      refine HR.mono ?_
      rintro e w2 ⟨v, rfl, hout⟩
      obtain ⟨q1, q2, q3, q4, rfl, p1, p2, p3, p4, p5⟩ := hout
      go_wp2
      go_ret
      exact ⟨_, rfl, q1, q2, q3, q4, rfl, p1, p2, p3, p4, HBW.out.trans (p5.mono HBW.out.size)⟩
end Go.Proofs.Ytnacgkkklmlhaaa
