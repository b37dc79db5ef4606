/-
  Contracts of the document's primes and Words.
-/
import Derived.Test.YtclejcjbnmgaiaaShaD
namespace Go.Proofs.Ytclejcjbnmgaiaa
open Go.RowKit
set_option linter.unusedVariables false
set_option linter.unusedSimpArgs false

theorem Try.infoI' : (Try.prog.info? 3).map (fun i => (i.zero, i.size, i.bytes)) = some (some (.int .i64 0), 1, 8) := by kernel_rfl
set_option maxHeartbeats 2000000 in
/-- the document's primes. -/
theorem rprimes_any (c N : Nat) (w : World) (hc : c ≤ 64) (hN1 : (pl N).length = c) (hN2 : ∀ n, 2 ≤ n → n < N → (pl n).length < c) (hN3 : 2 ≤ N) (hN4 : N ≤ 1000) :
    Calls Try.prog 22 #[.int .i64 c] w fun e w' => ∃ ao cap, e = .returned (.slice ao c cap) ∧ Lies .i64 w' ao c (plI N) ∧ Below w.heap.size w w' ∧ c ≤ cap := by
  have HN1 : Hid ((pl N).length = c) := hN1
  have HN2 : Hid (∀ n, 2 ≤ n → n < N → (pl n).length < c) := hN2
  clear hN1 hN2
  go_enter Try.func22, Try.ntmps22
  go_wp2
  go_loopw [3, 4] (fun vf vn wr => ∃ (n : Nat), 2 ≤ n ∧ n ≤ N ∧ vn = .int .i64 n ∧ Own 3 .i64 wr w.heap.size vf (plI n) ∧ Below w.heap.size w wr) (fun _ vn _ => N - (intOf vn).toNat)
  case atStart => exact ⟨2, by omega, by omega, rfl, Own.nil _ _ _ _, Below.refl _ _⟩
  case round =>
    obtain ⟨n, h2n, hnN, rfl, hown, hb⟩ := hrel
    have hlen : (pl n).length ≤ 64 := by
      by_cases h : n < N
      · have := HN2.out n h2n h; omega
      · have := HN1.out; rw [show n = N by omega]; omega
    obtain ⟨ao, cap, rfl, hnum⟩ := hown.num (B := 18446744073709551616) (fun x hx => by
      obtain ⟨y, hy, rfl⟩ := List.mem_map.1 hx
      have := pl_small n y hy
      omega) (by rw [plI_length]; omega)
    have HL : Hid (Lies .i64 wr ao (plI n).length (plI n)) := hnum.lies
    have hcp := hnum.lc
    obtain ⟨L, hL⟩ : ∃ L, (plI n).length = L := ⟨_, rfl⟩
    rw [hL] at hown HL hcp ⊢
    rw [plI_length] at hL
    have HLL : Hid ((pl n).length = L) := hL
    rw [hL] at hlen
    have HO : Hid (Own 3 .i64 wr w.heap.size (.slice ao L cap) (plI n) ∧ Below w.heap.size w wr) := ⟨hown, hb⟩
    clear hown hb hL hnum
    by_cases hlt : n < N
    · have hLc : L < c := by have := HN2.out n h2n hlt; have := HLL.out; omega
      have hltI : ((L : Int) < (c : Int)) := by omega
      go_wp2
      go_loop [5, 6] (fun vs vk => ∃ (j : Nat) (s : Bool), j ≤ L ∧ vk = .int .i64 j ∧ vs = .bool s ∧ (s = true ↔ ∀ i, i < j → n % (pl n).getD i 0 ≠ 0)) (fun _ vk => L - (intOf vk).toNat)
      case atStart => exact ⟨0, true, by omega, rfl, rfl, by simp⟩
      case round =>
        obtain ⟨j, s, hj, rfl, rfl, hs⟩ := hrel
        have HS : Hid (s = true ↔ ∀ i, i < j → n % (pl n).getD i 0 ≠ 0) := hs
        clear hs
        by_cases hjl : j < L
        · have hjI : ((j : Int) < (L : Int)) := by omega
          obtain ⟨b, off, rfl, hblk, hcs⟩ := HL.out.at (by omega)
          have hcl := hcs j (by omega)
          rw [plI_get n j (by have := HLL.out; omega)] at hcl
          have hpb := pl_get n j (by have := HLL.out; omega)
          obtain ⟨q, hq⟩ : ∃ q, (pl n).getD j 0 = q := ⟨_, rfl⟩
          rw [hq] at hcl hpb
          have HQ : Hid ((pl n).getD j 0 = q) := hq
          have hq0 : ¬ ((q : Int) = 0) := by omega
          clear hcs hq
          have HNEXT : Hid (∀ s2 : Bool, (s2 = true ↔ s = true ∧ n % q ≠ 0) → (s2 = true ↔ ∀ i, i < j + 1 → n % (pl n).getD i 0 ≠ 0)) := fun s2 h2 => by
            rw [h2, HS.out]
            constructor
            · rintro ⟨h3, h4⟩ i hi
              by_cases e : i = j
              · rw [e, HQ.out]; exact h4
              · exact h3 i (by omega)
            · intro h3
              exact ⟨fun i hi => h3 i (by omega), by have := h3 j (by omega); rw [HQ.out] at this; exact this⟩
          cases s with
          | false =>
            go_wp2
            go_round
            case rel => exact ⟨j + 1, false, by omega, by go_num, rfl, HNEXT.out false (by simp)⟩
            case measure => simp [intOf] <;> omega
          | true =>
            by_cases hz : n % q = 0
            · have HZ : Hid (n % q = 0) := hz
              have hzI : ((n : Int) % (q : Int)) = 0 := by omega
              clear hz
              go_wp2
              go_round
              case rel => exact ⟨j + 1, false, by omega, by go_num, rfl, HNEXT.out false (by simp [HZ.out])⟩
              case measure => simp [intOf] <;> omega
            · have HZ : Hid (n % q ≠ 0) := hz
              have hzI : ¬ ((n : Int) % (q : Int)) = 0 := by omega
              clear hz
              go_wp2
              go_round
              case rel => exact ⟨j + 1, true, by omega, by go_num, by rw [show ((n : Int) % (q : Int) != 0) = true from by simpa using hzI], HNEXT.out true (by simp [HZ.out])⟩
              case measure => simp [intOf] <;> omega
        · have hjI : ¬ ((j : Int) < (L : Int)) := by omega
          cases s with
          | true =>
            have HY : Hid (plI (n + 1) = plI n ++ [(n : Int)] ∧ (plI n).length < 1073741824) := by
              refine ⟨?_, by rw [plI_length]; have := HLL.out; omega⟩
              unfold plI
              rw [pl_yes n h2n (fun i hi => HS.out.1 rfl i (by have := HLL.out; omega))]
              simp
            go_wp2_with (at_builtin; refine wpList_append_one rfl _ _ 51 rfl 3 .i64 8 Try.underlying51 Try.infoI' w.heap.size (.slice ao L cap) (plI n) (n : Int) (by rfl) HO.out.1 (by rfl) HY.out.2 (by decide) w HO.out.2 HO.out.2.size ?_; intro v' w' hown' hb')
            go_roundw
            case rel => exact ⟨n + 1, by omega, by omega, by go_num, by rw [HY.out.1]; exact hown', hb'⟩
            case measure => simp [intOf] <;> omega
          | false =>
            have HY : Hid (plI (n + 1) = plI n) := by
              unfold Hid plI
              by_cases h : ∃ i, i < (pl n).length ∧ n % (pl n).getD i 0 = 0
              · obtain ⟨i, hi, h0⟩ := h
                rw [pl_no n i hi h0]
              · exfalso
                have := HS.out.2 (fun i hi h0 => h ⟨i, by have := HLL.out; omega, h0⟩)
                cases this
            go_wp2
            go_roundw
            case rel => exact ⟨n + 1, by omega, by omega, by go_num, by rw [HY.out]; exact HO.out.1, HO.out.2⟩
            case measure => simp [intOf] <;> omega
    · have hLc : L = c := by have := HN1.out; have := HLL.out; rw [show n = N by omega] at this; omega
      have HNN : Hid (n = N) := by unfold Hid; omega
      clear HN1 HN2
      have hltI : ¬ ((L : Int) < (c : Int)) := by omega
      go_wp2
      go_ret
      have e := HNN.out
      subst e
      subst hLc
      exact ⟨ao, cap, rfl, HL.out, HO.out.2, hcp⟩

/-- A slice of the call's own, at a known block. -/
structure OwnAt (e : TypeId) (k : IntKind) (w : World) (g cap : Nat) (xs : List Int) : Prop where
  blk : ∃ cur : Array Value, w.heap[g]? = some (.cells cur e (0, 0)) ∧ cur.toList.take xs.length = xs.map (Value.int k) ∧ cur.size = cap
  lc : xs.length ≤ cap
  cm : cap ≤ maxLen
theorem OwnAt.lt {e : TypeId} {k : IntKind} {w : World} {g cap : Nat} {xs : List Int} (h : OwnAt e k w g cap xs) : g < w.heap.size := by
  obtain ⟨cur, h1, _⟩ := h.blk
  exact (Array.getElem?_eq_some_iff.1 h1).1
theorem OwnAt.kept {e : TypeId} {k : IntKind} {w w' : World} {g cap : Nat} {xs : List Int} (h : OwnAt e k w g cap xs) (hk : w'.heap[g]? = w.heap[g]?) : OwnAt e k w' g cap xs := ⟨by rw [hk]; exact h.blk, h.lc, h.cm⟩
theorem OwnAt.below {e : TypeId} {k : IntKind} {w w' : World} {g cap B : Nat} {xs : List Int} (h : OwnAt e k w g cap xs) (hb : Below B w w') (hg : g < B) : OwnAt e k w' g cap xs := h.kept (hb.block g hg)
theorem OwnAt.cell {e : TypeId} {k : IntKind} {w : World} {g cap : Nat} {xs : List Int} (h : OwnAt e k w g cap xs) (j : Nat) (hj : j < xs.length) : w.cell? ⟨g, j, none⟩ = some (.int k (xs.getD j 0)) := by
  obtain ⟨cur, h1, h2, h3⟩ := h.blk
  rw [cell_of_row w g j cur e (0, 0) h1]
  have : (cur.toList.take xs.length)[j]? = (xs.map (Value.int k))[j]? := by rw [h2]
  rw [List.getElem?_take, if_pos hj] at this
  rw [← Array.getElem?_toList, this]
  simp [List.getD, hj]
theorem OwnAt.frozen {e : TypeId} {k : IntKind} {w : World} {g cap : Nat} {xs : List Int} (h : OwnAt e k w g cap xs) (j : Nat) : w.frozen? ⟨g, j, none⟩ = false := by
  obtain ⟨cur, h1, _⟩ := h.blk
  exact frozen_of_row w g j cur e h1
theorem OwnAt.lies {e : TypeId} {k : IntKind} {w : World} {g cap : Nat} {xs : List Int} (h : OwnAt e k w g cap xs) {n : Nat} (hn : xs.length = n) : Lies k w (some ⟨g, 0, none⟩) n xs :=
  ⟨hn, .inr ⟨g, 0, rfl, h.lt, fun i hi => by rw [Nat.zero_add]; exact h.cell i (by omega)⟩⟩
theorem OwnAt.set {e : TypeId} {k : IntKind} {w : World} {g cap : Nat} {xs : List Int} (h : OwnAt e k w g cap xs) (j : Nat) (hj : j < xs.length) (y : Int) : OwnAt e k (w.setCell ⟨g, j, none⟩ (.int k y)) g cap (xs.set j y) := by
  obtain ⟨cur, h1, h2, h3⟩ := h.blk
  refine ⟨⟨cur.setIfInBounds j (.int k y), heap_setCell_same w g j cur e _ h1, ?_, by simpa using h3⟩, by simpa using h.lc, h.cm⟩
  rw [List.length_set, Array.toList_setIfInBounds, List.take_set, h2, List.map_set]
theorem Own.at {e : TypeId} {k : IntKind} {w : World} {base : Nat} {v : Value} {xs : List Int} (h : Own e k w base v xs) (hx : 0 < xs.length) : ∃ g cap, v = .slice (some ⟨g, 0, none⟩) xs.length cap ∧ OwnAt e k w g cap xs ∧ base ≤ g := by
  rcases h.2 with ⟨rfl, h0⟩ | ⟨g, cap, cur, rfl, hg, hrow, h1, h2, h3, h4⟩
  · omega
  · exact ⟨g, cap, rfl, ⟨⟨cur, hrow, by simpa using h4, by simpa using h3⟩, h1, h2⟩, hg⟩

def g2 (p : Int) : Int := rtAt p 2 41 % 4294967296
def g3 (p : Int) : Int := rtAt p 3 41 % 4294967296
theorem K_ref' : ((plI 312).take 64).map g3 = KS := by decide +kernel
theorem H_ref' : ((plI 312).take 8).map g2 = HS := by decide +kernel
theorem take_map_succ (l : List Int) (g : Int → Int) (i : Nat) (h : i < l.length) : (l.take (i + 1)).map g = (l.take i).map g ++ [g (l.getD i 0)] := by
  rw [List.take_succ_eq_append_getElem h, List.map_append]
  have : l.getD i 0 = l[i] := by simp [List.getD, h]
  rw [this]
  rfl

set_option maxRecDepth 100000 in
set_option maxHeartbeats 2000000 in
/-- the document's Words. -/
theorem Words_any (w : World) : Calls Try.prog 15 #[] w fun e w' => ∃ gh ch gk ck, e = .returned (.tuple #[.slice (some ⟨gh, 0, none⟩) 8 ch, .slice (some ⟨gk, 0, none⟩) 64 ck]) ∧ OwnAt 41 .u32 w' gh ch HS ∧ OwnAt 41 .u32 w' gk ck KS ∧ gh ≠ gk ∧ w.heap.size ≤ gh ∧ w.heap.size ≤ gk ∧ Below w.heap.size w w' := by
  have HP := rprimes_any 64 312 w (by omega) pl312 (fun n _ h => by have := pl_mono (show n ≤ 311 by omega); rw [pl311] at this; omega) (by omega) (by omega)
  have HT : Hid (((plI 312).take 64).map g3 = KS ∧ ((plI 312).take 8).map g2 = HS ∧ (plI 312).length = 64 ∧ ∀ j, 0 ≤ (plI 312).getD j 0 ∧ (plI 312).getD j 0 < 65536) := by
    refine ⟨K_ref', H_ref', by rw [plI_length]; exact pl312, fun j => ?_⟩
    by_cases h : j < (pl 312).length
    · rw [plI_get _ _ h]; have := pl_get 312 j h; omega
    · rw [getD_over _ _ (by rw [plI_length]; omega)]; omega
  generalize plI 312 = l at *
  go_enter Try.func15, Try.ntmps15
  go_wp2_with fail
  refine HP.mono ?_
  rintro e w1 ⟨ao, cap, rfl, hlies, hb1, hcap⟩
  obtain ⟨b, off, rfl, hblk, _⟩ := hlies.at (by omega)
  have HL : Hid (Lies .i64 w1 (some ⟨b, off, none⟩) 64 l ∧ Below w.heap.size w w1 ∧ b < w1.heap.size) := ⟨hlies, hb1, hblk⟩
  clear hlies hb1 HP
  go_wp2
  go_loopw [3, 5] (fun vh vi wr => ∃ (i : Nat), i ≤ 8 ∧ vi = .int .i64 i ∧ Own 41 .u32 wr w1.heap.size vh ((l.take i).map g2) ∧ Below w1.heap.size w1 wr) (fun _ vi _ => 8 - (intOf vi).toNat)
  case atStart => exact ⟨0, by omega, rfl, Own.nil _ _ _ _, Below.refl _ _⟩
  case round =>
    obtain ⟨i, hi, rfl, hown, hb⟩ := hrel
    by_cases hlt : i < 8
    · have hc : wr.cell? ⟨b, off + i, none⟩ = some (.int .i64 (l.getD i 0)) := by
        obtain ⟨b', off', e, _, hcs⟩ := (HL.out.1.old hb).at (by omega)
        cases e
        exact hcs i (by omega)
      have HR := fun w => sRoot_any (l.getD i 0) 2 w (HT.out.2.2.2 i).1 (HT.out.2.2.2 i).2 (by omega) (by omega)
      have HE : Hid ((l.take (i + 1)).map g2 = (l.take i).map g2 ++ [rtAt (l.getD i 0) 2 41 % 4294967296] ∧ ((l.take i).map g2).length < 1073741824) := ⟨take_map_succ l g2 i (by have := HT.out; omega), by simp; omega⟩
      have HO : Hid (Own 41 .u32 wr w1.heap.size u3 ((l.take i).map g2) ∧ Below w1.heap.size w1 wr) := ⟨hown, hb⟩
      generalize rtAt (l.getD i 0) 2 41 % 4294967296 = y at *
      generalize l.getD i 0 = p at *
      generalize (l.take i).map g2 = xs at *
      clear hown hb
      go_wp2_with fail
      refine (HR _).mono ?_
      rintro e w2 ⟨rfl, hb2⟩
      have HO2 : Hid (Own 41 .u32 w2 w1.heap.size u3 xs ∧ Below w1.heap.size w1 w2) := ⟨HO.out.1.below hb2, HO.out.2.trans (hb2.mono HO.out.2.size)⟩
      clear HO hb2 hc HR
      go_wp2_with (at_builtin; refine wpList_append_one rfl _ _ 37 rfl 41 .u32 4 Try.underlying37 Try.infoW w1.heap.size u3 xs y (by rfl) HO2.out.1 (by rfl) HE.out.2 (by decide) w1 HO2.out.2 HO2.out.2.size ?_; intro v' w' hown' hb')
      go_roundw
      case rel => exact ⟨i + 1, by omega, by go_num, by rw [HE.out.1]; exact hown', hb'⟩
      case measure => simp [intOf] <;> omega
    · have hown8 : Own 41 .u32 wr w1.heap.size u3 HS := by
        have := hown
        rw [show i = 8 by omega, HT.out.2.1] at this
        exact this
      obtain ⟨gh, ch, rfl, hat, hgh⟩ := hown8.at (by decide)
      have HW2 : Hid (OwnAt 41 .u32 wr gh ch HS ∧ w1.heap.size ≤ gh ∧ Below w1.heap.size w1 wr) := ⟨hat, hgh, hb⟩
      clear hown hown8 hat hgh hb
      generalize hw2 : wr = w2 at *
      clear hw2
      have hlenH : HS.length = 8 := rfl
      rw [hlenH]
      go_wp2
      go_loopw [4, 6] (fun vh vi wr => ∃ (i : Nat), i ≤ 64 ∧ vi = .int .i64 i ∧ Own 41 .u32 wr w2.heap.size vh ((l.take i).map g3) ∧ Below w2.heap.size w2 wr) (fun _ vi _ => 64 - (intOf vi).toNat)
      case atStart => exact ⟨0, by omega, rfl, Own.nil _ _ _ _, Below.refl _ _⟩
      case round =>
        obtain ⟨i, hi, rfl, hown, hb⟩ := hrel
        by_cases hlt : i < 64
        · have hc : wr.cell? ⟨b, off + i, none⟩ = some (.int .i64 (l.getD i 0)) := by
            obtain ⟨b', off', e, _, hcs⟩ := ((HL.out.1.old HW2.out.2.2).old hb).at (by omega)
            cases e
            exact hcs i (by omega)
          have HR := fun w => sRoot_any (l.getD i 0) 3 w (HT.out.2.2.2 i).1 (HT.out.2.2.2 i).2 (by omega) (by omega)
          have HE : Hid ((l.take (i + 1)).map g3 = (l.take i).map g3 ++ [rtAt (l.getD i 0) 3 41 % 4294967296] ∧ ((l.take i).map g3).length < 1073741824) := ⟨take_map_succ l g3 i (by have := HT.out; omega), by simp; omega⟩
          have HO : Hid (Own 41 .u32 wr w2.heap.size u4 ((l.take i).map g3) ∧ Below w2.heap.size w2 wr) := ⟨hown, hb⟩
          generalize rtAt (l.getD i 0) 3 41 % 4294967296 = y at *
          generalize l.getD i 0 = p at *
          generalize (l.take i).map g3 = xs at *
          clear hown hb
          go_wp2_with fail
          refine (HR _).mono ?_
          rintro e w3 ⟨rfl, hb3⟩
          have HO2 : Hid (Own 41 .u32 w3 w2.heap.size u4 xs ∧ Below w2.heap.size w2 w3) := ⟨HO.out.1.below hb3, HO.out.2.trans (hb3.mono HO.out.2.size)⟩
          clear HO hb3 hc HR
          go_wp2_with (at_builtin; refine wpList_append_one rfl _ _ 37 rfl 41 .u32 4 Try.underlying37 Try.infoW w2.heap.size u4 xs y (by rfl) HO2.out.1 (by rfl) HE.out.2 (by decide) w2 HO2.out.2 HO2.out.2.size ?_; intro v' w' hown' hb')
          go_roundw
          case rel => exact ⟨i + 1, by omega, by go_num, by rw [HE.out.1]; exact hown', hb'⟩
          case measure => simp [intOf] <;> omega
        · have hown8 : Own 41 .u32 wr w2.heap.size u4 KS := by
            have := hown
            rw [show i = 64 by omega, HT.out.1] at this
            exact this
          obtain ⟨gk, ck, rfl, hat, hgk⟩ := hown8.at (by decide)
          have hlenK : KS.length = 64 := rfl
          rw [hlenK]
          have HF : Hid (OwnAt 41 .u32 wr gh ch HS ∧ OwnAt 41 .u32 wr gk ck KS ∧ gh ≠ gk ∧ w.heap.size ≤ gh ∧ w.heap.size ≤ gk ∧ Below w.heap.size w wr) := by
            obtain ⟨a1, a2, a3⟩ := HW2.out
            have hlt2 := a1.lt
            have hs1 := HL.out.2.1.size
            have hs2 := a3.size
            exact ⟨a1.below hb hlt2, hat, by omega, by omega, by omega, HL.out.2.1.trans ((a3.mono hs1).trans (hb.mono (by omega)))⟩
          clear hown hown8 hat hb HW2
          go_wp2
          go_ret2
          exact ⟨gh, ch, gk, ck, rfl, HF.out⟩
end Go.Proofs.Ytclejcjbnmgaiaa
