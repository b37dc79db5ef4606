/-
  A value of the law as a text: Text.
-/
import Derived.Test.YtbobgebhdafciabDoorJVt
namespace Go.Proofs.YtbobgebhdafciabDoor
open Go.Shelf Go.RowKit
set_option linter.unusedVariables false
set_option linter.unusedSimpArgs false

def numT (n : Nat) : Bs := if n % 4 = 0 then [48] else if n % 4 = 1 then [45, 49, 50] else if n % 4 = 2 then [49, 46, 53, 101, 43, 51] else [49, 48, 69, 45, 50]
/-- A value that has none within it. -/
def leafT (k : Int) (t : Bs) : Bs :=
  if k % 7 = 2 then [34] ++ plainT t ++ [34]
  else if k % 7 = 3 then numT t.length
  else if k % 7 = 4 then [116, 114, 117, 101] else if k % 7 = 5 then [102, 97, 108, 115, 101] else [110, 117, 108, 108]
/-- What stands ahead of a kid's text. -/
def headT (obj : Bool) (gap : Bs) (i : Nat) : Bs := (if 0 < i then gap ++ [44] else []) ++ gap ++ (if obj then [34] ++ [UInt8.ofNat (97 + i)] ++ [34] ++ gap ++ [58] ++ gap else [])
def kidsT (f : Vt → Bs) (obj : Bool) (gap : Bs) : Nat → List Vt → Bs
  | _, [] => []
  | i, k :: ks => if 8 < i then [] else headT obj gap i ++ f k ++ kidsT f obj gap (i + 1) ks
/-- A value as a text, so deep, with blanks. -/
def vtext (gap : Bs) : Nat → Vt → Bs
  | 0, v => if v.kind % 7 ≤ 1 then [91, 93] else leafT v.kind v.text
  | d + 1, v => if v.kind % 7 = 0 then [91] ++ kidsT (vtext gap d) false gap 0 v.kids ++ gap ++ [93] else if v.kind % 7 = 1 then [123] ++ kidsT (vtext gap d) true gap 0 v.kids ++ gap ++ [125] else leafT v.kind v.text
theorem plainR_len (s : ByteArray) : ∀ (b pos : Nat) (rs : List Nat), (encRs rs).length ≤ 44 → (encRs (plainR s b pos rs)).length ≤ 44
  | 0, _, rs, h => h
  | b + 1, pos, rs, h => by
    rw [plainR]
    split
    · refine plainR_len s b _ _ ?_
      split
      · rename_i hk
        rw [encRs_snoc, List.length_append]
        have := (encR_len ((Utf8.decode s pos).1 : Int)).2
        simp [keepR] at hk
        omega
      · exact h
    · exact h
theorem plainT_len (t : Bs) : (plainT t).length ≤ 44 := plainR_len _ _ _ _ (by decide)
theorem leafT_len (k : Int) (t : Bs) : (leafT k t).length ≤ 46 := by
  have := plainT_len t
  unfold leafT numT
  repeat' split
  all_goals simp
  all_goals omega
theorem headT_len (obj : Bool) (gap : Bs) (i : Nat) (hg : gap.length ≤ 3) : (headT obj gap i).length ≤ 20 := by
  unfold headT
  simp only [List.length_append]
  split <;> split <;> simp <;> omega
theorem kidsT_len (f : Vt → Bs) (obj : Bool) (gap : Bs) (hg : gap.length ≤ 3) (M : Nat) (hf : ∀ v, (f v).length ≤ M) : ∀ (i : Nat) (ks : List Vt), (kidsT f obj gap i ks).length ≤ (9 - i) * (20 + M)
  | i, [] => by simp [kidsT]
  | i, k :: ks => by
    rw [kidsT]
    split
    · simp
    · have h1 := kidsT_len f obj gap hg M hf (i + 1) ks
      have h2 := headT_len obj gap i hg
      have h3 := hf k
      simp only [List.length_append]
      have e : (9 - i) * (20 + M) = (9 - (i + 1)) * (20 + M) + (20 + M) := by
        rw [show 9 - i = (9 - (i + 1)) + 1 by omega, Nat.succ_mul]
      omega
def vmax : Nat → Nat
  | 0 => 46
  | d + 1 => 9 * (20 + vmax d) + 46
theorem vtext_len (gap : Bs) (hg : gap.length ≤ 3) : ∀ (d : Nat) (v : Vt), (vtext gap d v).length ≤ vmax d
  | 0, v => by
    rw [vtext]
    split
    · decide
    · exact leafT_len _ _
  | d + 1, v => by
    have h1 := kidsT_len (vtext gap d) false gap hg (vmax d) (vtext_len gap hg d) 0 v.kids
    have h2 := kidsT_len (vtext gap d) true gap hg (vmax d) (vtext_len gap hg d) 0 v.kids
    have h3 := leafT_len v.kind v.text
    rw [vtext, vmax]
    split
    · simp only [List.length_append, List.length_singleton]; omega
    · split
      · simp only [List.length_append, List.length_singleton]; omega
      · omega
theorem vmax_le {d : Nat} (h : d ≤ 5) : vmax d ≤ 20000000 := by
  have : ∀ d : Fin 6, vmax d.val ≤ 20000000 := by decide
  exact this ⟨d, by omega⟩

set_option maxRecDepth 100000 in
set_option maxHeartbeats 4000000 in
/-- Text of a value that has none within it. -/
theorem Text_leaf (d : Nat) (k : Int) (t : Bs) (p : Option Addr) (n c : Nat) (gap : Bs) (w : World) (h0 : 0 ≤ k) (h1 : k < 256) (hk : 2 ≤ k % 7) :
    Calls Tryd.prog 8 #[.agg #[.int .u8 k, .string ⟨t.toArray⟩, .slice p n c], .int .i64 d, .string ⟨gap.toArray⟩] w fun e w' => e = .returned (.string ⟨(leafT k t).toArray⟩) ∧ Below w.heap.size w w' := by
  obtain ⟨m, hm⟩ : ∃ m, k % 7 = m := ⟨_, rfl⟩
  have HK : Hid (k % 7 = m) := hm
  have hm7 : 2 ≤ m ∧ m < 7 := by omega
  by_cases e2 : m = 2
  · subst e2
    have HL : Hid (leafT k t = [34] ++ plainT t ++ [34]) := by show _ = _; unfold leafT; rw [if_pos HK.out]
    clear hm7 hk
    go_enter Tryd.func8, Tryd.ntmps8
    go_wp2_with fail
    refine (lplain_any t _).mono ?_
    rintro e w2 ⟨rfl, b2⟩
    have HB : Hid (Below w.heap.size w w2) := ((Below.refl _ w).alloc (Nat.le_refl _) _).trans (b2.mono (by simp))
    have hl := plainT_len t
    obtain ⟨x, hx⟩ : ∃ x, plainT t = x := ⟨_, rfl⟩
    rw [hx] at hl ⊢
    have HX : Hid (plainT t = x) := hx
    have hsz : ((⟨x.toArray⟩ : ByteArray)).size ≤ 44 := hl
    clear hx b2
    go_wp2_with fail
    go_ret
    refine ⟨?_, HB.out⟩
    rw [HL.out, HX.out, ← str_appV, ← str_appV]
    rfl
  · by_cases e3 : m = 3
    · subst e3
      have HL : Hid (leafT k t = numT t.length) := by show _ = _; unfold leafT; rw [if_neg (by rw [HK.out]; decide), if_pos HK.out]
      clear hm7 hk
      obtain ⟨L, hLn⟩ : ∃ L, t.length = L := ⟨_, rfl⟩
      have hsz : ((⟨t.toArray⟩ : ByteArray)).size = L := hLn
      obtain ⟨r, hr⟩ : ∃ r, L % 4 = r := ⟨_, rfl⟩
      have hr4 : r < 4 := by omega
      have hrI : (L : Int) % 4 = (r : Int) := by omega
      have hrI2 : (L : Int).tmod 4 = (r : Int) := by rw [Int.tmod_eq_emod_of_nonneg (by omega)]; exact hrI
      have HN : Hid (leafT k t = numT L ∧ L % 4 = r) := ⟨by rw [HL.out, hLn], hr⟩
      clear hLn hr HL
      go_enter Tryd.func8, Tryd.ntmps8
      go_wp2_with fail
      go_ret
      refine ⟨?_, ((Below.refl _ w).alloc (Nat.le_refl _) _).alloc (by simp) _⟩
      rw [HN.out.1]
      unfold numT
      rw [HN.out.2]
      rcases (by omega : r = 0 ∨ r = 1 ∨ r = 2 ∨ r = 3) with rfl | rfl | rfl | rfl <;> rfl
    · by_cases e4 : m = 4
      · subst e4
        have HL : Hid (leafT k t = [116, 114, 117, 101]) := by show _ = _; unfold leafT; rw [if_neg (by rw [HK.out]; decide), if_neg (by rw [HK.out]; decide), if_pos HK.out]
        clear hm7 hk
        go_enter Tryd.func8, Tryd.ntmps8
        go_wp2_with fail
        go_ret
        exact ⟨by rw [HL.out]; rfl, (Below.refl _ w).alloc (Nat.le_refl _) _⟩
      · by_cases e5 : m = 5
        · subst e5
          have HL : Hid (leafT k t = [102, 97, 108, 115, 101]) := by show _ = _; unfold leafT; rw [if_neg (by rw [HK.out]; decide), if_neg (by rw [HK.out]; decide), if_neg (by rw [HK.out]; decide), if_pos HK.out]
          clear hm7 hk
          go_enter Tryd.func8, Tryd.ntmps8
          go_wp2_with fail
          go_ret
          exact ⟨by rw [HL.out]; rfl, (Below.refl _ w).alloc (Nat.le_refl _) _⟩
        · have e6 : m = 6 := by omega
          subst e6
          have HL : Hid (leafT k t = [110, 117, 108, 108]) := by show _ = _; unfold leafT; rw [if_neg (by rw [HK.out]; decide), if_neg (by rw [HK.out]; decide), if_neg (by rw [HK.out]; decide), if_neg (by rw [HK.out]; decide)]
          clear hm7 hk
          go_enter Tryd.func8, Tryd.ntmps8
          go_wp2_with fail
          go_ret
          exact ⟨by rw [HL.out]; rfl, (Below.refl _ w).alloc (Nat.le_refl _) _⟩

theorem vtext0_grp {gap : Bs} {v : Vt} (h : v.kind % 7 ≤ 1) : vtext gap 0 v = [91, 93] := by rw [vtext, if_pos h]
theorem vtext0_leaf {gap : Bs} {v : Vt} (h : 2 ≤ v.kind % 7) : vtext gap 0 v = leafT v.kind v.text := by rw [vtext, if_neg (by omega)]
theorem vtext_arr {gap : Bs} {d : Nat} {v : Vt} (h : v.kind % 7 = 0) : vtext gap (d + 1) v = [91] ++ kidsT (vtext gap d) false gap 0 v.kids ++ gap ++ [93] := by rw [vtext, if_pos h]
theorem vtext_obj {gap : Bs} {d : Nat} {v : Vt} (h : v.kind % 7 = 1) : vtext gap (d + 1) v = [123] ++ kidsT (vtext gap d) true gap 0 v.kids ++ gap ++ [125] := by rw [vtext, if_neg (by omega), if_pos h]
theorem vtext_leaf {gap : Bs} {d : Nat} {v : Vt} (h : 2 ≤ v.kind % 7) : vtext gap (d + 1) v = leafT v.kind v.text := by rw [vtext, if_neg (by omega), if_neg (by omega)]
theorem kidsT_drop {f : Vt → Bs} {obj : Bool} {gap : Bs} {i : Nat} {ks : List Vt} {k : Vt} (hk : ks[i]? = some k) (hi : i ≤ 8) : kidsT f obj gap i (ks.drop i) = headT obj gap i ++ f k ++ kidsT f obj gap (i + 1) (ks.drop (i + 1)) := by
  have hlt : i < ks.length := (List.getElem?_eq_some_iff.1 hk).1
  rw [List.drop_eq_getElem_cons hlt, kidsT, if_neg (by omega)]
  rw [List.getElem?_eq_getElem hlt] at hk
  rw [Option.some.inj hk]
theorem kidsT_stop {f : Vt → Bs} {obj : Bool} {gap : Bs} {i : Nat} {ks : List Vt} (hi : 8 < i ∨ ks.length ≤ i) : kidsT f obj gap i (ks.drop i) = [] := by
  by_cases q : ks.length ≤ i
  · rw [List.drop_eq_nil_of_le q, kidsT]
  · rw [List.drop_eq_getElem_cons (by omega), kidsT, if_pos (by omega)]

set_option maxRecDepth 100000 in
set_option maxHeartbeats 4000000 in
/-- Text of a value, no deeper. -/
theorem Text_zero (v : Vt) (cs : List Value) (gap : Bs) (w : World) (hv : VOk w 0 cs v) : Calls Tryd.prog 8 #[.agg cs.toArray, .int .i64 (0 : Nat), .string ⟨gap.toArray⟩] w fun e w' => e = .returned (.string ⟨(vtext gap 0 v).toArray⟩) ∧ Below w.heap.size w w' := by
  obtain ⟨p, c, rfl, h0, h1, h2⟩ := hv
  by_cases q : v.kind % 7 ≤ 1
  · rw [vtext0_grp q]
    obtain ⟨n, hn⟩ : ∃ n, v.kids.length = n := ⟨_, rfl⟩
    obtain ⟨k, hk⟩ : ∃ k, v.kind = k := ⟨_, rfl⟩
    obtain ⟨t, ht⟩ : ∃ t, v.text = t := ⟨_, rfl⟩
    rw [hn, hk, ht]
    rw [hk] at h0 h1 q
    clear hn h2 hk ht
    by_cases e0 : k % 7 = 0
    · clear q
      go_enter Tryd.func8, Tryd.ntmps8
      go_wp2_with fail
      go_ret
      exact ⟨rfl, (Below.refl _ w).alloc (Nat.le_refl _) _⟩
    · have e1 : k % 7 = 1 := by omega
      clear q e0
      go_enter Tryd.func8, Tryd.ntmps8
      go_wp2_with fail
      go_ret
      exact ⟨rfl, (Below.refl _ w).alloc (Nat.le_refl _) _⟩
  · rw [vtext0_leaf (by omega)]
    exact Text_leaf 0 v.kind v.text p v.kids.length c gap w h0 h1 (by omega)
/-- What Text answers, so deep. -/
def TextOk (d : Nat) : Prop := ∀ (v : Vt) (cs : List Value) (gap : Bs) (w : World), gap.length ≤ 3 → VOk w d cs v → Calls Tryd.prog 8 #[.agg cs.toArray, .int .i64 d, .string ⟨gap.toArray⟩] w fun e w' => e = .returned (.string ⟨(vtext gap d v).toArray⟩) ∧ Below w.heap.size w w'

set_option maxRecDepth 100000 in
set_option maxHeartbeats 4000000 in
theorem Text_arr (d : Nat) (hd : d ≤ 4) (ih : TextOk d) (v : Vt) (cs : List Value) (gap : Bs) (w : World) (hg : gap.length ≤ 3) (hv : VOk w (d + 1) cs v) (hk : v.kind % 7 = 0) : Calls Tryd.prog 8 #[.agg cs.toArray, .int .i64 (d + 1 : Nat), .string ⟨gap.toArray⟩] w fun e w' => e = .returned (.string ⟨(vtext gap (d + 1) v).toArray⟩) ∧ Below w.heap.size w w' := by
  obtain ⟨p, c, rfl, h0, h1, h2, h3⟩ := hv
  unfold maxLen at h2
  obtain ⟨ans, hans⟩ : ∃ a, vtext gap (d + 1) v = a := ⟨_, rfl⟩
  rw [hans]
  rw [vtext_arr hk] at hans
  have HM : Hid (∀ u, (vtext gap d u).length ≤ 20000000) := fun u => Nat.le_trans (vtext_len gap hg d u) (vmax_le (by omega))
  have HV : Hid (∀ i k, v.kids[i]? = some k → ∃ b o, p = some ⟨b, o, none⟩ ∧ b < w.heap.size ∧ ∃ c0 c1 c2, w.cell? ⟨b, o + i * 3, none⟩ = some c0 ∧ w.cell? ⟨b, o + i * 3 + 1, none⟩ = some c1 ∧ w.cell? ⟨b, o + i * 3 + 2, none⟩ = some c2 ∧ VOk w d [c0, c1, c2] k) := h3
  obtain ⟨ks, hks⟩ : ∃ ks, v.kids = ks := ⟨_, rfl⟩
  obtain ⟨k, hkk⟩ : ∃ k, v.kind = k := ⟨_, rfl⟩
  obtain ⟨t, ht⟩ : ∃ t, v.text = t := ⟨_, rfl⟩
  obtain ⟨n, hn⟩ : ∃ n, ks.length = n := ⟨_, rfl⟩
  rw [hkk, ht, hks, hn]
  rw [hks] at HV h2 hans
  rw [hkk] at h0 h1 hk
  rw [hn] at h2
  obtain ⟨FT, hFT⟩ : ∃ x, [91] ++ kidsT (vtext gap d) false gap 0 ks = x := ⟨_, rfl⟩
  rw [hFT] at hans
  have HN : Hid (ks.length = n) := hn
  have HANS : Hid (FT ++ gap ++ [93] = ans ∧ [91] ++ kidsT (vtext gap d) false gap 0 ks = FT) := ⟨hans, hFT⟩
  have hgI : gap.length ≤ 3 := hg
  have HG : Hid (gap.length ≤ 3) := hg
  clear h3 hks hkk ht hn hg hans hFT
  have IH : Hid (TextOk d) := ih
  clear ih
  have hn0 : (0 : Int) ≤ (n : Int) := by omega
  have hnb : (n : Int) ≤ 9223372036854775807 := by omega
  clear h2
  obtain ⟨D, hD⟩ : ∃ D, d + 1 = D := ⟨_, rfl⟩
  have hD1 : (D : Int) - 1 = (d : Int) := by omega
  have hDz : ((D : Int) == 0) = false := by simp; omega
  have hDb : (D : Int) ≤ 5 := by omega
  have hD2 : 1 ≤ (D : Int) := by omega
  rw [hD]
  clear hD
  go_enter Tryd.func8, Tryd.ntmps8
  go_wp2_with fail
  clear hk hDz
  go_loopw [7, 26] (fun v7 v26 wr => ∃ (i : Nat) (out : Bs), v7 = .string ⟨out.toArray⟩ ∧ v26 = .int .i64 i ∧ i ≤ n ∧ i ≤ 9 ∧ Hid (out ++ kidsT (vtext gap d) false gap i (ks.drop i) = FT) ∧ Hid (out.length ≤ 1 + i * 20000020) ∧ Below w.heap.size w wr) (fun _ v26 _ => n - (intOf v26).toNat)
  case atStart => exact ⟨0, [91], rfl, rfl, by omega, by omega, HANS.out.2, by show _ ≤ _; simp, (Below.refl _ w).alloc (Nat.le_refl _) _⟩
  case round =>
    obtain ⟨i, out, rfl, rfl, hin, hi9, HO, HL, hb⟩ := hrel
    have HB : Hid (Below w.heap.size w wr) := hb
    obtain ⟨L, hL⟩ : ∃ L, out.length = L := ⟨_, rfl⟩
    have hLb : L ≤ 200000000 := by have := HL.out; omega
    have hsz : ((⟨out.toArray⟩ : ByteArray)).size = L := hL
    have HLL : Hid (out.length = L) := hL
    have hi0 : (0 : Int) ≤ (i : Int) := by omega
    clear hL hb
    by_cases hend : i < n
    · have hendI : (i : Int) < (n : Int) := by omega
      have hendd : decide ((i : Int) < (n : Int)) = true := by simpa using hendI
      obtain ⟨kid, hkid⟩ : ∃ kid, ks[i]? = some kid := ⟨_, List.getElem?_eq_getElem (by rw [HN.out]; exact hend)⟩
      obtain ⟨b, o, rfl, hlt, c0, c1, c2, q0, q1, q2, hvk⟩ := HV.out i kid hkid
      have r0 := (HB.out.cell (p := ⟨b, o + i * 3, none⟩) hlt).trans q0
      have r1 := (HB.out.cell (p := ⟨b, o + i * 3 + 1, none⟩) hlt).trans q1
      have r2 := (HB.out.cell (p := ⟨b, o + i * 3 + 2, none⟩) hlt).trans q2
      obtain ⟨pk, ck, hck, _, _, _⟩ := hvk.head
      obtain ⟨rfl, rfl, rfl⟩ : c0 = .int .u8 kid.kind ∧ c1 = .string ⟨kid.text.toArray⟩ ∧ c2 = .slice pk kid.kids.length ck := by simpa using hck
      have HK : Hid (ks[i]? = some kid ∧ VOk w d [.int .u8 kid.kind, .string ⟨kid.text.toArray⟩, .slice pk kid.kids.length ck] kid) := ⟨hkid, hvk⟩
      generalize kid.kind = kk at *
      generalize kid.text = kt at *
      generalize kid.kids.length = kn at *
      clear hkid hvk q0 q1 q2 hlt HV hck
      by_cases h8 : 8 < i
      · have h8I : (8 : Int) < (i : Int) := by omega
        have h8d : decide ((8 : Int) < (i : Int)) = true := by simpa using h8I
        have HO2 : Hid (out ++ gap ++ [93] = ans) := by
          show _ = _
          have := HO.out
          rw [kidsT_stop (.inl h8), List.append_nil] at this
          rw [this]
          exact HANS.out.1
        go_wp2_with fail
        go_ret
        refine ⟨?_, HB.out.trans ((((Below.refl _ _).alloc (Nat.le_refl _) _)).mono HB.out.size)⟩
        rw [← HO2.out, ← str_appV, ← str_appV]
        rfl
      · have h8I : ¬ (8 : Int) < (i : Int) := by omega
        have h8d : decide ((8 : Int) < (i : Int)) = false := by simpa using h8I
        have HIH : Hid (∀ W, Below w.heap.size w W → Calls Tryd.prog 8 #[.agg #[.int .u8 kk, .string ⟨kt.toArray⟩, .slice pk kn ck], .int .i64 d, .string ⟨gap.toArray⟩] W fun e w' => e = .returned (.string ⟨(vtext gap d kid).toArray⟩) ∧ Below W.heap.size W w') := fun W hW => IH.out kid [.int .u8 kk, .string ⟨kt.toArray⟩, .slice pk kn ck] gap W HG.out (VOk.keep hW d _ _ HK.out.2)
        obtain ⟨X, hX⟩ : ∃ X, vtext gap d kid = X := ⟨_, rfl⟩
        have HX : Hid (X.length ≤ 20000000 ∧ out ++ headT false gap i ++ X ++ kidsT (vtext gap d) false gap (i + 1) (ks.drop (i + 1)) = FT ∧ (headT false gap i).length ≤ 20) := ⟨by rw [← hX]; exact HM.out kid, by rw [← HO.out, kidsT_drop HK.out.1 (by omega), hX]; simp only [List.append_assoc], headT_len _ _ _ HG.out⟩
        rw [hX] at HIH
        have hXl : X.length ≤ 20000000 := HX.out.1
        clear hX IH HK HO HM
        by_cases hz : 0 < i
        · have hzI : (0 : Int) < (i : Int) := by omega
          have hzd : decide ((0 : Int) < (i : Int)) = true := by simpa using hzI
          go_wp2_with fail
          refine (HIH.out _ (HB.out.trans (((Below.refl _ wr).alloc (Nat.le_refl _) _).mono HB.out.size))).mono ?_
          rintro e w2 ⟨rfl, b2⟩
          have HB2 : Hid (Below w.heap.size w w2) := HB.out.trans ((((Below.refl _ wr).alloc (Nat.le_refl _) _).trans (b2.mono (by simp; try omega))).mono HB.out.size)
          clear b2
          go_wp2_with fail
          refine ⟨⟨i + 1, out ++ headT false gap i ++ X, ?_, by go_num, by omega, by omega, ?_, ?_, HB2.out⟩, by simp only [intOf]; omega⟩
          · unfold headT
            rw [if_pos hz]
            simp [str_appV]
          · exact HX.out.2.1
          · show _ ≤ _
            have := HX.out.2.2
            have := HL.out
            simp only [List.length_append]
            omega
        · have hzd : decide ((0 : Int) < (i : Int)) = false := by simp; omega
          have hzn : decide (0 < i) = false := by simp; omega
          go_wp2_with fail
          refine (HIH.out _ (HB.out.trans (((Below.refl _ wr).alloc (Nat.le_refl _) _).mono HB.out.size))).mono ?_
          rintro e w2 ⟨rfl, b2⟩
          have HB2 : Hid (Below w.heap.size w w2) := HB.out.trans ((((Below.refl _ wr).alloc (Nat.le_refl _) _).trans (b2.mono (by simp; try omega))).mono HB.out.size)
          clear b2
          go_wp2_with fail
          refine ⟨⟨i + 1, out ++ headT false gap i ++ X, ?_, by go_num, by omega, by omega, ?_, ?_, HB2.out⟩, by simp only [intOf]; omega⟩
          · unfold headT
            rw [if_neg hz]
            simp [str_appV]
          · exact HX.out.2.1
          · show _ ≤ _
            have := HX.out.2.2
            have := HL.out
            simp only [List.length_append]
            omega
    · have hendd : decide ((i : Int) < (n : Int)) = false := by simp; omega
      have HO2 : Hid (out ++ gap ++ [93] = ans) := by
        show _ = _
        have := HO.out
        rw [kidsT_stop (.inr (by rw [HN.out]; omega)), List.append_nil] at this
        rw [this]
        exact HANS.out.1
      go_wp2_with fail
      go_ret
      refine ⟨?_, HB.out⟩
      rw [← HO2.out, ← str_appV, ← str_appV]
      rfl
set_option maxRecDepth 100000 in
set_option maxHeartbeats 4000000 in
theorem Text_obj (d : Nat) (hd : d ≤ 4) (ih : TextOk d) (v : Vt) (cs : List Value) (gap : Bs) (w : World) (hg : gap.length ≤ 3) (hv : VOk w (d + 1) cs v) (hk : v.kind % 7 = 1) : Calls Tryd.prog 8 #[.agg cs.toArray, .int .i64 (d + 1 : Nat), .string ⟨gap.toArray⟩] w fun e w' => e = .returned (.string ⟨(vtext gap (d + 1) v).toArray⟩) ∧ Below w.heap.size w w' := by
  obtain ⟨p, c, rfl, h0, h1, h2, h3⟩ := hv
  unfold maxLen at h2
  obtain ⟨ans, hans⟩ : ∃ a, vtext gap (d + 1) v = a := ⟨_, rfl⟩
  rw [hans]
  rw [vtext_obj hk] at hans
  have HM : Hid (∀ u, (vtext gap d u).length ≤ 20000000) := fun u => Nat.le_trans (vtext_len gap hg d u) (vmax_le (by omega))
  have HV : Hid (∀ i k, v.kids[i]? = some k → ∃ b o, p = some ⟨b, o, none⟩ ∧ b < w.heap.size ∧ ∃ c0 c1 c2, w.cell? ⟨b, o + i * 3, none⟩ = some c0 ∧ w.cell? ⟨b, o + i * 3 + 1, none⟩ = some c1 ∧ w.cell? ⟨b, o + i * 3 + 2, none⟩ = some c2 ∧ VOk w d [c0, c1, c2] k) := h3
  obtain ⟨ks, hks⟩ : ∃ ks, v.kids = ks := ⟨_, rfl⟩
  obtain ⟨k, hkk⟩ : ∃ k, v.kind = k := ⟨_, rfl⟩
  obtain ⟨t, ht⟩ : ∃ t, v.text = t := ⟨_, rfl⟩
  obtain ⟨n, hn⟩ : ∃ n, ks.length = n := ⟨_, rfl⟩
  rw [hkk, ht, hks, hn]
  rw [hks] at HV h2 hans
  rw [hkk] at h0 h1 hk
  rw [hn] at h2
  obtain ⟨FT, hFT⟩ : ∃ x, [123] ++ kidsT (vtext gap d) true gap 0 ks = x := ⟨_, rfl⟩
  rw [hFT] at hans
  have HN : Hid (ks.length = n) := hn
  have HANS : Hid (FT ++ gap ++ [125] = ans ∧ [123] ++ kidsT (vtext gap d) true gap 0 ks = FT) := ⟨hans, hFT⟩
  have hgI : gap.length ≤ 3 := hg
  have HG : Hid (gap.length ≤ 3) := hg
  clear h3 hks hkk ht hn hg hans hFT
  have IH : Hid (TextOk d) := ih
  clear ih
  have hn0 : (0 : Int) ≤ (n : Int) := by omega
  have hnb : (n : Int) ≤ 9223372036854775807 := by omega
  clear h2
  obtain ⟨D, hD⟩ : ∃ D, d + 1 = D := ⟨_, rfl⟩
  have hD1 : (D : Int) - 1 = (d : Int) := by omega
  have hDz : ((D : Int) == 0) = false := by simp; omega
  have hDb : (D : Int) ≤ 5 := by omega
  have hD2 : 1 ≤ (D : Int) := by omega
  rw [hD]
  clear hD
  go_enter Tryd.func8, Tryd.ntmps8
  go_wp2_with fail
  clear hk hDz
  go_loopw [7, 26] (fun v7 v26 wr => ∃ (i : Nat) (out : Bs), v7 = .string ⟨out.toArray⟩ ∧ v26 = .int .i64 i ∧ i ≤ n ∧ i ≤ 9 ∧ Hid (out ++ kidsT (vtext gap d) true gap i (ks.drop i) = FT) ∧ Hid (out.length ≤ 1 + i * 20000020) ∧ Below w.heap.size w wr) (fun _ v26 _ => n - (intOf v26).toNat)
  case atStart => exact ⟨0, [123], rfl, rfl, by omega, by omega, HANS.out.2, by show _ ≤ _; simp, (Below.refl _ w).alloc (Nat.le_refl _) _⟩
  case round =>
    obtain ⟨i, out, rfl, rfl, hin, hi9, HO, HL, hb⟩ := hrel
    have HB : Hid (Below w.heap.size w wr) := hb
    obtain ⟨L, hL⟩ : ∃ L, out.length = L := ⟨_, rfl⟩
    have hLb : L ≤ 200000000 := by have := HL.out; omega
    have hsz : ((⟨out.toArray⟩ : ByteArray)).size = L := hL
    have HLL : Hid (out.length = L) := hL
    have hi0 : (0 : Int) ≤ (i : Int) := by omega
    clear hL hb
    by_cases hend : i < n
    · have hendI : (i : Int) < (n : Int) := by omega
      have hendd : decide ((i : Int) < (n : Int)) = true := by simpa using hendI
      obtain ⟨kid, hkid⟩ : ∃ kid, ks[i]? = some kid := ⟨_, List.getElem?_eq_getElem (by rw [HN.out]; exact hend)⟩
      obtain ⟨b, o, rfl, hlt, c0, c1, c2, q0, q1, q2, hvk⟩ := HV.out i kid hkid
      have r0 := (HB.out.cell (p := ⟨b, o + i * 3, none⟩) hlt).trans q0
      have r1 := (HB.out.cell (p := ⟨b, o + i * 3 + 1, none⟩) hlt).trans q1
      have r2 := (HB.out.cell (p := ⟨b, o + i * 3 + 2, none⟩) hlt).trans q2
      obtain ⟨pk, ck, hck, _, _, _⟩ := hvk.head
      obtain ⟨rfl, rfl, rfl⟩ : c0 = .int .u8 kid.kind ∧ c1 = .string ⟨kid.text.toArray⟩ ∧ c2 = .slice pk kid.kids.length ck := by simpa using hck
      have HK : Hid (ks[i]? = some kid ∧ VOk w d [.int .u8 kid.kind, .string ⟨kid.text.toArray⟩, .slice pk kid.kids.length ck] kid) := ⟨hkid, hvk⟩
      generalize kid.kind = kk at *
      generalize kid.text = kt at *
      generalize kid.kids.length = kn at *
      clear hkid hvk q0 q1 q2 hlt HV hck
      by_cases h8 : 8 < i
      · have h8I : (8 : Int) < (i : Int) := by omega
        have h8d : decide ((8 : Int) < (i : Int)) = true := by simpa using h8I
        have HO2 : Hid (out ++ gap ++ [125] = ans) := by
          show _ = _
          have := HO.out
          rw [kidsT_stop (.inl h8), List.append_nil] at this
          rw [this]
          exact HANS.out.1
        go_wp2_with fail
        go_ret
        refine ⟨?_, HB.out.trans ((((Below.refl _ _).alloc (Nat.le_refl _) _)).mono HB.out.size)⟩
        rw [← HO2.out, ← str_appV, ← str_appV]
        rfl
      · have h8I : ¬ (8 : Int) < (i : Int) := by omega
        have h8d : decide ((8 : Int) < (i : Int)) = false := by simpa using h8I
        have HIH : Hid (∀ W, Below w.heap.size w W → Calls Tryd.prog 8 #[.agg #[.int .u8 kk, .string ⟨kt.toArray⟩, .slice pk kn ck], .int .i64 d, .string ⟨gap.toArray⟩] W fun e w' => e = .returned (.string ⟨(vtext gap d kid).toArray⟩) ∧ Below W.heap.size W w') := fun W hW => IH.out kid [.int .u8 kk, .string ⟨kt.toArray⟩, .slice pk kn ck] gap W HG.out (VOk.keep hW d _ _ HK.out.2)
        obtain ⟨X, hX⟩ : ∃ X, vtext gap d kid = X := ⟨_, rfl⟩
        have HX : Hid (X.length ≤ 20000000 ∧ out ++ headT true gap i ++ X ++ kidsT (vtext gap d) true gap (i + 1) (ks.drop (i + 1)) = FT ∧ (headT true gap i).length ≤ 20) := ⟨by rw [← hX]; exact HM.out kid, by rw [← HO.out, kidsT_drop HK.out.1 (by omega), hX]; simp only [List.append_assoc], headT_len _ _ _ HG.out⟩
        rw [hX] at HIH
        have hXl : X.length ≤ 20000000 := HX.out.1
        clear hX IH HK HO HM
        by_cases hz : 0 < i
        · have hzI : (0 : Int) < (i : Int) := by omega
          have hzd : decide ((0 : Int) < (i : Int)) = true := by simpa using hzI
          have hcv := conv_oneV (wr.alloc (.cells #[.int .u8 kk, .string ⟨kt.toArray⟩, .slice pk kn ck] 32)) (UInt8.ofNat (97 + i))
          have hby : ((UInt8.ofNat (97 + i)).toNat : Int) = 97 + (i : Int) := by rw [UInt8.toNat_ofNat']; omega
          rw [hby] at hcv
          simp only [World.size_alloc] at hcv
          go_wp2_with fail
          refine (HIH.out _ (HB.out.trans ((((Below.refl _ wr).alloc (Nat.le_refl _) _).alloc (by simp) _).mono HB.out.size))).mono ?_
          rintro e w2 ⟨rfl, b2⟩
          have HB2 : Hid (Below w.heap.size w w2) := HB.out.trans (((((Below.refl _ wr).alloc (Nat.le_refl _) _).alloc (by simp) _).trans (b2.mono (by simp; try omega))).mono HB.out.size)
          clear b2
          go_wp2_with fail
          refine ⟨⟨i + 1, out ++ headT true gap i ++ X, ?_, by go_num, by omega, by omega, ?_, ?_, HB2.out⟩, by simp only [intOf]; omega⟩
          · unfold headT
            rw [if_pos hz]
            simp [str_appV]
          · exact HX.out.2.1
          · show _ ≤ _
            have := HX.out.2.2
            have := HL.out
            simp only [List.length_append]
            omega
        · have hzd : decide ((0 : Int) < (i : Int)) = false := by simp; omega
          have hzn : decide (0 < i) = false := by simp; omega
          have hcv := conv_oneV (wr.alloc (.cells #[.int .u8 kk, .string ⟨kt.toArray⟩, .slice pk kn ck] 32)) (UInt8.ofNat (97 + i))
          have hby : ((UInt8.ofNat (97 + i)).toNat : Int) = 97 + (i : Int) := by rw [UInt8.toNat_ofNat']; omega
          rw [hby] at hcv
          simp only [World.size_alloc] at hcv
          go_wp2_with fail
          refine (HIH.out _ (HB.out.trans ((((Below.refl _ wr).alloc (Nat.le_refl _) _).alloc (by simp) _).mono HB.out.size))).mono ?_
          rintro e w2 ⟨rfl, b2⟩
          have HB2 : Hid (Below w.heap.size w w2) := HB.out.trans (((((Below.refl _ wr).alloc (Nat.le_refl _) _).alloc (by simp) _).trans (b2.mono (by simp; try omega))).mono HB.out.size)
          clear b2
          go_wp2_with fail
          refine ⟨⟨i + 1, out ++ headT true gap i ++ X, ?_, by go_num, by omega, by omega, ?_, ?_, HB2.out⟩, by simp only [intOf]; omega⟩
          · unfold headT
            rw [if_neg hz]
            simp [str_appV]
          · exact HX.out.2.1
          · show _ ≤ _
            have := HX.out.2.2
            have := HL.out
            simp only [List.length_append]
            omega
    · have hendd : decide ((i : Int) < (n : Int)) = false := by simp; omega
      have HO2 : Hid (out ++ gap ++ [125] = ans) := by
        show _ = _
        have := HO.out
        rw [kidsT_stop (.inr (by rw [HN.out]; omega)), List.append_nil] at this
        rw [this]
        exact HANS.out.1
      go_wp2_with fail
      go_ret
      refine ⟨?_, HB.out⟩
      rw [← HO2.out, ← str_appV, ← str_appV]
      rfl
end Go.Proofs.YtbobgebhdafciabDoor
