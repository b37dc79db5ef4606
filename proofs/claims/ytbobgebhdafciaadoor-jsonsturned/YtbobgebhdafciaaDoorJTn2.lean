/-
  The walk of JsonsTurned, at the gap 2.
-/
import Derived.Test.YtbobgebhdafciaaDoorJTn
namespace Go.Proofs.YtbobgebhdafciaaDoor
open Go.Shelf Go.RowKit
set_option linter.unusedVariables false
set_option linter.unusedSimpArgs false

set_option maxRecDepth 100000 in
set_option maxHeartbeats 4000000 in
/-- JsonsTurned. -/
theorem JsonsTurned_2 (v : Vt) (p : Option Addr) (c : Nat) (gap : Int) (a2 : Option Addr) (len2 cap2 : Nat) (z2 : List Int) (a3 : Option Addr) (len3 cap3 : Nat) (z3 : List Int) (w : World) (hv : VOk w 5 [.int .u8 v.kind, .string ⟨v.text.toArray⟩, .slice p v.kids.length c] v) (hg0 : 0 ≤ gap) (hg1 : gap < 256) (hr' : gap % 3 = 2) (w2 : CameJ .i64 w a2 len2 cap2 z2) (w3 : CameJ .u8 w a3 len3 cap3 z3) (hT : Tabs w) :
    Calls Tryd.prog 4 #[.agg #[.int .u8 v.kind, .string ⟨v.text.toArray⟩, .slice p v.kids.length c], .int .u8 gap, .slice a2 len2 cap2, .slice a3 len3 cap3] w fun e w' => e = .returned (.bool true) ∧ Below w.heap.size w w' := by
  have HT : Hid (Tabs w) := hT
  have HV : Hid (VOk w 5 [.int .u8 v.kind, .string ⟨v.text.toArray⟩, .slice p v.kids.length c] v) := hv
  have HW : Hid (CameJ .i64 w a2 len2 cap2 z2 ∧ CameJ .u8 w a3 len3 cap3 z3) := ⟨w2, w3⟩
  have l2 := w2.le
  have l3 := w3.le
  unfold maxLen at l2 l3
  have l2I : (len2 : Int) ≤ 9223372036854775807 := by omega
  have l3I : (len3 : Int) ≤ 9223372036854775807 := by omega
  obtain ⟨vk, hvk⟩ : ∃ x, v.kind = x := ⟨_, rfl⟩
  obtain ⟨vt, hvt⟩ : ∃ x, v.text = x := ⟨_, rfl⟩
  obtain ⟨vn, hvn⟩ : ∃ x, v.kids.length = x := ⟨_, rfl⟩
  rw [hvk, hvt, hvn] at HV ⊢
  clear hv hT w2 w3 hvk hvt hvn l2 l3
  have hr2 : gap.tmod 3 = 2 := by rw [Int.tmod_eq_emod_of_nonneg hg0]; exact hr'
  go_enter Tryd.func4, Tryd.ntmps4
  go_wp2_with fail
  go_at_call 8
  have hbA : Below w.heap.size w (w.alloc (.cells #[.int .u8 vk, .string ⟨vt.toArray⟩, .slice p vn c] 27)) := (Below.refl _ w).alloc (Nat.le_refl _) _
  have hszA : (w.alloc (.cells #[.int .u8 vk, .string ⟨vt.toArray⟩, .slice p vn c] 27)).heap.size = w.heap.size + 1 := by simp
  have hrow := alloc_new w (.cells #[.int .u8 vk, .string ⟨vt.toArray⟩, .slice p vn c] 27)
  refine (Awake_any _ (HT.out.below hbA)).mono ?_
  rintro e w1 ⟨rfl, b1⟩
  have HB1 : Hid (Below w.heap.size w w1) := hbA.trans (b1.mono (by rw [hszA]; omega))
  have hrow1 : w1.heap[w.heap.size]? = some (.cells #[.int .u8 vk, .string ⟨vt.toArray⟩, .slice p vn c] 27) := by rw [b1.block _ (by rw [hszA]; omega)]; exact hrow
  have k0 : w1.cell? ⟨w.heap.size, 0, none⟩ = some (.int .u8 vk) := by simp [World.cell?, hrow1]
  have k1 : w1.cell? ⟨w.heap.size, 1, none⟩ = some (.string ⟨vt.toArray⟩) := by simp [World.cell?, hrow1]
  have k2 : w1.cell? ⟨w.heap.size, 2, none⟩ = some (.slice p vn c) := by simp [World.cell?, hrow1]
  clear b1 hrow hbA hszA hrow1
  go_wp2_with fail
  obtain ⟨l, hl⟩ : ∃ l, vtext [10, 9] 5 v = l := ⟨_, rfl⟩
  obtain ⟨m, hm⟩ : ∃ m, l.length = m := ⟨_, rfl⟩
  have hmb : m ≤ 20000000 := by rw [← hm, ← hl]; exact Nat.le_trans (vtext_len [10, 9] (by decide) 5 v) (vmax_le (by decide))
  have HT0 := fun (W : World) (hW : Below w.heap.size w W) => Text_any 5 (Nat.le_refl _) v [.int .u8 vk, .string ⟨vt.toArray⟩, .slice p vn c] [10, 9] W (by decide) (VOk.keep hW 5 _ _ HV.out)
  simp only [hl] at HT0
  change ∀ W, _ → Calls _ _ #[_, Value.int .i64 5, Value.string ⟨#[10, 9]⟩] W _ at HT0
  have hcv : ∀ W, (convert 9 22 (.string ⟨l.toArray⟩)).run Tryd.prog W = .ok (.slice (some ⟨W.heap.size, 0, none⟩) m (grownCap W m 0 5)) (Lib.bytesWorld W 5 ⟨l.toArray⟩) := fun W => conv_bw W l m hm
  have HLM : Hid (l.length = m) := hm
  have hz1 : w.heap.size < w1.heap.size := by
    cases hh : w1.heap[w.heap.size]? with
    | none => simp [World.cell?, hh] at k0
    | some x => exact (Array.getElem?_eq_some_iff.1 hh).1
  have q0 : (w1.alloc (.cells #[.string ⟨#[]⟩, .string ⟨#[32]⟩, .string ⟨#[10, 9]⟩] 9)).cell? ⟨w.heap.size, 0, none⟩ = some (.int .u8 vk) := more_cell _ k0
  have q1 : (w1.alloc (.cells #[.string ⟨#[]⟩, .string ⟨#[32]⟩, .string ⟨#[10, 9]⟩] 9)).cell? ⟨w.heap.size, 1, none⟩ = some (.string ⟨vt.toArray⟩) := more_cell _ k1
  have q2 : (w1.alloc (.cells #[.string ⟨#[]⟩, .string ⟨#[32]⟩, .string ⟨#[10, 9]⟩] 9)).cell? ⟨w.heap.size, 2, none⟩ = some (.slice p vn c) := more_cell _ k2
  clear hl hm HV
  apply wp_frames (fun w2 => Below w.heap.size w w2) (fun w2 => Lib.bytesWorld w2 5 ⟨l.toArray⟩)
  case reg =>
    go_region_with (go_at_call 10; refine (HT0 _ ((HB1.out.trans (((Below.refl _ w1).alloc (Nat.le_refl _) _).mono HB1.out.size)).drew)).mono ?_; rintro e w2 ⟨rfl, b2⟩)
    all_goals exact ⟨w2, (HB1.out.trans (((Below.refl _ w1).alloc (Nat.le_refl _) _).mono HB1.out.size)).drew.trans (b2.mono (by have := HB1.out.size; simp; omega)), rfl, rfl⟩
  case rest =>
    intro w2 hb2
    have HB2 : Hid (Below w.heap.size w (Lib.bytesWorld w2 5 ⟨l.toArray⟩)) := hb2.trans ((below_bw w2 l).mono hb2.size)
    have HBY : Hid (ByO (Lib.bytesWorld w2 5 ⟨l.toArray⟩) w.heap.size (.slice (some ⟨w2.heap.size, 0, none⟩) m (grownCap w2 m 0 5)) l) := by
      obtain ⟨p', c', e', h1, h2, h3⟩ := ByO.of_bw w2 l
      rw [HLM.out] at e'
      exact ⟨p', c', by rw [HLM.out]; exact e', h1, h2, fun h0 => by
        obtain ⟨b, o, q1, q2, q3⟩ := h3 h0
        exact ⟨b, o, q1, Nat.le_trans hb2.size q2, q3⟩⟩
    clear hb2 q0 q1 q2 k0 k1 k2 hcv HT0 hz1 hr' hr2 hg0 hg1
    have HLB : Hid (l.length ≤ 20000000) := by show _ ≤ _; rw [HLM.out]; exact hmb
    clear HLM hmb
    generalize Value.slice (some ⟨w2.heap.size, 0, none⟩) m (grownCap w2 m 0 5) = bv at *
    generalize Lib.bytesWorld w2 5 ⟨l.toArray⟩ = W0 at *
    go_wp2_with fail
    go_loopw [9, 10] (fun v9 v10 wr => ∃ (i : Nat) (x : Bs), v10 = .int .i64 i ∧ i ≤ 4 ∧ Hid (ByO wr w.heap.size v9 x) ∧ Hid (x.length ≤ 20000000 + i) ∧ Below w.heap.size w wr) (fun _ v10 _ => 5 - (intOf v10).toNat)
    case atStart => exact ⟨0, l, rfl, by omega, HBY.out, by have := HLB.out; show _ ≤ _; omega, HB2.out⟩
    case round =>
      obtain ⟨i, x, rfl, hi4, HX, HXL, hbr⟩ := hrel
      have HB : Hid (Below w.heap.size w wr) := hbr
      clear hbr HBY HB2 HLB
      obtain ⟨pb, cb, rfl, hcb, hnb, hby⟩ := HX.out
      obtain ⟨n, hn⟩ : ∃ n, x.length = n := ⟨_, rfl⟩
      rw [hn] at hby hcb HX ⊢
      have hnle : n ≤ 20000004 := by have := HXL.out; omega
      have HNN : Hid (x.length = n ∧ n ≤ cb ∧ (pb = none → cb = 0)) := ⟨hn, hcb, hnb⟩
      have hi0 : (0 : Int) ≤ (i : Int) := by omega
      clear hn hnb
      by_cases t1 : i < len2
      · have t1d : decide ((i : Int) < (len2 : Int)) = true := by simp; omega
        by_cases t2 : i < len3
        · have t2d : decide ((i : Int) < (len3 : Int)) = true := by simp; omega
          by_cases t3 : i < 4
          · have t3d : decide ((i : Int) < 4) = true := by simp; omega
            by_cases t4 : 0 < n
            · have t4d : decide ((0 : Int) < (n : Int)) = true := by simp; omega
              obtain ⟨b, o, rfl, hbb, hblt, hcell⟩ := hby t4
              clear hby
              obtain ⟨b2, o2, Z, rfl, hb2l, hcz, _⟩ := HW.out.1.at_ t1
              obtain ⟨b3, o3, Tz, rfl, hb3l, hct, hTw⟩ := HW.out.2.at_ t2
              have hcz' := (HB.out.cell (p := ⟨b2, o2 + i, none⟩) hb2l).trans hcz
              have hct' := (HB.out.cell (p := ⟨b3, o3 + i, none⟩) hb3l).trans hct
              obtain ⟨hT0, hT1⟩ := byte_wf hTw
              obtain ⟨T, rfl⟩ : ∃ T : Nat, Tz = (T : Int) := ⟨Tz.toNat, by omega⟩
              clear hcz hct hTw hb2l hb3l
              obtain ⟨k, hkn, hKK⟩ := kmod Z n t4 hnle
              have hkI : (k : Int) < (n : Int) := by omega
              have hk0 : (0 : Int) ≤ (k : Int) := by omega
              obtain ⟨R, hR⟩ : ∃ R, T % 3 = R := ⟨_, rfl⟩
              have hR3 : R < 3 := by omega
              have hRI : (T : Int) % 3 = (R : Int) := by omega
              clear hR
              rcases (by omega : R = 0 ∨ R = 1 ∨ R = 2) with rfl | rfl | rfl
              · have hRd : ((T : Int) % 3 == 0) = true := by rw [hRI]; rfl
                obtain ⟨hck, hfk⟩ := hcell k hkn
                clear hcell hRI hR3 HW HT
                go_wp2_with fail
                exact ⟨⟨i + 1, x.set k _, by go_num, by omega, HX.out.set _ (by rw [HNN.out.1]; exact hkn), by show _ ≤ _; rw [List.length_set]; have := HXL.out; omega, HB.out.setCell (p := ⟨b, o + k, none⟩) hbb _⟩, by simp only [intOf]; omega⟩
              · have hRd : ((T : Int) % 3 == 0) = false := by rw [hRI]; rfl
                have hRe : ((T : Int) % 3 == 1) = true := by rw [hRI]; rfl
                have hkc : (k : Int) ≤ (cb : Int) := by omega
                have hkn2 : (k : Int) ≤ (n : Int) := by omega
                have hcbk : ¬ cb = k := by omega
                have HC : Hid (∀ i, i < n → wr.cell? ⟨b, o + i, none⟩ = some (.int .u8 ((x.getD i 0).toNat : Int)) ∧ wr.frozen? ⟨b, o + i, none⟩ = false) := hcell
                obtain ⟨C, hC⟩ : ∃ C : UInt8, ∀ h, (⟨#[123, 125, 91, 93, 58, 44, 34, 92, 32, 48, 45, 57, 116, 110, 46, 101, 117]⟩ : ByteArray)[T / 3 % 17]'h = C := ⟨(⟨#[123, 125, 91, 93, 58, 44, 34, 92, 32, 48, 45, 57, 116, 110, 46, 101, 117]⟩ : ByteArray)[T / 3 % 17]'(show T / 3 % 17 < 17 by omega), fun _ => rfl⟩
                have HL1 : Hid (∀ i, i < 1 → (wr.alloc (.cells #[.int .u8 (C.toNat : Int)] 5)).cell? ⟨wr.heap.size, 0 + i, none⟩ = some (.int .u8 (([C].getD i 0).toNat : Int)) ∧ (wr.alloc (.cells #[.int .u8 (C.toNat : Int)] 5)).frozen? ⟨wr.heap.size, 0 + i, none⟩ = false) := fun i hi => by
                  have hi0 : i = 0 := by omega
                  subst hi0
                  have h := new_cell wr (.int .u8 (C.toNat : Int)) 5
                  exact ⟨h.1, h.2⟩
                have HL2 : Hid (∀ i, i < n → (wr.alloc (.cells #[.int .u8 (C.toNat : Int)] 5)).cell? ⟨b, o + i, none⟩ = some (.int .u8 ((x.getD i 0).toNat : Int)) ∧ (wr.alloc (.cells #[.int .u8 (C.toNat : Int)] 5)).frozen? ⟨b, o + i, none⟩ = false) := fun i hi => ⟨more_cell _ (HC.out i hi).1, more_frozen _ (HC.out i hi).1 (HC.out i hi).2⟩
                have HLB : Hid (w.heap.size ≤ wr.heap.size ∧ wr.heap.size < (wr.alloc (.cells #[.int .u8 (C.toNat : Int)] 5)).heap.size ∧ b < (wr.alloc (.cells #[.int .u8 (C.toNat : Int)] 5)).heap.size) := ⟨HB.out.size, by simp, by simp; omega⟩
                clear hRI hR3 HW HT hcell
                go_wp2_with fail
                refine wp_nm ?_
                clear hKK hC
                go_region_law (first
                  | (refine step_append_by rfl (.tmp 89) (.tmp 92) rfl w.heap.size wr.heap.size 0 1 [C] (x.drop k) rfl (by simp [Act.eval, Act.put]) ⟨HLB.out.1, HLB.out.2.1⟩ (fun i hi => HL1.out i hi) ⟨b, o + k, none⟩ (n - k) (cb - k) (by rw [List.length_drop, HNN.out.1]) (by simp [Act.eval, Act.put]) (fun i hi => by rw [Addr.add_mid]; have := (HL2.out (k + i) (by omega)).1; rw [List.getD_eq_getElem?_getD, List.getElem?_drop, ← List.getD_eq_getElem?_getD, Nat.add_assoc]; exact this) (by omega) ?_; intro v8 w8 hby8 hbe8; obtain ⟨p8, c8, hv8, hc8, _, hq8⟩ := hby8; obtain ⟨g8, f8, hp8, hg8, hgl8, hcl8⟩ := hq8 (by simp); subst hp8; subst hv8; have HB8 : Hid (Below (wr.alloc (.cells #[.int .u8 (C.toNat : Int)] 5)).heap.size (wr.alloc (.cells #[.int .u8 (C.toNat : Int)] 5)).drew w8) := hbe8)
                  | (refine step_append_by rfl (.tmp 87) (.tmp 93) rfl w.heap.size b o k (x.take k) ([C] ++ x.drop k) (by rw [List.length_take, HNN.out.1]; omega) (by simp [Act.eval, Act.put]) ⟨hbb, Nat.lt_of_lt_of_le HLB.out.2.2 HB8.out.size⟩ (fun i hi => by have h1 := HL2.out i (by omega); have h2 := (HB8.out.cell (p := ⟨b, o + i, none⟩) HLB.out.2.2).trans h1.1; have h3 := (HB8.out.frozen (p := ⟨b, o + i, none⟩) HLB.out.2.2).trans h1.2; rw [List.getD_eq_getElem?_getD, List.getElem?_take, if_pos hi, ← List.getD_eq_getElem?_getD]; exact ⟨h2, h3⟩) ⟨g8, f8, none⟩ ([C] ++ x.drop k).length c8 rfl (by simp [Act.eval, Act.put]) (fun i hi => by rw [Addr.add_mid]; exact (hcl8 i hi).1) (by rw [List.length_append, List.length_drop, HNN.out.1]; simp; omega) ?_; intro v9 w9 hby9 hbe9))
                all_goals (
                  simp only [Nm]
                  have HBY9 : Hid (ByO w9 w.heap.size v9 (x.take k ++ ([C] ++ x.drop k)) ∧ Below w.heap.size w w9 ∧ (x.take k ++ ([C] ++ x.drop k)).length ≤ 20000000 + (i + 1)) := ⟨hby9, (HB.out.trans (((Below.refl _ wr).alloc (Nat.le_refl _) _).mono HB.out.size)).drew.trans ((HB8.out.mono (Nat.le_trans HLB.out.1 (Nat.le_of_lt HLB.out.2.1))).trans (hbe9.mono (by have := HB8.out.size; have := HLB.out; omega))), by have := HXL.out; simp; omega⟩
                  clear hby9 hbe9
                  go_wp2_with fail
                  exact ⟨⟨i + 1, x.take k ++ ([C] ++ x.drop k), by go_num, by omega, HBY9.out.1, HBY9.out.2.2, HBY9.out.2.1⟩, by simp only [intOf]; omega⟩)
              · have hRd : ((T : Int) % 3 == 0) = false := by rw [hRI]; rfl
                have hRe : ((T : Int) % 3 == 1) = false := by rw [hRI]; rfl
                have hkc : (k : Int) ≤ (cb : Int) := by omega
                have hkn1 : (k : Int) + 1 ≤ (n : Int) := by omega
                have hk10 : (0 : Int) ≤ (k : Int) + 1 := by omega
                have hw1 : IntKind.i64.wrap ((k : Int) + 1) = (k : Int) + 1 := IntWalk.i64_in _ (by omega)
                have HC : Hid (∀ i, i < n → wr.cell? ⟨b, o + i, none⟩ = some (.int .u8 ((x.getD i 0).toNat : Int)) ∧ wr.frozen? ⟨b, o + i, none⟩ = false) := hcell
                clear hRI hR3 HW HT hcell
                go_wp2_with fail
                refine wp_nm ?_
                clear hKK
                by_cases hcbk : cb = k + 1
                · subst hcbk
                  have hkc2 : (k : Int) ≤ (k : Int) + 1 := by omega
                  go_region_law (refine step_append_by rfl (.tmp 70) (.tmp 74) rfl w.heap.size b o k (x.take k) (x.drop (k + 1)) (by rw [List.length_take, HNN.out.1]; omega) (by simp [Act.eval, Act.put]) ⟨hbb, hblt⟩ (fun i hi => by have := HC.out i (by omega); rw [List.getD_eq_getElem?_getD, List.getElem?_take, if_pos hi, ← List.getD_eq_getElem?_getD]; exact this) ⟨b, o, none⟩ (n - (k + 1)) (k + 1 - (k + 1)) (by rw [List.length_drop, HNN.out.1]) (by simp [Act.eval, Act.put]; try omega) (fun i hi => absurd hi (by omega)) (by omega) ?_; intro v9 w9 hby9 hbe9)
                  all_goals (
                    simp only [Nm]
                    have HBY9 : Hid (ByO w9 w.heap.size v9 (x.take k ++ x.drop (k + 1)) ∧ Below w.heap.size w w9 ∧ (x.take k ++ x.drop (k + 1)).length ≤ 20000000 + (i + 1)) := ⟨hby9, HB.out.drew.trans (hbe9.mono HB.out.size), by have := HXL.out; simp; omega⟩
                    clear hby9 hbe9
                    go_wp2_with fail
                    exact ⟨⟨i + 1, x.take k ++ x.drop (k + 1), by go_num, by omega, HBY9.out.1, HBY9.out.2.2, HBY9.out.2.1⟩, by simp only [intOf]; omega⟩)
                · go_region_law (refine step_append_by rfl (.tmp 70) (.tmp 74) rfl w.heap.size b o k (x.take k) (x.drop (k + 1)) (by rw [List.length_take, HNN.out.1]; omega) (by simp [Act.eval, Act.put]) ⟨hbb, hblt⟩ (fun i hi => by have := HC.out i (by omega); rw [List.getD_eq_getElem?_getD, List.getElem?_take, if_pos hi, ← List.getD_eq_getElem?_getD]; exact this) ⟨b, o + (k + 1), none⟩ (n - (k + 1)) (cb - (k + 1)) (by rw [List.length_drop, HNN.out.1]) (by simp [Act.eval, Act.put]) (fun i hi => by rw [Addr.add_mid]; have := (HC.out (k + 1 + i) (by omega)).1; rw [List.getD_eq_getElem?_getD, List.getElem?_drop, ← List.getD_eq_getElem?_getD, Nat.add_assoc]; exact this) (by omega) ?_; intro v9 w9 hby9 hbe9)
                  all_goals (
                    simp only [Nm]
                    have HBY9 : Hid (ByO w9 w.heap.size v9 (x.take k ++ x.drop (k + 1)) ∧ Below w.heap.size w w9 ∧ (x.take k ++ x.drop (k + 1)).length ≤ 20000000 + (i + 1)) := ⟨hby9, HB.out.drew.trans (hbe9.mono HB.out.size), by have := HXL.out; simp; omega⟩
                    clear hby9 hbe9
                    go_wp2_with fail
                    exact ⟨⟨i + 1, x.take k ++ x.drop (k + 1), by go_num, by omega, HBY9.out.1, HBY9.out.2.2, HBY9.out.2.1⟩, by simp only [intOf]; omega⟩)
            · have t4d : decide ((0 : Int) < (n : Int)) = false := by simp; omega
              have HR := HX.out.rest
              have HTD : Hid (RestD wr wr.heap.size pb cb x ∧ (pb = none → cb = 0) ∧ x.length = n ∧ Tabs wr) := ⟨HR.2.1, HR.2.2, HR.1, HT.out.below HB.out⟩
              clear HR HX HW hby
              by_cases q6 : 6000 < n
              · have q6d : decide ((6000 : Int) < (n : Int)) = true := by simp; omega
                go_wp2_with fail
                go_ret
                exact ⟨rfl, HB.out⟩
              · have q6d : decide ((6000 : Int) < (n : Int)) = false := by simp; omega
                go_wp2_with fail
                refine (told_any pb n cb x wr HTD.out.2.2.1 HTD.out.1 HTD.out.2.1 HTD.out.2.2.2 (by omega)).mono ?_
                rintro e w9 ⟨rfl, b9⟩
                go_wp2_with fail
                go_ret
                exact ⟨rfl, HB.out.trans (b9.mono HB.out.size)⟩
          · have t3d : decide ((i : Int) < 4) = false := by simp; omega
            have HR := HX.out.rest
            have HTD : Hid (RestD wr wr.heap.size pb cb x ∧ (pb = none → cb = 0) ∧ x.length = n ∧ Tabs wr) := ⟨HR.2.1, HR.2.2, HR.1, HT.out.below HB.out⟩
            clear HR HX HW hby
            by_cases q6 : 6000 < n
            · have q6d : decide ((6000 : Int) < (n : Int)) = true := by simp; omega
              go_wp2_with fail
              go_ret
              exact ⟨rfl, HB.out⟩
            · have q6d : decide ((6000 : Int) < (n : Int)) = false := by simp; omega
              go_wp2_with fail
              refine (told_any pb n cb x wr HTD.out.2.2.1 HTD.out.1 HTD.out.2.1 HTD.out.2.2.2 (by omega)).mono ?_
              rintro e w9 ⟨rfl, b9⟩
              go_wp2_with fail
              go_ret
              exact ⟨rfl, HB.out.trans (b9.mono HB.out.size)⟩
        · have t2d : decide ((i : Int) < (len3 : Int)) = false := by simp; omega
          have HR := HX.out.rest
          have HTD : Hid (RestD wr wr.heap.size pb cb x ∧ (pb = none → cb = 0) ∧ x.length = n ∧ Tabs wr) := ⟨HR.2.1, HR.2.2, HR.1, HT.out.below HB.out⟩
          clear HR HX HW hby
          by_cases q6 : 6000 < n
          · have q6d : decide ((6000 : Int) < (n : Int)) = true := by simp; omega
            go_wp2_with fail
            go_ret
            exact ⟨rfl, HB.out⟩
          · have q6d : decide ((6000 : Int) < (n : Int)) = false := by simp; omega
            go_wp2_with fail
            refine (told_any pb n cb x wr HTD.out.2.2.1 HTD.out.1 HTD.out.2.1 HTD.out.2.2.2 (by omega)).mono ?_
            rintro e w9 ⟨rfl, b9⟩
            go_wp2_with fail
            go_ret
            exact ⟨rfl, HB.out.trans (b9.mono HB.out.size)⟩
      · have t1d : decide ((i : Int) < (len2 : Int)) = false := by simp; omega
        have HR := HX.out.rest
        have HTD : Hid (RestD wr wr.heap.size pb cb x ∧ (pb = none → cb = 0) ∧ x.length = n ∧ Tabs wr) := ⟨HR.2.1, HR.2.2, HR.1, HT.out.below HB.out⟩
        clear HR HX HW hby
        by_cases q6 : 6000 < n
        · have q6d : decide ((6000 : Int) < (n : Int)) = true := by simp; omega
          go_wp2_with fail
          go_ret
          exact ⟨rfl, HB.out⟩
        · have q6d : decide ((6000 : Int) < (n : Int)) = false := by simp; omega
          go_wp2_with fail
          refine (told_any pb n cb x wr HTD.out.2.2.1 HTD.out.1 HTD.out.2.1 HTD.out.2.2.2 (by omega)).mono ?_
          rintro e w9 ⟨rfl, b9⟩
          go_wp2_with fail
          go_ret
          exact ⟨rfl, HB.out.trans (b9.mono HB.out.size)⟩
end Go.Proofs.YtbobgebhdafciaaDoor
