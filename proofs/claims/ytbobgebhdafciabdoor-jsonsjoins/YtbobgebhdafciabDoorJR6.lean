/-
  The document's reader of JSON: hex.
-/
import Derived.Test.YtbobgebhdafciabDoorJR5
namespace Go.Proofs.YtbobgebhdafciabDoor
open Go.Shelf Go.RowKit
set_option linter.unusedVariables false
set_option linter.unusedSimpArgs false

/-- The place of a digit. -/
def hexI (c : UInt8) : Int := match hx c with
  | some d => (d : Int)
  | none => -1
/-- The digit's place among the first k. -/
def hexK (k : Nat) (c : UInt8) : Int := match hx c with
  | some d => if d < k then (d : Int) else -1
  | none => -1

def smallH : Bs := [48, 49, 50, 51, 52, 53, 54, 55, 56, 57, 97, 98, 99, 100, 101, 102]
def greatH : Bs := [48, 49, 50, 51, 52, 53, 54, 55, 56, 57, 65, 66, 67, 68, 69, 70]
theorem hexK_fin : ∀ (k : Fin 16) (c : Fin 256), hexK (k.val + 1) (UInt8.ofNat c.val) = if smallH.getD k.val 0 = UInt8.ofNat c.val ∨ greatH.getD k.val 0 = UInt8.ofNat c.val then (k.val : Int) else hexK k.val (UInt8.ofNat c.val) := by decide +kernel
theorem hexK_succ (k : Nat) (hk : k < 16) (c : UInt8) : hexK (k + 1) c = if smallH.getD k 0 = c ∨ greatH.getD k 0 = c then (k : Int) else hexK k c := by
  have h := hexK_fin ⟨k, hk⟩ ⟨c.toNat, c.toNat_lt⟩
  simpa using h
theorem hx_lt {c : UInt8} {d : Nat} (h : hx c = some d) : d < 16 := by
  unfold hx at h
  split at h
  · cases h; omega
  · split at h
    · cases h; omega
    · split at h
      · cases h; omega
      · cases h
theorem hexK_zero (c : UInt8) : hexK 0 c = -1 := by unfold hexK; split <;> simp
theorem hexK_full (c : UInt8) : hexK 16 c = hexI c := by
  unfold hexK hexI
  split
  next d h => rw [if_pos (hx_lt h)]
  next => rfl
theorem hexK_bound (k : Nat) (c : UInt8) : -1 ≤ hexK k c ∧ hexK k c ≤ 15 := by
  unfold hexK
  split
  next d h => have := hx_lt h; split <;> omega
  next => omega
theorem idx_lit (l : Bs) (i : Nat) (hi : i < l.length) (W : World) : (Instr.index 9 (.string ⟨l.toArray⟩) (.int .i64 i)).run Tryd.prog W = .ok (.int .u8 ((l.getD i 0).toNat : Int)) W := by
  have hs : (⟨l.toArray⟩ : ByteArray).size = l.length := by simp [ByteArray.size]
  rw [run_index_string W 9 _ .i64 i Tryd.underlying9, dif_pos ⟨by omega, by rw [hs]; omega⟩]
  simp [ByteArray.getElem_eq_getElem_data, List.getD, hi]

set_option maxRecDepth 100000 in
set_option maxHeartbeats 4000000 in
/-- hex. -/
theorem dHex (g : Nat) (B ys : Bs) (d : Nat) (nv : Value) (code : Nat) (w : World) (h : Dr w g B ys d nv code) :
    Calls Tryd.prog 50 #[.pointer (some ⟨g, 0, none⟩)] w fun e w' => But g w w' ∧ ((∃ (x : Nat) (zs : Bs), unitS 4 0 ys = some (x, zs) ∧ e = .returned (.tuple #[.int .i64 x, .bool true]) ∧ Dr w' g B zs d nv code) ∨ (unitS 4 0 ys = none ∧ e = .returned (.tuple #[.int .i64 0, .bool false]) ∧ Dr w' g B ys d nv code)) := by
  have hdr := h
  obtain ⟨pre, p, k, h0, h1, h2, h3⟩ := h
  have e0 := h1.b
  have e1 := h1.pos
  have f1 := h1.frozen 1
  obtain ⟨n, hn⟩ : ∃ n, B.length = n := ⟨_, rfl⟩
  obtain ⟨a, ha⟩ : ∃ a, pre.length = a := ⟨_, rfl⟩
  have hpl : n = a + ys.length := by rw [← hn, ← ha, h0]; simp
  rw [hn] at e0
  rw [ha] at e1
  have hab : (a : Int) ≤ 4096 := by omega
  have hnb : (n : Int) ≤ 4096 := by omega
  have han : (a : Int) ≤ (n : Int) := by omega
  have HP : Hid (n = a + ys.length) := hpl
  clear hpl
  by_cases q : ys.length < 4
  · have hqd : decide ((n : Int) - (a : Int) < 4) = true := by have := HP.out; simp; omega
    have HN : Hid (unitS 4 0 ys = none ∧ Dr w g B ys d nv code) := ⟨by
      match ys, q with
      | [], _ => rfl
      | [a], _ => simp only [unitS]; split <;> rfl
      | [a, b], _ => simp only [unitS]; split <;> (try split) <;> rfl
      | [a, b, c], _ => simp only [unitS]; split <;> (try split) <;> (try split) <;> rfl, hdr⟩
    clear hdr h0 h1 h2 hn ha q
    go_enter Tryd.func50, Tryd.ntmps50
    go_wp2_with fail
    go_quiet (fail)
    go_wp2_with fail
    go_ret2
    exact ⟨But.ofBelow (below_drewN w _), .inr ⟨HN.out.1, rfl, HN.out.2.below (below_drewN w _)⟩⟩
  · have hqd : decide ((n : Int) - (a : Int) < 4) = false := by have := HP.out; simp; omega
    have hq4 : (a : Int) + 4 ≤ (n : Int) := by have := HP.out; omega
    obtain ⟨b, off, rfl, hbg, hall⟩ : ∃ b off, p = some ⟨b, off, none⟩ ∧ b < g ∧ ∀ i, i < ys.length → w.cell? ⟨b, off + (a + i), none⟩ = some (.int .u8 ((ys.getD i 0).toNat : Int)) := by
      obtain ⟨b, off, rfl, hc⟩ := h2.lies (by rw [h0]; simp; omega)
      refine ⟨b, off, rfl, (h2.early _ rfl (by rw [h0]; simp; omega)).1, fun i hi => ?_⟩
      rw [hc (a + i) (by have := HP.out; omega), h0, ← ha]
      simp [List.getD, List.getElem?_append_right]
    have HA : Hid (∀ i, i < ys.length → w.cell? ⟨b, off + (a + i), none⟩ = some (.int .u8 ((ys.getD i 0).toNat : Int))) := hall
    have HD : Hid (Dr w g B ys d nv code ∧ ∀ nq, Dr ((w.drewN nq).setCell ⟨g, 1, none⟩ (.int .i64 ((a : Int) + 4))) g B (ys.drop 4) d nv code) := ⟨hdr, fun nq => Dr.step (w := w.drewN nq) (mid := ys.take 4) h0 (by simp) (h1.same rfl) (h2.keep (fun j _ => rfl)) h3 ((a : Int) + 4) (by rw [ha]; simp; omega)⟩
    have HQ : Hid (4 ≤ ys.length) := by show 4 ≤ ys.length; omega
    clear hall hdr h0 h1 h2 hn ha q h3 HP
    go_enter Tryd.func50, Tryd.ntmps50
    go_wp2_with fail
    go_quiet (fail)
    go_wp2_with fail
    go_loopw [4, 7] (fun v4 v7 wr => ∃ (x i nq : Nat), v4 = .int .i64 x ∧ v7 = .int .i64 i ∧ x + 1 ≤ 16 ^ i ∧ i ≤ 4 ∧ Hid (unitS 4 0 ys = unitS (4 - i) x (ys.drop i)) ∧ wr = w.drewN nq) (fun _ v7 _ => 4 - (intOf v7).toNat)
    case atStart => exact ⟨0, 0, _, rfl, rfl, by omega, by omega, rfl, rfl⟩
    case round =>
      obtain ⟨x, i, nq, rfl, rfl, hx, hi, hu, rfl⟩ := hrel
      rcases Nat.lt_or_eq_of_le hi with hi | rfl
      · obtain ⟨c, hc⟩ : ∃ c, ys.getD i 0 = c := ⟨_, rfl⟩
        have hcell := HA.out i (by have := HQ.out; omega)
        rw [hc] at hcell
        obtain ⟨C, hC⟩ : ∃ C, c.toNat = C := ⟨_, rfl⟩
        rw [hC] at hcell
        have hi4 : (i : Int) < 4 := by omega
        have hid : decide ((i : Int) < 4) = true := by simpa using hi4
        have HX : Hid (x + 1 ≤ 16 ^ i) := hx
        have hxb : (x : Int) ≤ 4095 := by
          have : (16 : Nat) ^ i ≤ 16 ^ 3 := Nat.pow_le_pow_right (by decide) (by omega)
          omega
        have HC : Hid (c.toNat = C ∧ ys.getD i 0 = c) := ⟨hC, hc⟩
        clear hx hc hC
        go_wp2_with fail
        go_loopw [8, 9] (fun v8 v9 wr => ∃ (k' nq : Nat), v8 = .int .i64 (hexK k' c) ∧ v9 = .int .i64 k' ∧ k' ≤ 16 ∧ wr = w.drewN nq) (fun _ v9 _ => 16 - (intOf v9).toNat)
        case atStart => exact ⟨0, _, by rw [hexK_zero], rfl, by omega, rfl⟩
        case round =>
          obtain ⟨k', nq', rfl, rfl, hk', rfl⟩ := hrel
          rcases Nat.lt_or_eq_of_le hk' with hk' | rfl
          · have hk3 : (k' : Int) < 16 := by omega
            have hkd : decide ((k' : Int) < 16) = true := by simpa using hk3
            obtain ⟨S, hS⟩ : ∃ S, smallH.getD k' 0 = S := ⟨_, rfl⟩
            obtain ⟨G, hG⟩ : ∃ S, greatH.getD k' 0 = S := ⟨_, rfl⟩
            have i1 := fun W => idx_lit smallH k' hk' W
            have i2 := fun W => idx_lit greatH k' hk' W
            rw [hS] at i1
            rw [hG] at i2
            unfold smallH at i1
            unfold greatH at i2
            have HK : Hid (hexK (k' + 1) c = if S = c ∨ G = c then (k' : Int) else hexK k' c) := by
              show _ = _
              rw [hexK_succ k' hk' c, hS, hG]
            obtain ⟨V, hV⟩ : ∃ V, hexK k' c = V := ⟨_, rfl⟩
            rw [hV] at HK ⊢
            clear hS hG hV
            have HM : Hid (∀ V2, V2 = hexK (k' + 1) c → ∀ m, (∃ k'_1 nq_1 : Nat, Value.int .i64 V2 = .int .i64 (hexK k'_1 c) ∧ Value.int .i64 ((k' : Int) + 1) = .int .i64 k'_1 ∧ k'_1 ≤ 16 ∧ w.drewN m = w.drewN nq_1) ∧ 16 - (intOf (Value.int .i64 ((k' : Int) + 1))).toNat < 16 - (intOf (Value.int .i64 k')).toNat) := by
              show ∀ _, _
              rintro V2 rfl m
              exact ⟨⟨k' + 1, _, rfl, by go_num, by omega, rfl⟩, by simp only [intOf]; omega⟩
            by_cases s1 : S = c
            · have s1' : ((S.toNat : Int) == (C : Int)) = true := by rw [s1, HC.out.1]; simp
              have HK2 : Hid ((k' : Int) = hexK (k' + 1) c) := by show _ = _; rw [HK.out, if_pos (.inl s1)]
              clear s1 HK
              go_wp2_with fail
              go_quiet (fail)
              go_wp2_with fail
              exact HM.out _ HK2.out _
            · have s1' : ((S.toNat : Int) == (C : Int)) = false := by
                rw [← HC.out.1]
                simp only [beq_eq_false_iff_ne, ne_eq]
                intro e
                exact s1 (UInt8.toNat_inj.1 (by omega))
              by_cases s2 : G = c
              · have s2' : ((G.toNat : Int) == (C : Int)) = true := by rw [s2, HC.out.1]; simp
                have HK2 : Hid ((k' : Int) = hexK (k' + 1) c) := by show _ = _; rw [HK.out, if_pos (.inr s2)]
                clear s1 s2 HK
                go_wp2_with fail
                go_quiet (fail)
                go_wp2_with fail
                exact HM.out _ HK2.out _
              · have s2' : ((G.toNat : Int) == (C : Int)) = false := by
                  rw [← HC.out.1]
                  simp only [beq_eq_false_iff_ne, ne_eq]
                  intro e
                  exact s2 (UInt8.toNat_inj.1 (by omega))
                have HK2 : Hid (V = hexK (k' + 1) c) := by show _ = _; rw [HK.out, if_neg (fun e => e.elim s1 s2)]
                clear s1 s2 HK
                go_wp2_with fail
                go_quiet (fail)
                go_wp2_with fail
                exact HM.out _ HK2.out _
          · rw [hexK_full]
            have hkd : decide (((16 : Nat) : Int) < 16) = false := by decide
            have hyd : ys.drop i = c :: ys.drop (i + 1) := by
              have hl : i < ys.length := by have := HQ.out; omega
              rw [List.drop_eq_getElem_cons hl]
              have := HC.out.2
              simp [List.getD, hl] at this
              rw [this]
            have h4 : 4 - i = (4 - (i + 1)) + 1 := by omega
            have HU2 : Hid (unitS 4 0 ys = match hx c with | some d => unitS (4 - (i + 1)) (16 * x + d) (ys.drop (i + 1)) | none => none) := by
              show _ = _
              rw [hu.out, hyd, h4]
              rfl
            clear hyd h4 hu
            unfold hexI
            cases hxc : hx c with
            | none =>
              rw [hxc] at HU2
              go_wp2_with fail
              go_ret2
              exact ⟨But.ofBelow (below_drewN w _), .inr ⟨HU2.out, rfl, HD.out.1.below (below_drewN w _)⟩⟩
            | some dd =>
              rw [hxc] at HU2
              have hdl := hx_lt hxc
              have hdl2 : (dd : Int) ≤ 15 := by omega
              have hdn : ¬ ((dd : Int) < 0) := by omega
              go_wp2_with fail
              refine ⟨⟨16 * x + dd, i + 1, _, by go_num, by go_num, ?_, by omega, HU2.out, rfl⟩, by simp only [intOf]; omega⟩
              have := HX.out
              rw [Nat.pow_succ]
              omega
      · have hid : decide (((4 : Nat) : Int) < 4) = false := by decide
        have HU2 : Hid (unitS 4 0 ys = some (x, ys.drop 4)) := by show _ = _; rw [hu.out]; rfl
        clear hu
        go_wp2_with fail
        go_ret2
        exact ⟨(But.ofBelow (below_drewN _ _)).trans (But.setCell g _ 1 _), .inl ⟨_, _, HU2.out, rfl, HD.out.2 _⟩⟩
end Go.Proofs.YtbobgebhdafciabDoor
