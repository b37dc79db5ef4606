import Derived.Test.YtnckmcmobkpdcaaDoorK05
import Derived.Test.YtnckmcmobkpdcaaDoorK04
/-
  The document's Oid.
-/
namespace Go.Proofs.YtnckmcmobkpdcaaDoor
open Go.Shelf Go.RowKit
set_option linter.unusedVariables false
set_option linter.unusedSimpArgs false

theorem rowGo_first (c : UInt8) (xs : Bs) (h : c.toNat ≠ 128) (n : Nat) : rowGo n true (c :: xs) = rowGo n false (c :: xs) := by
  rw [rowGo_cons, rowGo_cons]
  simp [h]
/-- Numbers appended to numbers of the call's own, in a region that draws. -/
theorem step_append_u {w : World} {ops : Array Oper} {o : Oper} {a : Act} {K : Act → World → Prop} {Q : Exit → Act → World → Prop} {E : Prop} (hw : Region.wanted o (yielded ops a.tmps) = true) (s x : Operand)
    (ho : o.op = .call { callee := .builtin .append, args := #[s, x], argTypes := #[25, 25] }) (base : Nat) (v : Value) (hs : a.eval s = v) (old : List Nat) (m : Nat) (hown : w.ownsRow base 34 1 v m (cellsU old)) (ad : Addr) (n c : Nat) (l : List Nat) (hn : l.length = n) (hx : a.eval x = .slice (some ad) n c) (hr : ∀ j u, (cellsU l)[j]? = some u → w.cell? (ad.add j) = some u) (hlen : m + n ≤ 1000000) (hbase : base ≤ w.heap.size)
    (h : ∀ v' w', w'.ownsRow base 34 1 v' (m + n) (cellsU (old ++ l)) → w.grownBy w' v.ownBlock → K (a.put o.dst v') w') : if Region.wanted o (yielded ops a.tmps) = true then Oper.wp Tryd.prog o a w K Q else E := by
  rw [if_pos hw]
  obtain ⟨i0, hi0, hz0, hz1, hz2⟩ := info_parts infoU64
  obtain ⟨v', w', hrun, h2, h3, _, h5⟩ := run_append_own_at (P := Tryd.prog) w base 25 o.type 34 i0 (.int .u64 0) 1 8 Tryd.underlying25 hi0 hz0 hz1 hz2 rfl (by decide) v m (cellsU old) hown ad n c (cellsU l) (by rw [cellsU_len, hn, Nat.mul_one]) hr (by intro u hu; simp only [cellsU, List.mem_map] at hu; obtain ⟨x, _, rfl⟩ := hu; rfl) (by unfold maxLen; omega) (by omega) hbase
  rw [show cellsU old ++ cellsU l = cellsU (old ++ l) by simp [cellsU]] at h2
  unfold Oper.wp
  simp only [execOp, ho, resolve, invoke, builtin, Sem.run_bind, Sem.run_pure, Result.andThen_ok, List.map_toArray, List.map_cons, List.map_nil, hs, hx, hrun]
  exact h v' w' h2 h3
theorem owns_lower {w : World} {B B' : Nat} {e : TypeId} {s : Nat} {v : Value} {n : Nat} {xs : List Value} (h : w.ownsRow B e s v n xs) (hB : B' ≤ B) : w.ownsRow B' e s v n xs := by
  refine ⟨h.1, ?_⟩
  rcases h.2 with h2 | ⟨g, cap, cur, e1, h3, h4⟩
  · exact .inl h2
  · exact .inr ⟨g, cap, cur, e1, Nat.le_trans hB h3, h4⟩
/-- What the loop has at place j. -/
structure OiSt (w : World) (n : Nat) (bs : Bs) (wr : World) (R : List Nat) (j : Nat) (pv : Option Addr) (cv K : Nat) : Prop where
  len : R.length = K
  le : j ≤ n
  few : K ≤ j
  pos : j ≠ 0 → 0 < K
  own : wr.ownsRow (w.heap.size + 1) 34 1 (.slice pv K cv) K (cellsU R)
  lt : ∀ x ∈ R, x < 9223372036854775808
  rows : rowsD n bs = (rowsD (n - j) (bs.drop j)).map (fun l => R ++ l)
theorem OiSt.bad {w wr : World} {n : Nat} {bs : Bs} {R : List Nat} {j : Nat} {pv : Option Addr} {cv K : Nat} (h : OiSt w n bs wr R j pv cv K) (hl : bs.length = n) (hj : j < n) (hr : rowD (bs.drop j) = none) : rowsD n bs = none := by
  have hd : (bs.drop j).length = n - j := by rw [List.length_drop, hl]
  have := rowsD_step (bs := bs.drop j) (by omega)
  rw [hr, hd] at this
  rw [h.rows, this]
  rfl
theorem OiSt.go {w wr : World} {n : Nat} {bs : Bs} {R : List Nat} {j : Nat} {pv : Option Addr} {cv K : Nat} (h : OiSt w n bs wr R j pv cv K) (hl : bs.length = n) (hj : j < n) {m j2 : Nat} (hj2 : j < j2) (hjn : j2 ≤ n) (hr : rowD (bs.drop j) = some (m, bs.drop j2)) (w3 : World) (p3 : Option Addr) (c3 : Nat) (ho : w3.ownsRow (w.heap.size + 1) 34 1 (.slice p3 (K + 1) c3) (K + 1) (cellsU (R ++ [m]))) : OiSt w n bs w3 (R ++ [m]) j2 p3 c3 (K + 1) := by
  have hd : (bs.drop j).length = n - j := by rw [List.length_drop, hl]
  have hd2 : (bs.drop j2).length = n - j2 := by rw [List.length_drop, hl]
  have hs := rowsD_step (bs := bs.drop j) (by omega)
  rw [hr, hd] at hs
  simp only [hd2] at hs
  refine ⟨by rw [List.length_append, h.len]; rfl, hjn, by have := h.few; omega, by omega, ho, ?_, ?_⟩
  · intro x hx
    rcases List.mem_append.1 hx with hx | hx
    · exact h.lt x hx
    · simp at hx
      subst hx
      exact (rowGo_len _ _ _ _ _ hr).2
  · rw [h.rows, hs]
    cases rowsD (n - j2) (bs.drop j2) with
    | none => rfl
    | some l => simp
set_option maxRecDepth 100000 in
set_option maxHeartbeats 8000000 in
/-- Oid. -/
theorem rOid10 (t : Nat) (ht : t < 256) (p : Option Addr) (n c : Nat) (bs : Bs) (P : Nat → Prop) (w : World) (hl : bs.length = n) (h : ByV w P p c bs) (hn5 : n ≤ 5000) :
    Calls Tryd.prog 7 #[.agg #[.int .u8 (t : Int), .slice p n c]] w (OidPost w (oidD t bs)) := by
  obtain ⟨W1, hW1⟩ : ∃ W1, w.alloc (.cells #[.int .u8 (t : Int), .slice p n c] 24) = W1 := ⟨_, rfl⟩
  have b1 : Below w.heap.size w W1 := by rw [← hW1]; exact (Below.refl _ _).alloc (Nat.le_refl _) _
  have z1 : W1.heap.size = w.heap.size + 1 := by rw [← hW1]; exact alloc_sz _ _
  have s1 : Tl W1 w.heap.size (.int .u8 (t : Int)) (.slice p n c) := by rw [← hW1]; exact Tl.new w _ _
  obtain ⟨g0, g1, g2, g3⟩ := s1.facts
  have hbig := h.big
  have hcap := h.cap
  rw [hl] at hcap
  have HS : Hid (Below w.heap.size w W1 ∧ ByV W1 (fun b => b < w.heap.size) p c bs ∧ bs.length = n ∧ W1.heap.size = w.heap.size + 1 ∧ Tl W1 w.heap.size (.int .u8 (t : Int)) (.slice p n c)) := ⟨b1, (h.mono (fun g _ hlt => hlt)).keep (fun g hg _ => b1.block g hg), hl, z1, s1⟩
  have HBAD : Hid (∀ W k, Below w.heap.size w W → oidD t bs = .error k → OidPost w (oidD t bs) (.returned (.tuple #[.slice none 0 0, .int .i64 (k : Int)])) W) := fun W k hW hk => ⟨hW, .inl ⟨k, hk, rfl⟩⟩
  clear s1 b1 h z1
  by_cases q2 : t = 6
  rotate_left
  · have e3 : ((t : Int) != 6) = true := by simp; omega
    have e2 : ((t : Int) == 6) = false := by simp; omega
    go_enter Tryd.func7, Tryd.ntmps7
    go_wp2_with fail
    go_ret2
    exact HBAD.out _ 30 HS.out.1 (by unfold oidD; rw [if_pos (.inl q2)])
  have e3 : ((t : Int) != 6) = false := by simp; omega
  have e2 : ((t : Int) == 6) = true := by simp; omega
  by_cases q3 : n = 0
  · have e4 : ((n : Int) == 0) = true := by simp; omega
    have HQ3 : Hid (n = 0) := q3
    clear q2 q3 hcap
    go_enter Tryd.func7, Tryd.ntmps7
    go_wp2_with fail
    go_ret2
    exact HBAD.out _ 30 HS.out.1 (by unfold oidD; rw [if_pos (.inr (by rw [HS.out.2.2.1]; exact HQ3.out))])
  have e4 : ((n : Int) == 0) = false := by simp; omega
  have HO : Hid (oidD t bs = match rowsD n bs with
    | none => .error 30
    | some l => if 16 < (numsD l).length then .error 14 else .ok (numsD l)) := by
    show oidD t bs = _
    unfold oidD
    rw [if_neg (by rw [HS.out.2.2.1]; simp [q2, q3]), HS.out.2.2.1]
    cases rowsD n bs <;> rfl
  have HB30 : Hid (∀ W, Below w.heap.size w W → rowsD n bs = none → OidPost w (oidD t bs) (.returned (.tuple #[.slice none 0 0, .int .i64 30])) W) := fun W hW hk => HBAD.out W 30 hW (by rw [HO.out, hk])
  clear q2 hl
  go_enter Tryd.func7, Tryd.ntmps7
  go_wp2_with fail
  go_loopw [5, 6] (fun v5 v6 wr => ∃ (R : List Nat) (j : Nat) (pv : Option Addr) (cv K : Nat), v6 = .int .i64 (j : Int) ∧ v5 = .slice pv K cv ∧ OiSt w n bs wr R j pv cv K ∧ Below W1.heap.size W1 wr) (fun _ v6 _ => n - (intOf v6).toNat)
  case atStart => exact ⟨[], 0, none, 0, 0, rfl, rfl, ⟨rfl, by omega, Nat.le_refl _, fun h => absurd rfl h, World.ownsRow_nil _ _ _ _, fun x hx => (by cases hx), by rw [List.drop_zero, Nat.sub_zero]; cases rowsD n bs <;> rfl⟩, Below.refl _ _⟩
  case round =>
    obtain ⟨R, j, pv, cv, K, rfl, rfl, st, hb⟩ := hrel
    have hjn := st.le
    have hKj := st.few
    obtain ⟨k0, k1, k2, k3⟩ := (HS.out.2.2.2.2.below hb).facts
    have HI : Hid (OiSt w n bs wr R j pv cv K ∧ Below W1.heap.size W1 wr ∧ Below w.heap.size w wr) := ⟨st, hb, HS.out.1.trans (hb.mono HS.out.1.size)⟩
    clear st hb g0 g1 g2 g3
    rcases Nat.lt_or_eq_of_le hjn with hj | hj
    rotate_left
    · have hK0 : 0 < K := HI.out.1.pos (by omega)
      obtain ⟨r0, R', rfl⟩ : ∃ r0 R', R = r0 :: R' := by
        cases R with
        | nil => have := HI.out.1.len; simp at this; omega
        | cons a l => exact ⟨a, l, rfl⟩
      have hRW : rowsD n bs = some (r0 :: R') := by
        rw [HI.out.1.rows, hj, Nat.sub_self]
        simp [rowsD]
      have hlen : R'.length = K - 1 := by have := HI.out.1.len; simp at this; omega
      have hr0 : r0 < 9223372036854775808 := HI.out.1.lt r0 (by simp)
      have hnum : numsD (r0 :: R') = [min (r0 / 40) 2, r0 - min (r0 / 40) 2 * 40] ++ R' := rfl
      have hnl : (numsD (r0 :: R')).length = K + 1 := by rw [hnum]; simp [hlen]; omega
      obtain ⟨g, cap, hsl, hgb, hcap1, hcap2, hcells⟩ : ∃ g cap, (Value.slice pv K cv) = .slice (some ⟨g, 0, none⟩) K cap ∧ w.heap.size + 1 ≤ g ∧ K ≤ cap ∧ cap ≤ 9223372036854775807 ∧ ∀ i (hi : i < K), wr.cell? ⟨g, i, none⟩ = some (.int .u64 (((r0 :: R').getD i 0 : Nat) : Int)) := by
        have h2 := HI.out.1.own
        rcases h2.2 with ⟨_, h1⟩ | ⟨g, cap, cur, e, hb, hr, h3, h4, _⟩
        · omega
        · refine ⟨g, cap, e, hb, h3, by unfold maxLen at h4; omega, fun i hi => ?_⟩
          rw [e] at h2
          rw [owns_cell h2 i (by omega)]
          have hlt : i < (r0 :: R').length := by rw [HI.out.1.len]; exact hi
          unfold cellsU
          rw [List.getElem?_map, List.getElem?_eq_getElem hlt]
          simp only [Option.map_some, List.getD, List.getElem?_eq_getElem hlt, Option.getD_some]
      cases hsl
      have HRX : Hid (rowsD n bs = some (r0 :: R') ∧ numsD (r0 :: R') = [min (r0 / 40) 2, r0 - min (r0 / 40) 2 * 40] ++ R' ∧ (numsD (r0 :: R')).length = K + 1 ∧ R'.length = K - 1 ∧ ∀ i (hi : i < K), wr.cell? ⟨g, i, none⟩ = some (.int .u64 (((r0 :: R').getD i 0 : Nat) : Int))) := ⟨hRW, hnum, hnl, hlen, hcells⟩
      have c0 : wr.cell? ⟨g, 0, none⟩ = some (.int .u64 (r0 : Int)) := hcells 0 hK0
      have hjI : ¬ (j : Int) < (n : Int) := by omega
      have hK0I : (0 : Int) < (K : Int) := by omega
      have hK1I : (1 : Int) ≤ (K : Int) := by omega
      have hc1I : (1 : Int) ≤ (cv : Int) := by omega
      have hKc : (K : Int) ≤ (cv : Int) := by omega
      have hcM : (cv : Int) ≤ 9223372036854775807 := by omega
      obtain ⟨Q, hQ⟩ : ∃ Q, r0 / 40 = Q := ⟨_, rfl⟩
      have hQI : (r0 : Int) / 40 = (Q : Int) := by omega
      obtain ⟨M, hM⟩ : ∃ M, min Q 2 = M := ⟨_, rfl⟩
      have HM : Hid (min (r0 / 40) 2 = M ∧ M ≤ 2 ∧ M * 40 ≤ r0) := ⟨by rw [hQ]; exact hM, by omega, by omega⟩
      clear hRW hnum hnl hlen hcells hj
      by_cases q7 : 2 < Q
      · have q7I : (2 : Int) < (Q : Int) := by omega
        obtain rfl : M = 2 := by omega
        clear hM
        have hT := HM.out
        obtain ⟨T, hTT⟩ : ∃ T, r0 - 2 * 40 = T := ⟨_, rfl⟩
        have hTI : (r0 : Int) - 80 = (T : Int) := by omega
        have hT0 : 0 ≤ (r0 : Int) - 80 := by omega
        have hF40 : 80 ≤ (r0 : Int) := by omega
        have hwF : IntKind.u64.wrap (80) = 80 := Go.IntWalk.u64_in _ (by omega)
        have hwT : IntKind.u64.wrap (T : Int) = (T : Int) := Go.IntWalk.u64_in _ (by omega)
        have hr0I : (r0 : Int) ≤ 9223372036854775807 := by omega
        have HNS : Hid (numsD (r0 :: R') = [2, T] ++ R') := by show numsD (r0 :: R') = _; rw [HRX.out.2.1, hT.1, ← hTT]
        have hown0 : (wr.alloc (.cells #[.int .u64 2, .int .u64 (T : Int)] 34)).ownsRow (w.heap.size + 1) 34 1 (.slice (some ⟨wr.heap.size, 0, none⟩) 2 2) 2 (cellsU [2, T]) := World.ownsRow_lit wr #[.int .u64 2, .int .u64 (T : Int)] 2 (by rw [← HS.out.2.2.2.1]; exact HI.out.2.1.size) (by decide) (by simp)
        have hbB : w.heap.size + 1 ≤ wr.heap.size := by rw [← HS.out.2.2.2.1]; exact HI.out.2.1.size
        have HW0 : Hid ((wr.alloc (.cells #[.int .u64 2, .int .u64 (T : Int)] 34)).drew.ownsRow (w.heap.size + 1) 34 1 (.slice (some ⟨wr.heap.size, 0, none⟩) 2 2) 2 (cellsU [2, T]) ∧ Below (w.heap.size + 1) wr (wr.alloc (.cells #[.int .u64 2, .int .u64 (T : Int)] 34)).drew ∧ w.heap.size + 1 ≤ (wr.alloc (.cells #[.int .u64 2, .int .u64 (T : Int)] 34)).drew.heap.size) := ⟨hown0, ((Below.refl _ wr).alloc hbB _).drew, Nat.le_trans hbB (alloc_le _ _)⟩
        have HCL : Hid (∀ i u, (cellsU R')[i]? = some u → (wr.alloc (.cells #[.int .u64 2, .int .u64 (T : Int)] 34)).drew.cell? ⟨g, 1 + i, none⟩ = some u) := fun i u hu => by
          obtain ⟨hi1, hi2⟩ := List.getElem?_eq_some_iff.1 hu
          have hi3 : i < R'.length := by simpa [cellsU] using hi1
          have hi4 := HRX.out.2.2.2.1
          have hc := HRX.out.2.2.2.2 (1 + i) (by omega)
          have hlt := World.block_lt_of_cell? wr _ hc
          have hbl : Below wr.heap.size wr (wr.alloc (.cells #[.int .u64 2, .int .u64 (T : Int)] 34)).drew := ((Below.refl _ wr).alloc (Nat.le_refl _) _).drew
          rw [hbl.cell (p := ⟨g, 1 + i, none⟩) hlt, hc, ← hi2]
          simp [cellsU, List.getD, Nat.add_comm 1 i, hi3]
        have HBB : Hid (w.heap.size + 1 ≤ wr.heap.size) := hbB
        clear hT hTT hown0 hbB
        by_cases q8 : K = 1
        · have HK1 : Hid (R' = [] ∧ numsD (r0 :: R') = [2, T] ∧ (wr.alloc (.cells #[.int .u64 2, .int .u64 (T : Int)] 34)).drew.ownsRow (w.heap.size + 1) 34 1 (.slice (some ⟨wr.heap.size, 0, none⟩) 2 2) 2 (cellsU [2, T])) := by
            have h1 : R' = [] := List.eq_nil_of_length_eq_zero (by rw [HRX.out.2.2.2.1]; omega)
            exact ⟨h1, by rw [HNS.out, h1]; rfl, HW0.out.1⟩
          have HFIN : Hid (OidPost w (oidD t bs) (.returned (.tuple #[.slice (some ⟨wr.heap.size, 0, none⟩) 2 2, .int .i64 0])) (wr.alloc (.cells #[.int .u64 2, .int .u64 (T : Int)] 34)).drew) := by
            refine ⟨HI.out.2.2.trans (HW0.out.2.1.mono (Nat.le_succ_of_le (Nat.le_refl _)) |>.mono (Nat.le_refl _)), .inr ⟨numsD (r0 :: R'), _, ?_, ?_, rfl, ?_⟩⟩
            · rw [HO.out, HRX.out.1]
              simp only []
              rw [if_neg (by rw [HRX.out.2.2.1]; omega)]
            · rw [HRX.out.2.2.1]; omega
            · rw [HK1.out.2.1]
              exact owns_lower HK1.out.2.2 (Nat.le_succ _)
          subst q8
          by_cases q9 : cv = 1
          · subst q9
            go_wp2_with fail
            go_region
            all_goals
              go_wp2_with fail
              go_ret2
              exact HFIN.out
          · go_wp2_with fail
            go_region
            all_goals
              go_wp2_with fail
              go_ret2
              exact HFIN.out
        have hcv1 : ¬ cv = 1 := by omega
        go_wp2_with fail
        go_region_law (refine step_append_u (by simp [Region.wanted, yielded, Act.put]) (.tmp 75) (.tmp 77) rfl (w.heap.size + 1) (.slice (some ⟨wr.heap.size, 0, none⟩) 2 2) (by simp [Act.eval, Act.put]) [2, T] 2 HW0.out.1 ⟨g, 1, none⟩ (K - 1) (cv - 1) R' HRX.out.2.2.2.1 (by simp [Act.eval, Act.put, hcv1]) (fun i u hu => by rw [Addr.add_mid]; exact HCL.out i u hu) (by omega) HW0.out.2.2 ?_; intro v5 w5 o5 gr5; have HO5 : Hid (w5.ownsRow (w.heap.size + 1) 34 1 v5 (K + 1) (cellsU (numsD (r0 :: R'))) ∧ Below (w.heap.size + 1) wr w5) := ⟨by rw [HNS.out]; have e : 2 + (K - 1) = K + 1 := (by omega); rw [e] at o5; exact o5, below_grownT HW0.out.2.1 HBB.out HW0.out.1 gr5⟩; clear o5 gr5; obtain ⟨p5, c5, rfl⟩ := owns_slice HO5.out.1)
        all_goals
          by_cases q9 : 16 < K + 1
          · have q9I : (16 : Int) < ((K : Int) + 1) := by omega
            have q9J : (16 : Int) < ((K + 1 : Nat) : Int) := by omega
            clear q9
            go_wp2_with fail
            go_ret2
            exact HBAD.out _ 14 (HI.out.2.2.trans (HO5.out.2.mono (Nat.le_succ _))) (by rw [HO.out, HRX.out.1]; simp only []; rw [if_pos (by rw [HRX.out.2.2.1]; omega)])
          · have q9I : ¬ (16 : Int) < ((K : Int) + 1) := by omega
            have q9J : ¬ (16 : Int) < ((K + 1 : Nat) : Int) := by omega
            have HLE : Hid (¬ 16 < K + 1) := q9
            clear q9
            go_wp2_with fail
            go_ret2
            refine ⟨HI.out.2.2.trans (HO5.out.2.mono (Nat.le_succ _)), .inr ⟨numsD (r0 :: R'), _, ?_, ?_, rfl, ?_⟩⟩
            · rw [HO.out, HRX.out.1]
              simp only []
              rw [if_neg (by rw [HRX.out.2.2.1]; exact HLE.out)]
            · rw [HRX.out.2.2.1]; have := HLE.out; omega
            · rw [HRX.out.2.2.1]
              exact owns_lower HO5.out.1 (Nat.le_succ _)
      · have q7I : ¬ (2 : Int) < (Q : Int) := by omega
        obtain rfl : M = Q := by omega
        clear hM
        have hT := HM.out
        obtain ⟨T, hTT⟩ : ∃ T, r0 - M * 40 = T := ⟨_, rfl⟩
        have hTI : (r0 : Int) - 40 * (M : Int) = (T : Int) := by omega
        have hT0 : 0 ≤ (r0 : Int) - 40 * (M : Int) := by omega
        have hF40 : 40 * (M : Int) ≤ (r0 : Int) := by omega
        have hwF : IntKind.u64.wrap (40 * (M : Int)) = 40 * (M : Int) := Go.IntWalk.u64_in _ (by omega)
        have hwT : IntKind.u64.wrap (T : Int) = (T : Int) := Go.IntWalk.u64_in _ (by omega)
        have hr0I : (r0 : Int) ≤ 9223372036854775807 := by omega
        have HNS : Hid (numsD (r0 :: R') = [M, T] ++ R') := by show numsD (r0 :: R') = _; rw [HRX.out.2.1, hT.1, ← hTT]
        have hown0 : (wr.alloc (.cells #[.int .u64 (M : Int), .int .u64 (T : Int)] 34)).ownsRow (w.heap.size + 1) 34 1 (.slice (some ⟨wr.heap.size, 0, none⟩) 2 2) 2 (cellsU [M, T]) := World.ownsRow_lit wr #[.int .u64 (M : Int), .int .u64 (T : Int)] 2 (by rw [← HS.out.2.2.2.1]; exact HI.out.2.1.size) (by decide) (by simp)
        have hbB : w.heap.size + 1 ≤ wr.heap.size := by rw [← HS.out.2.2.2.1]; exact HI.out.2.1.size
        have HW0 : Hid ((wr.alloc (.cells #[.int .u64 (M : Int), .int .u64 (T : Int)] 34)).drew.ownsRow (w.heap.size + 1) 34 1 (.slice (some ⟨wr.heap.size, 0, none⟩) 2 2) 2 (cellsU [M, T]) ∧ Below (w.heap.size + 1) wr (wr.alloc (.cells #[.int .u64 (M : Int), .int .u64 (T : Int)] 34)).drew ∧ w.heap.size + 1 ≤ (wr.alloc (.cells #[.int .u64 (M : Int), .int .u64 (T : Int)] 34)).drew.heap.size) := ⟨hown0, ((Below.refl _ wr).alloc hbB _).drew, Nat.le_trans hbB (alloc_le _ _)⟩
        have HCL : Hid (∀ i u, (cellsU R')[i]? = some u → (wr.alloc (.cells #[.int .u64 (M : Int), .int .u64 (T : Int)] 34)).drew.cell? ⟨g, 1 + i, none⟩ = some u) := fun i u hu => by
          obtain ⟨hi1, hi2⟩ := List.getElem?_eq_some_iff.1 hu
          have hi3 : i < R'.length := by simpa [cellsU] using hi1
          have hi4 := HRX.out.2.2.2.1
          have hc := HRX.out.2.2.2.2 (1 + i) (by omega)
          have hlt := World.block_lt_of_cell? wr _ hc
          have hbl : Below wr.heap.size wr (wr.alloc (.cells #[.int .u64 (M : Int), .int .u64 (T : Int)] 34)).drew := ((Below.refl _ wr).alloc (Nat.le_refl _) _).drew
          rw [hbl.cell (p := ⟨g, 1 + i, none⟩) hlt, hc, ← hi2]
          simp [cellsU, List.getD, Nat.add_comm 1 i, hi3]
        have HBB : Hid (w.heap.size + 1 ≤ wr.heap.size) := hbB
        clear hT hTT hown0 hbB
        by_cases q8 : K = 1
        · have HK1 : Hid (R' = [] ∧ numsD (r0 :: R') = [M, T] ∧ (wr.alloc (.cells #[.int .u64 (M : Int), .int .u64 (T : Int)] 34)).drew.ownsRow (w.heap.size + 1) 34 1 (.slice (some ⟨wr.heap.size, 0, none⟩) 2 2) 2 (cellsU [M, T])) := by
            have h1 : R' = [] := List.eq_nil_of_length_eq_zero (by rw [HRX.out.2.2.2.1]; omega)
            exact ⟨h1, by rw [HNS.out, h1]; rfl, HW0.out.1⟩
          have HFIN : Hid (OidPost w (oidD t bs) (.returned (.tuple #[.slice (some ⟨wr.heap.size, 0, none⟩) 2 2, .int .i64 0])) (wr.alloc (.cells #[.int .u64 (M : Int), .int .u64 (T : Int)] 34)).drew) := by
            refine ⟨HI.out.2.2.trans (HW0.out.2.1.mono (Nat.le_succ_of_le (Nat.le_refl _)) |>.mono (Nat.le_refl _)), .inr ⟨numsD (r0 :: R'), _, ?_, ?_, rfl, ?_⟩⟩
            · rw [HO.out, HRX.out.1]
              simp only []
              rw [if_neg (by rw [HRX.out.2.2.1]; omega)]
            · rw [HRX.out.2.2.1]; omega
            · rw [HK1.out.2.1]
              exact owns_lower HK1.out.2.2 (Nat.le_succ _)
          subst q8
          by_cases q9 : cv = 1
          · subst q9
            go_wp2_with fail
            go_region
            all_goals
              go_wp2_with fail
              go_ret2
              exact HFIN.out
          · go_wp2_with fail
            go_region
            all_goals
              go_wp2_with fail
              go_ret2
              exact HFIN.out
        have hcv1 : ¬ cv = 1 := by omega
        go_wp2_with fail
        go_region_law (refine step_append_u (by simp [Region.wanted, yielded, Act.put]) (.tmp 75) (.tmp 77) rfl (w.heap.size + 1) (.slice (some ⟨wr.heap.size, 0, none⟩) 2 2) (by simp [Act.eval, Act.put]) [M, T] 2 HW0.out.1 ⟨g, 1, none⟩ (K - 1) (cv - 1) R' HRX.out.2.2.2.1 (by simp [Act.eval, Act.put, hcv1]) (fun i u hu => by rw [Addr.add_mid]; exact HCL.out i u hu) (by omega) HW0.out.2.2 ?_; intro v5 w5 o5 gr5; have HO5 : Hid (w5.ownsRow (w.heap.size + 1) 34 1 v5 (K + 1) (cellsU (numsD (r0 :: R'))) ∧ Below (w.heap.size + 1) wr w5) := ⟨by rw [HNS.out]; have e : 2 + (K - 1) = K + 1 := (by omega); rw [e] at o5; exact o5, below_grownT HW0.out.2.1 HBB.out HW0.out.1 gr5⟩; clear o5 gr5; obtain ⟨p5, c5, rfl⟩ := owns_slice HO5.out.1)
        all_goals
          by_cases q9 : 16 < K + 1
          · have q9I : (16 : Int) < ((K : Int) + 1) := by omega
            have q9J : (16 : Int) < ((K + 1 : Nat) : Int) := by omega
            clear q9
            go_wp2_with fail
            go_ret2
            exact HBAD.out _ 14 (HI.out.2.2.trans (HO5.out.2.mono (Nat.le_succ _))) (by rw [HO.out, HRX.out.1]; simp only []; rw [if_pos (by rw [HRX.out.2.2.1]; omega)])
          · have q9I : ¬ (16 : Int) < ((K : Int) + 1) := by omega
            have q9J : ¬ (16 : Int) < ((K + 1 : Nat) : Int) := by omega
            have HLE : Hid (¬ 16 < K + 1) := q9
            clear q9
            go_wp2_with fail
            go_ret2
            refine ⟨HI.out.2.2.trans (HO5.out.2.mono (Nat.le_succ _)), .inr ⟨numsD (r0 :: R'), _, ?_, ?_, rfl, ?_⟩⟩
            · rw [HO.out, HRX.out.1]
              simp only []
              rw [if_neg (by rw [HRX.out.2.2.1]; exact HLE.out)]
            · rw [HRX.out.2.2.1]; have := HLE.out; omega
            · rw [HRX.out.2.2.1]
              exact owns_lower HO5.out.1 (Nat.le_succ _)
    have hjI : (j : Int) < (n : Int) := by omega
    have hj0 : (0 : Int) ≤ (j : Int) := by omega
    obtain ⟨b, o, rfl, hcl⟩ := HS.out.2.1.lies (by rw [HS.out.2.2.1]; omega)
    have HC : Hid (∀ i, i < n → wr.cell? ⟨b, o + i, none⟩ = some (.int .u8 ((bs.getD i 0).toNat : Int))) := fun i hi => (HI.out.2.1.cell (p := ⟨b, o + i, none⟩) (World.block_lt_of_cell? W1 _ (hcl i (by rw [HS.out.2.2.1]; exact hi)))).trans (hcl i (by rw [HS.out.2.2.1]; exact hi))
    have HDR : Hid (∀ i, i < n → bs.drop i = bs.getD i 0 :: bs.drop (i + 1)) := fun i hi => by
      have hjl : i < bs.length := by rw [HS.out.2.2.1]; exact hi
      rw [List.drop_eq_getElem_cons hjl]
      congr 1
      simp [List.getD, hjl]
    clear hcl
    have c0 := HC.out j hj
    obtain ⟨Y, hY⟩ : ∃ Y, (bs.getD j 0).toNat = Y := ⟨_, rfl⟩
    have hyl := (bs.getD j 0).toNat_lt
    rw [hY] at c0 hyl
    by_cases q5 : Y = 128
    · have q5I : ((Y : Int) == 128) = true := by simp; omega
      have HN : Hid (rowsD n bs = none) := HI.out.1.bad HS.out.2.2.1 hj (by unfold rowD; rw [HDR.out j hj, rowGo_cons, if_pos (.inl ⟨rfl, by rw [hY]; exact q5⟩)])
      clear q5 hY
      go_wp2_with fail
      go_ret2
      exact HB30.out _ HI.out.2.2 HN.out
    have q5I : ((Y : Int) == 128) = false := by simp; omega
    have HF : Hid (rowD (bs.drop j) = rowGo 0 false (bs.drop j)) := by
      show rowGo 0 true (bs.drop j) = _
      rw [HDR.out j hj]
      exact rowGo_first _ _ (by rw [hY]; exact q5) 0
    clear hY q5
    go_wp2_with fail
    go_loopw [6, 7] (fun v6 v7 w2 => ∃ (i N : Nat), v6 = .int .i64 (i : Int) ∧ v7 = .int .u64 (N : Int) ∧ j ≤ i ∧ i ≤ n ∧ N < 9223372036854775808 ∧ rowD (bs.drop j) = rowGo N false (bs.drop i) ∧ w2 = wr) (fun v6 _ _ => n - (intOf v6).toNat)
    case atStart => exact ⟨j, 0, rfl, rfl, Nat.le_refl _, hjn, by omega, HF.out, rfl⟩
    case round =>
      obtain ⟨i, N, rfl, rfl, hji, hin, hN, hrg, rfl⟩ := hrel
      have HN : Hid (N < 9223372036854775808 ∧ rowD (bs.drop j) = rowGo N false (bs.drop i)) := ⟨hN, hrg⟩
      have HNONE : Hid (rowD (bs.drop j) = none → OidPost w (oidD t bs) (.returned (.tuple #[.slice none 0 0, .int .i64 30])) wr) := fun hr => HB30.out _ HI.out.2.2 (HI.out.1.bad HS.out.2.2.1 hj hr)
      clear hrg
      rcases Nat.lt_or_eq_of_le hin with hi | hi
      rotate_left
      · have hiI : ((i : Int) == (n : Int)) = true := by simp; omega
        have HR0 : Hid (rowD (bs.drop j) = none) := by
          show rowD (bs.drop j) = none
          rw [HN.out.2, List.drop_of_length_le (by rw [HS.out.2.2.1]; omega)]
          rfl
        clear hi
        go_wp2_with fail
        go_ret2
        exact HNONE.out HR0.out
      have hiI : ((i : Int) == (n : Int)) = false := by simp; omega
      by_cases q6 : 72057594037927935 < N
      · have q6I : (72057594037927936 : Int) ≤ (N : Int) := by omega
        have HR0 : Hid (rowD (bs.drop j) = none) := by
          show rowD (bs.drop j) = none
          rw [HN.out.2, HDR.out i hi, rowGo_cons, if_pos (.inr q6)]
        go_wp2_with fail
        go_ret2
        exact HNONE.out HR0.out
      have q6I : ¬ (72057594037927936 : Int) ≤ (N : Int) := by omega
      have c1 := HC.out i hi
      obtain ⟨X, hX⟩ : ∃ X, (bs.getD i 0).toNat = X := ⟨_, rfl⟩
      have hxl := (bs.getD i 0).toNat_lt
      rw [hX] at c1 hxl
      have HX : Hid ((bs.getD i 0).toNat = X) := hX
      obtain ⟨Z, hZ⟩ : ∃ Z, X % 128 = Z := ⟨_, rfl⟩
      have hZI : (X : Int) % 128 = (Z : Int) := by omega
      have hZl : Z < 128 := by omega
      obtain ⟨M, hM⟩ : ∃ M, N * 128 + Z = M := ⟨_, rfl⟩
      have hMI : (N : Int) * 128 + (Z : Int) = (M : Int) := by omega
      have hMl : M < 9223372036854775808 := by omega
      have HMZ : Hid (N * 128 + X % 128 = M) := by show _ = M; rw [hZ, hM]
      have hN1 : (N : Int) * 128 ≤ 9223372036854775680 := by omega
      have hi2 : (i : Int) < (n : Int) := by omega
      clear hX hZ hM hN
      by_cases q7 : X < 128
      · have q7I : (X : Int) < 128 := by omega
        have HR1 : Hid (rowD (bs.drop j) = some (M, bs.drop (i + 1))) := by
          show rowD (bs.drop j) = _
          rw [HN.out.2, HDR.out i hi, rowGo_cons, if_neg (by simp; omega), HX.out, if_pos q7, HMZ.out]
        clear q7
        have hB1 : w.heap.size + 1 ≤ wr.heap.size := by rw [← HS.out.2.2.2.1]; exact HI.out.2.1.size
        have HB1 : Hid (w.heap.size + 1 ≤ wr.heap.size) := hB1
        have hK5 : K + 1 ≤ 1000000 := by omega
        clear hB1
        go_wp2_with (at_builtin; refine wpList_append_u rfl (.tmp 58) (.tmp 60) rfl (w.heap.size + 1) (.slice pv K cv) rfl R K (HI.out.1.own.alloc _) ⟨wr.heap.size, 0, none⟩ 1 1 [M] rfl rfl (fun j u hj => by cases j with | zero => (simp [cellsU] at hj; subst hj; exact cell_of_row _ wr.heap.size 0 _ _ _ (heap_alloc_new wr _)) | succ j => simp [cellsU] at hj) hK5 (Nat.le_trans HB1.out (alloc_le _ _)) ?_; intro v1 w1 o1 gr1; have HO1 : Hid (w1.ownsRow (w.heap.size + 1) 34 1 v1 (K + 1) (cellsU (R ++ [M])) ∧ Below (w.heap.size + 1) wr w1) := ⟨o1, below_grownT ((Below.refl _ wr).alloc HB1.out _) HB1.out (HI.out.1.own.alloc _) gr1⟩; clear o1 gr1)
        obtain ⟨p3, c3, rfl⟩ := owns_slice HO1.out.1
        exact ⟨⟨R ++ [M], i + 1, p3, c3, K + 1, by push_cast; rfl, rfl, HI.out.1.go HS.out.2.2.1 hj (by omega) (by omega) HR1.out _ _ _ HO1.out.1, by have h1 := HI.out.2.1; rw [HS.out.2.2.2.1] at h1 ⊢; exact h1.trans HO1.out.2⟩, by simp only [intOf]; omega⟩
      · have q7I : ¬ (X : Int) < 128 := by omega
        have HR1 : Hid (rowD (bs.drop j) = rowGo M false (bs.drop (i + 1))) := by
          show rowD (bs.drop j) = _
          rw [HN.out.2, HDR.out i hi, rowGo_cons, if_neg (by simp; omega), HX.out, if_neg q7, HMZ.out]
        clear q7
        go_wp2_with fail
        exact ⟨⟨i + 1, M, by push_cast; rfl, rfl, by omega, by omega, hMl, HR1.out, trivial⟩, by simp only [intOf]; omega⟩
end Go.Proofs.YtnckmcmobkpdcaaDoor
