/-
  The document's Same, of nodes that are the same.
-/
import Derived.Test.YtbobgebhdafciabDoorJRp
namespace Go.Proofs.YtbobgebhdafciabDoor
open Go.Shelf Go.RowKit
set_option linter.unusedVariables false
set_option linter.unusedSimpArgs false

/-- A node that lies at a place, whoever owns it. -/
def LiesAt (w : World) (b o : Nat) (n : Nd) : Prop :=
  ∃ pN cN pK cK, w.cell? ⟨b, o, none⟩ = some (.int .u8 n.kind) ∧ w.cell? ⟨b, o + 1, none⟩ = some (.string ⟨n.text.toArray⟩) ∧ w.cell? ⟨b, o + 2, none⟩ = some (.slice pN n.names.length cN) ∧ w.cell? ⟨b, o + 3, none⟩ = some (.slice pK n.kids.length cK) ∧
    (∀ (j : Nat) (s : Bs), n.names[j]? = some s → ∃ q f, pN = some ⟨q, f, none⟩ ∧ w.cell? ⟨q, f + j, none⟩ = some (.string ⟨s.toArray⟩)) ∧ (∀ (j k : Nat), n.kids[j]? = some k → ∃ q f, pK = some ⟨q, f, none⟩ ∧ w.cell? ⟨q, f + j, none⟩ = some (.int .i64 (k : Int))) ∧
    n.names.length ≤ 9223372036854775807 ∧ n.kids.length ≤ 9223372036854775807
/-- Nodes that lie at a slice. -/
def LiesN (w : World) (p : Option Addr) (ns : List Nd) : Prop := ∀ (i : Nat) (n : Nd), ns[i]? = some n → ∃ b o, p = some ⟨b, o, none⟩ ∧ LiesAt w b (o + i * 4) n
theorem Rep.lies {w : World} {base b o : Nat} {h : Hd} {n : Nd} (r : Rep w base h n) (hc : ∀ j, j < 4 → w.cell? ⟨b, o + j, none⟩ = h.cells[j]?) : LiesAt w b o n := by
  obtain ⟨k, t, vn, vk⟩ := h
  obtain ⟨rk, rt, rn, rkd⟩ := r
  simp only at rk rt rn rkd
  have hn : ∃ pN cN, vn = .slice pN n.names.length cN ∧ n.names.length ≤ 9223372036854775807 ∧ ∀ (j : Nat) (s : Bs), n.names[j]? = some s → ∃ q f, pN = some ⟨q, f, none⟩ ∧ w.cell? ⟨q, f + j, none⟩ = some (.string ⟨s.toArray⟩) := by
    rcases rn.2 with ⟨e, h0⟩ | ⟨q, cap, cur, e, _, _, h1, h2, _⟩
    · refine ⟨none, 0, by rw [e, h0], by omega, fun j s hj => ?_⟩
      have := (List.getElem?_eq_some_iff.1 hj).1
      omega
    · refine ⟨some ⟨q, 0, none⟩, cap, e, by unfold maxLen at h2; omega, fun j s hj => ⟨q, 0, rfl, ?_⟩⟩
      have hj1 := (List.getElem?_eq_some_iff.1 hj).1
      rw [e] at rn
      rw [Nat.zero_add, owns_cell rn j (by omega)]
      unfold strs
      rw [List.getElem?_map, hj]
      rfl
  have hk : ∃ pK cK, vk = .slice pK n.kids.length cK ∧ n.kids.length ≤ 9223372036854775807 ∧ ∀ (j k : Nat), n.kids[j]? = some k → ∃ q f, pK = some ⟨q, f, none⟩ ∧ w.cell? ⟨q, f + j, none⟩ = some (.int .i64 (k : Int)) := by
    rcases rkd.2 with ⟨e, h0⟩ | ⟨q, cap, cur, e, _, _, h1, h2, _⟩
    · refine ⟨none, 0, by rw [e, h0], by omega, fun j s hj => ?_⟩
      have := (List.getElem?_eq_some_iff.1 hj).1
      omega
    · refine ⟨some ⟨q, 0, none⟩, cap, e, by unfold maxLen at h2; omega, fun j s hj => ⟨q, 0, rfl, ?_⟩⟩
      have hj1 := (List.getElem?_eq_some_iff.1 hj).1
      rw [e] at rkd
      rw [Nat.zero_add, owns_cell rkd j (by omega)]
      unfold ints
      rw [List.getElem?_map, hj]
      rfl
  obtain ⟨pN, cN, rfl, hn1, hn2⟩ := hn
  obtain ⟨pK, cK, rfl, hk1, hk2⟩ := hk
  refine ⟨pN, cN, pK, cK, ?_, ?_, ?_, ?_, hn2, hk2, hn1, hk1⟩
  · have := hc 0 (by decide); rw [Nat.add_zero] at this; rw [this, ← rk]; rfl
  · rw [hc 1 (by decide), ← rt]; rfl
  · rw [hc 2 (by decide)]; rfl
  · rw [hc 3 (by decide)]; rfl
theorem Nodes.lies {w : World} {base : Nat} {nv : Value} {hs : List Hd} {ns : List Nd} (h : Nodes w base nv hs ns) : ∃ p c, nv = .slice p ns.length c ∧ LiesN w p ns := by
  have hl := h.len
  have hrow := h.row
  rcases hrow.2 with ⟨e, h0⟩ | ⟨q, cap, cur, e, _⟩
  · refine ⟨none, 0, by rw [e, ← hl, h0], fun i n hi => ?_⟩
    have := (List.getElem?_eq_some_iff.1 hi).1
    omega
  · refine ⟨some ⟨q, 0, none⟩, cap, by rw [e, hl], fun i n hi => ⟨q, 0, rfl, ?_⟩⟩
    have hi1 := (List.getElem?_eq_some_iff.1 hi).1
    have hx : hs[i]? = some hs[i] := List.getElem?_eq_getElem (by omega)
    refine (h.rep i _ n hx hi).lies (fun j hj => ?_)
    rw [e] at hrow
    rw [Nat.zero_add, owns_cell hrow (i * 4 + j) (by omega), flat_get hs i j _ hx hj]
theorem LiesAt.keep {w w' : World} {b o : Nat} {n : Nd} {m : Nat} (h : LiesAt w b o n) (hb : ∀ k : Nat, (w.heap[k]?).isSome = true → w'.heap[k]? = w.heap[k]?) : LiesAt w' b o n := by
  have hc : ∀ (a : Addr) (v : Value), w.cell? a = some v → w'.cell? a = some v := fun a v ha => by
    rw [World.cell?_of_block (hb a.block ?_)]
    · exact ha
    · cases hh : w.heap[a.block]? with
      | none => simp [World.cell?, hh] at ha
      | some _ => rfl
  obtain ⟨pN, cN, pK, cK, h1, h2, h3, h4, h5, h6, h7, h8⟩ := h
  exact ⟨pN, cN, pK, cK, hc _ _ h1, hc _ _ h2, hc _ _ h3, hc _ _ h4, fun j s hj => (h5 j s hj).imp fun q hq => hq.imp fun f hf => ⟨hf.1, hc _ _ hf.2⟩, fun j s hj => (h6 j s hj).imp fun q hq => hq.imp fun f hf => ⟨hf.1, hc _ _ hf.2⟩, h7, h8⟩
theorem LiesN.keep {w w' : World} {p : Option Addr} {ns : List Nd} (h : LiesN w p ns) (hb : Below w.heap.size w w') : LiesN w' p ns := fun i n hi => by
  obtain ⟨b, o, e, hl⟩ := h i n hi
  exact ⟨b, o, e, hl.keep (m := 0) (fun k hk => hb.block k (by
    cases hh : w.heap[k]? with
    | none => rw [hh] at hk; cases hk
    | some _ => exact (Array.getElem?_eq_some_iff.1 hh).1))⟩
theorem LiesN.nil (w : World) (p : Option Addr) : LiesN w p [] := fun i n hi => by simp at hi

set_option maxRecDepth 100000 in
set_option maxHeartbeats 8000000 in
/-- Same. -/
theorem same_yes (p1 p2 : Option Addr) (c1 c2 : Nat) (ns : List Nd) (w : World) (h1 : LiesN w p1 ns) (h2 : LiesN w p2 ns) (hb : ns.length ≤ 1000000) :
    Calls Tryd.prog 10 #[.slice p1 ns.length c1, .slice p2 ns.length c2] w fun e w' => e = .returned (.bool true) ∧ ∃ k, w' = w.drewN k := by
  obtain ⟨n, hn⟩ : ∃ n, ns.length = n := ⟨_, rfl⟩
  rw [hn]
  have hnb : (n : Int) ≤ 1000000 := by omega
  have HN : Hid (ns.length = n) := hn
  clear hn hb
  go_enter Tryd.func10, Tryd.ntmps10
  go_wp2_with fail
  go_loopw [5] (fun v5 wr => ∃ i nq : Nat, v5 = .int .i64 i ∧ i ≤ n ∧ wr = w.drewN nq) (fun v5 _ => n - (intOf v5).toNat)
  case atStart => exact ⟨0, 0, rfl, by omega, rfl⟩
  case round =>
    obtain ⟨i, nq, rfl, hi, rfl⟩ := hrel
    rcases Nat.lt_or_eq_of_le hi with hi | rfl
    · have hil : i < ns.length := by rw [HN.out]; exact hi
      obtain ⟨x, hx⟩ : ∃ x, ns[i] = x := ⟨_, rfl⟩
      have hxi : ns[i]? = some x := by rw [List.getElem?_eq_getElem hil, hx]
      obtain ⟨b1, o1, rfl, pN1, cN1, pK1, cK1, a0, a1, a2, a3, a4, a5, a6, a7⟩ := h1 i x hxi
      obtain ⟨b2, o2, rfl, pN2, cN2, pK2, cK2, d0, d1, d2, d3, d4, d5, d6, d7⟩ := h2 i x hxi
      obtain ⟨kd, tx, nms, kds⟩ := x
      simp only at a0 a1 a2 a3 a4 a5 a6 a7 d0 d1 d2 d3 d4 d5
      obtain ⟨ln, hln⟩ : ∃ ln, nms.length = ln := ⟨_, rfl⟩
      obtain ⟨lk, hlk⟩ : ∃ lk, kds.length = lk := ⟨_, rfl⟩
      rw [hln] at a2 d2 a6
      rw [hlk] at a3 d3 a7
      have hiI : (i : Int) < (n : Int) := by omega
      have hi0 : (0 : Int) ≤ (i : Int) := by omega
      have hid : decide ((i : Int) < (n : Int)) = true := by simpa using hiI
      have HA : Hid ((∀ (j : Nat) (s : Bs), nms[j]? = some s → ∃ q f, pN1 = some ⟨q, f, none⟩ ∧ w.cell? ⟨q, f + j, none⟩ = some (.string ⟨s.toArray⟩)) ∧ (∀ (j : Nat) (s : Bs), nms[j]? = some s → ∃ q f, pN2 = some ⟨q, f, none⟩ ∧ w.cell? ⟨q, f + j, none⟩ = some (.string ⟨s.toArray⟩)) ∧ (∀ (j k : Nat), kds[j]? = some k → ∃ q f, pK1 = some ⟨q, f, none⟩ ∧ w.cell? ⟨q, f + j, none⟩ = some (.int .i64 (k : Int))) ∧ (∀ (j k : Nat), kds[j]? = some k → ∃ q f, pK2 = some ⟨q, f, none⟩ ∧ w.cell? ⟨q, f + j, none⟩ = some (.int .i64 (k : Int))) ∧ nms.length = ln ∧ kds.length = lk) := ⟨a4, d4, a5, d5, hln, hlk⟩
      have hnI : (ln : Int) ≤ 9223372036854775807 := by omega
      have hkI : (lk : Int) ≤ 9223372036854775807 := by omega
      have H12 : Hid (LiesN w (some ⟨b1, o1, none⟩) ns ∧ LiesN w (some ⟨b2, o2, none⟩) ns) := ⟨h1, h2⟩
      clear h1 h2 a4 d4 a5 d5 hx hxi d6 d7 a6 a7 hln hlk
      go_upto_region 6 with fail
      go_cut [72] from 13 to 72 (fun s72 wc => s72 = .bool false ∧ ∃ nq, wc = w.drewN nq)
      case first =>
        go_quiet (fail)
        go_wp2_with fail
        go_meet
        case rel => exact ⟨rfl, _, World.drewN_drewN _ _ _⟩
      case rest =>
      obtain ⟨rfl, nq2, rfl⟩ := hcut
      go_wp2_with fail
      go_loopw [6] (fun v6 wr => ∃ k nq : Nat, v6 = .int .i64 k ∧ k ≤ ln ∧ wr = w.drewN nq) (fun v6 _ => ln - (intOf v6).toNat)
      case atStart => exact ⟨0, _, rfl, by omega, rfl⟩
      case round =>
        obtain ⟨k, nq3, rfl, hk, rfl⟩ := hrel
        have hk0 : (0 : Int) ≤ (k : Int) := by omega
        rcases Nat.lt_or_eq_of_le hk with hk | rfl
        · have hkI' : (k : Int) < (ln : Int) := by omega
          have hkd : decide ((k : Int) < (ln : Int)) = true := by simpa using hkI'
          obtain ⟨s, hs⟩ : ∃ s, nms[k]? = some s := ⟨_, List.getElem?_eq_getElem (by rw [HA.out.2.2.2.2.1]; exact hk)⟩
          obtain ⟨q1, f1, rfl, r1⟩ := HA.out.1 k s hs
          obtain ⟨q2, f2, rfl, r2⟩ := HA.out.2.1 k s hs
          clear hs HA
          go_wp2_with fail
          go_quiet (fail)
          go_wp2_with fail
          exact ⟨⟨k + 1, _, by go_num, by omega, rfl⟩, by simp only [intOf]; omega⟩
        · have hkd : decide ((k : Int) < (k : Int)) = false := by simp
          go_wp2_with fail
          go_loopw [7] (fun v7 wr => ∃ k' nq : Nat, v7 = .int .i64 k' ∧ k' ≤ lk ∧ wr = w.drewN nq) (fun v7 _ => lk - (intOf v7).toNat)
          case atStart => exact ⟨0, _, rfl, by omega, rfl⟩
          case round =>
            obtain ⟨k', nq4, rfl, hk', rfl⟩ := hrel
            have hk0' : (0 : Int) ≤ (k' : Int) := by omega
            rcases Nat.lt_or_eq_of_le hk' with hk' | rfl
            · have hkI' : (k' : Int) < (lk : Int) := by omega
              have hkd' : decide ((k' : Int) < (lk : Int)) = true := by simpa using hkI'
              obtain ⟨s, hs⟩ : ∃ s, kds[k']? = some s := ⟨_, List.getElem?_eq_getElem (by rw [HA.out.2.2.2.2.2]; exact hk')⟩
              obtain ⟨q1, f1, rfl, r1⟩ := HA.out.2.2.1 k' s hs
              obtain ⟨q2, f2, rfl, r2⟩ := HA.out.2.2.2.1 k' s hs
              clear hs HA
              go_wp2_with fail
              go_quiet (fail)
              go_wp2_with fail
              exact ⟨⟨k' + 1, _, by go_num, by omega, rfl⟩, by simp only [intOf]; omega⟩
            · have hkd' : decide ((k' : Int) < (k' : Int)) = false := by simp
              go_wp2_with fail
              exact ⟨⟨i + 1, _, by go_num, by omega, rfl⟩, by simp only [intOf]; omega⟩
    · have hid : decide ((i : Int) < (i : Int)) = false := by simp
      go_wp2_with fail
      go_ret
      exact ⟨rfl, _, rfl⟩
end Go.Proofs.YtbobgebhdafciabDoor
