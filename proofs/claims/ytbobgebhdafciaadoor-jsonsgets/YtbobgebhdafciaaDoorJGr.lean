/-
  The document's Get.
-/
import Derived.Test.YtbobgebhdafciaaDoorJGt
namespace Go.Proofs.YtbobgebhdafciaaDoor
open Go.Shelf Go.RowKit
set_option linter.unusedVariables false
set_option linter.unusedSimpArgs false

theorem findL_at {ns : List Bs} {ks : List Int} {s : Bs} {k : Nat} (h1 : k < ns.length) (h2 : k < ks.length) (hq : ∀ j (hj : j < k), ns[j]'(by omega) ≠ s) (he : ns[k] = s) : findL (memL ns ks) s = some ks[k] := by
  unfold findL
  have hlen := memL_len ns ks
  have hk : k < (memL ns ks).length := by rw [hlen]; omega
  have hg : (memL ns ks)[k] = (ns[k], ks[k]) := by
    have := memL_get ns ks k h1 h2
    rw [List.getElem?_eq_getElem hk] at this
    exact Option.some.inj this
  have hf : (memL ns ks).find? (fun x => x.1 == s) = some (ns[k], ks[k]) := by
    rw [List.find?_eq_some_iff_getElem]
    refine ⟨by simpa using he, k, hk, hg, fun j hj => ?_⟩
    have hj2 := memL_get ns ks j (by omega) (by omega)
    have hjl : j < (memL ns ks).length := by omega
    rw [List.getElem?_eq_getElem hjl] at hj2
    rw [Option.some.inj hj2]
    have := hq j hj
    simpa using this
  rw [hf]
  rfl
theorem findL_no {ns : List Bs} {ks : List Int} {s : Bs} (hq : ∀ (j : Nat) (x : Bs), j < min ns.length ks.length → ns[j]? = some x → x ≠ s) : findL (memL ns ks) s = none := by
  unfold findL
  rw [List.find?_eq_none.2]
  · rfl
  · intro x hx
    obtain ⟨j, hj, e⟩ := List.getElem_of_mem hx
    have hlen := memL_len ns ks
    have h2 := memL_get ns ks j (by omega) (by omega)
    rw [List.getElem?_eq_getElem hj, e] at h2
    have h3 := Option.some.inj h2
    have := hq j ns[j] (by omega) (List.getElem?_eq_getElem (by omega))
    rw [h3]
    simpa using this

set_option maxRecDepth 100000 in
set_option maxHeartbeats 4000000 in
theorem rGet_any (p : Option Addr) (c : Nat) (gs : List Gn) (i : Int) (s : Bs) (w : World) (h : GLies w p gs) (hl : gs.length ≤ 1000) (hb : (nmsOf gs i).length ≤ 1000 ∧ (kdsOf gs i).length ≤ 1000) :
    Calls Tryd.prog 14 #[.slice p gs.length c, .int .i64 i, .string ⟨s.toArray⟩] w fun e w' => w' = w ∧ e = .returned (.int .i64 (rgetZ (memL (nmsOf gs i) (kdsOf gs i)) s)) := by
  obtain ⟨n, hn⟩ : ∃ n, gs.length = n := ⟨_, rfl⟩
  rw [hn]
  have hnb : (n : Int) ≤ 1000 := by omega
  have HN : Hid (gs.length = n) := hn
  clear hn hl
  by_cases q : i < 0 ∨ (n : Int) ≤ i
  · have ha : atG gs i = none := atG_none (by rw [HN.out]; exact q)
    have e1 : nmsOf gs i = [] := by unfold nmsOf; rw [ha]
    have e2 : kdsOf gs i = [] := by unfold kdsOf; rw [ha]
    have HZ : Hid (rgetZ (memL (nmsOf gs i) (kdsOf gs i)) s = -1) := by rw [e1, e2]; rfl
    by_cases q1 : i < 0
    · have q1' : decide (i < 0) = true := by simpa using q1
      clear q h e1 e2 ha hb
      go_enter Tryd.func14, Tryd.ntmps14
      go_wp2_with fail
      go_ret
      exact ⟨rfl, by rw [HZ.out]; rfl⟩
    · have q1' : decide (i < 0) = false := by simpa using q1
      have q2 : (n : Int) ≤ i := by omega
      have q2' : decide ((n : Int) ≤ i) = true := by simpa using q2
      clear q h e1 e2 ha hb
      go_enter Tryd.func14, Tryd.ntmps14
      go_wp2_with fail
      go_ret
      exact ⟨rfl, by rw [HZ.out]; rfl⟩
  · obtain ⟨k, g, rfl, hk, hg, ha⟩ := atG_some (gs := gs) (i := i) (by omega) (by rw [HN.out]; omega)
    have e1 : nmsOf gs (k : Int) = g.names := by unfold nmsOf; rw [ha]
    have e2 : kdsOf gs (k : Int) = g.kids := by unfold kdsOf; rw [ha]
    rw [e1, e2] at hb ⊢
    obtain ⟨b, o, rfl, hlt, pN, cN, pK, cK, c0, c1, c2, c3, r1, r2, r3, r4⟩ := h k g hg
    obtain ⟨ln, hln⟩ : ∃ ln, g.names.length = ln := ⟨_, rfl⟩
    obtain ⟨lk, hlk⟩ : ∃ lk, g.kids.length = lk := ⟨_, rfl⟩
    rw [hln] at c2
    rw [hlk] at c3
    have q1' : decide ((k : Int) < 0) = false := by simp
    have q2' : decide ((n : Int) ≤ (k : Int)) = false := by have := HN.out; simp; omega
    have q2n : decide (n ≤ k) = false := by have := HN.out; simp; omega
    have hkn : (k : Int) < (n : Int) := by have := HN.out; omega
    have hk0 : (0 : Int) ≤ (k : Int) := by omega
    have hln1 : (ln : Int) ≤ 1000 := by omega
    have hlk1 : (lk : Int) ≤ 1000 := by omega
    have HR : Hid (RowAt w w.heap.size pN g.names.length (strs g.names) ∧ RowAt w w.heap.size pK g.kids.length (g.kids.map (Value.int .i64)) ∧ g.names.length = ln ∧ g.kids.length = lk) := ⟨r1, r2, hln, hlk⟩
    clear q h e1 e2 ha hg r1 r2 r3 r4 hb hln hlk hk
    go_enter Tryd.func14, Tryd.ntmps14
    go_wp2_with fail
    go_loopw [7] (fun v7 wr => ∃ j : Nat, v7 = .int .i64 j ∧ j ≤ ln ∧ j ≤ lk ∧ Hid (∀ (t : Nat) (x : Bs), t < j → g.names[t]? = some x → x ≠ s) ∧ wr = w) (fun v7 _ => ln - (intOf v7).toNat)
    case atStart => exact ⟨0, rfl, by omega, by omega, fun t x ht => absurd ht (Nat.not_lt_zero _), rfl⟩
    case round =>
      obtain ⟨j, rfl, hj1, hj2, HQ, hwr⟩ := hrel
      have hwr' := hwr.symm
      subst hwr'
      clear hwr
      have hj0 : (0 : Int) ≤ (j : Int) := by omega
      by_cases t1 : j < ln
      · have t1I : (j : Int) < (ln : Int) := by omega
        have t1' : decide ((j : Int) < (ln : Int)) = true := by simpa using t1I
        by_cases t2 : j < lk
        · have t2I : (j : Int) < (lk : Int) := by omega
          have t2' : decide ((j : Int) < (lk : Int)) = true := by simpa using t2I
          have hjn : j < g.names.length := by rw [HR.out.2.2.1]; exact t1
          have hjk : j < g.kids.length := by rw [HR.out.2.2.2]; exact t2
          obtain ⟨qa, fa, rfl, _, ca⟩ := HR.out.1.cells (by omega)
          obtain ⟨qb, fb, rfl, _, cb⟩ := HR.out.2.1.cells (by omega)
          obtain ⟨x, hx⟩ : ∃ x, g.names[j] = x := ⟨_, rfl⟩
          obtain ⟨y, hy⟩ : ∃ y, g.kids[j] = y := ⟨_, rfl⟩
          have cca : w.cell? ⟨qa, fa + j, none⟩ = some (.string ⟨x.toArray⟩) := by rw [ca j hjn]; unfold strs; rw [List.getElem?_map, List.getElem?_eq_getElem hjn, hx]; rfl
          have ccb : w.cell? ⟨qb, fb + j, none⟩ = some (.int .i64 y) := by rw [cb j hjk, List.getElem?_map, List.getElem?_eq_getElem hjk, hy]; rfl
          have ht : ∀ l : Bs, (⟨l.toArray⟩ : ByteArray).toList = l := fun l => by rw [Lib.toList_data]
          by_cases he : x = s
          · have heb : (x == s) = true := by simpa using he
            have HF : Hid (rgetZ (memL g.names g.kids) s = y) := by
              show _ = _
              unfold rgetZ
              rw [findL_at hjn hjk (fun t ht => HQ.out t _ ht (List.getElem?_eq_getElem _)) (by rw [hx]; exact he)]
              exact hy
            clear ca cb hx hy he HR HQ
            go_wp2_with fail
            go_ret
            exact ⟨rfl, by rw [HF.out]; rfl⟩
          · have heb : (x == s) = false := by simpa using he
            have HQ2 : Hid (∀ (t : Nat) (z : Bs), t < j + 1 → g.names[t]? = some z → z ≠ s) := fun t z ht hz => by
              rcases Nat.lt_or_eq_of_le (Nat.le_of_lt_succ ht) with h1 | h1
              · exact HQ.out t z h1 hz
              · subst h1
                rw [List.getElem?_eq_getElem hjn, hx] at hz
                cases hz
                exact he
            clear ca cb hx hy he HR HQ
            go_wp2_with fail
            exact ⟨⟨j + 1, by go_num, by omega, by omega, HQ2, by trivial⟩, by simp only [intOf]; omega⟩
        · have t2' : decide ((j : Int) < (lk : Int)) = false := by simp; omega
          have HZ : Hid (rgetZ (memL g.names g.kids) s = -1) := by
            show _ = _
            unfold rgetZ
            rw [findL_no (fun t x ht hx => HQ.out t x (by have h1 := HR.out.2.2.2; omega) hx)]
          clear HR HQ
          go_wp2_with fail
          go_ret
          exact ⟨rfl, by rw [HZ.out]; rfl⟩
      · have t1' : decide ((j : Int) < (ln : Int)) = false := by simp; omega
        have HZ : Hid (rgetZ (memL g.names g.kids) s = -1) := by
          show _ = _
          unfold rgetZ
          rw [findL_no (fun t x ht hx => HQ.out t x (by have h1 := HR.out.2.2.1; omega) hx)]
        clear HR HQ
        go_wp2_with fail
        go_ret
        exact ⟨rfl, by rw [HZ.out]; rfl⟩
end Go.Proofs.YtbobgebhdafciaaDoor
