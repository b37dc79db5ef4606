/-
  Places further on; a node's kids put anew.
-/
import Derived.Test.YtbobgebhdafciabDoorJTw
namespace Go.Proofs.YtbobgebhdafciabDoor
open Go.Shelf Go.RowKit
set_option linter.unusedVariables false
set_option linter.unusedSimpArgs false

set_option maxRecDepth 100000 in
set_option maxHeartbeats 4000000 in
/-- further. -/
theorem further_any (p : Option Addr) (c : Nat) (ks : List Nat) (s : Nat) (w : World) (hr : RowAt w w.heap.size p ks.length (ints ks)) (hk : ∀ k ∈ ks, k ≤ 1000) (hl : ks.length ≤ 1000) (hs : s ≤ 1000) :
    Calls Tryd.prog 9 #[.slice p ks.length c, .int .i64 s] w fun e w' => ∃ v', e = .returned v' ∧ w'.ownsRow w.heap.size 3 1 v' ks.length (ints (ks.map (· + s))) ∧ Below w.heap.size w w' := by
  obtain ⟨n, hn⟩ : ∃ n, ks.length = n := ⟨_, rfl⟩
  have HR : Hid (RowAt w w.heap.size p n (ints ks) ∧ (∀ k ∈ ks, k ≤ 1000) ∧ ks.length = n) := ⟨by rw [← hn]; exact hr, hk, hn⟩
  rw [hn] at hl ⊢
  clear hn hr hk
  have hnI : (n : Int) ≤ 1000 := by omega
  have hsI : (s : Int) ≤ 1000 := by omega
  have hs0 : (0 : Int) ≤ (s : Int) := by omega
  obtain ⟨i0, hf0, hz0, hz1, hz2⟩ := info_parts infoInt
  go_enter Tryd.func9, Tryd.ntmps9
  go_wp2
  go_loopw [5, 10] (fun v5 v10 wr => ∃ (i : Nat), v10 = .int .i64 i ∧ i ≤ n ∧ Hid (wr.ownsRow w.heap.size 3 1 v5 i (ints ((ks.take i).map (· + s)))) ∧ Below w.heap.size w wr) (fun _ v10 _ => n - (intOf v10).toNat)
  case atStart => exact ⟨0, rfl, by omega, World.ownsRow_nil w _ _ 1, Below.refl _ _⟩
  case round =>
    obtain ⟨i, rfl, hi, HO, hb⟩ := hrel
    have HB : Hid (Below w.heap.size w wr) := hb
    clear hb
    have hi0 : (0 : Int) ≤ (i : Int) := by omega
    by_cases hin : i < n
    · have hinI : (i : Int) < (n : Int) := by omega
      have hind : decide ((i : Int) < (n : Int)) = true := by simpa using hinI
      have hik : i < ks.length := by rw [HR.out.2.2]; exact hin
      obtain ⟨q, f, rfl, hq, hc⟩ := (HR.out.1.keep HB.out (Nat.le_refl _)).cells (by omega)
      obtain ⟨y, hy⟩ : ∃ y, ks[i] = y := ⟨_, rfl⟩
      have hci : wr.cell? ⟨q, f + i, none⟩ = some (.int .i64 (y : Int)) := by
        rw [hc i hin]
        unfold ints
        rw [List.getElem?_map, List.getElem?_eq_getElem hik, hy]
        rfl
      have hyb : y ≤ 1000 := by rw [← hy]; exact HR.out.2.1 _ (List.getElem_mem hik)
      have hyI : (y : Int) ≤ 1000 := by omega
      have hy0 : (0 : Int) ≤ (y : Int) := by omega
      have HS : Hid (ints ((ks.take i).map (· + s)) ++ [.int .i64 ((y : Int) + (s : Int))] = ints ((ks.take (i + 1)).map (· + s))) := by
        show _ = _
        rw [List.take_add_one, List.getElem?_eq_getElem hik, hy]
        simp [ints]
      have HL : Hid ((wr.alloc (.cells #[.int .i64 ((y : Int) + (s : Int))] 3)).ownsRow w.heap.size 3 1 u5 i (ints ((ks.take i).map (· + s))) ∧ w.heap.size ≤ (wr.alloc (.cells #[.int .i64 ((y : Int) + (s : Int))] 3)).heap.size) := ⟨HO.out.alloc _, by have := HB.out.size; simp; omega⟩
      clear hc hy
      have HNW : Hid (∀ j u, [Value.int .i64 ((y : Int) + (s : Int))][j]? = some u → (wr.alloc (.cells #[.int .i64 ((y : Int) + (s : Int))] 3)).cell? ((⟨wr.heap.size, 0, none⟩ : Addr).add j) = some u) := World.news_of_block (alloc_new wr _)
      go_wp2_with (at_builtin; refine wpList_append_own (w := wr.alloc (.cells #[.int .i64 ((y : Int) + (s : Int))] 3)) rfl (.tmp 14) (.tmp 18) _ rfl w.heap.size 3 i0 (.int .i64 0) 1 8 Tryd.underlying36 hf0 hz0 hz1 hz2 rfl (by decide) u5 i (ints ((ks.take i).map (· + s))) rfl HL.out.1 ⟨wr.heap.size, 0, none⟩ 1 1 [.int .i64 ((y : Int) + (s : Int))] rfl rfl HNW.out (by intro x hx; rw [List.mem_singleton.1 hx]; rfl) (by unfold maxLen; omega) (by omega) HL.out.2 ?_; intro v9 w9 hown9 hgr9 _)
      rw [HS.out] at hown9
      have hb9 : Below w.heap.size w w9 := by
        refine ⟨hgr9.os.trans HB.out.os, hgr9.tape.trans HB.out.tape, hgr9.output.trans HB.out.output, Nat.le_trans HL.out.2 hgr9.size, fun k hk => ?_⟩
        rw [hgr9.block k (Nat.lt_of_lt_of_le hk HL.out.2) (fun e => by have := (owns_lt HO.out e.symm).1; omega), heap_alloc_old wr _ (Nat.lt_of_lt_of_le hk HB.out.size)]
        exact HB.out.block k hk
      exact ⟨⟨i + 1, by go_num, by omega, hown9, hb9⟩, by simp only [intOf]; omega⟩
    · have hind : decide ((i : Int) < (n : Int)) = false := by simp; omega
      have hie : i = n := by omega
      subst hie
      have HF : Hid (wr.ownsRow w.heap.size 3 1 u5 i (ints (ks.map (· + s)))) := by
        have := HO.out
        rw [List.take_of_length_le (by rw [HR.out.2.2]; exact Nat.le_refl _)] at this
        exact this
      go_wp2_with fail
      go_ret
      exact ⟨_, rfl, HF.out, HB.out⟩

/-- A node's kids put anew. -/
theorem Nodes.kset {w w1 : World} {base : Nat} {g n cap : Nat} {hs : List Hd} {ns : List Nd} (h : Nodes w base (.slice (some ⟨g, 0, none⟩) n cap) hs ns) (i : Nat) (x : Hd) (nd : Nd) (hi : hs[i]? = some x) (hn : ns[i]? = some nd) (kk : List Nat) (v' : Value)
    (hown : w1.ownsRow w.heap.size 3 1 v' kk.length (ints kk)) (hgrow : Below w.heap.size w w1) (hbase : base ≤ w.heap.size) :
    Nodes (w1.setCell ⟨g, i * 4 + 3, none⟩ v') base (.slice (some ⟨g, 0, none⟩) n cap) (hs.set i { x with ks := v' }) (ns.set i { nd with kids := kk }) := by
  have hl := h.len
  have r0 := h.rep i x nd hi hn
  have hil : i < hs.length := (List.getElem?_eq_some_iff.1 hi).1
  have hown2 : w1.ownsRow base 3 1 v' kk.length (ints kk) := by
    refine ⟨hown.1, ?_⟩
    rcases hown.2 with h0 | ⟨q, c', cur, e, hq, r⟩
    · exact .inl h0
    · exact .inr ⟨q, c', cur, e, Nat.le_trans hbase hq, r⟩
  have hnew : ∀ q, v'.ownBlock = some q → w.heap.size ≤ q := fun q hq => (owns_lt hown hq).1
  have hnn : n = hs.length := by
    rcases h.row.2 with ⟨e, _⟩ | ⟨g', c', cur, e, _⟩
    · cases e
    · cases e; rfl
  subst hnn
  have hrow1 : w1.ownsRow base 38 4 (.slice (some ⟨g, 0, none⟩) hs.length cap) hs.length (flat hs) := owns_keep h.row (fun b hb => hgrow.block b (owns_lt h.row hb).2.1)
  have hgs : ∀ b, b ≠ g → (w1.setCell ⟨g, i * 4 + 3, none⟩ v').heap[b]? = w1.heap[b]? := fun b hb => Below.heap_setCell w1 ⟨g, i * 4 + 3, none⟩ v' b hb
  have hgne : ∀ {e : TypeId} {s : Nat} {v : Value} {m : Nat} {xs : List Value}, e ≠ 38 → w1.ownsRow base e s v m xs → ∀ b, v.ownBlock = some b → b ≠ g := fun he ho b hb e => by
    subst e
    exact owns_apart ho hrow1 he hb rfl
  refine ⟨by simp [hl], ?_, ?_, ?_⟩
  · rw [List.length_set, ← flat_set hs i 3 x { x with ks := v' } v' hi (by decide) (by simp [Hd.cells])]
    exact owns_set hrow1 _ (by omega) v'
  · intro j y m hj hm
    rw [List.getElem?_set] at hj hm
    by_cases hij : i = j
    · subst hij
      rw [if_pos rfl, if_pos hil] at hj
      rw [if_pos rfl, if_pos (by omega)] at hm
      cases hj; cases hm
      have hnm : w1.ownsRow base 9 1 x.nm nd.names.length (strs nd.names) := owns_keep r0.names (fun b hb => hgrow.block b (owns_lt r0.names hb).2.1)
      exact ⟨r0.kind, r0.text, owns_keep hnm (fun b hb => hgs b (hgne (by decide) hnm b hb)), owns_keep hown2 (fun b hb => hgs b (hgne (by decide) hown2 b hb))⟩
    · rw [if_neg hij] at hj hm
      have r := h.rep j y m hj hm
      have hnm : w1.ownsRow base 9 1 y.nm m.names.length (strs m.names) := owns_keep r.names (fun b hb => hgrow.block b (owns_lt r.names hb).2.1)
      have hkd : w1.ownsRow base 3 1 y.ks m.kids.length (ints m.kids) := owns_keep r.kids (fun b hb => hgrow.block b (owns_lt r.kids hb).2.1)
      exact ⟨r.kind, r.text, owns_keep hnm (fun b hb => hgs b (hgne (by decide) hnm b hb)), owns_keep hkd (fun b hb => hgs b (hgne (by decide) hkd b hb))⟩
  · intro a b y z hab ha hb
    have new : ∀ (j : Nat) (z : Hd), hs[j]? = some z → j ≠ i → ∀ q, v'.ownBlock = some q → z.ks.ownBlock ≠ some q := fun j z hz hji q hq hq' => by
      have hz' : j < ns.length := by rw [← hl]; exact (List.getElem?_eq_some_iff.1 hz).1
      have := (owns_lt (h.rep j z ns[j] hz (List.getElem?_eq_getElem hz')).kids hq').2.1
      have := hnew q hq
      omega
    rw [List.getElem?_set] at ha hb
    by_cases h1 : i = a
    · subst h1
      rw [if_pos rfl, if_pos hil] at ha
      cases ha
      rw [if_neg hab] at hb
      exact ⟨fun q hq => (h.apart i b x z hab hi hb).1 q hq, fun q hq => new b z hb (fun e => hab e.symm) q hq⟩
    · rw [if_neg h1] at ha
      by_cases h2 : i = b
      · subst h2
        rw [if_pos rfl, if_pos hil] at hb
        cases hb
        exact ⟨fun q hq => (h.apart a i y x hab ha hi).1 q hq, fun q hq hq' => new a y ha hab q hq' hq⟩
      · rw [if_neg h2] at hb
        exact h.apart a b y z hab ha hb
/-- Other nodes meanwhile. -/
theorem Nodes.apart_set {w w1 : World} {base base' : Nat} {g : Nat} {n cap : Nat} {hs : List Hd} {ns : List Nd} {nv : Value} {hs' : List Hd} {ns' : List Nd} (h : Nodes w base (.slice (some ⟨g, 0, none⟩) n cap) hs ns) (h' : Nodes w base' nv hs' ns') (hne : nv.ownBlock ≠ some g) (hgrow : Below w.heap.size w w1) (j : Nat) (v' : Value) :
    Nodes (w1.setCell ⟨g, j, none⟩ v') base' nv hs' ns' := by
  obtain ⟨_, _, cur, hcur⟩ := owns_lt h.row (g := g) rfl
  have hgs : ∀ b, b ≠ g → b < w.heap.size → (w1.setCell ⟨g, j, none⟩ v').heap[b]? = w.heap[b]? := fun b hb hlt => (Below.heap_setCell w1 ⟨g, j, none⟩ v' b hb).trans (hgrow.block b hlt)
  have hty : ∀ {e : TypeId} {s : Nat} {v : Value} {m : Nat} {xs : List Value}, e ≠ 38 → w.ownsRow base' e s v m xs → (w1.setCell ⟨g, j, none⟩ v').ownsRow base' e s v m xs := fun he ho => owns_keep ho (fun b hb => hgs b (fun e => by
    subst e
    obtain ⟨_, _, c2, hc2⟩ := owns_lt ho hb
    rw [hcur] at hc2
    cases hc2
    exact he rfl) (owns_lt ho hb).2.1)
  exact ⟨h'.len, owns_keep h'.row (fun b hb => hgs b (fun e => hne (by rw [← e]; exact hb)) (owns_lt h'.row hb).2.1), fun i x nd hi hn => ⟨(h'.rep i x nd hi hn).kind, (h'.rep i x nd hi hn).text, hty (by decide) (h'.rep i x nd hi hn).names, hty (by decide) (h'.rep i x nd hi hn).kids⟩, h'.apart⟩
end Go.Proofs.YtbobgebhdafciabDoor
