/-
  The walk of CborLimits.
-/
import Derived.Test.YtfmldcibhllpcabDoorGL0
import Derived.Test.YtfmldcibhllpcabDoorGA
import Derived.Test.YtfmldcibhllpcabDoorEB
namespace Go.Proofs.YtfmldcibhllpcabDoor
open Go.Shelf Go.RowKit
set_option linter.unusedVariables false
set_option linter.unusedSimpArgs false

theorem own_conv2 {w : World} {base n : Nat} {p : Option Addr} {c : Nat} {l : Bs} (h : w.ownsRow base 5 1 (.slice p n c) n (Lib.byteCells l)) (hl : l.length = n) : (convert 25 9 (.slice p n c)).run Tryd.prog w = .ok (.string ⟨l.toArray⟩) w := by
  subst hl
  obtain ⟨p', c', e, hv⟩ := own_byv h
  cases e
  exact conv_bat hv.lies rfl
/-- The list under way: so many nulls. -/
structure LSt (w1 wr : World) (sb j : Nat) (nv : Value) (css : List (List Value)) : Prop where
  slot : Slot wr sb (.int .u8 5) (.int .u64 0) (.slice none 0 0) nv
  kl : Kl wr (sb + 1) sb 0 7 nv css (List.replicate j nulC)
  low : Below w1.heap.size w1 wr
  size : sb + 1 ≤ wr.heap.size
theorem nul_ok (w : World) (P : Nat → Prop) (d : Nat) : ItOk w P d [.int .u8 9, .int .u64 0, .slice none 0 0, .slice none 0 0] nulC := ItOk.leaf d (i := nulC) (by decide) (by decide) (ByV.nil w P) rfl
theorem LSt.push {w1 wr : World} {sb j gk ck : Nat} {nv : Value} {css : List (List Value)} (h : LSt w1 wr sb j nv css) (hsb : w1.heap.size = sb) (w6 : World)
    (own6 : w6.ownsRow (sb + 1) 29 4 (.slice (some ⟨gk, 0, none⟩) (j + 1) ck) (j + 1) (css.flatten ++ [.int .u8 9, .int .u64 0, .slice none 0 0, .slice none 0 0]))
    (gr6 : (wr.alloc (.cells #[.int .u8 9, .int .u64 0, .slice none 0 0, .slice none 0 0] 29)).grownBy w6 nv.ownBlock)
    (at6 : nv.ownBlock = some gk ∨ gk = (wr.alloc (.cells #[.int .u8 9, .int .u64 0, .slice none 0 0, .slice none 0 0] 29)).heap.size) :
    Slot w6 sb (.int .u8 5) (.int .u64 0) (.slice none 0 0) nv ∧ LSt w1 (w6.setCell ⟨sb, 3, none⟩ (.slice (some ⟨gk, 0, none⟩) (j + 1) ck)) sb (j + 1) (.slice (some ⟨gk, 0, none⟩) (j + 1) ck) (css ++ [[.int .u8 9, .int .u64 0, .slice none 0 0, .slice none 0 0]]) := by
  have hbw : Below wr.heap.size wr (wr.alloc (.cells #[.int .u8 9, .int .u64 0, .slice none 0 0, .slice none 0 0] 29)) := (Below.refl _ _).alloc (Nat.le_refl _) _
  have hcl : css.length = j := by have := h.kl.len; simpa using this
  have hK5 := h.kl.keep (w' := wr.alloc (.cells #[.int .u8 9, .int .u64 0, .slice none 0 0, .slice none 0 0] 29)) (fun b _ hlt => hbw.block b hlt) (by omega) (by omega)
  have hold : ∀ b, nv.ownBlock = some b → b < wr.heap.size := fun b hb => (owns_lt h.kl.row hb).2.1
  have hne : some sb ≠ nv.ownBlock := fun e => by have := (owns_lt h.kl.row e.symm).1; omega
  have hsz := hbw.size
  have s6 : Slot w6 sb (.int .u8 5) (.int .u64 0) (.slice none 0 0) nv := h.slot.same ((gr6.block sb (by have := h.slot.lt; omega) hne).trans (hbw.block sb h.slot.lt))
  have own7 : w6.ownsRow (sb + 1) 29 4 (.slice (some ⟨gk, 0, none⟩) (j + 1) ck) (css.length + 1) (css.flatten ++ [.int .u8 9, .int .u64 0, .slice none 0 0, .slice none 0 0]) := by rw [hcl]; exact own6
  have k6 := hK5.push (s1 := wr.heap.size) [.int .u8 9, .int .u64 0, .slice none 0 0, .slice none 0 0] nulC (by omega) h.size hold (nul_ok _ _ _) own7 gr6 (at6.elim (fun e => .inl e.symm) (fun e => .inr (by rw [e]; rfl))) (by omega)
  have b6 := But.setCell sb w6 3 (.slice (some ⟨gk, 0, none⟩) (j + 1) ck)
  refine ⟨s6, ⟨?_, ?_, ?_, ?_⟩⟩
  · unfold Slot
    rw [heap_set_at w6 sb 3 _ _ _ _ s6]
    rfl
  · have k7 := k6.keep (w' := w6.setCell ⟨sb, 3, none⟩ (.slice (some ⟨gk, 0, none⟩) (j + 1) ck)) (fun b hb hlt => b6.block b hlt hb) (by omega) (by omega)
    rw [show List.replicate (j + 1) nulC = List.replicate j nulC ++ [nulC] by rw [List.replicate_succ']]
    exact k7
  · have hlow : ∀ k, k < sb → w6.heap[k]? = wr.heap[k]? := fun k hk => (gr6.block k (by have := h.size; omega) (fun e => by have := (owns_lt h.kl.row e.symm).1; omega)).trans (hbw.block k (by have := h.size; omega))
    exact ⟨gr6.os.trans (hbw.os.trans h.low.os), gr6.tape.trans (hbw.tape.trans h.low.tape), gr6.output.trans (hbw.output.trans h.low.output), by have := h.low.size; have := gr6.size; have := b6.size; omega, fun k hk => (b6.block k (by have := h.size; have := gr6.size; omega) (by omega)).trans ((hlow k (by omega)).trans (h.low.block k hk))⟩
  · have := gr6.size
    have := b6.size
    have := h.size
    omega
theorem zero_u8 (n : Nat) : (Builtin.zeroCells #[Value.int .u8 0] n).toList = Lib.byteCells (List.replicate n 0) := by
  apply List.ext_getElem?
  intro i
  by_cases hi : i < n
  · simp [Builtin.zeroCells, Lib.byteCells, hi, Nat.mod_one]
  · simp [Builtin.zeroCells, Lib.byteCells, hi]
/-- Bytes so far: so many of them are right. -/
def midB (n k : Nat) : Bs := [153, UInt8.ofNat (n / 256), UInt8.ofNat (n % 256)] ++ (List.replicate k 0xf6 ++ List.replicate (n - k) 0)
theorem midB_len (n k : Nat) (h : k ≤ n) : (midB n k).length = 3 + n := by simp [midB]; omega
theorem midB_end (n : Nat) : midB n n = bytesA n := by simp [midB, bytesA]
theorem midB_set (n k : Nat) (h : k < n) : (Lib.byteCells (midB n k)).set (3 + k) (.int .u8 246) = Lib.byteCells (midB n (k + 1)) := by
  have e1 : n - k = (n - (k + 1)) + 1 := by omega
  unfold midB Lib.byteCells
  rw [e1, List.replicate_succ, List.replicate_succ', show 3 + k = k + 1 + 1 + 1 by omega]
  simp [List.set_append]
theorem rowB {w : World} {n cap : Nat} (hn : n ≤ 512) (hc1 : 3 + n ≤ cap) (hc2 : cap ≤ maxLen) (lit : Obj) :
    ((w.alloc lit).alloc (.cells (#[Value.int .u8 153, Value.int .u8 ((n : Int) / 256), Value.int .u8 ((n : Int) % 256)] ++ (Builtin.zeroCells #[Value.int .u8 0] n ++ Builtin.zeroCells #[Value.int .u8 0] (cap - (3 + n)))) 5)).drew.ownsRow (w.heap.size + 1) 5 1 (.slice (some ⟨w.heap.size + 1, 0, none⟩) (3 + n) cap) (3 + n) (Lib.byteCells (midB n 0)) := by
  refine ⟨by rw [byteCells_len, midB_len n 0 (by omega)]; omega, .inr ⟨w.heap.size + 1, cap, _, rfl, Nat.le_refl _, (heap_alloc2_new w _ _ : _), hc1, hc2, ?_, ?_⟩⟩
  · simp [Go.size_zeroCells]; omega
  · have hz : (#[Value.int .u8 153, Value.int .u8 ((n : Int) / 256), Value.int .u8 ((n : Int) % 256)] ++ (Builtin.zeroCells #[Value.int .u8 0] n ++ Builtin.zeroCells #[Value.int .u8 0] (cap - (3 + n)))).toList = Lib.byteCells (midB n 0) ++ Lib.byteCells (List.replicate (cap - (3 + n)) 0) := by
      rw [Array.toList_append, Array.toList_append, zero_u8, zero_u8]
      have e1 : (UInt8.ofNat (n / 256)).toNat = n / 256 := by simp; omega
      have e2 : (UInt8.ofNat (n % 256)).toNat = n % 256 := by simp
      unfold midB Lib.byteCells
      simp [e1, e2]
    rw [hz, List.take_append_of_le_length (by rw [byteCells_len, midB_len n 0 (by omega)]; omega), List.take_of_length_le (by rw [byteCells_len, midB_len n 0 (by omega)]; omega)]
set_option maxRecDepth 100000 in
set_option maxHeartbeats 4000000 in
theorem CborLimits_flat (w : World) (what over m : Nat) (hw : what < 256) (ho : over < 256) (he : what % 2 = 0) (hm : over % 2 = m) (hT : Tw w) :
    Calls Tryd.prog 4 #[.int .u8 (what : Int), .int .u8 (over : Int)] w fun e w' => e = .returned (.bool true) ∧ Below w.heap.size w w' := by
  have h1 : (what : Int) < 256 := by omega
  have h2 : (over : Int) < 256 := by omega
  have h3 : (what : Int) % 2 = 0 := by omega
  have h4 : (over : Int) % 2 = (m : Int) := by omega
  have h3t : (what : Int).tmod 2 = 0 := by rw [Int.tmod_eq_emod_of_nonneg (by omega)]; exact h3
  have h4t : (over : Int).tmod 2 = (m : Int) := by rw [Int.tmod_eq_emod_of_nonneg (by omega)]; exact h4
  have hm2 : (m : Int) ≤ 1 := by omega
  go_enter Tryd.func4, Tryd.ntmps4
  go_wp2_with fail
  go_at_call 7
  refine (CAwake_any w hT.1).mono ?_
  rintro e w1 ⟨rfl, b1⟩
  obtain ⟨N, hN⟩ : ∃ N : Nat, 511 + m = N := ⟨_, rfl⟩
  have hNI : (511 : Int) + (m : Int) = (N : Int) := by omega
  have hN2 : (N : Int) ≤ 512 := by omega
  have hN3 : 511 ≤ N ∧ N ≤ 512 := by omega
  obtain ⟨sb, hsb⟩ : ∃ sb, w1.heap.size = sb := ⟨_, rfl⟩
  have hb0 : Below w1.heap.size w1 (w1.alloc (.cells #[.int .u8 5, .int .u64 0, .slice none 0 0, .slice none 0 0] 29)) := (Below.refl _ _).alloc (Nat.le_refl _) _
  have P0 : Hid (LSt w1 (w1.alloc (.cells #[.int .u8 5, .int .u64 0, .slice none 0 0, .slice none 0 0] 29)) sb 0 (.slice none 0 0) []) := ⟨by rw [← hsb]; exact Slot.new w1 _ _ _ _, Kl.nil _ _ _ _ _, hb0, by rw [alloc_sz]; omega⟩
  have HSB : Hid (w1.heap.size = sb ∧ Tw w1 ∧ Below w.heap.size w w1 ∧ 511 + m = N) := ⟨hsb, hT.below b1, b1, hN⟩
  clear hb0 hT b1 hN
  go_wp2_with fail
  clear hsb
  go_loopw [27] (fun v27 wr => ∃ (j : Nat) (nv : Value) (css : List (List Value)), v27 = .int .i64 (j : Int) ∧ j ≤ N ∧ LSt w1 wr sb j nv css) (fun v27 _ => N - (intOf v27).toNat)
  case atStart => exact ⟨0, _, [], rfl, Nat.zero_le _, P0.out⟩
  case round =>
    obtain ⟨j, nv, css, rfl, hj, P⟩ := hrel
    obtain ⟨k0, k1, k2, k3, f0, f1, f2, f3⟩ := P.slot.facts
    rcases Nat.lt_or_eq_of_le hj with hj | rfl
    · have hjI : (j : Int) < (N : Int) := by omega
      obtain ⟨i0, hi0, hz0, hz1, hz2⟩ := info_parts infoItem
      have hcl : css.length = j := by have := P.kl.len; simpa using this
      have hrow := P.kl.row
      rw [hcl] at hrow
      have hbw : Below wr.heap.size wr (wr.alloc (.cells #[.int .u8 9, .int .u64 0, .slice none 0 0, .slice none 0 0] 29)) := (Below.refl _ _).alloc (Nat.le_refl _) _
      have hrow2 := owns_keep hrow (fun b hb => hbw.block b (owns_lt hrow hb).2.1)
      have hsz2 : sb + 1 ≤ (wr.alloc (.cells #[.int .u8 9, .int .u64 0, .slice none 0 0, .slice none 0 0] 29)).heap.size := Nat.le_trans P.size hbw.size
      have HX : Hid (j + 1 ≤ maxLen ∧ (j + 1) * 64 ≤ 140737488355328) := ⟨by unfold maxLen; omega, by omega⟩
      have HP : Hid (LSt w1 wr sb j nv css) := P
      clear P hrow hbw hcl
      go_wp2_with (at_builtin; go_loud (refine wpList_append_lies _ rfl (.tmp 30) (.tmp 32) 27 rfl (sb + 1) 29 i0 (.agg #[.int .u8 0, .int .u64 0, .slice none 0 0, .slice none 0 0]) 4 64 Tryd.underlying27 hi0 hz0 hz1 hz2 rfl (by decide) nv j css.flatten rfl hrow2 ⟨wr.heap.size, 0, none⟩ 1 1 [.int .u8 9, .int .u64 0, .slice none 0 0, .slice none 0 0] rfl rfl (World.news_of_block (heap_alloc_new wr _)) (by simp [Value.oneCell']) (by decide) HX.out.1 HX.out.2 hsz2 _ rfl ?_); intro gk ck w6 own6 gr6 at6 lt6; have A6 := HP.out.push HSB.out.1 w6 own6 gr6 at6; obtain ⟨q0, q1, q2, q3, g0, g1, g2, g3⟩ := A6.1.facts; have HA6 : Hid (LSt w1 _ sb (j + 1) _ _) := A6.2; clear A6)
      exact ⟨⟨j + 1, _, _, by go_num, by omega, HA6.out⟩, by simp only [intOf]; omega⟩
    · have HP : Hid (LSt w1 wr sb j nv css) := P
      clear P P0
      have ht5 : Tryd.t5.bytes = 1 := by kernel_rfl
      have hns1 : ¬ (281474976710656 < Builtin.nextslicecap (3 + j) 3) := by
        have hj2 : j = 511 ∨ j = 512 := by omega
        rcases hj2 with rfl | rfl <;> decide
      have hns2 : ¬ (281474976710656 < Builtin.nextslicecap (3 + j) 3 * Tryd.t5.bytes) := by rw [ht5, Nat.mul_one]; exact hns1
      go_wp2_with fail
      have hge := grownCap_ge wr (3 + j) 3 5
      have hle := grownCap_le_maxLen wr (3 + j) 3 5 (by unfold maxLen; omega)
      unfold grownCap at hge hle
      obtain ⟨cap, hcap⟩ : ∃ cap, (Question.appendCap (3 + j) 3 5).cut (wr.tape wr.drawn (.appendCap (3 + j) 3 5)) = cap := ⟨_, rfl⟩
      rw [hcap] at hge hle ⊢
      clear hcap
      have R0 := rowB (w := wr) (n := j) (cap := cap) (by omega) hge hle (.cells #[.int .u8 153, .int .u8 ((j : Int) / 256), .int .u8 ((j : Int) % 256)] 5)
      obtain ⟨W13, hW13⟩ : ∃ W13, ((wr.alloc (.cells #[.int .u8 153, .int .u8 ((j : Int) / 256), .int .u8 ((j : Int) % 256)] 5)).alloc (.cells (#[Value.int .u8 153, Value.int .u8 ((j : Int) / 256), Value.int .u8 ((j : Int) % 256)] ++ (Builtin.zeroCells #[Value.int .u8 0] j ++ Builtin.zeroCells #[Value.int .u8 0] (cap - (3 + j)))) 5)).drew = W13 := ⟨_, rfl⟩
      have B13 : Below wr.heap.size wr W13 := by
        rw [← hW13]
        exact (((Below.refl wr.heap.size wr).alloc (Nat.le_refl _) _).alloc (by rw [alloc_sz]; omega) _).drew
      rw [hW13] at R0 ⊢
      obtain ⟨g, hg⟩ : ∃ g, wr.heap.size + 1 = g := ⟨_, rfl⟩
      rw [hg] at R0 ⊢
      have HB : Hid (Below wr.heap.size wr W13 ∧ wr.heap.size + 1 = g ∧ 3 + j ≤ cap ∧ cap ≤ maxLen) := ⟨B13, hg, hge, hle⟩
      have HR0 : Hid (W13.ownsRow g 5 1 (.slice (some ⟨g, 0, none⟩) (3 + j) cap) (3 + j) (Lib.byteCells (midB j 0))) := R0
      have hgeI : (3 : Int) + (j : Int) ≤ (cap : Int) := by omega
      generalize wr = wq at *
      clear R0 B13 hW13 hg hge hle hns1 hns2 ht5 k0 k1 k2 k3 f0 f1 f2 f3
      go_loopw [45] (fun v45 wx => ∃ k : Nat, v45 = .int .i64 (k : Int) ∧ k ≤ j ∧ wx.ownsRow g 5 1 (.slice (some ⟨g, 0, none⟩) (3 + j) cap) (3 + j) (Lib.byteCells (midB j k)) ∧ But g W13 wx) (fun v45 _ => j - (intOf v45).toNat)
      case atStart => exact ⟨0, rfl, Nat.zero_le _, HR0.out, But.refl _ _⟩
      case round =>
        obtain ⟨k, rfl, hk, own, hbt⟩ := hrel
        rcases Nat.lt_or_eq_of_le hk with hk | rfl
        · have hkI : (k : Int) < (j : Int) := by omega
          have hc := owns_cell own (3 + k) (by omega)
          have hfz := owns_frozen own (3 + k)
          have hlen : (Lib.byteCells (midB j k)).length = 3 + j := by rw [byteCells_len, midB_len j k (by omega)]
          obtain ⟨u, hu⟩ : ∃ u, (Lib.byteCells (midB j k))[3 + k]? = some u := ⟨_, List.getElem?_eq_getElem (by omega)⟩
          rw [hu] at hc
          have hset := owns_set own (3 + k) (by omega) (.int .u8 246)
          rw [midB_set j k hk] at hset
          have HS : Hid ((wr.setCell ⟨g, 3 + k, none⟩ (.int .u8 246)).ownsRow g 5 1 (.slice (some ⟨g, 0, none⟩) (3 + j) cap) (3 + j) (Lib.byteCells (midB j (k + 1))) ∧ But g W13 (wr.setCell ⟨g, 3 + k, none⟩ (.int .u8 246))) := ⟨hset, hbt.trans (But.setCell g wr (3 + k) _)⟩
          clear own hset hbt hlen hu
          go_wp2_with fail
          exact ⟨⟨k + 1, by go_num, by omega, HS.out⟩, by simp only [intOf]; omega⟩
        · rw [midB_end] at own
          have hP := HP.out
          have hH := HB.out
          obtain ⟨q, c', hq, hq1, hq2, _⟩ := hP.kl.kids (by omega)
          have hI := hP.kl.item (by omega) 5 (by decide)
          have hgq : ∀ b, b < wq.heap.size → wr.heap[b]? = wq.heap[b]? := fun b hb => (hbt.block b (by have := hH.1.size; omega) (by omega)).trans (hH.1.block b hb)
          have hsz : wq.heap.size ≤ wr.heap.size := Nat.le_trans hH.1.size hbt.size
          have hI2 : ItOk wr (fun b => b < wr.heap.size) 8 [.int .u8 5, .int .u64 0, .slice none 0 0, nv] (flatA k) := (hI.keep (w' := wr) (fun b _ hb => hgq b hb)).mono (fun b _ hb => hb)
          have s4 := hP.slot.same (hgq sb hP.slot.lt)
          have hlow : Below w1.heap.size w1 wr := ⟨hbt.os.trans (hH.1.os.trans hP.low.os), hbt.tape.trans (hH.1.tape.trans hP.low.tape), hbt.output.trans (hH.1.output.trans hP.low.output), Nat.le_trans hP.low.size hsz, fun b hb => (hgq b (Nat.lt_of_lt_of_le hb hP.low.size)).trans (hP.low.block b hb)⟩
          have hTw := HSB.out.2.1.below hlow
          have hfit : fitC 8 (flatA k) := ⟨⟨by simp [flatA], by simp [flatA]; omega⟩, fun x hx => by
            have : x = nulC := by simpa [flatA] using (List.mem_replicate.1 hx).2
            rw [this]
            exact ⟨⟨by simp [nulC], by simp [nulC]⟩, fun y hy => by simp [nulC] at hy⟩⟩
          rw [List.length_replicate] at hq hq1
          subst hq
          have HE := Encode_any (flatA k) none q 0 0 k c' 5 0 wr hI2 hfit hTw
          have hvb : ByV wr (fun b => b < wr.heap.size) (some ⟨g, 0, none⟩) cap (bytesA k) := by
            have o2 := own
            have hl : (bytesA k).length = 3 + k := by rw [← midB_end, midB_len k k (Nat.le_refl _)]
            rw [← hl] at o2
            obtain ⟨p', c'', e, hv⟩ := own_byv o2
            cases e
            exact hv.mono (fun b _ hb => hb)
          have hlb : (bytesA k).length = 3 + k := by rw [← midB_end, midB_len k k (Nat.le_refl _)]
          have HW := fun W (hW : Below wr.heap.size wr W) => Whole_any (some ⟨g, 0, none⟩) (3 + k) cap (bytesA k) W hlb ((hvb.keep (fun b _ hb => hW.block b hb)).mono (fun b _ hb => hb)) (hTw.1.below hW)
          have HLOW : Hid (Below w.heap.size w wr) := HSB.out.2.2.1.trans (hlow.mono HSB.out.2.2.1.size)
          have hkk : m = 0 ∧ k = 511 ∨ m = 1 ∧ k = 512 := by have := HSB.out.2.2.2; omega
          obtain ⟨k0, k1, k2, k3, _⟩ := s4.facts
          clear hP hH hI hgq hsz hlow hTw hfit own hbt HR0
          rcases hkk with ⟨rfl, rfl⟩ | ⟨rfl, rfl⟩
          · rw [lim_e1] at HE
            rw [lim_w1] at HW
            have hdp : deepC 8 (flatA 511) ∧ wideC 8 (flatA 511) := ⟨fun x hx => by
                have : x = nulC := by simpa [flatA] using (List.mem_replicate.1 hx).2
                rw [this]; intro y hy; simp [nulC] at hy, ⟨by simp [flatA], fun x hx => by
                have : x = nulC := by simpa [flatA] using (List.mem_replicate.1 hx).2
                rw [this]; exact ⟨by simp [nulC], fun y hy => by simp [nulC] at hy⟩⟩⟩
            obtain ⟨BA, hBA⟩ : ∃ x, bytesA 511 = x := ⟨_, rfl⟩
            obtain ⟨FA, hFA⟩ : ∃ x, flatA 511 = x := ⟨_, rfl⟩
            rw [hBA] at HE hvb hlb
            rw [hFA] at hI2 hdp
            simp only [hFA] at HW
            clear hBA hFA
            go_wp2_with fail
            go_at_call 9
            refine HE.mono ?_
            rintro e w4 ⟨hb4, (⟨b, pc, cc, hRb, rfl, hown⟩ | ⟨kk, hRb, _⟩)⟩
            rotate_left
            · cases hRb
            cases hRb
            rw [hlb] at hown ⊢
            have HW2 := HW w4 hb4
            go_wp2_with fail
            go_at_call 8
            refine HW2.mono ?_
            intro e w5 hp
            obtain ⟨hb5, px, cx, qx, cx', rfl, hx⟩ := hp.okx
            clear hp HW HW2 HE
            obtain ⟨K0, hK0⟩ : ∃ x : Nat, FA.kind = x := ⟨_, rfl⟩
            obtain ⟨N0, hN0⟩ : ∃ x : Nat, FA.n = x := ⟨_, rfl⟩
            obtain ⟨L0, hL0⟩ : ∃ x : Nat, FA.b.length = x := ⟨_, rfl⟩
            obtain ⟨M0, hM0⟩ : ∃ x : Nat, FA.kids.length = x := ⟨_, rfl⟩
            rw [hK0, hN0, hL0, hM0] at hx ⊢
            clear hK0 hN0 hL0 hM0
            have b6 : Below w5.heap.size w5 (w5.alloc (.cells #[.int .u8 (K0 : Int), .int .u64 (N0 : Int), .slice px L0 cx, .slice qx M0 cx'] 29)) := (Below.refl _ _).alloc (Nat.le_refl _) _
            have c46 := hb5.trans (b6.mono hb5.size)
            have c06 := hb4.trans (c46.mono hb4.size)
            have hcv1 := own_conv2 (owns_keep hown (fun b hb => c46.block b (owns_lt hown hb).2.1)) hlb
            have hcv2 := conv_bat (w := w5.alloc (.cells #[.int .u8 (K0 : Int), .int .u64 (N0 : Int), .slice px L0 cx, .slice qx M0 cx'] 29)) (p := some ⟨g, 0, none⟩) (n := 3 + 511) (c := cap) (by have := (hvb.keep (fun b _ hb => c06.block b hb)).lies; rw [hlb] at this; exact this) hlb
            have s6 := s4.same (c06.block _ s4.lt)
            obtain ⟨m0, m1, m2, m3, _⟩ := s6.facts
            have HS := same_ok 8 FA _ _ _ _ _ _ _ _ _ _ (w5.alloc (.cells #[.int .u8 (K0 : Int), .int .u64 (N0 : Int), .slice px L0 cx, .slice qx M0 cx'] 29)) hdp.1 hdp.2 (hx.below b6) (hI2.below c06)
            have HC6 : Hid (Below wr.heap.size wr (w5.alloc (.cells #[.int .u8 (K0 : Int), .int .u64 (N0 : Int), .slice px L0 cx, .slice qx M0 cx'] 29))) := c06
            clear hown hvb hx hI2 hdp hb4 hb5 b6 c46 c06 s4 s6 k0 k1 k2 k3
            go_wp2_with (go_at_call 10; refine HS.mono ?_; rintro e w7 ⟨rfl, b7⟩)
            go_ret
            exact ⟨rfl, HLOW.out.trans ((HC6.out.trans (b7.mono HC6.out.size)).mono HLOW.out.size)⟩
          · rw [lim_e2] at HE
            rw [lim_w2] at HW
            clear hI2 hvb hlb
            go_wp2_with fail
            go_at_call 9
            refine HE.mono ?_
            rintro e w4 ⟨hb4, (⟨b, pc, cc, hRb, _⟩ | ⟨kk, hRb, _, _, rfl⟩)⟩
            · cases hRb
            cases hRb
            have HW2 := HW w4 hb4
            go_wp2_with fail
            go_at_call 8
            refine HW2.mono ?_
            intro e w5 hp
            obtain ⟨hb5, _, _, rfl⟩ := hp.errx
            clear hp HW HW2 HE
            go_wp2_with fail
            go_ret
            have b6 : Below w5.heap.size w5 (w5.alloc (.cells #[.int .u8 0, .int .u64 0, .slice none 0 0, .slice none 0 0] 29)) := (Below.refl _ _).alloc (Nat.le_refl _) _
            have c46 := hb5.trans (b6.mono hb5.size)
            have c06 := hb4.trans (c46.mono hb4.size)
            exact ⟨rfl, HLOW.out.trans (c06.mono HLOW.out.size)⟩
theorem nest_fit : ∀ d j, fitC d (nestC j)
  | 0, 0 => ⟨by simp [nestC], by simp [nestC]⟩
  | 0, j + 1 => ⟨by simp [nestC], by simp [nestC]⟩
  | d + 1, 0 => ⟨⟨by simp [nestC], by simp [nestC]⟩, fun k hk => by simp [nestC] at hk⟩
  | d + 1, j + 1 => ⟨⟨by simp [nestC], by simp [nestC]⟩, fun k hk => by
    have : k = nestC j := by simpa [nestC] using hk
    rw [this]
    exact nest_fit d j⟩
theorem nest_wide : ∀ d j, wideC d (nestC j)
  | 0, 0 => by simp [nestC, wideC]
  | 0, j + 1 => by simp [nestC, wideC]
  | d + 1, 0 => ⟨by simp [nestC], fun k hk => by simp [nestC] at hk⟩
  | d + 1, j + 1 => ⟨by simp [nestC], fun k hk => by
    have : k = nestC j := by simpa [nestC] using hk
    rw [this]
    exact nest_wide d j⟩
theorem nest_deep : ∀ j, deepC (j + 1) (nestC j)
  | 0 => fun k hk => by simp [nestC] at hk
  | j + 1 => fun k hk => by
    have : k = nestC j := by simpa [nestC] using hk
    rw [this]
    exact nest_deep j
/-- Arrays within one another, under way. -/
structure NSt (w1 wr : World) (sb j : Nat) (p : Option Addr) (c : Nat) (q : Option Addr) (l c' : Nat) : Prop where
  slot : Slot wr sb (.int .u8 5) (.int .u64 0) (.slice none 0 0) (.slice q l c')
  it : ∀ d, ItOk wr (fun b => sb < b) d [.int .u8 5, .int .u64 0, .slice none 0 0, .slice q l c'] (nestC j)
  by_ : ByV wr (fun b => sb < b) p c (bytesN j)
  low : Below w1.heap.size w1 wr
theorem bytesN_len : ∀ j, (bytesN j).length = j + 1
  | 0 => rfl
  | j + 1 => by simp [bytesN, bytesN_len j]
/-- The world in which the next array is made. -/
def nextW (wr : World) (sb : Nat) (q : Option Addr) (l c' : Nat) : World := (((((wr.setCell ⟨sb, 0, none⟩ (.int .u8 5)).setCell ⟨sb, 1, none⟩ (.int .u64 0)).setCell ⟨sb, 2, none⟩ (.slice none 0 0)).setCell ⟨sb, 3, none⟩ (.slice (some ⟨wr.heap.size, 0, none⟩) 1 1)).alloc (.cells #[.int .u8 5, .int .u64 0, .slice none 0 0, .slice q l c'] 29)).alloc (.cells #[.int .u8 129] 5)
theorem nextW_facts {wr : World} {sb : Nat} {q : Option Addr} {l c' : Nat} (hs : Slot wr sb (.int .u8 5) (.int .u64 0) (.slice none 0 0) (.slice q l c')) :
    (nextW wr sb q l c').heap.size = wr.heap.size + 1 + 1 ∧ Slot (nextW wr sb q l c') sb (.int .u8 5) (.int .u64 0) (.slice none 0 0) (.slice (some ⟨wr.heap.size, 0, none⟩) 1 1) ∧ Slot (nextW wr sb q l c') wr.heap.size (.int .u8 5) (.int .u64 0) (.slice none 0 0) (.slice q l c') ∧ (nextW wr sb q l c').ownsRow (wr.heap.size + 1) 5 1 (.slice (some ⟨wr.heap.size + 1, 0, none⟩) 1 1) 1 (Lib.byteCells [129]) ∧ But sb wr (nextW wr sb q l c') := by
  have b4 := But.set4 wr sb (.int .u8 5) (.int .u64 0) (.slice none 0 0) (.slice (some ⟨wr.heap.size, 0, none⟩) 1 1)
  have s4 := hs.set4 (.int .u8 5) (.int .u64 0) (.slice none 0 0) (.slice (some ⟨wr.heap.size, 0, none⟩) 1 1)
  unfold nextW
  obtain ⟨V, hV⟩ : ∃ V, (((wr.setCell ⟨sb, 0, none⟩ (.int .u8 5)).setCell ⟨sb, 1, none⟩ (.int .u64 0)).setCell ⟨sb, 2, none⟩ (.slice none 0 0)).setCell ⟨sb, 3, none⟩ (.slice (some ⟨wr.heap.size, 0, none⟩) 1 1) = V := ⟨_, rfl⟩
  have hz : V.heap.size = wr.heap.size := by rw [← hV]; simp [World.setCell]
  rw [hV] at b4 s4 ⊢
  have hb : Below V.heap.size V ((V.alloc (.cells #[.int .u8 5, .int .u64 0, .slice none 0 0, .slice q l c'] 29)).alloc (.cells #[.int .u8 129] 5)) := ((Below.refl _ _).alloc (Nat.le_refl _) _).alloc (by rw [alloc_sz]; omega) _
  refine ⟨by rw [alloc_sz, alloc_sz, hz], s4.same (hb.block _ s4.lt), ?_, ?_, b4.trans (But.ofBelow hb)⟩
  · have := Slot.new V (.int .u8 5) (.int .u64 0) (.slice none 0 0) (.slice q l c')
    rw [hz] at this
    exact this.same (heap_alloc_old _ _ (by rw [alloc_sz]; omega))
  · have := World.ownsRow_lit (base := wr.heap.size + 1) (e := 5) (size := 1) (V.alloc (.cells #[.int .u8 5, .int .u64 0, .slice none 0 0, .slice q l c'] 29)) #[.int .u8 129] 1 (by rw [alloc_sz]; omega) (by unfold maxLen; omega) (by simp)
    rw [alloc_sz, hz] at this
    exact this
theorem NSt.push {w1 wr w6 : World} {sb j : Nat} {p p6 : Option Addr} {c c6 : Nat} {q : Option Addr} {l c' : Nat} (h : NSt w1 wr sb j p c q l c') (hsb : w1.heap.size = sb) (o6 : w6.ownsRow (wr.heap.size + 1) 5 1 (.slice p6 (1 + (j + 1)) c6) (1 + (j + 1)) (Lib.byteCells ([129] ++ bytesN j))) (gr6 : (nextW wr sb q l c').grownBy w6 (some (wr.heap.size + 1))) :
    NSt w1 w6 sb (j + 1) p6 c6 (some ⟨wr.heap.size, 0, none⟩) 1 1 := by
  obtain ⟨z, s1, s2, _, bt⟩ := nextW_facts h.slot
  have hlt := h.slot.lt
  have hk : ∀ k, k < wr.heap.size → k ≠ sb → w6.heap[k]? = wr.heap[k]? := fun k hk hne => (gr6.block k (by omega) (by intro e; injection e with e; omega)).trans (bt.block k hk hne)
  have t1 := s1.same (gr6.block sb (by omega) (by intro e; injection e with e; omega))
  have t2 := s2.same (gr6.block wr.heap.size (by omega) (by intro e; injection e with e; omega))
  have hx : ∀ d, ItOk w6 (fun b => sb < b) d [.int .u8 5, .int .u64 0, .slice none 0 0, .slice q l c'] (nestC j) := fun d => (h.it d).keep (fun b hb hlt => hk b hlt (by omega))
  have hd : ItHd w6 (fun b => sb < b) [.int .u8 5, .int .u64 0, .slice none 0 0, .slice (some ⟨wr.heap.size, 0, none⟩) 1 1] (nestC (j + 1)) (some ⟨wr.heap.size, 0, none⟩) := ⟨none, 0, 1, rfl, by show (5 : Nat) < 256; decide, by show (0 : Nat) < 18446744073709551616; decide, ByV.nil _ _, by show (1 : Nat) ≤ 1; decide, by decide⟩
  refine ⟨t1, fun d => ?_, ?_, ?_⟩
  · cases d with
    | zero => exact ⟨_, hd⟩
    | succ d =>
      refine ⟨_, hd, fun i k hi => ?_⟩
      have hi0 : i = 0 ∧ k = nestC j := by
        have hl := (List.getElem?_eq_some_iff.1 hi)
        have : i = 0 := by have := hl.1; simp [nestC] at this; exact this
        subst this
        exact ⟨rfl, by simpa [nestC] using hi.symm⟩
      obtain ⟨rfl, rfl⟩ := hi0
      obtain ⟨k0, k1, k2, k3, _⟩ := t2.facts
      exact ⟨wr.heap.size, 0, rfl, hlt, _, _, _, _, k0, k1, k2, k3, hx d⟩
  · have o7 := o6
    have hl : ([129] ++ bytesN j).length = 1 + (j + 1) := by simp [bytesN_len]; omega
    rw [← hl] at o7
    obtain ⟨p', c'', e, hv⟩ := own_byv o7
    cases e
    exact hv.mono (fun b hb _ => by omega)
  · exact ⟨gr6.os.trans (bt.os.trans h.low.os), gr6.tape.trans (bt.tape.trans h.low.tape), gr6.output.trans (bt.output.trans h.low.output), by have := h.low.size; have := gr6.size; omega, fun k hk' => (hk k (Nat.lt_of_lt_of_le hk' h.low.size) (by omega)).trans (h.low.block k hk')⟩
set_option maxRecDepth 100000 in
set_option maxHeartbeats 4000000 in
theorem CborLimits_nest (w : World) (what over m : Nat) (hw : what < 256) (ho : over < 256) (he : what % 2 = 1) (hm : over % 2 = m) (hT : Tw w) :
    Calls Tryd.prog 4 #[.int .u8 (what : Int), .int .u8 (over : Int)] w fun e w' => e = .returned (.bool true) ∧ Below w.heap.size w w' := by
  have h1 : (what : Int) < 256 := by omega
  have h2 : (over : Int) < 256 := by omega
  have h3 : (what : Int) % 2 = 1 := by omega
  have h4 : (over : Int) % 2 = (m : Int) := by omega
  have h3t : (what : Int).tmod 2 = 1 := by rw [Int.tmod_eq_emod_of_nonneg (by omega)]; exact h3
  have h4t : (over : Int).tmod 2 = (m : Int) := by rw [Int.tmod_eq_emod_of_nonneg (by omega)]; exact h4
  have hm2 : (m : Int) ≤ 1 := by omega
  go_enter Tryd.func4, Tryd.ntmps4
  go_wp2_with fail
  go_at_call 7
  refine (CAwake_any w hT.1).mono ?_
  rintro e w1 ⟨rfl, b1⟩
  obtain ⟨N, hN⟩ : ∃ N : Nat, 7 + m = N := ⟨_, rfl⟩
  have hNI : (7 : Int) + (m : Int) = (N : Int) := by omega
  have hN2 : (N : Int) ≤ 8 := by omega
  have hN3 : 7 ≤ N ∧ N ≤ 8 := by omega
  obtain ⟨sb, hsb⟩ : ∃ sb, w1.heap.size = sb := ⟨_, rfl⟩
  have hb0 : Below w1.heap.size w1 ((w1.alloc (.cells #[.int .u8 5, .int .u64 0, .slice none 0 0, .slice none 0 0] 29)).alloc (.cells #[.int .u8 128] 5)) := ((Below.refl _ _).alloc (Nat.le_refl _) _).alloc (by rw [alloc_sz]; omega) _
  have P0 : Hid (NSt w1 ((w1.alloc (.cells #[.int .u8 5, .int .u64 0, .slice none 0 0, .slice none 0 0] 29)).alloc (.cells #[.int .u8 128] 5)) sb 0 (some ⟨sb + 1, 0, none⟩) 1 none 0 0) := by
    refine ⟨?_, fun d => ItOk.leaf (i := nestC 0) d (by decide) (by decide) (ByV.nil _ _) rfl, ⟨by decide, by decide, fun _ => ⟨sb + 1, 0, rfl, fun i hi => ?_⟩, fun a ha _ => by cases ha; show sb < sb + 1; omega⟩, hb0⟩
    · rw [← hsb]
      exact (Slot.new w1 _ _ _ _).same (heap_alloc_old _ _ (by rw [alloc_sz]; omega))
    · obtain rfl : i = 0 := by simp [bytesN] at hi; exact hi
      rw [← hsb, cell_of_row _ _ _ _ _ _ (heap_alloc2_new w1 _ _)]
      rfl
  have HSB : Hid (w1.heap.size = sb ∧ Tw w1 ∧ Below w.heap.size w w1 ∧ 7 + m = N) := ⟨hsb, hT.below b1, b1, hN⟩
  clear hb0 hT b1 hN
  go_wp2_with fail
  clear hsb
  go_loopw [8, 56] (fun v8 v56 wr => ∃ (j : Nat) (p : Option Addr) (c : Nat) (q : Option Addr) (l c' : Nat), v8 = .slice p (j + 1) c ∧ v56 = .int .i64 (j : Int) ∧ j ≤ N ∧ NSt w1 wr sb j p c q l c') (fun _ v56 _ => N - (intOf v56).toNat)
  case atStart => exact ⟨0, _, _, _, _, _, rfl, rfl, Nat.zero_le _, P0.out⟩
  case round =>
    obtain ⟨j, p, c, q, l, c', rfl, rfl, hj, P⟩ := hrel
    obtain ⟨k0, k1, k2, k3, f0, f1, f2, f3⟩ := P.slot.facts
    rcases Nat.lt_or_eq_of_le hj with hj | rfl
    · have hjI : (j : Int) < (N : Int) := by omega
      have hlt := P.slot.lt
      have HP : Hid (NSt w1 wr sb j p c q l c') := P
      have NF := nextW_facts P.slot
      have hbl : BAt (nextW wr sb q l c') p (j + 1) (bytesN j) := by
        have := (P.by_.keep (w' := nextW wr sb q l c') (fun b hb hlt => NF.2.2.2.2.block b hlt (by omega))).lies
        rw [bytesN_len] at this
        exact this
      have hown := NF.2.2.2.1
      have hsz := NF.1
      have hbase : wr.heap.size + 1 ≤ (nextW wr sb q l c').heap.size := by omega
      have hlen := bytesN_len j
      have hjb : 1 + (j + 1) ≤ 100000000 := by omega
      have HL : Hid ((nextW wr sb q l c').ownsRow (wr.heap.size + 1) 5 1 (.slice (some ⟨wr.heap.size + 1, 0, none⟩) 1 1) 1 (Lib.byteCells [129]) ∧ (bytesN j).length = j + 1 ∧ BAt (nextW wr sb q l c') p (j + 1) (bytesN j) ∧ 1 + (j + 1) ≤ 100000000 ∧ wr.heap.size + 1 ≤ (nextW wr sb q l c').heap.size) := ⟨hown, hlen, hbl, hjb, hbase⟩
      clear P P0 NF hbl hown hsz hbase hlen hjb
      go_wp2_with (at_builtin; go_loud (refine wpList_append_wt (w := nextW wr sb q l c') rfl (.tmp 61) (.tmp 62) rfl (wr.heap.size + 1) (.slice (some ⟨wr.heap.size + 1, 0, none⟩) 1 1) rfl [129] 1 rfl HL.out.1 p (j + 1) c (bytesN j) HL.out.2.1 rfl HL.out.2.2.1 HL.out.2.2.2.1 HL.out.2.2.2.2 ?_); intro v6 w6 o6 gr6 at6; obtain ⟨p6, c6, rfl⟩ := owns_slice o6; have HA6 : Hid (NSt w1 w6 sb (j + 1) p6 c6 (some ⟨wr.heap.size, 0, none⟩) 1 1) := HP.out.push HSB.out.1 o6 gr6; clear o6 gr6 at6)
      exact ⟨⟨j + 1, p6, c6, _, 1, 1, by rw [Nat.add_comm 1 (j + 1)], by go_num, by omega, HA6.out⟩, by simp only [intOf]; omega⟩
    · have hP := P
      have hlb := bytesN_len j
      have hI2 : ItOk wr (fun b => b < wr.heap.size) 8 [.int .u8 5, .int .u64 0, .slice none 0 0, .slice q l c'] (nestC j) := (hP.it 8).mono (fun b _ hb => hb)
      have s4 := hP.slot
      have hTw := HSB.out.2.1.below hP.low
      have hfit : fitC 8 (nestC j) := nest_fit 8 j
      have HE := Encode_any (nestC j) none q 0 0 l c' 5 0 wr hI2 hfit hTw
      have hvb : ByV wr (fun b => b < wr.heap.size) p c (bytesN j) := hP.by_.mono (fun b _ hb => hb)
      have HW := fun W (hW : Below wr.heap.size wr W) => Whole_any p (j + 1) c (bytesN j) W hlb ((hvb.keep (fun b _ hb => hW.block b hb)).mono (fun b _ hb => hb)) (hTw.1.below hW)
      have HLOW : Hid (Below w.heap.size w wr) := HSB.out.2.2.1.trans (hP.low.mono HSB.out.2.2.1.size)
      have hkk : m = 0 ∧ j = 7 ∨ m = 1 ∧ j = 8 := by have := HSB.out.2.2.2; omega
      clear hP hTw hfit P P0
      rcases hkk with ⟨rfl, rfl⟩ | ⟨rfl, rfl⟩
      · rw [lim_n1] at HE
        rw [lim_x1] at HW
        have hdp : deepC 8 (nestC 7) ∧ wideC 8 (nestC 7) := ⟨nest_deep 7, nest_wide 8 7⟩
        obtain ⟨BA, hBA⟩ : ∃ x, bytesN 7 = x := ⟨_, rfl⟩
        obtain ⟨FA, hFA⟩ : ∃ x, nestC 7 = x := ⟨_, rfl⟩
        rw [hBA] at HE hvb hlb
        rw [hFA] at hI2 hdp
        simp only [hFA] at HW
        clear hBA hFA
        go_wp2_with fail
        go_at_call 9
        refine HE.mono ?_
        rintro e w4 ⟨hb4, (⟨b, pc, cc, hRb, rfl, hown⟩ | ⟨kk, hRb, _⟩)⟩
        rotate_left
        · cases hRb
        cases hRb
        rw [hlb] at hown ⊢
        have HW2 := HW w4 hb4
        go_wp2_with fail
        go_at_call 8
        refine HW2.mono ?_
        intro e w5 hp
        obtain ⟨hb5, px, cx, qx, cx', rfl, hx⟩ := hp.okx
        clear hp HW HW2 HE
        obtain ⟨K0, hK0⟩ : ∃ x : Nat, FA.kind = x := ⟨_, rfl⟩
        obtain ⟨N0, hN0⟩ : ∃ x : Nat, FA.n = x := ⟨_, rfl⟩
        obtain ⟨L0, hL0⟩ : ∃ x : Nat, FA.b.length = x := ⟨_, rfl⟩
        obtain ⟨M0, hM0⟩ : ∃ x : Nat, FA.kids.length = x := ⟨_, rfl⟩
        rw [hK0, hN0, hL0, hM0] at hx ⊢
        clear hK0 hN0 hL0 hM0
        have b6 : Below w5.heap.size w5 (w5.alloc (.cells #[.int .u8 (K0 : Int), .int .u64 (N0 : Int), .slice px L0 cx, .slice qx M0 cx'] 29)) := (Below.refl _ _).alloc (Nat.le_refl _) _
        have c46 := hb5.trans (b6.mono hb5.size)
        have c06 := hb4.trans (c46.mono hb4.size)
        have hcv1 := own_conv2 (owns_keep hown (fun b hb => c46.block b (owns_lt hown hb).2.1)) hlb
        have hcv2 := conv_bat (w := w5.alloc (.cells #[.int .u8 (K0 : Int), .int .u64 (N0 : Int), .slice px L0 cx, .slice qx M0 cx'] 29)) (p := p) (n := 7 + 1) (c := c) (by have := (hvb.keep (fun b _ hb => c06.block b hb)).lies; rw [hlb] at this; exact this) hlb
        have s6 := s4.same (c06.block _ s4.lt)
        obtain ⟨m0, m1, m2, m3, _⟩ := s6.facts
        have HS := same_ok 8 FA _ _ _ _ _ _ _ _ _ _ (w5.alloc (.cells #[.int .u8 (K0 : Int), .int .u64 (N0 : Int), .slice px L0 cx, .slice qx M0 cx'] 29)) hdp.1 hdp.2 (hx.below b6) (hI2.below c06)
        have HC6 : Hid (Below wr.heap.size wr (w5.alloc (.cells #[.int .u8 (K0 : Int), .int .u64 (N0 : Int), .slice px L0 cx, .slice qx M0 cx'] 29))) := c06
        clear hown hvb hx hI2 hdp hb4 hb5 b6 c46 c06 s4 s6 k0 k1 k2 k3
        go_wp2_with (go_at_call 10; refine HS.mono ?_; rintro e w7 ⟨rfl, b7⟩)
        go_ret
        exact ⟨rfl, HLOW.out.trans ((HC6.out.trans (b7.mono HC6.out.size)).mono HLOW.out.size)⟩
      · rw [lim_n2] at HE
        rw [lim_x2] at HW
        clear hI2 hvb hlb
        go_wp2_with fail
        go_at_call 9
        refine HE.mono ?_
        rintro e w4 ⟨hb4, (⟨b, pc, cc, hRb, _⟩ | ⟨kk, hRb, _, _, rfl⟩)⟩
        · cases hRb
        cases hRb
        have HW2 := HW w4 hb4
        go_wp2_with fail
        go_at_call 8
        refine HW2.mono ?_
        intro e w5 hp
        obtain ⟨hb5, _, _, rfl⟩ := hp.errx
        clear hp HW HW2 HE
        go_wp2_with fail
        go_ret
        have b6 : Below w5.heap.size w5 (w5.alloc (.cells #[.int .u8 0, .int .u64 0, .slice none 0 0, .slice none 0 0] 29)) := (Below.refl _ _).alloc (Nat.le_refl _) _
        have c46 := hb5.trans (b6.mono hb5.size)
        have c06 := hb4.trans (c46.mono hb4.size)
        exact ⟨rfl, HLOW.out.trans (c06.mono HLOW.out.size)⟩
/-- CborLimits. -/
theorem CborLimits_walk (w : World) (a0 : Int) (w0 : (Lit.int .u8 a0).wf = true) (a1 : Int) (w1 : (Lit.int .u8 a1).wf = true) (hL : laidMet Tryd.prog Rows.cborLimitsRow.laid w) :
    Calls Tryd.prog 4 #[.int .u8 a0, .int .u8 a1] w fun e w' => e = .returned (.bool true) ∧ Below w.heap.size w w' := by
  have hT : Tw w := tw_laid hL
  obtain ⟨h0, h1⟩ := byte_wf w0
  obtain ⟨h2, h3⟩ := byte_wf w1
  obtain ⟨x, rfl⟩ : ∃ x : Nat, a0 = (x : Int) := ⟨a0.toNat, by omega⟩
  obtain ⟨y, rfl⟩ : ∃ y : Nat, a1 = (y : Int) := ⟨a1.toNat, by omega⟩
  by_cases he : x % 2 = 0
  · exact CborLimits_flat w x y (y % 2) (by omega) (by omega) he rfl hT
  · exact CborLimits_nest w x y (y % 2) (by omega) (by omega) (by omega) rfl hT
end Go.Proofs.YtfmldcibhllpcabDoor
