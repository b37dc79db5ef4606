import Derived.Test.YtnckmcmobkpdcaaDoorK08
import Derived.Test.YtnckmcmobkpdcaaDoorK07
import Derived.Deep.QuietTactic
import Derived.BigQuiet
/-
  DerOids.
-/
namespace Go.Proofs.YtnckmcmobkpdcaaDoor
open Go.Shelf Go.RowKit
set_option linter.unusedVariables false
set_option linter.unusedSimpArgs false

/-- Numbers that lie at a slice. -/
def UAt (w : World) (p : Option Addr) (n : Nat) (xs : List Nat) : Prop := 0 < n → ∃ b o, p = some ⟨b, o, none⟩ ∧ ∀ i, i < n → w.cell? ⟨b, o + i, none⟩ = some (.int .u64 ((xs.getD i 0 : Nat) : Int))
theorem UAt.below {w w' : World} {p : Option Addr} {n : Nat} {xs : List Nat} (h : UAt w p n xs) (hb : Below w.heap.size w w') : UAt w' p n xs := fun h0 => by
  obtain ⟨b, o, e, hc⟩ := h h0
  exact ⟨b, o, e, fun i hi => (hb.cell (p := ⟨b, o + i, none⟩) (World.block_lt_of_cell? w _ (hc i hi))).trans (hc i hi)⟩
theorem own_uat {w : World} {B : Nat} {p : Option Addr} {n c : Nat} {xs : List Nat} (h : w.ownsRow B 34 1 (.slice p n c) n (cellsU xs)) (hl : xs.length = n) : UAt w p n xs := fun h0 => by
  have h2 := h
  rcases h2.2 with ⟨_, h1⟩ | ⟨g, cap, cur, e, hb, hr, h3, h4, _⟩
  · omega
  · cases e
    refine ⟨g, 0, rfl, fun i hi => ?_⟩
    rw [Nat.zero_add, owns_cell h2 i (by omega)]
    have hlt : i < xs.length := by omega
    unfold cellsU
    rw [List.getElem?_map, List.getElem?_eq_getElem hlt]
    simp only [Option.map_some, List.getD, List.getElem?_eq_getElem hlt, Option.getD_some]
set_option maxRecDepth 100000 in
set_option maxHeartbeats 4000000 in
/-- rows, of the same numbers. -/
theorem rows_yes (p q : Option Addr) (n c d : Nat) (xs : List Nat) (w : World) (hn : n ≤ 100000) (hp : UAt w p n xs) (hq : UAt w q n xs) :
    Calls Tryd.prog 8 #[.slice p n c, .slice q n d] w fun e w' => e = .returned (.bool true) ∧ Below w.heap.size w w' := by
  have HP : Hid (UAt w p n xs ∧ UAt w q n xs) := ⟨hp, hq⟩
  have hnn : ((n : Int) != (n : Int)) = false := by simp
  clear hp hq
  go_enter Tryd.func8, Tryd.ntmps8
  go_wp2_with fail
  go_loopw [13] (fun v13 wr => ∃ i : Nat, i ≤ n ∧ v13 = .int .i64 (i : Int) ∧ Below w.heap.size w wr) (fun v13 _ => n - (intOf v13).toNat)
  case atStart => exact ⟨0, by omega, rfl, Below.refl _ _⟩
  case round =>
    obtain ⟨i, hi, rfl, hb⟩ := hrel
    have HB : Hid (Below w.heap.size w wr) := hb
    rcases Nat.lt_or_eq_of_le hi with hi | hi
    rotate_left
    · have hiI : ¬ (i : Int) < (n : Int) := by omega
      clear hi hb
      go_wp2_with fail
      go_ret
      exact ⟨rfl, HB.out⟩
    obtain ⟨b, o, rfl, hc⟩ := HP.out.1.below hb (by omega)
    obtain ⟨b2, o2, rfl, hc2⟩ := HP.out.2.below hb (by omega)
    have c1 := hc i hi
    have c2 := hc2 i hi
    obtain ⟨X, hX⟩ : ∃ X, xs.getD i 0 = X := ⟨_, rfl⟩
    rw [hX] at c1 c2
    have hXX : ((X : Int) != (X : Int)) = false := by simp
    have hiI : (i : Int) < (n : Int) := by omega
    have hi0 : (0 : Int) ≤ (i : Int) := by omega
    have hnI : (n : Int) ≤ 100000 := by omega
    clear hb hc hc2 hX
    go_wp2_with fail
    go_quiet (fail)
    go_wp2_with fail
    exact ⟨⟨i + 1, by omega, by push_cast; rfl, below_drews HB.out _⟩, by simp only [intOf]; omega⟩
theorem grp_pos (n : Nat) : 0 < (grp n).length := by
  have h : ∀ (f m : Nat) (acc : Bs), 0 < acc.length → 0 < (grpGo f m acc).length := by
    intro f
    induction f with
    | zero => intro m acc h; exact h
    | succ f ih =>
      intro m acc h
      rw [grpGo_succ]
      split
      · exact h
      · exact ih _ _ (by simp)
  exact h 10 _ _ (by simp)
theorem oid_body (ys : List Nat) (h2 : 2 ≤ ys.length) (h0 : ys.getD 0 0 ≤ 2) (h1 : ys.getD 0 0 < 2 → ys.getD 1 0 < 40) (hlt : ∀ j, j < ys.length → ys.getD j 0 < 4611686018427387904) : oidD 6 (grpsD (packD ys)) = if 16 < ys.length then .error 14 else .ok ys := by
  match ys, h2 with
  | a :: b :: l, _ =>
    have hp : ∀ x ∈ packD (a :: b :: l), x < 9223372036854775808 := by
      intro x hx
      simp only [packD, List.mem_cons] at hx
      have ha : a ≤ 2 := h0
      have hb : b < 4611686018427387904 := hlt 1 (by simp)
      rcases hx with rfl | hx
      · omega
      · obtain ⟨k, hk, rfl⟩ := List.getElem_of_mem hx
        have := hlt (k + 2) (by simp; omega)
        simp [List.getD, hk] at this
        omega
    have hr := rows_grps (packD (a :: b :: l)) hp
    have hne : (grpsD (packD (a :: b :: l))).length ≠ 0 := by
      have := grp_pos (b + 40 * a)
      simp only [packD, grpsD, List.length_append]
      omega
    unfold oidD
    rw [if_neg (by simp only [ne_eq, not_true, false_or]; exact hne), hr]
    simp only []
    rw [nums_pack a b l h0 h1]
/-- The law's row in memory. -/
structure RowSt (B n : Nat) (W : World) (g c : Nat) (ys : List Nat) : Prop where
  own : W.ownsRow B 34 1 (.slice (some ⟨g, 0, none⟩) n c) n (cellsU ys)
  len : ys.length = n
theorem RowSt.cell {B n : Nat} {W : World} {g c : Nat} {ys : List Nat} (h : RowSt B n W g c ys) (i : Nat) (hi : i < n) : W.cell? ⟨g, i, none⟩ = some (.int .u64 ((ys.getD i 0 : Nat) : Int)) := by
  obtain ⟨b, o, e, hc⟩ := own_uat h.own h.len (by omega)
  cases e
  have := hc i hi
  rw [Nat.zero_add] at this
  exact this
theorem RowSt.fr {B n : Nat} {W : World} {g c : Nat} {ys : List Nat} (h : RowSt B n W g c ys) (i : Nat) : W.frozen? ⟨g, i, none⟩ = false := owns_frozen h.own i
theorem RowSt.set {B n : Nat} {W : World} {g c : Nat} {ys : List Nat} (h : RowSt B n W g c ys) (i x : Nat) (hi : i < n) : RowSt B n (W.setCell ⟨g, i, none⟩ (.int .u64 (x : Int))) g c (ys.set i x) := by
  refine ⟨?_, by rw [List.length_set, h.len]⟩
  have := owns_set h.own i (by omega) (.int .u64 (x : Int))
  have e : (cellsU ys).set i (.int .u64 (x : Int)) = cellsU (ys.set i x) := by unfold cellsU; rw [List.map_set]
  rw [e] at this
  exact this
theorem RowSt.lt {B n : Nat} {W : World} {g c : Nat} {ys : List Nat} (h : RowSt B n W g c ys) : B ≤ g ∧ g < W.heap.size := ⟨(owns_lt h.own (g := g) rfl).1, (owns_lt h.own (g := g) rfl).2.1⟩
/-- The row so far. -/
structure RowIn (n : Nat) (i : Nat) (ys : List Nat) : Prop where
  first : ys.getD 0 0 ≤ 2
  low : ∀ k, k < i → ys.getD k 0 < 4611686018427387904
  sec : 1 < i → ys.getD 0 0 < 2 → ys.getD 1 0 < 40
theorem rgetD (ys : List Nat) (i k x : Nat) (hi : i < ys.length) : (ys.set i x).getD k 0 = if i = k then x else ys.getD k 0 := by
  by_cases h : i = k
  · subst h
    simp [List.getD, hi]
  · rw [if_neg h]
    simp [List.getD, List.getElem?_set, h]
theorem RowIn.step {n i : Nat} {ys : List Nat} (h : RowIn n i ys) (hi : i < ys.length) (x : Nat) (hx : x ≤ ys.getD i 0) (hx2 : x < 4611686018427387904) (h1 : i = 1 → ys.getD 0 0 < 2 → x < 40) : RowIn n (i + 1) (ys.set i x) := by
  refine ⟨?_, fun k hk => ?_, fun h2 h3 => ?_⟩
  · rw [rgetD ys i 0 x hi]
    split
    · rename_i e; subst e; have := h.first; omega
    · exact h.first
  · rw [rgetD ys i k x hi]
    split
    · exact hx2
    · exact h.low k (by omega)
  · rw [rgetD ys i 1 x hi]
    rw [rgetD ys i 0 x hi] at h3
    by_cases e0 : i = 0
    · omega
    · rw [if_neg e0] at h3
      split
      · rename_i e; exact h1 e h3
      · exact h.sec (by omega) h3
/-- What Oid answers, as one form. -/
def oidK (R : Except Nat (List Nat)) : Nat := match R with
  | .error k => k
  | .ok _ => 0
def oidL (R : Except Nat (List Nat)) : List Nat := match R with
  | .error _ => []
  | .ok l => l
theorem OidPost.uni {w w' : World} {R : Except Nat (List Nat)} {e : Ending} (h : OidPost w R e w') : Below w.heap.size w w' ∧ (oidL R).length ≤ 16 ∧ ∃ p c, e = .returned (.tuple #[.slice p (oidL R).length c, .int .i64 (oidK R : Int)]) ∧ UAt w' p (oidL R).length (oidL R) := by
  obtain ⟨hb, (⟨k, rfl, rfl⟩ | ⟨l, v, rfl, hl, rfl, ho⟩)⟩ := h
  · exact ⟨hb, by show 0 ≤ 16; decide, none, 0, rfl, fun h => absurd h (by show ¬ 0 < 0; decide)⟩
  · obtain ⟨p, c, rfl⟩ := owns_slice ho
    exact ⟨hb, hl, p, c, rfl, own_uat ho rfl⟩
set_option maxRecDepth 100000 in
set_option maxHeartbeats 8000000 in
theorem DerOids_walk (w : World) (t0 : Int) (a0 : Option Addr) (len0 cap0 : Nat) (z0 : List Int) (ut0 : 0 ≤ t0 ∧ t0 < 256) (w0 : CameJ .u8 w a0 len0 cap0 z0) (a1 : Option Addr) (len1 cap1 : Nat) (z1 : List Int) (w1 : CameJ .u64 w a1 len1 cap1 z1) (hL : laidMet Tryd.prog Rows.derOidsRow.laid w) :
    Calls Tryd.prog 3 #[.agg #[.int .u8 t0, .slice a0 len0 cap0], .slice a1 len1 cap1] w fun e w' => e = .returned (.bool true) ∧ Below w.heap.size w w' := by
  have hT : Md w := md_laid hL
  obtain ⟨TN, rfl⟩ : ∃ T : Nat, t0 = (T : Int) := ⟨t0.toNat, by omega⟩
  have hTN : TN < 256 := by omega
  have hle0 := w0.le
  have hle1 := w1.le
  unfold maxLen at hle0 hle1
  obtain ⟨bs, hn, hV⟩ := w0.byv
  obtain ⟨ls, hls, hU⟩ : ∃ ls : List Nat, ls.length = len1 ∧ UAt w a1 len1 ls := by
    rcases w1 with ⟨rfl, rfl, rfl, rfl⟩ | ⟨x, rfl, h1, h2, h3, h4, h5⟩
    · exact ⟨[], rfl, fun h => absurd h (by decide)⟩
    · refine ⟨(z1.take len1).map Int.toNat, by simp; omega, fun h0 => ?_⟩
      obtain ⟨b, off, spot⟩ := x
      have hsp : spot = none := by
        have := h4 0 (by omega)
        simpa [Addr.add] using World.cell?_spot this
      subst hsp
      refine ⟨b, off, rfl, fun i hi => ?_⟩
      have hc := h4 i (by omega)
      rw [Addr.add_mid] at hc
      rw [hc]
      have hiz : i < z1.length := by omega
      have hw := h5 z1[i] (List.getElem_mem hiz)
      simp [Lit.wf, IntKind.min, IntKind.max, IntKind.signed, IntKind.bits] at hw
      simp [List.getD, hiz, hi, List.getElem?_take]
      omega
  clear w0 w1 hL ut0
  have hle0I : (len0 : Int) ≤ 9223372036854775807 := by omega
  have hle1I : (len1 : Int) ≤ 9223372036854775807 := by omega
  obtain ⟨W0, hW0⟩ : ∃ W, w.alloc (.cells #[.int .u8 (TN : Int), .slice a0 len0 cap0] 24) = W := ⟨_, rfl⟩
  have b0 : Below w.heap.size w W0 := by rw [← hW0]; exact (Below.refl _ _).alloc (Nat.le_refl _) _
  have s0 : Tl W0 w.heap.size (.int .u8 (TN : Int)) (.slice a0 len0 cap0) := by rw [← hW0]; exact Tl.new w _ _
  have hM0 : Md W0 := hT.below b0
  go_enter Tryd.func3, Tryd.ntmps3
  go_wp2_with fail
  go_at_call 5
  refine (DAwake_any W0 hM0).mono ?_
  rintro e w1 ⟨rfl, b1⟩
  have s1 := s0.below b1
  obtain ⟨f0, f1, f2, f3⟩ := s1.facts
  have B1 : Below w.heap.size w w1 := b0.trans (b1.mono b0.size)
  clear s0 hW0
  by_cases q : 1000 < len0 ∨ 30 < len1
  · have HB : Hid (Below w.heap.size w w1) := B1
    by_cases q3 : 1000 < len0
    · have q3I : 1000 < (len0 : Int) := by omega
      go_wp2_with fail
      go_ret
      exact ⟨rfl, HB.out⟩
    · have q3I : ¬ 1000 < (len0 : Int) := by omega
      have q4I : 30 < (len1 : Int) := by omega
      go_wp2_with fail
      go_ret
      exact ⟨rfl, HB.out⟩
  have q1 : ¬ 1000 < (len0 : Int) := by omega
  have q2 : ¬ 30 < (len1 : Int) := by omega
  have hV5 : ByV w1 (fun b => b < w1.heap.size) a0 cap0 bs := (hV.keep (fun k hk _ => B1.block k hk)).mono (fun k hk _ => by have := B1.size; omega)
  have hU1 : UAt w1 a1 len1 ls := hU.below B1
  obtain ⟨W8, hW8⟩ : ∃ W, w1.alloc (.cells #[.int .u8 (TN : Int), .slice a0 len0 cap0, .int .u8 6, .slice a0 len0 cap0] 24) = W := ⟨_, rfl⟩
  have row8 : W8.heap[w1.heap.size]? = some (.cells #[.int .u8 (TN : Int), .slice a0 len0 cap0, .int .u8 6, .slice a0 len0 cap0] 24 (0, 0)) := by rw [← hW8]; exact heap_alloc_new w1 _
  have b8 : Below w1.heap.size w1 W8 := by rw [← hW8]; exact (Below.refl _ _).alloc (Nat.le_refl _) _
  obtain ⟨g8, hg8⟩ : ∃ g, w1.heap.size = g := ⟨_, rfl⟩
  have hP8 : ∀ i, i < 2 → PieceAt W8 g8 i := by
    rw [← hg8]
    intro i hi
    have v1 := (hV5.below b8).mono (Q := fun b => b < W8.heap.size) (fun k hk _ => Nat.lt_of_lt_of_le hk b8.size)
    match i, hi with
    | 0, _ => exact ⟨TN, a0, len0, cap0, bs, by rw [cell_of_row W8 _ _ _ _ _ row8]; rfl, by rw [cell_of_row W8 _ _ _ _ _ row8]; rfl, hTN, hn, by omega, v1⟩
    | 1, _ => exact ⟨6, a0, len0, cap0, bs, by rw [cell_of_row W8 _ _ _ _ _ row8]; rfl, by rw [cell_of_row W8 _ _ _ _ _ row8]; rfl, by omega, hn, by omega, v1⟩
  have H8 : Hid ((∀ i, i < 2 → PieceAt W8 g8 i) ∧ Below w.heap.size w W8 ∧ UAt W8 a1 len1 ls ∧ ls.length = len1) := ⟨hP8, B1.trans (b8.mono B1.size), hU1.below b8, hls⟩
  clear hP8 row8 b8 hV5 s1 B1 b1 b0 hV hT hM0 hU hU1 hls q
  go_wp2_with fail
  clear hg8 f0 f1 f2 f3
  go_loopw [35] (fun v35 wr => ∃ i : Nat, i ≤ 2 ∧ v35 = .int .i64 (i : Int) ∧ Below W8.heap.size W8 wr) (fun v35 _ => 2 - (intOf v35).toNat)
  case atStart => exact ⟨0, by omega, rfl, Below.refl _ _⟩
  case round =>
    obtain ⟨i, hi, rfl, hb⟩ := hrel
    have HB : Hid (Below W8.heap.size W8 wr) := hb
    rcases Nat.lt_or_eq_of_le hi with hi | hi
    rotate_left
    · have HBw : Hid (Below w.heap.size w wr) := H8.out.2.1.trans (hb.mono H8.out.2.1.size)
      have HUw : Hid (UAt wr a1 len1 ls) := H8.out.2.2.1.below hb
      clear hb
      subst hi
      by_cases q5 : len1 < 2
      · have q5I : (len1 : Int) < 2 := by omega
        clear q5
        go_wp2_with fail
        go_ret
        exact ⟨rfl, HBw.out⟩
      have q5I : ¬ (len1 : Int) < 2 := by omega
      obtain ⟨b1, o1, rfl, hc1⟩ := HUw.out (by omega)
      have hown0 : (wr.alloc (.cells #[] 34)).ownsRow wr.heap.size 34 1 (.slice (some ⟨wr.heap.size, 0, none⟩) 0 0) 0 (cellsU []) := World.ownsRow_lit wr #[] 0 (Nat.le_refl _) (Nat.zero_le _) (by simp)
      have hbl0 : Below wr.heap.size wr (wr.alloc (.cells #[] 34)) := (Below.refl _ _).alloc (Nat.le_refl _) _
      have HX : Hid ((wr.alloc (.cells #[] 34)).ownsRow wr.heap.size 34 1 (.slice (some ⟨wr.heap.size, 0, none⟩) 0 0) 0 (cellsU []) ∧ Below wr.heap.size wr (wr.alloc (.cells #[] 34)) ∧ ∀ j u, (cellsU ls)[j]? = some u → (wr.alloc (.cells #[] 34)).cell? ((⟨b1, o1, none⟩ : Addr).add j) = some u) := by
        refine ⟨hown0, hbl0, fun j u hu => ?_⟩
        obtain ⟨hj1, hj2⟩ := List.getElem?_eq_some_iff.1 hu
        have hj3 : j < ls.length := by simpa [cellsU] using hj1
        have hcj := hc1 j (by rw [← H8.out.2.2.2]; exact hj3)
        rw [Addr.add_mid, hbl0.cell (p := ⟨b1, o1 + j, none⟩) (World.block_lt_of_cell? wr _ hcj), hcj, ← hj2]
        simp [cellsU, List.getD, hj3]
      have h30 : 0 + len1 ≤ 1000000 := by omega
      have hl31 : len1 ≤ 30 := by omega
      have hl2 : 2 ≤ len1 := by omega
      clear hown0 hbl0 hc1 q5
      go_wp2_with (at_builtin; refine wpList_append_u rfl (.tmp 62) (.tmp 63) rfl wr.heap.size (.slice (some ⟨wr.heap.size, 0, none⟩) 0 0) rfl [] 0 HX.out.1 ⟨b1, o1, none⟩ len1 cap1 ls H8.out.2.2.2 rfl HX.out.2.2 h30 HX.out.2.1.size ?_; intro v5 wA oA grA; rw [Nat.zero_add, List.nil_append] at oA; have hbA : Below wr.heap.size wr wA := below_grownT HX.out.2.1 (Nat.le_refl _) HX.out.1 grA; clear grA; obtain ⟨p5, c5, rfl⟩ := owns_slice oA; obtain ⟨g5, rfl⟩ : ∃ g5, p5 = some ⟨g5, 0, none⟩ := (by rcases oA.2 with ⟨_, h1⟩ | ⟨g, cap, cur, e, _⟩; exact absurd h1 (by omega); exact ⟨g, by cases e; rfl⟩); have hst : RowSt wr.heap.size len1 wA g5 c5 ls := ⟨oA, H8.out.2.2.2⟩; have ck0 := hst.cell 0 (by omega); have fk0 := hst.fr 0; obtain ⟨X0, hX0⟩ : ∃ X, ls.getD 0 0 = X := ⟨_, rfl⟩; rw [hX0] at ck0; obtain ⟨Y0, hY0⟩ : ∃ Y, X0 % 3 = Y := ⟨_, rfl⟩; have hY0I : (X0 : Int) % 3 = (Y0 : Int) := (by omega); have HST : Hid (RowSt wr.heap.size len1 wA g5 c5 ls ∧ Below wr.heap.size wr wA ∧ Y0 ≤ 2) := ⟨hst, hbA, by omega⟩; clear hst hbA hX0 hY0 oA)
      have hl20 : (0 : Int) < (len1 : Int) := by omega
      have hst1 := HST.out.1.set 0 Y0 (by omega)
      have hb1 : Below wr.heap.size wr (wA.setCell ⟨g5, 0, none⟩ (.int .u64 (Y0 : Int))) := HST.out.2.1.trans ((But.setCell g5 wA 0 _).below HST.out.1.lt.1 HST.out.2.1.size)
      have hin1 : RowIn len1 0 (ls.set 0 Y0) := ⟨by rw [rgetD ls 0 0 Y0 (by rw [H8.out.2.2.2]; omega), if_pos rfl]; exact HST.out.2.2, fun k hk => absurd hk (by omega), fun h => absurd h (by omega)⟩
      have HS1 : Hid (RowSt wr.heap.size len1 (wA.setCell ⟨g5, 0, none⟩ (.int .u64 (Y0 : Int))) g5 c5 (ls.set 0 Y0) ∧ Below wr.heap.size wr (wA.setCell ⟨g5, 0, none⟩ (.int .u64 (Y0 : Int))) ∧ RowIn len1 0 (ls.set 0 Y0)) := ⟨hst1, hb1, hin1⟩
      clear hst1 hb1 hin1
      go_wp2_with fail
      obtain ⟨W0, hW0⟩ : ∃ W0, wA.setCell ⟨g5, 0, none⟩ (.int .u64 (Y0 : Int)) = W0 := ⟨_, rfl⟩
      rw [hW0]
      obtain ⟨Y1, hY1⟩ : ∃ Y1, ls.set 0 Y0 = Y1 := ⟨_, rfl⟩
      rw [hW0, hY1] at HS1
      obtain ⟨BB, hBB⟩ : ∃ BB, wr.heap.size = BB := ⟨_, rfl⟩
      have HS2 : Hid (RowSt BB len1 W0 g5 c5 Y1 ∧ Below BB wr W0 ∧ RowIn len1 0 Y1 ∧ w.heap.size ≤ BB ∧ Below w.heap.size w wr ∧ wr.heap.size = BB) := by rw [← hBB]; exact ⟨HS1.out.1, HS1.out.2.1, HS1.out.2.2, HBw.out.size, HBw.out, rfl⟩
      clear HS1 HST HX hY0I ck0 fk0 hW0 hY1 hBB HUw
      obtain ⟨wR, rfl⟩ : ∃ wR, wR = wr := ⟨wr, rfl⟩
      go_loopw [72] (fun v72 w2 => ∃ (i : Nat) (ys : List Nat), i ≤ len1 ∧ v72 = .int .i64 (i : Int) ∧ RowSt BB len1 w2 g5 c5 ys ∧ RowIn len1 i ys ∧ Below BB wR w2) (fun v72 _ => len1 - (intOf v72).toNat)
      case atStart => exact ⟨0, Y1, by omega, rfl, HS2.out.1, HS2.out.2.2.1, HS2.out.2.1⟩
      case round =>
        obtain ⟨i, ys, hi, rfl, hst, hin, hb⟩ := hrel
        have HR : Hid (RowSt BB len1 wr g5 c5 ys ∧ RowIn len1 i ys ∧ Below BB wR wr) := ⟨hst, hin, hb⟩
        rcases Nat.lt_or_eq_of_le hi with hi | hi
        rotate_left
        · have hiI : ¬ (i : Int) < (len1 : Int) := by omega
          have HE : Hid (RowSt BB len1 wr g5 c5 ys ∧ RowIn len1 len1 ys ∧ Below BB wR wr) := by rw [hi] at hin; exact ⟨hst, hin, hb⟩
          clear hst hin hb HR hi
          have hlen : ys.length = len1 := HE.out.1.len
          obtain ⟨BD, hBD⟩ : ∃ BD, grpsD (packD ys) = BD := ⟨_, rfl⟩
          have hOB := oid_body ys (by rw [hlen]; exact hl2) HE.out.2.1.first (fun h => HE.out.2.1.sec (by omega) h) (fun j hj => HE.out.2.1.low j (by omega))
          have hbl : BD.length ≤ 400 := by
            rw [← hBD]
            have h1 := grps_len (packD ys)
            have h2 := packD_len ys (by rw [hlen]; exact hl2)
            omega
          have HOI := hOid_any g5 len1 c5 ys wr hlen hl2 hl31 HE.out.2.1.first (fun j hj => HE.out.2.1.low j hj) (fun i hi => HE.out.1.cell i hi)
          rw [hBD] at hOB HOI
          rw [hlen] at hOB
          obtain ⟨LD, hLD⟩ : ∃ LD, (writeD 6 BD).length = LD := ⟨_, rfl⟩
          have hLDb : LD ≤ 4096 := by rw [← hLD]; unfold writeD; simp; rw [headD_len]; split <;> (try split) <;> omega
          rw [hLD] at HOI
          have hrd : readD (writeD 6 BD) = .ok ((6, BD), []) := by
            have := write_read (t := 6) (b := BD) (r := []) (by decide) (by rw [List.append_nil, hLD]; exact hLDb)
            rw [List.append_nil] at this
            exact this
          obtain ⟨LB, hLB⟩ : ∃ LB, BD.length = LB := ⟨_, rfl⟩
          have HD : Hid (oidD 6 BD = (if 16 < len1 then .error 14 else .ok ys) ∧ (writeD 6 BD).length = LD ∧ readD (writeD 6 BD) = .ok ((6, BD), []) ∧ BD.length = LB ∧ ys.length = len1) := ⟨hOB, hLD, hrd, hLB, hlen⟩
          clear hOB hLD hrd hbl hBD hLB hlen
          go_wp2_with fail
          go_at_call 10
          refine HOI.mono ?_
          rintro e wB ⟨bB, v, rfl, ho⟩
          obtain ⟨p6, c6, he6, hv6⟩ := own_byv (l := writeD 6 BD) (by rw [HD.out.2.1]; exact ho)
          rw [HD.out.2.1] at he6
          subst he6
          have HRD := rRead10 p6 LD c6 (writeD 6 BD) _ wB HD.out.2.1 hv6
          rw [HD.out.2.2.1] at HRD
          have HB6 : Hid (Below wr.heap.size wr wB) := bB
          clear bB ho hv6 HOI
          go_wp2_with fail
          go_at_call 9
          refine HRD.mono ?_
          intro e wC hp
          obtain ⟨bC, p7, c7, p8, c8, he, hv7, _⟩ := hp.okx
          rw [HD.out.2.2.2.1] at he
          subst he
          have hBC : Below wr.heap.size wr wC := HB6.out.trans (bC.mono HB6.out.size)
          have bT : Below wC.heap.size wC (wC.alloc (.cells #[.int .u8 6, .slice p7 LB c7] 24)) := (Below.refl _ _).alloc (Nat.le_refl _) _
          have sT : Tl (wC.alloc (.cells #[.int .u8 6, .slice p7 LB c7] 24)) wC.heap.size (.int .u8 6) (.slice p7 LB c7) := Tl.new wC _ _
          have HOD := derOid 6 (by decide) p7 LB c7 BD _ (wC.alloc (.cells #[.int .u8 6, .slice p7 LB c7] 24)) HD.out.2.2.2.1 (hv7.below bT)
          rw [HD.out.1] at HOD
          have HT7 : Hid (Tl (wC.alloc (.cells #[.int .u8 6, .slice p7 LB c7] 24)) wC.heap.size (.int .u8 6) (.slice p7 LB c7) ∧ Below wr.heap.size wr (wC.alloc (.cells #[.int .u8 6, .slice p7 LB c7] 24))) := ⟨sT, hBC.trans (bT.mono hBC.size)⟩
          clear hp bC hv7 hBC bT sT HRD
          go_wp2_with fail
          go_at_call 6
          have HGW : Hid (Below w.heap.size w wr ∧ ys.length = len1 ∧ RowSt BB len1 wr g5 c5 ys) := ⟨HS2.out.2.2.2.2.1.trans (HE.out.2.2.mono HS2.out.2.2.2.1), HD.out.2.2.2.2, HE.out.1⟩
          by_cases q9 : 16 < len1
          · have q9I : (16 : Int) < (len1 : Int) := by omega
            rw [if_pos q9] at HOD
            refine HOD.mono ?_
            rintro e wE ⟨bE, hcase⟩
            have he : e = .returned (.tuple #[.slice none 0 0, .int .i64 14]) := by
              rcases hcase with ⟨k, hk, he⟩ | ⟨l, v, hk, _⟩
              · cases hk; exact he
              · cases hk
            subst he
            have HBE : Hid (Below w.heap.size w wE) := by
              have h1 := HT7.out.2.trans (bE.mono HT7.out.2.size)
              exact HGW.out.1.trans (h1.mono HGW.out.1.size)
            clear hcase bE q9
            go_wp2_with fail
            go_ret
            exact ⟨rfl, HBE.out⟩
          · have q9I : ¬ (16 : Int) < (len1 : Int) := by omega
            rw [if_neg q9] at HOD
            refine HOD.mono ?_
            intro e wE hp
            obtain ⟨bE, _, p9, c9, he, u9⟩ := hp.uni
            have he2 : e = .returned (.tuple #[.slice p9 len1 c9, .int .i64 0]) := by rw [he]; show Ending.returned (.tuple #[.slice p9 ys.length c9, .int .i64 0]) = _; rw [HGW.out.2.1]
            have u9' : UAt wE p9 len1 ys := by have := u9; rw [show oidL (Except.ok ys : Except Nat (List Nat)) = ys from rfl, HGW.out.2.1] at this; exact this
            have hWE : Below wr.heap.size wr wE := HT7.out.2.trans (bE.mono HT7.out.2.size)
            have u5 : UAt wE (some ⟨g5, 0, none⟩) len1 ys := (own_uat HGW.out.2.2.own HGW.out.2.1).below hWE
            have HRW := rows_yes p9 (some ⟨g5, 0, none⟩) len1 c9 c5 ys wE (by omega) u9' u5
            have HBE : Hid (Below w.heap.size w wE) := HGW.out.1.trans (hWE.mono HGW.out.1.size)
            subst he2
            clear he u9 u9' u5 hWE bE hp q9
            go_wp2_with (go_at_call 8; refine HRW.mono ?_; rintro e wF ⟨rfl, hbF⟩; have HF : Hid (Below wE.heap.size wE wF) := hbF; clear hbF)
            go_ret
            exact ⟨rfl, HBE.out.trans (HF.out.mono HBE.out.size)⟩
        have hiI : (i : Int) < (len1 : Int) := by omega
        have hi0 : (0 : Int) ≤ (i : Int) := by omega
        have ck := hst.cell i hi
        have fk := hst.fr i
        obtain ⟨Y, hY⟩ : ∃ Y, ys.getD i 0 = Y := ⟨_, rfl⟩
        rw [hY] at ck
        obtain ⟨Y2, hY2⟩ : ∃ Y2, Y % 4611686018427387904 = Y2 := ⟨_, rfl⟩
        have hY2I : (Y : Int) % 4611686018427387904 = (Y2 : Int) := by omega
        have hil : i < ys.length := by rw [hst.len]; exact hi
        have HY : Hid (ys.getD i 0 = Y ∧ Y2 ≤ Y ∧ Y2 < 4611686018427387904 ∧ i < ys.length) := ⟨hY, by omega, by omega, hil⟩
        have hst2 := hst.set i Y2 hi
        have hb2 : Below BB wR (wr.setCell ⟨g5, i, none⟩ (.int .u64 (Y2 : Int))) := hb.trans ((But.setCell g5 wr i _).below hst.lt.1 (by have := hst.lt; omega))
        by_cases q1 : i = 1
        · have q1I : ((i : Int) == 1) = true := by simp; omega
          have cz := hst2.cell 0 (by omega)
          have hz : (ys.set i Y2).getD 0 0 = ys.getD 0 0 := by rw [rgetD ys i 0 Y2 hil, if_neg (by omega)]
          rw [hz] at cz
          obtain ⟨X, hX⟩ : ∃ X, ys.getD 0 0 = X := ⟨_, rfl⟩
          rw [hX] at cz
          have HX : Hid (ys.getD 0 0 = X) := hX
          by_cases q2 : X < 2
          · have q2I : (X : Int) < 2 := by omega
            have ci := hst2.cell i hi
            rw [rgetD ys i i Y2 hil, if_pos rfl] at ci
            have fi := hst2.fr i
            obtain ⟨Y3, hY3⟩ : ∃ Y3, Y2 % 40 = Y3 := ⟨_, rfl⟩
            have hY3I : (Y2 : Int) % 40 = (Y3 : Int) := by omega
            have hst3 := hst2.set i Y3 hi
            rw [List.set_set] at hst3
            have hb3 : Below BB wR ((wr.setCell ⟨g5, i, none⟩ (.int .u64 (Y2 : Int))).setCell ⟨g5, i, none⟩ (.int .u64 (Y3 : Int))) := hb2.trans ((But.setCell g5 _ i _).below hst2.lt.1 (by have := hst2.lt; omega))
            have HN : Hid (RowSt BB len1 ((wr.setCell ⟨g5, i, none⟩ (.int .u64 (Y2 : Int))).setCell ⟨g5, i, none⟩ (.int .u64 (Y3 : Int))) g5 c5 (ys.set i Y3) ∧ RowIn len1 (i + 1) (ys.set i Y3) ∧ Below BB wR ((wr.setCell ⟨g5, i, none⟩ (.int .u64 (Y2 : Int))).setCell ⟨g5, i, none⟩ (.int .u64 (Y3 : Int)))) := ⟨hst3, hin.step hil Y3 (by omega) (by omega) (fun _ _ => by omega), hb3⟩
            clear hst hin hb hst2 hb2 hst3 hb3 hY hY2 hY3 hX hz q1 q2 hil
            go_wp2_with fail
            exact ⟨⟨i + 1, ys.set i Y3, by omega, by push_cast; rfl, HN.out.1, HN.out.2.1, HN.out.2.2⟩, by simp only [intOf]; omega⟩
          · have q2I : ¬ (X : Int) < 2 := by omega
            have HN : Hid (RowSt BB len1 (wr.setCell ⟨g5, i, none⟩ (.int .u64 (Y2 : Int))) g5 c5 (ys.set i Y2) ∧ RowIn len1 (i + 1) (ys.set i Y2) ∧ Below BB wR (wr.setCell ⟨g5, i, none⟩ (.int .u64 (Y2 : Int)))) := ⟨hst2, hin.step hil Y2 (by omega) (by omega) (fun _ h => by omega), hb2⟩
            clear hst hin hb hst2 hb2 hY hY2 hX hz q1 q2 hil
            go_wp2_with fail
            exact ⟨⟨i + 1, ys.set i Y2, by omega, by push_cast; rfl, HN.out.1, HN.out.2.1, HN.out.2.2⟩, by simp only [intOf]; omega⟩
        · have q1I : ((i : Int) == 1) = false := by simp; omega
          have HN : Hid (RowSt BB len1 (wr.setCell ⟨g5, i, none⟩ (.int .u64 (Y2 : Int))) g5 c5 (ys.set i Y2) ∧ RowIn len1 (i + 1) (ys.set i Y2) ∧ Below BB wR (wr.setCell ⟨g5, i, none⟩ (.int .u64 (Y2 : Int)))) := ⟨hst2, hin.step hil Y2 (by omega) (by omega) (fun h => absurd h q1), hb2⟩
          clear hst hin hb hst2 hb2 hY hY2 q1 hil
          go_wp2_with fail
          exact ⟨⟨i + 1, ys.set i Y2, by omega, by push_cast; rfl, HN.out.1, HN.out.2.1, HN.out.2.2⟩, by simp only [intOf]; omega⟩
    obtain ⟨T, p, n, c, l, x0, x1, hT, hl, hn1, hv⟩ := (H8.out.1 i hi).below hb
    have hiI : (i : Int) < 2 := by omega
    have hi0 : (0 : Int) ≤ (i : Int) := by omega
    have bA : Below wr.heap.size wr (wr.alloc (.cells #[.int .u8 (T : Int), .slice p n c] 24)) := (Below.refl _ _).alloc (Nat.le_refl _) _
    have sA : Tl (wr.alloc (.cells #[.int .u8 (T : Int), .slice p n c] 24)) wr.heap.size (.int .u8 (T : Int)) (.slice p n c) := Tl.new wr _ _
    have HV : Hid (ByV wr (fun b => b < wr.heap.size) p c l ∧ l.length = n ∧ Tl (wr.alloc (.cells #[.int .u8 (T : Int), .slice p n c] 24)) wr.heap.size (.int .u8 (T : Int)) (.slice p n c) ∧ Below wr.heap.size wr (wr.alloc (.cells #[.int .u8 (T : Int), .slice p n c] 24))) := ⟨hv, hl, sA, bA⟩
    clear hb hv hl sA bA
    go_wp2_with fail
    go_at_call 6
    refine (derOid T hT p n c l _ _ HV.out.2.1 (HV.out.1.below HV.out.2.2.2)).mono ?_
    intro e wB hp
    obtain ⟨bB, h16, p1, c1, he, u1⟩ := hp.uni
    obtain ⟨K, hK⟩ : ∃ K, oidK (oidD T l) = K := ⟨_, rfl⟩
    obtain ⟨L, hLL⟩ : ∃ L, oidL (oidD T l) = L := ⟨_, rfl⟩
    obtain ⟨m, hm⟩ : ∃ m, L.length = m := ⟨_, rfl⟩
    rw [hK, hLL, hm] at he
    rw [hLL, hm] at u1 h16
    subst he
    obtain ⟨y0, y1, y2, y3⟩ := (HV.out.2.2.1.below bB).facts
    have bAB : Below wr.heap.size wr wB := HV.out.2.2.2.trans (bB.mono HV.out.2.2.2.size)
    have HR := rOid10 T hT p n c l _ wB HV.out.2.1 (HV.out.1.below bAB) (by omega)
    have HB2 : Hid (Below wr.heap.size wr wB ∧ UAt wB p1 m L) := ⟨bAB, u1⟩
    clear hp bB bAB u1
    go_wp2_with fail
    go_at_call 7
    refine HR.mono ?_
    intro e wC hp
    obtain ⟨bC, _, p2, c2, he, u2⟩ := hp.uni
    rw [hK, hLL, hm] at he
    rw [hLL, hm] at u2
    subst he
    have HRY := rows_yes p1 p2 m c1 c2 L wC (by omega) (HB2.out.2.below bC) u2
    have HF : Hid (Below W8.heap.size W8 wC) := HB.out.trans ((HB2.out.1.trans (bC.mono HB2.out.1.size)).mono HB.out.size)
    have hKK : ((K : Int) != (K : Int)) = false := by simp
    clear hp bC u2 HR hK hLL hm y0 y1 y2 y3 x0 x1 h16
    go_wp2_with (go_at_call 8; refine HRY.mono ?_; rintro e wD ⟨rfl, hbD⟩; have HD : Hid (Below wC.heap.size wC wD) := hbD; clear hbD)
    exact ⟨⟨i + 1, by omega, by push_cast; rfl, HF.out.trans (HD.out.mono HF.out.size)⟩, by simp only [intOf]; omega⟩
end Go.Proofs.YtnckmcmobkpdcaaDoor
