/-
  Two values' texts in one array, in memory.
-/
import Derived.Test.YtbobgebhdafciabDoorJJf
import Derived.Test.YtbobgebhdafciabDoorJPa
import Derived.Test.YtbobgebhdafciabDoorJVy
namespace Go.Proofs.YtbobgebhdafciabDoor
open Go.Shelf Go.RowKit
set_option linter.unusedVariables false
set_option linter.unusedSimpArgs false

/-- A node, its kids further on. -/
def shiftN (s : Nat) (n : Nd) : Nd := ⟨n.kind, n.text, n.names, n.kids.map (· + s)⟩
theorem leafN_shift (s : Nat) (k : Int) (t : Bs) : shiftN s (leafN k t) = leafN k t := by
  unfold leafN
  repeat' split
  all_goals rfl
theorem places_shift (g : Vt → Nat → List Nd) (s : Nat) (H : ∀ v c, g v (c + s) = (g v c).map (shiftN s)) : ∀ (ks : List Vt) (i p : Nat), placesN g i (p + s) ks = ((placesN g i p ks).1.map (· + s), (placesN g i p ks).2.map (shiftN s))
  | [], i, p => rfl
  | k :: ks, i, p => by
    rw [placesN, placesN]
    split
    · rfl
    · have hl : (g k (p + s)).length = (g k p).length := by rw [H, List.length_map]
      have e : p + s + (g k (p + s)).length = p + (g k p).length + s := by rw [hl]; omega
      rw [e, places_shift g s H ks (i + 1) (p + (g k p).length), H]
      simp
theorem vnodes_shift (s : Nat) : ∀ (d : Nat) (v : Vt) (c : Nat), vnodes d v (c + s) = (vnodes d v c).map (shiftN s)
  | 0, v, c => by
    have hm : 0 ≤ v.kind % 7 := Int.emod_nonneg _ (by decide)
    by_cases q : v.kind % 7 ≤ 1
    · rw [vnodes0_grp _ q, vnodes0_grp _ q]; rfl
    · rw [vnodes0_leaf _ (by omega), vnodes0_leaf _ (by omega), List.map_cons, leafN_shift]; rfl
  | d + 1, v, c => by
    have hm : 0 ≤ v.kind % 7 := Int.emod_nonneg _ (by decide)
    have hp := places_shift (vnodes d) s (vnodes_shift s d) v.kids 0 (c + 1)
    have ec : c + s + 1 = c + 1 + s := by omega
    by_cases q : v.kind % 7 = 0
    · rw [vnodes_arr _ q, vnodes_arr _ q, ec, hp]; rfl
    · by_cases q1 : v.kind % 7 = 1
      · rw [vnodes_obj _ q1, vnodes_obj _ q1, ec, hp, List.length_map]; rfl
      · rw [vnodes_leaf _ (by omega), vnodes_leaf _ (by omega), List.map_cons, leafN_shift]; rfl
theorem vnodes_len (d : Nat) (v : Vt) (c : Nat) : (vnodes d v c).length = (vnodes d v 0).length := by
  have := vnodes_shift c d v 0
  rw [Nat.zero_add] at this
  rw [this, List.length_map]
/-- Two texts in brackets. -/
theorem join_read (ga gb : Bs) (hga : isBl ga) (hgb : isBl gb) (d : Nat) (hd : d ≤ 6) (v u : Vt) (hl : ([91] ++ vtext ga d v ++ [44] ++ vtext gb d u ++ [93]).length ≤ 4096) (hn : 1 + (vnodes d v 0).length + (vnodes d u 0).length ≤ 256) :
    parseS ([91] ++ vtext ga d v ++ [44] ++ vtext gb d u ++ [93]) = .ok (⟨2, [], [], [1, 1 + (vnodes d v 0).length]⟩ :: ((vnodes d v 0).map (shiftN 1) ++ (vnodes d u 0).map (shiftN (1 + (vnodes d v 0).length)))) := by
  have e : [91] ++ vtext ga d v ++ [44] ++ vtext gb d u ++ [93] = 91 :: (vtext ga d v ++ 44 :: (vtext gb d u ++ [93])) := by simp
  unfold parseS
  rw [if_neg (by omega)]
  have s1 : vnodes d v 1 = (vnodes d v 0).map (shiftN 1) := by have := vnodes_shift 1 d v 0; rwa [Nat.zero_add] at this
  have s2 : vnodes d u (1 + (vnodes d v 0).length) = (vnodes d u 0).map (shiftN (1 + (vnodes d v 0).length)) := by have := vnodes_shift (1 + (vnodes d v 0).length) d u 0; rwa [Nat.zero_add] at this
  have l1 : (vnodes d v 1).length = (vnodes d v 0).length := vnodes_len d v 1
  have l2 : (vnodes d u (1 + (vnodes d v 0).length)).length = (vnodes d u 0).length := vnodes_len d u _
  have hne := (vtext_lead ga d v).len
  have hne2 := (vtext_lead gb d u).len
  obtain ⟨L, hL⟩ : ∃ L, ([91] ++ vtext ga d v ++ [44] ++ vtext gb d u ++ [93]).length = L := ⟨_, rfl⟩
  have hLe : L = (vtext ga d v).length + (vtext gb d u).length + 3 := by rw [← hL]; simp; omega
  rw [hL, e]
  obtain ⟨F, hF⟩ : ∃ F, 2 * L + 1 = F + 3 := ⟨2 * L - 2, by omega⟩
  obtain ⟨yc, ytl, eY, hyb, _, hy93, _⟩ := vtext_lead ga d v
  have hbY : bl (vtext ga d v ++ 44 :: (vtext gb d u ++ [93])) = vtext ga d v ++ 44 :: (vtext gb d u ++ [93]) := by rw [eY, List.cons_append, bl_stay _ hyb]
  have htk : tk [93] (vtext ga d v ++ 44 :: (vtext gb d u ++ [93])) = none := by rw [eY, List.cons_append]; exact tk_other _ (Ne.symm hy93)
  have v1 := val_read ga hga d v 1 1 (F + 1) [] (44 :: (vtext gb d u ++ [93])) (fun x hx => by simp at hx) (.inr ⟨44, _, rfl, by simp⟩) (by omega) (by omega) (by omega)
  have v2 := val_read gb hgb d u 1 (1 + (vnodes d v 0).length) F [] [93] (fun x hx => by simp at hx) (.inr ⟨93, _, rfl, by simp⟩) (by omega) (by omega) (by omega)
  rw [List.nil_append, if_pos (by rw [l1]; omega)] at v1
  rw [List.nil_append, if_pos (by rw [l2]; omega)] at v2
  rw [hF, valS_grp (f := F + 2) (kind := 2) (cc := 91) (close := 93) (.inr ⟨rfl, rfl, rfl⟩) (bl_stay _ (by decide)) (by decide), grpS_eq, if_neg (by decide), hbY, htk]
  simp only []
  rw [pcsS_succ]
  simp only [aheadS, List.length_nil, Nat.zero_add, Nat.add_zero]
  rw [if_neg (by decide)]
  simp only []
  rw [v1]
  simp only []
  rw [bl_stay _ (by decide), tk_pre]
  simp only []
  rw [pcsS_succ]
  simp only [aheadS, List.nil_append, Nat.zero_add]
  rw [if_neg (by decide)]
  simp only []
  rw [l1, v2]
  simp only []
  rw [bl_stay _ (by decide), tk_other _ (by decide), tk_pre]
  simp only []
  rw [if_pos (show bl [] = [] from rfl), s1, s2]
  simp

/-- Parse of a text: its nodes are new. -/
theorem parse_txtN (W : World) (l : Bs) (m : Nat) (hm : l.length = m) (hl : m ≤ 9223372036854775807) (hT : Tabs W) :
    Calls Tryd.prog 6 #[.slice (some ⟨W.heap.size, 0, none⟩) m (grownCap W m 0 5)] (Lib.bytesWorld W 5 ⟨l.toArray⟩) fun e w' => Below W.heap.size W w' ∧ ((∃ ns nv hs, parseS l = .ok ns ∧ e = .returned (.tuple #[nv, .int .i64 0]) ∧ Nodes w' W.heap.size nv hs ns ∧ ns.length ≤ 256) ∨ (∃ k : Nat, parseS l = .error k ∧ 0 < k ∧ k < 100 ∧ e = .returned (.tuple #[.slice none 0 0, .int .i64 k]))) := by
  have hr := rest_bwU W l (by omega)
  have hc := Parse_any _ _ l _ hr (hT.below (below_bw W l))
  rw [hm] at hc
  refine hc.mono ?_
  rintro e w' ⟨hb, (⟨ns, nv, hs, q1, rfl, N2, l2⟩ | ⟨k, q1, k1, k2, rfl⟩)⟩
  · refine ⟨(below_bw W l).trans (hb.mono (below_bw W l).size), .inl ⟨ns, nv, hs, q1, rfl, ?_, l2⟩⟩
    have hle : W.heap.size ≤ (Lib.bytesWorld W 5 ⟨l.toArray⟩).heap.size + 1 := by rw [Lib.bytesWorld_size]; omega
    have lower : ∀ {e : TypeId} {s : Nat} {v : Value} {n : Nat} {xs : List Value}, w'.ownsRow ((Lib.bytesWorld W 5 ⟨l.toArray⟩).heap.size + 1) e s v n xs → w'.ownsRow W.heap.size e s v n xs := fun ho => by
      refine ⟨ho.1, ?_⟩
      rcases ho.2 with h0 | ⟨q, c', cur, e, hq, r⟩
      · exact .inl h0
      · exact .inr ⟨q, c', cur, e, Nat.le_trans hle hq, r⟩
    exact ⟨N2.len, lower N2.row, fun i x nd hi hn => ⟨(N2.rep i x nd hi hn).kind, (N2.rep i x nd hi hn).text, lower (N2.rep i x nd hi hn).names, lower (N2.rep i x nd hi hn).kids⟩, N2.apart⟩
  · exact ⟨(below_bw W l).trans (hb.mono (below_bw W l).size), .inr ⟨k, q1, k1, k2, rfl⟩⟩
/-- What a value's text is read as. -/
theorem parse_cases (gap : Bs) (hg : isBl gap) (d : Nat) (hd : d ≤ 7) (v : Vt) : (parseS (vtext gap d v) = .ok (vnodes d v 0) ∧ (vtext gap d v).length ≤ 4096 ∧ (vnodes d v 0).length ≤ 256) ∨ parseS (vtext gap d v) = .error 14 ∨ parseS (vtext gap d v) = .error 3 := by
  by_cases h : (vtext gap d v).length ≤ 4096
  · have := parse_read gap hg d hd v h
    by_cases q : (vnodes d v 0).length ≤ 256
    · rw [if_pos q] at this
      exact .inl ⟨this, h, q⟩
    · rw [if_neg q] at this
      exact .inr (.inl this)
  · refine .inr (.inr ?_)
    unfold parseS
    rw [if_pos (by omega)]
theorem vnodes_ne (d : Nat) (v : Vt) (c : Nat) : 1 ≤ (vnodes d v c).length := by
  have hm : 0 ≤ v.kind % 7 := Int.emod_nonneg _ (by decide)
  cases d with
  | zero =>
    by_cases q : v.kind % 7 ≤ 1
    · rw [vnodes0_grp _ q]; simp
    · rw [vnodes0_leaf _ (by omega)]; simp
  | succ d =>
    by_cases q : v.kind % 7 = 0
    · rw [vnodes_arr _ q]; simp
    · by_cases q1 : v.kind % 7 = 1
      · rw [vnodes_obj _ q1]; simp
      · rw [vnodes_leaf _ (by omega)]; simp
/-- Nodes from a place on. -/
theorem LiesN.from_ {w : World} {b o : Nat} {ns : List Nd} (h : LiesN w (some ⟨b, o, none⟩) ns) (k m : Nat) : LiesN w (some ⟨b, o + k * 4, none⟩) ((ns.drop k).take m) := fun i n hi => by
  rw [List.getElem?_take] at hi
  split at hi
  · rw [List.getElem?_drop] at hi
    obtain ⟨b', o', e, hl⟩ := h (k + i) n hi
    cases e
    refine ⟨b, o + k * 4, rfl, ?_⟩
    have e2 : o + k * 4 + i * 4 = o + (k + i) * 4 := by omega
    rw [e2]
    exact hl
  · cases hi
/-- The first so many, their kids further on. -/
def mixN (s i : Nat) (ns : List Nd) : List Nd := (ns.take i).map (shiftN s) ++ ns.drop i
theorem mix_zero (s : Nat) (ns : List Nd) : mixN s 0 ns = ns := by simp [mixN]
theorem mix_all (s : Nat) (ns : List Nd) : mixN s ns.length ns = ns.map (shiftN s) := by simp [mixN]
theorem mix_len (s i : Nat) (ns : List Nd) (h : i ≤ ns.length) : (mixN s i ns).length = ns.length := by simp [mixN]; omega
theorem mix_at (s i : Nat) (ns : List Nd) (n : Nd) (h : ns[i]? = some n) : (mixN s i ns)[i]? = some n := by
  have hlt := (List.getElem?_eq_some_iff.1 h).1
  unfold mixN
  rw [List.getElem?_append_right (by simp; omega)]
  simp only [List.length_map, List.length_take, List.getElem?_drop]
  rw [show i + (i - min i ns.length) = i by omega, h]
theorem mix_step (s i : Nat) (ns : List Nd) (n : Nd) (h : ns[i]? = some n) : (mixN s i ns).set i ⟨n.kind, n.text, n.names, n.kids.map (· + s)⟩ = mixN s (i + 1) ns := by
  have hlt := (List.getElem?_eq_some_iff.1 h).1
  have e : ns.drop i = n :: ns.drop (i + 1) := by
    rw [List.drop_eq_getElem_cons hlt]
    rw [List.getElem?_eq_getElem hlt] at h
    rw [Option.some.inj h]
  unfold mixN
  rw [e, List.set_append_right _ _ (by simp; omega)]
  have e2 : i - ((ns.take i).map (shiftN s)).length = 0 := by simp; omega
  rw [e2, List.set_cons_zero, List.take_add_one, h]
  simp [shiftN]
theorem places_bound (g : Vt → Nat → List Nd) (H1 : ∀ v c, 1 ≤ (g v c).length) (H2 : ∀ v c, ∀ n ∈ g v c, n.kids.length ≤ 9 ∧ ∀ k ∈ n.kids, k < c + (g v c).length) : ∀ (ks : List Vt) (i p : Nat), (placesN g i p ks).1.length ≤ 9 - i ∧ (∀ k ∈ (placesN g i p ks).1, k < p + (placesN g i p ks).2.length) ∧ ∀ n ∈ (placesN g i p ks).2, n.kids.length ≤ 9 ∧ ∀ k ∈ n.kids, k < p + (placesN g i p ks).2.length
  | [], i, p => by simp [placesN]
  | k :: ks, i, p => by
    rw [placesN]
    split
    · simp
    · have h1 := H1 k p
      have h2 := H2 k p
      obtain ⟨a, b, c⟩ := places_bound g H1 H2 ks (i + 1) (p + (g k p).length)
      refine ⟨by simp only [List.length_cons]; omega, fun x hx => ?_, fun n hn => ?_⟩
      · rw [List.length_append]
        rcases List.mem_cons.1 hx with rfl | hx
        · omega
        · have := b x hx; omega
      · rw [List.length_append]
        rcases List.mem_append.1 hn with hn | hn
        · obtain ⟨e1, e2⟩ := h2 n hn
          exact ⟨e1, fun x hx => by have := e2 x hx; omega⟩
        · obtain ⟨e1, e2⟩ := c n hn
          exact ⟨e1, fun x hx => by have := e2 x hx; omega⟩
theorem leafN_kids (k : Int) (t : Bs) : (leafN k t).kids = [] := by
  unfold leafN
  repeat' split
  all_goals rfl
theorem vnodes_bound : ∀ (d : Nat) (v : Vt) (c : Nat), ∀ n ∈ vnodes d v c, n.kids.length ≤ 9 ∧ ∀ k ∈ n.kids, k < c + (vnodes d v c).length
  | 0, v, c, n, hn => by
    have hm : 0 ≤ v.kind % 7 := Int.emod_nonneg _ (by decide)
    by_cases q : v.kind % 7 ≤ 1
    · rw [vnodes0_grp _ q] at hn
      rw [List.mem_singleton.1 hn]
      simp
    · rw [vnodes0_leaf _ (by omega)] at hn
      rw [List.mem_singleton.1 hn, leafN_kids]
      simp
  | d + 1, v, c, n, hn => by
    have hm : 0 ≤ v.kind % 7 := Int.emod_nonneg _ (by decide)
    obtain ⟨a, b, e⟩ := places_bound (vnodes d) (vnodes_ne d) (vnodes_bound d) v.kids 0 (c + 1)
    by_cases q : v.kind % 7 = 0
    · rw [vnodes_arr _ q] at hn ⊢
      rw [List.length_cons]
      rcases List.mem_cons.1 hn with rfl | hn
      · exact ⟨by omega, fun x hx => by have := b x hx; omega⟩
      · obtain ⟨e1, e2⟩ := e n hn
        exact ⟨e1, fun x hx => by have := e2 x hx; omega⟩
    · by_cases q1 : v.kind % 7 = 1
      · rw [vnodes_obj _ q1] at hn ⊢
        rw [List.length_cons]
        rcases List.mem_cons.1 hn with rfl | hn
        · exact ⟨by omega, fun x hx => by have := b x hx; omega⟩
        · obtain ⟨e1, e2⟩ := e n hn
          exact ⟨e1, fun x hx => by have := e2 x hx; omega⟩
      · rw [vnodes_leaf _ (by omega)] at hn
        rw [List.mem_singleton.1 hn, leafN_kids]
        simp
/-- A node's kids in memory. -/
theorem Rep.kidRow {w : World} {base : Nat} {x : Hd} {n : Nd} (r : Rep w base x n) : ∃ pk ck, x.ks = .slice pk n.kids.length ck ∧ RowAt w w.heap.size pk n.kids.length (ints n.kids) := by
  have hk := r.kids
  rcases hk.2 with ⟨e, h0⟩ | ⟨q, cap, cur, e, hq, hr, _⟩
  · exact ⟨none, 0, by rw [h0]; exact e, ⟨by rw [ints_length], fun h => by omega⟩⟩
  · refine ⟨some ⟨q, 0, none⟩, cap, e, ⟨by rw [ints_length], fun h => ⟨q, 0, rfl, (Array.getElem?_eq_some_iff.1 hr).1, fun i hi => ?_⟩⟩⟩
    rw [e] at hk
    rw [Nat.zero_add]
    exact owns_cell hk i (by omega)
theorem own_form {w : World} {base : Nat} {e : TypeId} {v : Value} {n : Nat} {xs : List Value} (h : w.ownsRow base e 1 v n xs) : ∃ pv cv, v = .slice pv n cv := by
  rcases h.2 with ⟨e1, h0⟩ | ⟨q, cap, cur, e1, _⟩
  · exact ⟨none, 0, by rw [h0]; exact e1⟩
  · exact ⟨_, _, e1⟩
end Go.Proofs.YtbobgebhdafciabDoor
