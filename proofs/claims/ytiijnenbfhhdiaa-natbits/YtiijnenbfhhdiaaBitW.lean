/-
  The law's own walk over a number's bits.
-/
import Derived.Test.YtiijnenbfhhdiaaBitI
namespace Go.Proofs.Ytiijnenbfhhdiaa
open Go.RowKit Go.Shelf
set_option linter.unusedVariables false
set_option linter.unusedSimpArgs false
attribute [local go_sem] Oper.semAt_some

/-- How many bits are gone over. -/
def cntOf (stop : Int) (L : Nat) : Int := if 1 ≤ stop ∧ stop ≤ (L : Int) then stop else L

/-- A cell of the call's own, with what it holds. -/
def Kc (W : World) (b : Nat) (v : Value) : Prop := W.cell? ⟨b, 0, none⟩ = some v ∧ W.frozen? ⟨b, 0, none⟩ = false
theorem Kc.kept {W W' : World} {b : Nat} {v : Value} {row : Option Nat} (h : Kc W b v) (hg : W.grownBy W' row) (hr : ∀ r, row = some r → ∃ o : Obj, W.heap[r]? = some o ∧ o.isCells = false) : Kc W' b v :=
  ⟨cell_kept h.1 hg hr, (frozen_kept h.1 hg hr).trans h.2⟩
theorem Kc.new (W : World) (v : Value) (t : TypeId) (b : Nat) (hb : b = W.heap.size) : Kc (W.alloc (.cells #[v] t)) b v := by subst hb; exact new_cell W v t
theorem Kc.alloc {W : World} {b : Nat} {v : Value} (h : Kc W b v) (o : Obj) : Kc (W.alloc o) b v := ⟨more_cell o h.1, more_frozen o h.1 h.2⟩
theorem Kc.set {W : World} {b : Nat} {v : Value} (h : Kc W b v) (u : Value) : Kc (W.setCell ⟨b, 0, none⟩ u) b u := ⟨World.cell?_setCell_same _ _ _ h.1, by rw [World.frozen?_setCell]; exact h.2⟩
theorem Kc.other {W : World} {b c : Nat} {v : Value} (h : Kc W b v) (hne : c ≠ b) (u : Value) : Kc (W.setCell ⟨c, 0, none⟩ u) b v := ⟨(World.cell?_setCell_other _ _ _ _ (by intro e; injection e with e; exact hne e)).trans h.1, by rw [World.frozen?_setCell]; exact h.2⟩
/-- The six cells of the walk. -/
def Six (W : World) (h : Nat) (a : Value) (stop n : Int) (L : Nat) : Prop :=
  Kc W h a ∧ Kc W (h + 1) (.int .i64 stop) ∧ Kc W (h + 1 + 1) (.int .i64 0) ∧ Kc W (h + 1 + 1 + 1) (.bool false) ∧ Kc W (h + 1 + 1 + 1 + 1) (.int .i64 n) ∧ Kc W (h + 1 + 1 + 1 + 1 + 1) (.int .i64 L)
theorem Six.kept {W W' : World} {h : Nat} {a : Value} {stop n : Int} {L : Nat} {row : Option Nat} (k : Six W h a stop n L) (hg : W.grownBy W' row) (hr : ∀ r, row = some r → ∃ o : Obj, W.heap[r]? = some o ∧ o.isCells = false) : Six W' h a stop n L :=
  ⟨k.1.kept hg hr, k.2.1.kept hg hr, k.2.2.1.kept hg hr, k.2.2.2.1.kept hg hr, k.2.2.2.2.1.kept hg hr, k.2.2.2.2.2.kept hg hr⟩
theorem Six.more {W : World} {h : Nat} {a : Value} {stop n : Int} {L : Nat} (k : Six W h a stop n L) (m : Int) : Six (W.setCell ⟨h + 1 + 1 + 1 + 1, 0, none⟩ (.int .i64 m)) h a stop m L :=
  ⟨k.1.other (by omega) _, k.2.1.other (by omega) _, k.2.2.1.other (by omega) _, k.2.2.2.1.other (by omega) _, k.2.2.2.2.1.set _, k.2.2.2.2.2.other (by omega) _⟩
/-- Between two rounds. -/
def Going (w : World) (a : Value) (stop V : Int) (L : Nat) (pre : List (Int × Bool)) (W : World) : Prop :=
  (Six W w.heap.size a stop pre.length L ∧ pre = bitsOf V L pre.length ∧ ∀ i : Nat, 1 ≤ i → i ≤ pre.length → (i : Int) ≠ stop) ∧ Below w.heap.size w W
/-- A round has left. -/
def Gone (w : World) (a : Value) (stop V : Int) (L : Nat) (c : Code) (pre : List (Int × Bool)) (W : World) : Prop :=
  ((c = .ret ∧ ¬ pre <+: bitsOf V L L) ∨ (c = .exit 0 ∧ (pre.length : Int) = stop ∧ 1 ≤ pre.length ∧ Six W w.heap.size a stop pre.length L)) ∧ Below w.heap.size w W

set_option maxRecDepth 100000 in
set_option maxHeartbeats 2000000 in
theorem walk_any (g3 g4 : Nat) (ad : Option Addr) (ld cd : Nat) (ds : List Int) (stop : Int) (V : Int) (L : Nat) (w : World) (hB : BitsAt w g3 g4 V L) (hd : NumIn .i64 D16 w ad ld cd ds) (hc : Canon ds) (hld : ld ≤ 1000000) (hv : val D16 ds = V) (hL : blen V.toNat = L) (hL2 : L ≤ 4480) (hs1 : -1 ≤ stop) (hs2 : stop < 65536) :
    Calls Try.prog 19 #[.func (.func 38) #[] #[.pointer (some ⟨g4, 0, none⟩), .pointer (some ⟨g3, 0, none⟩)], .slice ad ld cd, .int .i64 stop] w fun e w' => e = .returned (.tuple #[.int .i64 (cntOf stop L), .bool true]) ∧ Below w.heap.size w w' := by
  have hb4 : Below w.heap.size w ((((w.alloc (.cells #[.slice ad ld cd] 28)).alloc (.cells #[.int .i64 stop] 3)).alloc (.cells #[.int .i64 0] 3)).alloc (.cells #[.bool false] 4)) :=
    ((((Below.refl _ w).alloc (Nat.le_refl _) _).alloc (by simp) _).alloc (by simp; omega) _).alloc (by simp; omega) _
  have HLEN := rLen_any ad ld cd ds _ (hd.old hb4) hc hld
  rw [hv, hL] at HLEN
  refine (callsIn_wide (n := 4)).1 ?_
  refine callsIn_of_wp_marks Try.func19 rfl trivial ?_ rfl
  simp only [Try.ntmps19, List.size_toArray, List.length_cons, List.length_nil, Nat.reduceAdd, Nat.reduceSub, Array.replicate_succ, Array.replicate_zero, List.push_toArray, List.append_toArray, List.nil_append, List.cons_append]
  gi_wp2_with (refine ⟨trivial, ?_⟩; gi_at_call 15; refine (callsIn_wide.2 HLEN).mono ?_; rintro e w' ⟨rfl, rfl⟩)
  clear HLEN hb4
  have hsz : ((((((w.alloc (.cells #[.slice ad ld cd] 28)).alloc (.cells #[.int .i64 stop] 3)).alloc (.cells #[.int .i64 0] 3)).alloc (.cells #[.bool false] 4)).alloc (.cells #[.int .i64 0] 3)).alloc (.cells #[.int .i64 L] 3)).heap.size = w.heap.size + 1 + 1 + 1 + 1 + 1 + 1 := by simp
  have hb6 : Below w.heap.size w ((((((w.alloc (.cells #[.slice ad ld cd] 28)).alloc (.cells #[.int .i64 stop] 3)).alloc (.cells #[.int .i64 0] 3)).alloc (.cells #[.bool false] 4)).alloc (.cells #[.int .i64 0] 3)).alloc (.cells #[.int .i64 L] 3)) :=
    ((((((Below.refl _ w).alloc (Nat.le_refl _) _).alloc (by simp) _).alloc (by simp; omega) _).alloc (by simp; omega) _).alloc (by simp; omega) _).alloc (by simp; omega) _
  have hsix : Six ((((((w.alloc (.cells #[.slice ad ld cd] 28)).alloc (.cells #[.int .i64 stop] 3)).alloc (.cells #[.int .i64 0] 3)).alloc (.cells #[.bool false] 4)).alloc (.cells #[.int .i64 0] 3)).alloc (.cells #[.int .i64 L] 3)) w.heap.size (.slice ad ld cd) stop 0 L :=
    ⟨(((((Kc.new _ _ _ _ rfl).alloc _).alloc _).alloc _).alloc _).alloc _, ((((Kc.new _ _ _ _ (by simp)).alloc _).alloc _).alloc _).alloc _, (((Kc.new _ _ _ _ (by simp)).alloc _).alloc _).alloc _, ((Kc.new _ _ _ _ (by simp)).alloc _).alloc _, (Kc.new _ _ _ _ (by simp)).alloc _, Kc.new _ _ _ _ (by simp)⟩
  generalize ((((((w.alloc (.cells #[.slice ad ld cd] 28)).alloc (.cells #[.int .i64 stop] 3)).alloc (.cells #[.int .i64 0] 3)).alloc (.cells #[.bool false] 4)).alloc (.cells #[.int .i64 0] 3)).alloc (.cells #[.int .i64 L] 3)) = w6 at *
  refine wpIn_rangeFunc_ownF rfl (by omega) (gf := 38) (lb := #[.pointer (some ⟨g4, 0, none⟩), .pointer (some ⟨g3, 0, none⟩)]) rfl trivial (enters_of Try.func38 (by kernel_rfl) rfl)
    (bits_stops (4 - 1) (by omega) w g3 g4 V L hB) belowK_t (belowK_b (by omega)) hb6 (fun _ => rfl)
    (Going w (.slice ad ld cd) stop V L) (Gone w (.slice ad ld cd) stop V L)
    (fun s A B row hs hg hr => ⟨⟨hs.1.1.kept hg (fun r e => (hr r e).2), hs.1.2⟩, ownFrom_below (β := Unit) (Nat.le_refl _) (by omega) () A B row hs.2 hg hr⟩)
    (fun c s A B row hs hg hr => ⟨hs.1.imp id (fun h => ⟨h.1, h.2.1, h.2.2.1, h.2.2.2.kept hg (fun r e => (hr r e).2)⟩), ownFrom_below (β := Unit) (Nat.le_refl _) (by omega) () A B row hs.2 hg hr⟩)
    ⟨⟨hsix, rfl, fun i h1 h2 => by simp at h2; omega⟩, hb6⟩
    (fun x => { tmps := #[.func (.func 38) #[] #[.pointer (some ⟨g4, 0, none⟩), .pointer (some ⟨g3, 0, none⟩)], .slice ad ld cd, .int .i64 stop, undef, .pointer (some ⟨w.heap.size, 0, none⟩), .pointer (some ⟨w.heap.size + 1, 0, none⟩), .pointer (some ⟨w.heap.size + 1 + 1, 0, none⟩), .pointer (some ⟨w.heap.size + 1 + 1 + 1, 0, none⟩), .pointer (some ⟨w.heap.size + 1 + 1 + 1 + 1, 0, none⟩), .pointer (some ⟨w.heap.size + 1 + 1 + 1 + 1 + 1, 0, none⟩), .int .i64 x.1, .bool x.2, .slice ad ld cd, .int .i64 L, .func (.func 38) #[] #[.pointer (some ⟨g4, 0, none⟩), .pointer (some ⟨g3, 0, none⟩)], .int .i64 x.1, .bool x.2, undef, undef, undef, undef, undef, undef, undef, undef, undef, undef, undef, undef, undef, undef, undef, undef, undef, undef, undef, undef, undef], defers := [] }) ?assign ?body ?done ?stop
  case assign =>
    intro l x W K hK
    gi_wp2
    exact hK
  case body =>
    rintro l pre ⟨x1, x2⟩ W ⟨⟨hsix, hpre, hne⟩, hbW⟩ hlen
    obtain ⟨p, hp⟩ : ∃ p, L - 1 - pre.length = p := ⟨_, rfl⟩
    have ep : (L : Int) - 1 - (pre.length : Int) = (p : Int) := by omega
    have HBIT := rBit_any ad ld cd ds p W (hd.old hbW) (by omega)
    rw [hv] at HBIT
    have hbit : bitOf V L pre.length = ((p : Int), bitAt V p == 1) := by unfold bitOf; rw [hp]
    have HMIS : Hid ((x1, x2) ≠ bitOf V L pre.length → ¬ pre ++ [(x1, x2)] <+: bitsOf V L L) := fun h1 h2 => h1 (bitsOf_take V L pre (x1, x2) h2)
    rw [hbit] at HMIS
    have HGO : Hid ((x1, x2) = bitOf V L pre.length → pre ++ [(x1, x2)] = bitsOf V L (pre ++ [(x1, x2)]).length) := fun h1 => by
      rw [List.length_append, List.length_cons, List.length_nil, bitsOf_succ, ← hpre, h1]
    rw [hbit] at HGO
    have k0 := hsix.1.1
    have k1 := hsix.2.1.1
    have k2 := hsix.2.2.1.1
    have f2 := hsix.2.2.1.2
    have k3 := hsix.2.2.2.1.1
    have f3 := hsix.2.2.2.1.2
    have k4 := hsix.2.2.2.2.1.1
    have f4 := hsix.2.2.2.2.1.2
    have k5 := hsix.2.2.2.2.2.1
    have HSIX : Hid (Six W w.heap.size (.slice ad ld cd) stop pre.length L) := hsix
    have HBW : Hid (Below w.heap.size w W) := hbW
    have HNE : Hid (∀ i : Nat, 1 ≤ i → i ≤ pre.length → (i : Int) ≠ stop) := hne
    have hnl : pre.length < 4480 := by omega
    obtain ⟨nn, hnn⟩ : ∃ nn, pre.length = nn := ⟨_, rfl⟩
    rw [hnn] at k4 ep hnl
    clear hsix hbW hne hbit hp hB hd hc hv hL hb6
    rcases bitAt_01 V p with hbt | hbt
    all_goals
      rw [hbt] at HBIT HMIS HGO
      clear hbt
    · by_cases hx1 : x1 = (p : Int)
      · subst hx1
        cases x2 with
        | false =>
          have HG := HGO.out rfl
          have HPRE : Hid (pre ++ [((p : Int), false)] = bitsOf V L (pre ++ [((p : Int), false)]).length) := HG
          have HLN : Hid (((pre ++ [((p : Int), false)]).length : Int) = (nn : Int) + 1 ∧ (pre ++ [((p : Int), false)]).length = nn + 1) := by constructor <;> simp [hnn]
          have HS6 : Hid (Six (W.setCell ⟨w.heap.size + 1 + 1 + 1 + 1, 0, none⟩ (.int .i64 ((nn : Int) + 1))) w.heap.size (.slice ad ld cd) stop ((nn : Int) + 1) L) := HSIX.out.more _
          have HB6 : Hid (Below w.heap.size w (W.setCell ⟨w.heap.size + 1 + 1 + 1 + 1, 0, none⟩ (.int .i64 ((nn : Int) + 1)))) := HBW.out.setCell (p := ⟨w.heap.size + 1 + 1 + 1 + 1, 0, none⟩) (by show w.heap.size ≤ w.heap.size + 1 + 1 + 1 + 1; omega) _
          clear HMIS HGO HG
          have HNE2 : Hid (∀ i : Nat, 1 ≤ i → i ≤ nn → (i : Int) ≠ stop) := by rw [← hnn]; exact HNE.out
          clear HSIX HBW HNE hnn hpre
          by_cases hst : (nn : Int) + 1 = stop
          · have hstb : (((nn : Int) + 1) == stop) = true := by simp [hst]
            have HST : Hid ((nn : Int) + 1 = stop) := hst
            clear hst
            gi_wp2_with (refine ⟨trivial, ?_⟩; gi_at_call 40; refine (CallsIn.inRound l (callsIn_wide.2 HBIT)).mono ?_; rintro e w' ⟨rfl, rfl⟩)
            exact ⟨KeepsOthers.setCell _ _ _, .inr ⟨rfl, by rw [HLN.out.1]; exact HST.out, by rw [HLN.out.2]; omega, by rw [HLN.out.1]; exact HS6.out⟩, HB6.out⟩
          · have hstb : (((nn : Int) + 1) == stop) = false := by simp [hst]
            gi_wp2_with (refine ⟨trivial, ?_⟩; gi_at_call 40; refine (CallsIn.inRound l (callsIn_wide.2 HBIT)).mono ?_; rintro e w' ⟨rfl, rfl⟩)
            exact ⟨KeepsOthers.setCell _ _ _, (Below.refl _ _).setCell (p := ⟨w.heap.size + 1 + 1 + 1 + 1, 0, none⟩) (by show w.heap.size ≤ w.heap.size + 1 + 1 + 1 + 1; omega) _, ⟨by rw [HLN.out.1]; exact HS6.out, HPRE.out, fun i h1 h2 => by
              rw [HLN.out.2] at h2
              by_cases e : i = nn + 1
              · rw [e]; simpa using hst
              · exact HNE2.out i h1 (by omega)⟩, HB6.out⟩
        | true =>
          have HM : Hid (¬ pre ++ [((p : Int), true)] <+: bitsOf V L L) := HMIS.out (by simp)
          clear HMIS HGO HSIX HNE hpre
          gi_wp2_with (refine ⟨trivial, ?_⟩; gi_at_call 40; refine (CallsIn.inRound l (callsIn_wide.2 HBIT)).mono ?_; rintro e w' ⟨rfl, rfl⟩)
          exact ⟨(KeepsOthers.setCell _ _ _).trans (KeepsOthers.setCell _ _ _), .inl ⟨rfl, HM.out⟩, (HBW.out.setCell (p := ⟨w.heap.size + 1 + 1, 0, none⟩) (by show w.heap.size ≤ w.heap.size + 1 + 1; omega) _).setCell (p := ⟨w.heap.size + 1 + 1 + 1, 0, none⟩) (by show w.heap.size ≤ w.heap.size + 1 + 1 + 1; omega) _⟩
      · have hx1b : (x1 != (p : Int)) = true := by simp [hx1]
        have HM : Hid (¬ pre ++ [(x1, x2)] <+: bitsOf V L L) := HMIS.out (by intro e; injection e with e1 e2; exact hx1 e1)
        clear HMIS HGO HSIX HNE hpre
        gi_wp2
        refine ⟨trivial, ?_⟩
        gi_wp2
        exact ⟨(KeepsOthers.setCell _ _ _).trans (KeepsOthers.setCell _ _ _), .inl ⟨rfl, HM.out⟩, (HBW.out.setCell (p := ⟨w.heap.size + 1 + 1, 0, none⟩) (by show w.heap.size ≤ w.heap.size + 1 + 1; omega) _).setCell (p := ⟨w.heap.size + 1 + 1 + 1, 0, none⟩) (by show w.heap.size ≤ w.heap.size + 1 + 1 + 1; omega) _⟩
    · by_cases hx1 : x1 = (p : Int)
      · subst hx1
        cases x2 with
        | false =>
          have HM : Hid (¬ pre ++ [((p : Int), false)] <+: bitsOf V L L) := HMIS.out (by simp)
          clear HMIS HGO HSIX HNE hpre
          gi_wp2_with (refine ⟨trivial, ?_⟩; gi_at_call 40; refine (CallsIn.inRound l (callsIn_wide.2 HBIT)).mono ?_; rintro e w' ⟨rfl, rfl⟩)
          exact ⟨(KeepsOthers.setCell _ _ _).trans (KeepsOthers.setCell _ _ _), .inl ⟨rfl, HM.out⟩, (HBW.out.setCell (p := ⟨w.heap.size + 1 + 1, 0, none⟩) (by show w.heap.size ≤ w.heap.size + 1 + 1; omega) _).setCell (p := ⟨w.heap.size + 1 + 1 + 1, 0, none⟩) (by show w.heap.size ≤ w.heap.size + 1 + 1 + 1; omega) _⟩
        | true =>
          have HG := HGO.out rfl
          have HPRE : Hid (pre ++ [((p : Int), true)] = bitsOf V L (pre ++ [((p : Int), true)]).length) := HG
          have HLN : Hid (((pre ++ [((p : Int), true)]).length : Int) = (nn : Int) + 1 ∧ (pre ++ [((p : Int), true)]).length = nn + 1) := by constructor <;> simp [hnn]
          have HS6 : Hid (Six (W.setCell ⟨w.heap.size + 1 + 1 + 1 + 1, 0, none⟩ (.int .i64 ((nn : Int) + 1))) w.heap.size (.slice ad ld cd) stop ((nn : Int) + 1) L) := HSIX.out.more _
          have HB6 : Hid (Below w.heap.size w (W.setCell ⟨w.heap.size + 1 + 1 + 1 + 1, 0, none⟩ (.int .i64 ((nn : Int) + 1)))) := HBW.out.setCell (p := ⟨w.heap.size + 1 + 1 + 1 + 1, 0, none⟩) (by show w.heap.size ≤ w.heap.size + 1 + 1 + 1 + 1; omega) _
          clear HMIS HGO HG
          have HNE2 : Hid (∀ i : Nat, 1 ≤ i → i ≤ nn → (i : Int) ≠ stop) := by rw [← hnn]; exact HNE.out
          clear HSIX HBW HNE hnn hpre
          by_cases hst : (nn : Int) + 1 = stop
          · have hstb : (((nn : Int) + 1) == stop) = true := by simp [hst]
            have HST : Hid ((nn : Int) + 1 = stop) := hst
            clear hst
            gi_wp2_with (refine ⟨trivial, ?_⟩; gi_at_call 40; refine (CallsIn.inRound l (callsIn_wide.2 HBIT)).mono ?_; rintro e w' ⟨rfl, rfl⟩)
            exact ⟨KeepsOthers.setCell _ _ _, .inr ⟨rfl, by rw [HLN.out.1]; exact HST.out, by rw [HLN.out.2]; omega, by rw [HLN.out.1]; exact HS6.out⟩, HB6.out⟩
          · have hstb : (((nn : Int) + 1) == stop) = false := by simp [hst]
            gi_wp2_with (refine ⟨trivial, ?_⟩; gi_at_call 40; refine (CallsIn.inRound l (callsIn_wide.2 HBIT)).mono ?_; rintro e w' ⟨rfl, rfl⟩)
            exact ⟨KeepsOthers.setCell _ _ _, (Below.refl _ _).setCell (p := ⟨w.heap.size + 1 + 1 + 1 + 1, 0, none⟩) (by show w.heap.size ≤ w.heap.size + 1 + 1 + 1 + 1; omega) _, ⟨by rw [HLN.out.1]; exact HS6.out, HPRE.out, fun i h1 h2 => by
              rw [HLN.out.2] at h2
              by_cases e : i = nn + 1
              · rw [e]; simpa using hst
              · exact HNE2.out i h1 (by omega)⟩, HB6.out⟩
      · have hx1b : (x1 != (p : Int)) = true := by simp [hx1]
        have HM : Hid (¬ pre ++ [(x1, x2)] <+: bitsOf V L L) := HMIS.out (by intro e; injection e with e1 e2; exact hx1 e1)
        clear HMIS HGO HSIX HNE hpre
        gi_wp2
        refine ⟨trivial, ?_⟩
        gi_wp2
        exact ⟨(KeepsOthers.setCell _ _ _).trans (KeepsOthers.setCell _ _ _), .inl ⟨rfl, HM.out⟩, (HBW.out.setCell (p := ⟨w.heap.size + 1 + 1, 0, none⟩) (by show w.heap.size ≤ w.heap.size + 1 + 1; omega) _).setCell (p := ⟨w.heap.size + 1 + 1 + 1, 0, none⟩) (by show w.heap.size ≤ w.heap.size + 1 + 1 + 1; omega) _⟩
  case done =>
    rintro D ys W hD hys ⟨⟨hsix, hpre, hne⟩, hbW⟩ hK
    have hlen : ys.length = L := by rw [hys, bitsOf_len]
    rw [hlen] at hsix
    have k2 := hsix.2.2.1.1
    have f2 := hsix.2.2.1.2
    have k3 := hsix.2.2.2.1.1
    have f3 := hsix.2.2.2.1.2
    have k4 := hsix.2.2.2.2.1.1
    have HCNT : Hid (cntOf stop L = L) := by
      unfold Hid cntOf
      rw [if_neg]
      rintro ⟨h1, h2⟩
      obtain ⟨m, rfl⟩ := Int.eq_ofNat_of_zero_le (show 0 ≤ stop by omega)
      exact hne m (by omega) (by omega) rfl
    have HR : Hid (Kc ((W.setCell ⟨w.heap.size + 1 + 1, 0, none⟩ (.int .i64 L)).setCell ⟨w.heap.size + 1 + 1 + 1, 0, none⟩ (.bool true)) (w.heap.size + 1 + 1) (.int .i64 L) ∧ Kc ((W.setCell ⟨w.heap.size + 1 + 1, 0, none⟩ (.int .i64 L)).setCell ⟨w.heap.size + 1 + 1 + 1, 0, none⟩ (.bool true)) (w.heap.size + 1 + 1 + 1) (.bool true)) :=
      ⟨(hsix.2.2.1.set _).other (by omega) _, (hsix.2.2.2.1.other (by omega) _).set _⟩
    have HB9 : Hid (Below w.heap.size w ((W.setCell ⟨w.heap.size + 1 + 1, 0, none⟩ (.int .i64 L)).setCell ⟨w.heap.size + 1 + 1 + 1, 0, none⟩ (.bool true))) := (hbW.setCell (p := ⟨w.heap.size + 1 + 1, 0, none⟩) (by show w.heap.size ≤ w.heap.size + 1 + 1; omega) _).setCell (p := ⟨w.heap.size + 1 + 1 + 1, 0, none⟩) (by show w.heap.size ≤ w.heap.size + 1 + 1 + 1; omega) _
    have hK' := ((KeepsOthers.setCell W ⟨w.heap.size + 1 + 1, 0, none⟩ (.int .i64 L)).trans (KeepsOthers.setCell _ ⟨w.heap.size + 1 + 1 + 1, 0, none⟩ (.bool true))).same D _ hK rfl
    have HK : Hid (((W.setCell ⟨w.heap.size + 1 + 1, 0, none⟩ (.int .i64 L)).setCell ⟨w.heap.size + 1 + 1 + 1, 0, none⟩ (.bool true)).heap[D]? = some (.deferred (some [])) ∧ w6.heap.size ≤ D) := ⟨hK', hD⟩
    clear hK' hK hD hys hpre hne hsix hbW hB hd hc hv hL hb6
    gi_wp2
    refine ⟨by simp, .inl ⟨_, _, rfl, run_takeDeferred HK.out.1, ?_⟩⟩
    have hc5 := cell_kept HR.out.1.1 (grownBy_putObj' _ D (.deferred none)) (fun r e => by cases e; exact ⟨_, HK.out.1, rfl⟩)
    have hc6 := cell_kept HR.out.2.1 (grownBy_putObj' _ D (.deferred none)) (fun r e => by cases e; exact ⟨_, HK.out.1, rfl⟩)
    refine ⟨.tuple #[.int .i64 L, .bool true], ?_, by rw [HCNT.out], HB9.out.trans (belowK_b (w := w) (Nat.le_refl _) _ D _ _ (by have := HK.out.2; omega) HK.out.1 rfl rfl)⟩
    simp [results, Try.f19, go_sem, hc5, hc6]
  case stop =>
    rintro D c pre W hD hpre ⟨hg, hbW⟩ hK
    rcases hg with ⟨_, hno⟩ | ⟨rfl, hst, h1, hsix⟩
    · exact absurd hpre hno
    · have hle : pre.length ≤ L := by have := hpre.length_le; rw [bitsOf_len] at this; exact this
      rw [hst] at hsix
      have k2 := hsix.2.2.1.1
      have f2 := hsix.2.2.1.2
      have k3 := hsix.2.2.2.1.1
      have f3 := hsix.2.2.2.1.2
      have k4 := hsix.2.2.2.2.1.1
      have HCNT : Hid (cntOf stop L = stop) := by
        unfold Hid cntOf
        rw [if_pos ⟨by omega, by omega⟩]
      have HR : Hid (Kc ((W.setCell ⟨w.heap.size + 1 + 1, 0, none⟩ (.int .i64 stop)).setCell ⟨w.heap.size + 1 + 1 + 1, 0, none⟩ (.bool true)) (w.heap.size + 1 + 1) (.int .i64 stop) ∧ Kc ((W.setCell ⟨w.heap.size + 1 + 1, 0, none⟩ (.int .i64 stop)).setCell ⟨w.heap.size + 1 + 1 + 1, 0, none⟩ (.bool true)) (w.heap.size + 1 + 1 + 1) (.bool true)) :=
        ⟨(hsix.2.2.1.set _).other (by omega) _, (hsix.2.2.2.1.other (by omega) _).set _⟩
      have HB9 : Hid (Below w.heap.size w ((W.setCell ⟨w.heap.size + 1 + 1, 0, none⟩ (.int .i64 stop)).setCell ⟨w.heap.size + 1 + 1 + 1, 0, none⟩ (.bool true))) := (hbW.setCell (p := ⟨w.heap.size + 1 + 1, 0, none⟩) (by show w.heap.size ≤ w.heap.size + 1 + 1; omega) _).setCell (p := ⟨w.heap.size + 1 + 1 + 1, 0, none⟩) (by show w.heap.size ≤ w.heap.size + 1 + 1 + 1; omega) _
      have hK' := ((KeepsOthers.setCell W ⟨w.heap.size + 1 + 1, 0, none⟩ (.int .i64 stop)).trans (KeepsOthers.setCell _ ⟨w.heap.size + 1 + 1 + 1, 0, none⟩ (.bool true))).same D _ hK rfl
      have HK : Hid (((W.setCell ⟨w.heap.size + 1 + 1, 0, none⟩ (.int .i64 stop)).setCell ⟨w.heap.size + 1 + 1 + 1, 0, none⟩ (.bool true)).heap[D]? = some (.deferred (some [])) ∧ w6.heap.size ≤ D) := ⟨hK', hD⟩
      clear hK' hK hD hpre hst h1 hle hsix hbW hB hd hc hv hL hb6
      gi_wp2
      refine ⟨by simp, .inl ⟨_, _, rfl, run_takeDeferred HK.out.1, ?_⟩⟩
      have hc5 := cell_kept HR.out.1.1 (grownBy_putObj' _ D (.deferred none)) (fun r e => by cases e; exact ⟨_, HK.out.1, rfl⟩)
      have hc6 := cell_kept HR.out.2.1 (grownBy_putObj' _ D (.deferred none)) (fun r e => by cases e; exact ⟨_, HK.out.1, rfl⟩)
      refine ⟨.tuple #[.int .i64 stop, .bool true], ?_, by rw [HCNT.out], HB9.out.trans (belowK_b (w := w) (Nat.le_refl _) _ D _ _ (by have := HK.out.2; omega) HK.out.1 rfl rfl)⟩
      simp [results, Try.f19, go_sem, hc5, hc6]
end Go.Proofs.Ytiijnenbfhhdiaa
