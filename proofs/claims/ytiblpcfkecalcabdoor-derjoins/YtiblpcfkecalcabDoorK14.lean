import Derived.Test.YtiblpcfkecalcabDoorK13
import Derived.Test.YtiblpcfkecalcabDoorK01
import Derived.Test.YtiblpcfkecalcabDoorK09
import Derived.Deep.Slices
/-
  DerJoins.
-/
namespace Go.Proofs.YtiblpcfkecalcabDoor
open Go.Shelf Go.RowKit Go.ChangeShapes Go.WideShapes
set_option linter.unusedVariables false
set_option linter.unusedSimpArgs false

/-- Pieces that came in. -/
def PLies (w : World) (p : Option Addr) (len : Nat) : Prop := len ≤ 9223372036854775807 ∧ ∀ i, i < len → ∃ (b o T : Nat) (q : Option Addr) (n c : Nat) (l : Bs), p = some ⟨b, o, none⟩ ∧ w.cell? ⟨b, o + i * 2, none⟩ = some (.int .u8 (T : Int)) ∧ w.cell? ⟨b, o + i * 2 + 1, none⟩ = some (.slice q n c) ∧ T < 256 ∧ l.length = n ∧ ByV w (fun b => b < w.heap.size) q c l
theorem cells_get2 {w : World} {base : Nat} {a : Addr} {c0 c1 : Value} (h : w.cells? base a 2 = some [c0, c1]) : w.cell? (a.add 0) = some c0 ∧ w.cell? (a.add 1) = some c1 := by
  unfold World.cells? at h
  split at h
  · rw [show List.range 2 = [0, 1] from rfl] at h
    simp only [List.mapM_cons, List.mapM_nil, Option.bind_eq_bind, Option.pure_def] at h
    cases e0 : w.cell? (a.add 0) with
    | none => simp [e0] at h
    | some x0 =>
      cases e1 : w.cell? (a.add 1) with
      | none => simp [e0, e1] at h
      | some x1 =>
        simp [e0, e1] at h
        obtain ⟨rfl, rfl⟩ := h
        exact ⟨rfl, rfl⟩
  · cases h
theorem open_tlvs {H : Type} {enc : TypeId × Value → H} {w : World} {held : Bool} {fuel : Nat} {a0 : Option Addr} {len0 cap0 : Nat} {x : DataW H × List MemPlace} (h : DataW.trod enc Tryd.prog w 0 (fun _ => true) held fuel 26 [.slice a0 len0 cap0] = some x) : PLies w a0 len0 := by
  have hc2 : Tryd.prog.cellsOf 24 = 2 := by kernel_rfl
  rcases Go.Deep.open_slice Tryd.underlying26 h with ⟨e, _⟩ | ⟨a, len, cap, m, n, D, Pl, e, _, hlc, hcm, hm, _, hel⟩
  · cases e
    exact ⟨by omega, fun i hi => absurd hi (by omega)⟩
  · cases e
    rw [hc2] at hel
    have hml : len0 ≤ m := by rw [hm]; split <;> omega
    refine ⟨by unfold maxLen at hcm; omega, fun i hi => ?_⟩
    obtain ⟨cs, hc, ht⟩ := hel i (by omega)
    obtain ⟨T, q, n, c, z, e1, hT, hcame⟩ := open_tlv (cs := cs.toArray) (by simpa using ht)
    have e2 : cs = [.int .u8 T, .slice q n c] := by have := congrArg Array.toList e1; simpa using this
    subst e2
    obtain ⟨k0, k1⟩ := cells_get2 hc
    obtain ⟨b, o, sp⟩ := a
    have hsp : sp = none := by
      obtain ⟨cs', hc', ht'⟩ := hel 0 (by omega)
      obtain ⟨T', q', n', c', z', e1', _⟩ := open_tlv (cs := cs'.toArray) (by simpa using ht')
      have e2' : cs' = [.int .u8 T', .slice q' n' c'] := by have := congrArg Array.toList e1'; simpa using this
      subst e2'
      have := World.cell?_spot (cells_get2 hc').1
      simpa [Addr.add] using this
    subst hsp
    rw [Addr.add_mid, Addr.add_mid] at k0 k1
    rw [Nat.add_zero] at k0
    obtain ⟨l, hl, hv⟩ := hcame.byv
    obtain ⟨TN, rfl⟩ : ∃ TN : Nat, T = (TN : Int) := ⟨T.toNat, by omega⟩
    exact ⟨b, o, TN, q, n, c, l, rfl, k0, k1, by omega, hl, hv⟩
theorem PLies.below {w w' : World} {p : Option Addr} {len : Nat} (h : PLies w p len) (hb : Below w.heap.size w w') : PLies w' p len := by
  refine ⟨h.1, fun i hi => ?_⟩
  obtain ⟨b, o, T, q, n, c, l, h1, h2, h3, h4, h5, h6⟩ := h.2 i hi
  exact ⟨b, o, T, q, n, c, l, h1, (hb.cell (World.block_lt_of_cell? w _ h2)).trans h2, (hb.cell (World.block_lt_of_cell? w _ h3)).trans h3, h4, h5, (h6.below hb).mono (fun b hlt _ => Nat.lt_of_lt_of_le hlt hb.size)⟩
/-- What stands through the region in which a piece is put behind the others. -/
structure JR (w1 wX : World) (xs : List Pc) (g6 : Nat) (c0 c1 : Value) (M0 : Nat) (pc : Option Addr) (cc : Nat) (D : Bs) (W : World) : Prop where
  low : Below w1.heap.size w1 W
  tl : Tl W g6 c0 c1
  byt : ByV W (fun b => M0 ≤ b) pc cc D
  at_ : ∀ x ∈ xs, ByV W (fun b => b < w1.heap.size) x.p x.c x.b
  sz : wX.heap.size ≤ W.heap.size
theorem JR.grow {w1 wX : World} {xs : List Pc} {g6 : Nat} {c0 c1 : Value} {M0 : Nat} {pc : Option Addr} {cc : Nat} {D : Bs} {W W' : World} (h : JR w1 wX xs g6 c0 c1 M0 pc cc D W) {e : TypeId} {s : Nat} {v : Value} {n : Nat} {ys : List Value} (own : W.ownsRow w1.heap.size e s v n ys) (hk : ∀ k, v.ownBlock = some k → k < g6) (hg : g6 < M0) (gr : W.grownBy W' v.ownBlock) : JR w1 wX xs g6 c0 c1 M0 pc cc D W' := by
  refine ⟨below_grownT h.low (Nat.le_refl _) own gr, h.tl.same (gr.block g6 h.tl.lt (fun e => by have := hk g6 e.symm; omega)), h.byt.keep (fun g hg' hlt => gr.block g hlt (fun e => by have := hk g e.symm; omega)), fun x hx => (h.at_ x hx).keep (fun g hg' hlt => gr.block g hlt (fun e => by have := (owns_lt own e.symm).1; omega)), Nat.le_trans h.sz gr.size⟩
theorem JR.below {w1 wX : World} {xs : List Pc} {g6 : Nat} {c0 c1 : Value} {M0 : Nat} {pc : Option Addr} {cc : Nat} {D : Bs} {W W' : World} (h : JR w1 wX xs g6 c0 c1 M0 pc cc D W) (hb : Below W.heap.size W W') : JR w1 wX xs g6 c0 c1 M0 pc cc D W' :=
  ⟨h.low.trans (hb.mono h.low.size), h.tl.below hb, h.byt.below hb, fun x hx => (h.at_ x hx).below hb, Nat.le_trans h.sz hb.size⟩
theorem own_apart {W W' : World} {B B' : Nat} {e1 e2 : TypeId} {s1 s2 : Nat} {v1 v2 : Value} {n1 n2 : Nat} {y1 y2 : List Value} (o1 : W.ownsRow B e1 s1 v1 n1 y1) (o2 : W.ownsRow B' e2 s2 v2 n2 y2) (hne : e1 ≠ e2) (gr : W.grownBy W' v1.ownBlock) : W'.ownsRow B' e2 s2 v2 n2 y2 :=
  owns_keep o2 (fun g hg => gr.block g (owns_lt o2 hg).2.1 (fun e => by
    obtain ⟨_, _, c1, h1⟩ := owns_lt o1 e.symm
    obtain ⟨_, _, c2, h2⟩ := owns_lt o2 hg
    rw [h1] at h2
    injection h2 with h2
    injection h2 with _ h3
    exact hne h3))
theorem set_false {l : Array Bool} {k j : Nat} (h : (l.setIfInBounds k true).getD j false = false) : l.getD j false = false := by
  simp only [Array.getD_eq_getD_getElem?] at h ⊢
  by_cases hk : k = j
  · subst hk
    by_cases hl : k < l.size
    · rw [Array.getElem?_setIfInBounds_self_of_lt hl] at h
      cases h
    · rw [Array.getElem?_eq_none (by omega)]; rfl
  · rw [Array.getElem?_setIfInBounds_ne hk] at h
    exact h
/-- Pieces written one behind the other. -/
def catW (l : List (UInt8 × Bs)) : Bs := l.flatMap fun x => writeD x.1 x.2
/-- The rows that are not yet put behind. -/
def JV (w1 wX : World) (xs : List Pc) (g6 : Nat) (c0 c1 : Value) (M0 : Nat) (pc : Option Addr) (cc : Nat) (D : Bs) (v3 v4 : Value) (LB i : Nat) (listed : Array Bool) (W : World) : Prop :=
  (listed.getD 2 false = false → W.ownsRow w1.heap.size 5 1 v3 LB (Lib.byteCells (catW (pcsOf xs)))) ∧ (listed.getD 6 false = false → W.ownsRow w1.heap.size 24 2 v4 i (cellsP xs)) ∧ JR w1 wX xs g6 c0 c1 M0 pc cc D W
theorem JV.mono {w1 wX : World} {xs : List Pc} {g6 : Nat} {c0 c1 : Value} {M0 : Nat} {pc : Option Addr} {cc : Nat} {D : Bs} {v3 v4 : Value} {LB i : Nat} (k : Nat) {listed : Array Bool} {W : World} (h : JV w1 wX xs g6 c0 c1 M0 pc cc D v3 v4 LB i listed W) : JV w1 wX xs g6 c0 c1 M0 pc cc D v3 v4 LB i (listed.setIfInBounds k true) W :=
  ⟨fun e => h.1 (set_false e), fun e => h.2.1 (set_false e), h.2.2⟩
def Fq.same2 : Fq := ⟨fun vs _ => vs.getD 0 undef = vs.getD 1 undef, fun _ _ _ _ h => h⟩
def Fq.ownb (B n : Nat) (l : Bs) : Fq := ⟨fun vs W => ∃ v, vs.getD 0 undef = v ∧ W.ownsRow B 5 1 v n (Lib.byteCells l), fun vs w w' hb ⟨v, h1, h2⟩ => ⟨v, h1, owns_keep h2 (fun g hg => hb.block g (owns_lt h2 hg).2.1)⟩⟩
def Fq.ownp (B n : Nat) (l : List Pc) : Fq := ⟨fun vs W => ∃ v, vs.getD 0 undef = v ∧ W.ownsRow B 24 2 v n (cellsP l), fun vs w w' hb ⟨v, h1, h2⟩ => ⟨v, h1, owns_keep h2 (fun g hg => hb.block g (owns_lt h2 hg).2.1)⟩⟩
def Fq.one (M : Nat) (c0 c1 : Value) : Fq := ⟨fun vs W => ∃ g, vs.getD 0 undef = .slice (some ⟨g, 0, none⟩) 1 1 ∧ M ≤ g ∧ Tl W g c0 c1, fun vs w w' hb ⟨g, h1, h2, h3⟩ => ⟨g, h1, h2, h3.below hb⟩⟩
theorem GV.idle {ops : Array Oper} {rd : List (List Nat)} {fs : List Fq} {a0 : Act} {V : Array Bool → World → Prop} {listed : Array Bool} {a : Act} {w : World} (h : GV .any ops rd (fs.map Fq.sem) a0 V listed a w) {i : Nat} {dst : Option Tmp} {KK : Act → World → Prop} (hVm : ∀ k, V (listed.setIfInBounds k true) w)
    (hK : ∀ v w', V (listed.setIfInBounds i true) w' → (∀ j vs, listed.getD j false = true → (fs.map Fq.sem).getD j (fun _ _ => True) vs w → (fs.map Fq.sem).getD j (fun _ _ => True) vs w') → (fs.map Fq.sem).getD i (fun _ _ => True) ((rd.getD i []).map fun s => (a.put dst v).tmps.getD s undef) w' → KK (a.put dst v) w') (v : Value) (hf : (fs.map Fq.sem).getD i (fun _ _ => True) ((rd.getD i []).map fun s => (a.put dst v).tmps.getD s undef) w) : KK (a.put dst v) w :=
  hK v w (hVm i) (fun _ _ _ h => h) hf
/-- A piece appended, wherever. -/
theorem wp_append_pc {w : World} {o : Oper} {a : Act} {K : Act → World → Prop} {Q : Exit → Act → World → Prop} (s x : Operand)
    (ho : o.op = .call { callee := .builtin .append, args := #[s, x], argTypes := #[26, 26] }) (base : Nat) (v : Value) (hs : a.eval s = v) (old : List Pc) (m : Nat) (hown : w.ownsRow base 24 2 v m (cellsP old)) (ad : Addr) (c : Nat) (y : Pc) (hx : a.eval x = .slice (some ad) 1 c) (h0 : w.cell? (ad.add 0) = some (.int .u8 (y.t.toNat : Int))) (h1 : w.cell? (ad.add 1) = some (.slice y.p y.b.length y.c)) (hlen : m + 1 ≤ 1000000) (hbase : base ≤ w.heap.size)
    (h : ∀ v' w', w'.ownsRow base 24 2 v' (m + 1) (cellsP (old ++ [y])) → w.grownBy w' v.ownBlock → K (a.put o.dst v') w') : o.wp Tryd.prog a w K Q := by
  obtain ⟨z, hz, hzs⟩ := infoTlv
  obtain ⟨i0, hi0, hz0, hz1, hz2⟩ := info_parts hz
  obtain ⟨v', w', hrun, h2, h3, _, _⟩ := run_append_own_at (P := Tryd.prog) w base 26 o.type 24 i0 z 2 32 Tryd.underlying26 hi0 hz0 hz1 hz2 hzs (by decide) v m (cellsP old) hown ad 1 c (cellsP [y]) rfl (by
    intro j u hj
    match j with
    | 0 => simp [cellsP, Pc.cells] at hj; subst hj; exact h0
    | 1 => simp [cellsP, Pc.cells] at hj; subst hj; exact h1
    | j + 2 => simp [cellsP, Pc.cells] at hj) (by intro u hu; simp [cellsP, Pc.cells] at hu; rcases hu with rfl | rfl <;> rfl) (by unfold maxLen; omega) (by omega) hbase
  rw [cellsP_app] at h2
  unfold Oper.wp
  simp only [execOp, ho, resolve, invoke, builtin, Sem.run_bind, Sem.run_pure, Result.andThen_ok, List.map_toArray, List.map_cons, List.map_nil, hs, hx, hrun]
  exact h v' w' h2 h3
theorem catW_app (a b : List (UInt8 × Bs)) : catW (a ++ b) = catW a ++ catW b := by simp [catW]
theorem catW_read : ∀ (l : List (UInt8 × Bs)), (∀ x ∈ l, x.1.toNat % 32 ≠ 31) → (catW l).length ≤ 4096 → pcsD (catW l) = (l, 0)
  | [], _, _ => rfl
  | x :: l, h, hl => by
    have e : catW (x :: l) = writeD x.1 x.2 ++ catW l := rfl
    rw [e] at hl ⊢
    have h1 := write_read (h x List.mem_cons_self) hl
    rw [pcsD_ok h1, catW_read l (fun y hy => h y (List.mem_cons_of_mem _ hy)) (by rw [List.length_append] at hl; omega)]
set_option maxRecDepth 100000 in
set_option maxHeartbeats 8000000 in
theorem DerJoins_walk (w : World) (a0 : Option Addr) (len0 cap0 : Nat) (u0 : PLies w a0 len0) (hL : laidMet Tryd.prog Rows.derJoinsRow.laid w) :
    Calls Tryd.prog 5 #[.slice a0 len0 cap0] w fun e w' => e = .returned (.bool true) ∧ Below w.heap.size w w' := by
  have hT : Md w := md_laid hL
  have hle := u0.1
  have hleI : (len0 : Int) ≤ 9223372036854775807 := by omega
  have HU : Hid (PLies w a0 len0) := u0
  clear u0 hL
  go_enter Tryd.func5, Tryd.ntmps5
  go_wp2_with fail
  go_at_call 7
  refine (DAwake_any w hT).mono ?_
  rintro e w1 ⟨rfl, b1⟩
  have HV : Hid (PLies w1 a0 len0 ∧ Below w.heap.size w w1) := ⟨HU.out.below b1, b1⟩
  clear HU b1 hT
  go_wp2_with fail
  go_loopw [3, 4, 19] (fun v3 v4 v19 wr => ∃ (i : Nat) (xs : List Pc) (pb : Option Addr) (LB cb : Nat) (pv : Option Addr) (cv : Nat), v19 = .int .i64 (i : Int) ∧ i ≤ len0 ∧ i ≤ 21 ∧ xs.length = i ∧ v3 = .slice pb LB cb ∧ LB ≤ 154 * i ∧ (catW (pcsOf xs)).length = LB ∧ wr.ownsRow w1.heap.size 5 1 (.slice pb LB cb) LB (Lib.byteCells (catW (pcsOf xs))) ∧ v4 = .slice pv i cv ∧ wr.ownsRow w1.heap.size 24 2 (.slice pv i cv) i (cellsP xs) ∧ (∀ x ∈ xs, x.t.toNat % 32 ≠ 31 ∧ ByV wr (fun b => b < w1.heap.size) x.p x.c x.b) ∧ Below w1.heap.size w1 wr) (fun _ _ v19 _ => len0 - (intOf v19).toNat)
  case atStart => exact ⟨0, [], none, 0, 0, none, 0, rfl, by omega, by omega, rfl, rfl, by omega, rfl, World.ownsRow_nil _ _ _ _, rfl, World.ownsRow_nil _ _ _ _, (fun x hx => by cases hx), Below.refl _ _⟩
  case round =>
    obtain ⟨i, xs, pb, LB, cb, pv, cv, rfl, hi1, hi2, hxl, rfl, hLB, hcat, ho3, rfl, ho4, hat, hb⟩ := hrel
    have hBs := hb.size
    have HI : Hid (xs.length = i ∧ (catW (pcsOf xs)).length = LB ∧ wr.ownsRow w1.heap.size 5 1 (.slice pb LB cb) LB (Lib.byteCells (catW (pcsOf xs))) ∧ wr.ownsRow w1.heap.size 24 2 (.slice pv i cv) i (cellsP xs) ∧ (∀ x ∈ xs, x.t.toNat % 32 ≠ 31 ∧ ByV wr (fun b => b < w1.heap.size) x.p x.c x.b) ∧ Below w1.heap.size w1 wr) := ⟨hxl, hcat, ho3, ho4, hat, hb⟩
    clear hxl hcat ho3 ho4 hat
    by_cases q5 : i = len0
    · have q5I : ¬ (i : Int) < (len0 : Int) := by omega
      clear hb q5
      --@end part
      have HB : Hid (Below w.heap.size w wr) := HV.out.2.trans (HI.out.2.2.2.2.2.mono HV.out.2.size)
      by_cases q9 : 4000 < LB
      · have q9I : (4000 : Int) < (LB : Int) := by omega
        go_wp2_with fail
        go_ret
        exact ⟨rfl, HB.out⟩
      have q9I : ¬ (4000 : Int) < (LB : Int) := by omega
      have hcatl := HI.out.2.1
      have hvb : ByV wr (fun b => w1.heap.size ≤ b) pb cb (catW (pcsOf xs)) := by
        obtain ⟨p', c', e', hv'⟩ := own_byv (l := catW (pcsOf xs)) (by rw [hcatl]; exact HI.out.2.2.1)
        rw [hcatl] at e'
        cases e'
        exact hv'
      have hrd : pcsD (catW (pcsOf xs)) = (pcsOf xs, 0) := catW_read _ (fun x hx => by
        obtain ⟨y, hy, rfl⟩ := List.mem_map.1 hx
        exact (HI.out.2.2.2.2.1 y hy).1) (by omega)
      have hP : Pcs wr w1.heap.size (fun b => b < w1.heap.size) (.slice pv i cv) xs := ⟨by rw [HI.out.1]; exact HI.out.2.2.2.1, fun x hx => (HI.out.2.2.2.2.1 x hx).2⟩
      obtain ⟨cat, hcat⟩ : ∃ c, catW (pcsOf xs) = c := ⟨_, rfl⟩
      rw [hcat] at hrd hvb hcatl
      have HP : Hid (Pcs wr w1.heap.size (fun b => b < w1.heap.size) (.slice pv i cv) xs ∧ ByV wr (fun b => w1.heap.size ≤ b) pb cb cat ∧ cat.length = LB ∧ pcsD cat = (pcsOf xs, 0) ∧ xs.length = i) := ⟨hP, hvb, hcatl, hrd, HI.out.1⟩
      clear hP hvb hcatl hrd hcat HI
      go_wp2_with fail
      go_at_call 13
      refine (derList pb LB cb cat _ wr HP.out.2.2.1 HP.out.2.1).mono ?_
      intro e w2 hp
      obtain ⟨b2, l2, v2, he, hl2, hP2, _⟩ := hp.uni
      rw [HP.out.2.2.2.1] at he hl2
      subst he
      clear hp
      have hsame : pcsOf l2 = pcsOf xs := hl2
      have hvb2 := HP.out.2.1.below b2
      have HW := derWrite 48 (by omega) pb LB cb cat w2 HP.out.2.2.1 (by have := hvb2.lies; rw [HP.out.2.2.1] at this; exact this) (by omega)
      have HP2 : Hid (Pcs w2 wr.heap.size (fun b => wr.heap.size ≤ b) v2 l2 ∧ pcsOf l2 = pcsOf xs ∧ Below wr.heap.size wr w2) := ⟨hP2, hsame, b2⟩
      clear b2 hl2 hP2 hsame hvb2
      go_wp2_with fail
      go_at_call 12
      refine HW.mono ?_
      rintro e w3 ⟨b3, hcases⟩
      rw [HP.out.2.2.1] at hcases
      obtain ⟨LS, hLS⟩ : ∃ L, 1 + (headD LB).length + LB = L := ⟨_, rfl⟩
      have hhd : (headD LB).length ≤ 3 := by rw [headD_len]; split <;> (try split) <;> omega
      rw [hLS] at hcases
      rcases hcases with ⟨h31, _⟩ | ⟨_, hbg, _⟩ | ⟨_, _, v3, rfl, o3⟩
      · exact absurd h31 (by decide)
      · exfalso; omega
      obtain ⟨p3, c3, rfl⟩ := owns_slice o3
      obtain ⟨D, hD⟩ : ∃ D, UInt8.ofNat 48 :: (headD LB ++ cat) = D := ⟨_, rfl⟩
      rw [hD] at o3
      have hDl : D.length = LS := by rw [← hD]; simp [HP.out.2.2.1]; omega
      have hDw : D = writeD (UInt8.ofNat 48) cat := by rw [← hD]; unfold writeD; rw [HP.out.2.2.1]
      have hsq : sqD D = (pcsOf xs, 0) := by
        have h1 := write_read (t := UInt8.ofNat 48) (b := cat) (r := []) (by decide) (by rw [List.append_nil, ← hDw, hDl]; omega)
        rw [List.append_nil, ← hDw] at h1
        unfold sqD
        rw [h1]
        simp only []
        rw [if_neg (by decide)]
        exact HP.out.2.2.2.1
      have hv3 : ByV w3 (fun b => w2.heap.size ≤ b) p3 c3 D := by
        obtain ⟨p', c', e', hv'⟩ := own_byv (l := D) (by rw [hDl]; exact o3)
        rw [hDl] at e'
        cases e'
        exact hv'
      have HSQ := derSeq p3 LS c3 D _ w3 hDl hv3
      have HP3 : Hid (Below w2.heap.size w2 w3 ∧ sqD D = (pcsOf xs, 0)) := ⟨b3, hsq⟩
      clear b3 o3 hD hDl hDw hsq hv3 HW hLS hhd
      go_wp2_with fail
      go_at_call 14
      refine HSQ.mono ?_
      intro e w4 hp
      obtain ⟨b4, l4, v4, he, hl4, hP4, _⟩ := hp.uni
      rw [HP3.out.2] at he hl4
      subst he
      clear hp HSQ
      have b24 : Below w2.heap.size w2 w4 := HP3.out.1.trans (b4.mono HP3.out.1.size)
      have br4 : Below wr.heap.size wr w4 := HP2.out.2.2.trans (b24.mono HP2.out.2.2.size)
      have h4s : pcsOf l4 = pcsOf xs := hl4
      have hl24 : l2.length = i := by have := congrArg List.length HP2.out.2.1; simp [pcsOf] at this; rw [this]; exact HP.out.2.2.2.2
      have hl44 : l4.length = i := by have := congrArg List.length h4s; simp [pcsOf] at this; rw [this]; exact HP.out.2.2.2.2
      have hPx : Pcs w4 w1.heap.size (fun b => b < w1.heap.size) (.slice pv i cv) xs := HP.out.1.below br4
      have HS1 := rSameLists_yes _ _ _ _ v2 (.slice pv i cv) l2 xs w4 (HP2.out.1.below b24) hPx HP2.out.2.1 (by omega)
      have HP4 : Hid (Below wr.heap.size wr w4 ∧ Pcs w4 w3.heap.size (fun b => w3.heap.size ≤ b) v4 l4 ∧ pcsOf l4 = pcsOf xs ∧ Pcs w4 w1.heap.size (fun b => b < w1.heap.size) (.slice pv i cv) xs ∧ l4.length = i) := ⟨br4, hP4, h4s, hPx, hl44⟩
      clear b4 hl4 hP4 b24 br4 h4s hl24 hl44 hPx
      go_wp2_with fail
      go_at_call 15
      refine HS1.mono ?_
      rintro e w5 ⟨rfl, b5⟩
      clear HS1
      have HS2 := rSameLists_yes _ _ _ _ v4 (.slice pv i cv) l4 xs w5 (HP4.out.2.1.below b5) (HP4.out.2.2.2.1.below b5) HP4.out.2.2.1 (by have := HP4.out.2.2.2.2; omega)
      have HB5 : Hid (Below w.heap.size w w5) := HB.out.trans ((HP4.out.1.trans (b5.mono HP4.out.1.size)).mono HB.out.size)
      clear b5
      go_wp2_with fail
      go_at_call 15
      refine HS2.mono ?_
      rintro e w6 ⟨rfl, b6⟩
      go_wp2_with fail
      go_ret
      exact ⟨rfl, HB5.out.trans (b6.mono HB5.out.size)⟩
    have q5I : (i : Int) < (len0 : Int) := by omega
    obtain ⟨bq, oq, T, q, n, c, l, rfl, x0w, x1w, hT, hl, hvw⟩ := HV.out.1.2 i (by omega)
    have hi0 : (0 : Int) ≤ (i : Int) := by omega
    have x0 := (hb.cell (p := ⟨bq, oq + i * 2, none⟩) (World.block_lt_of_cell? w1 _ x0w)).trans x0w
    have x1 := (hb.cell (p := ⟨bq, oq + i * 2 + 1, none⟩) (World.block_lt_of_cell? w1 _ x1w)).trans x1w
    have hv : ByV wr (fun b => b < w1.heap.size) q c l := hvw.keep (fun g hg _ => hb.block g hg)
    have hcap := hv.cap
    have hbig := hv.big
    rw [hl] at hcap
    have hnI : (n : Int) ≤ 9223372036854775807 := by omega
    have sA : Tl (wr.alloc (.cells #[.int .u8 (T : Int), .slice q n c] 24)) wr.heap.size (.int .u8 (T : Int)) (.slice q n c) := Tl.new wr _ _
    have bA : Below wr.heap.size wr (wr.alloc (.cells #[.int .u8 (T : Int), .slice q n c] 24)) := (Below.refl _ _).alloc (Nat.le_refl _) _
    obtain ⟨g0, g1, g2, g3⟩ := sA.facts
    have HA : Hid (Tl (wr.alloc (.cells #[.int .u8 (T : Int), .slice q n c] 24)) wr.heap.size (.int .u8 (T : Int)) (.slice q n c) ∧ Below wr.heap.size wr (wr.alloc (.cells #[.int .u8 (T : Int), .slice q n c] 24)) ∧ ByV wr (fun b => b < w1.heap.size) q c l ∧ l.length = n) := ⟨sA, bA, hv, hl⟩
    have HRET : Hid (∀ W, Below wr.heap.size wr W → Below w.heap.size w W) := fun W hW => HV.out.2.trans ((hb.trans (hW.mono hBs)).mono HV.out.2.size)
    clear x0w x1w hvw hv sA bA hb
    by_cases q6 : 20 < i
    · have q6I : (20 : Int) < (i : Int) := by omega
      go_wp2_with fail
      go_ret
      exact ⟨rfl, HRET.out _ HA.out.2.1⟩
    have q6I : ¬ (20 : Int) < (i : Int) := by omega
    by_cases q7 : 150 < n
    · have q7I : (150 : Int) < (n : Int) := by omega
      go_wp2_with fail
      go_ret
      exact ⟨rfl, HRET.out _ HA.out.2.1⟩
    have q7I : ¬ (150 : Int) < (n : Int) := by omega
    obtain ⟨R, hR⟩ : ∃ R, T % 32 = R := ⟨_, rfl⟩
    have hRI : (T : Int) % 32 = (R : Int) := by omega
    by_cases q8 : R = 31
    · have hRb : ((R : Int) == 31) = true := by simp; omega
      --@branch B
      obtain ⟨TN, hTNe⟩ : ∃ TN, T - 1 = TN := ⟨_, rfl⟩
      have hTI : (T : Int) - 1 = (TN : Int) := by omega
      have hTN1 : TN < 256 := by omega
      have hTN2 : ¬ TN % 32 = 31 := by omega
      clear hTNe hR q8
      go_wp2_with fail
      go_at_call 12
      obtain ⟨wA, hwA⟩ : ∃ wA, wr.alloc (.cells #[.int .u8 (TN : Int), .slice q n c] 24) = wA := ⟨_, rfl⟩
      have sA : Tl wA wr.heap.size (.int .u8 (TN : Int)) (.slice q n c) := by rw [← hwA]; exact Tl.new wr _ _
      have bA : Below wr.heap.size wr wA := by rw [← hwA]; exact (Below.refl _ _).alloc (Nat.le_refl _) _
      rw [hwA]
      have hlA : BAt wA q n l := by have := (HA.out.2.2.1.below bA).lies; rw [HA.out.2.2.2] at this; exact this
      refine (derWrite TN hTN1 q n c l wA HA.out.2.2.2 hlA (by omega)).mono ?_
      rintro e wX ⟨bX, hcases⟩
      rw [HA.out.2.2.2] at hcases
      obtain ⟨LC, hLC⟩ : ∃ L, 1 + (headD n).length + n = L := ⟨_, rfl⟩
      have hhd : (headD n).length ≤ 3 := by rw [headD_len]; split <;> (try split) <;> omega
      rw [hLC] at hcases
      rcases hcases with ⟨h31, _⟩ | ⟨_, hbg, _⟩ | ⟨_, _, v7, rfl, o7⟩
      · exact absurd h31 hTN2
      · exfalso; omega
      obtain ⟨pc, cc, rfl⟩ := owns_slice o7
      obtain ⟨D, hD⟩ : ∃ D, UInt8.ofNat TN :: (headD n ++ l) = D := ⟨_, rfl⟩
      rw [hD] at o7
      have hDw : D = writeD (UInt8.ofNat TN) l := by rw [← hD]; unfold writeD; rw [HA.out.2.2.2]
      have hDl : D.length = LC := by rw [← hD]; simp [HA.out.2.2.2]; omega
      have hLC2 : LC ≤ 154 := by omega
      obtain ⟨G6, hG6⟩ : ∃ G, wr.heap.size = G := ⟨_, rfl⟩
      have hvD : ByV wX (fun b => wA.heap.size ≤ b) pc cc D := by
        obtain ⟨p', c', e', hv'⟩ := own_byv (l := D) (by rw [hDl]; exact o7)
        rw [hDl] at e'
        cases e'
        exact hv'
      have bwX : Below wr.heap.size wr wX := bA.trans (bX.mono bA.size)
      have hszA : wr.heap.size < wA.heap.size := sA.lt
      have HJ : Hid (JR w1 wX xs G6 (.int .u8 (TN : Int)) (.slice q n c) wA.heap.size pc cc D wX ∧ wX.ownsRow w1.heap.size 5 1 (.slice pb LB cb) LB (Lib.byteCells (catW (pcsOf xs))) ∧ wX.ownsRow w1.heap.size 24 2 (.slice pv i cv) i (cellsP xs) ∧ D = writeD (UInt8.ofNat TN) l ∧ D.length = LC ∧ G6 < wA.heap.size ∧ wA.heap.size ≤ wX.heap.size ∧ w1.heap.size ≤ G6 ∧ (∀ k, (Value.slice pb LB cb).ownBlock = some k → k < G6) ∧ (∀ k, (Value.slice pv i cv).ownBlock = some k → k < G6) ∧ ByV wX (fun b => b < w1.heap.size) q c l) := by
        rw [← hG6]
        exact ⟨⟨HI.out.2.2.2.2.2.trans (bwX.mono hBs), sA.below bX, hvD, fun x hx => (HI.out.2.2.2.2.1 x hx).2.keep (fun g _ hlt => bwX.block g hlt), Nat.le_refl _⟩, owns_keep HI.out.2.2.1 (fun g hg => bwX.block g (owns_lt HI.out.2.2.1 hg).2.1), owns_keep HI.out.2.2.2.1 (fun g hg => bwX.block g (owns_lt HI.out.2.2.2.1 hg).2.1), hDw, hDl, hszA, bX.size, hBs, fun k hk => (owns_lt HI.out.2.2.1 hk).2.1, fun k hk => (owns_lt HI.out.2.2.2.1 hk).2.1, HA.out.2.2.1.below bwX⟩
      rw [hG6]
      obtain ⟨wAs, hwAs⟩ : ∃ s, wA.heap.size = s := ⟨_, rfl⟩
      rw [hwAs] at HJ
      clear hwAs hwA sA bA bX hlA o7 hD hDw hvD bwX hszA hLC hhd g0 g1 g2 g3 x0 x1 hG6
      go_wp2_with fail
      refine wp_region_inv (JV w1 wX xs G6 (.int .u8 (TN : Int)) (.slice q n c) wAs pc cc D (.slice pb LB cb) (.slice pv i cv) LB i) ⟨fun _ => owns_keep HJ.out.2.1 (fun _ _ => rfl), fun _ => owns_keep HJ.out.2.2.1 (fun _ _ => rfl), HJ.out.1.below (Below.refl _ _).drew⟩ 15 [[47], [48], [49], [50], [51], [52], [53], [3, 49], [4, 53]] (([.eq (Value.slice pb LB cb), .eq (Value.slice pc LC cc), .ownb w1.heap.size (LB + LC) (catW (pcsOf xs) ++ D), .eq (Value.slice pv i cv), .eq (Value.agg #[Value.int IntKind.u8 ↑TN, Value.slice q n c]), .one wX.heap.size (Value.int IntKind.u8 ↑TN) (Value.slice q n c), .ownp w1.heap.size (i + 1) (xs ++ [⟨UInt8.ofNat TN, l, q, c⟩]), .same2, .same2] : List Fq).map Fq.sem) [0, 1, 2, 3, 4, 5, 6, 7, 8] (by kernel_rfl) (by kernel_rfl) (by kernel_rfl) ?stepB ?doneB
      case stepB =>
        intro i o ho listed a wx hI hli hne KK hK
        have hlt : i < 9 := (Array.getElem?_eq_some_iff.1 ho).1
        have hsz : Hid (a.tmps.size = 94) := hI.slots
        have hVm := fun kk => JV.mono kk hI.inv
        obtain rfl | rfl | rfl | rfl | rfl | rfl | rfl | rfl | rfl : i = 0 ∨ i = 1 ∨ i = 2 ∨ i = 3 ∨ i = 4 ∨ i = 5 ∨ i = 6 ∨ i = 7 ∨ i = 8 := by omega
        · simp only [List.getElem?_toArray, List.getElem?_cons_succ, List.getElem?_cons_zero, Option.some.injEq] at ho
          subst ho
          rw [if_pos (by rfl)]
          have eH3 : a.tmps.getD 3 undef = Value.slice pb LB cb := hI.stays hli 15 3 (by decide +kernel)
          go_simp
          exact hI.idle hVm hK _ (put_self _ _ _ (by rw [hsz.out]; decide))
        · simp only [List.getElem?_toArray, List.getElem?_cons_succ, List.getElem?_cons_zero, Option.some.injEq] at ho
          subst ho
          rw [if_pos (by rfl)]
          have eH7 : a.tmps.getD 7 undef = Value.slice pc LC cc := hI.stays hli 15 7 (by decide +kernel)
          go_simp
          exact hI.idle hVm hK _ (put_self _ _ _ (by rw [hsz.out]; decide))
        · simp only [List.getElem?_toArray, List.getElem?_cons_succ, List.getElem?_cons_zero, Option.some.injEq] at ho
          subst ho
          rw [if_pos (by rfl)]
          have eH47 : a.tmps.getD 47 undef = (Value.slice pb LB cb) := hI.deep hne 0 0 (by decide +kernel)
          have eH48 : a.tmps.getD 48 undef = (Value.slice pc LC cc) := hI.deep hne 0 1 (by decide +kernel)
          have own3 := hI.inv.1 hli
          have hJ := hI.inv.2.2
          have hs : a.eval (.tmp 47) = .slice pb LB cb := eH47
          have hx : a.eval (.tmp 48) = .slice pc LC cc := eH48
          refine wp_append_wt (.tmp 47) (.tmp 48) rfl w1.heap.size _ hs (catW (pcsOf xs)) LB HI.out.2.1 own3 pc LC cc D HJ.out.2.2.2.2.1 hx (by have := hJ.byt.lies; rw [HJ.out.2.2.2.2.1] at this; exact this) (by omega) hJ.low.size ?_
          intro v5 w5 o5 gr5 at5
          refine hK v5 w5 ⟨fun e => absurd e (by rw [lget_set _ _ _ (by rw [hI.size]; decide), if_pos rfl]; decide), fun e => own_apart own3 (hI.inv.2.1 (set_false e)) (by decide) gr5, hJ.grow own3 HJ.out.2.2.2.2.2.2.2.2.1 HJ.out.2.2.2.2.2.1 gr5⟩ ?_ ⟨v5, put_self _ _ _ (by rw [hsz.out]; decide), o5⟩
          intro jj vs hlj hj
          match jj, hlj, hj with
          | 0, _, h => exact h
          | 1, _, h => exact h
          | 2, hl2, h => rw [hli] at hl2; cases hl2
          | 3, _, h => exact h
          | 4, _, h => exact h
          | 5, _, h => obtain ⟨g, z1, z2, z3⟩ := h; exact ⟨g, z1, z2, z3.same (gr5.block g z3.lt (fun e => by have := HJ.out.2.2.2.2.2.2.2.2.1 g e.symm; have := HJ.out.2.2.2.2.2.1; have := HJ.out.2.2.2.2.2.2.1; omega))⟩
          | 6, _, h => obtain ⟨v, z1, z2⟩ := h; exact ⟨v, z1, own_apart own3 z2 (by decide) gr5⟩
          | 7, _, h => exact h
          | 8, _, h => exact h
          | jj + 9, _, h => trivial
        · simp only [List.getElem?_toArray, List.getElem?_cons_succ, List.getElem?_cons_zero, Option.some.injEq] at ho
          subst ho
          rw [if_pos (by rfl)]
          have eH4 : a.tmps.getD 4 undef = Value.slice pv i cv := hI.stays hli 15 4 (by decide +kernel)
          go_simp
          exact hI.idle hVm hK _ (put_self _ _ _ (by rw [hsz.out]; decide))
        · simp only [List.getElem?_toArray, List.getElem?_cons_succ, List.getElem?_cons_zero, Option.some.injEq] at ho
          subst ho
          rw [if_pos (by rfl)]
          have eH6 : a.tmps.getD 6 undef = Value.pointer (some { block := G6, off := 0 }) := hI.stays hli 15 6 (by decide +kernel)
          obtain ⟨cC0, cC1, _, _⟩ := hI.inv.2.2.tl.facts
          go_simp
          exact hI.idle hVm hK _ (put_self _ _ _ (by rw [hsz.out]; decide))
        · simp only [List.getElem?_toArray, List.getElem?_cons_succ, List.getElem?_cons_zero, Option.some.injEq] at ho
          subst ho
          rw [if_pos (by rfl)]
          have eH51 : a.tmps.getD 51 undef = (Value.agg #[Value.int IntKind.u8 ↑TN, Value.slice q n c]) := hI.deep hne 0 4 (by decide +kernel)
          have eK51 := eH51
          rw [Array.getD_eq_getD_getElem?] at eK51
          have hJ := hI.inv.2.2
          have hbg : Below wx.heap.size wx (wx.alloc (.cells #[.int .u8 (TN : Int), .slice q n c] 24)) := (Below.refl _ _).alloc (Nat.le_refl _) _
          go_simp
          exact hK _ _ ⟨fun e => owns_keep (hI.inv.1 (set_false e)) (fun g hg => hbg.block g (owns_lt (hI.inv.1 (set_false e)) hg).2.1), fun e => owns_keep (hI.inv.2.1 (set_false e)) (fun g hg => hbg.block g (owns_lt (hI.inv.2.1 (set_false e)) hg).2.1), hJ.below hbg⟩ (fun j vs _ hj => fq_keep _ j vs hbg hj) ⟨wx.heap.size, put_self _ _ _ (by rw [hsz.out]; decide), hJ.sz, Tl.new wx _ _⟩
        · simp only [List.getElem?_toArray, List.getElem?_cons_succ, List.getElem?_cons_zero, Option.some.injEq] at ho
          subst ho
          rw [if_pos (by rfl)]
          have eH50 : a.tmps.getD 50 undef = (Value.slice pv i cv) := hI.deep hne 0 3 (by decide +kernel)
          have fA5 : Fq.sem (.one wX.heap.size (Value.int IntKind.u8 ↑TN) (Value.slice q n c)) [a.tmps.getD 52 undef] wx := hI.deep hne 0 5 (by decide +kernel)
          obtain ⟨zX52, eH52⟩ : ∃ x, a.tmps.getD 52 undef = x := ⟨_, rfl⟩
          simp only [eH52] at fA5
          obtain ⟨g5, h5, m5, t5⟩ := fA5
          have h5' : zX52 = .slice (some ⟨g5, 0, none⟩) 1 1 := h5
          clear h5
          subst h5'
          have own4 := hI.inv.2.1 hli
          have hJ := hI.inv.2.2
          have hs : a.eval (.tmp 50) = .slice pv i cv := eH50
          have hx : a.eval (.tmp 52) = .slice (some ⟨g5, 0, none⟩) 1 1 := eH52
          have hTof : (UInt8.ofNat TN).toNat = TN := by rw [UInt8.toNat_ofNat']; omega
          refine wp_append_pc (.tmp 50) (.tmp 52) rfl w1.heap.size _ hs xs i own4 ⟨g5, 0, none⟩ 1 ⟨UInt8.ofNat TN, l, q, c⟩ hx (by show _ = some (Value.int .u8 ((UInt8.ofNat TN).toNat : Int)); rw [hTof, Addr.add_mid]; exact t5.c0) (by show _ = some (Value.slice q l.length c); rw [HA.out.2.2.2, Addr.add_mid]; exact t5.c1) (by omega) hJ.low.size ?_
          intro v5 w5 o5 gr5
          refine hK v5 w5 ⟨fun e => own_apart own4 (hI.inv.1 (set_false e)) (by decide) gr5, fun e => absurd e (by rw [lget_set _ _ _ (by rw [hI.size]; decide), if_pos rfl]; decide), hJ.grow own4 HJ.out.2.2.2.2.2.2.2.2.2.1 HJ.out.2.2.2.2.2.1 gr5⟩ ?_ ⟨v5, put_self _ _ _ (by rw [hsz.out]; decide), o5⟩
          intro jj vs hlj hj
          match jj, hlj, hj with
          | 0, _, h => exact h
          | 1, _, h => exact h
          | 2, _, h => obtain ⟨v, z1, z2⟩ := h; exact ⟨v, z1, own_apart own4 z2 (by decide) gr5⟩
          | 3, _, h => exact h
          | 4, _, h => exact h
          | 5, _, h => obtain ⟨g, z1, z2, z3⟩ := h; exact ⟨g, z1, z2, z3.same (gr5.block g z3.lt (fun e => by have := HJ.out.2.2.2.2.2.2.2.2.2.1 g e.symm; have := HJ.out.2.2.2.2.2.1; have := HJ.out.2.2.2.2.2.2.1; omega))⟩
          | 6, hl6, h => rw [hli] at hl6; cases hl6
          | 7, _, h => exact h
          | 8, _, h => exact h
          | jj + 9, _, h => trivial
        · simp only [List.getElem?_toArray, List.getElem?_cons_succ, List.getElem?_cons_zero, Option.some.injEq] at ho
          subst ho
          rw [if_pos (by rfl)]
          have fA2 : Fq.sem (.ownb w1.heap.size (LB + LC) (catW (pcsOf xs) ++ D)) [a.tmps.getD 49 undef] wx := hI.deep hne 0 2 (by decide +kernel)
          obtain ⟨zX49, eH49⟩ : ∃ x, a.tmps.getD 49 undef = x := ⟨_, rfl⟩
          simp only [eH49] at fA2
          have eK49 := eH49
          rw [Array.getD_eq_getD_getElem?] at eK49
          go_simp
          exact hI.idle hVm hK _ ((put_self _ _ _ (by rw [hsz.out]; decide)).trans ((put_get _ _ _ _ (by decide)).trans eH49).symm)
        · simp only [List.getElem?_toArray, List.getElem?_cons_succ, List.getElem?_cons_zero, Option.some.injEq] at ho
          subst ho
          rw [if_pos (by rfl)]
          have fA6 : Fq.sem (.ownp w1.heap.size (i + 1) (xs ++ [⟨UInt8.ofNat TN, l, q, c⟩])) [a.tmps.getD 53 undef] wx := hI.deep hne 0 6 (by decide +kernel)
          obtain ⟨zX53, eH53⟩ : ∃ x, a.tmps.getD 53 undef = x := ⟨_, rfl⟩
          simp only [eH53] at fA6
          have eK53 := eH53
          rw [Array.getD_eq_getD_getElem?] at eK53
          go_simp
          exact hI.idle hVm hK _ ((put_self _ _ _ (by rw [hsz.out]; decide)).trans ((put_get _ _ _ _ (by decide)).trans eH53).symm)
      case doneB =>
        intro listed a W hI hall
        obtain ⟨tm, df⟩ := a
        have hdf : df = [] := hI.defers
        subst hdf
        have hTM : tm = #[tm.getD 0 undef, tm.getD 1 undef, tm.getD 2 undef, tm.getD 3 undef, tm.getD 4 undef, tm.getD 5 undef, tm.getD 6 undef, tm.getD 7 undef, tm.getD 8 undef, tm.getD 9 undef, tm.getD 10 undef, tm.getD 11 undef, tm.getD 12 undef, tm.getD 13 undef, tm.getD 14 undef, tm.getD 15 undef, tm.getD 16 undef, tm.getD 17 undef, tm.getD 18 undef, tm.getD 19 undef, tm.getD 20 undef, tm.getD 21 undef, tm.getD 22 undef, tm.getD 23 undef, tm.getD 24 undef, tm.getD 25 undef, tm.getD 26 undef, tm.getD 27 undef, tm.getD 28 undef, tm.getD 29 undef, tm.getD 30 undef, tm.getD 31 undef, tm.getD 32 undef, tm.getD 33 undef, tm.getD 34 undef, tm.getD 35 undef, tm.getD 36 undef, tm.getD 37 undef, tm.getD 38 undef, tm.getD 39 undef, tm.getD 40 undef, tm.getD 41 undef, tm.getD 42 undef, tm.getD 43 undef, tm.getD 44 undef, tm.getD 45 undef, tm.getD 46 undef, tm.getD 47 undef, tm.getD 48 undef, tm.getD 49 undef, tm.getD 50 undef, tm.getD 51 undef, tm.getD 52 undef, tm.getD 53 undef, tm.getD 54 undef, tm.getD 55 undef, tm.getD 56 undef, tm.getD 57 undef, tm.getD 58 undef, tm.getD 59 undef, tm.getD 60 undef, tm.getD 61 undef, tm.getD 62 undef, tm.getD 63 undef, tm.getD 64 undef, tm.getD 65 undef, tm.getD 66 undef, tm.getD 67 undef, tm.getD 68 undef, tm.getD 69 undef, tm.getD 70 undef, tm.getD 71 undef, tm.getD 72 undef, tm.getD 73 undef, tm.getD 74 undef, tm.getD 75 undef, tm.getD 76 undef, tm.getD 77 undef, tm.getD 78 undef, tm.getD 79 undef, tm.getD 80 undef, tm.getD 81 undef, tm.getD 82 undef, tm.getD 83 undef, tm.getD 84 undef, tm.getD 85 undef, tm.getD 86 undef, tm.getD 87 undef, tm.getD 88 undef, tm.getD 89 undef, tm.getD 90 undef, tm.getD 91 undef, tm.getD 92 undef, tm.getD 93 undef] := arr_of tm 94 hI.slots
        have oS0 : tm.getD 0 undef = Value.slice (some { block := bq, off := oq }) len0 cap0 := hI.keptQ 0 (by decide +kernel)
        have oS1 : tm.getD 1 undef = undef := hI.keptQ 1 (by decide +kernel)
        have oS2 : tm.getD 2 undef = u2 := hI.keptQ 2 (by decide +kernel)
        have oS5 : tm.getD 5 undef = Value.int IntKind.i64 ↑i := hI.keptQ 5 (by decide +kernel)
        have oS6 : tm.getD 6 undef = Value.pointer (some { block := G6, off := 0 }) := hI.keptQ 6 (by decide +kernel)
        have oS7 : tm.getD 7 undef = Value.slice pc LC cc := hI.keptQ 7 (by decide +kernel)
        have oS8 : tm.getD 8 undef = Value.int IntKind.i64 0 := hI.keptQ 8 (by decide +kernel)
        have oS9 : tm.getD 9 undef = undef := hI.keptQ 9 (by decide +kernel)
        have oS10 : tm.getD 10 undef = undef := hI.keptQ 10 (by decide +kernel)
        have oS11 : tm.getD 11 undef = undef := hI.keptQ 11 (by decide +kernel)
        have oS12 : tm.getD 12 undef = undef := hI.keptQ 12 (by decide +kernel)
        have oS13 : tm.getD 13 undef = undef := hI.keptQ 13 (by decide +kernel)
        have oS14 : tm.getD 14 undef = undef := hI.keptQ 14 (by decide +kernel)
        have oS15 : tm.getD 15 undef = Value.bool true := hI.keptQ 15 (by decide +kernel)
        have oS16 : tm.getD 16 undef = Value.bool false := hI.keptQ 16 (by decide +kernel)
        have oS17 : tm.getD 17 undef = Value.slice (some { block := bq, off := oq }) len0 cap0 := hI.keptQ 17 (by decide +kernel)
        have oS18 : tm.getD 18 undef = Value.int IntKind.i64 ↑len0 := hI.keptQ 18 (by decide +kernel)
        have oS19 : tm.getD 19 undef = Value.int IntKind.i64 ↑i := hI.keptQ 19 (by decide +kernel)
        have oS20 : tm.getD 20 undef = Value.bool true := hI.keptQ 20 (by decide +kernel)
        have oS21 : tm.getD 21 undef = Value.int IntKind.i64 ↑i := hI.keptQ 21 (by decide +kernel)
        have oS22 : tm.getD 22 undef = Value.pointer (some { block := bq, off := oq + i * 2 }) := hI.keptQ 22 (by decide +kernel)
        have oS23 : tm.getD 23 undef = Value.agg #[Value.int IntKind.u8 ↑T, Value.slice q n c] := hI.keptQ 23 (by decide +kernel)
        have oS24 : tm.getD 24 undef = Value.int IntKind.i64 ↑i := hI.keptQ 24 (by decide +kernel)
        have oS25 : tm.getD 25 undef = Value.bool false := hI.keptQ 25 (by decide +kernel)
        have oS26 : tm.getD 26 undef = Value.bool false := hI.keptQ 26 (by decide +kernel)
        have oS27 : tm.getD 27 undef = Value.pointer (some { block := G6, off := 1 }) := hI.keptQ 27 (by decide +kernel)
        have oS28 : tm.getD 28 undef = Value.slice q n c := hI.keptQ 28 (by decide +kernel)
        have oS29 : tm.getD 29 undef = Value.int IntKind.i64 ↑n := hI.keptQ 29 (by decide +kernel)
        have oS30 : tm.getD 30 undef = Value.bool false := hI.keptQ 30 (by decide +kernel)
        have oS31 : tm.getD 31 undef = Value.bool false := hI.keptQ 31 (by decide +kernel)
        have oS32 : tm.getD 32 undef = Value.pointer (some { block := G6, off := 0 }) := hI.keptQ 32 (by decide +kernel)
        have oS33 : tm.getD 33 undef = Value.int IntKind.u8 ↑T := hI.keptQ 33 (by decide +kernel)
        have oS34 : tm.getD 34 undef = Value.int IntKind.u8 ↑R := hI.keptQ 34 (by decide +kernel)
        have oS35 : tm.getD 35 undef = Value.bool true := hI.keptQ 35 (by decide +kernel)
        have oS36 : tm.getD 36 undef = Value.pointer (some { block := G6, off := 0 }) := hI.keptQ 36 (by decide +kernel)
        have oS37 : tm.getD 37 undef = Value.int IntKind.u8 ↑T := hI.keptQ 37 (by decide +kernel)
        have oS38 : tm.getD 38 undef = Value.int IntKind.u8 ↑TN := hI.keptQ 38 (by decide +kernel)
        have oS39 : tm.getD 39 undef = Value.pointer (some { block := G6, off := 0 }) := hI.keptQ 39 (by decide +kernel)
        have oS40 : tm.getD 40 undef = Value.tuple #[Value.slice pc LC cc, Value.int IntKind.i64 0] := hI.keptQ 40 (by decide +kernel)
        have oS41 : tm.getD 41 undef = Value.agg #[Value.int IntKind.u8 ↑TN, Value.slice q n c] := hI.keptQ 41 (by decide +kernel)
        have oS42 : tm.getD 42 undef = Value.tuple #[Value.slice pc LC cc, Value.int IntKind.i64 0] := hI.keptQ 42 (by decide +kernel)
        have oS43 : tm.getD 43 undef = Value.slice pc LC cc := hI.keptQ 43 (by decide +kernel)
        have oS44 : tm.getD 44 undef = Value.int IntKind.i64 0 := hI.keptQ 44 (by decide +kernel)
        have oS45 : tm.getD 45 undef = Value.int IntKind.i64 0 := hI.keptQ 45 (by decide +kernel)
        have oS46 : tm.getD 46 undef = Value.bool false := hI.keptQ 46 (by decide +kernel)
        have oS54 : tm.getD 54 undef = u54 := hI.keptQ 54 (by decide +kernel)
        have oS55 : tm.getD 55 undef = undef := hI.keptQ 55 (by decide +kernel)
        have oS56 : tm.getD 56 undef = undef := hI.keptQ 56 (by decide +kernel)
        have oS57 : tm.getD 57 undef = undef := hI.keptQ 57 (by decide +kernel)
        have oS58 : tm.getD 58 undef = undef := hI.keptQ 58 (by decide +kernel)
        have oS59 : tm.getD 59 undef = undef := hI.keptQ 59 (by decide +kernel)
        have oS60 : tm.getD 60 undef = undef := hI.keptQ 60 (by decide +kernel)
        have oS61 : tm.getD 61 undef = undef := hI.keptQ 61 (by decide +kernel)
        have oS62 : tm.getD 62 undef = undef := hI.keptQ 62 (by decide +kernel)
        have oS63 : tm.getD 63 undef = undef := hI.keptQ 63 (by decide +kernel)
        have oS64 : tm.getD 64 undef = undef := hI.keptQ 64 (by decide +kernel)
        have oS65 : tm.getD 65 undef = undef := hI.keptQ 65 (by decide +kernel)
        have oS66 : tm.getD 66 undef = undef := hI.keptQ 66 (by decide +kernel)
        have oS67 : tm.getD 67 undef = undef := hI.keptQ 67 (by decide +kernel)
        have oS68 : tm.getD 68 undef = undef := hI.keptQ 68 (by decide +kernel)
        have oS69 : tm.getD 69 undef = undef := hI.keptQ 69 (by decide +kernel)
        have oS70 : tm.getD 70 undef = undef := hI.keptQ 70 (by decide +kernel)
        have oS71 : tm.getD 71 undef = undef := hI.keptQ 71 (by decide +kernel)
        have oS72 : tm.getD 72 undef = undef := hI.keptQ 72 (by decide +kernel)
        have oS73 : tm.getD 73 undef = undef := hI.keptQ 73 (by decide +kernel)
        have oS74 : tm.getD 74 undef = undef := hI.keptQ 74 (by decide +kernel)
        have oS75 : tm.getD 75 undef = undef := hI.keptQ 75 (by decide +kernel)
        have oS76 : tm.getD 76 undef = undef := hI.keptQ 76 (by decide +kernel)
        have oS77 : tm.getD 77 undef = undef := hI.keptQ 77 (by decide +kernel)
        have oS78 : tm.getD 78 undef = undef := hI.keptQ 78 (by decide +kernel)
        have oS79 : tm.getD 79 undef = undef := hI.keptQ 79 (by decide +kernel)
        have oS80 : tm.getD 80 undef = undef := hI.keptQ 80 (by decide +kernel)
        have oS81 : tm.getD 81 undef = undef := hI.keptQ 81 (by decide +kernel)
        have oS82 : tm.getD 82 undef = undef := hI.keptQ 82 (by decide +kernel)
        have oS83 : tm.getD 83 undef = undef := hI.keptQ 83 (by decide +kernel)
        have oS84 : tm.getD 84 undef = undef := hI.keptQ 84 (by decide +kernel)
        have oS85 : tm.getD 85 undef = undef := hI.keptQ 85 (by decide +kernel)
        have oS86 : tm.getD 86 undef = undef := hI.keptQ 86 (by decide +kernel)
        have oS87 : tm.getD 87 undef = undef := hI.keptQ 87 (by decide +kernel)
        have oS88 : tm.getD 88 undef = undef := hI.keptQ 88 (by decide +kernel)
        have oS89 : tm.getD 89 undef = undef := hI.keptQ 89 (by decide +kernel)
        have oS90 : tm.getD 90 undef = undef := hI.keptQ 90 (by decide +kernel)
        have oS91 : tm.getD 91 undef = undef := hI.keptQ 91 (by decide +kernel)
        have oS92 : tm.getD 92 undef = undef := hI.keptQ 92 (by decide +kernel)
        have oS93 : tm.getD 93 undef = undef := hI.keptQ 93 (by decide +kernel)
        have fA2 : Fq.sem (.ownb w1.heap.size (LB + LC) (catW (pcsOf xs) ++ D)) [tm.getD 49 undef] W := hI.facts 2 (hall 2 (by decide))
        have fA6 : Fq.sem (.ownp w1.heap.size (i + 1) (xs ++ [⟨UInt8.ofNat TN, l, q, c⟩])) [tm.getD 53 undef] W := hI.facts 6 (hall 6 (by decide))
        have fA7 : Fq.sem (.same2) [tm.getD 3 undef, tm.getD 49 undef] W := hI.facts 7 (hall 7 (by decide))
        have fA8 : Fq.sem (.same2) [tm.getD 4 undef, tm.getD 53 undef] W := hI.facts 8 (hall 8 (by decide))
        have fA0 : tm.getD 47 undef = (Value.slice pb LB cb) := hI.facts 0 (hall 0 (by decide))
        have fA1 : tm.getD 48 undef = (Value.slice pc LC cc) := hI.facts 1 (hall 1 (by decide))
        have fA3 : tm.getD 50 undef = (Value.slice pv i cv) := hI.facts 3 (hall 3 (by decide))
        have fA4 : tm.getD 51 undef = (Value.agg #[Value.int IntKind.u8 ↑TN, Value.slice q n c]) := hI.facts 4 (hall 4 (by decide))
        have hIV := hI.inv.2.2
        clear hI hall listed
        simp only [oS0, oS1, oS2, oS5, oS6, oS7, oS8, oS9, oS10, oS11, oS12, oS13, oS14, oS15, oS16, oS17, oS18, oS19, oS20, oS21, oS22, oS23, oS24, oS25, oS26, oS27, oS28, oS29, oS30, oS31, oS32, oS33, oS34, oS35, oS36, oS37, oS38, oS39, oS40, oS41, oS42, oS43, oS44, oS45, oS46, oS54, oS55, oS56, oS57, oS58, oS59, oS60, oS61, oS62, oS63, oS64, oS65, oS66, oS67, oS68, oS69, oS70, oS71, oS72, oS73, oS74, oS75, oS76, oS77, oS78, oS79, oS80, oS81, oS82, oS83, oS84, oS85, oS86, oS87, oS88, oS89, oS90, oS91, oS92, oS93, fA0, fA1, fA3, fA4] at hTM
        clear oS0 oS1 oS2 oS5 oS6 oS7 oS8 oS9 oS10 oS11 oS12 oS13 oS14 oS15 oS16 oS17 oS18 oS19 oS20 oS21 oS22 oS23 oS24 oS25 oS26 oS27 oS28 oS29 oS30 oS31 oS32 oS33 oS34 oS35 oS36 oS37 oS38 oS39 oS40 oS41 oS42 oS43 oS44 oS45 oS46 oS54 oS55 oS56 oS57 oS58 oS59 oS60 oS61 oS62 oS63 oS64 oS65 oS66 oS67 oS68 oS69 oS70 oS71 oS72 oS73 oS74 oS75 oS76 oS77 oS78 oS79 oS80 oS81 oS82 oS83 oS84 oS85 oS86 oS87 oS88 oS89 oS90 oS91 oS92 oS93 fA0 fA1 fA3 fA4
        generalize tm.getD 3 undef = zX3 at hTM fA7
        generalize tm.getD 4 undef = zX4 at hTM fA8
        generalize tm.getD 49 undef = zX49 at hTM fA2 fA7
        generalize tm.getD 52 undef = zX52 at hTM 
        generalize tm.getD 53 undef = zX53 at hTM fA6 fA8
        subst hTM
        obtain ⟨v5, h5, o5⟩ := fA2
        have h5' : zX49 = v5 := h5
        clear h5
        subst h5'
        obtain ⟨v6, h6, o6⟩ := fA6
        have h6' : zX53 = v6 := h6
        clear h6
        subst h6'
        have e7 : zX3 = zX49 := fA7
        have e8 : zX4 = zX53 := fA8
        clear fA7 fA8
        subst e7 e8
        obtain ⟨p5, c5, rfl⟩ := owns_slice o5
        obtain ⟨p6, c6, rfl⟩ := owns_slice o6
        have hTof : (UInt8.ofNat TN).toNat = TN := by rw [UInt8.toNat_ofNat']; omega
        have hcw : catW (pcsOf (xs ++ [⟨UInt8.ofNat TN, l, q, c⟩])) = catW (pcsOf xs) ++ D := by
          rw [show pcsOf (xs ++ [⟨UInt8.ofNat TN, l, q, c⟩]) = pcsOf xs ++ [(UInt8.ofNat TN, l)] by simp [pcsOf], catW_app, HJ.out.2.2.2.1]
          simp [catW]
        have HF : Hid (W.ownsRow w1.heap.size 5 1 (.slice p5 (LB + LC) c5) (LB + LC) (Lib.byteCells (catW (pcsOf (xs ++ [⟨UInt8.ofNat TN, l, q, c⟩])))) ∧ W.ownsRow w1.heap.size 24 2 (.slice p6 (i + 1) c6) (i + 1) (cellsP (xs ++ [⟨UInt8.ofNat TN, l, q, c⟩])) ∧ (catW (pcsOf (xs ++ [⟨UInt8.ofNat TN, l, q, c⟩]))).length = LB + LC ∧ Below w1.heap.size w1 W ∧ (∀ x ∈ xs ++ [⟨UInt8.ofNat TN, l, q, c⟩], x.t.toNat % 32 ≠ 31 ∧ ByV W (fun b => b < w1.heap.size) x.p x.c x.b)) := by
          rw [hcw]
          refine ⟨o5, o6, by rw [List.length_append, HI.out.2.1, HJ.out.2.2.2.2.1], hIV.low, fun x hx => ?_⟩
          rcases List.mem_append.1 hx with hx | hx
          · exact ⟨(HI.out.2.2.2.2.1 x hx).1, hIV.at_ x hx⟩
          · simp at hx
            subst hx
            exact ⟨by show (UInt8.ofNat TN).toNat % 32 ≠ 31; rw [hTof]; exact hTN2, HJ.out.2.2.2.2.2.2.2.2.2.2.keep (fun g hg _ => (hIV.low.block g hg).trans (HJ.out.1.low.block g hg).symm)⟩
        have HX : Hid (xs.length = i) := HI.out.1
        clear o5 o6 hIV hcw hTof HJ HI HA
        go_wp2_with fail
        exact ⟨⟨i + 1, xs ++ [⟨UInt8.ofNat TN, l, q, c⟩], p5, LB + LC, c5, p6, c6, by push_cast; rfl, by omega, by omega, by rw [List.length_append, HX.out]; rfl, rfl, by omega, HF.out.2.2.1, HF.out.1, rfl, HF.out.2.1, HF.out.2.2.2.2, HF.out.2.2.2.1⟩, by simp only [intOf]; omega⟩
    · have hRb : ((R : Int) == 31) = false := by simp; omega
      --@branch A
      have hTN1 : T < 256 := hT
      have hTN2 : ¬ T % 32 = 31 := by omega
      clear hR q8
      go_wp2_with fail
      go_at_call 12
      obtain ⟨wA, hwA⟩ : ∃ wA, wr.alloc (.cells #[.int .u8 (T : Int), .slice q n c] 24) = wA := ⟨_, rfl⟩
      have sA : Tl wA wr.heap.size (.int .u8 (T : Int)) (.slice q n c) := by rw [← hwA]; exact Tl.new wr _ _
      have bA : Below wr.heap.size wr wA := by rw [← hwA]; exact (Below.refl _ _).alloc (Nat.le_refl _) _
      rw [hwA]
      have hlA : BAt wA q n l := by have := (HA.out.2.2.1.below bA).lies; rw [HA.out.2.2.2] at this; exact this
      refine (derWrite T hTN1 q n c l wA HA.out.2.2.2 hlA (by omega)).mono ?_
      rintro e wX ⟨bX, hcases⟩
      rw [HA.out.2.2.2] at hcases
      obtain ⟨LC, hLC⟩ : ∃ L, 1 + (headD n).length + n = L := ⟨_, rfl⟩
      have hhd : (headD n).length ≤ 3 := by rw [headD_len]; split <;> (try split) <;> omega
      rw [hLC] at hcases
      rcases hcases with ⟨h31, _⟩ | ⟨_, hbg, _⟩ | ⟨_, _, v7, rfl, o7⟩
      · exact absurd h31 hTN2
      · exfalso; omega
      obtain ⟨pc, cc, rfl⟩ := owns_slice o7
      obtain ⟨D, hD⟩ : ∃ D, UInt8.ofNat T :: (headD n ++ l) = D := ⟨_, rfl⟩
      rw [hD] at o7
      have hDw : D = writeD (UInt8.ofNat T) l := by rw [← hD]; unfold writeD; rw [HA.out.2.2.2]
      have hDl : D.length = LC := by rw [← hD]; simp [HA.out.2.2.2]; omega
      have hLC2 : LC ≤ 154 := by omega
      obtain ⟨G6, hG6⟩ : ∃ G, wr.heap.size = G := ⟨_, rfl⟩
      have hvD : ByV wX (fun b => wA.heap.size ≤ b) pc cc D := by
        obtain ⟨p', c', e', hv'⟩ := own_byv (l := D) (by rw [hDl]; exact o7)
        rw [hDl] at e'
        cases e'
        exact hv'
      have bwX : Below wr.heap.size wr wX := bA.trans (bX.mono bA.size)
      have hszA : wr.heap.size < wA.heap.size := sA.lt
      have HJ : Hid (JR w1 wX xs G6 (.int .u8 (T : Int)) (.slice q n c) wA.heap.size pc cc D wX ∧ wX.ownsRow w1.heap.size 5 1 (.slice pb LB cb) LB (Lib.byteCells (catW (pcsOf xs))) ∧ wX.ownsRow w1.heap.size 24 2 (.slice pv i cv) i (cellsP xs) ∧ D = writeD (UInt8.ofNat T) l ∧ D.length = LC ∧ G6 < wA.heap.size ∧ wA.heap.size ≤ wX.heap.size ∧ w1.heap.size ≤ G6 ∧ (∀ k, (Value.slice pb LB cb).ownBlock = some k → k < G6) ∧ (∀ k, (Value.slice pv i cv).ownBlock = some k → k < G6) ∧ ByV wX (fun b => b < w1.heap.size) q c l) := by
        rw [← hG6]
        exact ⟨⟨HI.out.2.2.2.2.2.trans (bwX.mono hBs), sA.below bX, hvD, fun x hx => (HI.out.2.2.2.2.1 x hx).2.keep (fun g _ hlt => bwX.block g hlt), Nat.le_refl _⟩, owns_keep HI.out.2.2.1 (fun g hg => bwX.block g (owns_lt HI.out.2.2.1 hg).2.1), owns_keep HI.out.2.2.2.1 (fun g hg => bwX.block g (owns_lt HI.out.2.2.2.1 hg).2.1), hDw, hDl, hszA, bX.size, hBs, fun k hk => (owns_lt HI.out.2.2.1 hk).2.1, fun k hk => (owns_lt HI.out.2.2.2.1 hk).2.1, HA.out.2.2.1.below bwX⟩
      rw [hG6]
      obtain ⟨wAs, hwAs⟩ : ∃ s, wA.heap.size = s := ⟨_, rfl⟩
      rw [hwAs] at HJ
      clear hwAs hwA sA bA bX hlA o7 hD hDw hvD bwX hszA hLC hhd g0 g1 g2 g3 x0 x1 hG6
      go_wp2_with fail
      refine wp_region_inv (JV w1 wX xs G6 (.int .u8 (T : Int)) (.slice q n c) wAs pc cc D (.slice pb LB cb) (.slice pv i cv) LB i) ⟨fun _ => owns_keep HJ.out.2.1 (fun _ _ => rfl), fun _ => owns_keep HJ.out.2.2.1 (fun _ _ => rfl), HJ.out.1.below (Below.refl _ _).drew⟩ 15 [[47], [48], [49], [50], [51], [52], [53], [3, 49], [4, 53]] (([.eq (Value.slice pb LB cb), .eq (Value.slice pc LC cc), .ownb w1.heap.size (LB + LC) (catW (pcsOf xs) ++ D), .eq (Value.slice pv i cv), .eq (Value.agg #[Value.int IntKind.u8 ↑T, Value.slice q n c]), .one wX.heap.size (Value.int IntKind.u8 ↑T) (Value.slice q n c), .ownp w1.heap.size (i + 1) (xs ++ [⟨UInt8.ofNat T, l, q, c⟩]), .same2, .same2] : List Fq).map Fq.sem) [0, 1, 2, 3, 4, 5, 6, 7, 8] (by kernel_rfl) (by kernel_rfl) (by kernel_rfl) ?stepA ?doneA
      case stepA =>
        intro i o ho listed a wx hI hli hne KK hK
        have hlt : i < 9 := (Array.getElem?_eq_some_iff.1 ho).1
        have hsz : Hid (a.tmps.size = 94) := hI.slots
        have hVm := fun kk => JV.mono kk hI.inv
        obtain rfl | rfl | rfl | rfl | rfl | rfl | rfl | rfl | rfl : i = 0 ∨ i = 1 ∨ i = 2 ∨ i = 3 ∨ i = 4 ∨ i = 5 ∨ i = 6 ∨ i = 7 ∨ i = 8 := by omega
        · simp only [List.getElem?_toArray, List.getElem?_cons_succ, List.getElem?_cons_zero, Option.some.injEq] at ho
          subst ho
          rw [if_pos (by rfl)]
          have eH3 : a.tmps.getD 3 undef = Value.slice pb LB cb := hI.stays hli 15 3 (by decide +kernel)
          go_simp
          exact hI.idle hVm hK _ (put_self _ _ _ (by rw [hsz.out]; decide))
        · simp only [List.getElem?_toArray, List.getElem?_cons_succ, List.getElem?_cons_zero, Option.some.injEq] at ho
          subst ho
          rw [if_pos (by rfl)]
          have eH7 : a.tmps.getD 7 undef = Value.slice pc LC cc := hI.stays hli 15 7 (by decide +kernel)
          go_simp
          exact hI.idle hVm hK _ (put_self _ _ _ (by rw [hsz.out]; decide))
        · simp only [List.getElem?_toArray, List.getElem?_cons_succ, List.getElem?_cons_zero, Option.some.injEq] at ho
          subst ho
          rw [if_pos (by rfl)]
          have eH47 : a.tmps.getD 47 undef = (Value.slice pb LB cb) := hI.deep hne 0 0 (by decide +kernel)
          have eH48 : a.tmps.getD 48 undef = (Value.slice pc LC cc) := hI.deep hne 0 1 (by decide +kernel)
          have own3 := hI.inv.1 hli
          have hJ := hI.inv.2.2
          have hs : a.eval (.tmp 47) = .slice pb LB cb := eH47
          have hx : a.eval (.tmp 48) = .slice pc LC cc := eH48
          refine wp_append_wt (.tmp 47) (.tmp 48) rfl w1.heap.size _ hs (catW (pcsOf xs)) LB HI.out.2.1 own3 pc LC cc D HJ.out.2.2.2.2.1 hx (by have := hJ.byt.lies; rw [HJ.out.2.2.2.2.1] at this; exact this) (by omega) hJ.low.size ?_
          intro v5 w5 o5 gr5 at5
          refine hK v5 w5 ⟨fun e => absurd e (by rw [lget_set _ _ _ (by rw [hI.size]; decide), if_pos rfl]; decide), fun e => own_apart own3 (hI.inv.2.1 (set_false e)) (by decide) gr5, hJ.grow own3 HJ.out.2.2.2.2.2.2.2.2.1 HJ.out.2.2.2.2.2.1 gr5⟩ ?_ ⟨v5, put_self _ _ _ (by rw [hsz.out]; decide), o5⟩
          intro jj vs hlj hj
          match jj, hlj, hj with
          | 0, _, h => exact h
          | 1, _, h => exact h
          | 2, hl2, h => rw [hli] at hl2; cases hl2
          | 3, _, h => exact h
          | 4, _, h => exact h
          | 5, _, h => obtain ⟨g, z1, z2, z3⟩ := h; exact ⟨g, z1, z2, z3.same (gr5.block g z3.lt (fun e => by have := HJ.out.2.2.2.2.2.2.2.2.1 g e.symm; have := HJ.out.2.2.2.2.2.1; have := HJ.out.2.2.2.2.2.2.1; omega))⟩
          | 6, _, h => obtain ⟨v, z1, z2⟩ := h; exact ⟨v, z1, own_apart own3 z2 (by decide) gr5⟩
          | 7, _, h => exact h
          | 8, _, h => exact h
          | jj + 9, _, h => trivial
        · simp only [List.getElem?_toArray, List.getElem?_cons_succ, List.getElem?_cons_zero, Option.some.injEq] at ho
          subst ho
          rw [if_pos (by rfl)]
          have eH4 : a.tmps.getD 4 undef = Value.slice pv i cv := hI.stays hli 15 4 (by decide +kernel)
          go_simp
          exact hI.idle hVm hK _ (put_self _ _ _ (by rw [hsz.out]; decide))
        · simp only [List.getElem?_toArray, List.getElem?_cons_succ, List.getElem?_cons_zero, Option.some.injEq] at ho
          subst ho
          rw [if_pos (by rfl)]
          have eH6 : a.tmps.getD 6 undef = Value.pointer (some { block := G6, off := 0 }) := hI.stays hli 15 6 (by decide +kernel)
          obtain ⟨cC0, cC1, _, _⟩ := hI.inv.2.2.tl.facts
          go_simp
          exact hI.idle hVm hK _ (put_self _ _ _ (by rw [hsz.out]; decide))
        · simp only [List.getElem?_toArray, List.getElem?_cons_succ, List.getElem?_cons_zero, Option.some.injEq] at ho
          subst ho
          rw [if_pos (by rfl)]
          have eH51 : a.tmps.getD 51 undef = (Value.agg #[Value.int IntKind.u8 ↑T, Value.slice q n c]) := hI.deep hne 0 4 (by decide +kernel)
          have eK51 := eH51
          rw [Array.getD_eq_getD_getElem?] at eK51
          have hJ := hI.inv.2.2
          have hbg : Below wx.heap.size wx (wx.alloc (.cells #[.int .u8 (T : Int), .slice q n c] 24)) := (Below.refl _ _).alloc (Nat.le_refl _) _
          go_simp
          exact hK _ _ ⟨fun e => owns_keep (hI.inv.1 (set_false e)) (fun g hg => hbg.block g (owns_lt (hI.inv.1 (set_false e)) hg).2.1), fun e => owns_keep (hI.inv.2.1 (set_false e)) (fun g hg => hbg.block g (owns_lt (hI.inv.2.1 (set_false e)) hg).2.1), hJ.below hbg⟩ (fun j vs _ hj => fq_keep _ j vs hbg hj) ⟨wx.heap.size, put_self _ _ _ (by rw [hsz.out]; decide), hJ.sz, Tl.new wx _ _⟩
        · simp only [List.getElem?_toArray, List.getElem?_cons_succ, List.getElem?_cons_zero, Option.some.injEq] at ho
          subst ho
          rw [if_pos (by rfl)]
          have eH50 : a.tmps.getD 50 undef = (Value.slice pv i cv) := hI.deep hne 0 3 (by decide +kernel)
          have fA5 : Fq.sem (.one wX.heap.size (Value.int IntKind.u8 ↑T) (Value.slice q n c)) [a.tmps.getD 52 undef] wx := hI.deep hne 0 5 (by decide +kernel)
          obtain ⟨zX52, eH52⟩ : ∃ x, a.tmps.getD 52 undef = x := ⟨_, rfl⟩
          simp only [eH52] at fA5
          obtain ⟨g5, h5, m5, t5⟩ := fA5
          have h5' : zX52 = .slice (some ⟨g5, 0, none⟩) 1 1 := h5
          clear h5
          subst h5'
          have own4 := hI.inv.2.1 hli
          have hJ := hI.inv.2.2
          have hs : a.eval (.tmp 50) = .slice pv i cv := eH50
          have hx : a.eval (.tmp 52) = .slice (some ⟨g5, 0, none⟩) 1 1 := eH52
          have hTof : (UInt8.ofNat T).toNat = T := by rw [UInt8.toNat_ofNat']; omega
          refine wp_append_pc (.tmp 50) (.tmp 52) rfl w1.heap.size _ hs xs i own4 ⟨g5, 0, none⟩ 1 ⟨UInt8.ofNat T, l, q, c⟩ hx (by show _ = some (Value.int .u8 ((UInt8.ofNat T).toNat : Int)); rw [hTof, Addr.add_mid]; exact t5.c0) (by show _ = some (Value.slice q l.length c); rw [HA.out.2.2.2, Addr.add_mid]; exact t5.c1) (by omega) hJ.low.size ?_
          intro v5 w5 o5 gr5
          refine hK v5 w5 ⟨fun e => own_apart own4 (hI.inv.1 (set_false e)) (by decide) gr5, fun e => absurd e (by rw [lget_set _ _ _ (by rw [hI.size]; decide), if_pos rfl]; decide), hJ.grow own4 HJ.out.2.2.2.2.2.2.2.2.2.1 HJ.out.2.2.2.2.2.1 gr5⟩ ?_ ⟨v5, put_self _ _ _ (by rw [hsz.out]; decide), o5⟩
          intro jj vs hlj hj
          match jj, hlj, hj with
          | 0, _, h => exact h
          | 1, _, h => exact h
          | 2, _, h => obtain ⟨v, z1, z2⟩ := h; exact ⟨v, z1, own_apart own4 z2 (by decide) gr5⟩
          | 3, _, h => exact h
          | 4, _, h => exact h
          | 5, _, h => obtain ⟨g, z1, z2, z3⟩ := h; exact ⟨g, z1, z2, z3.same (gr5.block g z3.lt (fun e => by have := HJ.out.2.2.2.2.2.2.2.2.2.1 g e.symm; have := HJ.out.2.2.2.2.2.1; have := HJ.out.2.2.2.2.2.2.1; omega))⟩
          | 6, hl6, h => rw [hli] at hl6; cases hl6
          | 7, _, h => exact h
          | 8, _, h => exact h
          | jj + 9, _, h => trivial
        · simp only [List.getElem?_toArray, List.getElem?_cons_succ, List.getElem?_cons_zero, Option.some.injEq] at ho
          subst ho
          rw [if_pos (by rfl)]
          have fA2 : Fq.sem (.ownb w1.heap.size (LB + LC) (catW (pcsOf xs) ++ D)) [a.tmps.getD 49 undef] wx := hI.deep hne 0 2 (by decide +kernel)
          obtain ⟨zX49, eH49⟩ : ∃ x, a.tmps.getD 49 undef = x := ⟨_, rfl⟩
          simp only [eH49] at fA2
          have eK49 := eH49
          rw [Array.getD_eq_getD_getElem?] at eK49
          go_simp
          exact hI.idle hVm hK _ ((put_self _ _ _ (by rw [hsz.out]; decide)).trans ((put_get _ _ _ _ (by decide)).trans eH49).symm)
        · simp only [List.getElem?_toArray, List.getElem?_cons_succ, List.getElem?_cons_zero, Option.some.injEq] at ho
          subst ho
          rw [if_pos (by rfl)]
          have fA6 : Fq.sem (.ownp w1.heap.size (i + 1) (xs ++ [⟨UInt8.ofNat T, l, q, c⟩])) [a.tmps.getD 53 undef] wx := hI.deep hne 0 6 (by decide +kernel)
          obtain ⟨zX53, eH53⟩ : ∃ x, a.tmps.getD 53 undef = x := ⟨_, rfl⟩
          simp only [eH53] at fA6
          have eK53 := eH53
          rw [Array.getD_eq_getD_getElem?] at eK53
          go_simp
          exact hI.idle hVm hK _ ((put_self _ _ _ (by rw [hsz.out]; decide)).trans ((put_get _ _ _ _ (by decide)).trans eH53).symm)
      case doneA =>
        intro listed a W hI hall
        obtain ⟨tm, df⟩ := a
        have hdf : df = [] := hI.defers
        subst hdf
        have hTM : tm = #[tm.getD 0 undef, tm.getD 1 undef, tm.getD 2 undef, tm.getD 3 undef, tm.getD 4 undef, tm.getD 5 undef, tm.getD 6 undef, tm.getD 7 undef, tm.getD 8 undef, tm.getD 9 undef, tm.getD 10 undef, tm.getD 11 undef, tm.getD 12 undef, tm.getD 13 undef, tm.getD 14 undef, tm.getD 15 undef, tm.getD 16 undef, tm.getD 17 undef, tm.getD 18 undef, tm.getD 19 undef, tm.getD 20 undef, tm.getD 21 undef, tm.getD 22 undef, tm.getD 23 undef, tm.getD 24 undef, tm.getD 25 undef, tm.getD 26 undef, tm.getD 27 undef, tm.getD 28 undef, tm.getD 29 undef, tm.getD 30 undef, tm.getD 31 undef, tm.getD 32 undef, tm.getD 33 undef, tm.getD 34 undef, tm.getD 35 undef, tm.getD 36 undef, tm.getD 37 undef, tm.getD 38 undef, tm.getD 39 undef, tm.getD 40 undef, tm.getD 41 undef, tm.getD 42 undef, tm.getD 43 undef, tm.getD 44 undef, tm.getD 45 undef, tm.getD 46 undef, tm.getD 47 undef, tm.getD 48 undef, tm.getD 49 undef, tm.getD 50 undef, tm.getD 51 undef, tm.getD 52 undef, tm.getD 53 undef, tm.getD 54 undef, tm.getD 55 undef, tm.getD 56 undef, tm.getD 57 undef, tm.getD 58 undef, tm.getD 59 undef, tm.getD 60 undef, tm.getD 61 undef, tm.getD 62 undef, tm.getD 63 undef, tm.getD 64 undef, tm.getD 65 undef, tm.getD 66 undef, tm.getD 67 undef, tm.getD 68 undef, tm.getD 69 undef, tm.getD 70 undef, tm.getD 71 undef, tm.getD 72 undef, tm.getD 73 undef, tm.getD 74 undef, tm.getD 75 undef, tm.getD 76 undef, tm.getD 77 undef, tm.getD 78 undef, tm.getD 79 undef, tm.getD 80 undef, tm.getD 81 undef, tm.getD 82 undef, tm.getD 83 undef, tm.getD 84 undef, tm.getD 85 undef, tm.getD 86 undef, tm.getD 87 undef, tm.getD 88 undef, tm.getD 89 undef, tm.getD 90 undef, tm.getD 91 undef, tm.getD 92 undef, tm.getD 93 undef] := arr_of tm 94 hI.slots
        have oS0 : tm.getD 0 undef = Value.slice (some { block := bq, off := oq }) len0 cap0 := hI.keptQ 0 (by decide +kernel)
        have oS1 : tm.getD 1 undef = undef := hI.keptQ 1 (by decide +kernel)
        have oS2 : tm.getD 2 undef = u2 := hI.keptQ 2 (by decide +kernel)
        have oS5 : tm.getD 5 undef = Value.int IntKind.i64 ↑i := hI.keptQ 5 (by decide +kernel)
        have oS6 : tm.getD 6 undef = Value.pointer (some { block := G6, off := 0 }) := hI.keptQ 6 (by decide +kernel)
        have oS7 : tm.getD 7 undef = Value.slice pc LC cc := hI.keptQ 7 (by decide +kernel)
        have oS8 : tm.getD 8 undef = Value.int IntKind.i64 0 := hI.keptQ 8 (by decide +kernel)
        have oS9 : tm.getD 9 undef = undef := hI.keptQ 9 (by decide +kernel)
        have oS10 : tm.getD 10 undef = undef := hI.keptQ 10 (by decide +kernel)
        have oS11 : tm.getD 11 undef = undef := hI.keptQ 11 (by decide +kernel)
        have oS12 : tm.getD 12 undef = undef := hI.keptQ 12 (by decide +kernel)
        have oS13 : tm.getD 13 undef = undef := hI.keptQ 13 (by decide +kernel)
        have oS14 : tm.getD 14 undef = undef := hI.keptQ 14 (by decide +kernel)
        have oS15 : tm.getD 15 undef = Value.bool true := hI.keptQ 15 (by decide +kernel)
        have oS16 : tm.getD 16 undef = Value.bool false := hI.keptQ 16 (by decide +kernel)
        have oS17 : tm.getD 17 undef = Value.slice (some { block := bq, off := oq }) len0 cap0 := hI.keptQ 17 (by decide +kernel)
        have oS18 : tm.getD 18 undef = Value.int IntKind.i64 ↑len0 := hI.keptQ 18 (by decide +kernel)
        have oS19 : tm.getD 19 undef = Value.int IntKind.i64 ↑i := hI.keptQ 19 (by decide +kernel)
        have oS20 : tm.getD 20 undef = Value.bool true := hI.keptQ 20 (by decide +kernel)
        have oS21 : tm.getD 21 undef = Value.int IntKind.i64 ↑i := hI.keptQ 21 (by decide +kernel)
        have oS22 : tm.getD 22 undef = Value.pointer (some { block := bq, off := oq + i * 2 }) := hI.keptQ 22 (by decide +kernel)
        have oS23 : tm.getD 23 undef = Value.agg #[Value.int IntKind.u8 ↑T, Value.slice q n c] := hI.keptQ 23 (by decide +kernel)
        have oS24 : tm.getD 24 undef = Value.int IntKind.i64 ↑i := hI.keptQ 24 (by decide +kernel)
        have oS25 : tm.getD 25 undef = Value.bool false := hI.keptQ 25 (by decide +kernel)
        have oS26 : tm.getD 26 undef = Value.bool false := hI.keptQ 26 (by decide +kernel)
        have oS27 : tm.getD 27 undef = Value.pointer (some { block := G6, off := 1 }) := hI.keptQ 27 (by decide +kernel)
        have oS28 : tm.getD 28 undef = Value.slice q n c := hI.keptQ 28 (by decide +kernel)
        have oS29 : tm.getD 29 undef = Value.int IntKind.i64 ↑n := hI.keptQ 29 (by decide +kernel)
        have oS30 : tm.getD 30 undef = Value.bool false := hI.keptQ 30 (by decide +kernel)
        have oS31 : tm.getD 31 undef = Value.bool false := hI.keptQ 31 (by decide +kernel)
        have oS32 : tm.getD 32 undef = Value.pointer (some { block := G6, off := 0 }) := hI.keptQ 32 (by decide +kernel)
        have oS33 : tm.getD 33 undef = Value.int IntKind.u8 ↑T := hI.keptQ 33 (by decide +kernel)
        have oS34 : tm.getD 34 undef = Value.int IntKind.u8 ↑R := hI.keptQ 34 (by decide +kernel)
        have oS35 : tm.getD 35 undef = Value.bool false := hI.keptQ 35 (by decide +kernel)
        have oS36 : tm.getD 36 undef = u36 := hI.keptQ 36 (by decide +kernel)
        have oS37 : tm.getD 37 undef = u37 := hI.keptQ 37 (by decide +kernel)
        have oS38 : tm.getD 38 undef = u38 := hI.keptQ 38 (by decide +kernel)
        have oS39 : tm.getD 39 undef = u39 := hI.keptQ 39 (by decide +kernel)
        have oS40 : tm.getD 40 undef = Value.tuple #[Value.slice pc LC cc, Value.int IntKind.i64 0] := hI.keptQ 40 (by decide +kernel)
        have oS41 : tm.getD 41 undef = Value.agg #[Value.int IntKind.u8 ↑T, Value.slice q n c] := hI.keptQ 41 (by decide +kernel)
        have oS42 : tm.getD 42 undef = Value.tuple #[Value.slice pc LC cc, Value.int IntKind.i64 0] := hI.keptQ 42 (by decide +kernel)
        have oS43 : tm.getD 43 undef = Value.slice pc LC cc := hI.keptQ 43 (by decide +kernel)
        have oS44 : tm.getD 44 undef = Value.int IntKind.i64 0 := hI.keptQ 44 (by decide +kernel)
        have oS45 : tm.getD 45 undef = Value.int IntKind.i64 0 := hI.keptQ 45 (by decide +kernel)
        have oS46 : tm.getD 46 undef = Value.bool false := hI.keptQ 46 (by decide +kernel)
        have oS54 : tm.getD 54 undef = u54 := hI.keptQ 54 (by decide +kernel)
        have oS55 : tm.getD 55 undef = undef := hI.keptQ 55 (by decide +kernel)
        have oS56 : tm.getD 56 undef = undef := hI.keptQ 56 (by decide +kernel)
        have oS57 : tm.getD 57 undef = undef := hI.keptQ 57 (by decide +kernel)
        have oS58 : tm.getD 58 undef = undef := hI.keptQ 58 (by decide +kernel)
        have oS59 : tm.getD 59 undef = undef := hI.keptQ 59 (by decide +kernel)
        have oS60 : tm.getD 60 undef = undef := hI.keptQ 60 (by decide +kernel)
        have oS61 : tm.getD 61 undef = undef := hI.keptQ 61 (by decide +kernel)
        have oS62 : tm.getD 62 undef = undef := hI.keptQ 62 (by decide +kernel)
        have oS63 : tm.getD 63 undef = undef := hI.keptQ 63 (by decide +kernel)
        have oS64 : tm.getD 64 undef = undef := hI.keptQ 64 (by decide +kernel)
        have oS65 : tm.getD 65 undef = undef := hI.keptQ 65 (by decide +kernel)
        have oS66 : tm.getD 66 undef = undef := hI.keptQ 66 (by decide +kernel)
        have oS67 : tm.getD 67 undef = undef := hI.keptQ 67 (by decide +kernel)
        have oS68 : tm.getD 68 undef = undef := hI.keptQ 68 (by decide +kernel)
        have oS69 : tm.getD 69 undef = undef := hI.keptQ 69 (by decide +kernel)
        have oS70 : tm.getD 70 undef = undef := hI.keptQ 70 (by decide +kernel)
        have oS71 : tm.getD 71 undef = undef := hI.keptQ 71 (by decide +kernel)
        have oS72 : tm.getD 72 undef = undef := hI.keptQ 72 (by decide +kernel)
        have oS73 : tm.getD 73 undef = undef := hI.keptQ 73 (by decide +kernel)
        have oS74 : tm.getD 74 undef = undef := hI.keptQ 74 (by decide +kernel)
        have oS75 : tm.getD 75 undef = undef := hI.keptQ 75 (by decide +kernel)
        have oS76 : tm.getD 76 undef = undef := hI.keptQ 76 (by decide +kernel)
        have oS77 : tm.getD 77 undef = undef := hI.keptQ 77 (by decide +kernel)
        have oS78 : tm.getD 78 undef = undef := hI.keptQ 78 (by decide +kernel)
        have oS79 : tm.getD 79 undef = undef := hI.keptQ 79 (by decide +kernel)
        have oS80 : tm.getD 80 undef = undef := hI.keptQ 80 (by decide +kernel)
        have oS81 : tm.getD 81 undef = undef := hI.keptQ 81 (by decide +kernel)
        have oS82 : tm.getD 82 undef = undef := hI.keptQ 82 (by decide +kernel)
        have oS83 : tm.getD 83 undef = undef := hI.keptQ 83 (by decide +kernel)
        have oS84 : tm.getD 84 undef = undef := hI.keptQ 84 (by decide +kernel)
        have oS85 : tm.getD 85 undef = undef := hI.keptQ 85 (by decide +kernel)
        have oS86 : tm.getD 86 undef = undef := hI.keptQ 86 (by decide +kernel)
        have oS87 : tm.getD 87 undef = undef := hI.keptQ 87 (by decide +kernel)
        have oS88 : tm.getD 88 undef = undef := hI.keptQ 88 (by decide +kernel)
        have oS89 : tm.getD 89 undef = undef := hI.keptQ 89 (by decide +kernel)
        have oS90 : tm.getD 90 undef = undef := hI.keptQ 90 (by decide +kernel)
        have oS91 : tm.getD 91 undef = undef := hI.keptQ 91 (by decide +kernel)
        have oS92 : tm.getD 92 undef = undef := hI.keptQ 92 (by decide +kernel)
        have oS93 : tm.getD 93 undef = undef := hI.keptQ 93 (by decide +kernel)
        have fA2 : Fq.sem (.ownb w1.heap.size (LB + LC) (catW (pcsOf xs) ++ D)) [tm.getD 49 undef] W := hI.facts 2 (hall 2 (by decide))
        have fA6 : Fq.sem (.ownp w1.heap.size (i + 1) (xs ++ [⟨UInt8.ofNat T, l, q, c⟩])) [tm.getD 53 undef] W := hI.facts 6 (hall 6 (by decide))
        have fA7 : Fq.sem (.same2) [tm.getD 3 undef, tm.getD 49 undef] W := hI.facts 7 (hall 7 (by decide))
        have fA8 : Fq.sem (.same2) [tm.getD 4 undef, tm.getD 53 undef] W := hI.facts 8 (hall 8 (by decide))
        have fA0 : tm.getD 47 undef = (Value.slice pb LB cb) := hI.facts 0 (hall 0 (by decide))
        have fA1 : tm.getD 48 undef = (Value.slice pc LC cc) := hI.facts 1 (hall 1 (by decide))
        have fA3 : tm.getD 50 undef = (Value.slice pv i cv) := hI.facts 3 (hall 3 (by decide))
        have fA4 : tm.getD 51 undef = (Value.agg #[Value.int IntKind.u8 ↑T, Value.slice q n c]) := hI.facts 4 (hall 4 (by decide))
        have hIV := hI.inv.2.2
        clear hI hall listed
        simp only [oS0, oS1, oS2, oS5, oS6, oS7, oS8, oS9, oS10, oS11, oS12, oS13, oS14, oS15, oS16, oS17, oS18, oS19, oS20, oS21, oS22, oS23, oS24, oS25, oS26, oS27, oS28, oS29, oS30, oS31, oS32, oS33, oS34, oS35, oS36, oS37, oS38, oS39, oS40, oS41, oS42, oS43, oS44, oS45, oS46, oS54, oS55, oS56, oS57, oS58, oS59, oS60, oS61, oS62, oS63, oS64, oS65, oS66, oS67, oS68, oS69, oS70, oS71, oS72, oS73, oS74, oS75, oS76, oS77, oS78, oS79, oS80, oS81, oS82, oS83, oS84, oS85, oS86, oS87, oS88, oS89, oS90, oS91, oS92, oS93, fA0, fA1, fA3, fA4] at hTM
        clear oS0 oS1 oS2 oS5 oS6 oS7 oS8 oS9 oS10 oS11 oS12 oS13 oS14 oS15 oS16 oS17 oS18 oS19 oS20 oS21 oS22 oS23 oS24 oS25 oS26 oS27 oS28 oS29 oS30 oS31 oS32 oS33 oS34 oS35 oS36 oS37 oS38 oS39 oS40 oS41 oS42 oS43 oS44 oS45 oS46 oS54 oS55 oS56 oS57 oS58 oS59 oS60 oS61 oS62 oS63 oS64 oS65 oS66 oS67 oS68 oS69 oS70 oS71 oS72 oS73 oS74 oS75 oS76 oS77 oS78 oS79 oS80 oS81 oS82 oS83 oS84 oS85 oS86 oS87 oS88 oS89 oS90 oS91 oS92 oS93 fA0 fA1 fA3 fA4
        generalize tm.getD 3 undef = zX3 at hTM fA7
        generalize tm.getD 4 undef = zX4 at hTM fA8
        generalize tm.getD 49 undef = zX49 at hTM fA2 fA7
        generalize tm.getD 52 undef = zX52 at hTM 
        generalize tm.getD 53 undef = zX53 at hTM fA6 fA8
        subst hTM
        obtain ⟨v5, h5, o5⟩ := fA2
        have h5' : zX49 = v5 := h5
        clear h5
        subst h5'
        obtain ⟨v6, h6, o6⟩ := fA6
        have h6' : zX53 = v6 := h6
        clear h6
        subst h6'
        have e7 : zX3 = zX49 := fA7
        have e8 : zX4 = zX53 := fA8
        clear fA7 fA8
        subst e7 e8
        obtain ⟨p5, c5, rfl⟩ := owns_slice o5
        obtain ⟨p6, c6, rfl⟩ := owns_slice o6
        have hTof : (UInt8.ofNat T).toNat = T := by rw [UInt8.toNat_ofNat']; omega
        have hcw : catW (pcsOf (xs ++ [⟨UInt8.ofNat T, l, q, c⟩])) = catW (pcsOf xs) ++ D := by
          rw [show pcsOf (xs ++ [⟨UInt8.ofNat T, l, q, c⟩]) = pcsOf xs ++ [(UInt8.ofNat T, l)] by simp [pcsOf], catW_app, HJ.out.2.2.2.1]
          simp [catW]
        have HF : Hid (W.ownsRow w1.heap.size 5 1 (.slice p5 (LB + LC) c5) (LB + LC) (Lib.byteCells (catW (pcsOf (xs ++ [⟨UInt8.ofNat T, l, q, c⟩])))) ∧ W.ownsRow w1.heap.size 24 2 (.slice p6 (i + 1) c6) (i + 1) (cellsP (xs ++ [⟨UInt8.ofNat T, l, q, c⟩])) ∧ (catW (pcsOf (xs ++ [⟨UInt8.ofNat T, l, q, c⟩]))).length = LB + LC ∧ Below w1.heap.size w1 W ∧ (∀ x ∈ xs ++ [⟨UInt8.ofNat T, l, q, c⟩], x.t.toNat % 32 ≠ 31 ∧ ByV W (fun b => b < w1.heap.size) x.p x.c x.b)) := by
          rw [hcw]
          refine ⟨o5, o6, by rw [List.length_append, HI.out.2.1, HJ.out.2.2.2.2.1], hIV.low, fun x hx => ?_⟩
          rcases List.mem_append.1 hx with hx | hx
          · exact ⟨(HI.out.2.2.2.2.1 x hx).1, hIV.at_ x hx⟩
          · simp at hx
            subst hx
            exact ⟨by show (UInt8.ofNat T).toNat % 32 ≠ 31; rw [hTof]; exact hTN2, HJ.out.2.2.2.2.2.2.2.2.2.2.keep (fun g hg _ => (hIV.low.block g hg).trans (HJ.out.1.low.block g hg).symm)⟩
        have HX : Hid (xs.length = i) := HI.out.1
        clear o5 o6 hIV hcw hTof HJ HI HA
        go_wp2_with fail
        exact ⟨⟨i + 1, xs ++ [⟨UInt8.ofNat T, l, q, c⟩], p5, LB + LC, c5, p6, c6, by push_cast; rfl, by omega, by omega, by rw [List.length_append, HX.out]; rfl, rfl, by omega, HF.out.2.2.1, HF.out.1, rfl, HF.out.2.1, HF.out.2.2.2.2, HF.out.2.2.2.1⟩, by simp only [intOf]; omega⟩
end Go.Proofs.YtiblpcfkecalcabDoor
