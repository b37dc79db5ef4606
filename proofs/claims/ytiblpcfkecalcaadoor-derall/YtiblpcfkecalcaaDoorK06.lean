import Derived.Test.YtiblpcfkecalcaaDoorK05
import Derived.Test.YtiblpcfkecalcaaDoorK04
/-
  Pieces one behind the other in memory; the document's List.
-/
namespace Go.Proofs.YtiblpcfkecalcaaDoor
open Go.Shelf Go.RowKit
set_option linter.unusedVariables false
set_option linter.unusedSimpArgs false

/-- A piece, and where its body lies. -/
structure Pc where
  t : UInt8
  b : Bs
  p : Option Addr
  c : Nat
def Pc.cells (x : Pc) : List Value := [.int .u8 (x.t.toNat : Int), .slice x.p x.b.length x.c]
def cellsP (l : List Pc) : List Value := l.flatMap Pc.cells
/-- The pieces themselves. -/
def pcsOf (l : List Pc) : List (UInt8 × Bs) := l.map fun x => (x.t, x.b)
theorem cellsP_len : ∀ (l : List Pc), (cellsP l).length = l.length * 2
  | [] => rfl
  | x :: l => by
    have := cellsP_len l
    simp only [cellsP, List.flatMap_cons, List.length_append] at this ⊢
    rw [this]
    simp [Pc.cells]
    omega
theorem cellsP_app (a b : List Pc) : cellsP a ++ cellsP b = cellsP (a ++ b) := by simp [cellsP]
theorem infoTlv : ∃ z, (Tryd.prog.info? 25).map (fun i => (i.zero, i.size, i.bytes)) = some (some z, 2, 32) ∧ z.cells.size = 2 := ⟨.agg #[.int .u8 0, .slice none 0 0], by kernel_rfl, rfl⟩
/-- Pieces in a list of the call's own. -/
structure Pcs (w : World) (B : Nat) (P : Nat → Prop) (v : Value) (l : List Pc) : Prop where
  own : w.ownsRow B 25 2 v l.length (cellsP l)
  at_ : ∀ x ∈ l, ByV w P x.p x.c x.b
/-- A piece appended. -/
theorem wpList_append_pc {w : World} {ops : Array Oper} {rest : List Oper} {o : Oper} {a : Act} {Q : Exit → Act → World → Prop} (hgd : o.guard = none) (s x : Operand)
    (ho : o.op = .call { callee := .builtin .append, args := #[s, x], argTypes := #[31, 31] }) (base : Nat) (v : Value) (hs : a.eval s = v) (old : List Pc) (m : Nat) (hown : w.ownsRow base 25 2 v m (cellsP old)) (ad : Addr) (c : Nat) (y : Pc) (hx : a.eval x = .slice (some ad) 1 c) (h0 : w.cell? (ad.add 0) = some (.int .u8 (y.t.toNat : Int))) (h1 : w.cell? (ad.add 1) = some (.slice y.p y.b.length y.c)) (hlen : m + 1 ≤ 1000000) (hbase : base ≤ w.heap.size)
    (h : ∀ v' w', w'.ownsRow base 25 2 v' (m + 1) (cellsP (old ++ [y])) → w.grownBy w' v.ownBlock → wpList Tryd.prog ops Q rest (a.put o.dst v') w') : wpList Tryd.prog ops Q (o :: rest) a w := by
  obtain ⟨z, hz, hzs⟩ := infoTlv
  obtain ⟨i0, hi0, hz0, hz1, hz2⟩ := info_parts hz
  refine wpList_append_own (w := w) hgd s x _ ho base 25 i0 z 2 32 Tryd.underlying31 hi0 hz0 hz1 hz2 hzs (by decide) v m (cellsP old) hs hown ad 1 c (cellsP [y]) hx rfl ?_ (by intro u hu; simp [cellsP, Pc.cells] at hu; rcases hu with rfl | rfl <;> rfl) (by unfold maxLen; omega) (by omega) hbase ?_
  · intro j u hj
    match j with
    | 0 => simp [cellsP, Pc.cells] at hj; subst hj; exact h0
    | 1 => simp [cellsP, Pc.cells] at hj; subst hj; exact h1
    | j + 2 => simp [cellsP, Pc.cells] at hj
  · intro v' w' hown' hgr _
    rw [cellsP_app] at hown'
    exact h v' w' hown' hgr
theorem allD_more : ∀ (m k : Nat) (bs : Bs), bs.length ≤ m → bs.length ≤ k → allD m bs = allD k bs
  | 0, k, bs, hm, hk => by
    have : bs = [] := List.eq_nil_of_length_eq_zero (by omega)
    subst this
    cases k with
    | zero => rfl
    | succ k => rfl
  | m + 1, 0, bs, hm, hk => by
    have : bs = [] := List.eq_nil_of_length_eq_zero (by omega)
    subst this
    rfl
  | m + 1, k + 1, bs, hm, hk => by
    simp only [allD]
    by_cases h : bs = []
    · rw [if_pos h, if_pos h]
    rw [if_neg h, if_neg h]
    cases hr : readD bs with
    | error e => rfl
    | ok q =>
      obtain ⟨⟨t, b⟩, r⟩ := q
      have := (read_len hr).1
      simp only []
      rw [allD_more m k r (by omega) (by omega)]
/-- All pieces of bytes, and the first fault. -/
def pcsD (bs : Bs) : List (UInt8 × Bs) × Nat := allD bs.length bs
theorem pcsD_nil : pcsD [] = ([], 0) := rfl
theorem pcsD_err {bs : Bs} {k : Nat} (h0 : bs ≠ []) (h : readD bs = .error k) : pcsD bs = ([], k) := by
  obtain ⟨m, hm⟩ : ∃ m, bs.length = m + 1 := ⟨bs.length - 1, by have : bs.length ≠ 0 := fun e => h0 (List.eq_nil_of_length_eq_zero e); omega⟩
  unfold pcsD
  rw [hm]
  simp only [allD]
  rw [if_neg h0, h]
theorem pcsD_ok {bs : Bs} {t : UInt8} {b r : Bs} (h : readD bs = .ok ((t, b), r)) : pcsD bs = ((t, b) :: (pcsD r).1, (pcsD r).2) := by
  have hl := (read_len h).1
  obtain ⟨m, hm⟩ : ∃ m, bs.length = m + 1 := ⟨bs.length - 1, by omega⟩
  have h0 : bs ≠ [] := by intro e; rw [e] at hm; cases hm
  unfold pcsD
  rw [hm]
  simp only [allD]
  rw [if_neg h0, h]
  simp only []
  rw [allD_more m r.length r (by omega) (Nat.le_refl _)]
/-- A slice's length. -/
def lenOfS : Value → Nat
  | .slice _ n _ => n
  | _ => 0
/-- What List answers. -/
def LsPost (w : World) (P : World → Nat → Prop) (R : List (UInt8 × Bs) × Nat) (e : Ending) (w' : World) : Prop :=
  Below w.heap.size w w' ∧ ((R.2 ≠ 0 ∧ e = .returned (.tuple #[.slice none 0 0, .int .i64 (R.2 : Int)])) ∨ (R.2 = 0 ∧ ∃ l v, pcsOf l = R.1 ∧ e = .returned (.tuple #[v, .int .i64 0]) ∧ Pcs w' w.heap.size (P w) v l))
set_option maxRecDepth 100000 in
set_option maxHeartbeats 4000000 in
/-- The document's List. -/
theorem rList_any (p : Option Addr) (n c : Nat) (bs : Bs) (P : Nat → Prop) (w : World) (hn : bs.length = n) (hn2 : n ≤ 100000) (h : ByV w P p c bs) :
    Calls Tryd.prog 13 #[.slice p n c] w (LsPost w (fun _ => P) (pcsD bs)) := by
  have HV : Hid (ByV w (fun b => P b ∧ b < w.heap.size) p c bs ∧ bs.length = n) := ⟨h.mono (fun g hg hlt => ⟨hg, hlt⟩), hn⟩
  clear h hn
  go_enter Tryd.func13, Tryd.ntmps13
  go_wp2_with fail
  go_loopw [0, 4] (fun v0 v4 wr => ∃ (xs : List Pc) (ys : Bs) (L : Nat) (q : Option Addr) (d : Nat) (pv : Option Addr) (cv K : Nat), v0 = .slice q L d ∧ ys.length = L ∧ ByV wr (fun b => P b ∧ b < w.heap.size) q d ys ∧ v4 = .slice pv K cv ∧ xs.length = K ∧ K + L ≤ n ∧ wr.ownsRow w.heap.size 25 2 (.slice pv K cv) K (cellsP xs) ∧ (∀ x ∈ xs, ByV wr (fun b => P b ∧ b < w.heap.size) x.p x.c x.b) ∧ Below w.heap.size w wr ∧ pcsD bs = (pcsOf xs ++ (pcsD ys).1, (pcsD ys).2)) (fun v0 _ _ => lenOfS v0)
  case atStart => exact ⟨[], bs, n, p, c, none, 0, 0, rfl, HV.out.2, HV.out.1, rfl, rfl, by omega, World.ownsRow_nil _ _ _ _, (fun x hx => by cases hx), Below.refl _ _, rfl⟩
  case round =>
    obtain ⟨xs, ys, L, q, d, pv, cv, K, rfl, hL, hv, rfl, hK, hKL, hown, hat, hb, hall⟩ := hrel
    have hBs := hb.size
    have HI : Hid (ys.length = L ∧ xs.length = K ∧ Below w.heap.size w wr ∧ pcsD bs = (pcsOf xs ++ (pcsD ys).1, (pcsD ys).2) ∧ wr.ownsRow w.heap.size 25 2 (.slice pv K cv) K (cellsP xs) ∧ (∀ x ∈ xs, ByV wr (fun b => P b ∧ b < w.heap.size) x.p x.c x.b)) := ⟨hL, hK, hb, hall, hown, hat⟩
    by_cases q5 : L = 0
    · have q5I : ¬ (0 : Int) < (L : Int) := by omega
      have hys : ys = [] := List.eq_nil_of_length_eq_zero (by omega)
      have HR : Hid (pcsD bs = (pcsOf xs, 0)) := by show pcsD bs = _; rw [hall, hys, pcsD_nil]; simp
      clear hall hys hL hown hv hK hb hat
      go_wp2_with fail
      go_ret2
      refine ⟨HI.out.2.2.1, .inr ⟨by rw [HR.out], xs, _, by rw [HR.out], rfl, ⟨by rw [HI.out.2.1]; exact HI.out.2.2.2.2.1, fun x hx => (HI.out.2.2.2.2.2 x hx).mono (fun g hg _ => hg.1)⟩⟩⟩
    have q5I : (0 : Int) < (L : Int) := by omega
    have HRD := rRead10 q L d ys (fun b => P b ∧ b < w.heap.size) wr hL hv
    have hy0 : ys ≠ [] := by intro e; rw [e] at hL; exact q5 hL.symm
    clear hown hv hK hb hat
    cases hr : readD ys with
    | error k =>
      rw [hr] at HRD
      have hk := read_err hr
      have hkb : ((k : Int) != 0) = true := by simp; omega
      have HR : Hid ((pcsD bs).2 = k ∧ k ≠ 0) := ⟨by rw [hall, pcsD_err hy0 hr], by omega⟩
      clear hall hL hk hr
      go_wp2_with (go_at_call 11; refine HRD.mono ?_; intro e w2 hp; obtain ⟨hb2, he⟩ := hp.errx; subst he; have HB2 : Hid (Below wr.heap.size wr w2) := hb2; clear hp hb2)
      go_ret2
      have hB2 := HI.out.2.2.1.trans (HB2.out.mono hBs)
      exact ⟨hB2.alloc hB2.size _, .inl ⟨by rw [HR.out.1]; exact HR.out.2, by rw [HR.out.1]; rfl⟩⟩
    | ok x =>
      obtain ⟨⟨t, b⟩, r⟩ := x
      rw [hr] at HRD
      have hlens := read_len hr
      obtain ⟨TN, hTN⟩ : ∃ T, t.toNat = T := ⟨_, rfl⟩
      obtain ⟨LB, hLB⟩ : ∃ T, b.length = T := ⟨_, rfl⟩
      obtain ⟨Lr, hLr⟩ : ∃ T, r.length = T := ⟨_, rfl⟩
      have hLr2 : Lr + 2 ≤ L := by rw [← hLr, ← hL]; exact hlens.1
      have HR : Hid (t.toNat = TN ∧ b.length = LB ∧ r.length = Lr ∧ pcsD bs = (pcsOf xs ++ (t, b) :: (pcsD r).1, (pcsD r).2)) := ⟨hTN, hLB, hLr, by rw [hall, pcsD_ok hr]⟩
      clear hall hL hr hlens hy0
      go_wp2_with (first
        | (go_at_call 11; refine HRD.mono ?_; intro e w2 hp; obtain ⟨hb2, p1, c1, p2, c2, he, hv1, hv2⟩ := hp.okx; subst he; rw [hTN, hLB, hLr]; have HB2 : Hid (Below wr.heap.size wr w2 ∧ ByV w2 (fun b => P b ∧ b < w.heap.size) p1 c1 b ∧ ByV w2 (fun b => P b ∧ b < w.heap.size) p2 c2 r) := ⟨hb2, hv1, hv2⟩; clear hp hb2 hv1 hv2)
        | (at_builtin; refine wpList_append_pc rfl (.tmp 20) (.tmp 22) rfl w.heap.size (.slice pv K cv) rfl xs K (((owns_keep HI.out.2.2.2.2.1 (fun g hg => HB2.out.1.block g (owns_lt HI.out.2.2.2.2.1 hg).2.1)).alloc _).alloc _) ⟨w2.heap.size + 1, 0, none⟩ 1 ⟨t, b, p1, c1⟩ rfl (by show _ = some (Value.int .u8 (t.toNat : Int)); rw [HR.out.1, Addr.add_mid]; have hh := (Tl.new (w2.alloc (.cells #[.int .u8 (TN : Int), .slice p1 LB c1] 25)) (.int .u8 (TN : Int)) (.slice p1 LB c1)).c0; rw [alloc_sz] at hh; exact hh) (by show _ = some (Value.slice p1 b.length c1); rw [HR.out.2.1, Addr.add_mid]; have hh := (Tl.new (w2.alloc (.cells #[.int .u8 (TN : Int), .slice p1 LB c1] 25)) (.int .u8 (TN : Int)) (.slice p1 LB c1)).c1; rw [alloc_sz] at hh; exact hh) (by omega) (Nat.le_trans hBs (Nat.le_trans HB2.out.1.size (Nat.le_trans (alloc_le _ _) (alloc_le _ _)))) ?_; intro v3 w3 o3 gr3))
      obtain ⟨p3, c3, rfl⟩ := owns_slice o3
      have hB2 : Below w.heap.size w w2 := HI.out.2.2.1.trans (HB2.out.1.mono hBs)
      have hB3 := below_grownT ((hB2.alloc hB2.size _).alloc (Nat.le_trans hB2.size (alloc_le _ _)) _) (Nat.le_refl _) (((owns_keep HI.out.2.2.2.2.1 (fun g hg => HB2.out.1.block g (owns_lt HI.out.2.2.2.2.1 hg).2.1)).alloc _).alloc _) gr3
      refine ⟨⟨xs ++ [⟨t, b, p1, c1⟩], r, Lr, p2, c2, p3, c3, K + 1, rfl, HR.out.2.2.1, ?_, rfl, by simp [HI.out.2.1], by omega, o3, ?_, hB3, ?_⟩, by simp only [lenOfS]; omega⟩
      · exact HB2.out.2.2.keep (fun g hg hlt => (hB3.block g hg.2).trans (hB2.block g hg.2).symm)
      · intro x hx
        rcases List.mem_append.1 hx with hx | hx
        · exact (HI.out.2.2.2.2.2 x hx).keep (fun g hg hlt => (hB3.block g hg.2).trans (HI.out.2.2.1.block g hg.2).symm)
        · simp at hx
          subst hx
          exact HB2.out.2.1.keep (fun g hg hlt => (hB3.block g hg.2).trans (hB2.block g hg.2).symm)
      · rw [HR.out.2.2.2]
        simp [pcsOf]
end Go.Proofs.YtiblpcfkecalcaaDoor
