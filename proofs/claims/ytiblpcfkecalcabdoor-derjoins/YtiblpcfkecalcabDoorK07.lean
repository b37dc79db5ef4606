import Derived.Test.YtiblpcfkecalcabDoorK06
/-
  The code's pieces gone over.
-/
namespace Go.Proofs.YtiblpcfkecalcabDoor
open Go.Shelf Go.RowKit
set_option linter.unusedVariables false
set_option linter.unusedSimpArgs false
attribute [local go_sem] Oper.semAt_some

/-- What is yielded: a piece, or an error. -/
structure Ye where
  pc : Pc
  k : Nat
abbrev encY (y : Ye) : Array Value := #[.agg #[.int .u8 (y.pc.t.toNat : Int), .slice y.pc.p y.pc.b.length y.pc.c], .int .i64 (y.k : Int)]
/-- What is to be yielded. -/
def seqD (bs : Bs) : List ((UInt8 × Bs) × Nat) := (pcsD bs).1.map (fun x => (x, 0)) ++ (if (pcsD bs).2 = 0 then [] else [((0, []), (pcsD bs).2)])
def yOf (l : List Ye) : List ((UInt8 × Bs) × Nat) := l.map fun y => ((y.pc.t, y.pc.b), y.k)
theorem yOf_app (a b : List Ye) : yOf (a ++ b) = yOf a ++ yOf b := by simp [yOf]
theorem seqD_nil : seqD [] = [] := rfl
theorem seqD_err {bs : Bs} {k : Nat} (h0 : bs ≠ []) (h : readD bs = .error k) : seqD bs = [((0, []), k)] := by
  unfold seqD
  rw [pcsD_err h0 h]
  have := read_err h
  simp
  omega
theorem seqD_ok {bs : Bs} {t : UInt8} {b r : Bs} (h : readD bs = .ok ((t, b), r)) : seqD bs = ((t, b), 0) :: seqD r := by
  unfold seqD
  rw [pcsD_ok h]
  rfl
theorem seqD_len : ∀ (bs : Bs), (seqD bs).length ≤ bs.length := by
  intro bs
  induction hn : bs.length using Nat.strongRecOn generalizing bs with
  | _ n ih =>
    by_cases h0 : bs = []
    · subst h0; simp [seqD_nil]
    cases hr : readD bs with
    | error k =>
      rw [seqD_err h0 hr]
      have : bs.length ≠ 0 := fun e => h0 (List.eq_nil_of_length_eq_zero e)
      simp
      omega
    | ok q =>
      obtain ⟨⟨t, b⟩, r⟩ := q
      have hl := read_len hr
      rw [seqD_ok hr]
      have := ih r.length (by omega) r rfl
      simp
      omega
theorem seqD_pos {bs : Bs} (h0 : bs ≠ []) : 0 < (seqD bs).length := by
  cases hr : readD bs with
  | error k => rw [seqD_err h0 hr]; simp
  | ok q =>
    obtain ⟨⟨t, b⟩, r⟩ := q
    rw [seqD_ok hr]
    simp
/-- Where a yielded piece lies: in memory from M on. -/
def Yn (M : Nat) (y : Ye) (W : World) : Prop := ByV W (fun b => M ≤ b) y.pc.p y.pc.c y.pc.b

set_option maxRecDepth 100000 in
set_option maxHeartbeats 4000000 in
theorem all_iter (n : Nat) (hn : 1 ≤ n) (go : Nat) (p : Option Addr) (L c : Nat) (bs : Bs) (B : Nat → Prop) (l : Nat) (J Jx : List Ye → World → Prop) (W : World)
    (hcell : W.cell? ⟨go, 0, none⟩ = some (.slice p L c)) (hL : bs.length = L) (hv : ByV W (B) p c bs) (hL2 : L ≤ 100000)
    (hk : ∀ pre W', J pre W' → ∀ k, B k → W'.heap[k]? = W.heap[k]?) (hBW : ∀ k, B k → k < W.heap.size)
    (hJb : ∀ pre W W', J pre W → Below W.heap.size W W' → J pre W')
    (hY : ∀ pre x W0 W1, J pre W0 → (pre.length < L ∧ yOf (pre ++ [x]) <+: seqD bs) → Below W0.heap.size W0 W1 → Yn W0.heap.size x W1 → YieldAt Fence.wide (n - 1) Tryd.prog l (encY x) W1 fun e W' => (e = .returned (.bool true) ∧ J (pre ++ [x]) W') ∨ (e = .returned (.bool false) ∧ Jx (pre ++ [x]) W'))
    (h0 : J [] W) :
    CallsIn Fence.wide n Tryd.prog 40 (#[.func (.yield l) #[] #[]] ++ #[.pointer (some ⟨go, 0, none⟩)]) W fun e W' => (∃ v, e = .returned v) ∧ ((∃ xs, yOf xs = seqD bs ∧ J xs W') ∨ (∃ pre, yOf pre <+: seqD bs ∧ Jx pre W')) := by
  have H : Hid ((∀ pre W', J pre W' → ∀ k, B k → W'.heap[k]? = W.heap[k]?) ∧ (∀ pre W W', J pre W → Below W.heap.size W W' → J pre W') ∧ bs.length = L ∧ ByV W (B) p c bs) := ⟨hk, hJb, hL, hv⟩
  have HY : Hid (∀ pre x W0 W1, J pre W0 → (pre.length < L ∧ yOf (pre ++ [x]) <+: seqD bs) → Below W0.heap.size W0 W1 → Yn W0.heap.size x W1 → YieldAt Fence.wide (n - 1) Tryd.prog l (encY x) W1 fun e W' => (e = .returned (.bool true) ∧ J (pre ++ [x]) W') ∨ (e = .returned (.bool false) ∧ Jx (pre ++ [x]) W')) := hY
  have HJ0 : Hid (J [] W) := h0
  clear hk hJb hL hv hY h0
  refine callsIn_of_wp Tryd.func40 rfl trivial ?_ rfl
  simp only [Tryd.ntmps40, List.size_toArray, List.length_cons, List.length_nil, Nat.reduceAdd, Nat.reduceSub, Array.replicate_succ, Array.replicate_zero, List.push_toArray, List.append_toArray, List.nil_append, List.cons_append]
  gi_wp2
  gi_loopw [3] (fun v3 wr => ∃ (pre : List Ye) (ys : Bs) (K : Nat) (q : Option Addr) (d : Nat), v3 = .slice q K d ∧ ys.length = K ∧ K ≤ L ∧ ByV wr (B) q d ys ∧ J pre wr ∧ yOf pre ++ seqD ys = seqD bs) (fun v3 _ => lenOfS v3)
  case atStart => exact ⟨[], bs, L, p, c, rfl, H.out.2.2.1, Nat.le_refl _, H.out.2.2.2, HJ0.out, rfl⟩
  case round =>
    obtain ⟨pre, ys, K, q, d, rfl, hK, hKL, hv, hJ, hseq⟩ := hrel
    clear hcell HJ0
    by_cases q5 : K = 0
    · have q5I : ¬ (0 : Int) < (K : Int) := by omega
      have hys : ys = [] := List.eq_nil_of_length_eq_zero (by omega)
      have HR : Hid (yOf pre = seqD bs ∧ J pre wr) := by rw [hys, seqD_nil, List.append_nil] at hseq; exact ⟨hseq, hJ⟩
      clear hseq hys hK hv hJ
      gi_wp2
      go_end0
      exact ⟨⟨_, rfl⟩, .inl ⟨pre, HR.out⟩⟩
    have q5I : (0 : Int) < (K : Int) := by omega
    have HSP := derSplit q K d ys (B) wr hK hv
    have hy0 : ys ≠ [] := by intro e; rw [e] at hK; exact q5 hK.symm
    have HI : Hid (J pre wr ∧ yOf pre ++ seqD ys = seqD bs) := ⟨hJ, hseq⟩
    have HN : Hid (pre.length < L) := by
      have h1 := congrArg List.length hseq
      have h2 := seqD_len bs
      have h3 : 0 < (seqD ys).length := seqD_pos hy0
      rw [H.out.2.2.1] at h2
      rw [List.length_append] at h1
      have h4 : (yOf pre).length = pre.length := by simp [yOf]
      show pre.length < L
      omega
    clear hv hJ hseq
    cases hr : readD ys with
    | error k =>
      rw [hr] at HSP
      have hk := read_err hr
      have hkb : ((k : Int) != 0) = true := by simp; omega
      have HR : Hid (yOf (pre ++ [⟨⟨0, [], none, 0⟩, k⟩]) = seqD bs) := by
        show yOf (pre ++ [⟨⟨0, [], none, 0⟩, k⟩]) = seqD bs
        rw [yOf_app, ← HI.out.2, seqD_err hy0 hr]
        rfl
      clear hr hk hK
      gi_wp2_with (refine ⟨trivial, ?_⟩; gi_at_call 28; refine (callsIn_wide.2 HSP).mono ?_; intro e w2 hp; obtain ⟨hb2, he⟩ := hp.errx; subst he; clear hp; have hb3 : Below wr.heap.size wr (w2.alloc (.cells #[.int .u8 0, .slice none 0 0] 24)) := hb2.alloc hb2.size _; obtain ⟨fn, tmps, assign, body, hy, hR⟩ := HY.out pre ⟨⟨0, [], none, 0⟩, k⟩ wr _ HI.out.1 ⟨HN.out, by rw [HR.out]; exact List.prefix_refl _⟩ hb3 (ByV.nil _ _); change (Instr.yield l #[.agg #[.int .u8 0, .slice none 0 0], .int .i64 (k : Int)]).run _ _ = _ at hy; clear hb2 hb3 HSP)
      refine hR.mono ?_
      clear hR hy
      rintro e W3 (⟨rfl, hJ3⟩ | ⟨rfl, hJ3⟩)
      · gi_wp2
        refine bodyPost_ret (results_none rfl _ _ _) rfl ?_
        exact ⟨⟨_, rfl⟩, .inl ⟨_, HR.out, hJ3⟩⟩
      · gi_wp2
        refine bodyPost_ret (results_none rfl _ _ _) rfl ?_
        exact ⟨⟨_, rfl⟩, .inr ⟨_, by rw [HR.out]; exact List.prefix_refl _, hJ3⟩⟩
    | ok x =>
      obtain ⟨⟨t, b⟩, r⟩ := x
      rw [hr] at HSP
      have hlens := read_len hr
      obtain ⟨TN, hTN⟩ : ∃ T, t.toNat = T := ⟨_, rfl⟩
      obtain ⟨LB, hLB⟩ : ∃ T, b.length = T := ⟨_, rfl⟩
      obtain ⟨Lr, hLr⟩ : ∃ T, r.length = T := ⟨_, rfl⟩
      have hLr2 : Lr + 2 ≤ K := by rw [← hLr, ← hK]; exact hlens.1
      have hLB2 : LB ≤ K := by rw [← hLB, ← hK]; omega
      have HR : Hid (t.toNat = TN ∧ b.length = LB ∧ r.length = Lr ∧ ∀ (p' : Option Addr) (c' : Nat), yOf (pre ++ [⟨⟨t, b, p', c'⟩, 0⟩]) ++ seqD r = seqD bs) := ⟨hTN, hLB, hLr, fun p' c' => by rw [yOf_app, ← HI.out.2, seqD_ok hr]; simp [yOf]⟩
      clear hr hlens hK hy0
      gi_wp2_with (first
        | (refine ⟨trivial, ?_⟩; gi_at_call 28; refine (callsIn_wide.2 HSP).mono ?_; intro e w2 hp; obtain ⟨hb2, p1, c1, p2, c2, he, hv1, hv2⟩ := hp.okx; subst he; rw [hTN, hLB, hLr]; have HB2 : Hid (Below wr.heap.size wr w2 ∧ BAt w2 p1 LB b ∧ ByV w2 (B) p2 c2 r) := ⟨hb2, by rw [← hLB]; exact hv1.lies, hv2⟩; clear hp hb2 hv1 hv2 HSP)
        | (refine ⟨trivial, ?_⟩; gi_at_call 30; refine (callsIn_wide.2 (derCopied TN p1 LB c1 b (w2.alloc (.cells #[.int .u8 (TN : Int), .slice p1 LB c1] 24)) hLB (HB2.out.2.1.below ((Below.refl _ _).alloc (Nat.le_refl _) _)) (by omega))).mono ?_; rintro e w4 ⟨hb4, p', c', rfl, hv4⟩; have hb5 : Below wr.heap.size wr w4 := HB2.out.1.trans ((((Below.refl _ w2).alloc (Nat.le_refl _) _).trans (hb4.mono (alloc_le _ _))).mono HB2.out.1.size); obtain ⟨fn, tmps, assign, body, hy, hR⟩ := HY.out pre ⟨⟨t, b, p', c'⟩, 0⟩ wr w4 HI.out.1 ⟨HN.out, by rw [← HR.out.2.2.2 p' c']; exact List.prefix_append _ _⟩ hb5 (hv4.mono (fun k hk _ => Nat.le_trans HB2.out.1.size (Nat.le_trans (alloc_le _ _) hk))); change (Instr.yield l #[.agg #[.int .u8 (t.toNat : Int), .slice p' b.length c'], .int .i64 0]).run _ _ = _ at hy; rw [hTN, hLB] at hy; have HB4 : Hid (Below wr.heap.size wr w4) := hb5; clear hb4 hv4 hb5))
      refine hR.mono ?_
      clear hR hy
      rintro e W3 (⟨rfl, hJ3⟩ | ⟨rfl, hJ3⟩)
      · gi_wp2
        go_roundw
        case rel =>
          refine ⟨_, r, Lr, p2, c2, rfl, HR.out.2.2.1, by omega, ?_, hJ3, HR.out.2.2.2 p' c'⟩
          have hbr := HB2.out.1
          refine HB2.out.2.2.keep (fun g hg hlt => ?_)
          have hwr : g < wr.heap.size := by
            have h1 := H.out.1 pre wr HI.out.1 g hg
            obtain ⟨ob, h2⟩ : ∃ ob, W.heap[g]? = some ob := ⟨_, Array.getElem?_eq_getElem (hBW g hg)⟩
            rw [h2] at h1
            exact (Array.getElem?_eq_some_iff.1 h1).1
          exact (H.out.1 _ _ hJ3 g hg).trans ((H.out.1 pre wr HI.out.1 g hg).symm.trans (hbr.block g hwr).symm)
        case measure => simp only [lenOfS]; omega
      · gi_wp2
        refine bodyPost_ret (results_none rfl _ _ _) rfl ?_
        exact ⟨⟨_, rfl⟩, .inr ⟨_, by rw [← HR.out.2.2.2 p' c']; exact List.prefix_append _ _, hJ3⟩⟩
end Go.Proofs.YtiblpcfkecalcabDoor
