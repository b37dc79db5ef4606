/-
  The code's writer: items without kids.
-/
import Derived.Test.YtfmldcibhllpcabDoorFD
import Derived.Test.YtfmldcibhllpcabDoorCO
namespace Go.Proofs.YtfmldcibhllpcabDoor
open Go.Shelf Go.RowKit
set_option linter.unusedVariables false
set_option linter.unusedSimpArgs false

/-- An item of no more bytes and kids than there is room for. -/
def fitC : Nat → It → Prop
  | 0, i => i.b.length ≤ 1000000 ∧ i.kids.length ≤ 1000000
  | d + 1, i => (i.b.length ≤ 1000000 ∧ i.kids.length ≤ 1000000) ∧ ∀ k ∈ i.kids, fitC d k
theorem fitC.here {d : Nat} {i : It} (h : fitC d i) : i.b.length ≤ 1000000 ∧ i.kids.length ≤ 1000000 := by
  cases d with
  | zero => exact h
  | succ d => exact h.1
/-- Blocks behind the library's tables. -/
def Gw (g : Nat) : Prop := Gl g ∧ 3 < g
/-- The library's tables. -/
def Tw (w : World) : Prop := Tabs w ∧ Tz w
theorem Tw.below {w w' : World} (h : Tw w) (hb : Below w.heap.size w w') : Tw w' := ⟨h.1.below hb, h.2.below hb⟩
theorem Tw.low {w w' : World} {g : Nat} (h : Tw w) (hG : Gw g) (hb : Below g w w') : Tw w' := ⟨h.1.low hG.1 hb, h.2.keep (hb.block _ hG.2)⟩
/-- What item and kids answer. -/
def EPost (g : Nat) (fb : Option Nat) (bs : Bs) (o : Nat) (w : World) (R : Except Nat (Bs × Nat)) (e : Ending) (w' : World) : Prop :=
  ∃ (fb' : Option Nat) (zs : Bs) (t' : Nat), WTo g fb w w' fb' ∧ Wt w' g fb' zs t' o ∧ ((∃ b, R = .ok (b, t') ∧ zs = bs ++ b ∧ e = .returned (.int .i64 0)) ∨ (∃ k : Nat, R = .error k ∧ 0 < k ∧ k < 100 ∧ e = .returned (.int .i64 (k : Int))))
def EncOK (d : Nat) : Prop := ∀ (g : Nat) (fb : Option Nat) (bs : Bs) (t o : Nat) (i : It) (c0 c1 c2 c3 : Value) (w : World), Wt w g fb bs t o → Gw g → Tw w → d + o = 8 → t ≤ 512 → fitC d i → ItOk w (fun b => b < g) d [c0, c1, c2, c3] i → Calls Tryd.prog 13 #[.pointer (some ⟨g, 0, none⟩), .agg #[c0, c1, c2, c3]] w (EPost g fb bs o w (encI d t i))
theorem EPost.down {g : Nat} {fb fb1 : Option Nat} {bs bs1 : Bs} {o : Nat} {w w1 : World} {R : Except Nat (Bs × Nat)} {e : Ending} {w' : World} (h : EPost g fb1 bs o w1 R e w') (hb : WTo g fb w w1 fb1) : EPost g fb bs o w R e w' := by
  obtain ⟨fb', zs, t', h1, h2, h3⟩ := h
  exact ⟨fb', zs, t', hb.trans h1, h2, h3⟩
/-- The world in which item goes on: one item more has begun. -/
theorem wt_begin {w : World} {g : Nat} {fb : Option Nat} {bs : Bs} {t o : Nat} (h : Wt w g fb bs t o) (hG : Gw g) (hT : Tw w) (X : Obj) : Wt ((w.setCell ⟨g, 2, none⟩ (.int .i64 ((t : Int) + 1))).alloc X) g fb bs (t + 1) o ∧ WTo g fb w ((w.setCell ⟨g, 2, none⟩ (.int .i64 ((t : Int) + 1))).alloc X) fb ∧ Tw ((w.setCell ⟨g, 2, none⟩ (.int .i64 ((t : Int) + 1))).alloc X) := by
  have h1 := h.setItems (t + 1)
  rw [show ((t + 1 : Nat) : Int) = (t : Int) + 1 by omega] at h1
  have hb := (Below.refl (w.setCell ⟨g, 2, none⟩ (.int .i64 ((t : Int) + 1))).heap.size (w.setCell ⟨g, 2, none⟩ (.int .i64 ((t : Int) + 1)))).alloc (Nat.le_refl _) X
  have h2 := WTo.setCell g fb w 2 (.int .i64 ((t : Int) + 1))
  have h3 := h2.trans (WTo.ofBelow (g := g) (fb := fb) hb)
  exact ⟨h1.below hb, h3, hT.low hG (h3.low (fun b e => (h.fb b e).1) (Nat.le_of_lt h.lt))⟩
theorem begin_sz (w : World) (a : Addr) (v : Value) (X : Obj) : ((w.setCell a v).alloc X).heap.size = w.heap.size + 1 := by
  rw [alloc_sz]
  simp [World.setCell]
theorem begin_slot (w : World) (a : Addr) (v c0 c1 c2 c3 : Value) : Slot ((w.setCell a v).alloc (.cells #[c0, c1, c2, c3] 29)) w.heap.size c0 c1 c2 c3 := by
  have h := Slot.new (w.setCell a v) c0 c1 c2 c3
  have e : (w.setCell a v).heap.size = w.heap.size := by simp [World.setCell]
  rw [e] at h
  exact h
theorem EPost.fine {g : Nat} {fb fb' : Option Nat} {bs b zs : Bs} {o t' : Nat} {w w' : World} {e : Ending} (h1 : WTo g fb w w' fb') (h2 : Wt w' g fb' zs t' o) (hz : zs = bs ++ b) (he : e = .returned (.int .i64 0)) : EPost g fb bs o w (.ok (b, t')) e w' :=
  ⟨fb', zs, t', h1, h2, .inl ⟨b, rfl, hz, he⟩⟩
theorem EPost.bad {g : Nat} {fb fb' : Option Nat} {bs zs : Bs} {o t' k : Nat} {w w' : World} {e : Ending} (h1 : WTo g fb w w' fb') (h2 : Wt w' g fb' zs t' o) (hk : 0 < k ∧ k < 100) (he : e = .returned (.int .i64 (k : Int))) : EPost g fb bs o w (.error k) e w' :=
  ⟨fb', zs, t', h1, h2, .inr ⟨k, rfl, hk.1, hk.2, he⟩⟩
set_option maxRecDepth 100000 in
set_option maxHeartbeats 2000000 in
/-- item: a number. -/
theorem enc_num (d g : Nat) (fb : Option Nat) (bs : Bs) (t o : Nat) (i : It) (p q : Option Addr) (L c M c' : Nat) (w : World) (h : Wt w g fb bs t o) (hG : Gw g) (hT : Tw w) (ht : t < 512) (hk : i.kind = 1 ∨ i.kind = 2) (hn : i.n < 18446744073709551616) :
    Calls Tryd.prog 13 #[.pointer (some ⟨g, 0, none⟩), .agg #[.int .u8 (i.kind : Int), .int .u64 (i.n : Int), .slice p L c, .slice q M c']] w (EPost g fb bs o w (encI d t i)) := by
  have hR : encI d t i = .ok (headF (i.kind - 1) i.n, t + 1) := by unfold encI; rw [if_neg (by omega), if_pos hk]
  rw [hR]
  obtain ⟨kd, hkd⟩ : ∃ n, i.kind = n := ⟨_, rfl⟩
  obtain ⟨n, hn'⟩ : ∃ n, i.n = n := ⟨_, rfl⟩
  rw [hn'] at hn
  rw [hkd] at hk
  rw [hkd, hn']
  have htb : ((t : Int) == 512) = false := by simp; omega
  have htI : (t : Int) < 512 := by omega
  have ci := h.its
  have fi := h.frz 2
  have hlt := h.lt
  clear hR hkd hn'
  rcases hk with rfl | rfl
  · have HB := wt_begin h hG hT (.cells #[.int .u8 1, .int .u64 (n : Int), .slice p L c, .slice q M c'] 29)
    have HN := number_any g fb bs (t + 1) o 0 n (by decide) hn _ HB.1 HB.2.2.2
    go_enter Tryd.func13, Tryd.ntmps13
    go_wp2_with (go_at_call 17; refine HN.mono ?_; rintro e w1 ⟨rfl, fb', h1, h2⟩)
    go_ret
    exact EPost.fine (HB.2.1.trans h1) h2 rfl rfl
  · have HB := wt_begin h hG hT (.cells #[.int .u8 2, .int .u64 (n : Int), .slice p L c, .slice q M c'] 29)
    have HN := number_any g fb bs (t + 1) o 1 n (by decide) hn _ HB.1 HB.2.2.2
    go_enter Tryd.func13, Tryd.ntmps13
    go_wp2_with (go_at_call 17; refine HN.mono ?_; rintro e w1 ⟨rfl, fb', h1, h2⟩)
    go_ret
    exact EPost.fine (HB.2.1.trans h1) h2 rfl rfl
set_option maxRecDepth 100000 in
set_option maxHeartbeats 2000000 in
/-- item: one too many. -/
theorem enc_many (d g : Nat) (fb : Option Nat) (bs : Bs) (t o : Nat) (i : It) (kd n : Int) (p q : Option Addr) (L c M c' : Nat) (w : World) (h : Wt w g fb bs t o) (ht : t = 512) :
    Calls Tryd.prog 13 #[.pointer (some ⟨g, 0, none⟩), .agg #[.int .u8 kd, .int .u64 n, .slice p L c, .slice q M c']] w (EPost g fb bs o w (encI d t i)) := by
  have hR : encI d t i = .error 14 := by unfold encI; rw [if_pos (by omega)]
  rw [hR]
  have ci := h.its
  have hlt := h.lt
  subst ht
  go_enter Tryd.func13, Tryd.ntmps13
  go_wp2
  go_ret
  have hb := (Below.refl w.heap.size w).alloc (Nat.le_refl _) (.cells #[.int .u8 kd, .int .u64 n, .slice p L c, .slice q M c'] 29)
  exact EPost.bad (WTo.ofBelow hb) (h.below hb) (by decide) rfl
set_option maxRecDepth 100000 in
set_option maxHeartbeats 2000000 in
/-- item: a word. -/
theorem enc_word (d g : Nat) (fb : Option Nat) (bs : Bs) (t o : Nat) (i : It) (n : Int) (p q : Option Addr) (L c M c' : Nat) (w : World) (h : Wt w g fb bs t o) (hG : Gw g) (hT : Tw w) (ht : t < 512) (hk : i.kind = 7 ∨ i.kind = 8 ∨ i.kind = 9) :
    Calls Tryd.prog 13 #[.pointer (some ⟨g, 0, none⟩), .agg #[.int .u8 (i.kind : Int), .int .u64 n, .slice p L c, .slice q M c']] w (EPost g fb bs o w (encI d t i)) := by
  have hR : encI d t i = .ok ([UInt8.ofNat (i.kind + 237)], t + 1) := by unfold encI; rw [if_neg (by omega), if_neg (by omega), if_neg (by omega), if_neg (by omega), if_pos hk]
  rw [hR]
  obtain ⟨kd, hkd⟩ : ∃ n, i.kind = n := ⟨_, rfl⟩
  rw [hkd] at hk
  rw [hkd]
  have htb : ((t : Int) == 512) = false := by simp; omega
  have htI : (t : Int) < 512 := by omega
  have ci := h.its
  have fi := h.frz 2
  have hlt := h.lt
  clear hR hkd
  rcases hk with rfl | rfl | rfl
  · have HB := wt_begin h hG hT (.cells #[.int .u8 7, .int .u64 n, .slice p L c, .slice q M c'] 29)
    have HP : Calls _ _ #[_, _] (World.alloc _ (.cells #[.int .u8 244] 5)) _ := put_one g fb bs (t + 1) o 244 (by decide) _ HB.1
    rw [begin_sz] at HP
    have HF : ∀ W, Calls Tryd.prog 21 #[.int .u8 7] W fun e w' => e = .returned (.int .u8 244) ∧ w' = W := fun W => wordForm_any 7 (by decide) W
    go_enter Tryd.func13, Tryd.ntmps13
    go_wp2_with (first
      | (go_at_call 21; refine (HF _).mono ?_; rintro e w1 ⟨rfl, rfl⟩)
      | (go_at_call 19; refine HP.mono ?_; rintro e w1 ⟨rfl, fb', h1, h2⟩))
    go_ret
    exact EPost.fine (HB.2.1.trans h1) h2 rfl rfl
  · have HB := wt_begin h hG hT (.cells #[.int .u8 8, .int .u64 n, .slice p L c, .slice q M c'] 29)
    have HP : Calls _ _ #[_, _] (World.alloc _ (.cells #[.int .u8 245] 5)) _ := put_one g fb bs (t + 1) o 245 (by decide) _ HB.1
    rw [begin_sz] at HP
    have HF : ∀ W, Calls Tryd.prog 21 #[.int .u8 8] W fun e w' => e = .returned (.int .u8 245) ∧ w' = W := fun W => wordForm_any 8 (by decide) W
    go_enter Tryd.func13, Tryd.ntmps13
    go_wp2_with (first
      | (go_at_call 21; refine (HF _).mono ?_; rintro e w1 ⟨rfl, rfl⟩)
      | (go_at_call 19; refine HP.mono ?_; rintro e w1 ⟨rfl, fb', h1, h2⟩))
    go_ret
    exact EPost.fine (HB.2.1.trans h1) h2 rfl rfl
  · have HB := wt_begin h hG hT (.cells #[.int .u8 9, .int .u64 n, .slice p L c, .slice q M c'] 29)
    have HP : Calls _ _ #[_, _] (World.alloc _ (.cells #[.int .u8 246] 5)) _ := put_one g fb bs (t + 1) o 246 (by decide) _ HB.1
    rw [begin_sz] at HP
    have HF : ∀ W, Calls Tryd.prog 21 #[.int .u8 9] W fun e w' => e = .returned (.int .u8 246) ∧ w' = W := fun W => wordForm_any 9 (by decide) W
    go_enter Tryd.func13, Tryd.ntmps13
    go_wp2_with (first
      | (go_at_call 21; refine (HF _).mono ?_; rintro e w1 ⟨rfl, rfl⟩)
      | (go_at_call 19; refine HP.mono ?_; rintro e w1 ⟨rfl, fb', h1, h2⟩))
    go_ret
    exact EPost.fine (HB.2.1.trans h1) h2 rfl rfl
set_option maxRecDepth 100000 in
set_option maxHeartbeats 2000000 in
/-- item: none. -/
theorem enc_none (d g : Nat) (fb : Option Nat) (bs : Bs) (t o : Nat) (i : It) (n : Int) (p q : Option Addr) (L c M c' : Nat) (w : World) (h : Wt w g fb bs t o) (hG : Gw g) (hT : Tw w) (ht : t < 512) (hk : i.kind = 0 ∨ 9 < i.kind) (hk2 : i.kind < 256) :
    Calls Tryd.prog 13 #[.pointer (some ⟨g, 0, none⟩), .agg #[.int .u8 (i.kind : Int), .int .u64 n, .slice p L c, .slice q M c']] w (EPost g fb bs o w (encI d t i)) := by
  have hR : encI d t i = .error 20 := by unfold encI; rw [if_neg (by omega), if_neg (by omega), if_neg (by omega), if_neg (by omega), if_neg (by omega), if_neg (by omega)]
  rw [hR]
  obtain ⟨kd, hkd⟩ : ∃ n, i.kind = n := ⟨_, rfl⟩
  rw [hkd] at hk hk2
  rw [hkd]
  have htb : ((t : Int) == 512) = false := by simp; omega
  have htI : (t : Int) < 512 := by omega
  have ci := h.its
  have fi := h.frz 2
  have hlt := h.lt
  clear hR hkd
  have HB := wt_begin h hG hT (.cells #[.int .u8 (kd : Int), .int .u64 n, .slice p L c, .slice q M c'] 29)
  have q1 : ((kd : Int) == 1) = false := by simp; omega
  have q2 : ((kd : Int) == 2) = false := by simp; omega
  have q3 : ((kd : Int) == 3) = false := by simp; omega
  have q4 : ((kd : Int) == 4) = false := by simp; omega
  have q5 : ((kd : Int) == 5) = false := by simp; omega
  have q6 : ((kd : Int) == 6) = false := by simp; omega
  have q7 : ((kd : Int) == 7) = false := by simp; omega
  have q8 : ((kd : Int) == 8) = false := by simp; omega
  have q9 : ((kd : Int) == 9) = false := by simp; omega
  go_enter Tryd.func13, Tryd.ntmps13
  go_wp2
  go_ret
  exact EPost.bad HB.2.1 HB.1 (by decide) rfl
set_option maxRecDepth 100000 in
set_option maxHeartbeats 2000000 in
/-- item: bytes. -/
theorem enc_bytes (d g : Nat) (fb : Option Nat) (bs : Bs) (t o : Nat) (i : It) (p q : Option Addr) (c M c' : Nat) (n : Int) (w : World) (h : Wt w g fb bs t o) (hG : Gw g) (hT : Tw w) (ht : t < 512) (hk : i.kind = 3) (hv : ByV w (fun b => b < g) p c i.b) (hf : i.b.length ≤ 1000000) :
    Calls Tryd.prog 13 #[.pointer (some ⟨g, 0, none⟩), .agg #[.int .u8 (i.kind : Int), .int .u64 n, .slice p i.b.length c, .slice q M c']] w (EPost g fb bs o w (encI d t i)) := by
  have hR : encI d t i = .ok (headF 2 i.b.length ++ i.b, t + 1) := by unfold encI; rw [if_neg (by omega), if_neg (by omega), if_pos hk]
  rw [hR, hk]
  have htb : ((t : Int) == 512) = false := by simp; omega
  have htI : (t : Int) < 512 := by omega
  have ci := h.its
  have fi := h.frz 2
  have hlt := h.lt
  have hcap := hv.cap
  obtain ⟨L, hL⟩ : ∃ L, i.b.length = L := ⟨_, rfl⟩
  rw [hL] at hf hcap ⊢
  have hfI : (L : Int) ≤ 1000000 := by omega
  clear hR
  have HB := wt_begin h hG hT (.cells #[.int .u8 3, .int .u64 n, .slice p L c, .slice q M c'] 29)
  have HN := number_any g fb bs (t + 1) o 2 L (by decide) (by omega) _ HB.1 HB.2.2.2
  have HP := fun (w1 : World) (fb' : Option Nat) (h1 : WTo g fb w w1 fb') (h2 : Wt w1 g fb' (bs ++ headF 2 L) (t + 1) o) => put_any g fb' (bs ++ headF 2 L) (t + 1) o p L c i.b w1 h2 hL (by have := (hv.keep (fun k hk _ => (h1.low (fun b e => (h.fb b e).1) (Nat.le_of_lt h.lt)).block k hk)).lies; rw [hL] at this; exact this) (by omega)
  go_enter Tryd.func13, Tryd.ntmps13
  go_wp2_with (first
    | (go_at_call 17; refine HN.mono ?_; rintro e w1 ⟨rfl, fb', h1, h2⟩; have HP2 := HP w1 fb' (HB.2.1.trans h1) h2; have s1 := (begin_slot w ⟨g, 2, none⟩ (.int .i64 ((t : Int) + 1)) (.int .u8 3) (.int .u64 n) (.slice p L c) (.slice q M c')).same (h1.keep (by rw [begin_sz]; omega) (by omega) (fun e => by have := h.fb _ e.symm; omega)); obtain ⟨k0, k1, k2, k3, _⟩ := s1.facts)
    | (go_at_call 19; refine HP2.mono ?_; rintro e w2 ⟨rfl, fb2, j1, j2⟩))
  go_ret
  exact EPost.fine ((HB.2.1.trans h1).trans j1) j2 (by simp) rfl
set_option maxRecDepth 100000 in
set_option maxHeartbeats 2000000 in
/-- item: a text. -/
theorem enc_text (d g : Nat) (fb : Option Nat) (bs : Bs) (t o : Nat) (i : It) (p q : Option Addr) (c M c' : Nat) (n : Int) (w : World) (h : Wt w g fb bs t o) (hG : Gw g) (hT : Tw w) (ht : t < 512) (hk : i.kind = 4) (hv : ByV w (fun b => b < g) p c i.b) (hf : i.b.length ≤ 1000000) :
    Calls Tryd.prog 13 #[.pointer (some ⟨g, 0, none⟩), .agg #[.int .u8 (i.kind : Int), .int .u64 n, .slice p i.b.length c, .slice q M c']] w (EPost g fb bs o w (encI d t i)) := by
  have hR : encI d t i = if Lib.validD i.b then .ok (headF 3 i.b.length ++ i.b, t + 1) else .error 23 := by unfold encI; rw [if_neg (by omega), if_neg (by omega), if_neg (by omega), if_pos hk]
  rw [hR, hk]
  have htb : ((t : Int) == 512) = false := by simp; omega
  have htI : (t : Int) < 512 := by omega
  have ci := h.its
  have fi := h.frz 2
  have hlt := h.lt
  have hcap := hv.cap
  obtain ⟨L, hL⟩ : ∃ L, i.b.length = L := ⟨_, rfl⟩
  rw [hL] at hf hcap ⊢
  have hfI : (L : Int) ≤ 1000000 := by omega
  clear hR
  have HB := wt_begin h hG hT (.cells #[.int .u8 4, .int .u64 n, .slice p L c, .slice q M c'] 29)
  have HL := fun (w1 : World) (fb' : Option Nat) (h1 : WTo g fb w w1 fb') => (hv.keep (fun k hk _ => (h1.low (fun b e => (h.fb b e).1) (Nat.le_of_lt h.lt)).block k hk)).lies
  rw [hL] at HL
  have HV := valid_any p L c i.b _ hL (HL _ _ HB.2.1) hcap hf HB.2.2.1
  cases hu : Lib.validD i.b with
  | false =>
    rw [hu] at HV
    rw [if_neg (by simp)]
    go_enter Tryd.func13, Tryd.ntmps13
    go_wp2_with (go_at_call 18; go_loud (refine HV.mono ?_); rintro e w1 ⟨rfl, hb1⟩)
    go_ret
    exact EPost.bad (HB.2.1.trans (WTo.ofBelow hb1)) (HB.1.below hb1) (by decide) rfl
  | true =>
    rw [hu] at HV
    rw [if_pos rfl]
    have HP := fun (w1 : World) (fb' : Option Nat) (h1 : WTo g fb w w1 fb') (h2 : Wt w1 g fb' (bs ++ headF 3 L) (t + 1) o) => put_any g fb' (bs ++ headF 3 L) (t + 1) o p L c i.b w1 h2 hL (HL w1 fb' h1) (by omega)
    have s0 := begin_slot w ⟨g, 2, none⟩ (.int .i64 ((t : Int) + 1)) (.int .u8 4) (.int .u64 n) (.slice p L c) (.slice q M c')
    go_enter Tryd.func13, Tryd.ntmps13
    go_wp2_with (first
      | (go_at_call 18; refine HV.mono ?_; rintro e w1 ⟨rfl, hb1⟩; have s1 := s0.same (hb1.block _ s0.lt); obtain ⟨k0, k1, k2, k3, _⟩ := s1.facts; have HN := number_any g fb bs (t + 1) o 3 L (by decide) (by omega) _ (HB.1.below hb1) (HB.2.2.2.below hb1))
      | (go_at_call 17; refine HN.mono ?_; rintro e w2 ⟨rfl, fb', h1, h2⟩; have HP2 := HP w2 fb' ((HB.2.1.trans (WTo.ofBelow hb1)).trans h1) h2; have s2 := s1.same (h1.keep s1.lt (by omega) (fun e => by have := h.fb _ e.symm; omega)); obtain ⟨l0, l1, l2, l3, _⟩ := s2.facts)
      | (go_at_call 19; refine HP2.mono ?_; rintro e w3 ⟨rfl, fb2, j1, j2⟩))
    go_ret
    exact EPost.fine (((HB.2.1.trans (WTo.ofBelow hb1)).trans h1).trans j1) j2 (by simp) rfl
end Go.Proofs.YtfmldcibhllpcabDoor
