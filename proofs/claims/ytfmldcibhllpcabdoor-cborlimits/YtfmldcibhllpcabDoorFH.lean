/-
  The code's writer: any item; Encode.
-/
import Derived.Test.YtfmldcibhllpcabDoorFG
import Derived.Test.YtfmldcibhllpcabDoorDA
namespace Go.Proofs.YtfmldcibhllpcabDoor
open Go.Shelf Go.RowKit
set_option linter.unusedVariables false
set_option linter.unusedSimpArgs false

theorem encI_arr (d t : Nat) (i : It) (h : t < 512) (hk : i.kind = 5) : encI (d + 1) t i = joinR (headF 4 i.kids.length) (encKs (encI d) false true none i.kids (t + 1)) := by
  unfold encI
  simp only [hk]
  rw [if_neg (by omega), if_neg (by decide), if_neg (by decide), if_neg (by decide), if_neg (by decide), if_pos (by decide), if_neg (by simp)]
  rfl
theorem encI_map (d t : Nat) (i : It) (h : t < 512) (hk : i.kind = 6) : encI (d + 1) t i = if i.kids.length % 2 = 1 then .error 20 else joinR (headF 5 (i.kids.length / 2)) (encKs (encI d) true true none i.kids (t + 1)) := by
  unfold encI
  simp only [hk]
  rw [if_neg (by omega), if_neg (by decide), if_neg (by decide), if_neg (by decide), if_neg (by decide), if_pos (by decide)]
  by_cases ho : i.kids.length % 2 = 1
  · rw [if_pos ⟨trivial, ho⟩, if_pos ho]
  · rw [if_neg (fun e => ho e.2), if_neg ho]
    rfl
theorem encI_deep (t : Nat) (i : It) (h : t < 512) (hk : i.kind = 5 ∨ i.kind = 6) : encI 0 t i = .error 13 := by
  unfold encI
  rw [if_neg (by omega), if_neg (by omega), if_neg (by omega), if_neg (by omega), if_neg (by omega), if_pos hk]
set_option maxRecDepth 100000 in
set_option maxHeartbeats 2000000 in
/-- item: an array or a map. -/
theorem enc_kids (g : Nat) (fb : Option Nat) (bs : Bs) (t o kd : Nat) (n : Int) (p q : Option Addr) (L c M c' : Nat) (w : World) (R : Except Nat (Bs × Nat)) (h : Wt w g fb bs t o) (hG : Gw g) (hT : Tw w) (ht : t < 512) (hk : kd = 5 ∨ kd = 6)
    (HK : ∀ W, Wt W g fb bs (t + 1) o → WTo g fb w W fb → Tw W → Calls Tryd.prog 20 #[.pointer (some ⟨g, 0, none⟩), .agg #[.int .u8 (kd : Int), .int .u64 n, .slice p L c, .slice q M c']] W (EPost g fb bs o W R)) :
    Calls Tryd.prog 13 #[.pointer (some ⟨g, 0, none⟩), .agg #[.int .u8 (kd : Int), .int .u64 n, .slice p L c, .slice q M c']] w (EPost g fb bs o w R) := by
  have htb : ((t : Int) == 512) = false := by simp; omega
  have htI : (t : Int) < 512 := by omega
  have ci := h.its
  have fi := h.frz 2
  have hlt := h.lt
  rcases hk with rfl | rfl
  · have HB := wt_begin h hG hT (.cells #[.int .u8 5, .int .u64 n, .slice p L c, .slice q M c'] 29)
    have HC := HK _ HB.1 HB.2.1 HB.2.2
    go_enter Tryd.func13, Tryd.ntmps13
    go_wp2_with (go_at_call 20; refine HC.mono ?_; rintro e w1 ⟨fb', zs, t', h1, h2, (⟨b, hR, hz, rfl⟩ | ⟨k, hR, hk0, hk1, rfl⟩)⟩)
    · go_ret
      exact ⟨fb', zs, t', HB.2.1.trans h1, h2, .inl ⟨b, hR, hz, rfl⟩⟩
    · go_ret
      exact ⟨fb', zs, t', HB.2.1.trans h1, h2, .inr ⟨k, hR, hk0, hk1, rfl⟩⟩
  · have HB := wt_begin h hG hT (.cells #[.int .u8 6, .int .u64 n, .slice p L c, .slice q M c'] 29)
    have HC := HK _ HB.1 HB.2.1 HB.2.2
    go_enter Tryd.func13, Tryd.ntmps13
    go_wp2_with (go_at_call 20; refine HC.mono ?_; rintro e w1 ⟨fb', zs, t', h1, h2, (⟨b, hR, hz, rfl⟩ | ⟨k, hR, hk0, hk1, rfl⟩)⟩)
    · go_ret
      exact ⟨fb', zs, t', HB.2.1.trans h1, h2, .inl ⟨b, hR, hz, rfl⟩⟩
    · go_ret
      exact ⟨fb', zs, t', HB.2.1.trans h1, h2, .inr ⟨k, hR, hk0, hk1, rfl⟩⟩
/-- item, of any item. -/
theorem enc_one (d : Nat) (IH : ∀ d', d = d' + 1 → EncOK d') : EncOK d := by
  intro g fb bs t o i c0 c1 c2 c3 w h hG hT hd ht hf hi
  obtain ⟨q, hq⟩ := hi.head
  obtain ⟨p, c, c', rfl, rfl, rfl, rfl, h1, h2, h3, h4, h5⟩ := hq.cells
  have hfh := hf.here
  by_cases ht5 : t = 512
  · exact enc_many d g fb bs t o i _ _ p q _ c _ c' w h ht5
  have ht' : t < 512 := by omega
  by_cases k1 : i.kind = 1 ∨ i.kind = 2
  · exact enc_num d g fb bs t o i p q _ c _ c' w h hG hT ht' k1 h2
  by_cases k3 : i.kind = 3
  · exact enc_bytes d g fb bs t o i p q c _ c' _ w h hG hT ht' k3 h3 hfh.1
  by_cases k4 : i.kind = 4
  · exact enc_text d g fb bs t o i p q c _ c' _ w h hG hT ht' k4 h3 hfh.1
  by_cases k7 : i.kind = 7 ∨ i.kind = 8 ∨ i.kind = 9
  · exact enc_word d g fb bs t o i _ p q _ c _ c' w h hG hT ht' k7
  by_cases k5 : i.kind = 5 ∨ i.kind = 6
  · have low : ∀ W, WTo g fb w W fb → ∀ k, k < g → W.heap[k]? = w.heap[k]? := fun W hW k hk => (hW.low (fun b e => (h.fb b e).1) (Nat.le_of_lt h.lt)).block k hk
    cases d with
    | zero =>
      rw [encI_deep t i ht' k5]
      have ho : o = 8 := by omega
      subst ho
      refine enc_kids g fb bs t 8 i.kind _ p q _ c _ c' w (.error 13) h hG hT ht' k5 (fun W hW _ _ => wkids_deep g fb bs (t + 1) _ _ p q _ c _ c' W hW)
    | succ d =>
      obtain ⟨q', hq', hk⟩ := hi
      obtain rfl : q' = q := by obtain ⟨_, _, _, _, _, _, e, _⟩ := hq'.cells; simp only [Value.slice.injEq] at e; exact e.1.symm
      rcases k5 with k5 | k5
      · rw [encI_arr d t i ht' k5, k5]
        exact enc_kids g fb bs t o 5 _ p q' _ c _ c' w _ h hG hT ht' (.inl rfl) (fun W hW hto hTW => wkids_arr d (IH d rfl) g fb bs (t + 1) o i.kids _ p q' _ c _ c' W hW hG hTW hd (by omega) rfl hfh.2 h4 (kids_low hk (low W hto)) hf.2)
      · rw [encI_map d t i ht' k5, k5]
        by_cases ho : i.kids.length % 2 = 1
        · rw [if_pos ho]
          exact enc_kids g fb bs t o 6 _ p q' _ c _ c' w _ h hG hT ht' (.inr rfl) (fun W hW hto hTW => wkids_odd g fb bs (t + 1) o _ p q' _ c _ c' W hW (by omega) ho hfh.2)
        · rw [if_neg ho]
          exact enc_kids g fb bs t o 6 _ p q' _ c _ c' w _ h hG hT ht' (.inr rfl) (fun W hW hto hTW => wkids_map d (IH d rfl) g fb bs (t + 1) o i.kids _ p q' _ c _ c' W hW hG hTW hd (by omega) rfl (by omega) hfh.2 h4 (kids_low hk (low W hto)) hf.2)
  · exact enc_none d g fb bs t o i _ p q _ c _ c' w h hG hT ht' (by omega) h1
theorem enc_ok : ∀ d, EncOK d := by
  intro d
  induction d with
  | zero => exact enc_one 0 (fun d' e => by omega)
  | succ d ih => exact enc_one (d + 1) (fun d' e => by cases e; exact ih)
/-- What Encode answers. -/
def ECPost (w : World) (R : Except Nat Bs) (e : Ending) (w' : World) : Prop :=
  Below w.heap.size w w' ∧ ((∃ (b : Bs) (p : Option Addr) (c : Nat), R = .ok b ∧ e = .returned (.tuple #[.slice p b.length c, .int .i64 0]) ∧ w'.ownsRow w.heap.size 5 1 (.slice p b.length c) b.length (Lib.byteCells b))
    ∨ (∃ (k : Nat), R = .error k ∧ 0 < k ∧ k < 100 ∧ e = .returned (.tuple #[.slice none 0 0, .int .i64 (k : Int)])))
set_option maxRecDepth 100000 in
set_option maxHeartbeats 2000000 in
/-- Encode. -/
theorem Encode_any (i : It) (p q : Option Addr) (L c M c' : Nat) (kd n : Int) (w : World) (hi : ItOk w (fun b => b < w.heap.size) 8 [.int .u8 kd, .int .u64 n, .slice p L c, .slice q M c'] i) (hf : fitC 8 i) (hT : Tw w) :
    Calls Tryd.prog 9 #[.agg #[.int .u8 kd, .int .u64 n, .slice p L c, .slice q M c']] w (ECPost w (encC i)) := by
  have hw : Wt ((w.alloc (.cells #[.int .u8 kd, .int .u64 n, .slice p L c, .slice q M c'] 29)).alloc (.cells #[.slice none 0 0, .bool false, .int .i64 0, .int .i64 0] 47)) (w.heap.size + 1) none [] 0 0 := by
    refine ⟨.slice none 0 0, false, [], ?_, rfl, World.ownsRow_nil _ _ _ 1, by simp, .inl ⟨rfl, rfl⟩⟩
    exact heap_alloc2_new w _ _
  have hb : Below w.heap.size w ((w.alloc (.cells #[.int .u8 kd, .int .u64 n, .slice p L c, .slice q M c'] 29)).alloc (.cells #[.slice none 0 0, .bool false, .int .i64 0, .int .i64 0] 47)) := ((Below.refl _ _).alloc (Nat.le_refl _) _).alloc (by rw [alloc_sz]; omega) _
  have hG : Gw (w.heap.size + 1) := ⟨fun k hk => by have := hT.1.lt k hk; omega, by have := hT.2.lt; omega⟩
  have HE := enc_ok 8 (w.heap.size + 1) none [] 0 0 i _ _ _ _ _ hw hG (hT.below hb) rfl (by decide) hf ((hi.below hb).mono (fun b hb _ => by omega))
  have HB : Hid (Below w.heap.size w ((w.alloc (.cells #[.int .u8 kd, .int .u64 n, .slice p L c, .slice q M c'] 29)).alloc (.cells #[.slice none 0 0, .bool false, .int .i64 0, .int .i64 0] 47))) := hb
  have hL : (∀ k, encI 8 0 i = .error k → encC i = .error k) := fun k e => by unfold encC; rw [e]
  have hM : (∀ b t, encI 8 0 i = .ok (b, t) → encC i = if 8192 < b.length then .error 3 else .ok b) := fun b t e => by unfold encC; rw [e]
  clear hw hb hG hi
  go_enter Tryd.func9, Tryd.ntmps9
  go_wp2_with fail
  go_at_call 13
  refine HE.mono ?_
  rintro e w1 ⟨fb', zs, t', h1, h2, (⟨b, hR, hz, rfl⟩ | ⟨k, hR, hk0, hk1, rfl⟩)⟩
  · obtain ⟨fv, lg, hs, k1, k2, k3, k4, k5⟩ := h2
    have c0 := k1.form
    have c1 := k1.long
    have hlow : Below w.heap.size w w1 := HB.out.trans ((h1.low (fun b e => by cases e) (by have := k1.lt; have := HB.out.size; rw [alloc_sz, alloc_sz]; omega)).mono (by omega))
    have HEQ : Hid (encC i = if 8192 < b.length then .error 3 else .ok b) := hM b t' hR
    rw [List.nil_append] at hz
    obtain ⟨pf, cf, e⟩ := owns_slice k3
    subst e
    clear HE hL hM
    rcases k5 with ⟨rfl, rfl⟩ | ⟨rfl, k5⟩
    · go_wp2_with fail
      go_ret2
      subst hz
      rw [HEQ.out, if_neg (by omega)]
      exact ⟨hlow, .inl ⟨_, pf, cf, rfl, rfl, ⟨k3.1, by rcases k3.2 with a | ⟨x, y, z, a, b, d⟩; exact .inl a; exact .inr ⟨x, y, z, a, by omega, d⟩⟩⟩⟩
    · go_wp2_with fail
      go_ret2
      subst hz
      rw [HEQ.out, if_pos k5]
      exact ⟨hlow, .inr ⟨3, rfl, by decide, by decide, rfl⟩⟩
  · have hlow : Below w.heap.size w w1 := HB.out.trans ((h1.low (fun b e => by cases e) (by have := HB.out.size; rw [alloc_sz, alloc_sz]; omega)).mono (by omega))
    have HEQ : Hid (encC i = .error k) := hL k hR
    have hkb : ((k : Int) != 0) = true := by simp; omega
    have hkI : (k : Int) < 100 := by omega
    clear HE hL hM
    go_wp2_with fail
    go_ret2
    rw [HEQ.out]
    exact ⟨hlow, .inr ⟨k, rfl, hk0, hk1, rfl⟩⟩
end Go.Proofs.YtfmldcibhllpcabDoor
