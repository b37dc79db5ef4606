/-
  The reader's texts: sign, text.
-/
import Derived.Test.YtbobgebhdafciabDoorJBu
namespace Go.Proofs.YtbobgebhdafciabDoor
open Go.Shelf Go.RowKit
set_option linter.unusedVariables false
set_option linter.unusedSimpArgs false

theorem add_none (b off N : Nat) : (⟨b, off, none⟩ : Addr).add N = ⟨b, off + N, none⟩ := by unfold Addr.add; split <;> simp_all
theorem ret2ib {k : IntKind} {a b : Int} {t s : Bool} (h : a = b) (hs : t = s) : Ending.returned (.tuple #[.int k a, .bool t]) = .returned (.tuple #[.int k b, .bool s]) := by rw [h, hs]
theorem rest_end {w w1 w2 : World} {g : Nat} {rv nv : Value} {o : Nat} {p : Option Addr} {c m : Nat} {ys : Bs} (hb : But g w w1) (h : RdAt w1 g rv nv o) (h2 : Below w1.heap.size w1 w2) (hr : RestV w1 g p c ys) (hm : ys.length = m) :
    But g w (w2.setCell ⟨g, 0, none⟩ (.slice p m c)) ∧ Rd (w2.setCell ⟨g, 0, none⟩ (.slice p m c)) g ys nv o := by
  subst hm
  have hlt := h.lt
  refine ⟨(hb.trans (But.ofBelow h2)).trans (But.setCell g w2 0 _), p, c, (h.same (h2.block g hlt)).setRest _, hr.keep (fun k hk => ?_)⟩
  rw [Below.heap_setCell _ _ _ _ (by simp; omega)]
  exact h2.block k (by omega)
/-- What a sign that stands for itself is. -/
theorem self_end {w W : World} {g : Nat} {bs : Bs} {nv : Value} {o R N : Nat} {x : Int} {t : Bool} (he : But g w W ∧ Rd W g (bs.drop N) nv o) (hS : signS bs = if (R ≠ 65533 ∨ 1 < N) ∧ 32 ≤ R then some (R, bs.drop N) else none) (hx : (R : Int) = x) (hR : R < 1114112) (ht : t = decide ((x ≠ 65533 ∨ 1 < N) ∧ 32 ≤ x)) :
    But g w W ∧ ((∃ (r : Nat) (ys : Bs), signS bs = some (r, ys) ∧ r < 1114112 ∧ Ending.returned (.tuple #[.int .i32 x, .bool t]) = .returned (.tuple #[.int .i32 r, .bool true]) ∧ Rd W g ys nv o) ∨ (signS bs = none ∧ (∃ v, Ending.returned (.tuple #[.int .i32 x, .bool t]) = .returned (.tuple #[.int .i32 v, .bool false])) ∧ ∃ ys, Rd W g ys nv o)) := by
  refine ⟨he.1, ?_⟩
  by_cases q : (R ≠ 65533 ∨ 1 < N) ∧ 32 ≤ R
  · exact .inl ⟨R, _, by rw [hS, if_pos q], hR, ret2ib hx.symm (by rw [ht]; simp; omega), he.2⟩
  · exact .inr ⟨by rw [hS, if_neg q], ⟨x, ret2ib rfl (by rw [ht]; simp; omega)⟩, _, he.2⟩

set_option maxRecDepth 100000 in
set_option maxHeartbeats 4000000 in
/-- sign. -/
theorem sign_any (g : Nat) (bs : Bs) (nv : Value) (o : Nat) (w : World) (h : Rd w g bs nv o) (hT : Tabs w) :
    Calls Tryd.prog 40 #[.pointer (some ⟨g, 0, none⟩)] w fun e w' => But g w w' ∧ ((∃ (r : Nat) (ys : Bs), signS bs = some (r, ys) ∧ r < 1114112 ∧ e = .returned (.tuple #[.int .i32 r, .bool true]) ∧ Rd w' g ys nv o) ∨ (signS bs = none ∧ (∃ v, e = .returned (.tuple #[.int .i32 v, .bool false])) ∧ ∃ ys, Rd w' g ys nv o)) := by
  have HT := take_any ⟨#[92]⟩ g bs nv o w h
  have HE := fun W zs (hz : Rd W g zs nv o) => escape_any g zs nv o W hz
  have hg := h.lt
  go_enter Tryd.func40, Tryd.ntmps40
  go_wp2_with fail
  go_at_call 15
  refine HT.mono ?_
  clear HT
  rintro e w1 ⟨c1, (⟨zs, b1, rfl, b3⟩ | ⟨b1, rfl, b3⟩)⟩
  · go_wp2_with fail
    go_at_call 52
    refine (HE _ _ b3).mono ?_
    rintro e w2 ⟨c2, (⟨r, us, d1, d2, rfl, d4⟩ | ⟨d1, ⟨v, rfl⟩, us, d4⟩)⟩
    all_goals go_wp2_with fail
    all_goals go_ret2
    · exact ⟨c1.trans c2, .inl ⟨r, us, by unfold signS; rw [b1]; exact d1, d2, rfl, d4⟩⟩
    · exact ⟨c1.trans c2, .inr ⟨by unfold signS; rw [b1]; exact d1, ⟨v, rfl⟩, us, d4⟩⟩
  · have hT1 : Tabs w1 := hT.but h c1
    obtain ⟨p, c, h1, h2⟩ := b3
    have HD := decode_any p c g bs w1 hT1 h2
    have hf := dec_facts bs
    have hsg : signS bs = selfS bs := by unfold signS; rw [b1]
    obtain ⟨R, hR⟩ : ∃ R, (Lib.decodeGo ⟨bs.toArray⟩).1 = R := ⟨_, rfl⟩
    obtain ⟨N, hN⟩ : ∃ N, (Lib.decodeGo ⟨bs.toArray⟩).2 = N := ⟨_, rfl⟩
    rw [hR, hN] at hf HD
    have hS : signS bs = if (R ≠ 65533 ∨ 1 < N) ∧ 32 ≤ R then some (R, bs.drop N) else none := by rw [hsg]; unfold selfS; rw [hR, hN]
    obtain ⟨n, hn⟩ : ∃ n, bs.length = n := ⟨_, rfl⟩
    have e1 := h1.rest
    have f1 := h1.frozen 0
    have hd := h2.drop N hf.2.1
    have hcap := h2.cap
    rw [hn] at e1 HD hf hcap
    obtain ⟨x, hx⟩ : ∃ x : Int, (R : Int) = x := ⟨_, rfl⟩
    rw [hx] at HD
    have hN4 : N ≤ n := hf.2.1
    have H : Hid (signS bs = (if (R ≠ 65533 ∨ 1 < N) ∧ 32 ≤ R then some (R, bs.drop N) else none) ∧ RdAt w1 g (.slice p n c) nv o ∧ RestV w1 g (if c = N then p else p.map (fun x => x.add N)) (c - N) (bs.drop N) ∧ (R : Int) = x ∧ R < 1114112 ∧ (bs.drop N).length = n - N) := ⟨hS, by rw [← hn]; exact h1, hd, hx, hf.1, by simp [hn]⟩
    have hx0 : 0 ≤ x := by omega
    have hx1 : x ≤ 1114111 := by omega
    have hg1 := h1.lt
    have hsp : ∀ a, p = some a → a.spot = none := fun a ha => (h2.early a ha).2
    clear hS h1 h2 hd hf hsg hR hx b1 hT hT1 h HE
    by_cases q : c = N
    · have H2 : Hid (RestV w1 g p (c - N) (bs.drop N)) := by have := H.out.2.2.1; rw [if_pos q] at this; exact this
      subst q
      go_wp2_with (go_at_call 47; refine HD.mono ?_; rintro e w2 ⟨rfl, hb2⟩; have e2 := (hb2.cell (p := ⟨g, 0, none⟩) hg1).trans e1; have f2 := (hb2.frozen (p := ⟨g, 0, none⟩) hg1).trans f1)
      all_goals go_ret2
      all_goals refine self_end (rest_end c1 H.out.2.1 hb2 (by have := H2.out; rw [Nat.sub_self] at this; exact this) (by have := H.out.2.2.2.2.2; omega)) H.out.1 (by have := H.out.2.2.2.1; omega) H.out.2.2.2.2.1 ?_
      all_goals (first | rfl | (simp; omega) | (symm; simp; omega) | trace_state)
    · have hp : ∃ b off, p = some ⟨b, off, none⟩ := by
        cases hp : p with
        | none => have := H.out.2.2.1.nil (by rw [if_neg q, hp]; rfl); omega
        | some a =>
          subst hp
          obtain ⟨b, off, sp⟩ := a
          have := hsp _ rfl
          simp only at this
          subst this
          exact ⟨b, off, rfl⟩
      obtain ⟨b, off, rfl⟩ := hp
      have H2 : Hid (RestV w1 g (some ⟨b, off + N, none⟩) (c - N) (bs.drop N)) := by have := H.out.2.2.1; rw [if_neg q, Option.map_some, add_none] at this; exact this
      have hcN : N < c := by omega
      go_wp2_with (go_at_call 47; refine HD.mono ?_; rintro e w2 ⟨rfl, hb2⟩; have e2 := (hb2.cell (p := ⟨g, 0, none⟩) hg1).trans e1; have f2 := (hb2.frozen (p := ⟨g, 0, none⟩) hg1).trans f1)
      all_goals go_ret2
      all_goals refine self_end (rest_end c1 H.out.2.1 hb2 H2.out H.out.2.2.2.2.2) H.out.1 (by have := H.out.2.2.2.1; omega) H.out.2.2.2.2.1 ?_
      all_goals (first | rfl | (simp; omega) | (symm; simp; omega) | trace_state)

theorem signS_len {xs ys : Bs} {r : Nat} (h : signS xs = some (r, ys)) : ys.length < xs.length := by
  have hunit : ∀ (k a : Nat) (xs ys : Bs) (r : Nat), unitS k a xs = some (r, ys) → ys.length ≤ xs.length := by
    intro k
    induction k with
    | zero => intro a xs ys r h; simp [unitS] at h; rw [h.2]; exact Nat.le_refl _
    | succ k ih =>
      intro a xs ys r h
      cases xs with
      | nil => simp [unitS] at h
      | cons c xs =>
        simp only [unitS] at h
        split at h
        · have := ih _ _ _ _ h; simp; omega
        · cases h
  have hunits : ∀ (xs ys : Bs) (r : Nat), unitsS xs = some (r, ys) → ys.length ≤ xs.length := by
    intro xs ys r h
    unfold unitsS at h
    split at h
    · cases h
    · rename_i u zs hu
      have h1 := hunit _ _ _ _ _ hu
      split at h
      · cases h; exact h1
      · split at h
        · cases h
        · unfold lowS at h
          split at h
          · cases h
          · rename_i ts ht
            have h2 := tk_len ht
            split at h
            · cases h
            · rename_i v us hv
              have h3 := hunit _ _ _ _ _ hv
              split at h
              · cases h
              · simp only [Option.some.injEq, Prod.mk.injEq] at h
                obtain ⟨_, rfl⟩ := h
                omega
  unfold signS at h
  split at h
  · rename_i zs hz
    have h1 := tk_len hz
    simp at h1
    unfold escS at h
    split at h
    · cases h
    · rename_i c us
      simp at h1
      split at h
      · have := hunits _ _ _ h; omega
      · split at h
        · cases h; omega
        · cases h
  · unfold selfS at h
    split at h
    · rename_i hc
      cases h
      have hf := dec_facts xs
      have hne : xs ≠ [] := by
        intro e
        subst e
        have e1 : (Lib.decodeGo ⟨([] : Bs).toArray⟩) = (65533, 0) := rfl
        rw [e1] at hc
        simp at hc
      have h1 := hf.2.2.2 hne
      have h2 := hf.2.1
      rw [List.length_drop]
      omega
    · cases h
theorem But.behind {g B : Nat} {w w2 w3 : World} (h : But g w w2) (k : Below B w2 w3) (hB : w.heap.size ≤ B) : But g w w3 :=
  ⟨k.os.trans h.os, k.tape.trans h.tape, k.output.trans h.output, Nat.le_trans h.size k.size, fun i hi hg => (k.block i (by omega)).trans (h.block i hi hg)⟩
/-- How many bytes are left, read off the memory. -/
def restLen (g : Nat) (w : World) : Nat := match w.cell? ⟨g, 0, none⟩ with
  | some (.slice _ n _) => n
  | _ => 0
theorem restLen_eq {w : World} {g : Nat} {bs : Bs} {nv : Value} {o : Nat} (h : Rd w g bs nv o) : restLen g w = bs.length := by
  obtain ⟨p, c, h1, _⟩ := h
  unfold restLen
  rw [h1.rest]
theorem enc_len (r : Nat) : (Lib.encodeRune r).length ≤ 4 := by
  unfold Lib.encodeRune Lib.encodeRuneZ
  rw [List.length_map]
  repeat' split
  all_goals simp

set_option maxRecDepth 100000 in
set_option maxHeartbeats 4000000 in
/-- text. -/
theorem text_any (g : Nat) (bs : Bs) (nv : Value) (o : Nat) (w : World) (h : Rd w g bs nv o) (hT : Tabs w) (hl : bs.length ≤ 100000) :
    Calls Tryd.prog 27 #[.pointer (some ⟨g, 0, none⟩)] w fun e w' => But g w w' ∧ ((∃ (s ys : Bs), textS bs = some (s, ys) ∧ e = .returned (.tuple #[.string ⟨s.toArray⟩, .bool true]) ∧ Rd w' g ys nv o) ∨ (textS bs = none ∧ e = .returned (.tuple #[.string ⟨#[]⟩, .bool false]) ∧ ∃ ys, Rd w' g ys nv o)) := by
  have HT := take_any ⟨#[34]⟩ g bs nv o w h
  have HT2 := fun W zs (hz : Rd W g zs nv o) => take_any ⟨#[34]⟩ g zs nv o W hz
  have HS := fun W zs (hz : Rd W g zs nv o) (ht : Tabs W) => sign_any g zs nv o W hz ht
  have hg := h.lt
  go_enter Tryd.func27, Tryd.ntmps27
  go_wp2_with fail
  go_at_call 15
  refine HT.mono ?_
  clear HT
  rintro e w1 ⟨c1, (⟨zs, b1, rfl, b3⟩ | ⟨b1, rfl, b3⟩)⟩
  · have hT1 : Tabs w1 := hT.but h c1
    have hzl := tk_len b1
    simp at hzl
    have hg1 := b3.lt
    have hB := builder_new w1
    obtain ⟨B, hBs⟩ : ∃ B, w1.heap.size = B := ⟨_, rfl⟩
    obtain ⟨W, hW⟩ : ∃ W, w1.alloc (.cells #[.pointer none, .slice none 0 0] 78) = W := ⟨_, rfl⟩
    have hbw : Below w1.heap.size w1 W := by rw [← hW]; exact (Below.refl _ _).alloc (Nat.le_refl _) _
    have HH : Hid (Lib.IsBuilderF 78 5 B B (Lib.byteCells []) W ∧ Rd W g zs nv o ∧ Tabs W ∧ But g w W ∧ B ≤ W.heap.size ∧ g < B ∧ w.heap.size ≤ B ∧ textS bs = txtS (zs.length + 1) [] zs) := by
      refine ⟨?_, b3.below hbw, hT1.below hbw, c1.trans (But.ofBelow hbw), ?_, by omega, by rw [← hBs]; exact c1.size, by unfold textS; rw [b1]⟩
      · rw [← hW, ← hBs]; exact hB
      · rw [← hBs]; exact hbw.size
    have hTw : Tabs w := hT
    clear hB hbw hT1 b3 c1 b1 hT h
    go_wp2_with fail
    clear hW hBs
    go_loopw [5] (fun v5 wr => ∃ (f : Nat) (acc ys : Bs), textS bs = txtS (f + 1) acc ys ∧ ys.length ≤ f ∧ acc.length + 4 * ys.length ≤ 400000 ∧ Lib.IsBuilderF 78 5 B B (Lib.byteCells acc) wr ∧ Rd wr g ys nv o ∧ Tabs wr ∧ But g w wr ∧ B ≤ wr.heap.size) (fun _ wr => restLen g wr)
    case atStart => exact ⟨zs.length, [], zs, HH.out.2.2.2.2.2.2.2, Nat.le_refl _, by simp; omega, HH.out.1, HH.out.2.1, HH.out.2.2.1, HH.out.2.2.2.1, HH.out.2.2.2.2.1⟩
    case round =>
      obtain ⟨f, acc, ys, hS, hf, ha, hI, hr, hT, hb, hBz⟩ := hrel
      have hgB : g < B := HH.out.2.2.2.2.2.1
      have hwB : w.heap.size ≤ B := HH.out.2.2.2.2.2.2.1
      have H : Hid (textS bs = txtS (f + 1) acc ys ∧ ys.length ≤ f ∧ acc.length + 4 * ys.length ≤ 400000 ∧ restLen g wr = ys.length ∧ But g w wr) := ⟨hS, hf, ha, restLen_eq hr, hb⟩
      clear hS hf ha HH hzl hl hb
      go_wp2_with fail
      go_at_call 15
      refine (HT2 _ _ hr).mono ?_
      rintro e w2 ⟨c2, (⟨us, b1, rfl, b3⟩ | ⟨b1, rfl, b3⟩)⟩
      · have hI2 := builder_but hI c2 hgB
        have HStr := jString B acc w2 hI2 (Nat.le_trans hBz c2.size)
        go_wp2_with (go_at_call 42; refine HStr.mono ?_; rintro e w3 ⟨rfl, hb3⟩)
        go_ret2
        exact ⟨(H.out.2.2.2.2.trans c2).behind hb3 hwB, .inl ⟨acc, us, by rw [H.out.1, txtS, b1], rfl, b3.keep (hb3.mono (by omega))⟩⟩
      · have hT2 := hT.but hr c2
        go_wp2_with fail
        go_at_call 40
        refine (HS _ _ b3 hT2).mono ?_
        rintro e w3 ⟨c3, (⟨r, vs, d1, d2, rfl, d4⟩ | ⟨d1, ⟨v, rfl⟩, vs, d4⟩)⟩
        · have hT3 := hT2.but b3 c3
          have hI3 := builder_but (builder_but hI c2 hgB) c3 hgB
          have hlen := signS_len d1
          have HW := jRune B acc r d2 w3 hI3 (by have := H.out; omega) (Nat.le_trans hBz (Nat.le_trans c2.size c3.size))
          go_wp2_with (go_at_call 41; refine HW.mono ?_; rintro e w4 ⟨⟨n, rfl⟩, hI4, hb4⟩)
          obtain ⟨f', hf'⟩ : ∃ f', f = f' + 1 := ⟨f - 1, by have := H.out; omega⟩
          have hel := enc_len r
          have hk4 : Rd w4 g vs nv o := d4.keep (hb4.mono (by omega))
          refine ⟨⟨f', acc ++ Lib.encodeRune r, vs, by rw [H.out.1, txtS, b1]; simp only; rw [d1, hf'], by have := H.out; omega, by rw [List.length_append]; have := H.out; omega, hI4, hk4, hT3.keep (fun k hk => hb4.block k ?_), ((H.out.2.2.2.2.trans c2).trans c3).behind hb4 hwB, Nat.le_trans (Nat.le_trans hBz (Nat.le_trans c2.size c3.size)) hb4.size⟩, ?_⟩
          · exact Nat.lt_of_lt_of_le (hTw.lt k hk) hwB
          · rw [restLen_eq hk4, H.out.2.2.2.1]; exact hlen
        · go_wp2_with fail
          go_ret2
          exact ⟨(H.out.2.2.2.2.trans c2).trans c3, .inr ⟨by rw [H.out.1, txtS, b1]; simp only; rw [d1], rfl, vs, d4⟩⟩
  · go_wp2_with fail
    go_ret2
    exact ⟨c1, .inr ⟨by unfold textS; rw [b1], rfl, bs, b3⟩⟩
end Go.Proofs.YtbobgebhdafciabDoor
