/-
  The walk of JsonsBlanks, at the gap 2.
-/
import Derived.Test.YtbobgebhdafciaaDoorJTw
import Derived.Test.YtbobgebhdafciaaDoorJPa
import Derived.Test.YtbobgebhdafciaaDoorJVy
namespace Go.Proofs.YtbobgebhdafciaaDoor
open Go.Shelf Go.RowKit
set_option linter.unusedVariables false
set_option linter.unusedSimpArgs false

set_option maxRecDepth 100000 in
set_option maxHeartbeats 40000000 in
/-- JsonsBlanks. -/
theorem JsonsBlanks_2 (v : Vt) (p : Option Addr) (c : Nat) (gap : Int) (w : World) (hv : VOk w 5 [.int .u8 v.kind, .string ⟨v.text.toArray⟩, .slice p v.kids.length c] v) (hg0 : 0 ≤ gap) (hg1 : gap < 256) (hr' : gap % 3 = 2) (hT : Tabs w) :
    Calls Tryd.prog 5 #[.agg #[.int .u8 v.kind, .string ⟨v.text.toArray⟩, .slice p v.kids.length c], .int .u8 gap] w fun e w' => e = .returned (.bool true) ∧ Below w.heap.size w w' := by
  have HT : Hid (Tabs w) := hT
  have HV : Hid (VOk w 5 [.int .u8 v.kind, .string ⟨v.text.toArray⟩, .slice p v.kids.length c] v) := hv
  obtain ⟨vk, hvk⟩ : ∃ x, v.kind = x := ⟨_, rfl⟩
  obtain ⟨vt, hvt⟩ : ∃ x, v.text = x := ⟨_, rfl⟩
  obtain ⟨vn, hvn⟩ : ∃ x, v.kids.length = x := ⟨_, rfl⟩
  rw [hvk, hvt, hvn] at HV ⊢
  clear hv hT hvk hvt hvn
  have hr2 : gap.tmod 3 = 2 := by rw [Int.tmod_eq_emod_of_nonneg hg0]; exact hr'
  go_enter Tryd.func5, Tryd.ntmps5
  go_wp2_with fail
  go_at_call 8
  have hbA : Below w.heap.size w (w.alloc (.cells #[.int .u8 vk, .string ⟨vt.toArray⟩, .slice p vn c] 27)) := (Below.refl _ w).alloc (Nat.le_refl _) _
  have hszA : (w.alloc (.cells #[.int .u8 vk, .string ⟨vt.toArray⟩, .slice p vn c] 27)).heap.size = w.heap.size + 1 := by simp
  have hrow := alloc_new w (.cells #[.int .u8 vk, .string ⟨vt.toArray⟩, .slice p vn c] 27)
  refine (Awake_any _ (HT.out.below hbA)).mono ?_
  rintro e w1 ⟨rfl, b1⟩
  have HB1 : Hid (Below w.heap.size w w1) := hbA.trans (b1.mono (by rw [hszA]; omega))
  have hrow1 : w1.heap[w.heap.size]? = some (.cells #[.int .u8 vk, .string ⟨vt.toArray⟩, .slice p vn c] 27) := by rw [b1.block _ (by rw [hszA]; omega)]; exact hrow
  have k0 : w1.cell? ⟨w.heap.size, 0, none⟩ = some (.int .u8 vk) := by simp [World.cell?, hrow1]
  have k1 : w1.cell? ⟨w.heap.size, 1, none⟩ = some (.string ⟨vt.toArray⟩) := by simp [World.cell?, hrow1]
  have k2 : w1.cell? ⟨w.heap.size, 2, none⟩ = some (.slice p vn c) := by simp [World.cell?, hrow1]
  clear b1 hrow hbA hszA hrow1
  go_wp2_with fail
  obtain ⟨la, hla⟩ : ∃ l, vtext [] 5 v = l := ⟨_, rfl⟩
  obtain ⟨lb, hlb⟩ : ∃ l, vtext [9, 32, 10] 5 v = l := ⟨_, rfl⟩
  have HLA : Hid (vtext [] 5 v = la ∧ vtext [9, 32, 10] 5 v = lb) := ⟨hla, hlb⟩
  have HTa := fun (W : World) (hW : Below w.heap.size w W) => Text_any 5 (Nat.le_refl _) v [.int .u8 vk, .string ⟨vt.toArray⟩, .slice p vn c] [] W (by decide) (VOk.keep hW 5 _ _ HV.out)
  have HTb := fun (W : World) (hW : Below w.heap.size w W) => Text_any 5 (Nat.le_refl _) v [.int .u8 vk, .string ⟨vt.toArray⟩, .slice p vn c] [9, 32, 10] W (by decide) (VOk.keep hW 5 _ _ HV.out)
  simp only [hla] at HTa
  simp only [hlb] at HTb
  change ∀ W, _ → Calls _ _ #[_, Value.int .i64 5, Value.string ⟨#[]⟩] W _ at HTa
  change ∀ W, _ → Calls _ _ #[_, Value.int .i64 5, Value.string ⟨#[9, 32, 10]⟩] W _ at HTb
  have hz1 : w.heap.size < w1.heap.size := by
    cases hh : w1.heap[w.heap.size]? with
    | none => simp [World.cell?, hh] at k0
    | some x => exact (Array.getElem?_eq_some_iff.1 hh).1
  have HZ1 : Hid (w.heap.size < w1.heap.size) := hz1
  have q0 : (w1.alloc (.cells #[.string ⟨#[32]⟩, .string ⟨#[13, 10]⟩, .string ⟨#[9, 32, 10]⟩] 9)).cell? ⟨w.heap.size, 0, none⟩ = some (.int .u8 vk) := more_cell _ k0
  have q1 : (w1.alloc (.cells #[.string ⟨#[32]⟩, .string ⟨#[13, 10]⟩, .string ⟨#[9, 32, 10]⟩] 9)).cell? ⟨w.heap.size, 1, none⟩ = some (.string ⟨vt.toArray⟩) := more_cell _ k1
  have q2 : (w1.alloc (.cells #[.string ⟨#[32]⟩, .string ⟨#[13, 10]⟩, .string ⟨#[9, 32, 10]⟩] 9)).cell? ⟨w.heap.size, 2, none⟩ = some (.slice p vn c) := more_cell _ k2
  have HQ : Hid ((w1.alloc (.cells #[.string ⟨#[32]⟩, .string ⟨#[13, 10]⟩, .string ⟨#[9, 32, 10]⟩] 9)).cell? ⟨w1.heap.size, 2, none⟩ = some (.string ⟨#[9, 32, 10]⟩) ∧ w1.heap.size < (w1.alloc (.cells #[.string ⟨#[32]⟩, .string ⟨#[13, 10]⟩, .string ⟨#[9, 32, 10]⟩] 9)).heap.size ∧ w.heap.size < (w1.alloc (.cells #[.string ⟨#[32]⟩, .string ⟨#[13, 10]⟩, .string ⟨#[9, 32, 10]⟩] 9)).heap.size) := ⟨by simp, by simp, by simp; omega⟩
  have HBd : Hid (Below w.heap.size w w1.drew) := HB1.out.drew
  have HBl : Hid (Below w.heap.size w (w1.alloc (.cells #[.string ⟨#[32]⟩, .string ⟨#[13, 10]⟩, .string ⟨#[9, 32, 10]⟩] 9)).drew) := (HB1.out.trans (((Below.refl _ w1).alloc (Nat.le_refl _) _).mono HB1.out.size)).drew
  have T1 : ∀ w2, Below w1.drew.heap.size w1.drew w2 → Hid (Below w.heap.size w w2) ∧ (w2.cell? ⟨w.heap.size, 0, none⟩ = some (.int .u8 vk) ∧ w2.cell? ⟨w.heap.size, 1, none⟩ = some (.string ⟨vt.toArray⟩) ∧ w2.cell? ⟨w.heap.size, 2, none⟩ = some (.slice p vn c)) ∧ ((w2.alloc (.cells #[.string ⟨#[32]⟩, .string ⟨#[13, 10]⟩, .string ⟨#[9, 32, 10]⟩] 9)).cell? ⟨w.heap.size, 0, none⟩ = some (.int .u8 vk) ∧ (w2.alloc (.cells #[.string ⟨#[32]⟩, .string ⟨#[13, 10]⟩, .string ⟨#[9, 32, 10]⟩] 9)).cell? ⟨w.heap.size, 1, none⟩ = some (.string ⟨vt.toArray⟩) ∧ (w2.alloc (.cells #[.string ⟨#[32]⟩, .string ⟨#[13, 10]⟩, .string ⟨#[9, 32, 10]⟩] 9)).cell? ⟨w.heap.size, 2, none⟩ = some (.slice p vn c)) ∧ Hid (w.heap.size < w2.heap.size ∧ w.heap.size < (w2.alloc (.cells #[.string ⟨#[32]⟩, .string ⟨#[13, 10]⟩, .string ⟨#[9, 32, 10]⟩] 9)).heap.size) := fun w2 b2 => by
    have e0 := (b2.cell (p := ⟨w.heap.size, 0, none⟩) HZ1.out).trans k0
    have e1 := (b2.cell (p := ⟨w.heap.size, 1, none⟩) HZ1.out).trans k1
    have e2 := (b2.cell (p := ⟨w.heap.size, 2, none⟩) HZ1.out).trans k2
    have hs : w.heap.size < w2.heap.size := Nat.lt_of_lt_of_le HZ1.out b2.size
    exact ⟨HBd.out.trans (b2.mono HBd.out.size), ⟨e0, e1, e2⟩, ⟨more_cell _ e0, more_cell _ e1, more_cell _ e2⟩, hs, by rw [World.size_alloc]; omega⟩
  have T2 : ∀ w2, Below (w1.alloc (.cells #[.string ⟨#[32]⟩, .string ⟨#[13, 10]⟩, .string ⟨#[9, 32, 10]⟩] 9)).drew.heap.size (w1.alloc (.cells #[.string ⟨#[32]⟩, .string ⟨#[13, 10]⟩, .string ⟨#[9, 32, 10]⟩] 9)).drew w2 → Hid (Below w.heap.size w w2) ∧ (w2.cell? ⟨w.heap.size, 0, none⟩ = some (.int .u8 vk) ∧ w2.cell? ⟨w.heap.size, 1, none⟩ = some (.string ⟨vt.toArray⟩) ∧ w2.cell? ⟨w.heap.size, 2, none⟩ = some (.slice p vn c)) ∧ ((w2.alloc (.cells #[.string ⟨#[32]⟩, .string ⟨#[13, 10]⟩, .string ⟨#[9, 32, 10]⟩] 9)).cell? ⟨w.heap.size, 0, none⟩ = some (.int .u8 vk) ∧ (w2.alloc (.cells #[.string ⟨#[32]⟩, .string ⟨#[13, 10]⟩, .string ⟨#[9, 32, 10]⟩] 9)).cell? ⟨w.heap.size, 1, none⟩ = some (.string ⟨vt.toArray⟩) ∧ (w2.alloc (.cells #[.string ⟨#[32]⟩, .string ⟨#[13, 10]⟩, .string ⟨#[9, 32, 10]⟩] 9)).cell? ⟨w.heap.size, 2, none⟩ = some (.slice p vn c)) ∧ Hid (w.heap.size < w2.heap.size ∧ w.heap.size < (w2.alloc (.cells #[.string ⟨#[32]⟩, .string ⟨#[13, 10]⟩, .string ⟨#[9, 32, 10]⟩] 9)).heap.size) ∧ w2.cell? ⟨w1.heap.size, 2, none⟩ = some (.string ⟨#[9, 32, 10]⟩) := fun w2 b2 => by
    have e0 := (b2.cell (p := ⟨w.heap.size, 0, none⟩) HQ.out.2.2).trans q0
    have e1 := (b2.cell (p := ⟨w.heap.size, 1, none⟩) HQ.out.2.2).trans q1
    have e2 := (b2.cell (p := ⟨w.heap.size, 2, none⟩) HQ.out.2.2).trans q2
    have hs : w.heap.size < w2.heap.size := Nat.lt_of_lt_of_le HQ.out.2.2 b2.size
    exact ⟨HBl.out.trans (b2.mono HBl.out.size), ⟨e0, e1, e2⟩, ⟨more_cell _ e0, more_cell _ e1, more_cell _ e2⟩, ⟨hs, by rw [World.size_alloc]; omega⟩, (b2.cell (p := ⟨w1.heap.size, 2, none⟩) HQ.out.2.1).trans HQ.out.1⟩
  have T3 : ∀ w2 w3, Hid (Below w.heap.size w w2) → Hid (w.heap.size < w2.heap.size ∧ w.heap.size < (w2.alloc (.cells #[.string ⟨#[32]⟩, .string ⟨#[13, 10]⟩, .string ⟨#[9, 32, 10]⟩] 9)).heap.size) → (w2.cell? ⟨w.heap.size, 0, none⟩ = some (.int .u8 vk) ∧ w2.cell? ⟨w.heap.size, 1, none⟩ = some (.string ⟨vt.toArray⟩) ∧ w2.cell? ⟨w.heap.size, 2, none⟩ = some (.slice p vn c)) → Below w2.heap.size w2 w3 → Hid (Below w.heap.size w w3) ∧ (w3.cell? ⟨w.heap.size, 0, none⟩ = some (.int .u8 vk) ∧ w3.cell? ⟨w.heap.size, 1, none⟩ = some (.string ⟨vt.toArray⟩) ∧ w3.cell? ⟨w.heap.size, 2, none⟩ = some (.slice p vn c)) := fun w2 w3 h1 h2 h3 b3 =>
    ⟨h1.out.trans (b3.mono h1.out.size), (b3.cell (p := ⟨w.heap.size, 0, none⟩) h2.out.1).trans h3.1, (b3.cell (p := ⟨w.heap.size, 1, none⟩) h2.out.1).trans h3.2.1, (b3.cell (p := ⟨w.heap.size, 2, none⟩) h2.out.1).trans h3.2.2⟩
  have T5 : ∀ w2, Hid (Below w.heap.size w w2) → Below w.heap.size w (w2.alloc (.cells #[.string ⟨#[32]⟩, .string ⟨#[13, 10]⟩, .string ⟨#[9, 32, 10]⟩] 9)) := fun w2 h1 => h1.out.trans (((Below.refl _ w2).alloc (Nat.le_refl _) _).mono h1.out.size)
  have T4 : ∀ w2 w3, Hid (Below w.heap.size w w2) → Hid (w.heap.size < w2.heap.size ∧ w.heap.size < (w2.alloc (.cells #[.string ⟨#[32]⟩, .string ⟨#[13, 10]⟩, .string ⟨#[9, 32, 10]⟩] 9)).heap.size) → ((w2.alloc (.cells #[.string ⟨#[32]⟩, .string ⟨#[13, 10]⟩, .string ⟨#[9, 32, 10]⟩] 9)).cell? ⟨w.heap.size, 0, none⟩ = some (.int .u8 vk) ∧ (w2.alloc (.cells #[.string ⟨#[32]⟩, .string ⟨#[13, 10]⟩, .string ⟨#[9, 32, 10]⟩] 9)).cell? ⟨w.heap.size, 1, none⟩ = some (.string ⟨vt.toArray⟩) ∧ (w2.alloc (.cells #[.string ⟨#[32]⟩, .string ⟨#[13, 10]⟩, .string ⟨#[9, 32, 10]⟩] 9)).cell? ⟨w.heap.size, 2, none⟩ = some (.slice p vn c)) → Below (w2.alloc (.cells #[.string ⟨#[32]⟩, .string ⟨#[13, 10]⟩, .string ⟨#[9, 32, 10]⟩] 9)).heap.size (w2.alloc (.cells #[.string ⟨#[32]⟩, .string ⟨#[13, 10]⟩, .string ⟨#[9, 32, 10]⟩] 9)) w3 → Hid (Below w.heap.size w w3) ∧ (w3.cell? ⟨w.heap.size, 0, none⟩ = some (.int .u8 vk) ∧ w3.cell? ⟨w.heap.size, 1, none⟩ = some (.string ⟨vt.toArray⟩) ∧ w3.cell? ⟨w.heap.size, 2, none⟩ = some (.slice p vn c)) := fun w2 w3 h1 h2 h3 b3 =>
    ⟨(T5 w2 h1).trans (b3.mono (T5 w2 h1).size), (b3.cell (p := ⟨w.heap.size, 0, none⟩) h2.out.2).trans h3.1, (b3.cell (p := ⟨w.heap.size, 1, none⟩) h2.out.2).trans h3.2.1, (b3.cell (p := ⟨w.heap.size, 2, none⟩) h2.out.2).trans h3.2.2⟩
  clear hla hlb HV hz1
  apply wp_framesN (fun g W => Below w.heap.size w W)
  case reg =>
    go_region_with (first
      | (go_at_call 10; with_reducible show Calls _ _ #[_, _, Value.string ⟨#[]⟩] w1.drew _; refine (HTa w1.drew HBd.out).mono ?_; rintro e w2 ⟨rfl, b2⟩; obtain ⟨HB2, ⟨k0b, k1b, k2b⟩, ⟨q0b, q1b, q2b⟩, HZ2⟩ := T1 w2 b2)
      | (go_at_call 10; with_reducible show Calls _ _ #[_, _, Value.string ⟨#[]⟩] (w1.alloc (.cells #[.string ⟨#[32]⟩, .string ⟨#[13, 10]⟩, .string ⟨#[9, 32, 10]⟩] 9)).drew _; refine (HTa (w1.alloc (.cells #[.string ⟨#[32]⟩, .string ⟨#[13, 10]⟩, .string ⟨#[9, 32, 10]⟩] 9)).drew HBl.out).mono ?_; rintro e w2 ⟨rfl, b2⟩; obtain ⟨HB2, ⟨k0b, k1b, k2b⟩, ⟨q0b, q1b, q2b⟩, HZ2, q3b⟩ := T2 w2 b2)
      | (go_at_call 10; with_reducible show Calls _ _ #[_, _, Value.string ⟨#[9, 32, 10]⟩] (w1.alloc (.cells #[.string ⟨#[32]⟩, .string ⟨#[13, 10]⟩, .string ⟨#[9, 32, 10]⟩] 9)).drew _; refine (HTb (w1.alloc (.cells #[.string ⟨#[32]⟩, .string ⟨#[13, 10]⟩, .string ⟨#[9, 32, 10]⟩] 9)).drew HBl.out).mono ?_; rintro e w2 ⟨rfl, b2⟩; obtain ⟨HB2, ⟨k0b, k1b, k2b⟩, ⟨q0b, q1b, q2b⟩, HZ2, q3b⟩ := T2 w2 b2)
      | (go_at_call 10; with_reducible show Calls _ _ #[_, _, Value.string ⟨#[9, 32, 10]⟩] w2 _; refine (HTb w2 HB2.out).mono ?_; rintro e w3 ⟨rfl, b3⟩; obtain ⟨HB3, k0c, k1c, k2c⟩ := T3 w2 w3 HB2 HZ2 ⟨k0b, k1b, k2b⟩ b3)
      | (go_at_call 10; with_reducible show Calls _ _ #[_, _, Value.string ⟨#[9, 32, 10]⟩] (w2.alloc (.cells #[.string ⟨#[32]⟩, .string ⟨#[13, 10]⟩, .string ⟨#[9, 32, 10]⟩] 9)) _; refine (HTb (w2.alloc (.cells #[.string ⟨#[32]⟩, .string ⟨#[13, 10]⟩, .string ⟨#[9, 32, 10]⟩] 9)) (T5 w2 HB2)).mono ?_; rintro e w3 ⟨rfl, b3⟩; obtain ⟨HB3, k0c, k1c, k2c⟩ := T4 w2 w3 HB2 HZ2 ⟨q0b, q1b, q2b⟩ b3)
      | (go_at_call 10; with_reducible show Calls _ _ #[_, _, Value.string ⟨#[]⟩] w2 _; refine (HTa w2 HB2.out).mono ?_; rintro e w3 ⟨rfl, b3⟩; obtain ⟨HB3, k0c, k1c, k2c⟩ := T3 w2 w3 HB2 HZ2 ⟨k0b, k1b, k2b⟩ b3))
    all_goals (first
      | (generalize w1.heap.size = g; exact ⟨g, HB3.out, rfl⟩)
      | (generalize w2.heap.size = g; exact ⟨g, HB3.out, rfl⟩))
  case rest =>
    intro g W hbW
    have HBW : Hid (Below w.heap.size w W) := hbW
    have HP : Hid (∀ t, t = la ∨ t = lb → t.length ≤ 4096 → parseS t = if (vnodes 5 v 0).length ≤ 256 then .ok (vnodes 5 v 0) else .error 14) := by
      rintro t (rfl | rfl) ht
      · rw [← HLA.out.1] at ht ⊢
        exact parse_read [] (fun x hx => by simp at hx) 5 (by decide) v ht
      · rw [← HLA.out.2] at ht ⊢
        exact parse_read [9, 32, 10] (by unfold isBl; decide) 5 (by decide) v ht
    obtain ⟨NS, hNS⟩ : ∃ N, vnodes 5 v 0 = N := ⟨_, rfl⟩
    rw [hNS] at HP
    clear hbW k0 k1 k2 q0 q1 q2 HQ HBd HBl T1 T2 T3 T4 T5 HTa HTb HB1 HZ1 hr' hr2 hg0 hg1 HLA hNS
    obtain ⟨na, hna⟩ : ∃ n, la.length = n := ⟨_, rfl⟩
    obtain ⟨nb, hnb⟩ : ∃ n, lb.length = n := ⟨_, rfl⟩
    have hsa : ((⟨la.toArray⟩ : ByteArray)).size = na := hna
    have hsb : ((⟨lb.toArray⟩ : ByteArray)).size = nb := hnb
    have HNA : Hid (la.length = na ∧ lb.length = nb) := ⟨hna, hnb⟩
    have hcva := fun W => conv_bw W la na hna
    have hcvb := fun W => conv_bw W lb nb hnb
    clear hna hnb
    by_cases qa : 4096 < na
    · have qad : decide ((4096 : Int) < (na : Int)) = true := by simp; omega
      go_wp2_with fail
      go_ret
      exact ⟨rfl, HBW.out⟩
    have qad : decide ((4096 : Int) < (na : Int)) = false := by simp; omega
    by_cases qb : 4096 < nb
    · have qbd : decide ((4096 : Int) < (nb : Int)) = true := by simp; omega
      go_wp2_with fail
      go_ret
      exact ⟨rfl, HBW.out⟩
    have qbd : decide ((4096 : Int) < (nb : Int)) = false := by simp; omega
    go_wp2_with fail
    go_at_call 11
    refine (parse_txt W la na HNA.out.1 (by omega) (HT.out.below HBW.out)).mono ?_
    rintro e w4 ⟨b4, (⟨ns, pa, ca, p1, rfl, L4, l4⟩ | ⟨k, p1, kp, kl, rfl⟩)⟩
    · have HB4 : Hid (Below w.heap.size w w4) := HBW.out.trans (b4.mono HBW.out.size)
      have HNS : Hid (ns = NS ∧ NS.length ≤ 256 ∧ LiesN w4 pa ns ∧ ns.length ≤ 256) := by
        have := HP.out la (.inl rfl) (by rw [HNA.out.1]; omega)
        rw [p1] at this
        by_cases q : NS.length ≤ 256
        · rw [if_pos q] at this
          cases this
          exact ⟨rfl, q, L4, l4⟩
        · rw [if_neg q] at this
          cases this
      clear b4 p1 L4 l4
      go_wp2_with fail
      go_at_call 11
      refine (parse_txt w4 lb nb HNA.out.2 (by omega) (HT.out.below HB4.out)).mono ?_
      rintro e w5 ⟨b5, (⟨ns2, pb, cb, p2, rfl, L5, l5⟩ | ⟨k, p2, kp, kl, rfl⟩)⟩
      · have HB5 : Hid (Below w.heap.size w w5) := HB4.out.trans (b5.mono HB4.out.size)
        have hns2 : ns2 = ns := by
          have := HP.out lb (.inr rfl) (by rw [HNA.out.2]; omega)
          rw [p2, if_pos HNS.out.2.1] at this
          cases this
          exact HNS.out.1.symm
        subst hns2
        have HL : Hid (LiesN w5 pa ns2 ∧ LiesN w5 pb ns2 ∧ ns2.length ≤ 256) := ⟨HNS.out.2.2.1.keep b5, L5, HNS.out.2.2.2⟩
        clear b5 p2 L5 l5
        obtain ⟨nn, hnn⟩ : ∃ n, ns2.length = n := ⟨_, rfl⟩
        have hsame := same_yes pa pb ca cb ns2 w5 HL.out.1 HL.out.2.1 (by have := HL.out.2.2; omega)
        rw [hnn] at hsame ⊢
        go_wp2_with fail
        go_at_call 12
        refine hsame.mono ?_
        rintro e w6 ⟨rfl, k6, rfl⟩
        go_wp2_with fail
        go_ret
        exact ⟨rfl, HB5.out.trans ((below_drewN _ _).mono HB5.out.size)⟩
      · have := HP.out lb (.inr rfl) (by rw [HNA.out.2]; omega)
        rw [p2, if_pos HNS.out.2.1] at this
        cases this
    · have HB4 : Hid (Below w.heap.size w w4) := HBW.out.trans (b4.mono HBW.out.size)
      have hk : k = 14 ∧ ¬ NS.length ≤ 256 := by
        have := HP.out la (.inl rfl) (by rw [HNA.out.1]; omega)
        rw [p1] at this
        by_cases q : NS.length ≤ 256
        · rw [if_pos q] at this
          cases this
        · rw [if_neg q] at this
          cases this
          exact ⟨rfl, q⟩
      obtain ⟨rfl, hNl⟩ := hk
      clear b4 p1 kp kl
      go_wp2_with fail
      go_at_call 11
      refine (parse_txt w4 lb nb HNA.out.2 (by omega) (HT.out.below HB4.out)).mono ?_
      rintro e w5 ⟨b5, (⟨ns2, pb, cb, p2, rfl, L5, l5⟩ | ⟨k, p2, kp, kl, rfl⟩)⟩
      · have := HP.out lb (.inr rfl) (by rw [HNA.out.2]; omega)
        rw [p2, if_neg hNl] at this
        cases this
      · have HB5 : Hid (Below w.heap.size w w5) := HB4.out.trans (b5.mono HB4.out.size)
        have hk2 : k = 14 := by
          have := HP.out lb (.inr rfl) (by rw [HNA.out.2]; omega)
          rw [p2, if_neg hNl] at this
          cases this
          rfl
        subst hk2
        clear b5 p2 kp kl
        go_wp2_with fail
        go_at_call 12
        refine (same_yes none none 0 0 [] w5 (LiesN.nil _ _) (LiesN.nil _ _) (by simp)).mono ?_
        rintro e w6 ⟨rfl, k6, rfl⟩
        go_wp2_with fail
        go_ret
        exact ⟨rfl, HB5.out.trans ((below_drewN _ _).mono HB5.out.size)⟩
end Go.Proofs.YtbobgebhdafciaaDoor
