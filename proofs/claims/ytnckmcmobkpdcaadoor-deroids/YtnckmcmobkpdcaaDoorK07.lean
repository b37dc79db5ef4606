import Derived.Test.YtnckmcmobkpdcaaDoorK06
import Derived.Test.YtnckmcmobkpdcaaDoorK04
import Derived.Test.YtnckmcmobkpdcaaDoorK02
import Derived.Test.YtnckmcmobkpdcaaDoorK03
import Derived.Deep.CutRange
import Derived.Test.YtnckmcmobkpdcaaDoorK00
import Derived.RangeFuncNested
import Derived.RangeFuncBound
import Derived.RangeFuncCalls
import Derived.RangeFuncLeaves
import Derived.Shelf.Abstract
import Derived.Shelf.RegionOpen
import Derived.OwnWalkIn
import Derived.TacticsInMore
import Derived.LoopNIn
import Derived.LoopIn
import Derived.Stop.RegionWithIn
import Derived.Maps.OwnIn
import Derived.Laws.CopyOwn
import Derived.BigQuiet
import Derived.Deep.QuietTactic
import Derived.Deep.RegionWith
import Derived.Deep.RegionHeld3
import Derived.Deep.DrawnRows
/-
  Rows of numbers as bytes: what is written is read as the row.
-/
namespace Go.Proofs.YtnckmcmobkpdcaaDoor
open Go.Shelf Go.RowKit
set_option linter.unusedVariables false
set_option linter.unusedSimpArgs false

/-- A number's leading groups of seven bits ahead of what stands behind. -/
def grpGo : Nat → Nat → Bs → Bs
  | 0, _, acc => acc
  | f + 1, n, acc => if n = 0 then acc else grpGo f (n / 128) (UInt8.ofNat (128 + n % 128) :: acc)
theorem grpGo_succ (f n : Nat) (acc : Bs) : grpGo (f + 1) n acc = if n = 0 then acc else grpGo f (n / 128) (UInt8.ofNat (128 + n % 128) :: acc) := rfl
theorem grpGo_zero : ∀ (f : Nat) (acc : Bs), grpGo f 0 acc = acc
  | 0, _ => rfl
  | f + 1, _ => by rw [grpGo_succ, if_pos rfl]
theorem grpGo_app : ∀ (f n : Nat) (acc r : Bs), grpGo f n acc ++ r = grpGo f n (acc ++ r)
  | 0, _, _, _ => rfl
  | f + 1, n, acc, r => by
    rw [grpGo_succ, grpGo_succ]
    split
    · rfl
    · rw [grpGo_app f]
      rfl
theorem grpGo_len : ∀ (f n : Nat) (acc : Bs), (grpGo f n acc).length ≤ f + acc.length
  | 0, _, acc => by simp [grpGo]
  | f + 1, n, acc => by
    rw [grpGo_succ]
    split
    · omega
    · have := grpGo_len f (n / 128) (UInt8.ofNat (128 + n % 128) :: acc)
      rw [List.length_cons] at this
      omega
/-- A number as bytes. -/
def grp (n : Nat) : Bs := grpGo 10 (n / 128) [UInt8.ofNat (n % 128)]
theorem grp_len (n : Nat) : (grp n).length ≤ 11 := grpGo_len 10 _ _
theorem row_grpGo : ∀ (f n : Nat) (acc : Bs), n < 128 ^ f → 0 < n → n ≤ 72057594037927935 → rowGo 0 true (grpGo f n acc) = rowGo n false acc
  | 0, n, acc, h, h0, _ => by
    rw [Nat.pow_zero] at h
    omega
  | f + 1, n, acc, h, h0, hb => by
    have hd : (UInt8.ofNat (128 + n % 128)).toNat = 128 + n % 128 := by rw [UInt8.toNat_ofNat']; exact Nat.mod_eq_of_lt (by omega)
    rw [grpGo_succ, if_neg (by omega)]
    by_cases hz : n / 128 = 0
    · rw [hz, grpGo_zero, rowGo_cons, hd, if_neg (by omega), if_neg (by omega)]
      congr 1
      omega
    · rw [row_grpGo f (n / 128) _ (by rw [Nat.pow_succ] at h; omega) (by omega) (by omega), rowGo_cons, hd, if_neg (by simp; omega), if_neg (by omega)]
      congr 1
      omega
theorem row_grp (n : Nat) (h : n < 9223372036854775808) (r : Bs) : rowD (grp n ++ r) = some (n, r) := by
  have hd : (UInt8.ofNat (n % 128)).toNat = n % 128 := by rw [UInt8.toNat_ofNat']; exact Nat.mod_eq_of_lt (by omega)
  unfold grp rowD
  rw [grpGo_app]
  by_cases hz : n / 128 = 0
  · rw [hz, grpGo_zero]
    show rowGo 0 true (UInt8.ofNat (n % 128) :: r) = _
    rw [rowGo_cons, hd, if_neg (by omega), if_pos (by omega)]
    congr 2
    omega
  · have hp : n / 128 < 128 ^ 10 := Nat.lt_of_lt_of_le (show n / 128 < 72057594037927936 by omega) (by decide)
    rw [row_grpGo 10 (n / 128) _ hp (by omega) (by omega)]
    show rowGo (n / 128) false (UInt8.ofNat (n % 128) :: r) = _
    rw [rowGo_cons, hd, if_neg (by simp; omega), if_pos (by omega)]
    congr 2
    omega
/-- Numbers as bytes, one behind the other. -/
def grpsD : List Nat → Bs
  | [] => []
  | n :: l => grp n ++ grpsD l
theorem grps_app : ∀ (a b : List Nat), grpsD (a ++ b) = grpsD a ++ grpsD b
  | [], b => rfl
  | n :: a, b => by simp only [List.cons_append, grpsD, grps_app a b, List.append_assoc]
theorem grps_len : ∀ (l : List Nat), (grpsD l).length ≤ 11 * l.length
  | [] => Nat.le_refl _
  | n :: l => by
    have h1 := grp_len n
    have h2 := grps_len l
    simp only [grpsD, List.length_append, List.length_cons]
    omega
theorem rows_grps : ∀ (l : List Nat), (∀ x ∈ l, x < 9223372036854775808) → rowsD (grpsD l).length (grpsD l) = some l
  | [], _ => rfl
  | n :: l, h => by
    have h1 := row_grp n (h n (by simp)) (grpsD l)
    have h2 := (rowGo_len _ _ _ _ _ h1).1
    show rowsD (grp n ++ grpsD l).length (grp n ++ grpsD l) = _
    rw [rowsD_step (by omega), h1]
    simp only []
    rw [rows_grps l (fun x hx => h x (by simp [hx]))]
    rfl
/-- The numbers that stand in the bytes of a row. -/
def packD : List Nat → List Nat
  | a :: b :: l => (b + 40 * a) :: l
  | _ => []
theorem nums_pack (a b : Nat) (l : List Nat) (ha : a ≤ 2) (hb : a < 2 → b < 40) : numsD (packD (a :: b :: l)) = a :: b :: l := by
  have h1 : min ((b + 40 * a) / 40) 2 = a := by omega
  simp only [packD, numsD, h1, List.cons_append, List.nil_append]
  congr 2
  omega
end Go.Proofs.YtnckmcmobkpdcaaDoor
/-
  The document's Read.
-/
namespace Go.Proofs.YtnckmcmobkpdcaaDoor
open Go.Shelf Go.RowKit
set_option linter.unusedVariables false
set_option linter.unusedSimpArgs false

theorem readD_cons (t f : UInt8) (xs : Bs) (hl : (t :: f :: xs).length ≤ 4096) (ht : t.toNat % 32 ≠ 31) : readD (t :: f :: xs) = match lenD (f :: xs) with
    | none => .error 30
    | some (n, ys) => if ys.length < n then .error 30 else .ok ((t, ys.take n), ys.drop n) := by
  unfold readD
  rw [if_neg (by omega)]
  simp only []
  rw [if_neg ht]
  cases lenD (f :: xs) with
  | none => rfl
  | some q => rfl
set_option maxRecDepth 100000 in
set_option maxHeartbeats 4000000 in
/-- Read. -/
theorem rRead10 (p : Option Addr) (n c : Nat) (bs : Bs) (P : Nat → Prop) (w : World) (hn : bs.length = n) (h : ByV w P p c bs) :
    Calls Tryd.prog 9 #[.slice p n c] w (SpPost w (fun _ => P) (readD bs)) := by
  have hcap := h.cap
  have hbig := h.big
  rw [hn] at hcap
  have hnI : (n : Int) ≤ 9223372036854775807 := by omega
  have hcI : (c : Int) ≤ 9223372036854775807 := by omega
  obtain ⟨W0, hW0⟩ : ∃ W0, w.alloc (.cells #[.int .u8 0, .slice none 0 0] 24) = W0 := ⟨_, rfl⟩
  have b0 : Below w.heap.size w W0 := by rw [← hW0]; exact (Below.refl _ _).alloc (Nat.le_refl _) _
  have s0 : Tl W0 w.heap.size (.int .u8 0) (.slice none 0 0) := by rw [← hW0]; exact Tl.new w _ _
  obtain ⟨g0, g1, g2, g3⟩ := s0.facts
  obtain ⟨g4, g5⟩ := s0.facts1 (.int .u8 0)
  obtain ⟨R, hR⟩ : ∃ R, readD bs = R := ⟨_, rfl⟩
  rw [hR]
  have HBAD : Hid (∀ k, R = .error k → SpPost w (fun _ => P) R (.returned (.tuple #[.agg #[.int .u8 0, .slice none 0 0], .slice none 0 0, .int .i64 (k : Int)])) ((W0.setCell ⟨w.heap.size, 0, none⟩ (.int .u8 0)).setCell ⟨w.heap.size, 1, none⟩ (.slice none 0 0))) := fun k hk => SpPost.bad k hk (b0.trans ((but_set2 W0 w.heap.size _ _).below (Nat.le_refl _) b0.size))
  have HBADD : Hid (∀ q k, R = .error k → SpPost w (fun _ => P) R (.returned (.tuple #[.agg #[.int .u8 0, .slice none 0 0], .slice none 0 0, .int .i64 (k : Int)])) ((((W0.drewN q).setCell ⟨w.heap.size, 0, none⟩ (.int .u8 0)).setCell ⟨w.heap.size, 1, none⟩ (.slice none 0 0)))) := fun q k hk => SpPost.bad k hk ((below_drews b0 q).trans ((but_set2 _ w.heap.size _ _).below (Nat.le_refl _) (below_drews b0 q).size))
  have HS0 : Hid (Tl W0 w.heap.size (.int .u8 0) (.slice none 0 0) ∧ Below w.heap.size w W0) := ⟨s0, b0⟩
  clear s0
  by_cases hl : 4096 < n
  · have hlI : 4096 < (n : Int) := by omega
    have hR3 : R = .error 3 := by rw [← hR]; unfold readD; rw [if_pos (by omega)]
    go_enter Tryd.func9, Tryd.ntmps9
    go_wp2_with fail
    refine bodyPost_ret (ret_tlv3 rfl _ _ w.heap.size _ _ rfl (HS0.out.1.set2 _ _)) rfl ?_
    exact HBAD.out 3 hR3
  have hlI : ¬ 4096 < (n : Int) := by omega
  by_cases h2 : n < 2
  · have h2I : (n : Int) < 2 := by omega
    have hR3 : R = .error 30 := by
      rw [← hR]
      match bs, hn with
      | [], _ => rfl
      | [t], _ =>
        unfold readD
        rw [if_neg (by simp)]
        simp only [lenD]
        split <;> rfl
      | t :: f :: xs, hn => simp at hn; omega
    have HR3 : Hid (R = .error 30) := hR3
    clear hR hn hR3
    go_enter Tryd.func9, Tryd.ntmps9
    go_wp2_with fail
    refine bodyPost_ret (ret_tlv3 rfl _ _ w.heap.size _ _ rfl (HS0.out.1.set2 _ _)) rfl ?_
    exact HBAD.out 30 HR3.out
  have h2I : ¬ (n : Int) < 2 := by omega
  match bs, hn, h, hR with
  | [], hn, _, _ => simp at hn; omega
  | [t], hn, _, _ => simp at hn; omega
  | t :: f :: xs, hn, h, hR =>
    obtain ⟨b, o, rfl, hcl⟩ := h.lies (by simp)
    have HCL : Hid (∀ i, i < n → W0.cell? ⟨b, o + i, none⟩ = some (.int .u8 (((t :: f :: xs).getD i 0).toNat : Int))) := fun i hi => (b0.cell (p := ⟨b, o + i, none⟩) (World.block_lt_of_cell? w _ (hcl i (by rw [hn]; exact hi)))).trans (hcl i (by rw [hn]; exact hi))
    have c0 : W0.cell? ⟨b, o, none⟩ = some (.int .u8 (t.toNat : Int)) := by simpa using HCL.out 0 (by omega)
    have c1 : W0.cell? ⟨b, o + 1, none⟩ = some (.int .u8 (f.toNat : Int)) := by simpa using HCL.out 1 (by omega)
    have ht := t.toNat_lt
    have hf := f.toNat_lt
    have k0 : (0 : Int) < (n : Int) := by omega
    have k1 : (1 : Int) < (n : Int) := by omega
    have k2 : (n : Int) ≤ (c : Int) := by omega
    obtain ⟨TN, hTN⟩ : ∃ T, t.toNat = T := ⟨_, rfl⟩
    obtain ⟨F, hF⟩ : ∃ T, f.toNat = T := ⟨_, rfl⟩
    have HX : Hid (t.toNat = TN ∧ f.toNat = F ∧ xs.length = n - 2 ∧ (t :: f :: xs).length = n ∧ ByV w P (some ⟨b, o, none⟩) c (t :: f :: xs)) := ⟨hTN, hF, by simp at hn; omega, hn, h⟩
    rw [hTN] at c0 ht
    rw [hF] at c1 hf
    have HRR : Hid (readD (t :: f :: xs) = R) := hR
    clear hTN hF hcl h hR hn b0
    by_cases q1 : TN % 32 = 31
    · have q1I : ((TN : Int) % 32 == 31) = true := by simp; omega
      have hR3 : Hid (R = .error 30) := by show R = _; rw [← HRR.out]; unfold readD; rw [if_neg (by rw [HX.out.2.2.2.1]; omega)]; simp only []; rw [if_pos (by rw [HX.out.1]; exact q1)]
      clear q1
      go_enter Tryd.func9, Tryd.ntmps9
      go_wp2_with fail
      refine bodyPost_ret (ret_tlv3 rfl _ _ w.heap.size _ _ rfl (HS0.out.1.set2 _ _)) rfl ?_
      exact HBAD.out 30 hR3.out
    have q1I : ((TN : Int) % 32 == 31) = false := by simp; omega
    have HR0 : Hid (R = match lenD (f :: xs) with
        | none => .error 30
        | some (n, ys) => if ys.length < n then .error 30 else .ok ((t, ys.take n), ys.drop n)) := by
      show R = _
      rw [← HRR.out, readD_cons t f xs (by rw [HX.out.2.2.2.1]; omega) (by rw [HX.out.1]; exact q1)]
    clear q1 HRR
    by_cases q2 : F < 128
    · have q2I : ¬ (128 : Int) ≤ (F : Int) := by omega
      have HRN : Hid (R = if ((t :: f :: xs).drop 2).length < F then .error 30 else .ok ((t, ((t :: f :: xs).drop 2).take F), ((t :: f :: xs).drop 2).drop F)) := by
        show R = _
        rw [HR0.out]
        simp only [lenD]
        rw [HX.out.2.1, if_pos q2]
        rfl
      by_cases q5 : n - 2 < F
      · have q5I : (n : Int) - 2 < (F : Int) := by omega
        have hR3 : Hid (R = .error 30) := by show R = _; rw [HRN.out, if_pos (by rw [List.length_drop, HX.out.2.2.2.1]; exact q5)]
        go_enter Tryd.func9, Tryd.ntmps9
        go_wp2_with fail
        refine bodyPost_ret (ret_tlv3 rfl _ _ w.heap.size _ _ rfl (HS0.out.1.set2 _ _)) rfl ?_
        exact HBAD.out 30 hR3.out
      have q5I : ¬ (n : Int) - 2 < (F : Int) := by omega
      have hR3 : Hid (R = .ok ((t, ((t :: f :: xs).drop 2).take F), ((t :: f :: xs).drop 2).drop F)) := by show R = _; rw [HRN.out, if_neg (by rw [List.length_drop, HX.out.2.2.2.1]; exact q5)]
      obtain ⟨E, hE⟩ : ∃ E, 2 + F = E := ⟨_, rfl⟩
      have hEI : (2 : Int) + (F : Int) = (E : Int) := by omega
      have m1 : (E : Int) ≤ (n : Int) := by omega
      have m2 : (E : Int) ≤ (c : Int) := by omega
      have m3 : (2 : Int) ≤ (E : Int) := by omega
      have m4 : (2 : Int) ≤ (c : Int) := by omega
      have HE : Hid (∀ W p1 c1 p2 c2, Below W0.heap.size W0 W → ByV w (fun b => P b ∧ b < w.heap.size) p1 c1 (((t :: f :: xs).drop 2).take F) → ByV w (fun b => P b ∧ b < w.heap.size) p2 c2 ((t :: f :: xs).drop E) → SpPost w (fun _ => P) R (.returned (.tuple #[.agg #[.int .u8 (TN : Int), .slice p1 (E - 2) c1], .slice p2 (n - E) c2, .int .i64 0])) ((W.setCell ⟨w.heap.size, 0, none⟩ (.int .u8 (TN : Int))).setCell ⟨w.heap.size, 1, none⟩ (.slice p1 (E - 2) c1))) := fun W p1 c1 p2 c2 hW hv1 hv2 => by
        have hb : Below w.heap.size w W := HS0.out.2.trans (hW.mono HS0.out.2.size)
        have hbut := but_set2 W w.heap.size (.int .u8 (TN : Int)) (.slice p1 (E - 2) c1)
        have hk2 : ∀ g, (P g ∧ g < w.heap.size) → g < w.heap.size → ((W.setCell ⟨w.heap.size, 0, none⟩ (.int .u8 (TN : Int))).setCell ⟨w.heap.size, 1, none⟩ (.slice p1 (E - 2) c1)).heap[g]? = w.heap[g]? := fun g _ hlt => (hbut.block g (Nat.lt_of_lt_of_le hlt hb.size) (by omega)).trans (hb.block g hlt)
        refine ⟨hb.trans (hbut.below (Nat.le_refl _) hb.size), .inl ⟨t, _, _, p1, c1, p2, c2, hR3.out, ?_, (hv1.keep hk2).mono (fun g hg _ => hg.1), ?_⟩⟩
        · have l1 : (((t :: f :: xs).drop 2).take F).length = E - 2 := by rw [List.length_take, List.length_drop, HX.out.2.2.2.1]; omega
          have l2 : (((t :: f :: xs).drop 2).drop F).length = n - E := by rw [List.length_drop, List.length_drop, HX.out.2.2.2.1]; omega
          rw [HX.out.1, l1, l2]
        · rw [List.drop_drop, hE]
          exact (hv2.keep hk2).mono (fun g hg _ => hg.1)
      have HV0 : ByV w (fun b => P b ∧ b < w.heap.size) (some ⟨b, o, none⟩) c (t :: f :: xs) := HX.out.2.2.2.2.mono (fun g hg hlt => ⟨hg, hlt⟩)
      have HVA := (HV0.drop 2 (by rw [HX.out.2.2.2.1]; omega)).take F (by rw [List.length_drop, HX.out.2.2.2.1]; omega)
      have HVE := HV0.drop E (by rw [HX.out.2.2.2.1]; omega)
      clear HV0 hE q5 hR3 HRN HR0
      by_cases qa : c = 2
      · have qe : c = E := by omega
        rw [if_pos qa, show c - 2 = 0 by omega] at HVA
        rw [if_pos qe, show c - E = 0 by omega] at HVE
        have HA : Hid (ByV w (fun b => P b ∧ b < w.heap.size) (some ⟨b, o, none⟩) 0 (((t :: f :: xs).drop 2).take F)) := HVA
        have HB : Hid (ByV w (fun b => P b ∧ b < w.heap.size) (some ⟨b, o, none⟩) 0 ((t :: f :: xs).drop E)) := HVE
        clear HVA HVE
        go_enter Tryd.func9, Tryd.ntmps9
        go_wp2_with fail
        go_region
        go_wp2_with fail
        refine bodyPost_ret (ret_tlv3 rfl _ _ w.heap.size _ _ rfl (Tl.set2 (v0 := .int .u8 0) (v1 := .slice none 0 0) (HS0.out.1.same rfl) _ _)) rfl ?_
        exact HE.out _ _ _ _ _ (Below.refl _ _).drew HA.out (by rw [show 2 - E = 0 by omega]; exact HB.out)
      rw [if_neg qa] at HVA
      have HA : Hid (ByV w (fun b => P b ∧ b < w.heap.size) (some ⟨b, o + 2, none⟩) (c - 2) (((t :: f :: xs).drop 2).take F)) := HVA
      clear HVA
      by_cases qe : c = E
      · rw [if_pos qe, show c - E = 0 by omega] at HVE
        have HB : Hid (ByV w (fun b => P b ∧ b < w.heap.size) (some ⟨b, o, none⟩) 0 ((t :: f :: xs).drop E)) := HVE
        clear HVE
        go_enter Tryd.func9, Tryd.ntmps9
        go_wp2_with fail
        go_region
        go_wp2_with fail
        refine bodyPost_ret (ret_tlv3 rfl _ _ w.heap.size _ _ rfl (Tl.set2 (v0 := .int .u8 0) (v1 := .slice none 0 0) (HS0.out.1.same rfl) _ _)) rfl ?_
        exact HE.out _ _ _ _ _ (Below.refl _ _).drew (by rw [← qe]; exact HA.out) HB.out
      rw [if_neg qe, Option.map_some, Addr.add_mid] at HVE
      have HB : Hid (ByV w (fun b => P b ∧ b < w.heap.size) (some ⟨b, o + E, none⟩) (c - E) ((t :: f :: xs).drop E)) := HVE
      clear HVE
      go_enter Tryd.func9, Tryd.ntmps9
      go_wp2_with fail
      go_region
      go_wp2_with fail
      refine bodyPost_ret (ret_tlv3 rfl _ _ w.heap.size _ _ rfl (Tl.set2 (v0 := .int .u8 0) (v1 := .slice none 0 0) (HS0.out.1.same rfl) _ _)) rfl ?_
      exact HE.out _ _ _ _ _ (Below.refl _ _).drew HA.out HB.out
    have q2I : (128 : Int) ≤ (F : Int) := by omega
    by_cases q3 : F = 129 ∨ F = 130
    rotate_left
    · have e1 : ((F : Int) != 129) = true := by simp; omega
      have e2 : ((F : Int) != 130) = true := by simp; omega
      have hR3 : Hid (R = .error 30) := by show R = _; rw [HR0.out]; simp only [lenD]; rw [HX.out.2.1, if_neg q2, if_neg (by omega), if_neg (by omega)]
      clear q3
      go_enter Tryd.func9, Tryd.ntmps9
      go_wp2_with fail
      refine bodyPost_ret (ret_tlv3 rfl _ _ w.heap.size _ _ rfl (HS0.out.1.set2 _ _)) rfl ?_
      exact HBAD.out 30 hR3.out
    by_cases q4 : F = 129
    · have e1 : ((F : Int) != 129) = false := by simp; omega
      have eF : (F : Int) - 128 = 1 := by omega
      by_cases q6 : n < 3
      · have q6I : (n : Int) < 3 := by omega
        have hxe : xs = [] := List.eq_nil_of_length_eq_zero (by rw [HX.out.2.2.1]; omega)
        have hR3 : Hid (R = .error 30) := by show R = _; rw [HR0.out, hxe]; simp only [lenD, len1]; rw [HX.out.2.1, if_neg q2, if_pos q4]
        clear q4 q3 hxe
        go_enter Tryd.func9, Tryd.ntmps9
        go_wp2_with fail
        refine bodyPost_ret (ret_tlv3 rfl _ _ w.heap.size _ _ rfl (HS0.out.1.set2 _ _)) rfl ?_
        exact HBAD.out 30 hR3.out
      have q6I : ¬ (n : Int) < 3 := by omega
      have q7I : (2 : Int) < (n : Int) := by omega
      obtain ⟨a, ys, hxs⟩ : ∃ a ys, xs = a :: ys := by
        cases hx : xs with
        | nil => have := HX.out.2.2.1; rw [hx] at this; simp at this; omega
        | cons a ys => exact ⟨a, ys, rfl⟩
      have c2 : W0.cell? ⟨b, o + 2, none⟩ = some (.int .u8 (a.toNat : Int)) := by have := HCL.out 2 (by omega); rw [hxs] at this; simpa using this
      have ha := a.toNat_lt
      obtain ⟨A1, hA1⟩ : ∃ T, a.toNat = T := ⟨_, rfl⟩
      rw [hA1] at c2 ha
      have HRA : Hid (R = if A1 < 128 then .error 30 else if ((t :: f :: xs).drop 3).length < A1 then .error 30 else .ok ((t, ((t :: f :: xs).drop 3).take A1), ((t :: f :: xs).drop 3).drop A1)) := by
        show R = _
        rw [HR0.out, hxs]
        simp only [lenD, len1]
        rw [HX.out.2.1, if_neg q2, if_pos q4, hA1]
        by_cases h128 : A1 < 128
        · rw [if_pos h128, if_pos h128]
        · rw [if_neg h128, if_neg h128]
          rfl
      clear hxs hA1 q4 q3
      by_cases q8 : A1 < 128
      · have q8I : (A1 : Int) < 128 := by omega
        have hR3 : Hid (R = .error 30) := by show R = _; rw [HRA.out, if_pos q8]
        go_enter Tryd.func9, Tryd.ntmps9
        go_wp2_with fail
        refine bodyPost_ret (ret_tlv3 rfl _ _ w.heap.size _ _ rfl (HS0.out.1.set2 _ _)) rfl ?_
        exact HBAD.out 30 hR3.out
      have q8I : ¬ (A1 : Int) < 128 := by omega
      have HRN : Hid (R = if ((t :: f :: xs).drop 3).length < A1 then .error 30 else .ok ((t, ((t :: f :: xs).drop 3).take A1), ((t :: f :: xs).drop 3).drop A1)) := by show R = _; rw [HRA.out, if_neg q8]
      clear HRA
      by_cases q5 : n - 3 < A1
      · have q5I : (n : Int) - 3 < (A1 : Int) := by omega
        have hR3 : Hid (R = .error 30) := by show R = _; rw [HRN.out, if_pos (by rw [List.length_drop, HX.out.2.2.2.1]; exact q5)]
        go_enter Tryd.func9, Tryd.ntmps9
        go_wp2_with fail
        refine bodyPost_ret (ret_tlv3 rfl _ _ w.heap.size _ _ rfl (HS0.out.1.set2 _ _)) rfl ?_
        exact HBAD.out 30 hR3.out
      have q5I : ¬ (n : Int) - 3 < (A1 : Int) := by omega
      have hR3 : Hid (R = .ok ((t, ((t :: f :: xs).drop 3).take A1), ((t :: f :: xs).drop 3).drop A1)) := by show R = _; rw [HRN.out, if_neg (by rw [List.length_drop, HX.out.2.2.2.1]; exact q5)]
      obtain ⟨E, hE⟩ : ∃ E, 3 + A1 = E := ⟨_, rfl⟩
      have hEI : (3 : Int) + (A1 : Int) = (E : Int) := by omega
      have m1 : (E : Int) ≤ (n : Int) := by omega
      have m2 : (E : Int) ≤ (c : Int) := by omega
      have m3 : (3 : Int) ≤ (E : Int) := by omega
      have m4 : (3 : Int) ≤ (c : Int) := by omega
      have HE : Hid (∀ W p1 c1 p2 c2, Below W0.heap.size W0 W → ByV w (fun b => P b ∧ b < w.heap.size) p1 c1 (((t :: f :: xs).drop 3).take A1) → ByV w (fun b => P b ∧ b < w.heap.size) p2 c2 ((t :: f :: xs).drop E) → SpPost w (fun _ => P) R (.returned (.tuple #[.agg #[.int .u8 (TN : Int), .slice p1 (E - 3) c1], .slice p2 (n - E) c2, .int .i64 0])) ((W.setCell ⟨w.heap.size, 0, none⟩ (.int .u8 (TN : Int))).setCell ⟨w.heap.size, 1, none⟩ (.slice p1 (E - 3) c1))) := fun W p1 c1 p2 c2 hW hv1 hv2 => by
        have hb : Below w.heap.size w W := HS0.out.2.trans (hW.mono HS0.out.2.size)
        have hbut := but_set2 W w.heap.size (.int .u8 (TN : Int)) (.slice p1 (E - 3) c1)
        have hk2 : ∀ g, (P g ∧ g < w.heap.size) → g < w.heap.size → ((W.setCell ⟨w.heap.size, 0, none⟩ (.int .u8 (TN : Int))).setCell ⟨w.heap.size, 1, none⟩ (.slice p1 (E - 3) c1)).heap[g]? = w.heap[g]? := fun g _ hlt => (hbut.block g (Nat.lt_of_lt_of_le hlt hb.size) (by omega)).trans (hb.block g hlt)
        refine ⟨hb.trans (hbut.below (Nat.le_refl _) hb.size), .inl ⟨t, _, _, p1, c1, p2, c2, hR3.out, ?_, (hv1.keep hk2).mono (fun g hg _ => hg.1), ?_⟩⟩
        · have l1 : (((t :: f :: xs).drop 3).take A1).length = E - 3 := by rw [List.length_take, List.length_drop, HX.out.2.2.2.1]; omega
          have l2 : (((t :: f :: xs).drop 3).drop A1).length = n - E := by rw [List.length_drop, List.length_drop, HX.out.2.2.2.1]; omega
          rw [HX.out.1, l1, l2]
        · rw [List.drop_drop, hE]
          exact (hv2.keep hk2).mono (fun g hg _ => hg.1)
      have HV0 : ByV w (fun b => P b ∧ b < w.heap.size) (some ⟨b, o, none⟩) c (t :: f :: xs) := HX.out.2.2.2.2.mono (fun g hg hlt => ⟨hg, hlt⟩)
      have HVA := (HV0.drop 3 (by rw [HX.out.2.2.2.1]; omega)).take A1 (by rw [List.length_drop, HX.out.2.2.2.1]; omega)
      have HVE := HV0.drop E (by rw [HX.out.2.2.2.1]; omega)
      clear HV0 hE q5 hR3 HRN HR0
      have qa : ¬ c = 3 := by omega
      rw [if_neg qa] at HVA
      have HA : Hid (ByV w (fun b => P b ∧ b < w.heap.size) (some ⟨b, o + 3, none⟩) (c - 3) (((t :: f :: xs).drop 3).take A1)) := HVA
      clear HVA
      by_cases qe : c = E
      · rw [if_pos qe, show c - E = 0 by omega] at HVE
        have HB : Hid (ByV w (fun b => P b ∧ b < w.heap.size) (some ⟨b, o, none⟩) 0 ((t :: f :: xs).drop E)) := HVE
        clear HVE
        go_enter Tryd.func9, Tryd.ntmps9
        go_wp2_with fail
        go_region
        go_wp2_with fail
        refine bodyPost_ret (ret_tlv3 rfl _ _ w.heap.size _ _ rfl (Tl.set2 (v0 := .int .u8 0) (v1 := .slice none 0 0) (HS0.out.1.same rfl) _ _)) rfl ?_
        exact HE.out _ _ _ _ _ (Below.refl _ _).drew (by rw [← qe]; exact HA.out) HB.out
      rw [if_neg qe, Option.map_some, Addr.add_mid] at HVE
      have HB : Hid (ByV w (fun b => P b ∧ b < w.heap.size) (some ⟨b, o + E, none⟩) (c - E) ((t :: f :: xs).drop E)) := HVE
      clear HVE
      go_enter Tryd.func9, Tryd.ntmps9
      go_wp2_with fail
      go_region
      go_wp2_with fail
      refine bodyPost_ret (ret_tlv3 rfl _ _ w.heap.size _ _ rfl (Tl.set2 (v0 := .int .u8 0) (v1 := .slice none 0 0) (HS0.out.1.same rfl) _ _)) rfl ?_
      exact HE.out _ _ _ _ _ (Below.refl _ _).drew HA.out HB.out
    have q5 : F = 130 := by omega
    have e1 : ((F : Int) != 129) = true := by simp; omega
    have e2 : ((F : Int) != 130) = false := by simp; omega
    have eF : (F : Int) - 128 = 2 := by omega
    have HBQ : Hid (∀ W k, Below W0.heap.size W0 W → R = .error k → SpPost w (fun _ => P) R (.returned (.tuple #[.agg #[.int .u8 0, .slice none 0 0], .slice none 0 0, .int .i64 (k : Int)])) ((W.setCell ⟨w.heap.size, 0, none⟩ (.int .u8 0)).setCell ⟨w.heap.size, 1, none⟩ (.slice none 0 0))) := fun W k hW hk => SpPost.bad k hk ((HS0.out.2.trans (hW.mono HS0.out.2.size)).trans ((but_set2 W w.heap.size _ _).below (Nat.le_refl _) (Nat.le_trans HS0.out.2.size hW.size)))
    by_cases q6 : n < 4
    · have q6I : (n : Int) < 4 := by omega
      have hR3 : Hid (R = .error 30) := by
        show R = _
        rw [HR0.out]
        have hxl := HX.out.2.2.1
        have hlen2 : len2 xs = none := by
          match xs, hxl with
          | [], _ => rfl
          | [_], _ => rfl
          | a :: a2 :: ys, hxl => simp at hxl; omega
        simp only [lenD]
        rw [HX.out.2.1, if_neg q2, if_neg q4, if_pos q5, hlen2]
      clear q4 q3 q5
      go_enter Tryd.func9, Tryd.ntmps9
      go_wp2_with fail
      refine bodyPost_ret (ret_tlv3 rfl _ _ w.heap.size _ _ rfl (HS0.out.1.set2 _ _)) rfl ?_
      exact HBAD.out 30 hR3.out
    have q6I : ¬ (n : Int) < 4 := by omega
    have q7I : (2 : Int) < (n : Int) := by omega
    have q7J : (3 : Int) < (n : Int) := by omega
    obtain ⟨a, a2, ys, hxs⟩ : ∃ a a2 ys, xs = a :: a2 :: ys := by
      have hxl := HX.out.2.2.1
      match xs, hxl with
      | [], hxl => simp at hxl; omega
      | [_], hxl => simp at hxl; omega
      | a :: a2 :: ys, _ => exact ⟨a, a2, ys, rfl⟩
    have c2 : W0.cell? ⟨b, o + 2, none⟩ = some (.int .u8 (a.toNat : Int)) := by have := HCL.out 2 (by omega); rw [hxs] at this; simpa using this
    have c3 : W0.cell? ⟨b, o + 3, none⟩ = some (.int .u8 (a2.toNat : Int)) := by have := HCL.out 3 (by omega); rw [hxs] at this; simpa using this
    have ha := a.toNat_lt
    have ha2 := a2.toNat_lt
    obtain ⟨A1, hA1⟩ : ∃ T, a.toNat = T := ⟨_, rfl⟩
    obtain ⟨A2, hA2⟩ : ∃ T, a2.toNat = T := ⟨_, rfl⟩
    rw [hA1] at c2 ha
    rw [hA2] at c3 ha2
    obtain ⟨N4, hN4⟩ : ∃ N, A1 * 256 + A2 = N := ⟨_, rfl⟩
    have hN4I : (256 : Int) * (A1 : Int) + (A2 : Int) = (N4 : Int) := by omega
    have hN4b : (N4 : Int) < 65536 := by omega
    have HRA : Hid (R = if N4 < 256 then .error 30 else if ((t :: f :: xs).drop 4).length < N4 then .error 30 else .ok ((t, ((t :: f :: xs).drop 4).take N4), ((t :: f :: xs).drop 4).drop N4)) := by
      show R = _
      rw [HR0.out, hxs]
      simp only [lenD, len2]
      rw [HX.out.2.1, if_neg q2, if_neg q4, if_pos q5, hA1, hA2, hN4]
      by_cases h128 : N4 < 256
      · rw [if_pos h128, if_pos h128]
      · rw [if_neg h128, if_neg h128]
        rfl
    clear hxs hA1 hA2 q4 q3 q5 hN4
    by_cases q8 : N4 < 256
    · have q8I : (N4 : Int) < 256 := by omega
      have hR3 : Hid (R = .error 30) := by show R = _; rw [HRA.out, if_pos q8]
      go_enter Tryd.func9, Tryd.ntmps9
      go_wp2_with fail
      go_quiet (fail)
      generalize hwq : World.drewN W0 nq = wq
      have HS1 : Hid (Tl wq w.heap.size (.int .u8 0) (.slice none 0 0) ∧ Below W0.heap.size W0 wq) := by rw [← hwq]; exact ⟨HS0.out.1.below (below_drews (Below.refl _ _) _), below_drews (Below.refl _ _) _⟩
      have d0 : wq.cell? ⟨b, o, none⟩ = some (.int .u8 (TN : Int)) := by rw [← hwq]; exact c0
      obtain ⟨e0, e1', e2', e3'⟩ := HS1.out.1.facts
      obtain ⟨e4, e5⟩ := HS1.out.1.facts1 (.int .u8 0)
      clear hwq g0 g1 g2 g3 g4 g5 c0 c1 c2 c3 hN4I hN4b ha ha2
      go_wp2_with fail
      refine bodyPost_ret (ret_tlv3 rfl _ _ w.heap.size _ _ rfl (HS1.out.1.set2 _ _)) rfl ?_
      exact HBQ.out _ 30 HS1.out.2 hR3.out
    have q8I : ¬ (N4 : Int) < 256 := by omega
    have HRN : Hid (R = if ((t :: f :: xs).drop 4).length < N4 then .error 30 else .ok ((t, ((t :: f :: xs).drop 4).take N4), ((t :: f :: xs).drop 4).drop N4)) := by show R = _; rw [HRA.out, if_neg q8]
    clear HRA
    by_cases q5 : n - 4 < N4
    · have q5I : (n : Int) - 4 < (N4 : Int) := by omega
      have hR3 : Hid (R = .error 30) := by show R = _; rw [HRN.out, if_pos (by rw [List.length_drop, HX.out.2.2.2.1]; exact q5)]
      go_enter Tryd.func9, Tryd.ntmps9
      go_wp2_with fail
      go_quiet (fail)
      generalize hwq : World.drewN W0 nq = wq
      have HS1 : Hid (Tl wq w.heap.size (.int .u8 0) (.slice none 0 0) ∧ Below W0.heap.size W0 wq) := by rw [← hwq]; exact ⟨HS0.out.1.below (below_drews (Below.refl _ _) _), below_drews (Below.refl _ _) _⟩
      have d0 : wq.cell? ⟨b, o, none⟩ = some (.int .u8 (TN : Int)) := by rw [← hwq]; exact c0
      obtain ⟨e0, e1', e2', e3'⟩ := HS1.out.1.facts
      obtain ⟨e4, e5⟩ := HS1.out.1.facts1 (.int .u8 0)
      clear hwq g0 g1 g2 g3 g4 g5 c0 c1 c2 c3 hN4I hN4b ha ha2
      go_wp2_with fail
      refine bodyPost_ret (ret_tlv3 rfl _ _ w.heap.size _ _ rfl (HS1.out.1.set2 _ _)) rfl ?_
      exact HBQ.out _ 30 HS1.out.2 hR3.out
    have q5I : ¬ (n : Int) - 4 < (N4 : Int) := by omega
    have hR3 : Hid (R = .ok ((t, ((t :: f :: xs).drop 4).take N4), ((t :: f :: xs).drop 4).drop N4)) := by show R = _; rw [HRN.out, if_neg (by rw [List.length_drop, HX.out.2.2.2.1]; exact q5)]
    obtain ⟨E, hE⟩ : ∃ E, 4 + N4 = E := ⟨_, rfl⟩
    have hEI : (4 : Int) + (N4 : Int) = (E : Int) := by omega
    have m1 : (E : Int) ≤ (n : Int) := by omega
    have m2 : (E : Int) ≤ (c : Int) := by omega
    have m3 : (4 : Int) ≤ (E : Int) := by omega
    have m4 : (4 : Int) ≤ (c : Int) := by omega
    have HE : Hid (∀ W p1 c1 p2 c2, Below W0.heap.size W0 W → ByV w (fun b => P b ∧ b < w.heap.size) p1 c1 (((t :: f :: xs).drop 4).take N4) → ByV w (fun b => P b ∧ b < w.heap.size) p2 c2 ((t :: f :: xs).drop E) → SpPost w (fun _ => P) R (.returned (.tuple #[.agg #[.int .u8 (TN : Int), .slice p1 (E - 4) c1], .slice p2 (n - E) c2, .int .i64 0])) ((W.setCell ⟨w.heap.size, 0, none⟩ (.int .u8 (TN : Int))).setCell ⟨w.heap.size, 1, none⟩ (.slice p1 (E - 4) c1))) := fun W p1 c1 p2 c2 hW hv1 hv2 => by
      have hb : Below w.heap.size w W := HS0.out.2.trans (hW.mono HS0.out.2.size)
      have hbut := but_set2 W w.heap.size (.int .u8 (TN : Int)) (.slice p1 (E - 4) c1)
      have hk2 : ∀ g, (P g ∧ g < w.heap.size) → g < w.heap.size → ((W.setCell ⟨w.heap.size, 0, none⟩ (.int .u8 (TN : Int))).setCell ⟨w.heap.size, 1, none⟩ (.slice p1 (E - 4) c1)).heap[g]? = w.heap[g]? := fun g _ hlt => (hbut.block g (Nat.lt_of_lt_of_le hlt hb.size) (by omega)).trans (hb.block g hlt)
      refine ⟨hb.trans (hbut.below (Nat.le_refl _) hb.size), .inl ⟨t, _, _, p1, c1, p2, c2, hR3.out, ?_, (hv1.keep hk2).mono (fun g hg _ => hg.1), ?_⟩⟩
      · have l1 : (((t :: f :: xs).drop 4).take N4).length = E - 4 := by rw [List.length_take, List.length_drop, HX.out.2.2.2.1]; omega
        have l2 : (((t :: f :: xs).drop 4).drop N4).length = n - E := by rw [List.length_drop, List.length_drop, HX.out.2.2.2.1]; omega
        rw [HX.out.1, l1, l2]
      · rw [List.drop_drop, hE]
        exact (hv2.keep hk2).mono (fun g hg _ => hg.1)
    have HV0 : ByV w (fun b => P b ∧ b < w.heap.size) (some ⟨b, o, none⟩) c (t :: f :: xs) := HX.out.2.2.2.2.mono (fun g hg hlt => ⟨hg, hlt⟩)
    have HVA := (HV0.drop 4 (by rw [HX.out.2.2.2.1]; omega)).take N4 (by rw [List.length_drop, HX.out.2.2.2.1]; omega)
    have HVE := HV0.drop E (by rw [HX.out.2.2.2.1]; omega)
    clear HV0 hE q5 hR3 HRN HR0
    have qa : ¬ c = 4 := by omega
    rw [if_neg qa] at HVA
    have HA : Hid (ByV w (fun b => P b ∧ b < w.heap.size) (some ⟨b, o + 4, none⟩) (c - 4) (((t :: f :: xs).drop 4).take N4)) := HVA
    clear HVA
    by_cases qe : c = E
    · rw [if_pos qe, show c - E = 0 by omega] at HVE
      have HB : Hid (ByV w (fun b => P b ∧ b < w.heap.size) (some ⟨b, o, none⟩) 0 ((t :: f :: xs).drop E)) := HVE
      clear HVE
      go_enter Tryd.func9, Tryd.ntmps9
      go_wp2_with fail
      go_quiet (fail)
      generalize hwq : World.drewN W0 nq = wq
      have HS1 : Hid (Tl wq w.heap.size (.int .u8 0) (.slice none 0 0) ∧ Below W0.heap.size W0 wq) := by rw [← hwq]; exact ⟨HS0.out.1.below (below_drews (Below.refl _ _) _), below_drews (Below.refl _ _) _⟩
      have d0 : wq.cell? ⟨b, o, none⟩ = some (.int .u8 (TN : Int)) := by rw [← hwq]; exact c0
      obtain ⟨e0, e1', e2', e3'⟩ := HS1.out.1.facts
      obtain ⟨e4, e5⟩ := HS1.out.1.facts1 (.int .u8 0)
      clear hwq g0 g1 g2 g3 g4 g5 c0 c1 c2 c3 hN4I hN4b ha ha2
      go_wp2_with fail
      go_region
      go_wp2_with fail
      refine bodyPost_ret (ret_tlv3 rfl _ _ w.heap.size _ _ rfl (Tl.set2 (v0 := .int .u8 0) (v1 := .slice none 0 0) (HS1.out.1.same rfl) _ _)) rfl ?_
      exact HE.out _ _ _ _ _ HS1.out.2.drew (by rw [← qe]; exact HA.out) HB.out
    rw [if_neg qe, Option.map_some, Addr.add_mid] at HVE
    have HB : Hid (ByV w (fun b => P b ∧ b < w.heap.size) (some ⟨b, o + E, none⟩) (c - E) ((t :: f :: xs).drop E)) := HVE
    clear HVE
    go_enter Tryd.func9, Tryd.ntmps9
    go_wp2_with fail
    go_quiet (fail)
    generalize hwq : World.drewN W0 nq = wq
    have HS1 : Hid (Tl wq w.heap.size (.int .u8 0) (.slice none 0 0) ∧ Below W0.heap.size W0 wq) := by rw [← hwq]; exact ⟨HS0.out.1.below (below_drews (Below.refl _ _) _), below_drews (Below.refl _ _) _⟩
    have d0 : wq.cell? ⟨b, o, none⟩ = some (.int .u8 (TN : Int)) := by rw [← hwq]; exact c0
    obtain ⟨e0, e1', e2', e3'⟩ := HS1.out.1.facts
    obtain ⟨e4, e5⟩ := HS1.out.1.facts1 (.int .u8 0)
    clear hwq g0 g1 g2 g3 g4 g5 c0 c1 c2 c3 hN4I hN4b ha ha2
    go_wp2_with fail
    go_region
    go_wp2_with fail
    refine bodyPost_ret (ret_tlv3 rfl _ _ w.heap.size _ _ rfl (Tl.set2 (v0 := .int .u8 0) (v1 := .slice none 0 0) (HS1.out.1.same rfl) _ _)) rfl ?_
    exact HE.out _ _ _ _ _ HS1.out.2.drew HA.out HB.out
end Go.Proofs.YtnckmcmobkpdcaaDoor
/-
  The document's Same and Write.
-/
namespace Go.Proofs.YtnckmcmobkpdcaaDoor
open Go.Shelf Go.RowKit
set_option linter.unusedVariables false
set_option linter.unusedSimpArgs false
theorem bat_cells (W : World) (l : Bs) (cs : Array Value) (n : Nat) (hc : u8sC l = cs) (hn : l.length = n) (hl : n ≤ 1000) : BAt (W.alloc (.cells cs 5)) (some ⟨W.heap.size, 0, none⟩) n l := by
  subst hc hn
  exact (byv_lit W l hl).lies
theorem u8_of_mod (n : Nat) : ((UInt8.ofNat n).toNat : Int) = (n : Int) % 256 := by rw [UInt8.toNat_ofNat']; omega
set_option maxRecDepth 100000 in
set_option maxHeartbeats 4000000 in
/-- Write. -/
theorem rWrite_any (t : Nat) (ht : t < 256) (p : Option Addr) (n c : Nat) (l : Bs) (w : World) (hl : l.length = n) (h : BAt w p n l) (hn : n < 65536) :
    Calls Tryd.prog 17 #[.int .u8 (t : Int), .slice p n c] w fun e w' => Below w.heap.size w w' ∧ ∃ v, e = .returned v ∧ w'.ownsRow w.heap.size 5 1 v (1 + (headD n).length + n) (Lib.byteCells (UInt8.ofNat t :: (headD n ++ l))) := by
  have hOA := owns_lit1 w w.heap.size t ht (Nat.le_refl _)
  have b1 : Below w.heap.size w (w.alloc (.cells #[.int .u8 (t : Int)] 5)) := (Below.refl _ _).alloc (Nat.le_refl _) _
  generalize hA1 : w.alloc (.cells #[.int .u8 (t : Int)] 5) = A1 at hOA b1
  have HA : Hid (Below w.heap.size w A1 ∧ A1.ownsRow w.heap.size 5 1 (.slice (some ⟨w.heap.size, 0, none⟩) 1 1) 1 (Lib.byteCells [UInt8.ofNat t])) := ⟨b1, hOA⟩
  have HH : Hid (BAt w p n l ∧ l.length = n) := ⟨h, hl⟩
  clear hOA b1 h hl
  by_cases q1 : n < 128
  · have q1I : (n : Int) < 128 := by omega
    have hh : headD n = [UInt8.ofNat n] := by unfold headD; rw [if_pos q1]
    rw [hh]
    go_enter Tryd.func17, Tryd.ntmps17
    go_wp2_with (at_builtin; first
      | (refine wpList_append_wt rfl (.tmp 23) (.tmp 26) rfl w.heap.size (.slice (some ⟨w.heap.size, 0, none⟩) 1 1) rfl [UInt8.ofNat t] 1 rfl (HA.out.2.alloc _) (some ⟨A1.heap.size, 0, none⟩) 1 1 [UInt8.ofNat n] rfl rfl (bat_lit _ _ _ (by rw [UInt8.toNat_ofNat']; omega)) (by omega) (Nat.le_trans HA.out.1.size (alloc_le _ _)) ?_; intro v1 w2 o1 gr1 _; obtain ⟨p2, c2, rfl⟩ := owns_slice o1; have HB2 : Hid (Below w.heap.size w w2 ∧ w2.ownsRow w.heap.size 5 1 (.slice p2 2 c2) 2 (Lib.byteCells ([UInt8.ofNat t] ++ [UInt8.ofNat n]))) := ⟨below_grownT (HA.out.1.alloc HA.out.1.size _) (Nat.le_refl _) (HA.out.2.alloc _) gr1, o1⟩; clear o1 gr1)
      | (refine wpList_append_wt rfl (.tmp 36) (.tmp 37) rfl w.heap.size (.slice p2 2 c2) rfl ([UInt8.ofNat t] ++ [UInt8.ofNat n]) 2 rfl HB2.out.2 p n c l HH.out.2 rfl (HH.out.1.below HB2.out.1) (by omega) HB2.out.1.size ?_; intro v3 w3 o3 gr3 _; have HB3 : Hid (Below w.heap.size w w3 ∧ w3.ownsRow w.heap.size 5 1 v3 (2 + n) (Lib.byteCells ([UInt8.ofNat t] ++ [UInt8.ofNat n] ++ l))) := ⟨below_grownT HB2.out.1 (Nat.le_refl _) HB2.out.2 gr3, o3⟩; clear o3 gr3))
    go_ret
    exact ⟨HB3.out.1, v3, rfl, HB3.out.2⟩
  have q1I : ¬ (n : Int) < 128 := by omega
  by_cases q2 : n < 256
  · have q2I : (n : Int) < 256 := by omega
    have hh : headD n = [129, UInt8.ofNat n] := by unfold headD; rw [if_neg q1, if_pos q2]
    rw [hh]
    go_enter Tryd.func17, Tryd.ntmps17
    go_wp2_with (at_builtin; first
      | (refine wpList_append_wt rfl (.tmp 31) (.tmp 34) rfl w.heap.size (.slice (some ⟨w.heap.size, 0, none⟩) 1 1) rfl [UInt8.ofNat t] 1 rfl (HA.out.2.alloc _) (some ⟨A1.heap.size, 0, none⟩) 2 2 [129, UInt8.ofNat n] rfl rfl (bat_cells _ _ _ _ (by show #[_, Value.int .u8 ((UInt8.ofNat n).toNat : Int)] = _; rw [u8_of_mod, show (n : Int) % 256 = (n : Int) by omega]; rfl) rfl (by omega)) (by omega) (Nat.le_trans HA.out.1.size (alloc_le _ _)) ?_; intro v1 w2 o1 gr1 _; obtain ⟨p2, c2, rfl⟩ := owns_slice o1; have HB2 : Hid (Below w.heap.size w w2 ∧ w2.ownsRow w.heap.size 5 1 (.slice p2 3 c2) 3 (Lib.byteCells ([UInt8.ofNat t] ++ [129, UInt8.ofNat n]))) := ⟨below_grownT (HA.out.1.alloc HA.out.1.size _) (Nat.le_refl _) (HA.out.2.alloc _) gr1, o1⟩; clear o1 gr1)
      | (refine wpList_append_wt rfl (.tmp 36) (.tmp 37) rfl w.heap.size (.slice p2 3 c2) rfl ([UInt8.ofNat t] ++ [129, UInt8.ofNat n]) 3 rfl HB2.out.2 p n c l HH.out.2 rfl (HH.out.1.below HB2.out.1) (by omega) HB2.out.1.size ?_; intro v3 w3 o3 gr3 _; have HB3 : Hid (Below w.heap.size w w3 ∧ w3.ownsRow w.heap.size 5 1 v3 (3 + n) (Lib.byteCells ([UInt8.ofNat t] ++ [129, UInt8.ofNat n] ++ l))) := ⟨below_grownT HB2.out.1 (Nat.le_refl _) HB2.out.2 gr3, o3⟩; clear o3 gr3))
    go_ret
    exact ⟨HB3.out.1, v3, rfl, HB3.out.2⟩
  have q2I : ¬ (n : Int) < 256 := by omega
  have hh : headD n = [130, UInt8.ofNat (n / 256), UInt8.ofNat n] := by unfold headD; rw [if_neg q1, if_neg q2]
  rw [hh]
  go_enter Tryd.func17, Tryd.ntmps17
  go_wp2_with (at_builtin; first
    | (refine wpList_append_wt rfl (.tmp 11) (.tmp 18) rfl w.heap.size (.slice (some ⟨w.heap.size, 0, none⟩) 1 1) rfl [UInt8.ofNat t] 1 rfl (HA.out.2.alloc _) (some ⟨A1.heap.size, 0, none⟩) 3 3 [130, UInt8.ofNat (n / 256), UInt8.ofNat n] rfl rfl (bat_cells _ _ _ _ (by show #[_, Value.int .u8 ((UInt8.ofNat (n / 256)).toNat : Int), Value.int .u8 ((UInt8.ofNat n).toNat : Int)] = _; rw [u8_of_mod, u8_of_mod, show ((n / 256 : Nat) : Int) % 256 = (n : Int) / 256 by omega]; rfl) rfl (by omega)) (by omega) (Nat.le_trans HA.out.1.size (alloc_le _ _)) ?_; intro v1 w2 o1 gr1 _; obtain ⟨p2, c2, rfl⟩ := owns_slice o1; have HB2 : Hid (Below w.heap.size w w2 ∧ w2.ownsRow w.heap.size 5 1 (.slice p2 4 c2) 4 (Lib.byteCells ([UInt8.ofNat t] ++ [130, UInt8.ofNat (n / 256), UInt8.ofNat n]))) := ⟨below_grownT (HA.out.1.alloc HA.out.1.size _) (Nat.le_refl _) (HA.out.2.alloc _) gr1, o1⟩; clear o1 gr1)
    | (refine wpList_append_wt rfl (.tmp 36) (.tmp 37) rfl w.heap.size (.slice p2 4 c2) rfl ([UInt8.ofNat t] ++ [130, UInt8.ofNat (n / 256), UInt8.ofNat n]) 4 rfl HB2.out.2 p n c l HH.out.2 rfl (HH.out.1.below HB2.out.1) (by omega) HB2.out.1.size ?_; intro v3 w3 o3 gr3 _; have HB3 : Hid (Below w.heap.size w w3 ∧ w3.ownsRow w.heap.size 5 1 v3 (4 + n) (Lib.byteCells ([UInt8.ofNat t] ++ [130, UInt8.ofNat (n / 256), UInt8.ofNat n] ++ l))) := ⟨below_grownT HB2.out.1 (Nat.le_refl _) HB2.out.2 gr3, o3⟩; clear o3 gr3))
  go_ret
  exact ⟨HB3.out.1, v3, rfl, HB3.out.2⟩
end Go.Proofs.YtnckmcmobkpdcaaDoor
/-
  The hand's Oid: a row of numbers as a piece's bytes.
-/
namespace Go.Proofs.YtnckmcmobkpdcaaDoor
open Go.Shelf Go.RowKit
set_option linter.unusedVariables false
set_option linter.unusedSimpArgs false

theorem packD_len (xs : List Nat) (h : 2 ≤ xs.length) : (packD xs).length = xs.length - 1 := by
  match xs, h with
  | a :: b :: l, _ => simp [packD]
theorem packD_at (xs : List Nat) (h : 2 ≤ xs.length) (j : Nat) (h1 : 1 ≤ j) (h2 : j < xs.length) : (packD xs).getD (j - 1) 0 = (if j = 1 then xs.getD 1 0 + 40 * xs.getD 0 0 else xs.getD j 0) := by
  match xs, h with
  | a :: b :: l, _ =>
    by_cases hj : j = 1
    · subst hj
      rfl
    · rw [if_neg hj]
      obtain ⟨k, rfl⟩ : ∃ k, j = k + 2 := ⟨j - 2, by omega⟩
      rfl
theorem grps_take (l : List Nat) (k : Nat) (hk : k < l.length) : grpsD (l.take (k + 1)) = grpsD (l.take k) ++ grp (l.getD k 0) := by
  rw [List.take_add_one, grps_app]
  congr 1
  simp [List.getD, hk, grpsD]
set_option maxRecDepth 100000 in
set_option maxHeartbeats 8000000 in
/-- Oid. -/
theorem hOid_any (g n c : Nat) (xs : List Nat) (w : World) (hn : xs.length = n) (h2 : 2 ≤ n) (h30 : n ≤ 30) (h0 : xs.getD 0 0 ≤ 2) (hlt : ∀ j, j < n → xs.getD j 0 < 4611686018427387904) (hc : ∀ i, i < n → w.cell? ⟨g, i, none⟩ = some (.int .u64 ((xs.getD i 0 : Nat) : Int))) :
    Calls Tryd.prog 10 #[.slice (some ⟨g, 0, none⟩) n c] w fun e w' => Below w.heap.size w w' ∧ ∃ v, e = .returned v ∧ w'.ownsRow w.heap.size 5 1 v (writeD 6 (grpsD (packD xs))).length (Lib.byteCells (writeD 6 (grpsD (packD xs)))) := by
  have hg := World.block_lt_of_cell? w _ (hc 0 (by omega))
  have HC : Hid ((∀ i, i < n → w.cell? ⟨g, i, none⟩ = some (.int .u64 ((xs.getD i 0 : Nat) : Int))) ∧ xs.length = n ∧ g < w.heap.size ∧ (∀ j, j < n → xs.getD j 0 < 4611686018427387904) ∧ xs.getD 0 0 ≤ 2) := ⟨hc, hn, hg, hlt, h0⟩
  clear hc hn hg hlt h0
  go_enter Tryd.func10, Tryd.ntmps10
  go_wp2_with fail
  go_loopg [3, 4] (n - 1) (fun k v3 v4 wr => ∃ (j L : Nat) (pb : Option Addr) (cb : Nat), j + k = n ∧ 1 ≤ j ∧ v4 = .int .i64 (j : Int) ∧ v3 = .slice pb L cb ∧ (grpsD ((packD xs).take (j - 1))).length = L ∧ L ≤ 11 * j ∧ wr.ownsRow w.heap.size 5 1 (.slice pb L cb) L (Lib.byteCells (grpsD ((packD xs).take (j - 1)))) ∧ Below w.heap.size w wr)
  case atStart => exact ⟨1, 0, none, 0, by omega, Nat.le_refl _, rfl, rfl, rfl, by omega, World.ownsRow_nil _ _ _ _, Below.refl _ _⟩
  case round =>
    obtain ⟨j, L, pb, cb, hjk, hj1, rfl, rfl, hL, hL11, hown, hb⟩ := hrel
    have HI : Hid ((grpsD ((packD xs).take (j - 1))).length = L ∧ wr.ownsRow w.heap.size 5 1 (.slice pb L cb) L (Lib.byteCells (grpsD ((packD xs).take (j - 1)))) ∧ Below w.heap.size w wr ∧ j + gk = n) := ⟨hL, hown, hb, hjk⟩
    have hjn : j ≤ n := by omega
    clear hL hown hb hjk
    rcases Nat.lt_or_eq_of_le hjn with hj | hj
    rotate_left
    · have hjI : ¬ (j : Int) < (n : Int) := by omega
      have hfull : grpsD ((packD xs).take (j - 1)) = grpsD (packD xs) := by rw [List.take_of_length_le (by rw [packD_len xs (by rw [HC.out.2.1]; exact h2), HC.out.2.1]; omega)]
      have HF : Hid (grpsD ((packD xs).take (j - 1)) = grpsD (packD xs)) := hfull
      obtain ⟨p', c', he, hv⟩ := own_byv (l := grpsD ((packD xs).take (j - 1))) (by rw [HI.out.1]; exact HI.out.2.1)
      rw [HI.out.1] at he
      cases he
      have HW := rWrite_any 6 (by decide) pb L cb (grpsD ((packD xs).take (j - 1))) wr HI.out.1 (by have := hv.lies; rw [HI.out.1] at this; exact this) (by omega)
      clear hv hfull hj
      go_wp2_with (go_at_call 17; refine HW.mono ?_; rintro e w5 ⟨hb5, v, rfl, ho⟩; have HO : Hid (Below wr.heap.size wr w5 ∧ w5.ownsRow wr.heap.size 5 1 v (1 + (headD L).length + L) (Lib.byteCells (UInt8.ofNat 6 :: (headD L ++ grpsD ((packD xs).take (j - 1)))))) := ⟨hb5, ho⟩; clear hb5 ho)
      go_ret
      refine ⟨HI.out.2.2.1.trans (HO.out.1.mono HI.out.2.2.1.size), v, rfl, ?_⟩
      have h5 := HO.out.2
      rw [HF.out] at h5
      have hl5 : (grpsD (packD xs)).length = L := by rw [← HF.out]; exact HI.out.1
      have e5 : (writeD 6 (grpsD (packD xs))) = UInt8.ofNat 6 :: (headD L ++ grpsD (packD xs)) := by unfold writeD; rw [hl5]; rfl
      have e6 : (writeD 6 (grpsD (packD xs))).length = 1 + (headD L).length + L := by rw [e5]; simp [hl5]; omega
      rw [e6, e5]
      exact owns_lower h5 HI.out.2.2.1.size
    have hjI : (j : Int) < (n : Int) := by omega
    obtain ⟨V, hV⟩ : ∃ V, (packD xs).getD (j - 1) 0 = V := ⟨_, rfl⟩
    have hV2 := packD_at xs (by rw [HC.out.2.1]; exact h2) j hj1 (by rw [HC.out.2.1]; exact hj)
    rw [hV] at hV2
    have hxj := HC.out.2.2.2.1 j hj
    have hx0 := HC.out.2.2.2.2
    have cj : wr.cell? ⟨g, j, none⟩ = some (.int .u64 ((xs.getD j 0 : Nat) : Int)) := (HI.out.2.2.1.cell (p := ⟨g, j, none⟩) HC.out.2.2.1).trans (HC.out.1 j hj)
    have c0 : wr.cell? ⟨g, 0, none⟩ = some (.int .u64 ((xs.getD 0 0 : Nat) : Int)) := (HI.out.2.2.1.cell (p := ⟨g, 0, none⟩) HC.out.2.2.1).trans (HC.out.1 0 (by omega))
    obtain ⟨X, hX⟩ : ∃ X, xs.getD j 0 = X := ⟨_, rfl⟩
    obtain ⟨X0, hX0⟩ : ∃ X, xs.getD 0 0 = X := ⟨_, rfl⟩
    rw [hX] at cj hxj
    rw [hX0] at c0 hx0
    have HVX : Hid (V = if j = 1 then X + 40 * X0 else X) := by
      show V = _
      rw [hV2]
      by_cases h : j = 1
      · rw [if_pos h, if_pos h, ← hX, h, hX0]
      · rw [if_neg h, if_neg h, hX]
    have hVb : V < 9223372036854775808 := by have := HVX.out; split at this <;> omega
    have HV : Hid ((packD xs).getD (j - 1) 0 = V) := hV
    clear hV hV2 hX hX0
    have hj0 : (0 : Int) ≤ (j : Int) := by omega
    have hn0 : (0 : Int) < (n : Int) := by omega
    go_upto_if 18 with fail
    go_cut [5] from 7 to 44 (fun v5 w2 => v5 = .int .u64 (V : Int) ∧ w2 = wr)
    case first =>
      by_cases q : j = 1
      · have qI : ((j : Int) == 1) = true := by simp; omega
        have e := HVX.out
        rw [if_pos q] at e
        have hs1 : (40 : Int) * (X0 : Int) ≤ 80 := by omega
        have hsI : (X : Int) + 40 * (X0 : Int) = (V : Int) := by omega
        have hw1 : IntKind.u64.wrap (40 * (X0 : Int)) = 40 * (X0 : Int) := Go.IntWalk.u64_in _ (by omega)
        have hw2 : IntKind.u64.wrap (V : Int) = (V : Int) := Go.IntWalk.u64_in _ (by omega)
        clear e q
        go_wp2_with fail
        go_meet
        case rel => exact ⟨rfl, rfl⟩
      · have qI : ((j : Int) == 1) = false := by simp; omega
        have e := HVX.out
        rw [if_neg q] at e
        subst e
        clear q
        go_wp2_with fail
        go_meet
        case rel => exact ⟨rfl, rfl⟩
    case rest =>
    obtain ⟨rfl, rfl⟩ := hcut
    clear cj c0 HVX hxj hx0
    obtain ⟨Z, hZ⟩ : ∃ Z, V % 128 = Z := ⟨_, rfl⟩
    obtain ⟨Q, hQ⟩ : ∃ Q, V / 128 = Q := ⟨_, rfl⟩
    have hZI : (V : Int) % 128 = (Z : Int) := by omega
    have hQI : (V : Int) / 128 = (Q : Int) := by omega
    have hZ8 : IntKind.u8.wrap (Z : Int) = (Z : Int) := Go.IntWalk.u8_in _ (by omega)
    have HZ : Hid (V % 128 = Z ∧ V / 128 = Q ∧ Z < 128) := ⟨hZ, hQ, by omega⟩
    have hQb : Q < 72057594037927936 := by omega
    have hlit := owns_lit1 wc wc.heap.size Z (by omega) (Nat.le_refl _)
    have hbl : Below wc.heap.size wc (wc.alloc (.cells #[.int .u8 (Z : Int)] 5)) := (Below.refl _ _).alloc (Nat.le_refl _) _
    have hbv : ByV (wc.alloc (.cells #[.int .u8 (Z : Int)] 5)) (fun b => wc.heap.size ≤ b) (some ⟨wc.heap.size, 0, none⟩) 1 [UInt8.ofNat Z] := by
      obtain ⟨p', c', he, hv⟩ := own_byv (l := [UInt8.ofNat Z]) hlit
      cases he
      exact hv
    have HL0 : Hid (Below wc.heap.size wc (wc.alloc (.cells #[.int .u8 (Z : Int)] 5)) ∧ ByV (wc.alloc (.cells #[.int .u8 (Z : Int)] 5)) (fun b => wc.heap.size ≤ b) (some ⟨wc.heap.size, 0, none⟩) 1 [UInt8.ofNat Z]) := ⟨hbl, hbv⟩
    clear hZ hQ hlit hbl hbv
    go_wp2_with fail
    clear hZI hQI hZ8
    go_loopw [5, 6] (fun v5 v6 w2 => ∃ (N f : Nat) (acc : Bs) (q : Option Addr) (d m : Nat), v5 = .int .u64 (N : Int) ∧ v6 = .slice q m d ∧ acc.length = m ∧ m + f ≤ 11 ∧ N < 128 ^ f ∧ N < 72057594037927936 ∧ grpGo f N acc = grp V ∧ ByV w2 (fun b => wc.heap.size ≤ b) q d acc ∧ Below wc.heap.size wc w2) (fun v5 _ _ => (intOf v5).toNat)
    case atStart => exact ⟨Q, 10, [UInt8.ofNat Z], some ⟨wc.heap.size, 0, none⟩, 1, 1, rfl, rfl, rfl, by omega, Nat.lt_of_lt_of_le hQb (by decide), hQb, by unfold grp; rw [HZ.out.1, HZ.out.2.1], HL0.out.2, HL0.out.1⟩
    case round =>
      obtain ⟨N, f, acc, q, d, m, rfl, rfl, hm, hmf, hNf, hN, hgr, hv, hb2⟩ := hrel
      have HA : Hid (acc.length = m ∧ grpGo f N acc = grp V ∧ ByV wr (fun b => wc.heap.size ≤ b) q d acc ∧ Below wc.heap.size wc wr ∧ N < 128 ^ f) := ⟨hm, hgr, hv, hb2, hNf⟩
      clear hm hgr hv hb2 hNf
      by_cases qN : N = 0
      · have qI : ¬ (0 : Int) < (N : Int) := by omega
        have HG : Hid (acc = grp V) := by
          show acc = grp V
          rw [← HA.out.2.1, qN, grpGo_zero]
        clear qN
        have hk1 : gk - 1 < gk := by have := HI.out.2.2.2; omega
        have hownR : wr.ownsRow w.heap.size 5 1 (.slice pb L cb) L (Lib.byteCells (grpsD ((packD xs).take (j - 1)))) := owns_keep HI.out.2.1 (fun k hk => HA.out.2.2.2.1.block k (owns_lt HI.out.2.1 hk).2.1)
        have hlies := HA.out.2.2.1.lies
        rw [HA.out.1] at hlies
        have HX : Hid (wr.ownsRow w.heap.size 5 1 (.slice pb L cb) L (Lib.byteCells (grpsD ((packD xs).take (j - 1)))) ∧ BAt wr q m acc ∧ Below w.heap.size w wr) := ⟨hownR, hlies, HI.out.2.2.1.trans (HA.out.2.2.2.1.mono HI.out.2.2.1.size)⟩
        have hLm : L + m ≤ 100000000 := by omega
        clear hownR hlies
        go_wp2_with (at_builtin; refine wpList_append_wt rfl (.tmp 42) (.tmp 43) rfl w.heap.size (.slice pb L cb) rfl (grpsD ((packD xs).take (j - 1))) L HI.out.1 HX.out.1 q m d acc HA.out.1 rfl HX.out.2.1 hLm HX.out.2.2.size ?_; intro v5 w5 o5 gr5 at5; have HO : Hid (w5.ownsRow w.heap.size 5 1 v5 (L + m) (Lib.byteCells (grpsD ((packD xs).take (j - 1)) ++ acc)) ∧ Below w.heap.size w w5) := ⟨o5, below_grownT HX.out.2.2 (Nat.le_refl _) HX.out.1 gr5⟩; clear o5 gr5 at5)
        obtain ⟨p5, c5, rfl⟩ := owns_slice HO.out.1
        go_roundg (gk - 1)
        case measure => exact hk1
        case rel =>
          have hpl : (packD xs).length = n - 1 := by rw [packD_len xs (by rw [HC.out.2.1]; exact h2), HC.out.2.1]
          have e1 : grpsD ((packD xs).take (j + 1 - 1)) = grpsD ((packD xs).take (j - 1)) ++ acc := by
            rw [HG.out, ← HV.out, show j + 1 - 1 = (j - 1) + 1 by omega]
            exact grps_take (packD xs) (j - 1) (by omega)
          refine ⟨j + 1, L + m, p5, c5, by have := HI.out.2.2.2; omega, by omega, by push_cast; rfl, rfl, ?_, by omega, ?_, HO.out.2⟩
          · rw [e1, List.length_append, HI.out.1, HA.out.1]
          · rw [e1]; exact HO.out.1
      · have qI : (0 : Int) < (N : Int) := by omega
        obtain ⟨f', hf'⟩ : ∃ f', f = f' + 1 := by
          cases f with
          | zero => have := HA.out.2.2.2.2; simp at this; omega
          | succ f' => exact ⟨f', rfl⟩
        obtain ⟨Z1, hZ1⟩ : ∃ Z, N % 128 = Z := ⟨_, rfl⟩
        obtain ⟨Q1, hQ1⟩ : ∃ Q, N / 128 = Q := ⟨_, rfl⟩
        obtain ⟨Y, hY⟩ : ∃ Y, 128 + Z1 = Y := ⟨_, rfl⟩
        have hZ1I : (N : Int) % 128 = (Z1 : Int) := by omega
        have hQ1I : (N : Int) / 128 = (Q1 : Int) := by omega
        have hYI : 128 + (Z1 : Int) = (Y : Int) := by omega
        have hY256 : Y < 256 := by omega
        have hY64 : IntKind.u64.wrap (Y : Int) = (Y : Int) := Go.IntWalk.u64_in _ (by omega)
        have hY8 : IntKind.u8.wrap (Y : Int) = (Y : Int) := Go.IntWalk.u8_in _ (by omega)
        have hQN : Q1 < N := by omega
        have hQ72 : Q1 < 72057594037927936 := by omega
        have HG : Hid (grpGo f' Q1 (UInt8.ofNat Y :: acc) = grp V ∧ Q1 < 128 ^ f' ∧ f = f' + 1) := by
          refine ⟨?_, ?_, hf'⟩
          · rw [← HA.out.2.1, hf', grpGo_succ, if_neg qN, hZ1, hQ1, hY]
          · have := HA.out.2.2.2.2
            rw [hf', Nat.pow_succ] at this
            omega
        have hlies := HA.out.2.2.1.lies
        rw [HA.out.1] at hlies
        have hbl : Below wr.heap.size wr (wr.alloc (.cells #[.int .u8 (Y : Int)] 5)) := (Below.refl _ _).alloc (Nat.le_refl _) _
        have HX : Hid (BAt (wr.alloc (.cells #[.int .u8 (Y : Int)] 5)) q m acc ∧ (wr.alloc (.cells #[.int .u8 (Y : Int)] 5)).ownsRow wr.heap.size 5 1 (.slice (some ⟨wr.heap.size, 0, none⟩) 1 1) 1 (Lib.byteCells [UInt8.ofNat Y]) ∧ Below wr.heap.size wr (wr.alloc (.cells #[.int .u8 (Y : Int)] 5))) := ⟨hlies.below hbl, owns_lit1 wr wr.heap.size Y hY256 (Nat.le_refl _), hbl⟩
        have h1m : 1 + m ≤ 100000000 := by omega
        clear hf' hZ1 hQ1 hY hlies hbl qN
        go_wp2_with (at_builtin; refine wpList_append_wt rfl (.tmp 39) (.tmp 40) rfl wr.heap.size (.slice (some ⟨wr.heap.size, 0, none⟩) 1 1) rfl [UInt8.ofNat Y] 1 rfl HX.out.2.1 q m d acc HA.out.1 rfl HX.out.1 h1m HX.out.2.2.size ?_; intro v5 w5 o5 gr5 at5; have HO : Hid (w5.ownsRow wr.heap.size 5 1 v5 (1 + m) (Lib.byteCells ([UInt8.ofNat Y] ++ acc)) ∧ Below wr.heap.size wr w5) := ⟨o5, below_grownT HX.out.2.2 (Nat.le_refl _) HX.out.2.1 gr5⟩; clear o5 gr5 at5)
        have hl5 : ([UInt8.ofNat Y] ++ acc).length = 1 + m := by rw [List.length_append, HA.out.1]; rfl
        obtain ⟨p5, c5, he5, hv5⟩ := own_byv (l := [UInt8.ofNat Y] ++ acc) (by rw [hl5]; exact HO.out.1)
        rw [hl5] at he5
        subst he5
        have hW2 := HA.out.2.2.2.1
        exact ⟨⟨Q1, f', UInt8.ofNat Y :: acc, p5, c5, 1 + m, rfl, rfl, hl5, by have := HG.out.2.2; omega, HG.out.2.1, hQ72, HG.out.1, hv5.mono (fun k hk _ => Nat.le_trans hW2.size hk), hW2.trans (HO.out.2.mono hW2.size)⟩, by simp only [intOf]; omega⟩
end Go.Proofs.YtnckmcmobkpdcaaDoor
/-
  A range over a function whose elements lie in new memory.
-/
namespace Go.Proofs.YtnckmcmobkpdcaaDoor
open Go.Shelf Go.RowKit
set_option linter.unusedVariables false
set_option linter.unusedSimpArgs false

/-- A range over a function that yields elements in new memory; each round may make memory of its own. -/
theorem range_new {α : Type} {P : Program} {n : Nat} {g : Operand} {ps : Array Tmp} {assign body : Code} {Q : Exit → Act → World → Prop} {a : Act} {w : World} {gf : Nat} {lb : Array Value} (hn : 1 ≤ n) (Gd : List α → α → Prop)
    (hg : a.eval g = .func (.func gf) #[] lb) (eg : ∀ args w, (callFunc gf args).run P w = .ok (.enter gf args) w)
    (E : α → Array Value) (hps : ∀ x, (E x).size = ps.size) (Y : Nat → α → World → Prop) (S Sp : List α → Prop) (I : List α → World → Prop) (Ix : Code → List α → World → Prop)
    (hit : ∀ (l : Nat) (r : Loop) (J Jx : List α → World → Prop), (∀ pre W, J pre W → I pre W) → (∀ pre W W', J pre W → Below W.heap.size W W' → J pre W') →
      (∀ pre x W0 W1, J pre W0 → Gd pre x → Below W0.heap.size W0 W1 → Y W0.heap.size x W1 → YieldAt Fence.wide (n - 1 - 1) P l (E x) W1 fun e W' => (e = .returned (.bool true) ∧ J (pre ++ [x]) W') ∨ (e = .returned (.bool false) ∧ Jx (pre ++ [x]) W')) →
      J [] ((w.alloc (.deferred (some []))).alloc (.loop r)) →
      CallsIn Fence.wide (n - 1) P gf (#[.func (.yield l) #[] #[]] ++ lb) ((w.alloc (.deferred (some []))).alloc (.loop r)) fun e W' => (∃ v, e = .returned v) ∧ ((∃ xs, S xs ∧ J xs W') ∨ (∃ pre, Sp pre ∧ Jx pre W')))
    (hIb : ∀ pre W W', I pre W → Below W.heap.size W W' → I pre W')
    (hIp : ∀ pre W r o o', I pre W → w.heap.size ≤ r → W.heap[r]? = some o → o.isCells = false → I pre (W.putObj r o'))
    (hXp : ∀ c pre W r o o', Ix c pre W → w.heap.size ≤ r → W.heap[r]? = some o → o.isCells = false → Ix c pre (W.putObj r o'))
    (h0 : I [] w)
    (hround : ∀ (l : Nat) (r : Loop) (pre : List α) (x : α) (W0 W : World), Gd pre x → w.heap.size ≤ l → l < W0.heap.size → W.heap[l]? = some (.loop r) → I pre W0 → Below W0.heap.size W0 W → I pre W → Y W0.heap.size x W →
      assign.wpIn (Fence.wide.inRound l) (n - 1 - 1) P (Exit.then (fun a1 W1 => Below W.heap.size W W1 ∧ ∀ o', body.wpIn (Fence.wide.inRound l) (n - 1 - 1) P (ownPostG w.heap.size (fun _ _ => True) I Ix (pre ++ [x]) (W1.putObj l o')) a1 (W1.putObj l o')) (fun _ _ _ => False))
        { tmps := (ps.zip (E x)).foldl (fun t (p, v) => t.setIfInBounds p v) a.tmps, defers := [] } W)
    (hdone : ∀ (D : Nat) (xs : List α) (W : World), w.heap.size ≤ D → S xs → I xs W → W.heap[D]? = some (.deferred (some [])) → Q .normal { a with defers := { target := .collected D, args := #[] } :: a.defers } W)
    (hstop : ∀ (D : Nat) (c : Code) (pre : List α) (W : World), w.heap.size ≤ D → Sp pre → Ix c pre W → W.heap[D]? = some (.deferred (some [])) → c.wpIn Fence.wide n P Q { a with defers := { target := .collected D, args := #[] } :: a.defers } W) :
    (Code.rangeFunc g ps assign body).wpIn Fence.wide n P Q a w := by
  refine wpIn_rangeFunc ?_
  intro fn _
  obtain ⟨st, hst⟩ : ∃ st : LoopState → Option Code → Loop, st = fun s pe => { state := s, pending := pe, fn := fn, tmps := a.tmps, params := ps, assign := assign, body := body, defers := w.heap.size } := ⟨_, rfl⟩
  have hd1 : ((w.alloc (.deferred (some []))).alloc (.loop (st .ready none))).heap[w.heap.size]? = some (.deferred (some [])) := (Below.heap_alloc _ _ _ (by simp)).trans (World.alloc_heap_new w _)
  have hl1 : ((w.alloc (.deferred (some []))).alloc (.loop (st .ready none))).heap[w.heap.size + 1]? = some (.loop (st .ready none)) := by
    have := World.alloc_heap_new (w.alloc (.deferred (some []))) (.loop (st .ready none))
    rwa [World.size_alloc] at this
  have hb1 : Below w.heap.size w ((w.alloc (.deferred (some []))).alloc (.loop (st .ready none))) := ((Below.refl _ w).alloc (Nat.le_refl _) _).alloc (by simp) _
  refine ⟨w.heap.size + 1, [{ target := .collected w.heap.size, args := #[] }], (w.alloc (.deferred (some []))).alloc (.loop (st .ready none)), { target := .fn (.func gf) lb, args := #[.func (.yield (w.heap.size + 1)) #[] #[]] }, (w.alloc (.deferred (some []))).alloc (.loop (st .ready none)), gf, #[.func (.yield (w.heap.size + 1)) #[] #[]] ++ lb, (w.alloc (.deferred (some []))).alloc (.loop (st .ready none)), by rw [hst]; exact run_enterLoop_outer _ _ _ _ _, by simp only [resolve, hg]; simp [go_sem], fun _ _ => trivial, by simp [invoke, go_sem, eg], fun _ => hn, ?_⟩
  refine (hit (w.heap.size + 1) (st .ready none)
    (fun pre W => I pre W ∧ W.heap[w.heap.size + 1]? = some (.loop (st .ready none)) ∧ W.heap[w.heap.size]? = some (.deferred (some [])))
    (fun pre W => ∃ c, Ix c pre W ∧ W.heap[w.heap.size + 1]? = some (.loop (st .done (some c))) ∧ W.heap[w.heap.size]? = some (.deferred (some [])))
    (fun _ _ h => h.1)
    (fun pre W W' h hb => ⟨hIb pre W W' h.1 hb, (hb.block _ (Array.getElem?_eq_some_iff.1 h.2.1).1).trans h.2.1, (hb.block _ (Array.getElem?_eq_some_iff.1 h.2.2).1).trans h.2.2⟩) ?_ ⟨hIb _ _ _ h0 hb1, hl1, hd1⟩).mono ?_
  · rintro pre x W0 W ⟨hi, hl0, hd0⟩ hlen hb hy
    have hlt0 : w.heap.size + 1 < W0.heap.size := (Array.getElem?_eq_some_iff.1 hl0).1
    have hl : W.heap[w.heap.size + 1]? = some (.loop (st .ready none)) := (hb.block _ hlt0).trans hl0
    have hd : W.heap[w.heap.size]? = some (.deferred (some [])) := (hb.block _ (by omega)).trans hd0
    have hlt : w.heap.size + 1 < W.heap.size := (Array.getElem?_eq_some_iff.1 hl).1
    have hyr := run_yield (P := P) (args := E x) hl (by rw [hst]; exact hps x)
    rw [hst] at hyr
    refine ⟨fn, _, assign, body, hyr, roundIn_of_wpIn trivial ?_⟩
    refine wpIn_mono (hround (w.heap.size + 1) (st .ready none) pre x W0 W hlen (by omega) hlt0 hl hi hb (hIb _ _ _ hi hb) hy) ?_
    rintro e a1 W1 hp
    cases e with
    | normal =>
      obtain ⟨hb1, hbody⟩ := hp
      have hl2 : W1.heap[w.heap.size + 1]? = some (.loop (st .ready none)) := (hb1.block _ hlt).trans hl
      have hd2 : W1.heap[w.heap.size]? = some (.deferred (some [])) := (hb1.block _ (by omega)).trans hd
      have hlt2 : w.heap.size + 1 < W1.heap.size := (Array.getElem?_eq_some_iff.1 hl2).1
      refine ⟨_, run_beginRound hl2 (by rw [hst]), ?_⟩
      refine wpIn_mono (hbody _) ?_
      have hl3 : (W1.putObj (w.heap.size + 1) (.loop { st .ready none with state := .busy })).heap[w.heap.size + 1]? = some (.loop { st .ready none with state := .busy }) := World.putObj_heap_same hlt2
      have hd3 : (W1.putObj (w.heap.size + 1) (.loop { st .ready none with state := .busy })).heap[w.heap.size]? = some (.deferred (some [])) := (World.putObj_heap_other (by omega)).trans hd2
      have fin : ∀ (jump : Option Code) (W3 : World), KeepsFrom w.heap.size (W1.putObj (w.heap.size + 1) (.loop { st .ready none with state := .busy })) W3 →
          (Instr.endRound (w.heap.size + 1) jump).run P W3 = .ok (.bool jump.isNone) (W3.putObj (w.heap.size + 1) (.loop (st (if jump.isNone then .ready else .done) jump))) ∧
          W3.heap[w.heap.size + 1]? = some (.loop { st .ready none with state := .busy }) ∧
          (W3.putObj (w.heap.size + 1) (.loop (st (if jump.isNone then .ready else .done) jump))).heap[w.heap.size + 1]? = some (.loop (st (if jump.isNone then .ready else .done) jump)) ∧
          (W3.putObj (w.heap.size + 1) (.loop (st (if jump.isNone then .ready else .done) jump))).heap[w.heap.size]? = some (.deferred (some [])) := fun jump W3 hk3 => by
        have h3 := hk3.same _ _ (by omega) hl3 rfl
        have := run_endRound (P := P) jump h3
        rw [hst] at this ⊢
        exact ⟨this, by rw [hst] at h3; exact h3, World.putObj_heap_same (Array.getElem?_eq_some_iff.1 h3).1, (World.putObj_heap_other (by omega)).trans (hk3.same _ _ (Nat.le_refl _) hd3 rfl)⟩
      rintro e a3 W3 hp
      cases e with
      | normal =>
        obtain ⟨hk3, _, hi3⟩ := hp
        obtain ⟨hr, h3, h4, h5⟩ := fin none W3 hk3
        exact ⟨_, _, hr, .inl ⟨rfl, hIp _ _ _ _ _ hi3 (by omega) h3 rfl, h4, h5⟩⟩
      | ret =>
        obtain ⟨hk3, hi3⟩ := hp
        obtain ⟨hr, h3, h4, h5⟩ := fin (some .ret) W3 hk3
        exact ⟨_, _, hr, .inr ⟨rfl, .ret, hXp _ _ _ _ _ _ hi3 (by omega) h3 rfl, h4, h5⟩⟩
      | exit id =>
        obtain ⟨hk3, hi3⟩ := hp
        obtain ⟨hr, h3, h4, h5⟩ := fin (some (.exit id)) W3 hk3
        exact ⟨_, _, hr, .inr ⟨rfl, .exit id, hXp _ _ _ _ _ _ hi3 (by omega) h3 rfl, h4, h5⟩⟩
      | goto t =>
        obtain ⟨hk3, hi3⟩ := hp
        obtain ⟨hr, h3, h4, h5⟩ := fin (some (.goto t)) W3 hk3
        exact ⟨_, _, hr, .inr ⟨rfl, .goto t, hXp _ _ _ _ _ _ hi3 (by omega) h3 rfl, h4, h5⟩⟩
      | panic ch => exact hp.elim
      | outgrown => exact hp.elim
    | ret => exact hp.elim
    | exit id => exact hp.elim
    | goto t => exact hp.elim
    | panic ch => exact hp.elim
    | outgrown => exact hp.elim
  · rintro e W2 ⟨⟨v, rfl⟩, (⟨xs, hS, hi, hl, hk⟩ | ⟨pre, hSp, c, hi, hl, hk⟩)⟩
    · exact ⟨none, _, by have := run_endLoop (P := P) hl (by rw [hst]; simp); rw [hst] at this; exact this, hdone _ xs _ (Nat.le_refl _) hS (hIp _ _ _ _ _ hi (by omega) hl rfl) ((World.putObj_heap_other (by omega)).trans hk)⟩
    · exact ⟨some c, _, by have := run_endLoop (P := P) hl (by rw [hst]; simp); rw [hst] at this; exact this, hstop _ c pre _ (Nat.le_refl _) hSp (hXp _ _ _ _ _ _ hi (by omega) hl rfl) ((World.putObj_heap_other (by omega)).trans hk)⟩
end Go.Proofs.YtnckmcmobkpdcaaDoor
/-
  Pieces one behind the other in memory; the document's List.
-/
namespace Go.Proofs.YtnckmcmobkpdcaaDoor
open Go.Shelf Go.RowKit
set_option linter.unusedVariables false
set_option linter.unusedSimpArgs false

/-- A piece, and where its body lies. -/
structure Pc where
  t : UInt8
  b : Bs
  p : Option Addr
  c : Nat
def Pc.cells (x : Pc) : List Value := [.int .u8 (x.t.toNat : Int), .slice x.p x.b.length x.c]
def cellsP (l : List Pc) : List Value := l.flatMap Pc.cells
/-- The pieces themselves. -/
def pcsOf (l : List Pc) : List (UInt8 × Bs) := l.map fun x => (x.t, x.b)
theorem cellsP_len : ∀ (l : List Pc), (cellsP l).length = l.length * 2
  | [] => rfl
  | x :: l => by
    have := cellsP_len l
    simp only [cellsP, List.flatMap_cons, List.length_append] at this ⊢
    rw [this]
    simp [Pc.cells]
    omega
theorem cellsP_app (a b : List Pc) : cellsP a ++ cellsP b = cellsP (a ++ b) := by simp [cellsP]
theorem infoTlv : ∃ z, (Tryd.prog.info? 24).map (fun i => (i.zero, i.size, i.bytes)) = some (some z, 2, 32) ∧ z.cells.size = 2 := ⟨.agg #[.int .u8 0, .slice none 0 0], by kernel_rfl, rfl⟩
/-- Pieces in a list of the call's own. -/
structure Pcs (w : World) (B : Nat) (P : Nat → Prop) (v : Value) (l : List Pc) : Prop where
  own : w.ownsRow B 24 2 v l.length (cellsP l)
  at_ : ∀ x ∈ l, ByV w P x.p x.c x.b
/-- A piece appended. -/
theorem wpList_append_pc {w : World} {ops : Array Oper} {rest : List Oper} {o : Oper} {a : Act} {Q : Exit → Act → World → Prop} (hgd : o.guard = none) (s x : Operand)
    (ho : o.op = .call { callee := .builtin .append, args := #[s, x], argTypes := #[27, 27] }) (base : Nat) (v : Value) (hs : a.eval s = v) (old : List Pc) (m : Nat) (hown : w.ownsRow base 24 2 v m (cellsP old)) (ad : Addr) (c : Nat) (y : Pc) (hx : a.eval x = .slice (some ad) 1 c) (h0 : w.cell? (ad.add 0) = some (.int .u8 (y.t.toNat : Int))) (h1 : w.cell? (ad.add 1) = some (.slice y.p y.b.length y.c)) (hlen : m + 1 ≤ 1000000) (hbase : base ≤ w.heap.size)
    (h : ∀ v' w', w'.ownsRow base 24 2 v' (m + 1) (cellsP (old ++ [y])) → w.grownBy w' v.ownBlock → wpList Tryd.prog ops Q rest (a.put o.dst v') w') : wpList Tryd.prog ops Q (o :: rest) a w := by
  obtain ⟨z, hz, hzs⟩ := infoTlv
  obtain ⟨i0, hi0, hz0, hz1, hz2⟩ := info_parts hz
  refine wpList_append_own (w := w) hgd s x _ ho base 24 i0 z 2 32 Tryd.underlying27 hi0 hz0 hz1 hz2 hzs (by decide) v m (cellsP old) hs hown ad 1 c (cellsP [y]) hx rfl ?_ (by intro u hu; simp [cellsP, Pc.cells] at hu; rcases hu with rfl | rfl <;> rfl) (by unfold maxLen; omega) (by omega) hbase ?_
  · intro j u hj
    match j with
    | 0 => simp [cellsP, Pc.cells] at hj; subst hj; exact h0
    | 1 => simp [cellsP, Pc.cells] at hj; subst hj; exact h1
    | j + 2 => simp [cellsP, Pc.cells] at hj
  · intro v' w' hown' hgr _
    rw [cellsP_app] at hown'
    exact h v' w' hown' hgr
theorem allD_more : ∀ (m k : Nat) (bs : Bs), bs.length ≤ m → bs.length ≤ k → allD m bs = allD k bs
  | 0, k, bs, hm, hk => by
    have : bs = [] := List.eq_nil_of_length_eq_zero (by omega)
    subst this
    cases k with
    | zero => rfl
    | succ k => rfl
  | m + 1, 0, bs, hm, hk => by
    have : bs = [] := List.eq_nil_of_length_eq_zero (by omega)
    subst this
    rfl
  | m + 1, k + 1, bs, hm, hk => by
    simp only [allD]
    by_cases h : bs = []
    · rw [if_pos h, if_pos h]
    rw [if_neg h, if_neg h]
    cases hr : readD bs with
    | error e => rfl
    | ok q =>
      obtain ⟨⟨t, b⟩, r⟩ := q
      have := (read_len hr).1
      simp only []
      rw [allD_more m k r (by omega) (by omega)]
/-- All pieces of bytes, and the first fault. -/
def pcsD (bs : Bs) : List (UInt8 × Bs) × Nat := allD bs.length bs
theorem pcsD_nil : pcsD [] = ([], 0) := rfl
theorem pcsD_err {bs : Bs} {k : Nat} (h0 : bs ≠ []) (h : readD bs = .error k) : pcsD bs = ([], k) := by
  obtain ⟨m, hm⟩ : ∃ m, bs.length = m + 1 := ⟨bs.length - 1, by have : bs.length ≠ 0 := fun e => h0 (List.eq_nil_of_length_eq_zero e); omega⟩
  unfold pcsD
  rw [hm]
  simp only [allD]
  rw [if_neg h0, h]
theorem pcsD_ok {bs : Bs} {t : UInt8} {b r : Bs} (h : readD bs = .ok ((t, b), r)) : pcsD bs = ((t, b) :: (pcsD r).1, (pcsD r).2) := by
  have hl := (read_len h).1
  obtain ⟨m, hm⟩ : ∃ m, bs.length = m + 1 := ⟨bs.length - 1, by omega⟩
  have h0 : bs ≠ [] := by intro e; rw [e] at hm; cases hm
  unfold pcsD
  rw [hm]
  simp only [allD]
  rw [if_neg h0, h]
  simp only []
  rw [allD_more m r.length r (by omega) (Nat.le_refl _)]
/-- A slice's length. -/
def lenOfS : Value → Nat
  | .slice _ n _ => n
  | _ => 0
/-- What List answers. -/
def LsPost (w : World) (P : World → Nat → Prop) (R : List (UInt8 × Bs) × Nat) (e : Ending) (w' : World) : Prop :=
  Below w.heap.size w w' ∧ ((R.2 ≠ 0 ∧ e = .returned (.tuple #[.slice none 0 0, .int .i64 (R.2 : Int)])) ∨ (R.2 = 0 ∧ ∃ l v, pcsOf l = R.1 ∧ e = .returned (.tuple #[v, .int .i64 0]) ∧ Pcs w' w.heap.size (P w) v l))
end Go.Proofs.YtnckmcmobkpdcaaDoor
/-
  The code's pieces gone over.
-/
namespace Go.Proofs.YtnckmcmobkpdcaaDoor
open Go.Shelf Go.RowKit
set_option linter.unusedVariables false
set_option linter.unusedSimpArgs false
attribute [local go_sem] Oper.semAt_some

/-- What is yielded: a piece, or an error. -/
structure Ye where
  pc : Pc
  k : Nat
abbrev encY (y : Ye) : Array Value := #[.agg #[.int .u8 (y.pc.t.toNat : Int), .slice y.pc.p y.pc.b.length y.pc.c], .int .i64 (y.k : Int)]
/-- What is to be yielded. -/
def seqD (bs : Bs) : List ((UInt8 × Bs) × Nat) := (pcsD bs).1.map (fun x => (x, 0)) ++ (if (pcsD bs).2 = 0 then [] else [((0, []), (pcsD bs).2)])
def yOf (l : List Ye) : List ((UInt8 × Bs) × Nat) := l.map fun y => ((y.pc.t, y.pc.b), y.k)
theorem yOf_app (a b : List Ye) : yOf (a ++ b) = yOf a ++ yOf b := by simp [yOf]
theorem seqD_nil : seqD [] = [] := rfl
theorem seqD_err {bs : Bs} {k : Nat} (h0 : bs ≠ []) (h : readD bs = .error k) : seqD bs = [((0, []), k)] := by
  unfold seqD
  rw [pcsD_err h0 h]
  have := read_err h
  simp
  omega
theorem seqD_ok {bs : Bs} {t : UInt8} {b r : Bs} (h : readD bs = .ok ((t, b), r)) : seqD bs = ((t, b), 0) :: seqD r := by
  unfold seqD
  rw [pcsD_ok h]
  rfl
theorem seqD_len : ∀ (bs : Bs), (seqD bs).length ≤ bs.length := by
  intro bs
  induction hn : bs.length using Nat.strongRecOn generalizing bs with
  | _ n ih =>
    by_cases h0 : bs = []
    · subst h0; simp [seqD_nil]
    cases hr : readD bs with
    | error k =>
      rw [seqD_err h0 hr]
      have : bs.length ≠ 0 := fun e => h0 (List.eq_nil_of_length_eq_zero e)
      simp
      omega
    | ok q =>
      obtain ⟨⟨t, b⟩, r⟩ := q
      have hl := read_len hr
      rw [seqD_ok hr]
      have := ih r.length (by omega) r rfl
      simp
      omega
theorem seqD_pos {bs : Bs} (h0 : bs ≠ []) : 0 < (seqD bs).length := by
  cases hr : readD bs with
  | error k => rw [seqD_err h0 hr]; simp
  | ok q =>
    obtain ⟨⟨t, b⟩, r⟩ := q
    rw [seqD_ok hr]
    simp
/-- Where a yielded piece lies: in memory from M on. -/
def Yn (M : Nat) (y : Ye) (W : World) : Prop := ByV W (fun b => M ≤ b) y.pc.p y.pc.c y.pc.b

end Go.Proofs.YtnckmcmobkpdcaaDoor
/-
  The code's All and List.
-/
namespace Go.Proofs.YtnckmcmobkpdcaaDoor
open Go.Shelf Go.RowKit
set_option linter.unusedVariables false
set_option linter.unusedSimpArgs false
attribute [local go_sem] Oper.semAt_some

/-- A cell of the call's own, with what it holds. -/
def Kx (W : World) (b : Nat) (v : Value) : Prop := W.cell? ⟨b, 0, none⟩ = some v ∧ W.frozen? ⟨b, 0, none⟩ = false
theorem kx_new (W : World) (v : Value) (t : TypeId) : Kx (W.alloc (.cells #[v] t)) W.heap.size v := ⟨by simp, by simp⟩
theorem kx_block {W W' : World} {b : Nat} {v : Value} (h : Kx W b v) (hb : W'.heap[b]? = W.heap[b]?) : Kx W' b v := ⟨(World.cell?_of_block (w := W) hb).trans h.1, (World.frozen?_of_block (w := W) hb).trans h.2⟩
theorem kx_lt {W : World} {b : Nat} {v : Value} (h : Kx W b v) : b < W.heap.size := World.block_lt_of_cell? W _ h.1
theorem kx_below {W W' : World} {b : Nat} {v : Value} (h : Kx W b v) (hb : Below W.heap.size W W') : Kx W' b v := kx_block h (hb.block b (kx_lt h))
theorem kx_put {W : World} {b : Nat} {v : Value} (h : Kx W b v) {r : Nat} {o : Obj} (o' : Obj) (hr : W.heap[r]? = some o) (ho : o.isCells = false) : Kx (W.putObj r o') b v :=
  ⟨cell_kept h.1 (grownBy_putObj' W r o') (fun k e => by cases e; exact ⟨o, hr, ho⟩), (frozen_kept h.1 (grownBy_putObj' W r o') (fun k e => by cases e; exact ⟨o, hr, ho⟩)).trans h.2⟩
theorem kx_set {W : World} {b : Nat} {v : Value} (h : Kx W b v) (u : Value) : Kx (W.setCell ⟨b, 0, none⟩ u) b u := ⟨World.cell?_setCell_same _ _ _ h.1, by rw [World.frozen?_setCell]; exact h.2⟩
theorem kx_other {W : World} {b c : Nat} {v : Value} (h : Kx W b v) (hne : c ≠ b) (u : Value) : Kx (W.setCell ⟨c, 0, none⟩ u) b v := kx_block h (Below.heap_setCell _ _ _ _ (fun e => hne e.symm))
theorem ByV.put {W : World} {P : Nat → Prop} {p : Option Addr} {c : Nat} {l : Bs} (h : ByV W P p c l) {r : Nat} {o : Obj} (o' : Obj) (hr : W.heap[r]? = some o) (ho : o.isCells = false) : ByV (W.putObj r o') P p c l :=
  ⟨h.cap, h.big, fun h0 => by
    obtain ⟨b, f, e, hc⟩ := h.lies h0
    exact ⟨b, f, e, fun i hi => cell_kept (hc i hi) (grownBy_putObj' W r o') (fun k e => by cases e; exact ⟨o, hr, ho⟩)⟩, h.ok⟩
theorem owns_put {W : World} {base : Nat} {e : TypeId} {s : Nat} {v : Value} {n : Nat} {xs : List Value} (h : W.ownsRow base e s v n xs) {r : Nat} {o : Obj} (o' : Obj) (hr : W.heap[r]? = some o) (ho : o.isCells = false) : (W.putObj r o').ownsRow base e s v n xs :=
  owns_keep h (fun g hg => by
    have hne : g ≠ r := by
      rintro rfl
      obtain ⟨_, _, cur, hc⟩ := owns_lt h hg
      rw [hc] at hr
      cases hr
      cases ho
    exact (grownBy_putObj' W r o').block g (owns_lt h hg).2.1 (fun e => hne (by injection e)))
theorem seqD_take (bs : Bs) : seqD (bs.take 4097) = seqD bs := by
  by_cases h : bs.length ≤ 4097
  · rw [List.take_of_length_le h]
  have h1 : readD bs = .error 3 := by unfold readD; rw [if_pos (by omega)]
  have h2 : readD (bs.take 4097) = .error 3 := by unfold readD; rw [if_pos (by rw [List.length_take]; omega)]
  rw [seqD_err (by intro e; rw [e] at h; simp at h) h1, seqD_err (by intro e; have := congrArg List.length e; rw [List.length_take] at this; simp at this; rw [this] at h; simp at h) h2]
/-- A piece appended, within a fence. -/
theorem wpListIn_append_pc {F : Fence} {nF : Nat} {w : World} {ops : Array Oper} {rest : List Oper} {o : Oper} {a : Act} {Q : Exit → Act → World → Prop} (hgd : o.guard = none) (s x : Operand)
    (ho : o.op = .call { callee := .builtin .append, args := #[s, x], argTypes := #[27, 27] }) (base : Nat) (v : Value) (hs : a.eval s = v) (old : List Pc) (m : Nat) (hown : w.ownsRow base 24 2 v m (cellsP old)) (ad : Addr) (c : Nat) (y : Pc) (hx : a.eval x = .slice (some ad) 1 c) (h0 : w.cell? (ad.add 0) = some (.int .u8 (y.t.toNat : Int))) (h1 : w.cell? (ad.add 1) = some (.slice y.p y.b.length y.c)) (hlen : m + 1 ≤ 1000000) (hbase : base ≤ w.heap.size)
    (h : ∀ v' w', w'.ownsRow base 24 2 v' (m + 1) (cellsP (old ++ [y])) → w.grownBy w' v.ownBlock → (v'.ownBlock = v.ownBlock ∨ v'.ownBlock = some w.heap.size) → wpListIn F nF Tryd.prog ops Q rest (a.put o.dst v') w') : wpListIn F nF Tryd.prog ops Q (o :: rest) a w := by
  obtain ⟨z, hz, hzs⟩ := infoTlv
  obtain ⟨i0, hi0, hz0, hz1, hz2⟩ := info_parts hz
  refine wpListIn_append_own_at (w := w) hgd s x _ ho base 24 i0 z 2 32 Tryd.underlying27 hi0 hz0 hz1 hz2 hzs (by decide) v m (cellsP old) hs hown ad 1 c (cellsP [y]) hx rfl ?_ (by intro u hu; simp [cellsP, Pc.cells] at hu; rcases hu with rfl | rfl <;> rfl) (by unfold maxLen; omega) (by omega) hbase ?_
  · intro j u hj
    match j with
    | 0 => simp [cellsP, Pc.cells] at hj; subst hj; exact h0
    | 1 => simp [cellsP, Pc.cells] at hj; subst hj; exact h1
    | j + 2 => simp [cellsP, Pc.cells] at hj
  · intro v' w' hown' hgr _ hat
    rw [cellsP_app] at hown'
    exact h v' w' hown' hgr hat
/-- Between two rounds of List. -/
structure LIv (w w6 : World) (pre : List Ye) (v : Value) (W : World) : Prop where
  r0 : Kx W w.heap.size (.slice none 0 0)
  r1 : Kx W (w.heap.size + 1) (.int .i64 0)
  r2 : Kx W (w.heap.size + 1 + 1) v
  own : W.ownsRow w6.heap.size 24 2 v pre.length (cellsP (pre.map Ye.pc))
  at_ : ∀ y ∈ pre, y.k = 0 ∧ ByV W (fun b => w6.heap.size ≤ b ∧ v.ownBlock ≠ some b) y.pc.p y.pc.c y.pc.b
  low : Below w.heap.size w W
  sz : w6.heap.size ≤ W.heap.size
  mid : ∀ k, w.heap.size + 1 + 1 + 1 ≤ k → k < w6.heap.size → W.heap[k]? = w6.heap[k]?
theorem LIv.below {w w6 : World} {pre : List Ye} {v : Value} {W W' : World} (h : LIv w w6 pre v W) (hb : Below W.heap.size W W') : LIv w w6 pre v W' :=
  ⟨kx_below h.r0 hb, kx_below h.r1 hb, kx_below h.r2 hb, owns_keep h.own (fun g hg => hb.block g (owns_lt h.own hg).2.1), fun y hy => ⟨(h.at_ y hy).1, (h.at_ y hy).2.keep (fun g _ hlt => hb.block g hlt)⟩, h.low.trans (hb.mono h.low.size), Nat.le_trans h.sz hb.size, fun k h1 h2 => (hb.block k (Nat.lt_of_lt_of_le h2 h.sz)).trans (h.mid k h1 h2)⟩
theorem LIv.put {w w6 : World} {pre : List Ye} {v : Value} {W : World} (h : LIv w w6 pre v W) {r : Nat} {o : Obj} (o' : Obj) (h6 : w.heap.size ≤ w6.heap.size) (hr6 : w6.heap.size ≤ r) (hr : W.heap[r]? = some o) (ho : o.isCells = false) : LIv w w6 pre v (W.putObj r o') :=
  ⟨kx_put h.r0 o' hr ho, kx_put h.r1 o' hr ho, kx_put h.r2 o' hr ho, owns_put h.own o' hr ho, fun y hy => ⟨(h.at_ y hy).1, (h.at_ y hy).2.put o' hr ho⟩,
    h.low.trans ⟨rfl, rfl, rfl, (grownBy_putObj' W r o').size, fun k hk => (grownBy_putObj' W r o').block k (by have := h.low.size; omega) (fun e => by injection e with e; omega)⟩, Nat.le_trans h.sz (grownBy_putObj' W r o').size, fun k h1 h2 => ((grownBy_putObj' W r o').block k (by have := h.sz; omega) (fun e => by injection e with e; omega)).trans (h.mid k h1 h2)⟩
theorem LIv.app {w w6 : World} {pre : List Ye} {v : Value} {W2 W3 : World} (h : LIv w w6 pre v W2) (o : Obj) (gr : (W2.alloc o).grownBy W3 v.ownBlock) {v3 : Value} {y : Ye} (o3 : W3.ownsRow w6.heap.size 24 2 v3 (pre.length + 1) (cellsP (pre.map Ye.pc ++ [y.pc]))) (hk : y.k = 0) (hy : ByV W2 (fun b => w6.heap.size ≤ b ∧ v.ownBlock ≠ some b) y.pc.p y.pc.c y.pc.b) (hv3 : v3.ownBlock = v.ownBlock ∨ v3.ownBlock = some (W2.alloc o).heap.size) (h6 : w.heap.size + 1 + 1 + 1 ≤ w6.heap.size) : LIv w w6 (pre ++ [y]) v3 (W3.setCell ⟨w.heap.size + 1 + 1, 0, none⟩ v3) := by
  have hsz := h.sz
  have haz := alloc_sz W2 o
  have low : ∀ k, k < W2.heap.size → v.ownBlock ≠ some k → W3.heap[k]? = W2.heap[k]? := fun k hk hne => (gr.block k (by omega) (fun e => hne e.symm)).trans (Below.heap_alloc _ _ _ hk)
  have hob : ∀ k, k < w6.heap.size → v.ownBlock ≠ some k := fun k hk e => by have := (owns_lt h.own e).1; omega
  have hgz := gr.size
  have st : ∀ k, k ≠ w.heap.size + 1 + 1 → (W3.setCell ⟨w.heap.size + 1 + 1, 0, none⟩ v3).heap[k]? = W3.heap[k]? := fun k hk => Below.heap_setCell _ _ _ _ hk
  have kz : ∀ u : Ye, ByV W2 (fun b => w6.heap.size ≤ b ∧ v.ownBlock ≠ some b) u.pc.p u.pc.c u.pc.b → ByV (W3.setCell ⟨w.heap.size + 1 + 1, 0, none⟩ v3) (fun b => w6.heap.size ≤ b ∧ v3.ownBlock ≠ some b) u.pc.p u.pc.c u.pc.b := fun u hu => by
    have h1 : ByV W2 (fun b => (w6.heap.size ≤ b ∧ v.ownBlock ≠ some b) ∧ b < W2.heap.size) u.pc.p u.pc.c u.pc.b := hu.mono (fun g hg hlt => ⟨hg, hlt⟩)
    refine (h1.keep (fun g hg hlt => (st g (by omega)).trans (low g hlt hg.1.2))).mono (fun g hg _ => ⟨hg.1.1, fun e => ?_⟩)
    rcases hv3 with e3 | e3
    · exact hg.1.2 (e3 ▸ e)
    · rw [e3] at e
      injection e with e
      omega
  refine ⟨kx_other (kx_block h.r0 (low _ (kx_lt h.r0) (hob _ (by omega)))) (by omega) _, kx_other (kx_block h.r1 (low _ (kx_lt h.r1) (hob _ (by omega)))) (by omega) _, kx_set (kx_block h.r2 (low _ (kx_lt h.r2) (hob _ (by omega)))) _, ?_, ?_, ?_, ?_, ?_⟩
  · rw [List.length_append, List.map_append]
    exact owns_keep o3 (fun g hg => st g (by have := (owns_lt o3 hg).1; omega))
  · intro u hu
    rcases List.mem_append.1 hu with hu | hu
    · exact ⟨(h.at_ u hu).1, kz u (h.at_ u hu).2⟩
    · simp at hu
      subst hu
      exact ⟨hk, kz u hy⟩
  · have hl := h.low.size
    exact h.low.trans ⟨gr.os, gr.tape, gr.output, by show _ ≤ (W3.heap.modify _ _).size; rw [Array.size_modify]; omega, fun k hk => (st k (by omega)).trans (low k (by omega) (hob k (by omega)))⟩
  · show _ ≤ (W3.heap.modify _ _).size
    rw [Array.size_modify]
    omega
  · intro k h1 h2
    exact (st k (by omega)).trans ((low k (by omega) (hob k h2)).trans (h.mid k h1 h2))
end Go.Proofs.YtnckmcmobkpdcaaDoor
/-
  The code's List.
-/
namespace Go.Proofs.YtnckmcmobkpdcaaDoor
open Go.Shelf Go.RowKit
set_option linter.unusedVariables false
set_option linter.unusedSimpArgs false
attribute [local go_sem] Oper.semAt_some

theorem seqD_mem {bs : Bs} {x : UInt8 × Bs} {k : Nat} (h : (x, k) ∈ seqD bs) (hk : k ≠ 0) : (pcsD bs).2 = k := by
  unfold seqD at h
  rcases List.mem_append.1 h with h | h
  · simp at h
    omega
  · by_cases h0 : (pcsD bs).2 = 0
    · rw [if_pos h0] at h; simp at h
    · rw [if_neg h0] at h
      simp at h
      exact h.2.symm
theorem seqD_whole {bs : Bs} {xs : List Ye} (h : yOf xs = seqD bs) (h0 : ∀ y ∈ xs, y.k = 0) : (pcsD bs).2 = 0 ∧ pcsOf (xs.map Ye.pc) = (pcsD bs).1 := by
  have hz : (pcsD bs).2 = 0 := by
    rcases Nat.eq_zero_or_pos (pcsD bs).2 with h1 | h1
    · exact h1
    · have hm : (((0 : UInt8), ([] : Bs)), (pcsD bs).2) ∈ yOf xs := by
        rw [h]
        unfold seqD
        rw [if_neg (by omega)]
        simp
      unfold yOf at hm
      obtain ⟨y, hy, e⟩ := List.mem_map.1 hm
      have := h0 y hy
      injection e with e1 e2
      omega
  refine ⟨hz, ?_⟩
  unfold seqD at h
  rw [if_pos hz, List.append_nil] at h
  have h2 := congrArg (List.map Prod.fst) h
  simp only [yOf, List.map_map] at h2
  have e1 : ((fun x : (UInt8 × Bs) × Nat => x.1) ∘ fun x : UInt8 × Bs => (x, 0)) = id := rfl
  rw [show (Prod.fst ∘ fun x : UInt8 × Bs => (x, (0 : Nat))) = id from rfl, List.map_id] at h2
  rw [← h2]
  simp [pcsOf]
/-- Between two rounds. -/
def LI (w w6 : World) (pre : List Ye) (W : World) : Prop := ∃ v, LIv w w6 pre v W
/-- A round has left. -/
def LIx (w w6 : World) (c : Code) (pre : List Ye) (W : World) : Prop := c = .ret ∧ Kx W w.heap.size (.slice none 0 0) ∧ (∃ q y, pre = q ++ [y] ∧ y.k ≠ 0 ∧ Kx W (w.heap.size + 1) (.int .i64 (y.k : Int))) ∧ Below w.heap.size w W
end Go.Proofs.YtnckmcmobkpdcaaDoor
/-
  The document's SameLists, of the same pieces.
-/
namespace Go.Proofs.YtnckmcmobkpdcaaDoor
open Go.Shelf Go.RowKit
set_option linter.unusedVariables false
set_option linter.unusedSimpArgs false

theorem cellsP_get : ∀ (l : List Pc) (j : Nat) (x : Pc), l[j]? = some x → (cellsP l)[j * 2]? = some (.int .u8 (x.t.toNat : Int)) ∧ (cellsP l)[j * 2 + 1]? = some (.slice x.p x.b.length x.c)
  | [], j, x, h => by simp at h
  | y :: l, 0, x, h => by
    simp at h
    subst h
    exact ⟨rfl, rfl⟩
  | y :: l, j + 1, x, h => by
    have := cellsP_get l j x (by simpa using h)
    rw [show cellsP (y :: l) = Pc.cells y ++ cellsP l from rfl]
    have hl : (Pc.cells y).length = 2 := rfl
    rw [List.getElem?_append_right (by rw [hl]; omega), List.getElem?_append_right (by rw [hl]; omega), hl, show (j + 1) * 2 - 2 = j * 2 by omega, show (j + 1) * 2 + 1 - 2 = j * 2 + 1 by omega]
    exact this
theorem own_pc {w : World} {B g m cap : Nat} {l : List Pc} (h : w.ownsRow B 24 2 (.slice (some ⟨g, 0, none⟩) m cap) m (cellsP l)) (hl : l.length = m) (j : Nat) (x : Pc) (hx : l[j]? = some x) : w.cell? ⟨g, j * 2, none⟩ = some (.int .u8 (x.t.toNat : Int)) ∧ w.cell? ⟨g, j * 2 + 1, none⟩ = some (.slice x.p x.b.length x.c) := by
  have hj : j < l.length := (List.getElem?_eq_some_iff.1 hx).1
  obtain ⟨h1, h2⟩ := cellsP_get l j x hx
  exact ⟨by rw [owns_cell h (j * 2) (by omega), h1], by rw [owns_cell h (j * 2 + 1) (by omega), h2]⟩
end Go.Proofs.YtnckmcmobkpdcaaDoor
/-
  Contracts of nat.addTimes and nat.subTimes: a so often added to, or taken away from, limbs in their place.
-/
namespace Go.Proofs.YtnckmcmobkpdcaaDoor
open Go.RowKit
set_option linter.unusedVariables false
set_option linter.unusedSimpArgs false

/-- The base of limbs. -/
def B64 : Int := 18446744073709551616
theorem B64_pos : 0 < B64 := by decide
theorem B64_one : 1 < B64 := by decide

/-- Limbs from o on, so many. -/
def seg (xs : List Int) (o i : Nat) : List Int := (xs.drop o).take i
theorem seg_succ (xs : List Int) (o i : Nat) (h : o + i < xs.length) : seg xs o (i + 1) = seg xs o i ++ [xs.getD (o + i) 0] := by
  unfold seg
  rw [List.take_succ_eq_append_getElem (by simp; omega)]
  congr 2
  simp [List.getD, List.getElem?_eq_getElem h]
theorem seg_len (xs : List Int) (o i : Nat) (h : o + i ≤ xs.length) : (seg xs o i).length = i := by unfold seg; simp; omega
theorem seg_set (xs : List Int) (o i : Nat) (y : Int) : seg (xs.set (o + i) y) o i = seg xs o i := by
  unfold seg
  apply List.ext_getElem?
  intro j
  simp only [List.getElem?_take, List.getElem?_drop]
  by_cases hj : j < i
  · simp only [hj, if_true]
    rw [List.getElem?_set_ne (by omega)]
  · simp [hj]
theorem getD_set (xs : List Int) (j k : Nat) (y : Int) (h : k < xs.length) : (xs.set k y).getD j 0 = if j = k then y else xs.getD j 0 := by
  simp only [List.getD, List.getElem?_set]
  by_cases hj : k = j
  · subst hj; simp [h]
  · simp [hj, Ne.symm hj]
theorem take_succ_getD (xs : List Int) (i : Nat) (h : i < xs.length) : xs.take (i + 1) = xs.take i ++ [xs.getD i 0] := by
  rw [List.take_succ_eq_append_getElem h]
  congr 2
  simp [List.getD, List.getElem?_eq_getElem h]

/-- What stands in the row when i limbs have been gone over: s is 1 for sums, -1 for differences; c is carried, or borrowed. -/
def Runs (s : Int) (xs ys : List Int) (o i : Nat) (t : Int) (cur : List Int) (c : Int) : Prop :=
  cur.length = xs.length ∧ (∀ j, j < o ∨ o + i ≤ j → cur.getD j 0 = xs.getD j 0) ∧ Dg B64 cur ∧ 0 ≤ c ∧ c < B64 ∧
    val B64 (seg cur o i) + s * (B64 ^ i * c) = val B64 (seg xs o i) + s * (t * val B64 (ys.take i))

theorem Runs.zero {s : Int} {xs ys : List Int} {o : Nat} {t : Int} (hd : Dg B64 xs) : Runs s xs ys o 0 t xs 0 :=
  ⟨rfl, fun _ _ => rfl, hd, by decide, by decide, by simp [seg, val]⟩

theorem Runs.step {s : Int} {xs ys : List Int} {o i : Nat} {t : Int} {cur : List Int} {c : Int} (h : Runs s xs ys o i t cur c) (ho : o + i < xs.length) (hy : i < ys.length) {next c' : Int}
    (hn : 0 ≤ next ∧ next < B64) (hc : 0 ≤ c' ∧ c' < B64) (he : next + s * (B64 * c') = cur.getD (o + i) 0 + s * (ys.getD i 0 * t + c)) : Runs s xs ys o (i + 1) t (cur.set (o + i) next) c' := by
  obtain ⟨h1, h2, h3, h4, h5, h6⟩ := h
  refine ⟨by simp [h1], fun j hj => ?_, h3.set _ hn, hc.1, hc.2, ?_⟩
  · rw [getD_set _ _ _ _ (by omega), if_neg (by omega)]
    exact h2 j (by omega)
  · have e1 : seg (cur.set (o + i) next) o (i + 1) = seg cur o i ++ [next] := by
      rw [seg_succ _ _ _ (by simp; omega), seg_set, getD_set _ _ _ _ (by omega), if_pos rfl]
    rw [e1, seg_succ xs o i ho, take_succ_getD ys i hy]
    simp only [val_append, seg_len cur o i (by omega), seg_len xs o i (by omega), val]
    have e2 : (ys.take i).length = i := by simp; omega
    rw [e2, Int.pow_succ]
    have e3 := h2 (o + i) (by omega)
    rw [e3] at he
    generalize val B64 (seg cur o i) = A at *
    generalize val B64 (seg xs o i) = X at *
    generalize val B64 (ys.take i) = Y at *
    generalize B64 ^ i = p at *
    generalize ys.getD i 0 = y at *
    generalize xs.getD (o + i) 0 = x at *
    generalize B64 = b at *
    grind

theorem add_round (x y t c hi lo ne ov : Int) (hx : 0 ≤ x ∧ x < B64) (hy : 0 ≤ y ∧ y < B64) (ht : 0 ≤ t ∧ t < B64) (hc : 0 ≤ c ∧ c < B64)
    (e1 : hi = (y * t + c) / 18446744073709551616) (e2 : lo = (y * t + c) % 18446744073709551616) (e3 : ne = (x + lo) % 18446744073709551616) (e4 : ov = (x + lo) / 18446744073709551616) :
    (0 ≤ ne ∧ ne < B64) ∧ (0 ≤ hi + ov ∧ hi + ov < B64) ∧ ne + 1 * (B64 * (hi + ov)) = x + 1 * (y * t + c) := by
  unfold B64 at *
  have hp := prod_lt y t c hy.1 hy.2 ht.1 ht.2 hc.2
  have hp0 : 0 ≤ y * t := Int.mul_nonneg hy.1 ht.1
  generalize y * t = P at *
  omega
theorem sub_round (x y t c hi lo ne ov : Int) (hx : 0 ≤ x ∧ x < B64) (hy : 0 ≤ y ∧ y < B64) (ht : 0 ≤ t ∧ t < B64) (hc : 0 ≤ c ∧ c < B64)
    (e1 : hi = (y * t + c) / 18446744073709551616) (e2 : lo = (y * t + c) % 18446744073709551616) (e3 : ne = (x - lo) % 18446744073709551616) (e4 : ov = bor x lo) :
    (0 ≤ ne ∧ ne < B64) ∧ (0 ≤ hi + ov ∧ hi + ov < B64) ∧ ne + -1 * (B64 * (hi + ov)) = x + -1 * (y * t + c) := by
  unfold B64 bor at *
  have hp := prod_lt y t c hy.1 hy.2 ht.1 ht.2 hc.2
  have hp0 : 0 ≤ y * t := Int.mul_nonneg hy.1 ht.1
  generalize y * t = P at *
  split at e4 <;> omega

end Go.Proofs.YtnckmcmobkpdcaaDoor
/-
  Numbers handed in and answered; make; contracts of nat.Norm, Of, Len, Cmp.
-/
namespace Go.Proofs.YtnckmcmobkpdcaaDoor
open Go.RowKit
set_option linter.unusedVariables false
set_option linter.unusedSimpArgs false

/-- A number that a slice says. -/
structure NumIn (k : IntKind) (B : Int) (w : World) (ao : Option Addr) (len cap : Nat) (xs : List Int) : Prop where
  lies : Lies k w ao len xs
  lc : len ≤ cap
  cm : cap ≤ maxLen
  nn : ao = none → cap = 0
  dg : Dg B xs
  sm : len ≤ 1073741824

/-- An answer: a number without zeros above, of at most L digits; old memory is as it was. -/
def NumOut (k : IntKind) (B : Int) (w w' : World) (v : Value) (n : Int) (L : Nat) : Prop :=
  ∃ ao len cap xs, v = .slice ao len cap ∧ NumIn k B w' ao len cap xs ∧ Canon xs ∧ val B xs = n ∧ len ≤ L ∧ Below w.heap.size w w'

theorem NumIn.old {k : IntKind} {B : Int} {w w' : World} {ao : Option Addr} {len cap : Nat} {xs : List Int} (h : NumIn k B w ao len cap xs) (hb : Below w.heap.size w w') : NumIn k B w' ao len cap xs :=
  ⟨h.lies.old hb, h.lc, h.cm, h.nn, h.dg, h.sm⟩
theorem NumIn.len {k : IntKind} {B : Int} {w : World} {ao : Option Addr} {len cap : Nat} {xs : List Int} (h : NumIn k B w ao len cap xs) : xs.length = len := h.lies.len
theorem NumIn.take {k : IntKind} {B : Int} {w : World} {ao : Option Addr} {len cap : Nat} {xs : List Int} (h : NumIn k B w ao len cap xs) (n : Nat) (hn : n ≤ len) : NumIn k B w ao n cap (xs.take n) :=
  ⟨h.lies.take n hn, by have := h.lc; omega, h.cm, h.nn, h.dg.take n, by have := h.sm; omega⟩
theorem NumIn.nil {k : IntKind} {B : Int} {w : World} : NumIn k B w none 0 0 [] := ⟨Lies.empty _ _ _, Nat.le_refl _, by simp [maxLen], fun _ => rfl, Dg.nil _, by omega⟩
/-- A row of own memory as a number. -/
theorem Row.num {e : TypeId} {k : IntKind} {B : Int} {w : World} {g : Nat} {xs : List Int} (h : Row e k w g xs) (hd : Dg B xs) (hs : xs.length ≤ 1073741824) : NumIn k B w (some ⟨g, 0, none⟩) xs.length xs.length xs := by
  refine ⟨?_, Nat.le_refl _, by unfold maxLen; omega, fun h => (by cases h), hd, hs⟩
  have := h.lies 0 xs.length (by omega)
  simpa using this
/-- An answer that is the trimmed number. -/
theorem NumIn.out {k : IntKind} {B : Int} {w w' : World} {ao : Option Addr} {len cap : Nat} {xs : List Int} (h : NumIn k B w' ao len cap xs) (hb : Below w.heap.size w w') (n : Int) (hv : val B xs = n) (L : Nat) (hL : len ≤ L) :
    NumOut k B w w' (.slice ao (top xs) cap) n L := by
  have hl := h.len
  have ht := top_le xs
  exact ⟨ao, top xs, cap, xs.take (top xs), rfl, h.take _ (by omega), canon_take_top xs, by rw [val_take_top, hv], by omega, hb⟩

theorem Tryd.infoU : (Tryd.prog.info? 34).map (fun i => (i.zero, i.size, i.bytes)) = some (some (.int .u64 0), 1, 8) := by kernel_rfl
theorem Tryd.infoI : (Tryd.prog.info? 3).map (fun i => (i.zero, i.size, i.bytes)) = some (some (.int .i64 0), 1, 8) := by kernel_rfl
theorem Tryd.infoB : (Tryd.prog.info? 5).map (fun i => (i.zero, i.size, i.bytes)) = some (some (.int .u8 0), 1, 1) := by kernel_rfl

/-- make: a new row of zeros. -/
theorem wpList_make_row {P : Program} (w : World) {ops : Array Oper} {rest : List Oper} {o : Oper} {a : Act} {Q : Exit → Act → World → Prop}
    (hg : o.guard = none) (l c : Operand) (t : TypeId) (hop : o.op = Op.makeSlice t l c) (e : TypeId) (k : IntKind) (bytes : Nat)
    (h1 : P.underlying t = some (.slice e)) (h2 : (P.info? e).map (fun i => (i.zero, i.size, i.bytes)) = some (some (.int k 0), 1, bytes))
    (kl kc : IntKind) (L C : Int) (n : Nat) (hl : a.eval l = .int kl L) (hc : a.eval c = .int kc C) (hL : L = (n : Int)) (hC : C = (n : Int)) (b2 : bytes * n ≤ 281474976710656) (b3 : n ≤ maxLen)
    (hK : ∀ w', Row e k w' w.heap.size (List.replicate n 0) → Below w.heap.size w w' → wpList P ops Q rest (a.put o.dst (.slice (some ⟨w.heap.size, 0, none⟩) n n)) w') :
    wpList P ops Q (o :: rest) a w := by
  obtain ⟨i, hi, hz0, hz1, hz2⟩ := info_parts h2
  refine wpList_make_full w hg l c t hop w.heap.size e i (.int k 0) 1 h1 hi hz0 hz1 kl kc L C n hl hc hL hC (by rw [hz2]; exact b2) b3 (Nat.le_refl _) ?_
  intro w' hown hgr
  refine hK w' ?_ ((Below.refl _ _).grown hgr (Nat.le_refl _) (fun k h => by cases h))
  rcases hown.2 with ⟨h', _⟩ | ⟨g', cap', cur, h', _, hrow, _, _, hsz, htake⟩
  · simp at h'
  · simp only [Value.slice.injEq, Option.some.injEq, Addr.mk.injEq, and_true, true_and] at h'
    obtain ⟨rfl, rfl⟩ := h'
    unfold Row
    rw [hrow]
    have e1 : cur.toList = (List.replicate n 0).map (Value.int k) := by
      have e2 : cur.toList.take (n * 1) = cur.toList := List.take_of_length_le (by simp [hsz])
      rw [e2] at htake
      rw [htake]
      simp only [Value.cells, Nat.mul_one, toList_madeCells_one, List.map_replicate]
    rw [← e1]

/-- How many bits a number of limbs has. -/
def lenOf (xs : List Int) : Nat := if top xs = 0 then 0 else (top xs - 1) * 64 + blen (xs.getD (top xs - 1) 0).toNat

/-- How one number of limbs stands to another one: where one is greater at a place and above all are the same. -/
theorem cmp_at (B : Int) (hB : 1 < B) (xs ys : List Int) (hx : Dg B xs) (hy : Dg B ys) (n : Nat) (hn : xs.length = n) (hn' : ys.length = n) (p : Nat) (hp : p < n)
    (heq : ∀ j, p < j → j < n → xs.getD j 0 = ys.getD j 0) (hlt : xs.getD p 0 < ys.getD p 0) : val B xs < val B ys := by
  have hd : xs.drop (p + 1) = ys.drop (p + 1) := by
    apply List.ext_getElem
    · simp; omega
    · intro i h1 h2
      have := heq (p + 1 + i) (by omega) (by simp at h1; omega)
      simp only [List.getElem_drop]
      simp only [List.getD] at this
      rw [List.getElem?_eq_getElem (by simp at h1; omega), List.getElem?_eq_getElem (by simp at h2; omega)] at this
      simpa using this
  have ex : xs = xs.take (p + 1) ++ xs.drop (p + 1) := (List.take_append_drop _ _).symm
  have ey : ys = ys.take (p + 1) ++ ys.drop (p + 1) := (List.take_append_drop _ _).symm
  rw [ex, ey, hd, val_append, val_append, take_succ_getD xs p (by omega), take_succ_getD ys p (by omega), val_append, val_append]
  have a1 := val_lt (by omega) (hx.take p)
  have a2 := val_nonneg (by omega) (hy.take p)
  have l1 : (xs.take p).length = p := by simp; omega
  have l2 : (ys.take p).length = p := by simp; omega
  simp only [List.length_append, l1, l2, List.length_cons, List.length_nil, val, Int.mul_zero, Int.add_zero]
  rw [l1] at a1
  have a3 : B ^ p * (xs.getD p 0 + 1) ≤ B ^ p * ys.getD p 0 := Int.mul_le_mul_of_nonneg_left (by omega) (Int.le_of_lt (Int.pow_pos (by omega)))
  rw [Int.mul_add] at a3
  omega

theorem cmpI_lt {a b : Int} (h : a < b) : cmpI a b = -1 := by simp [cmpI, h]
theorem cmpI_gt {a b : Int} (h : b < a) : cmpI a b = 1 := by unfold cmpI; rw [if_neg (by omega), if_pos h]
theorem cmpI_eq {a b : Int} (h : a = b) : cmpI a b = 0 := by unfold cmpI; rw [if_neg (by omega), if_neg (by omega)]

/-- The number of fewer digits is less. -/
theorem top_lt_val {B : Int} (hB : 1 < B) {xs ys : List Int} (hx : Dg B xs) (hy : Dg B ys) (h : top xs < top ys) : val B xs < val B ys := by
  by_cases hv : val B xs < val B ys
  · exact hv
  · have := top_mono hB hy hx (by omega); omega

/-- A world that is as it was, but for draws. -/
def Drew (w w' : World) : Prop := ∃ n, w' = w.drewN n
theorem Drew.refl (w : World) : Drew w w := ⟨0, rfl⟩
theorem Drew.more {w w' : World} (h : Drew w w') (n : Nat) : Drew w (w'.drewN n) := by
  obtain ⟨m, rfl⟩ := h
  exact ⟨m + n, World.drewN_drewN _ _ _⟩
theorem Drew.trans {a b c : World} (h : Drew a b) (k : Drew b c) : Drew a c := by obtain ⟨n, rfl⟩ := k; exact h.more n
theorem Drew.cell {w w' : World} (h : Drew w w') (p : Addr) : w'.cell? p = w.cell? p := by obtain ⟨n, rfl⟩ := h; simp
theorem Drew.below {w w' : World} (h : Drew w w') (B : Nat) : Below B w w' := by obtain ⟨n, rfl⟩ := h; exact below_drewN (Below.refl _ _) n
theorem Drew.size {w w' : World} (h : Drew w w') : w'.heap.size = w.heap.size := by obtain ⟨n, rfl⟩ := h; simp

end Go.Proofs.YtnckmcmobkpdcaaDoor
/-
  Contracts of nat.Norm, Of, Add, Sub, Mul.
-/
namespace Go.Proofs.YtnckmcmobkpdcaaDoor
open Go.RowKit
set_option linter.unusedVariables false
set_option linter.unusedSimpArgs false

theorem ret_val {a b : Value} (h : a = b) : Ending.returned a = .returned b := by rw [h]

theorem add_none (b off j : Nat) : (⟨b, off, none⟩ : Addr).add j = ⟨b, off + j, none⟩ := by
  simp only [Addr.add]
  split
  · subst j; rfl
  · rfl

/-- copy into the head of a row of own memory. -/
theorem wpList_copy_row {P : Program} {w : World} {ops : Array Oper} {rest : List Oper} {o : Oper} {a : Act} {Q : Exit → Act → World → Prop} (hgd : o.guard = none) (d s : Operand) (dT sT : TypeId)
    (ho : o.op = .call { callee := .builtin .copy, args := #[d, s], argTypes := #[dT, sT] }) (e : TypeId) (hu : P.underlying dT = some (.slice e)) (k : IntKind) (bytes : Nat)
    (h2 : (P.info? e).map (fun i => (i.zero, i.size, i.bytes)) = some (some (.int k 0), 1, bytes)) (g : Nat) (ao : Option Addr) (dl dc sl sc : Nat)
    (hd : a.eval d = .slice (some ⟨g, 0, none⟩) dl dc) (hs : a.eval s = .slice ao sl sc) (xs ys : List Int) (hr : Row e k w g xs) (hy : Lies k w ao sl ys) (hdl : dl ≤ xs.length) (n : Nat) (hn : n = min sl dl)
    (B : Nat) (w0 : World) (hb : Below B w0 w) (hB : B ≤ g)
    (h : ∀ w', Row e k w' g (ys.take n ++ xs.drop n) → Below B w0 w' → wpList P ops Q rest (a.put o.dst (goInt n)) w') : wpList P ops Q (o :: rest) a w := by
  have hl := hy.len
  have hsz : (P.info? e).map (·.size) = some 1 := by
    obtain ⟨i, hi, _, hz, _⟩ := info_parts h2
    rw [hi]; simp [hz]
  have hcl : ((ys.take n).map (Value.int k)).length = n := by simp; omega
  refine wpList_copy_splice hgd d s dT sT ho e hu hsz _ ao dl dc sl sc hd hs g 0 (xs.map (Value.int k)) e hr ((ys.take n).map (Value.int k)) (by rw [hcl]; exact hn) ?_ (by rw [hcl]; simp; omega) (ints_oneCell _ _) B w0 hb hB ?_
  · intro h0
    rw [hcl] at h0
    obtain ⟨b, off, rfl, hlt, hc⟩ := hy.at (by omega)
    refine ⟨rfl, _, rfl, fun j v hj => ?_⟩
    simp only [List.getElem?_map, List.getElem?_take] at hj
    split at hj
    · have := hc j (by omega)
      rw [List.getElem?_eq_getElem (by omega)] at hj
      simp only [Option.map_some, Option.some.injEq] at hj
      rw [add_none, this, ← hj]
      simp [List.getD, List.getElem?_eq_getElem (show j < ys.length by omega)]
    · simp at hj
  · intro w' hg hb'
    rw [hcl]
    refine h w' ?_ hb'
    unfold Row
    rw [hg.out]
    congr 2
    simp only [splice, List.take_zero, List.nil_append, Nat.zero_add, hcl]
    simp

/-! ### The number that the lowest digits say -/
def low (B : Int) (xs : List Int) (i : Nat) : Int := val B (xs.take i)
theorem low_zero (B : Int) (xs : List Int) : low B xs 0 = 0 := by simp [low, val]
theorem low_succ (B : Int) (xs : List Int) (i : Nat) : low B xs (i + 1) = low B xs i + B ^ i * xs.getD i 0 := by
  unfold low
  by_cases h : i < xs.length
  · rw [take_succ_getD xs i h, val_append]
    have : (xs.take i).length = i := by simp; omega
    rw [this]; simp [val]
  · rw [List.take_of_length_le (by omega), List.take_of_length_le (by omega)]
    have : xs.getD i 0 = 0 := by simp [List.getD, List.getElem?_eq_none (show xs.length ≤ i by omega)]
    rw [this]; simp
theorem low_all (B : Int) (xs : List Int) (m : Nat) (h : top xs ≤ m) : low B xs m = val B xs := by
  unfold low
  rw [← val_take_top B xs]
  have e : xs.take m = xs.take (top xs) ++ (xs.drop (top xs)).take (m - top xs) := by
    conv => lhs; rw [show m = top xs + (m - top xs) by omega]
    rw [List.take_add]
  rw [e, val_append, val_zeros B ((xs.drop (top xs)).take (m - top xs)) ?_]
  · simp
  · intro j
    have := top_above xs (top xs + j) (by omega)
    simp only [List.getD, List.getElem?_take, List.getElem?_drop] at this ⊢
    split
    · exact this
    · rfl
theorem low_len (B : Int) (xs : List Int) : low B xs xs.length = val B xs := by unfold low; rw [List.take_of_length_le (Nat.le_refl _)]
theorem low_set (B : Int) (xs : List Int) (i j : Nat) (y : Int) (h : i ≤ j) : low B (xs.set j y) i = low B xs i := by
  unfold low
  rw [List.take_set_of_le h]
theorem low_set_succ (B : Int) (xs : List Int) (i : Nat) (y : Int) (h : i < xs.length) : low B (xs.set i y) (i + 1) = low B xs i + B ^ i * y := by
  rw [low_succ, low_set B xs i i y (Nat.le_refl _), getD_set _ _ _ _ h, if_pos rfl]

theorem row_alloc (w : World) (e : TypeId) (k : IntKind) (n : Int) : Row e k (w.alloc (.cells #[.int k n] e)) w.heap.size [n] := by
  unfold Row
  rw [heap_alloc_new w]; rfl

/-- What stands in the row when i limbs have been added. -/
def Adds (xs ys : List Int) (m i : Nat) (cur : List Int) (c : Int) : Prop :=
  cur.length = m + 1 ∧ Dg B64 cur ∧ 0 ≤ c ∧ c ≤ 1 ∧ low B64 cur i + B64 ^ i * c = low B64 xs i + low B64 ys i
theorem Adds.zero (xs ys : List Int) (m : Nat) : Adds xs ys m 0 (List.replicate (m + 1) 0) 0 :=
  ⟨by simp, Dg.zeros B64_pos _, by decide, by decide, by simp [low_zero]⟩
theorem Adds.step {xs ys : List Int} {m i : Nat} {cur : List Int} {c : Int} (h : Adds xs ys m i cur c) (hi : i < m + 1) {ne c' : Int} (hn : 0 ≤ ne ∧ ne < B64) (hc : 0 ≤ c' ∧ c' ≤ 1)
    (he : ne + B64 * c' = xs.getD i 0 + ys.getD i 0 + c) : Adds xs ys m (i + 1) (cur.set i ne) c' := by
  obtain ⟨h1, h2, h3, h4, h5⟩ := h
  refine ⟨by simp [h1], h2.set _ hn, hc.1, hc.2, ?_⟩
  rw [low_set_succ _ _ _ _ (by omega), low_succ, low_succ, Int.pow_succ]
  generalize low B64 cur i = A at *
  generalize low B64 xs i = X at *
  generalize low B64 ys i = Y at *
  generalize B64 ^ i = p at *
  generalize B64 = b at *
  grind
theorem Adds.done {xs ys : List Int} {m : Nat} {cur : List Int} {c : Int} (h : Adds xs ys m m cur c) (hx : top xs ≤ m) (hy : top ys ≤ m) : Dg B64 (cur.set m c) ∧ (cur.set m c).length = m + 1 ∧ val B64 (cur.set m c) = val B64 xs + val B64 ys := by
  obtain ⟨h1, h2, h3, h4, h5⟩ := h
  refine ⟨h2.set _ ⟨h3, by unfold B64; omega⟩, by simp [h1], ?_⟩
  have : (cur.set m c).length = m + 1 := by simp [h1]
  rw [← low_len, this, low_set_succ _ _ _ _ (by omega), h5, low_all _ _ _ hx, low_all _ _ _ hy]

end Go.Proofs.YtnckmcmobkpdcaaDoor
/-
  Contracts of nat.Sub, Mul.
-/
namespace Go.Proofs.YtnckmcmobkpdcaaDoor
open Go.RowKit
set_option linter.unusedVariables false
set_option linter.unusedSimpArgs false
attribute [local go_sem ↓] Go.wp_at_zero Go.wp_at_succ

/-- What stands in the row when i limbs have been taken away. -/
def Subs (xs ys : List Int) (m i : Nat) (cur : List Int) (c : Int) : Prop :=
  cur.length = m ∧ Dg B64 cur ∧ 0 ≤ c ∧ c ≤ 1 ∧ low B64 cur i - B64 ^ i * c = low B64 xs i - low B64 ys i
theorem Subs.zero (xs ys : List Int) (m : Nat) : Subs xs ys m 0 (List.replicate m 0) 0 :=
  ⟨by simp, Dg.zeros B64_pos _, by decide, by decide, by simp [low_zero]⟩
theorem Subs.step {xs ys : List Int} {m i : Nat} {cur : List Int} {c : Int} (h : Subs xs ys m i cur c) (hi : i < m) {ne c' : Int} (hn : 0 ≤ ne ∧ ne < B64) (hc : 0 ≤ c' ∧ c' ≤ 1)
    (he : ne - B64 * c' = xs.getD i 0 - ys.getD i 0 - c) : Subs xs ys m (i + 1) (cur.set i ne) c' := by
  obtain ⟨h1, h2, h3, h4, h5⟩ := h
  refine ⟨by simp [h1], h2.set _ hn, hc.1, hc.2, ?_⟩
  rw [low_set_succ _ _ _ _ (by omega), low_succ, low_succ, Int.pow_succ]
  generalize low B64 cur i = A at *
  generalize low B64 xs i = X at *
  generalize low B64 ys i = Y at *
  generalize B64 ^ i = p at *
  generalize B64 = b at *
  grind
theorem Subs.done {xs ys : List Int} {m : Nat} {cur : List Int} {c : Int} (h : Subs xs ys m m cur c) (hx : top xs ≤ m) (hy : top ys ≤ m) (hle : val B64 ys ≤ val B64 xs) : val B64 cur = val B64 xs - val B64 ys := by
  obtain ⟨h1, h2, h3, h4, h5⟩ := h
  rw [low_all _ _ _ hx, low_all _ _ _ hy] at h5
  have e : low B64 cur m = val B64 cur := by rw [← h1, low_len]
  rw [e] at h5
  have hlt := val_lt B64_pos h2
  rw [h1] at hlt
  have : c = 0 ∨ c = 1 := by omega
  rcases this with rfl | rfl
  · omega
  · rw [Int.mul_one] at h5; omega

end Go.Proofs.YtnckmcmobkpdcaaDoor
/-
  Contract of nat.Mul.
-/
namespace Go.Proofs.YtnckmcmobkpdcaaDoor
open Go.RowKit
set_option linter.unusedVariables false
set_option linter.unusedSimpArgs false
attribute [local go_sem ↓] Go.wp_at_zero Go.wp_at_succ

theorem low_congr (B : Int) (xs ys : List Int) : ∀ (i : Nat), (∀ j, j < i → xs.getD j 0 = ys.getD j 0) → low B xs i = low B ys i
  | 0, _ => by simp [low_zero]
  | i + 1, h => by rw [low_succ, low_succ, low_congr B xs ys i (fun j hj => h j (by omega)), h i (by omega)]
theorem low_add (B : Int) (xs : List Int) (o : Nat) : ∀ (i : Nat), o + i ≤ xs.length → low B xs (o + i) = low B xs o + B ^ o * val B (seg xs o i)
  | 0, _ => by simp [seg, val]
  | i + 1, h => by
    rw [show o + (i + 1) = (o + i) + 1 by omega, low_succ, low_add B xs o i (by omega), seg_succ xs o i (by omega), val_append, seg_len xs o i (by omega)]
    simp only [val, Int.mul_zero, Int.add_zero, Int.pow_add]
    grind

/-- What stands in the row when i limbs of x have been gone over. -/
def Muls (xs ys : List Int) (i : Nat) (cur : List Int) : Prop :=
  cur.length = xs.length + ys.length ∧ Dg B64 cur ∧ (∀ j, i + ys.length ≤ j → cur.getD j 0 = 0) ∧ low B64 cur (i + ys.length) = low B64 xs i * val B64 ys
theorem getD_zeros (n j : Nat) : (List.replicate n (0 : Int)).getD j 0 = 0 := by
  simp [List.getD, List.getElem?_replicate]; split <;> rfl
theorem low_zeros (B : Int) (n i : Nat) : low B (List.replicate n 0) i = 0 := by
  unfold low
  exact val_zeros B _ (fun j => by
    simp only [List.getD, List.getElem?_take]
    split
    · exact getD_zeros n j
    · rfl)
theorem Muls.zero (xs ys : List Int) : Muls xs ys 0 (List.replicate (xs.length + ys.length) 0) :=
  ⟨by simp, Dg.zeros B64_pos _, fun j _ => getD_zeros _ j, by rw [low_zeros, low_zero, Int.zero_mul]⟩
theorem Muls.step {xs ys : List Int} {i : Nat} {cur cur' : List Int} {c : Int} (h : Muls xs ys i cur) (hi : i < xs.length) (hr : Runs 1 cur ys i ys.length (xs.getD i 0) cur' c) : Muls xs ys (i + 1) (cur'.set (i + ys.length) c) := by
  obtain ⟨h1, h2, h3, h4⟩ := h
  obtain ⟨r1, r2, r3, r4, r5, r6⟩ := hr
  refine ⟨by simp [r1, h1], r3.set _ ⟨r4, r5⟩, fun j hj => ?_, ?_⟩
  · rw [getD_set _ _ _ _ (by omega), if_neg (by omega), r2 j (by omega)]
    exact h3 j (by omega)
  · rw [show i + 1 + ys.length = (i + ys.length) + 1 by omega, low_set_succ _ _ _ _ (by omega), low_add _ _ _ _ (by omega)]
    rw [low_congr B64 cur' cur i (fun j hj => r2 j (by omega))]
    rw [low_add _ _ _ _ (by omega)] at h4
    rw [low_succ, Int.pow_add]
    rw [List.take_of_length_le (Nat.le_refl _)] at r6
    generalize val B64 (seg cur' i ys.length) = A at *
    generalize val B64 (seg cur i ys.length) = C at *
    generalize low B64 cur i = L at *
    generalize low B64 xs i = X at *
    generalize B64 ^ i = p at *
    generalize B64 ^ ys.length = q at *
    generalize val B64 ys = Y at *
    generalize xs.getD i 0 = t at *
    have e : L + p * A + p * q * c = L + p * (A + 1 * (q * c)) := by grind
    rw [e, r6]
    grind
theorem Muls.done {xs ys : List Int} {cur : List Int} (h : Muls xs ys xs.length cur) : val B64 cur = val B64 xs * val B64 ys := by
  rw [← low_len, h.1, h.2.2.2, low_len]

end Go.Proofs.YtnckmcmobkpdcaaDoor
