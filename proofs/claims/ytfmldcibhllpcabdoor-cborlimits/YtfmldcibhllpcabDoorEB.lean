/-
  The document's Key and Ahead; its Same, of items that are the same.
-/
import Derived.Test.YtfmldcibhllpcabDoorEA
import Derived.Shelf.Bytes.SlEqualAll
namespace Go.Proofs.YtfmldcibhllpcabDoor
open Go.Shelf Go.RowKit
set_option linter.unusedVariables false
set_option linter.unusedSimpArgs false
/-- Bytes as a string. -/
theorem conv_bat {w : World} {p : Option Addr} {n c : Nat} {l : Bs} (h : BAt w p n l) (hl : l.length = n) : (convert 25 9 (.slice p n c)).run Tryd.prog w = .ok (.string ⟨l.toArray⟩) w := by
  have h2 := Lib.BytesIn.convert (P := Tryd.prog) (bytesAt_in h hl) (by simp [hl]) c 25 5 9 Tryd.underlying25 Tryd.underlying5 Tryd.underlying9
  rw [h2, show strOfNums (l.map fun b => (b.toNat : Int)) = ⟨l.toArray⟩ from by
    apply ByteArray.ext
    apply Array.toList_inj.1
    rw [← Lib.toList_data, Lib.strOfNums_toList, bytesOf_map]]
/-- So many kids at most, so deep. -/
def wideC : Nat → It → Prop
  | 0, i => i.kids.length ≤ 1000000
  | d + 1, i => i.kids.length ≤ 1000000 ∧ ∀ k ∈ i.kids, wideC d k
theorem wideC.here {d : Nat} {i : It} (h : wideC d i) : i.kids.length ≤ 1000000 := by
  cases d with
  | zero => exact h
  | succ d => exact h.1
/-- Two items that are the same are the same. -/
def SameOK (d : Nat) : Prop := ∀ (i : It) (P Q : Nat → Prop) (a0 a1 a2 a3 b0 b1 b2 b3 : Value) (w : World), deepC d i → wideC d i → ItOk w P d [a0, a1, a2, a3] i → ItOk w Q d [b0, b1, b2, b3] i → Calls Tryd.prog 10 #[.agg #[a0, a1, a2, a3], .agg #[b0, b1, b2, b3]] w fun e w' => e = .returned (.bool true) ∧ Below w.heap.size w w'
set_option maxRecDepth 100000 in
set_option maxHeartbeats 2000000 in
theorem same_one (d : Nat) (IH : ∀ d', d = d' + 1 → SameOK d') : SameOK d := by
  intro i P Q a0 a1 a2 a3 b0 b1 b2 b3 w hd hwd ha hb
  have hk : i.kids.length ≤ 1000000 := hwd.here
  obtain ⟨qa, hha⟩ := ha.head
  obtain ⟨qb, hhb⟩ := hb.head
  obtain ⟨pa, ca, ca', rfl, rfl, rfl, rfl, x1, x2, xb, x4, x5⟩ := hha.cells
  obtain ⟨pb, cb, cb', rfl, rfl, rfl, rfl, y1, y2, yb, y4, y5⟩ := hhb.cells
  obtain ⟨K0, hK0⟩ : ∃ K0 : Nat, i.kind = K0 := ⟨_, rfl⟩
  obtain ⟨N0, hN0⟩ : ∃ K0 : Nat, i.n = K0 := ⟨_, rfl⟩
  obtain ⟨L0, hL0⟩ : ∃ K0 : Nat, i.b.length = K0 := ⟨_, rfl⟩
  obtain ⟨M0, hM0⟩ : ∃ K0 : Nat, i.kids.length = K0 := ⟨_, rfl⟩
  rw [hK0, hN0, hL0, hM0]
  have cva := fun W (hW : Below w.heap.size w W) c => conv_bat (c := c) ((show BAt w pa L0 i.b by rw [← hL0]; exact xb.lies).below hW) hL0
  have cvb := fun W (hW : Below w.heap.size w W) c => conv_bat (c := c) ((show BAt w pb L0 i.b by rw [← hL0]; exact yb.lies).below hW) hL0
  have hM1 : (M0 : Int) ≤ 1000000 := by omega
  obtain ⟨W2, hW2⟩ : ∃ W2, (w.alloc (.cells #[.int .u8 (K0 : Int), .int .u64 (N0 : Int), .slice pa L0 ca, .slice qa M0 ca'] 29)).alloc (.cells #[.int .u8 (K0 : Int), .int .u64 (N0 : Int), .slice pb L0 cb, .slice qb M0 cb'] 29) = W2 := ⟨_, rfl⟩
  have B2 : Below w.heap.size w W2 := by rw [← hW2]; exact ((Below.refl _ _).alloc (Nat.le_refl _) _).alloc (by rw [alloc_sz]; omega) _
  have S0 : Slot W2 w.heap.size (.int .u8 (K0 : Int)) (.int .u64 (N0 : Int)) (.slice pa L0 ca) (.slice qa M0 ca') := by rw [← hW2]; exact (Slot.new w _ _ _ _).same (heap_alloc_old _ _ (by rw [alloc_sz]; omega))
  have S1 : Slot W2 (w.heap.size + 1) (.int .u8 (K0 : Int)) (.int .u64 (N0 : Int)) (.slice pb L0 cb) (.slice qb M0 cb') := by rw [← hW2]; exact heap_alloc2_new w _ _
  obtain ⟨s0, s1, s2, s3, _⟩ := S0.facts
  obtain ⟨t0, t1, t2, t3, _⟩ := S1.facts
  have cva2 := cva W2 B2 ca
  have cvb2 := cvb W2 B2 cb
  go_enter Tryd.func10, Tryd.ntmps10
  go_wp2_with fail
  have HS : Hid (Slot W2 w.heap.size (.int .u8 (K0 : Int)) (.int .u64 (N0 : Int)) (.slice pa L0 ca) (.slice qa M0 ca') ∧ Slot W2 (w.heap.size + 1) (.int .u8 (K0 : Int)) (.int .u64 (N0 : Int)) (.slice pb L0 cb) (.slice qb M0 cb') ∧ Below w.heap.size w W2) := ⟨S0, S1, B2⟩
  clear s0 s1 s2 s3 t0 t1 t2 t3 S0 S1 cva cvb cva2 cvb2 hW2 B2
  go_loopw [5] (fun v5 wr => ∃ j : Nat, v5 = .int .i64 (j : Int) ∧ j ≤ M0 ∧ Below W2.heap.size W2 wr) (fun v5 _ => M0 - (intOf v5).toNat)
  case atStart => exact ⟨0, rfl, Nat.zero_le _, Below.refl _ _⟩
  case round =>
    obtain ⟨j, rfl, hj, hbr⟩ := hrel
    obtain ⟨s0, s1, s2, s3, _⟩ := (HS.out.1.same (hbr.block _ HS.out.1.lt)).facts
    obtain ⟨t0, t1, t2, t3, _⟩ := (HS.out.2.1.same (hbr.block _ HS.out.2.1.lt)).facts
    have Bw : Below w.heap.size w wr := HS.out.2.2.trans (hbr.mono HS.out.2.2.size)
    rcases Nat.lt_or_eq_of_le hj with hj | rfl
    · cases d with
      | zero =>
        have : i.kids = [] := hd
        rw [this] at hM0
        simp at hM0
        omega
      | succ d =>
        obtain ⟨k, hkj⟩ : ∃ k, i.kids[j]? = some k := ⟨_, List.getElem?_eq_getElem (by omega)⟩
        obtain ⟨q1, z1, hka⟩ := ha
        obtain ⟨q2, z2, hkb⟩ := hb
        have e1 : q1 = qa := by obtain ⟨_, _, _, _, _, _, e, _⟩ := z1.cells; simp only [Value.slice.injEq] at e; exact e.1.symm
        have e2 : q2 = qb := by obtain ⟨_, _, _, _, _, _, e, _⟩ := z2.cells; simp only [Value.slice.injEq] at e; exact e.1.symm
        subst e1 e2
        obtain ⟨b1, o1, rfl, _, c0, c1, c2, c3, k0, k1, k2, k3, hra⟩ := hka j k hkj
        obtain ⟨b2, o2, rfl, _, g0, g1, g2, g3, l0, l1, l2, l3, hrb⟩ := hkb j k hkj
        have kp : ∀ {b x : Nat} {v : Value}, w.cell? ⟨b, x, none⟩ = some v → wr.cell? ⟨b, x, none⟩ = some v := fun {b x v} h => (Bw.cell (p := ⟨b, x, none⟩) (World.block_lt_of_cell? w _ h)).trans h
        have k0 := kp k0
        have k1 := kp k1
        have k2 := kp k2
        have k3 := kp k3
        have l0 := kp l0
        have l1 := kp l1
        have l2 := kp l2
        have l3 := kp l3
        have hdk : deepC d k := hd k (List.mem_of_getElem? hkj)
        have HH := fun W (hW : Below w.heap.size w W) => IH d rfl k P Q c0 c1 c2 c3 g0 g1 g2 g3 W hdk (hwd.2 k (List.mem_of_getElem? hkj)) (hra.below hW) (hrb.below hW)
        obtain ⟨y1, hy1⟩ := hra.head
        obtain ⟨y2, hy2⟩ := hrb.head
        obtain ⟨p1, m1, m1', rfl, rfl, rfl, rfl, _⟩ := hy1.cells
        obtain ⟨p2, m2, m2', rfl, rfl, rfl, rfl, _⟩ := hy2.cells
        obtain ⟨KK, hKK⟩ : ∃ n : Nat, k.kind = n := ⟨_, rfl⟩
        obtain ⟨NN, hNN⟩ : ∃ n : Nat, k.n = n := ⟨_, rfl⟩
        obtain ⟨LL, hLL⟩ : ∃ n : Nat, k.b.length = n := ⟨_, rfl⟩
        obtain ⟨MM, hMM⟩ : ∃ n : Nat, k.kids.length = n := ⟨_, rfl⟩
        have HH2 := HH wr.drew Bw.drew
        rw [hKK, hNN, hLL, hMM] at HH2
        rw [hKK] at k0 l0
        rw [hNN] at k1 l1
        rw [hLL] at k2 l2
        rw [hMM] at k3 l3
        have hjI : (j : Int) < (M0 : Int) := by omega
        have hj0 : (0 : Int) ≤ (j : Int) := by omega
        have hjd : decide ((j : Int) < (M0 : Int)) = true := by simpa using hjI
        have x1 := World.block_lt_of_cell? wr _ k0
        have x2 := World.block_lt_of_cell? wr _ l0
        have x3 := World.block_lt_of_cell? wr _ s3
        have x4 := World.block_lt_of_cell? wr _ t3
        have HBw : Hid (Below w.heap.size w wr ∧ Below W2.heap.size W2 wr) := ⟨Bw, hbr⟩
        clear kp hka hkb hra hrb hy1 hy2 z1 z2 hkj hdk IH HH hKK hNN hLL hMM hha hhb xb yb s0 s1 s2 t0 t1 t2 HS hd hwd Bw hbr
        go_wp2_with fail
        go_region_held3 (fun W => W.cell? ⟨w.heap.size, 3, none⟩ = some (.slice (some ⟨b1, o1, none⟩) M0 ca') ∧ W.cell? ⟨w.heap.size + 1, 3, none⟩ = some (.slice (some ⟨b2, o2, none⟩) M0 cb') ∧ W.cell? ⟨b1, o1 + j * 4, none⟩ = some (.int .u8 (KK : Int)) ∧ W.cell? ⟨b1, o1 + j * 4 + 1, none⟩ = some (.int .u64 (NN : Int)) ∧ W.cell? ⟨b1, o1 + j * 4 + 2, none⟩ = some (.slice p1 LL m1) ∧ W.cell? ⟨b1, o1 + j * 4 + 3, none⟩ = some (.slice y1 MM m1') ∧ W.cell? ⟨b2, o2 + j * 4, none⟩ = some (.int .u8 (KK : Int)) ∧ W.cell? ⟨b2, o2 + j * 4 + 1, none⟩ = some (.int .u64 (NN : Int)) ∧ W.cell? ⟨b2, o2 + j * 4 + 2, none⟩ = some (.slice p2 LL m2) ∧ W.cell? ⟨b2, o2 + j * 4 + 3, none⟩ = some (.slice y2 MM m2'))
          (first | exact ⟨s3, t3, k0, k1, k2, k3, l0, l1, l2, l3⟩ | exact ⟨(hb3.cell (p := ⟨_, _, none⟩) x3).trans s3, (hb3.cell (p := ⟨_, _, none⟩) x4).trans t3, (hb3.cell (p := ⟨_, _, none⟩) x1).trans k0, (hb3.cell (p := ⟨_, _, none⟩) x1).trans k1, (hb3.cell (p := ⟨_, _, none⟩) x1).trans k2, (hb3.cell (p := ⟨_, _, none⟩) x1).trans k3, (hb3.cell (p := ⟨_, _, none⟩) x2).trans l0, (hb3.cell (p := ⟨_, _, none⟩) x2).trans l1, (hb3.cell (p := ⟨_, _, none⟩) x2).trans l2, (hb3.cell (p := ⟨_, _, none⟩) x2).trans l3⟩) (first
          | (go_at_call 10; refine HH2.mono ?_; rintro e w3 ⟨rfl, hb3⟩))
        go_wp2
        exact ⟨⟨j + 1, by go_num, by omega, HBw.out.2.drew.trans (hb3.mono HBw.out.2.size)⟩, by simp only [intOf]; omega⟩
    · have hjd : decide ((j : Int) < (j : Int)) = false := by simp
      go_wp2_with fail
      go_ret
      exact ⟨rfl, Bw⟩
theorem same_ok : ∀ d, SameOK d := by
  intro d
  induction d with
  | zero => exact same_one 0 (fun d' e => by omega)
  | succ d ih => exact same_one (d + 1) (fun d' e => by cases e; exact ih)
end Go.Proofs.YtfmldcibhllpcabDoor
