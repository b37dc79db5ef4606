/-
  The walk of JsonsGets.
-/
import Derived.Test.YtbobgebhdafciaaDoorJGx
import Derived.Test.YtbobgebhdafciaaDoorJGo
import Derived.Test.YtbobgebhdafciaaDoorJGr
namespace Go.Proofs.YtbobgebhdafciaaDoor
open Go.Shelf Go.RowKit
set_option linter.unusedVariables false
set_option linter.unusedSimpArgs false

/-- some. -/
theorem some_any (stop all : Int) (w : World) : Calls Tryd.prog 16 #[.int .i64 stop, .int .i64 all] w fun e w' => w' = w ∧ e = .returned (.int .i64 (if stop = 0 then all else stop)) := by
  by_cases q : stop = 0
  · subst q
    go_enter Tryd.func16, Tryd.ntmps16
    go_wp2_with fail
    go_ret
    exact ⟨rfl, rfl⟩
  · have qb : (stop == 0) = false := by simpa using q
    go_enter Tryd.func16, Tryd.ntmps16
    go_wp2_with fail
    go_ret
    exact ⟨rfl, rfl⟩

theorem cnt_some {m : Nat} {stop : Int} (h : 0 ≤ stop) : cntOf m stop = min (m : Int) (if stop = 0 then (m : Int) else stop) := by
  unfold cntOf
  split <;> split <;> omega
theorem cnt_neg (m : Nat) : cntOf m (-1) = m := by
  unfold cntOf
  rw [if_neg (by omega)]
/-- Is the name there? -/
def thereL (l : List Bs) (s : Bs) : Bool := l.any (· == s)
theorem there_take (l : List Bs) (s : Bs) (j : Nat) (x : Bs) (h : l[j]? = some x) : thereL (l.take (j + 1)) s = (thereL (l.take j) s || x == s) := by
  unfold thereL
  rw [List.take_add_one, h]
  simp
theorem find_there (ns : List Bs) (ks : List Int) (s : Bs) : (findL (memL ns ks) s).isSome = thereL (ns.take (min ns.length ks.length)) s := by
  unfold findL memL thereL
  induction ns generalizing ks with
  | nil => simp
  | cons a ns ih =>
    cases ks with
    | nil => simp
    | cons k ks =>
      have h1 := ih ks
      by_cases q : a == s
      · simp [q, List.find?, Nat.succ_min_succ]
      · simp only [Bool.not_eq_true] at q
        simp [q, List.find?, Nat.succ_min_succ] at h1 ⊢
        exact h1

set_option maxRecDepth 100000 in
set_option maxHeartbeats 4000000 in
/-- JsonsGets. -/
theorem JsonsGets_at (p : Option Addr) (len cap : Nat) (i : Int) (s : Bs) (stop : Int) (gs : List Gn) (w : World) (hgl : gs.length = len) (hg : GLies w p gs) (hst : 0 ≤ stop ∧ stop < 256) (hle : len ≤ maxLen) (hT : Tabs w) :
    Calls Tryd.prog 7 #[.slice p len cap, .int .i64 i, .string ⟨s.toArray⟩, .int .u8 stop] w fun e w' => e = .returned (.bool true) ∧ Below w.heap.size w w' := by
  unfold maxLen at hle
  have HG : Hid (gs.length = len ∧ GLies w p gs) := ⟨hgl, hg⟩
  clear hgl hg
  go_enter Tryd.func7, Tryd.ntmps7
  go_wp2_with fail
  go_at_call 8
  refine (Awake_any w hT).mono ?_
  rintro e w1 ⟨rfl, b1⟩
  clear hT
  by_cases q : 100 < len
  · have q' : 100 < (len : Int) := by omega
    have hqd : decide (100 < (len : Int)) = true := by simpa using q'
    go_wp2_with fail
    go_ret
    exact ⟨rfl, b1⟩
  have q' : ¬ 100 < (len : Int) := by omega
  have hqd : decide (100 < (len : Int)) = false := by simpa using q'
  have hl100 : len ≤ 100 := by omega
  have hl100I : (len : Int) ≤ 100 := by omega
  clear hle q q'
  have HB1 : Hid (Below w.heap.size w w1) := b1
  clear b1
  go_wp2
  go_loopw [29] (fun v29 wr => ∃ j : Nat, v29 = .int .i64 j ∧ j ≤ len ∧ Hid (∀ (t : Nat) (g : Gn), t < j → gs[t]? = some g → g.names.length ≤ 100 ∧ g.kids.length ≤ 100) ∧ Below w.heap.size w wr) (fun v29 _ => len - (intOf v29).toNat)
  case atStart => exact ⟨0, rfl, by omega, fun t g ht => absurd ht (Nat.not_lt_zero _), HB1.out⟩
  case round =>
    obtain ⟨j, rfl, hj, HQ, hb⟩ := hrel
    have HB : Hid (Below w.heap.size w wr) := hb
    clear hb HB1
    have hj0 : (0 : Int) ≤ (j : Int) := by omega
    by_cases hjl : j < len
    · have hjI : (j : Int) < (len : Int) := by omega
      have hjd : decide ((j : Int) < (len : Int)) = true := by simpa using hjI
      obtain ⟨g, hgj⟩ : ∃ g, gs[j]? = some g := ⟨_, List.getElem?_eq_getElem (by rw [HG.out.1]; exact hjl)⟩
      obtain ⟨b, o, rfl, hlt, pN, cN, pK, cK, c0, c1, c2, c3, r1, r2, r3, r4⟩ := (HG.out.2.keep HB.out) j g hgj
      obtain ⟨ln, hln⟩ : ∃ ln, g.names.length = ln := ⟨_, rfl⟩
      obtain ⟨lk, hlk⟩ : ∃ lk, g.kids.length = lk := ⟨_, rfl⟩
      rw [hln] at c2
      rw [hlk] at c3
      have HJ : Hid (gs[j]? = some g ∧ g.names.length = ln ∧ g.kids.length = lk) := ⟨hgj, hln, hlk⟩
      clear hgj hln hlk r1 r2 r3 r4
      by_cases t1 : 100 < ln
      · have t1I : (100 : Int) < (ln : Int) := by omega
        have t1d : decide ((100 : Int) < (ln : Int)) = true := by simpa using t1I
        go_wp2_with fail
        go_ret
        exact ⟨rfl, HB.out.trans (((Below.refl _ _).alloc (Nat.le_refl _) _).mono HB.out.size)⟩
      · have t1I : ¬ (100 : Int) < (ln : Int) := by omega
        have t1d : decide ((100 : Int) < (ln : Int)) = false := by simpa using t1I
        by_cases t2 : 100 < lk
        · have t2I : (100 : Int) < (lk : Int) := by omega
          have t2d : decide ((100 : Int) < (lk : Int)) = true := by simpa using t2I
          go_wp2_with fail
          go_ret
          exact ⟨rfl, HB.out.trans (((Below.refl _ _).alloc (Nat.le_refl _) _).mono HB.out.size)⟩
        · have t2I : ¬ (100 : Int) < (lk : Int) := by omega
          have t2d : decide ((100 : Int) < (lk : Int)) = false := by simpa using t2I
          go_wp2_with fail
          exact ⟨⟨j + 1, by go_num, by omega, fun t g' ht hg' => by
            rcases Nat.lt_or_eq_of_le (Nat.le_of_lt_succ ht) with h1 | h1
            · exact HQ.out t g' h1 hg'
            · subst h1
              rw [HJ.out.1] at hg'
              cases hg'
              have := HJ.out.2
              omega, HB.out.trans (((Below.refl _ _).alloc (Nat.le_refl _) _).mono HB.out.size)⟩, by simp only [intOf]; omega⟩
    · have hjd : decide ((j : Int) < (len : Int)) = false := by simp; omega
      have hje : j = len := by omega
      subst hje
      clear hj hjl
      have HN : Hid ((nmsOf gs i).length ≤ 100 ∧ (kdsOf gs i).length ≤ 100) := by
        show _ ∧ _
        by_cases q : i < 0 ∨ (gs.length : Int) ≤ i
        · have ha : atG gs i = none := atG_none q
          unfold nmsOf kdsOf
          rw [ha]
          exact ⟨by decide, by decide⟩
        · obtain ⟨k, g, rfl, hk, hgk, ha⟩ := atG_some (gs := gs) (i := i) (by omega) (by omega)
          unfold nmsOf kdsOf
          rw [ha]
          exact HQ.out k g (by rw [← HG.out.1]; exact hk) hgk
      clear HQ
      have HGET := fun W (hW : Below w.heap.size w W) => Get_any p cap gs i s W (HG.out.2.keep hW) (by rw [HG.out.1]; omega) ⟨by have := HN.out; omega, by have := HN.out; omega⟩
      have HRGET := fun W (hW : Below w.heap.size w W) => rGet_any p cap gs i s W (HG.out.2.keep hW) (by rw [HG.out.1]; omega) ⟨by have := HN.out; omega, by have := HN.out; omega⟩
      rw [HG.out.1] at HGET HRGET
      go_wp2_with fail
      refine (HGET wr HB.out).mono ?_
      rintro e w2 ⟨b2, rfl⟩
      have HB2 : Hid (Below w.heap.size w w2) := HB.out.trans (b2.mono HB.out.size)
      clear b2 HGET HB
      obtain ⟨m, hm⟩ : ∃ m, min (nmsOf gs i).length (kdsOf gs i).length = m := ⟨_, rfl⟩
      have hm100 : m ≤ 100 := by have := HN.out; omega
      have hm100I : (m : Int) ≤ 100 := by omega
      have HM : Hid (min (nmsOf gs i).length (kdsOf gs i).length = m) := hm
      obtain ⟨Z, hZ⟩ : ∃ Z, rgetZ (memL (nmsOf gs i) (kdsOf gs i)) s = Z := ⟨_, rfl⟩
      obtain ⟨K, B, hfv, hB, hK1, hK0⟩ : ∃ (K : Int) (B : Bool), findV (memL (nmsOf gs i) (kdsOf gs i)) s = .tuple #[.int .i64 K, .bool B] ∧ thereL ((nmsOf gs i).take m) s = B ∧ (B = true → K = Z) ∧ (B = false → K = 0) := by
        have h1 := find_there (nmsOf gs i) (kdsOf gs i) s
        rw [hm] at h1
        unfold rgetZ at hZ
        unfold findV
        cases hf : findL (memL (nmsOf gs i) (kdsOf gs i)) s with
        | none =>
          rw [hf] at h1
          exact ⟨0, false, rfl, h1.symm, (fun h => by cases h), fun _ => rfl⟩
        | some kk =>
          rw [hf] at h1 hZ
          exact ⟨kk, true, rfl, h1.symm, (fun _ => hZ), fun h => by cases h⟩
      have HT : Hid (thereL ((nmsOf gs i).take m) s = B) := hB
      rw [hfv]
      rw [hZ] at HRGET
      clear hm hZ hB hfv
      go_wp2_with fail
      refine (HRGET w2 HB2.out).mono ?_
      rintro e w3 ⟨rfl, rfl⟩
      clear HRGET
      by_cases q : i < 0 ∨ (j : Int) ≤ i
      · have ha : atG gs i = none := atG_none (by rw [HG.out.1]; exact q)
        have e1 : nmsOf gs i = [] := by unfold nmsOf; rw [ha]
        have hm0 : m = 0 := by have := HM.out; rw [e1] at this; simp at this; omega
        have hBf : B = false := by rw [← HT.out, e1]; simp [thereL]
        subst hBf
        obtain rfl : K = 0 := hK0 rfl
        subst hm0
        have rM : ∀ W : World, RowAt W W.heap.size none 0 (strs ((nmsOf gs i).take 0)) := fun W => ⟨rfl, fun h => absurd h (by decide)⟩
        clear hK1 hK0 ha e1 HT
        by_cases q1 : i < 0
        · have q1' : decide ((0 : Int) ≤ i) = false := by simpa using q1
          have hc0 : ∀ st, cntOf 0 st = 0 := fun st => by unfold cntOf; split <;> omega
          have HWALK := fun (W : World) (hW : Below w.heap.size w W) (st : Int) => walk_any p cap gs i st none 0 0 W (HG.out.2.keep hW) (by rw [HG.out.1]; omega) ⟨by have := HN.out; omega, by have := HN.out; omega⟩ HM.out (rM W)
          simp only [hc0, HG.out.1] at HWALK
          go_wp2_with fail
          refine (HWALK _ HB2.out stop).mono ?_
          rintro e w4 ⟨rfl, b4⟩
          have HB4 : Hid (Below w.heap.size w w4) := HB2.out.trans (b4.mono HB2.out.size)
          clear b4
          go_wp2_with fail
          refine (HWALK _ HB4.out (-1)).mono ?_
          rintro e w5 ⟨rfl, b5⟩
          have HB5 : Hid (Below w.heap.size w w5) := HB4.out.trans (b5.mono HB4.out.size)
          clear b5 HWALK
          go_wp2_with fail
          refine (some_any stop 0 w5).mono ?_
          rintro e w6 ⟨rfl, rfl⟩
          obtain ⟨sm, hsm⟩ : ∃ x, (if stop = 0 then (0 : Int) else stop) = x := ⟨_, rfl⟩
          have HS : Hid (0 ≤ sm) := by show _ ≤ _; rw [← hsm]; split <;> omega
          rw [hsm]
          clear hsm
          have HMIN : Hid (((0 : Int) == min (0 : Int) sm) = true) := by show _ = _; rw [Int.min_eq_left HS.out]; rfl
          go_wp2_with fail
          go_ret
          exact ⟨by rw [HMIN.out]; rfl, HB5.out⟩
        · have q1' : decide ((0 : Int) ≤ i) = true := by simp; omega
          have q2' : decide (i < (j : Int)) = false := by simp; omega
          have hc0 : ∀ st, cntOf 0 st = 0 := fun st => by unfold cntOf; split <;> omega
          have HWALK := fun (W : World) (hW : Below w.heap.size w W) (st : Int) => walk_any p cap gs i st none 0 0 W (HG.out.2.keep hW) (by rw [HG.out.1]; omega) ⟨by have := HN.out; omega, by have := HN.out; omega⟩ HM.out (rM W)
          simp only [hc0, HG.out.1] at HWALK
          go_wp2_with fail
          refine (HWALK _ HB2.out stop).mono ?_
          rintro e w4 ⟨rfl, b4⟩
          have HB4 : Hid (Below w.heap.size w w4) := HB2.out.trans (b4.mono HB2.out.size)
          clear b4
          go_wp2_with fail
          refine (HWALK _ HB4.out (-1)).mono ?_
          rintro e w5 ⟨rfl, b5⟩
          have HB5 : Hid (Below w.heap.size w w5) := HB4.out.trans (b5.mono HB4.out.size)
          clear b5 HWALK
          go_wp2_with fail
          refine (some_any stop 0 w5).mono ?_
          rintro e w6 ⟨rfl, rfl⟩
          obtain ⟨sm, hsm⟩ : ∃ x, (if stop = 0 then (0 : Int) else stop) = x := ⟨_, rfl⟩
          have HS : Hid (0 ≤ sm) := by show _ ≤ _; rw [← hsm]; split <;> omega
          rw [hsm]
          clear hsm
          have HMIN : Hid (((0 : Int) == min (0 : Int) sm) = true) := by show _ = _; rw [Int.min_eq_left HS.out]; rfl
          go_wp2_with fail
          go_ret
          exact ⟨by rw [HMIN.out]; rfl, HB5.out⟩
      · obtain ⟨kx, g, rfl, hk, hgk, ha⟩ := atG_some (gs := gs) (i := i) (by omega) (by rw [HG.out.1]; omega)
        have e1 : nmsOf gs (kx : Int) = g.names := by unfold nmsOf; rw [ha]
        have e2 : kdsOf gs (kx : Int) = g.kids := by unfold kdsOf; rw [ha]
        obtain ⟨b, o, rfl, hlt, pN, cN, pK, cK, c0, c1, c2, c3, r1, r2, r3, r4⟩ := HG.out.2 kx g hgk
        have k2 := (HB2.out.cell (p := ⟨b, o + kx * 4 + 2, none⟩) hlt).trans c2
        have k3 := (HB2.out.cell (p := ⟨b, o + kx * 4 + 3, none⟩) hlt).trans c3
        have hmn : m ≤ g.names.length := by rw [← e1]; have := HM.out; omega
        have HROW : Hid (∀ W, Below w.heap.size w W → RowAt W W.heap.size pN m (strs ((nmsOf gs (kx : Int)).take m))) := fun W hW => by
          have h1 := r1.more hW
          rw [e1]
          refine ⟨by rw [strs_length, List.length_take]; omega, fun h0 => ?_⟩
          obtain ⟨qb, fb, e, hq, hc⟩ := h1.cells (by omega)
          refine ⟨qb, fb, e, hq, fun t ht => ?_⟩
          rw [hc t (by omega)]
          unfold strs
          rw [List.getElem?_map, List.getElem?_map, List.getElem?_take, if_pos ht]
        obtain ⟨ln, hln⟩ : ∃ ln, g.names.length = ln := ⟨_, rfl⟩
        obtain ⟨lk, hlk⟩ : ∃ lk, g.kids.length = lk := ⟨_, rfl⟩
        rw [hln] at k2 hmn r3
        rw [hlk] at k3
        have hmin : min ln lk = m := by rw [← hln, ← hlk, ← e1, ← e2]; exact HM.out
        have hlnb : (ln : Int) ≤ 100 := by have := HN.out; rw [e1, hln] at this; omega
        have hlkb : (lk : Int) ≤ 100 := by have := HN.out; rw [e2, hlk] at this; omega
        have hminI : min (ln : Int) (lk : Int) = (m : Int) := by omega
        have hmln : (m : Int) ≤ (ln : Int) := by omega
        have hmcN : (m : Int) ≤ (cN : Int) := by omega
        have q1' : decide ((0 : Int) ≤ (kx : Int)) = true := by simp
        have q2' : decide ((kx : Int) < (j : Int)) = true := by simp; omega
        have hkj : (kx : Int) < (j : Int) := by omega
        have hkx0 : (0 : Int) ≤ (kx : Int) := by omega
        have hkjn : kx < j := by omega
        have HCN : Hid (m ≤ cN) := by show _ ≤ _; omega
        clear q ha e1 e2 hgk hk r1 r2 r3 r4 c0 c1 c2 c3 hln hlk hmn hlt
        go_wp2_with fail
        go_quiet (fail)
        have HB7 : Hid (Below w.heap.size w (w3.drewN nq)) := HB2.out.trans ((below_drewN w3 nq).mono HB2.out.size)
        clear k2 k3 HB2 hmin hminI hmln hlnb hlkb q1' q2' hkj hmcN
        generalize w3.drewN nq = w7 at *
        go_wp2_with fail
        obtain ⟨nms, hnms⟩ : ∃ x, nmsOf gs (kx : Int) = x := ⟨_, rfl⟩
        have HNM : Hid (nmsOf gs (kx : Int) = nms ∧ m ≤ nms.length) := ⟨hnms, by have := HM.out; rw [hnms] at this; omega⟩
        clear hnms
        generalize wr = wOld at *
        go_loopw [14, 84] (fun v14 v84 wx => ∃ (x : Nat) (y : Bool), v14 = .bool y ∧ v84 = .int .i64 x ∧ x ≤ m ∧ Hid (thereL (nms.take x) s = y) ∧ Below w.heap.size w wx) (fun _ v84 _ => m - (intOf v84).toNat)
        case atStart => exact ⟨0, false, rfl, rfl, by omega, rfl, HB7.out⟩
        case round =>
          obtain ⟨x, y, rfl, rfl, hx, HY, hbx⟩ := hrel
          have HBX : Hid (Below w.heap.size w wr) := hbx
          clear HB7 hbx
          have hx0 : (0 : Int) ≤ (x : Int) := by omega
          by_cases hxm : x < m
          · have hxI : (x : Int) < (m : Int) := by omega
            have hxd : decide ((x : Int) < (m : Int)) = true := by simpa using hxI
            obtain ⟨nm, hnm⟩ : ∃ nm, nms[x]? = some nm := ⟨_, List.getElem?_eq_getElem (by have := HNM.out.2; omega)⟩
            obtain ⟨qb, fb, rfl, _, hc⟩ := (HROW.out wr HBX.out).cells (by omega)
            have hcx : wr.cell? ⟨qb, fb + x, none⟩ = some (.string ⟨nm.toArray⟩) := by
              rw [hc x hxm, HNM.out.1]
              unfold strs
              rw [List.getElem?_map, List.getElem?_take, if_pos hxm, hnm]
              rfl
            have HNX : Hid (nms[x]? = some nm) := hnm
            have ht : ∀ l : Bs, (⟨l.toArray⟩ : ByteArray).toList = l := fun l => by rw [Lib.toList_data]
            clear hc hnm HROW
            cases y with
            | true =>
              go_wp2_with fail
              exact ⟨⟨x + 1, true, rfl, by go_num, by omega, by show _ = _; rw [there_take nms s x nm HNX.out, HY.out]; rfl, HBX.out⟩, by simp only [intOf]; omega⟩
            | false =>
              by_cases he : nm = s
              · have heb : (nm == s) = true := by simpa using he
                go_wp2_with fail
                exact ⟨⟨x + 1, true, rfl, by go_num, by omega, by show _ = _; rw [there_take nms s x nm HNX.out, HY.out, heb]; rfl, HBX.out⟩, by simp only [intOf]; omega⟩
              · have heb : (nm == s) = false := by simpa using he
                go_wp2_with fail
                exact ⟨⟨x + 1, false, rfl, by go_num, by omega, by show _ = _; rw [there_take nms s x nm HNX.out, HY.out, heb]; rfl, HBX.out⟩, by simp only [intOf]; omega⟩
          · have hxd : decide ((x : Int) < (m : Int)) = false := by simp; omega
            have hxe : x = m := by omega
            have hyB : y = B := by rw [← HY.out, ← HT.out, HNM.out.1, hxe]
            subst hyB
            subst hxe
            clear HT HY hx hxm
            cases y with
            | true =>
              obtain rfl : K = Z := hK1 rfl
              clear hK1 hK0
              have hKK : (K == K) = true := by simp
              have HWALK := fun (W : World) (hW : Below w.heap.size w W) (st : Int) => walk_any (some ⟨b, o, none⟩) cap gs (kx : Int) st pN x cN W (HG.out.2.keep hW) (by rw [HG.out.1]; omega) ⟨by have := HN.out; omega, by have := HN.out; omega⟩ HM.out (HROW.out W hW)
              rw [HG.out.1] at HWALK
              go_wp2_with fail
              refine (HWALK _ HBX.out stop).mono ?_
              rintro e w4 ⟨rfl, b4⟩
              have HB4 : Hid (Below w.heap.size w w4) := HBX.out.trans (b4.mono HBX.out.size)
              clear b4
              have hcn : cntOf x (-1) = (x : Int) := cnt_neg x
              have HCS : Hid (cntOf x stop = min (x : Int) (if stop = 0 then (x : Int) else stop)) := cnt_some hst.1
              obtain ⟨cs, hcs⟩ : ∃ c, cntOf x stop = c := ⟨_, rfl⟩
              rw [hcs] at HCS ⊢
              go_wp2_with fail
              refine (HWALK _ HB4.out (-1)).mono ?_
              rintro e w5 ⟨rfl, b5⟩
              have HB5 : Hid (Below w.heap.size w w5) := HB4.out.trans (b5.mono HB4.out.size)
              clear b5 HWALK
              rw [hcn]
              have hmm : ((x : Int) == (x : Int)) = true := by simp
              go_wp2_with fail
              refine (some_any stop x w5).mono ?_
              rintro e w6 ⟨rfl, rfl⟩
              obtain ⟨sm, hsm⟩ : ∃ r, (if stop = 0 then (x : Int) else stop) = r := ⟨_, rfl⟩
              rw [hsm] at HCS ⊢
              have HMIN : Hid ((cs == min (x : Int) sm) = true) := by show _ = _; rw [HCS.out]; simp
              go_wp2_with fail
              go_ret
              exact ⟨by rw [HMIN.out]; rfl, HB5.out⟩
            | false =>
              obtain rfl : K = 0 := hK0 rfl
              clear hK1 hK0
              have HWALK := fun (W : World) (hW : Below w.heap.size w W) (st : Int) => walk_any (some ⟨b, o, none⟩) cap gs (kx : Int) st pN x cN W (HG.out.2.keep hW) (by rw [HG.out.1]; omega) ⟨by have := HN.out; omega, by have := HN.out; omega⟩ HM.out (HROW.out W hW)
              rw [HG.out.1] at HWALK
              go_wp2_with fail
              refine (HWALK _ HBX.out stop).mono ?_
              rintro e w4 ⟨rfl, b4⟩
              have HB4 : Hid (Below w.heap.size w w4) := HBX.out.trans (b4.mono HBX.out.size)
              clear b4
              have hcn : cntOf x (-1) = (x : Int) := cnt_neg x
              have HCS : Hid (cntOf x stop = min (x : Int) (if stop = 0 then (x : Int) else stop)) := cnt_some hst.1
              obtain ⟨cs, hcs⟩ : ∃ c, cntOf x stop = c := ⟨_, rfl⟩
              rw [hcs] at HCS ⊢
              go_wp2_with fail
              refine (HWALK _ HB4.out (-1)).mono ?_
              rintro e w5 ⟨rfl, b5⟩
              have HB5 : Hid (Below w.heap.size w w5) := HB4.out.trans (b5.mono HB4.out.size)
              clear b5 HWALK
              rw [hcn]
              have hmm : ((x : Int) == (x : Int)) = true := by simp
              go_wp2_with fail
              refine (some_any stop x w5).mono ?_
              rintro e w6 ⟨rfl, rfl⟩
              obtain ⟨sm, hsm⟩ : ∃ r, (if stop = 0 then (x : Int) else stop) = r := ⟨_, rfl⟩
              rw [hsm] at HCS ⊢
              have HMIN : Hid ((cs == min (x : Int) sm) = true) := by show _ = _; rw [HCS.out]; simp
              go_wp2_with fail
              go_ret
              exact ⟨by rw [HMIN.out]; rfl, HB5.out⟩
end Go.Proofs.YtbobgebhdafciaaDoor
