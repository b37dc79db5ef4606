/-
  The reader's brackets: an array.
-/
import Derived.Test.YtbobgebhdafciabDoorJK
import Derived.Test.YtbobgebhdafciabDoorJV0
import Derived.Deep.Cut
import Derived.Deep.CutBlock
namespace Go.Proofs.YtbobgebhdafciabDoor
open Go.Shelf Go.RowKit
set_option linter.unusedVariables false
set_option linter.unusedSimpArgs false

/-- The state of the loop over an array's pieces. -/
structure PcSt_arr (f g o c rb : Nat) (bs ys : Bs) (ns : List Nd) (names : List Bs) (kids : List Nat) (news : List Nd) (W0 wr : World) (f' : Nat) : Prop where
  eq : grpS f o c 2 93 bs = pcsS (f' + 1) (o + 1) c 2 93 names kids news ys
  fuel : 2 * ys.length + 2 ≤ f' + 1
  less : f' < f
  len : ys.length ≤ bs.length
  st : St wr g ys (ns ++ ⟨2, [], names, kids⟩ :: news) (o + 1)
  fr : Fr g W0 wr
  kn : kids.length ≤ news.length
  nk : names = []
  tot : (ns ++ (⟨2, [], names, kids⟩ : Nd) :: news).length ≤ 256
/-- Behind the last piece. -/
structure PcEnd_arr (f g o c : Nat) (bs zs : Bs) (ns : List Nd) (names : List Bs) (kids : List Nat) (news : List Nd) (W0 wr : World) : Prop where
  eq : grpS f o c 2 93 bs = (match tk [93] zs with
    | some vs => .ok (⟨2, [], names, kids⟩ :: news, vs)
    | none => .error 11)
  len : zs.length ≤ bs.length
  st : St wr g zs (ns ++ ⟨2, [], names, kids⟩ :: news) (o + 1)
  fr : Fr g W0 wr
  tot : (ns ++ (⟨2, [], names, kids⟩ : Nd) :: news).length ≤ 256

def moreN_arr (v : Value) (m : Nat) : Nat := match v with
  | .bool true => m + 1
  | _ => 0
theorem set_mid_arr (ns : List Nd) (nd nd' : Nd) (news new : List Nd) : (ns ++ nd :: news).set ns.length nd' ++ new = ns ++ nd' :: (news ++ new) := by simp
theorem get_mid_arr (ns : List Nd) (nd : Nd) (news : List Nd) : (ns ++ nd :: news)[ns.length]? = some nd := by simp
theorem len_mid_arr (ns : List Nd) (nd : Nd) (news : List Nd) : (ns ++ nd :: news).length = ns.length + 1 + news.length := by simp; omega

set_option maxRecDepth 100000 in
set_option maxHeartbeats 8000000 in
/-- brackets, of an array. -/
theorem brackets_arr (f : Nat) (HE : ∀ f', f' < f → ElemOK f') : GrpOK f 2 93 18 := by
  intro g bs ns o w h hG hf hl ho hn
  have hmf : ∀ (fn : Fn) (first cap : Array Value) (w : World), (Instr.makeFunc fn first cap).run Tryd.prog w = .ok (.func fn first cap) w := fun _ _ _ _ => rfl
  have hg := h.lt
  obtain ⟨rb, hrb⟩ : ∃ rb, w.heap.size = rb := ⟨_, rfl⟩
  have hgr : g < rb := by omega
  obtain ⟨W0, hW0⟩ : ∃ W0, w.alloc (.cells #[.pointer (some ⟨g, 0, none⟩)] 48) = W0 := ⟨_, rfl⟩
  have hb0 : Below w.heap.size w W0 := by rw [← hW0]; exact (Below.refl _ _).alloc (Nat.le_refl _) _
  have x0 : Bx W0 rb 48 (.pointer (some ⟨g, 0, none⟩)) := by unfold Bx; rw [← hW0, ← hrb]; exact alloc_new _ _
  have fr0 : Fr g w W0 := Fr.ofBelow hb0 (Nat.le_of_lt hg)
  have s0 := h.below hb0
  obtain ⟨nv, hs, hR, hN, hT⟩ := s0
  have er := x0.cell
  have co := hR.opn
  have fo := hR.frz 2
  by_cases h8 : o = 8
  · subst h8
    go_enter_defers Tryd.func16, Tryd.ntmps16
    go_wp2_with fail
    exact ⟨_, results_tmp rfl _ _ _, fr0, .inr ⟨13, by rw [grpS_eq, if_pos rfl], by decide, by decide, rfl, bs, nv, hR⟩⟩
  have h8b : ((o : Int) == 8) = false := by simp; omega
  have hoI : (o : Int) ≤ 8 := by omega
  have hgrp : grpS f o ns.length 2 93 bs = match tk [93] (bl bs) with
    | some ys => .ok ([⟨2, [], [], []⟩], ys)
    | none => pcsS f (o + 1) ns.length 2 93 [] [] [] (bl bs) := by rw [grpS_eq, if_neg h8]; rfl
  have HGR : Hid (grpS f o ns.length 2 93 bs = match tk [93] (bl bs) with
    | some ys => .ok ([⟨2, [], [], []⟩], ys)
    | none => pcsS f (o + 1) ns.length 2 93 [] [] [] (bl bs)) := hgrp
  clear hgrp
  -- one bracket more is open
  obtain ⟨W1, hW1⟩ : ∃ W1, W0.setCell ⟨g, 2, none⟩ (.int .i64 ((o + 1 : Nat) : Int)) = W1 := ⟨_, rfl⟩
  have eo : ((o + 1 : Nat) : Int) = (o : Int) + 1 := by omega
  have r1 : Rd W1 g bs nv (o + 1) := by rw [← hW1]; exact hR.setOpen (o + 1)
  have b1 : But g W0 W1 := by rw [← hW1]; exact But.setCell g W0 2 _
  have n1 := hN.but b1
  have t1 := hT.but hR b1
  have fr1 : Fr g W0 W1 := Fr.ofBut b1 hR
  have x1 : Bx W1 rb 48 (.pointer (some ⟨g, 0, none⟩)) := x0.same (fr1.2 rb _ _ x0)
  obtain ⟨pn, cn, rfl⟩ := n1.slice
  obtain ⟨n, hnn⟩ : ∃ n, ns.length = n := ⟨_, rfl⟩
  rw [hnn] at n1 r1
  have c1 := r1.nodes
  have f1 := r1.frz 1
  have e1 := x1.cell
  have hg1 := r1.lt
  have hrb1 := x1.lt
  have hl1 := n1.len
  have hown := n1.row
  rw [hl1, hnn] at hown
  have hneG : some g ≠ (Value.slice pn n cn).ownBlock := fun e => by have := (owns_lt hown e.symm).1; omega
  have hneR : some rb ≠ (Value.slice pn n cn).ownBlock := fun e => by
    obtain ⟨_, _, c, hc⟩ := owns_lt hown e.symm
    unfold Bx at x1
    rw [hc] at x1
    cases x1
  rw [eo] at hW1
  obtain ⟨i0, hi0, hz0, hz1, hz2⟩ := info_parts infoNode
  have q1 : (W1.alloc (.cells #[.int .u8 2, .string ⟨#[]⟩, .slice none 0 0, .slice none 0 0] 38)).cell? ⟨g, 1, none⟩ = some (.slice pn n cn) := more_cell _ c1
  have q2 : (W1.alloc (.cells #[.int .u8 2, .string ⟨#[]⟩, .slice none 0 0, .slice none 0 0] 38)).cell? ⟨rb, 0, none⟩ = some (.pointer (some ⟨g, 0, none⟩)) := more_cell _ e1
  have HP : Hid (n + 1 ≤ maxLen ∧ (n + 1) * 72 ≤ 140737488355328 ∧ g + 1 ≤ (W1.alloc (.cells #[.int .u8 2, .string ⟨#[]⟩, .slice none 0 0, .slice none 0 0] 38)).heap.size ∧ (W1.alloc (.cells #[.int .u8 2, .string ⟨#[]⟩, .slice none 0 0, .slice none 0 0] 38)).heap.size = W1.heap.size + 1 ∧ g < (W1.alloc (.cells #[.int .u8 2, .string ⟨#[]⟩, .slice none 0 0, .slice none 0 0] 38)).heap.size ∧ rb < (W1.alloc (.cells #[.int .u8 2, .string ⟨#[]⟩, .slice none 0 0, .slice none 0 0] 38)).heap.size ∧ (W1.alloc (.cells #[.int .u8 2, .string ⟨#[]⟩, .slice none 0 0, .slice none 0 0] 38)).cell? ⟨g, 1, none⟩ = some (.slice pn n cn) ∧ (W1.alloc (.cells #[.int .u8 2, .string ⟨#[]⟩, .slice none 0 0, .slice none 0 0] 38)).frozen? ⟨g, 1, none⟩ = false ∧ (W1.alloc (.cells #[.int .u8 2, .string ⟨#[]⟩, .slice none 0 0, .slice none 0 0] 38)).cell? ⟨rb, 0, none⟩ = some (.pointer (some ⟨g, 0, none⟩)) ∧ (W1.alloc (.cells #[.int .u8 2, .string ⟨#[]⟩, .slice none 0 0, .slice none 0 0] 38)).heap[W1.heap.size]? = some (.cells #[.int .u8 2, .string ⟨#[]⟩, .slice none 0 0, .slice none 0 0] 38 (0, 0))) :=
    ⟨by unfold maxLen; omega, by omega, by simp; omega, by simp, by simp; omega, by simp; omega, q1, more_frozen _ c1 f1, q2, alloc_new _ _⟩
  have HO : Hid ((W1.alloc (.cells #[.int .u8 2, .string ⟨#[]⟩, .slice none 0 0, .slice none 0 0] 38)).ownsRow (g + 1) 38 4 (.slice pn n cn) n (flat hs) ∧ (∀ u ∈ Hd.cells ⟨2, [], .slice none 0 0, .slice none 0 0⟩, u.oneCell' = true) ∧ some g ≠ (Value.slice pn n cn).ownBlock ∧ some rb ≠ (Value.slice pn n cn).ownBlock) := ⟨hown.alloc _, by simp [Hd.cells, Value.oneCell'], hneG, hneR⟩
  have HX : Hid (Nodes W1 (g + 1) (.slice pn n cn) hs ns ∧ ns.length = n ∧ Rd W1 g bs (.slice pn n cn) (o + 1) ∧ Tabs W1 ∧ Fr g W0 W1 ∧ Bx W0 rb 48 (.pointer (some ⟨g, 0, none⟩)) ∧ Fr g w W0) := ⟨n1, hnn, r1, t1, fr1, x0, fr0⟩
  clear hR hN hT n1 t1 r1 x1 x0 fr1 fr0 hl1 hown hneG hneR h hb0 b1
  go_enter_defers Tryd.func16, Tryd.ntmps16
  go_upto_region 6 with fail
  go_cut [] from 12 (fun wc => St wc g bs (ns ++ [⟨2, [], [], []⟩]) (o + 1) ∧ Fr g W0 wc)
  case first =>
    refine wp_noPanic ?_
    go_region_law (refine step_append_lies _ rfl (.tmp 34) (.tmp 37) 24 rfl (g + 1) 38 i0 (.agg #[.int .u8 0, .string ⟨#[]⟩, .slice none 0 0, .slice none 0 0]) 4 72 Tryd.underlying24 hi0 hz0 hz1 hz2 rfl (by decide) (.slice pn n cn) n (flat hs) rfl HO.out.1 ⟨W1.heap.size, 0, none⟩ 1 1 (Hd.cells ⟨2, [], .slice none 0 0, .slice none 0 0⟩) rfl rfl (World.news_of_block HP.out.2.2.2.2.2.2.2.2.2) HO.out.2.1 (by decide) HP.out.1 HP.out.2.1 HP.out.2.2.1 (W1.heap.size + 1) HP.out.2.2.2.1 ?_; intro g' cap' w5 o1 gr1 at1 lt1; have HGG : Hid (_ ∧ _) := ⟨o1, gr1⟩; have c1'' := (gr1.cell_far ⟨g, 1, none⟩ HP.out.2.2.2.2.1 HO.out.2.2.1).trans HP.out.2.2.2.2.2.2.1; have f1'' := (gr1.frozen_far ⟨g, 1, none⟩ HP.out.2.2.2.2.1 HO.out.2.2.1).trans HP.out.2.2.2.2.2.2.2.1; have e1'' := (gr1.cell_far ⟨rb, 0, none⟩ HP.out.2.2.2.2.2.1 HO.out.2.2.2).trans HP.out.2.2.2.2.2.2.2.2.1; clear o1 gr1 at1 lt1)
    all_goals (
      go_wp2_with fail
      go_meet
      have hpe := push_end HX.out.1 HX.out.2.1 HX.out.2.2.1 HX.out.2.2.2.1 hG 2 [] (W1.alloc (.cells #[.int .u8 2, .string ⟨#[]⟩, .slice none 0 0, .slice none 0 0] 38)).drew _ _ _ ((Below.refl W1.heap.size W1).alloc (Nat.le_refl _) _).drew HGG.out.1 HGG.out.2
      exact ⟨hpe.1, HX.out.2.2.2.2.1.trans hpe.2⟩)
  case rest =>
  obtain ⟨S2, F2⟩ := hcut
  have HW : Hid (Fr g w W0 ∧ Bx W0 rb 48 (.pointer (some ⟨g, 0, none⟩)) ∧ ns.length = n) := ⟨HX.out.2.2.2.2.2.2, HX.out.2.2.2.2.2.1, HX.out.2.1⟩
  clear HX HO HP q1 q2 hi0 hz0 hz1 hz2 c1 f1 e1 er co fo hW1 hW0
  have BX : ∀ W, Fr g W0 W → Bx W rb 48 (.pointer (some ⟨g, 0, none⟩)) := fun W hW => HW.out.2.1.same (hW.2 rb _ _ HW.out.2.1)
  have x2 := BX _ F2
  have e2 := x2.cell
  obtain ⟨nv2, hs2, r2, n2, t2⟩ := S2
  go_wp2_with fail
  go_at_call 26
  refine (tbb_any ⟨#[93]⟩ g bs nv2 (o + 1) _ r2).mono ?_
  rintro e w3 ⟨b3, (⟨ys, d1, rfl, r3⟩ | ⟨d1, rfl, r3⟩)⟩
  · -- nothing within
    have n3 := n2.but b3
    have t3 := t2.but r2 b3
    have F3 : Fr g W0 w3 := F2.trans (Fr.ofBut b3 r2)
    have x3 := BX _ F3
    have hyl := tk_len d1
    have hbl := bl_len bs
    go_wp2_with fail
    refine leaves_cons (f := 25) (args := #[.pointer (some ⟨rb, 0, none⟩)]) (by simp) (by simp [go_sem]) ?_
    refine (shut_any rb g ys nv2 o .returning w3 x3 r3 (by omega)).mono ?_
    rintro e u' w'' ⟨rfl, rfl, rfl⟩
    have S4 : St w3 g ys (ns ++ [⟨2, [], [], []⟩]) (o + 1) := ⟨nv2, hs2, r3, n3, t3⟩
    exact ⟨_, results_tmp rfl _ _ _, HW.out.1.trans (F3.trans (Fr.setOpen r3 _)), .inl ⟨[⟨2, [], [], []⟩], ys, by rw [HGR.out, show tk [93] (bl bs) = some ys from d1], rfl, S4.setOpen o, by simp at hyl; omega, by simp; omega⟩⟩
  have n3 := n2.but b3
  have t3 := t2.but r2 b3
  have F3 : Fr g W0 w3 := F2.trans (Fr.ofBut b3 r2)
  have hbl := bl_len bs
  obtain ⟨f', hf'⟩ : ∃ f', f = f' + 1 := ⟨f - 1, by omega⟩
  have P3 : PcSt_arr f g o n rb bs (bl bs) ns [] [] [] W0 w3 f' := by
    refine ⟨?_, by omega, by omega, hbl, ⟨nv2, hs2, r3, n3, t3⟩, F3, Nat.le_refl _, rfl, by simp; omega⟩
    rw [← HW.out.2.2, HGR.out, show tk [93] (bl bs) = none from d1, hf']
  clear HGR d1 n2 t2 r2 b3 r3 n3 t3 F2 F3 x2 e2
  go_wp2_with fail
  go_loopw [10, 11] (fun v10 _ wr => (v10 = .bool true ∧ ∃ ys names kids news f', PcSt_arr f g o n rb bs ys ns names kids news W0 wr f') ∨ (v10 = .bool false ∧ ∃ zs names kids news, PcEnd_arr f g o n bs zs ns names kids news W0 wr)) (fun v10 _ wr => moreN_arr v10 (restLen g wr))
  case atStart => exact .inl ⟨rfl, bl bs, [], [], [], f', P3⟩
  case round =>
    clear P3 hf'
    rcases hrel with ⟨rfl, ys, names, kids, news, f', P⟩ | ⟨rfl, zs, names, kids, news, P⟩
    · -- a piece
      have hrl : restLen g wr = ys.length := by obtain ⟨nv, hR⟩ := P.st.rd; exact restLen_eq hR
      have hnl := len_mid_arr ns ⟨2, [], names, kids⟩ news
      have htot := P.tot
      have HPC := HE f' P.less g ns.length ys (ns ++ ⟨2, [], names, kids⟩ :: news) ⟨2, [], names, kids⟩ (o + 1) wr P.st hG (by have := P.fuel; omega) (by have := P.len; omega) (by omega) P.tot (get_mid_arr _ _ _) (show kids.length ≤ 256 by have := P.kn; omega)
      rw [HW.out.2.2] at HPC
      go_wp2_with fail
      go_at_call 18
      refine HPC.mono ?_
      clear HPC
      rintro e w4 ⟨F4, h4⟩
      have F4' : Fr g W0 w4 := P.fr.trans F4
      have x4 := BX _ F4'
      have HAH : Hid (aheadS 2 names ys = .ok (names, ys)) := rfl
      have a2 : ys.length ≤ ys.length := Nat.le_refl _
      rcases h4 with ⟨new, zs, v1, rfl, st, hz, tot⟩ | ⟨k, v1, k1, k2, rfl, fl⟩
      · have hset := set_mid_arr ns ⟨2, [], names, kids⟩ ⟨2, [], names, kids ++ [(ns ++ (⟨2, [], names, kids⟩ : Nd) :: news).length]⟩ news new
        rw [HW.out.2.2] at hset
        try simp only at st tot
        rw [hset, hnl, HW.out.2.2] at st tot
        have hne := valS_ne v1
        have e4 := x4.cell
        obtain ⟨nv4, hs4, r4, n4, t4⟩ := st
        go_wp2_with fail
        go_at_call 26
        refine (tbb_any ⟨#[44]⟩ g zs nv4 (o + 1) w4 r4).mono ?_
        have hbz := bl_len zs
        have hnn2 := HW.out.2.2
        rintro e w5 ⟨b5, (⟨vs, d5, rfl, r5⟩ | ⟨d5, rfl, r5⟩)⟩
        · have n5 := n4.but b5
          have t5 := t4.but r4 b5
          have F5 : Fr g W0 w5 := F4'.trans (Fr.ofBut b5 r4)
          have hvl := tk_len d5
          simp at hvl
          go_wp2_with fail
          have hless := P.less
          have hfu := P.fuel
          have hle := P.len
          obtain ⟨f2, hf2⟩ : ∃ f2, f' = f2 + 1 := ⟨f' - 1, by omega⟩
          refine ⟨.inl ⟨rfl, vs, names, kids ++ [n + 1 + news.length], news ++ new, f2, ⟨?_, by omega, by omega, by omega, ⟨nv4, hs4, r5, n5, t5⟩, F5, by simp; have := P.kn; omega, P.nk, tot⟩⟩, ?_⟩
          · rw [P.eq, pcsS_succ, HAH.out]
            simp only
            rw [show valS f' (o + 1) (n + 1 + news.length) ys = .ok (new, zs) by rw [← v1, hnl, hnn2]]
            simp only
            rw [show tk [44] (bl zs) = some vs from d5, hf2]
          · show moreN_arr (.bool true) (restLen g w5) < moreN_arr (.bool true) (restLen g wr)
            unfold moreN_arr
            simp only
            rw [restLen_eq r5, hrl]
            omega
        · have n5 := n4.but b5
          have t5 := t4.but r4 b5
          have F5 : Fr g W0 w5 := F4'.trans (Fr.ofBut b5 r4)
          go_wp2_with fail
          have hle := P.len
          refine ⟨.inr ⟨rfl, bl zs, names, kids ++ [n + 1 + news.length], news ++ new, ⟨?_, by omega, ⟨nv4, hs4, r5, n5, t5⟩, F5, tot⟩⟩, ?_⟩
          · rw [P.eq, pcsS_succ, HAH.out]
            simp only
            rw [show valS f' (o + 1) (n + 1 + news.length) ys = .ok (new, zs) by rw [← v1, hnl, hnn2]]
            simp only
            rw [show tk [44] (bl zs) = none from d5]
            rfl
          · show moreN_arr (.bool false) (restLen g w5) < moreN_arr (.bool true) (restLen g wr)
            unfold moreN_arr
            simp
      · have HQ : Hid (grpS f o ns.length 2 93 bs = .error k) := by
          show _ = _
          rw [HW.out.2.2, P.eq, pcsS_succ, HAH.out]
          simp only
          rw [show valS f' (o + 1) (n + 1 + news.length) ys = .error k by rw [← v1, hnl, HW.out.2.2]]
        obtain ⟨bs', nv', rd'⟩ := fl
        have k0 : ((k : Int) != 0) = true := by simp; omega
        go_wp2_with fail
        refine leaves_cons (f := 25) (args := #[.pointer (some ⟨rb, 0, none⟩)]) (by simp) (by simp [go_sem]) ?_
        refine (shut_any rb g bs' nv' o .returning w4 x4 rd' (by omega)).mono ?_
        rintro e u' w'' ⟨rfl, rfl, rfl⟩
        exact ⟨_, results_tmp rfl _ _ _, HW.out.1.trans (F4'.trans (Fr.setOpen rd' _)), .inr ⟨k, HQ.out, k1, k2, rfl, bs', nv', rd'.setOpen o⟩⟩
    · -- behind the last piece
      have x4 := BX _ P.fr
      have e4 := x4.cell
      obtain ⟨nv4, hs4, r4, n4, t4⟩ := P.st
      go_wp2_with fail
      go_at_call 15
      refine (take_any ⟨#[93]⟩ g zs nv4 (o + 1) wr r4).mono ?_
      rintro e w5 ⟨b5, (⟨vs, d5, rfl, r5⟩ | ⟨d5, rfl, r5⟩)⟩
      · have n5 := n4.but b5
        have t5 := t4.but r4 b5
        have F5 : Fr g W0 w5 := P.fr.trans (Fr.ofBut b5 r4)
        have x5 := BX _ F5
        have hvl := tk_len d5
        have hle := P.len
        go_wp2_with fail
        refine leaves_cons (f := 25) (args := #[.pointer (some ⟨rb, 0, none⟩)]) (by simp) (by simp [go_sem]) ?_
        refine (shut_any rb g vs nv4 o .returning w5 x5 r5 (by omega)).mono ?_
        rintro e u' w'' ⟨rfl, rfl, rfl⟩
        have S6 : St w5 g vs (ns ++ ⟨2, [], names, kids⟩ :: news) (o + 1) := ⟨nv4, hs4, r5, n5, t5⟩
        exact ⟨_, results_tmp rfl _ _ _, HW.out.1.trans (F5.trans (Fr.setOpen r5 _)), .inl ⟨⟨2, [], names, kids⟩ :: news, vs, by rw [HW.out.2.2, P.eq, show tk [93] zs = some vs from d5], rfl, S6.setOpen o, by omega, P.tot⟩⟩
      · have F5 : Fr g W0 w5 := P.fr.trans (Fr.ofBut b5 r4)
        have x5 := BX _ F5
        go_wp2_with fail
        refine leaves_cons (f := 25) (args := #[.pointer (some ⟨rb, 0, none⟩)]) (by simp) (by simp [go_sem]) ?_
        refine (shut_any rb g zs nv4 o .returning w5 x5 r5 (by omega)).mono ?_
        rintro e u' w'' ⟨rfl, rfl, rfl⟩
        exact ⟨_, results_tmp rfl _ _ _, HW.out.1.trans (F5.trans (Fr.setOpen r5 _)), .inr ⟨11, by rw [HW.out.2.2, P.eq, show tk [93] zs = none from d5], by decide, by decide, rfl, zs, nv4, r5.setOpen o⟩⟩
end Go.Proofs.YtbobgebhdafciabDoor
