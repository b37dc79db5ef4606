import Derived.Test.YticopomchoahnaaK21
/-
  The document's Sum: the 64 rounds of a block, a theorem of their own.
-/
namespace Go.Proofs.Yticopomchoahnaa
open Go.RowKit
set_option linter.unusedVariables false
set_option linter.unusedSimpArgs false
attribute [local go_sem ↓] keep_l32 keep_s32

set_option maxRecDepth 100000 in
set_option maxHeartbeats 16000000 in
/-- The 64 rounds. -/
theorem rounds_wp (B : Code) (hB : (loopsOf (Try.f31.body.getD .skip))[5]? = some B) (Q : Exit → Act → World → Prop)
    (x0 x1 x2 x3 x5 x6 x7 x8 x10 x11 x12 x13 x16 x17 x18 x19 x20 x21 x22 x23 x24 x25 x26 x27 x28 x29 x30 x31 x32 x33 x34 x35 x36 x37 x38 x39 x40 x41 x42 x43 x44 x45 x46 x47 x48 x49 x50 x51 x52 x53 x54 x55 x56 x57 x58 x59 x60 x61 x62 x63 x64 x65 x66 x67 x68 x69 x70 x71 x72 x73 x74 x75 x76 x77 x78 x79 x80 x81 x82 x83 x84 x85 x86 x87 x88 x89 x90 x91 x92 x93 x94 x95 x96 x97 x98 x99 x100 x101 x102 x103 x104 x105 x106 x107 x108 x109 x110 x111 x112 x113 x114 x115 x116 x117 x118 x119 x120 x121 x122 x123 x124 x125 x126 x127 x128 x129 x130 x131 x132 x133 x134 x135 x136 x137 x138 x139 x140 x141 x142 x143 x144 x145 x146 x147 x148 x149 x150 x151 x152 x153 x154 x155 x156 x157 x158 x159 x160 x161 x162 x163 x164 x165 x166 x167 x168 x169 x170 x171 x172 x173 x174 x175 x176 x177 x178 x179 x180 x181 x182 x183 x184 x185 x186 x187 x188 x189 x190 x191 x192 x193 x194 x195 x196 x197 x198 x199 x200 x201 x202 x203 x204 x205 x206 x207 x208 x209 x210 x211 x212 x213 x214 x215 x216 x217 x218 x219 x220 x221 x222 x223 x224 x225 x226 x227 x228 x229 x230 x231 x232 x233 x234 x235 x236 x237 x238 x239 x240 x241 x242 x243 x244 x245 x246 x247 x248 x249 x250 x251 x252 x253 x254 x255 x256 x257 x258 x259 x260 x261 x262 x263 x264 x265 x266 x267 x268 x269 x270 x271 x272 x273 x274 x275 x276 x277 x278 x279 x280 x281 x282 x283 x284 x285 x286 x287 x288 x289 x290 x291 x292 x293 x294 x295 x296 x297 : Value) (gh ch gk ck gw gv0 cv0 : Nat) (wV : World) (hs W : List Int)
    (HV0 : Hid (OwnAt 137 .u32 wV gv0 cv0 hs ∧ OwnAt 137 .u32 wV gh ch hs ∧ OwnAt 137 .u32 wV gk ck KS ∧ Row 137 .u32 wV gw W ∧ gh < gv0 ∧ hs.length = 8)) (HWS : Hid (W.length = 64))
    (hQ : Hid (∀ (gv cv : Nat) (y15 y16 y17 y150 y151 y152 y153 y154 y155 y156 y157 y158 y159 y160 y161 y162 y163 y164 y165 y166 y167 y168 y169 y170 y171 y172 y173 y174 y175 y176 y177 y178 y179 y180 y181 y182 y183 y184 y185 y186 y187 y188 y189 y190 y191 y192 y193 y194 y195 y196 y197 y198 y199 y200 y201 y202 y203 y204 y205 y206 y207 y208 y209 y210 y211 y212 y213 y214 y215 y216 y217 y218 y219 y220 y221 y222 y223 y224 y225 y226 y227 y228 y229 y230 y231 y232 y233 y234 y235 y236 y237 y238 y239 y240 y241 y242 y243 y244 y245 y246 y247 y248 y249 y250 y251 y252 y253 y254 y255 y256 y257 y258 y259 y260 y261 y262 y263 : Value) (wr : World), OwnAt 137 .u32 wr gv cv (lst (runS KS W (s8 hs) 64)) → Below wV.heap.size wV wr → gh < gv → Q (Exit.exit 10) { tmps := List.toArray (x0 :: x1 :: x2 :: x3 :: Value.slice (some ⟨gk, 0, none⟩) 64 ck :: x5 :: x6 :: x7 :: x8 :: Value.slice (some ⟨gw, 0, none⟩) 64 64 :: x10 :: x11 :: x12 :: x13 :: Value.slice (some ⟨gv, 0, none⟩) 8 cv :: y15 :: y16 :: y17 :: x18 :: x19 :: x20 :: x21 :: x22 :: x23 :: x24 :: x25 :: x26 :: x27 :: x28 :: x29 :: x30 :: x31 :: x32 :: x33 :: x34 :: x35 :: x36 :: x37 :: x38 :: x39 :: x40 :: x41 :: x42 :: x43 :: x44 :: x45 :: x46 :: x47 :: x48 :: x49 :: x50 :: x51 :: x52 :: x53 :: x54 :: x55 :: x56 :: x57 :: x58 :: x59 :: x60 :: x61 :: x62 :: x63 :: x64 :: x65 :: x66 :: x67 :: x68 :: x69 :: x70 :: x71 :: x72 :: x73 :: x74 :: x75 :: x76 :: x77 :: x78 :: x79 :: x80 :: x81 :: x82 :: x83 :: x84 :: x85 :: x86 :: x87 :: x88 :: x89 :: x90 :: x91 :: x92 :: x93 :: x94 :: x95 :: x96 :: x97 :: x98 :: x99 :: x100 :: x101 :: x102 :: x103 :: x104 :: x105 :: x106 :: x107 :: x108 :: x109 :: x110 :: x111 :: x112 :: x113 :: x114 :: x115 :: x116 :: x117 :: x118 :: x119 :: x120 :: x121 :: x122 :: x123 :: x124 :: x125 :: x126 :: x127 :: x128 :: x129 :: x130 :: x131 :: x132 :: x133 :: x134 :: x135 :: x136 :: x137 :: x138 :: x139 :: x140 :: x141 :: x142 :: x143 :: x144 :: x145 :: x146 :: x147 :: x148 :: x149 :: y150 :: y151 :: y152 :: y153 :: y154 :: y155 :: y156 :: y157 :: y158 :: y159 :: y160 :: y161 :: y162 :: y163 :: y164 :: y165 :: y166 :: y167 :: y168 :: y169 :: y170 :: y171 :: y172 :: y173 :: y174 :: y175 :: y176 :: y177 :: y178 :: y179 :: y180 :: y181 :: y182 :: y183 :: y184 :: y185 :: y186 :: y187 :: y188 :: y189 :: y190 :: y191 :: y192 :: y193 :: y194 :: y195 :: y196 :: y197 :: y198 :: y199 :: y200 :: y201 :: y202 :: y203 :: y204 :: y205 :: y206 :: y207 :: y208 :: y209 :: y210 :: y211 :: y212 :: y213 :: y214 :: y215 :: y216 :: y217 :: y218 :: y219 :: y220 :: y221 :: y222 :: y223 :: y224 :: y225 :: y226 :: y227 :: y228 :: y229 :: y230 :: y231 :: y232 :: y233 :: y234 :: y235 :: y236 :: y237 :: y238 :: y239 :: y240 :: y241 :: y242 :: y243 :: y244 :: y245 :: y246 :: y247 :: y248 :: y249 :: y250 :: y251 :: y252 :: y253 :: y254 :: y255 :: y256 :: y257 :: y258 :: y259 :: y260 :: y261 :: y262 :: y263 :: x264 :: x265 :: x266 :: x267 :: x268 :: x269 :: x270 :: x271 :: x272 :: x273 :: x274 :: x275 :: x276 :: x277 :: x278 :: x279 :: x280 :: x281 :: x282 :: x283 :: x284 :: x285 :: x286 :: x287 :: x288 :: x289 :: x290 :: x291 :: x292 :: x293 :: x294 :: x295 :: x296 :: x297 :: []), defers := [] } wr)) :
    Code.wp Try.prog (Code.loop B) Q { tmps := List.toArray (x0 :: x1 :: x2 :: x3 :: Value.slice (some ⟨gk, 0, none⟩) 64 ck :: x5 :: x6 :: x7 :: x8 :: Value.slice (some ⟨gw, 0, none⟩) 64 64 :: x10 :: x11 :: x12 :: x13 :: Value.slice (some ⟨gv0, 0, none⟩) 8 cv0 :: Value.int .i64 0 :: x16 :: x17 :: x18 :: x19 :: x20 :: x21 :: x22 :: x23 :: x24 :: x25 :: x26 :: x27 :: x28 :: x29 :: x30 :: x31 :: x32 :: x33 :: x34 :: x35 :: x36 :: x37 :: x38 :: x39 :: x40 :: x41 :: x42 :: x43 :: x44 :: x45 :: x46 :: x47 :: x48 :: x49 :: x50 :: x51 :: x52 :: x53 :: x54 :: x55 :: x56 :: x57 :: x58 :: x59 :: x60 :: x61 :: x62 :: x63 :: x64 :: x65 :: x66 :: x67 :: x68 :: x69 :: x70 :: x71 :: x72 :: x73 :: x74 :: x75 :: x76 :: x77 :: x78 :: x79 :: x80 :: x81 :: x82 :: x83 :: x84 :: x85 :: x86 :: x87 :: x88 :: x89 :: x90 :: x91 :: x92 :: x93 :: x94 :: x95 :: x96 :: x97 :: x98 :: x99 :: x100 :: x101 :: x102 :: x103 :: x104 :: x105 :: x106 :: x107 :: x108 :: x109 :: x110 :: x111 :: x112 :: x113 :: x114 :: x115 :: x116 :: x117 :: x118 :: x119 :: x120 :: x121 :: x122 :: x123 :: x124 :: x125 :: x126 :: x127 :: x128 :: x129 :: x130 :: x131 :: x132 :: x133 :: x134 :: x135 :: x136 :: x137 :: x138 :: x139 :: x140 :: x141 :: x142 :: x143 :: x144 :: x145 :: x146 :: x147 :: x148 :: x149 :: x150 :: x151 :: x152 :: x153 :: x154 :: x155 :: x156 :: x157 :: x158 :: x159 :: x160 :: x161 :: x162 :: x163 :: x164 :: x165 :: x166 :: x167 :: x168 :: x169 :: x170 :: x171 :: x172 :: x173 :: x174 :: x175 :: x176 :: x177 :: x178 :: x179 :: x180 :: x181 :: x182 :: x183 :: x184 :: x185 :: x186 :: x187 :: x188 :: x189 :: x190 :: x191 :: x192 :: x193 :: x194 :: x195 :: x196 :: x197 :: x198 :: x199 :: x200 :: x201 :: x202 :: x203 :: x204 :: x205 :: x206 :: x207 :: x208 :: x209 :: x210 :: x211 :: x212 :: x213 :: x214 :: x215 :: x216 :: x217 :: x218 :: x219 :: x220 :: x221 :: x222 :: x223 :: x224 :: x225 :: x226 :: x227 :: x228 :: x229 :: x230 :: x231 :: x232 :: x233 :: x234 :: x235 :: x236 :: x237 :: x238 :: x239 :: x240 :: x241 :: x242 :: x243 :: x244 :: x245 :: x246 :: x247 :: x248 :: x249 :: x250 :: x251 :: x252 :: x253 :: x254 :: x255 :: x256 :: x257 :: x258 :: x259 :: x260 :: x261 :: x262 :: x263 :: x264 :: x265 :: x266 :: x267 :: x268 :: x269 :: x270 :: x271 :: x272 :: x273 :: x274 :: x275 :: x276 :: x277 :: x278 :: x279 :: x280 :: x281 :: x282 :: x283 :: x284 :: x285 :: x286 :: x287 :: x288 :: x289 :: x290 :: x291 :: x292 :: x293 :: x294 :: x295 :: x296 :: x297 :: []), defers := [] } wV := by
  simp only [Try.f31, Option.getD_some, loopsOf, List.cons_append, List.nil_append, List.append_nil, List.getElem?_cons_succ, List.getElem?_cons_zero, Option.some.injEq] at hB
  subst hB
  go_loopw [14, 15] (fun vv vi wr => ∃ (i : Nat) (s : S8) (gv cv : Nat), i ≤ 64 ∧ vi = .int .i64 i ∧ vv = .slice (some ⟨gv, 0, none⟩) 8 cv ∧ OwnAt 137 .u32 wr gv cv (lst s) ∧ s = runS KS W (s8 hs) i ∧ Below wV.heap.size wV wr ∧ gh < gv) (fun _ vi _ => 64 - (intOf vi).toNat)
  case atStart => exact ⟨0, s8 hs, gv0, cv0, by omega, rfl, rfl, by rw [lst_s8 hs HV0.out.2.2.2.2.2]; exact HV0.out.1, rfl, Below.refl _ _, HV0.out.2.2.2.2.1⟩
  case round =>
    obtain ⟨i2, s, gv, cv, hi2, rfl, rfl, hov, hs2, hbW, hgv⟩ := hrel
    by_cases hlt2 : i2 < 64
    · clear hQ
      have cK : wr.cell? ⟨gk, i2, none⟩ = some (.int .u32 (KS.getD i2 0)) := (HV0.out.2.2.1.below hbW HV0.out.2.2.1.lt).cell i2 (show i2 < 64 from hlt2)
      have cW : wr.cell? ⟨gw, i2, none⟩ = some (.int .u32 (W.getD i2 0)) := (HV0.out.2.2.2.1.below hbW HV0.out.2.2.2.1.lt).cell i2 (by have := HWS.out; omega)
      have HN : Hid (runS KS W (s8 hs) (i2 + 1) = rnd s (KS.getD i2 0) (W.getD i2 0)) := by unfold Hid; rw [hs2]; rfl
      have HBW : Hid (Below wV.heap.size wV wr ∧ wV.heap.size ≤ wr.heap.size ∧ gh < wV.heap.size) := ⟨hbW, hbW.size, HV0.out.2.1.lt⟩
      clear hs2 hbW hgv
      generalize KS.getD i2 0 = kk at *
      generalize W.getD i2 0 = ww at *
      obtain ⟨xa, xb, xc, xd, xe, xf, xg, xh⟩ := s
      have c0 : wr.cell? ⟨gv, 0, none⟩ = some (.int .u32 xa) := hov.cell 0 (show 0 < 8 by decide)
      have c1 : wr.cell? ⟨gv, 1, none⟩ = some (.int .u32 xb) := hov.cell 1 (show 1 < 8 by decide)
      have c2 : wr.cell? ⟨gv, 2, none⟩ = some (.int .u32 xc) := hov.cell 2 (show 2 < 8 by decide)
      have c3 : wr.cell? ⟨gv, 3, none⟩ = some (.int .u32 xd) := hov.cell 3 (show 3 < 8 by decide)
      have c4 : wr.cell? ⟨gv, 4, none⟩ = some (.int .u32 xe) := hov.cell 4 (show 4 < 8 by decide)
      have c5 : wr.cell? ⟨gv, 5, none⟩ = some (.int .u32 xf) := hov.cell 5 (show 5 < 8 by decide)
      have c6 : wr.cell? ⟨gv, 6, none⟩ = some (.int .u32 xg) := hov.cell 6 (show 6 < 8 by decide)
      have c7 : wr.cell? ⟨gv, 7, none⟩ = some (.int .u32 xh) := hov.cell 7 (show 7 < 8 by decide)
      have T6 : ∀ w, Calls Try.prog 64 #[.int .u32 xe, .int .i64 6] w fun e w' => e = .returned (.int .u32 (rot xe 6)) ∧ Drew w w' := fun w => turn_any xe 6 w (by omega)
      have T11 : ∀ w, Calls Try.prog 64 #[.int .u32 xe, .int .i64 11] w fun e w' => e = .returned (.int .u32 (rot xe 11)) ∧ Drew w w' := fun w => turn_any xe 11 w (by omega)
      have T25 : ∀ w, Calls Try.prog 64 #[.int .u32 xe, .int .i64 25] w fun e w' => e = .returned (.int .u32 (rot xe 25)) ∧ Drew w w' := fun w => turn_any xe 25 w (by omega)
      have T2 : ∀ w, Calls Try.prog 64 #[.int .u32 xa, .int .i64 2] w fun e w' => e = .returned (.int .u32 (rot xa 2)) ∧ Drew w w' := fun w => turn_any xa 2 w (by omega)
      have T13 : ∀ w, Calls Try.prog 64 #[.int .u32 xa, .int .i64 13] w fun e w' => e = .returned (.int .u32 (rot xa 13)) ∧ Drew w w' := fun w => turn_any xa 13 w (by omega)
      have T22 : ∀ w, Calls Try.prog 64 #[.int .u32 xa, .int .i64 22] w fun e w' => e = .returned (.int .u32 (rot xa 22)) ∧ Drew w w' := fun w => turn_any xa 22 w (by omega)
      have hi2I : (i2 : Int) < 64 := by omega
      clear hov
      go_wp2
      go_quiet (first | (go_at_call_of 64 (Value.int .i64 6); exact Calls.quiet_of (T6 _)) | (go_at_call_of 64 (Value.int .i64 11); exact Calls.quiet_of (T11 _)) | (go_at_call_of 64 (Value.int .i64 25); exact Calls.quiet_of (T25 _)))
      go_wp2
      obtain ⟨wq, hq⟩ : ∃ wq, wr.drewN nq = wq := ⟨_, rfl⟩
      have hcq : ∀ a, wq.cell? a = wr.cell? a := fun a => by rw [← hq]; rfl
      have HBQ : Hid (Below wV.heap.size wV wq) := by unfold Hid; rw [← hq]; exact HBW.out.1.trans (Drew.below ⟨_, rfl⟩ _)
      rw [← hcq] at c0 c1 c2 c3 c4 c5 c6
      rw [hq]
      clear hq hcq c7 cK cW T6 T11 T25
      go_quiet (first | (go_at_call_of 64 (Value.int .i64 2); exact Calls.quiet_of (T2 _)) | (go_at_call_of 64 (Value.int .i64 13); exact Calls.quiet_of (T13 _)) | (go_at_call_of 64 (Value.int .i64 22); exact Calls.quiet_of (T22 _)))
      go_wp2
      obtain ⟨wp, hq⟩ : ∃ wp, wq.drewN nq = wp := ⟨_, rfl⟩
      have hcq : ∀ a, wp.cell? a = wq.cell? a := fun a => by rw [← hq]; rfl
      have HBP : Hid (Below wV.heap.size wV wp) := by unfold Hid; rw [← hq]; exact HBQ.out.trans (Drew.below ⟨_, rfl⟩ _)
      rw [← hcq] at c0 c1 c2 c3 c4 c5 c6
      rw [hq]
      clear hq hcq T2 T13 T22
      obtain ⟨o1, ho1⟩ : ∃ o1, (xh + bits .xor .u32 (bits .xor .u32 (rot xe 6) (rot xe 11)) (rot xe 25) + bits .xor .u32 (bits .and .u32 xe xf) (bits .and .u32 (bits .xor .u32 IntKind.u32.max xe) xg) + kk + ww) % 4294967296 = o1 := ⟨_, rfl⟩
      obtain ⟨o2, ho2⟩ : ∃ o2, (bits .xor .u32 (bits .xor .u32 (rot xa 2) (rot xa 13)) (rot xa 22) + bits .xor .u32 (bits .xor .u32 (bits .and .u32 xa xb) (bits .and .u32 xa xc)) (bits .and .u32 xb xc)) % 4294967296 = o2 := ⟨_, rfl⟩
      have HO : Hid ((o1 + o2) % 4294967296 = (rnd ⟨xa, xb, xc, xd, xe, xf, xg, xh⟩ kk ww).a ∧ (xd + o1) % 4294967296 = (rnd ⟨xa, xb, xc, xd, xe, xf, xg, xh⟩ kk ww).e) := by
        unfold Hid
        rw [← ho1, ← ho2]
        exact ⟨rnd_a xa xb xc xd xe xf xg xh kk ww, rnd_e xa xb xc xd xe xf xg xh kk ww⟩
      rw [ho1, ho2]
      clear ho1 ho2
      go_region_held3 (fun W => W.cell? ⟨gv, 0, none⟩ = some (.int .u32 xa) ∧ W.cell? ⟨gv, 1, none⟩ = some (.int .u32 xb) ∧ W.cell? ⟨gv, 2, none⟩ = some (.int .u32 xc) ∧ W.cell? ⟨gv, 3, none⟩ = some (.int .u32 xd) ∧ W.cell? ⟨gv, 4, none⟩ = some (.int .u32 xe) ∧ W.cell? ⟨gv, 5, none⟩ = some (.int .u32 xf) ∧ W.cell? ⟨gv, 6, none⟩ = some (.int .u32 xg)) (first | exact ⟨c0, c1, c2, c3, c4, c5, c6⟩ | exact ⟨cell_alloc _ c0, cell_alloc _ c1, cell_alloc _ c2, cell_alloc _ c3, cell_alloc _ c4, cell_alloc _ c5, cell_alloc _ c6⟩) (fail)
      rename_i hH
      clear hH
      obtain ⟨cs, hcs⟩ : ∃ cs : Array Value, #[Value.int .u32 (IntKind.u32.wrap (o1 + o2)), Value.int .u32 xa, Value.int .u32 xb, Value.int .u32 xc, Value.int .u32 (IntKind.u32.wrap (xd + o1)), Value.int .u32 xe, Value.int .u32 xf, Value.int .u32 xg] = cs := ⟨_, rfl⟩
      have HC : Hid (OwnAt 137 .u32 (wp.alloc (.cells cs 137)).drew wp.heap.size 8 (lst (rnd ⟨xa, xb, xc, xd, xe, xf, xg, xh⟩ kk ww)) ∧ Below wV.heap.size wV (wp.alloc (.cells cs 137)).drew ∧ gh < wp.heap.size) := by
        refine ⟨(ownAt_alloc 137 .u32 wp cs (lst (rnd ⟨xa, xb, xc, xd, xe, xf, xg, xh⟩ kk ww)) 8 ?_ rfl (by unfold maxLen; omega)).kept rfl, ?_, ?_⟩
        · rw [← hcs, IntKind.wrap_u32, IntKind.wrap_u32, HO.out.1, HO.out.2]; rfl
        · exact (HBP.out.trans ((below_alloc wp _).mono HBP.out.size)).drew
        · have := HBW.out; have := HBP.out.size; omega
      rw [hcs]
      generalize (wp.alloc (.cells cs 137)).drew = wZ at *
      clear hcs
      go_wp2
      go_roundw
      case rel => exact ⟨i2 + 1, _, _, 8, by omega, by go_num, rfl, HC.out.1, HN.out.symm, HC.out.2.1, HC.out.2.2⟩
      case measure => simp [intOf] <;> omega
    · have hge2 : ¬ ((i2 : Int) < 64) := by omega
      have HX : Hid (OwnAt 137 .u32 wr gv cv (lst (runS KS W (s8 hs) 64)) ∧ Below wV.heap.size wV wr ∧ gh < gv) := ⟨by rw [show (64 : Nat) = i2 by omega, ← hs2]; exact hov, hbW, hgv⟩
      clear hov hs2 hbW hgv
      go_wp2
      exact hQ.out gv cv _ _ _ _ _ _ _ _ _ _ _ _ _ _ _ _ _ _ _ _ _ _ _ _ _ _ _ _ _ _ _ _ _ _ _ _ _ _ _ _ _ _ _ _ _ _ _ _ _ _ _ _ _ _ _ _ _ _ _ _ _ _ _ _ _ _ _ _ _ _ _ _ _ _ _ _ _ _ _ _ _ _ _ _ _ _ _ _ _ _ _ _ _ _ _ _ _ _ _ _ _ _ _ _ _ _ _ _ _ _ _ _ _ _ _ _ _ wr HX.out.1 HX.out.2.1 HX.out.2.2
end Go.Proofs.Yticopomchoahnaa
