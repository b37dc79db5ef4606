import Derived.Test.YtcgikjkpbpjgdaaGreatK31
import Derived.Test.YtcgikjkpbpjgdaaGreatK24
import Derived.Test.YtcgikjkpbpjgdaaGreatK10
import Derived.Test.YtcgikjkpbpjgdaaGreatK28
set_option maxRecDepth 100000
set_option maxHeartbeats 40000000
set_option linter.unusedVariables false
set_option linter.unusedSimpArgs false
namespace Go.Proofs.YtcgikjkpbpjgdaaGreat
open Go.Shelf Go.RowKit
theorem sizeKey:(Tryz.prog.info? 43).map (·.size)=some 7:=by kernel_rfl
theorem ret_key {fn:Func} {p:Tmp} (h:fn.results=#[.cell p 43]) (tmps:Array Value) (w:World) (g:Nat) (c0 c1 c2 c3 c4 c5 c6:Value) (hp:tmps.getD p undef=.pointer (some ⟨g,0,none⟩)) (hg:w.heap[g]?=some (.cells #[c0,c1,c2,c3,c4,c5,c6] 43 (0,0))):
  (results fn tmps).run Tryz.prog w=.ok (.agg #[c0,c1,c2,c3,c4,c5,c6]) w:=
 results_cell_row h tmps w g 43 _ (0,0) _ hp hg Tryz.underlying43 rfl sizeKey
theorem num_kept {w w':World} {ao:Option Addr} {l c:Nat} {xs:List Int} {g:Nat} (h:NumIn .u64 B64 w ao l c xs) (hne:∀off x,w.cell? ⟨g,off,none⟩≠some (.int .u64 x)) (hk:∀j,j≠g→w'.heap[j]?=w.heap[j]?) (hs:w.heap.size≤w'.heap.size):NumIn .u64 B64 w' ao l c xs:=by
 refine⟨⟨h.lies.1,?_⟩,h.lc,h.cm,h.nn,h.dg,h.sm⟩;rcases h.lies.2 with h0|⟨b,off,e,hb,hc⟩
 ·exact .inl h0
 ·rcases Nat.eq_zero_or_pos l with h0|h0
  ·exact .inl h0
  ·have hbg:b≠g:=by
    rintro rfl;have:=hc 0 h0;exact hne _ _ this
   refine .inr ⟨b,off,e,Nat.lt_of_lt_of_le hb hs,fun i hi => ?_⟩;rw[←hc i hi];unfold World.cell?;simp only[hk b hbg]
theorem key_ne {w:World} {g:Nat} {n1 n2:Int} {v1 v2:Option Addr} {b:Bool} {l1 c1 l2 c2 l3 c3 l4 c4:Nat} {v3 v4:Option Addr} (h:w.heap[g]?=some (.cells #[.int .u8 n1,.int .i64 n2,.slice v1 l1 c1,.slice v2 l2 c2,.bool b,.slice v3 l3 c3,.slice v4 l4 c4] 43 (0,0))) (off:Nat) (x:Int):w.cell? ⟨g,off,none⟩≠some (.int .u64 x):=by
 rw[cell_of_row _ _ _ _ _ _ h];match off with
 | 0=>simp
 | 1=>simp
 | 2=>simp
 | 3=>simp
 | 4=>simp
 | 5=>simp
 | 6=>simp
 | n+7=>simp
theorem rsa_small (i:Int):0<rsaN i∧rsaN i<B64^8∧0<rsaE i∧rsaE i<B64^8:=by unfold rsaN rsaE;split<;>decide +kernel
set_option maxRecDepth 100000
theorem sha_bytes (bs:List Int):Dg 256 (shaS bs):=by intro x hx;unfold shaS spreadS at hx;obtain⟨i,_,rfl⟩:=List.mem_map.1 hx;omega
end Go.Proofs.YtcgikjkpbpjgdaaGreat
