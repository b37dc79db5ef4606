import Derived.Test.YtcgikjkpbpjgdabGreatK12
import Derived.Test.YtcgikjkpbpjgdabGreatK02
set_option maxRecDepth 100000
set_option maxHeartbeats 40000000
set_option linter.unusedVariables false
set_option linter.unusedSimpArgs false
namespace Go.Proofs.YtcgikjkpbpjgdabGreat
open Go.RowKit Go.Shelf
theorem dig_s31 (N:Int) (hN:S31 N) (n:Nat) (bs:List Int) (hl:bs.length=n) (hd:Dg 256 bs):S31 (digZ N n bs):=by
 rw[digZ_eq N n bs hl hd];obtain⟨V,hV⟩:∃V,val 256 bs.reverse=V:=⟨_,rfl⟩
 have hV0:0≤V:=by rw[←hV];exact val_nonneg (by decide) (fun x hx=>hd x (List.mem_reverse.1 hx))
 have hVl:V<2^(8*n):=by have:=val_lt (B:=256) (by decide) (xs:=bs.reverse) (fun x hx=>hd x (List.mem_reverse.1 hx));rw[hV,List.length_reverse,hl]at this;rw[Int.pow_mul];exact this
 rw[hV];obtain⟨m,hm⟩:∃m,blen N.toNat=m:=⟨_,rfl⟩
 have hm31:m≤31:=by rw[←hm];exact blen_le _ _ (by have:=hN.2;have:=hN.1;omega)
 rw[hm];refine⟨Int.ediv_nonneg hV0 (Int.le_of_lt (Int.pow_pos (by decide))),?_⟩;have h1:V/2^(8*n-m)<2^m:=by refine Int.ediv_lt_of_lt_mul (Int.pow_pos (by decide)) ?_;rw[←Int.pow_add];have h2:=pow_mono (B:=(2:Int)) (by decide) (show 8*n≤m+(8*n-m) by omega);omega
 have h2:=pow_mono (B:=(2:Int)) (by decide) (show m≤31 by omega);have h3:(2:Int)^31=2147483648:=by decide
 omega
theorem bstep {w W W':World} (h:Below w.heap.size w W) (h':Below W.heap.size W W'):Below w.heap.size w W':=h.trans (h'.mono h.size)
theorem balloc (W:World) (o:Obj):Below W.heap.size W (W.alloc o):=(Below.refl _ _).alloc (Nat.le_refl _) o
end Go.Proofs.YtcgikjkpbpjgdabGreat
