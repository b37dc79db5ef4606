import Derived.WalkKit
import Derived.Test.YtkhnnhbmchnajaaGreatRows
import Derived.WalkSpells
import Derived.WalkLawsBesides
import Derived.Lib.Walk
import Derived.Lib.BitFns
import Derived.Lib.Mul64
import Derived.Laws.Bits64b
import Derived.Laws.Externs
import Derived.Deep.Light
import Derived.Shelf.Spec.BitsCarry
import Derived.Laws.CopyOwn
import Derived.BigQuiet
import Derived.Deep.QuietTactic
import Derived.Deep.RegionWith
import Derived.Deep.RegionHeld3
import Derived.Deep.DrawnRows
set_option maxRecDepth 100000
set_option maxHeartbeats 40000000
set_option linter.unusedVariables false
set_option linter.unusedSimpArgs false
namespace Go.Proofs.YtkhnnhbmchnajaaGreat
section
open Go.RowKit
def val (B:Int):List Int→Int
 | []=>0
 | x::xs=>x+B*val B xs
def top:List Int→Nat
 | []=>0
 | x::xs=>if top xs=0 then (if x=0 then 0 else 1) else top xs+1
def Dg (B:Int)(xs:List Int):Prop:=∀x∈xs,0≤x∧x<B
theorem top_le(xs:List Int):top xs≤xs.length:=by
 induction xs with
 | nil=>simp[top]
 | cons x xs ih=>simp only[top,List.length_cons];split<;>(try split)<;>omega
theorem top_above:∀(xs:List Int) (j:Nat),top xs≤j→xs.getD j 0=0
 | [],j,_=>by simp
 | x :: xs, j, h => by
  simp only[top]at h;split at h
  ·rename_i h0;split at h
   ·rename_i hx
    cases j with
    | zero=>simpa using hx
    | succ j=>simpa using top_above xs j (by omega)
   ·cases j with
    | zero=>omega
    | succ j=>simpa using top_above xs j (by omega)
  ·cases j with
   | zero=>omega
   | succ j=>simpa using top_above xs j (by omega)
theorem top_hit:∀(xs:List Int) (h:0<top xs),xs.getD (top xs-1) 0≠0
 | [],h=>by simp[top]at h
 | x :: xs, h => by
  simp only[top]at h ⊢;split
  ·rename_i h0;rw[if_pos h0]at h;split
   ·rename_i hx;rw[if_pos hx]at h;omega
   ·simpa
  ·rename_i h0;have:=top_hit xs (by omega);obtain⟨m,hm⟩:∃m,top xs=m+1:=⟨top xs-1,by omega⟩
   rw[hm]at this ⊢;simpa using this
theorem top_eq(xs:List Int)(n:Nat)(h1:∀j,n≤j→j<xs.length→xs.getD j 0=0)(h2:n=0∨xs.getD (n-1) 0≠0):top xs=n:=by
 rcases Nat.lt_trichotomy (top xs) n with h|h|h
 ·rcases h2 with h2|h2
  ·omega
  ·exact absurd (top_above xs (n-1) (by omega)) h2
 ·exact h
 ·have hl:=top_le xs;exact absurd (h1 (top xs-1) (by omega) (by omega)) (top_hit xs (by omega))
theorem val_nil(B:Int):val B []=0:=rfl
theorem val_cons(B x:Int)(xs:List Int):val B (x::xs)=x+B*val B xs:=rfl
theorem val_append(B:Int)(xs ys:List Int):val B (xs++ys)=val B xs+B^xs.length*val B ys:=by
 induction xs with
 | nil=>simp[val]
 | cons x xs ih=>simp only[List.cons_append,val,ih,List.length_cons,Int.pow_succ];grind
theorem val_zeros(B:Int):∀(xs:List Int),(∀j,xs.getD j 0=0)→val B xs=0
 | [],_=>rfl
 | x::xs,h=>by
  have h0:=h 0;simp at h0;rw[val,h0,val_zeros B xs (fun j=>by simpa using h (j+1))];simp
theorem val_replicate(B:Int)(n:Nat):val B (List.replicate n 0)=0:=val_zeros B _ (fun j=>by simp[List.getD,List.getElem?_replicate];split<;>rfl)
theorem val_take_top(B:Int)(xs:List Int):val B (xs.take (top xs))=val B xs:=by
 have h:val B (xs.drop (top xs))=0:=val_zeros B _ (fun j=>by have:=top_above xs (top xs+j) (by omega);simpa [List.getD,List.getElem?_drop] using this)
 have h2:=val_append B (xs.take (top xs)) (xs.drop (top xs));rw[List.take_append_drop,h]at h2;rw[h2];simp
theorem top_take_top(xs:List Int):top (xs.take (top xs))=(xs.take (top xs)).length:=by
 have hl:=top_le xs;have hlen:(xs.take (top xs)).length=top xs:=by simp;omega
 rw[hlen];refine top_eq _ _ (fun j h1 h2=>by omega) ?_;by_cases h:top xs=0
 ·exact .inl h
 ·right;have:=top_hit xs (by omega);simp only[List.getD,List.getElem?_take]at this ⊢;rw[if_pos (by omega)];exact this
theorem Dg.nil(B:Int):Dg B []:=fun x h=>by simp at h
theorem Dg.cons{B x:Int}{xs:List Int}(h:0≤x∧x<B)(t:Dg B xs):Dg B (x::xs):=fun y hy=>by
 rcases List.mem_cons.1 hy with rfl|hy
 ·exact h
 ·exact t y hy
theorem Dg.head{B x:Int}{xs:List Int}(h:Dg B (x::xs)):0≤x∧x<B:=h x (by simp)
theorem Dg.tail{B x:Int}{xs:List Int}(h:Dg B (x::xs)):Dg B xs:=fun y hy=>h y (by simp[hy])
theorem Dg.append{B:Int}{xs ys:List Int}(h:Dg B xs)(k:Dg B ys):Dg B (xs++ys):=fun y hy=>by
 rcases List.mem_append.1 hy with hy|hy
 ·exact h y hy
 ·exact k y hy
theorem Dg.take{B:Int}{xs:List Int}(h:Dg B xs)(n:Nat):Dg B (xs.take n):=fun y hy=>h y (List.mem_of_mem_take hy)
theorem Dg.drop{B:Int}{xs:List Int}(h:Dg B xs)(n:Nat):Dg B (xs.drop n):=fun y hy=>h y (List.mem_of_mem_drop hy)
theorem Dg.set{B:Int}{xs:List Int}(h:Dg B xs)(n:Nat){y:Int}(hy:0≤y∧y<B):Dg B (xs.set n y):=fun z hz=>by
 rcases List.mem_or_eq_of_mem_set hz with hz|rfl
 ·exact h z hz
 ·exact hy
theorem Dg.zeros{B:Int}(hB:0<B)(n:Nat):Dg B (List.replicate n 0):=fun y hy=>by rw[List.eq_of_mem_replicate hy];omega
theorem Dg.getD{B:Int}{xs:List Int}(hB:0<B)(h:Dg B xs)(i:Nat):0≤xs.getD i 0∧xs.getD i 0<B:=by
 by_cases hi:i<xs.length
 ·have:xs.getD i 0=xs[i]:=by simp[List.getD,hi]
  rw[this];exact h _ (List.getElem_mem hi)
 ·have:xs.getD i 0=0:=by simp[List.getD,List.getElem?_eq_none (by omega:xs.length≤i)]
  rw[this];omega
theorem val_nonneg{B:Int}(hB:0<B):∀ {xs:List Int},Dg B xs→0≤val B xs
 | [],_=>by simp[val]
 | x::xs,h=>by
  have h1:=h.head;have h2:=val_nonneg hB h.tail;have h3:0≤B*val B xs:=Int.mul_nonneg (by omega) h2;rw[val];omega
theorem val_lt{B:Int}(hB:0<B):∀ {xs:List Int},Dg B xs→val B xs<B^xs.length
 | [],_=>by simp[val]
 | x::xs,h=>by
  have h1:=h.head;have h2:=val_lt hB h.tail;have h3:B*(val B xs+1)≤B*B^xs.length:=Int.mul_le_mul_of_nonneg_left (by omega) (by omega);rw[val,List.length_cons,Int.pow_succ,Int.mul_comm (B^xs.length) B];rw[Int.mul_add]at h3;omega
theorem val_inj{B:Int}(hB:0<B):∀ {xs ys:List Int},xs.length=ys.length→Dg B xs→Dg B ys→val B xs=val B ys→xs=ys
 | [],[],_,_,_,_=>rfl
 | [],y::ys,h,_,_,_=>by simp at h
 | x::xs,[],h,_,_,_=>by simp at h
 | x :: xs, y :: ys, hl, hx, hy, hv => by
  rw[val,val]at hv;have h1:=hx.head;have h2:=hy.head;have e1:x=y:=by
   have a:(x+B*val B xs)%B=x:=by rw[Int.add_mul_emod_self_left];exact Int.emod_eq_of_lt h1.1 h1.2
   have b:(y+B*val B ys)%B=y:=by rw[Int.add_mul_emod_self_left];exact Int.emod_eq_of_lt h2.1 h2.2
   rw[←a,hv,b]
  have e2:val B xs=val B ys:=by
   have:B*val B xs=B*val B ys:=by omega
   exact Int.eq_of_mul_eq_mul_left (by omega) this
  rw[e1,val_inj hB (by simpa using hl) hx.tail hy.tail e2]
theorem val_ge{B:Int}(hB:0<B){xs:List Int}(hd:Dg B xs)(n:Nat)(h:top xs=n+1):B^n≤val B xs:=by
 have h0:=val_take_top B xs;have hl:=top_le xs;have ht:=top_hit xs (by omega);rw[h]at h0 ht;have e:xs.take (n+1)=xs.take n++[xs.getD n 0]:=by
  rw[List.take_succ_eq_append_getElem (by omega)];congr 2
  simp[List.getD,List.getElem?_eq_getElem (show n<xs.length by omega)]
 rw[e,val_append]at h0;have hn:(xs.take n).length=n:=by simp;omega
 have hg:=hd.getD hB n;have hv:=val_nonneg hB (hd.take n);rw[←h0,hn];simp only[Nat.add_sub_cancel]at ht;have hp:0<B^n:=Int.pow_pos hB;have:B^n*1≤B^n*val B [xs.getD n 0]:=Int.mul_le_mul_of_nonneg_left (by simp only[val];omega) (by omega);omega
theorem pow_mono{B:Int}(hB:1≤B){m n:Nat}(h:m≤n):B^m≤B^n:=by obtain⟨k,rfl⟩:=Nat.le.dest h;rw[Int.pow_add];have h1:0<B^m:=Int.pow_pos (by omega);have h2:0<B^k:=Int.pow_pos (by omega);have:=Int.mul_le_mul_of_nonneg_left (show 1≤B^k by omega) (show 0≤B^m by omega);omega
theorem top_mono{B:Int}(hB:1<B){xs ys:List Int}(hx:Dg B xs)(hy:Dg B ys)(h:val B xs≤val B ys):top xs≤top ys:=by
 by_cases h1:top xs≤top ys
 ·exact h1
 ·exfalso;obtain⟨n,hn⟩:∃n,top xs=n+1:=⟨top xs-1,by omega⟩
  have a:=val_ge (by omega) hx n hn;have b:=val_lt (by omega) (hy.take (top ys));rw[val_take_top]at b;have hl:=top_le ys;have c:(ys.take (top ys)).length=top ys:=by simp;omega
  rw[c]at b;have d:=pow_mono (B:=B) (by omega) (show top ys≤n by omega);omega
def Canon(xs:List Int):Prop:=top xs=xs.length
theorem Canon.nil:Canon []:=rfl
theorem canon_take_top(xs:List Int):Canon (xs.take (top xs)):=top_take_top xs
theorem canon_inj{B:Int}(hB:1<B){xs ys:List Int}(hx:Dg B xs)(hy:Dg B ys)(cx:Canon xs)(cy:Canon ys)(h:val B xs=val B ys):xs=ys:=by have a:=top_mono hB hx hy (by omega);have b:=top_mono hB hy hx (by omega);unfold Canon at cx cy;exact val_inj (by omega) (by omega) hx hy h
def Lies (k:IntKind)(w:World)(ao:Option Addr)(len:Nat)(xs:List Int):Prop:=
 xs.length=len∧(len=0∨∃b off,ao=some ⟨b,off,none⟩∧b<w.heap.size∧∀i,i<len→w.cell? ⟨b,off+i,none⟩=some (.int k (xs.getD i 0)))
theorem Lies.len{k:IntKind}{w:World}{ao:Option Addr}{len:Nat}{xs:List Int}(h:Lies k w ao len xs):xs.length=len:=h.1
theorem Lies.at{k:IntKind}{w:World}{ao:Option Addr}{len:Nat}{xs:List Int}(h:Lies k w ao len xs)(hl:0<len):
  ∃b off,ao=some ⟨b,off,none⟩∧b<w.heap.size∧∀i,i<len→w.cell? ⟨b,off+i,none⟩=some (.int k (xs.getD i 0)):=by
 rcases h.2 with h|h
 ·omega
 ·exact h
theorem Lies.below{k:IntKind}{w w':World}{ao:Option Addr}{len:Nat}{xs:List Int}(h:Lies k w ao len xs){B:Nat}(hb:Below B w w')(hB:∀b off s,ao=some ⟨b,off,s⟩→b<w.heap.size→b<B):Lies k w' ao len xs:=by
 refine⟨h.1,?_⟩;rcases h.2 with h0|⟨b,off,e,hlt,hc⟩
 ·exact .inl h0
 ·exact .inr ⟨b,off,e,Nat.lt_of_lt_of_le hlt hb.size,fun i hi=>(hb.cell (p:=⟨b,off+i,none⟩) (hB b off none e hlt)).trans (hc i hi)⟩
theorem Lies.old{k:IntKind}{w w':World}{ao:Option Addr}{len:Nat}{xs:List Int}(h:Lies k w ao len xs)(hb:Below w.heap.size w w'):Lies k w' ao len xs:=
 h.below hb fun _ _ _ _ h=>h
theorem Lies.take{k:IntKind}{w:World}{ao:Option Addr}{len:Nat}{xs:List Int}(h:Lies k w ao len xs)(n:Nat)(hn:n≤len):Lies k w ao n (xs.take n):=by
 refine⟨by rw[List.length_take,h.1];omega,?_⟩;rcases h.2 with h0|⟨b,off,e,hlt,hc⟩
 ·exact .inl (by omega)
 ·refine .inr ⟨b,off,e,hlt,fun i hi => ?_⟩;rw[hc i (by omega)];simp only[List.getD,List.getElem?_take];rw[if_pos hi]
theorem Lies.empty(k:IntKind)(w:World)(ao:Option Addr):Lies k w ao 0 []:=⟨rfl,.inl rfl⟩
theorem ret_int{k:IntKind}{a b:Int}(h:a=b):Ending.returned (.int k a)=.returned (.int k b):=by rw[h]
theorem ret_slice{ao:Option Addr}{a b c d:Nat}(h:a=b)(h':c=d):Ending.returned (.slice ao a c)=.returned (.slice ao b d):=by rw[h,h']
theorem limbs_any(ao:Option Addr)(len cap:Nat)(xs:List Int)(w:World)(h:Lies .u64 w ao len xs)(hm:len≤maxLen):
  Calls Tryz.prog 73 #[.slice ao len cap] w fun e w'=>e=.returned (.int .i64 (top xs))∧w'=w:=by
 have hl:=h.len;unfold maxLen at hm;go_enter Tryz.func73,Tryz.ntmps73;go_wp2;go_loop [7] (fun i=>∃k:Nat,k≤len∧i=.int .i64 k∧∀j,len-k≤j→j<len→xs.getD j 0=0) (fun i=>len-(intOf i).toNat)
 case atStart=>exact⟨0,Nat.zero_le _,rfl,fun j h1 h2=>by omega⟩
 case round =>
  obtain⟨k,hk,rfl,hz⟩:=hrel;by_cases hlt:k<len
  ·obtain⟨b,off,rfl,hb,hc⟩:=h.at (by omega);have hcell:=hc (len-k-1) (by omega);go_wp2
   ·have hne:(xs[len-k-1]?.getD 0 != 0)=true:=by assumption
    go_ret;refine⟨ret_int ?_,rfl⟩;rw[top_eq xs (len-k) (fun j h1 h2=>hz j h1 (by omega)) (.inr (by simpa [List.getD] using hne))];omega
   ·have hne:(xs[len-k-1]?.getD 0 != 0)=false:=by assumption
    go_round
    case rel=>
     refine⟨k+1,by omega,by go_num,fun j h1 h2 => ?_⟩;by_cases hj:j=len-k-1
     ·subst hj;simpa [List.getD] using hne
     ·exact hz j (by omega) h2
    case measure=>simp[intOf];omega
  ·go_wp2;go_ret;refine⟨ret_int ?_,rfl⟩;rw[top_eq xs 0 (fun j h1 h2=>hz j (by omega) (by omega)) (.inl rfl)];rfl
theorem trim_any(ao:Option Addr)(len cap:Nat)(xs:List Int)(w:World)(h:Lies .u64 w ao len xs)(hlc:len≤cap)(hm:cap≤maxLen)(hn:ao=none→cap=0):
  Calls Tryz.prog 72 #[.slice ao len cap] w fun e w'=>e=.returned (.slice ao (top xs) cap)∧w'=w:=by
 have hl:=h.len;have ht:=top_le xs;have hm':=hm;unfold maxLen at hm;go_enter Tryz.func72,Tryz.ntmps72;go_wp2_with fail
 refine(limbs_any ao len cap xs w h (by unfold maxLen;omega)).mono ?_;rintro e w' ⟨rfl,rfl⟩
 cases ao with
 | none=>
  obtain rfl:=hn rfl;obtain rfl:len=0:=by omega
  have ht0:top xs=0:=by omega
  rw[ht0];go_wp2;go_ret;exact⟨ret_slice (by omega) rfl,rfl⟩
 | some a=>
  go_wp2;go_ret;exact⟨rfl,rfl⟩
theorem limb_any(ao:Option Addr)(len cap:Nat)(xs:List Int)(place:Int)(w:World)(h:Lies .u64 w ao len xs)(hm:len≤maxLen)(hp:0≤place):
  Calls Tryz.prog 126 #[.slice ao len cap,.int .i64 place] w fun e w'=>e=.returned (.int .u64 (xs.getD place.toNat 0))∧w'=w:=by
 obtain⟨n,rfl⟩:=Int.eq_ofNat_of_zero_le hp;have hl:=h.len;unfold maxLen at hm;by_cases hlt:n<len
 ·obtain⟨b,off,rfl,hb,hc⟩:=h.at (by omega);have hcell:=hc n hlt;go_enter Tryz.func126,Tryz.ntmps126;go_wp2;go_ret;exact⟨ret_int (by simp[hl,hlt]),rfl⟩
 ·have e:xs.getD n 0=0:=by simp[List.getD,List.getElem?_eq_none (show xs.length≤n by omega)]
  go_enter Tryz.func126,Tryz.ntmps126;go_wp2;go_ret;exact⟨ret_int (by rw[Int.toNat_natCast,e]),rfl⟩
end
section
open Go.RowKit Go.Lib
def cmpI (a b:Int):Int:=if a<b then -1 else if b<a then 1 else 0
theorem compare_int(a b:Int)(w:World):
  Calls Tryz.prog 74 #[.int .i64 a,.int .i64 b] w fun e w'=>e=.returned (.int .i64 (cmpI a b))∧w'=w:=by
 by_cases h1:a<b
 ·have e:cmpI a b = -1:=by simp[cmpI,h1]
  go_enter Tryz.func74,Tryz.ntmps74;go_wp2;go_ret;exact⟨ret_int (by omega),rfl⟩
 by_cases h2:b<a
 ·have e:cmpI a b=1:=by simp[cmpI,h1,h2]
  go_enter Tryz.func74,Tryz.ntmps74;go_wp2;go_ret;exact⟨ret_int (by omega),rfl⟩
 ·have e:cmpI a b=0:=by simp[cmpI,h1,h2]
  go_enter Tryz.func74,Tryz.ntmps74;go_wp2;go_ret;exact⟨ret_int (by omega),rfl⟩
theorem compare_u64(a b:Int)(w:World):
  Calls Tryz.prog 75 #[.int .u64 a,.int .u64 b] w fun e w'=>e=.returned (.int .i64 (cmpI a b))∧w'=w:=by
 by_cases h1:a<b
 ·have e:cmpI a b = -1:=by simp[cmpI,h1]
  go_enter Tryz.func75,Tryz.ntmps75;go_wp2;go_ret;exact⟨ret_int (by omega),rfl⟩
 by_cases h2:b<a
 ·have e:cmpI a b=1:=by simp[cmpI,h1,h2]
  go_enter Tryz.func75,Tryz.ntmps75;go_wp2;go_ret;exact⟨ret_int (by omega),rfl⟩
 ·have e:cmpI a b=0:=by simp[cmpI,h1,h2]
  go_enter Tryz.func75,Tryz.ntmps75;go_wp2;go_ret;exact⟨ret_int (by omega),rfl⟩
def blen (n:Nat):Nat:=if n=0 then 0 else n.log2+1
theorem blen_zero:blen 0=0:=rfl
theorem blen_lt(n:Nat):n<2^blen n:=by
 unfold blen;split
 ·subst n;decide
 ·exact Nat.lt_log2_self
theorem blen_ge(n:Nat)(h:n≠0):2^(blen n-1)≤n:=by unfold blen;rw[if_neg h];exact Nat.log2_self_le h
theorem blen_pos(n:Nat)(h:n≠0):0<blen n:=by unfold blen;rw[if_neg h];omega
theorem blen_eq(n k:Nat)(h1:2^k≤n)(h2:n<2^(k+1)):blen n=k+1:=by
 have hn:n≠0:=by have:=Nat.two_pow_pos k;omega
 have a:=blen_lt n;have b:=blen_ge n hn;have c:=blen_pos n hn;have d:k<blen n:=(Nat.pow_lt_pow_iff_right (by decide)).1 (Nat.lt_of_le_of_lt h1 a);have e:blen n-1<k+1:=(Nat.pow_lt_pow_iff_right (by decide)).1 (Nat.lt_of_le_of_lt b h2);omega
theorem blen_le(n k:Nat)(h:n<2^k):blen n≤k:=by
 by_cases hn:n=0
 ·subst hn;simp[blen]
 ·have b:=blen_ge n hn;have e:blen n-1<k:=(Nat.pow_lt_pow_iff_right (by decide)).1 (Nat.lt_of_le_of_lt b h);omega
theorem blen_shift(n k:Nat)(h:2^k≤n):blen n=k+blen (n/2^k):=by
 have hp:=Nat.two_pow_pos k;have hq:n/2^k≠0:=by have:=(Nat.le_div_iff_mul_le hp).2 (show 1*2^k≤n by omega);omega
 have a:=blen_lt (n/2^k);have b:=blen_ge (n/2^k) hq;have c:=blen_pos (n/2^k) hq;obtain⟨m,hm⟩:∃m,blen (n/2^k)=m+1:=⟨blen (n/2^k)-1,by omega⟩
 rw[hm]at a b ⊢;simp only[Nat.add_sub_cancel]at b;have:=blen_eq n (k+m) (by
  rw[Nat.pow_add,Nat.mul_comm];exact(Nat.le_div_iff_mul_le hp).1 b) (by
  rw[show k+m+1=(m+1)+k by omega,Nat.pow_add];exact(Nat.div_lt_iff_lt_mul hp).1 a)
 omega
theorem tab_all:∀n:Fin 256,len8tab[n.val]?=some (UInt8.ofNat (blen n.val))∧blen n.val≤8:=by decide +kernel
theorem tab_size:(len8tab.size:Int)=256:=by
 have:len8tab.size=256:=by decide +kernel
 omega
theorem tab_step(k:Nat)(y:Int)(x:Nat)(hs:y.toNat<len8tab.size)(h0:0≤y)(h1:y≤255)(hy:y.toNat=x/2^k)(hk:k=0∨2^k≤x)(hk2:k≤56):
  wrap64 ((k:Int)+wrap64 ((len8tab[y.toNat]'hs).toNat:Int))=(blen x:Int):=by
 obtain⟨a,b⟩:=tab_all ⟨y.toNat,by omega⟩;simp only at a b;rw[getElem?_pos len8tab y.toNat hs]at a;injection a with a;rw[a];have e:(UInt8.ofNat (blen y.toNat)).toNat=blen y.toNat:=by rw[UInt8.toNat_ofNat'];omega
 rw[e];have f:blen x=k+blen y.toNat:=by
  rcases hk with rfl|hk
  ·rw[hy];simp
  ·rw[hy];exact blen_shift x k hk
 rw[f];unfold wrap64;omega
theorem len64_any(x:Int)(w:World)(h0:0≤x)(h:x<18446744073709551616):
  Calls Tryz.prog 94 #[.int .u64 x] w fun e w'=>e=.returned (.int .i64 (blen x.toNat))∧w'=w:=by
 go_enter Tryz.func94,Tryz.ntmps94;go_wp2;all_goals first
  | (go_ret;refine⟨ret_int ?_,rfl⟩;go_light)
  | (exfalso;go_light;have hs:=tab_size;omega)
 ·exact tab_step 56 _ _ _ (by omega) (by omega) (by omega) (by omega) (by omega)
 ·exact tab_step 48 _ _ _ (by omega) (by omega) (by omega) (by omega) (by omega)
 ·exact tab_step 40 _ _ _ (by omega) (by omega) (by omega) (by omega) (by omega)
 ·exact tab_step 32 _ _ _ (by omega) (by omega) (by omega) (by omega) (by omega)
 ·exact tab_step 24 _ _ _ (by omega) (by omega) (by omega) (by omega) (by omega)
 ·exact tab_step 16 _ _ _ (by omega) (by omega) (by omega) (by omega) (by omega)
 ·exact tab_step 8 _ _ _ (by omega) (by omega) (by omega) (by omega) (by omega)
 ·have e:=tab_step 0 x x.toNat (by omega) (by omega) (by omega) (by omega) (by omega) (by omega);rw[show(((0:Nat):Int)+wrap64 ((len8tab[x.toNat]'(by omega)).toNat:Int))=wrap64 ((len8tab[x.toNat]'(by omega)).toNat:Int) by omega]at e;exact e
theorem lead_any(x:Int)(w:World)(h0:0≤x)(h:x<18446744073709551616):
  Calls Tryz.prog 124 #[.int .u64 x] w fun e w'=>e=.returned (.int .i64 ((64-blen x.toNat:Nat):Int))∧w'=w:=by
 have hb:=blen_le x.toNat 64 (by omega);go_enter Tryz.func124,Tryz.ntmps124;go_wp2_with (go_at_call 94;refine(len64_any x _ h0 h).mono ?_;rintro e w' ⟨rfl,rfl⟩)
 go_ret;exact⟨ret_int (by omega),rfl⟩
theorem add64(x y c:Int)(hx:0≤x)(hy:0≤y)(hc0:0≤c)(hc:c≤1)(w:World):(callFunc 145 #[.int .u64 x,.int .u64 y,.int .u64 c]).run Tryz.prog w =
  .ok (.value (.tuple #[.int .u64 ((x+y+c)%18446744073709551616),.int .u64 ((x+y+c)/18446744073709551616)])) w:=by
 rw[run_callFunc_extern Tryz.func145 (by kernel_rfl) (by kernel_rfl) (by kernel_rfl) (e:=add64Entry) (by kernel_rfl),run_add64 x y c hx hy hc0 hc];rfl
def bor (x y:Int):Int:=if x<y then 1 else 0
theorem sub64(x y c:Int)(hx:0≤x)(hy:0≤y)(hy':y<18446744073709551616)(hc0:0≤c)(hc:c≤1)(w:World):(callFunc 149 #[.int .u64 x,.int .u64 y,.int .u64 c]).run Tryz.prog w =
  .ok (.value (.tuple #[.int .u64 ((x-y-c)%18446744073709551616),.int .u64 (bor x (y+c))])) w:=by
 obtain⟨x,rfl⟩:=Int.eq_ofNat_of_zero_le hx;obtain⟨y,rfl⟩:=Int.eq_ofNat_of_zero_le hy;obtain⟨c,rfl⟩:=Int.eq_ofNat_of_zero_le hc0;rw[run_callFunc_extern Tryz.func149 (by kernel_rfl) (by kernel_rfl) (by kernel_rfl) (e:=sub64Entry) (by kernel_rfl),run_sub64 x y c (by omega)];have e1:(((x+18446744073709551616-y-c)%18446744073709551616:Nat):Int)=((x:Int)-y-c)%18446744073709551616:=by omega
 have e2:((if x<y+c then 1 else 0:Nat):Int)=bor x (y+c):=by unfold bor;split<;>split<;>omega
 rw[e1,e2];rfl
theorem add64_0(x y:Int)(hx:0≤x)(hy:0≤y)(w:World):(callFunc 145 #[.int .u64 x,.int .u64 y,.int .u64 0]).run Tryz.prog w =
  .ok (.value (.tuple #[.int .u64 ((x+y)%18446744073709551616),.int .u64 ((x+y)/18446744073709551616)])) w:=by
 simpa using add64 x y 0 hx hy (Int.le_refl 0) (by decide) w
theorem sub64_0(x y:Int)(hx:0≤x)(hy:0≤y)(hy':y<18446744073709551616)(w:World):(callFunc 149 #[.int .u64 x,.int .u64 y,.int .u64 0]).run Tryz.prog w =
  .ok (.value (.tuple #[.int .u64 ((x-y)%18446744073709551616),.int .u64 (bor x y)])) w:=by
 simpa using sub64 x y 0 hx hy hy' (Int.le_refl 0) (by decide) w
theorem low_half(a:Nat)(ha:a<18446744073709551616):bits .and .u64 (a:Int) 4294967295=((a%4294967296:Nat):Int):=by have h:=bits_and_u64_nat a 4294967295 ha (by omega);rw[show a&&&4294967295=a%4294967296 from Nat.and_two_pow_sub_one_eq_mod a 32]at h;exact h
theorem cast_div32(a:Nat):(a:Int)/4294967296=((a/4294967296:Nat):Int):=by omega
theorem cast_mul(a b:Nat):(a:Int)*(b:Int)=((a*b:Nat):Int):=(Int.natCast_mul a b).symm
theorem cast_add(a b:Nat):(a:Int)+(b:Int)=((a+b:Nat):Int):=(Int.natCast_add a b).symm
theorem wrap_fit(a:Nat)(ha:a<18446744073709551616):IntKind.u64.wrap (a:Int)=(a:Int):=by rw[IntKind.wrap_u64];omega
theorem wrap_mod(a:Nat):IntKind.u64.wrap (a:Int)=((a%18446744073709551616:Nat):Int):=by rw[IntKind.wrap_u64];omega
theorem mul64_nat(x y:Nat)(hx:x<18446744073709551616)(hy:y<18446744073709551616)(w:World):
  Calls Tryz.prog 146 #[.int .u64 x,.int .u64 y] w fun e w'=>e=.returned (.tuple #[.int .u64 ((x*y/18446744073709551616:Nat):Int),.int .u64 ((x*y%18446744073709551616:Nat):Int)])∧w'=w:=by
 obtain⟨p1,p2,p3,hhi⟩:=Lib.mul64_hi x y hx hy;have q1:=Lib.half_mul_le (a:=x/4294967296) (b:=y/4294967296) (by omega) (by omega);have q2:=Lib.half_mul_le (a:=x/4294967296) (b:=y%4294967296) (by omega) (by omega);have q3:=Lib.half_mul_le (a:=x%4294967296) (b:=y/4294967296) (by omega) (by omega);have r1:x/4294967296*(y/4294967296)<18446744073709551616:=by omega
 have r2:x/4294967296*(y%4294967296)<18446744073709551616:=by omega
 have r3:x%4294967296*(y/4294967296)<18446744073709551616:=by omega
 have s1:x/4294967296*(y/4294967296)+(x/4294967296*(y%4294967296)+x%4294967296*(y%4294967296)/4294967296)/4294967296<18446744073709551616:=by omega
 have s2:x/4294967296*(y/4294967296)+(x/4294967296*(y%4294967296)+x%4294967296*(y%4294967296)/4294967296)/4294967296+((x/4294967296*(y%4294967296)+x%4294967296*(y%4294967296)/4294967296)%4294967296+x%4294967296*(y/4294967296))/4294967296<18446744073709551616:=by omega
 go_enter Tryz.func146,Tryz.ntmps146;go_wp2;simp only[low_half x hx,low_half y hy,cast_div32,cast_mul,cast_add,wrap_fit _ p1,wrap_fit _ r2,wrap_fit _ p2,low_half _ p2,wrap_fit _ r3,wrap_fit _ p3,wrap_fit _ r1,wrap_fit _ s1,wrap_fit _ s2,wrap_mod (x*y)];rw[hhi];go_ret2
 exact⟨rfl,rfl⟩
theorem mul64_any(x y:Int)(hx0:0≤x)(hx:x<18446744073709551616)(hy0:0≤y)(hy:y<18446744073709551616)(w:World):
  Calls Tryz.prog 146 #[.int .u64 x,.int .u64 y] w fun e w'=>e=.returned (.tuple #[.int .u64 (x*y/18446744073709551616),.int .u64 (x*y%18446744073709551616)])∧w'=w:=by
 obtain⟨x,rfl⟩:=Int.eq_ofNat_of_zero_le hx0;obtain⟨y,rfl⟩:=Int.eq_ofNat_of_zero_le hy0;have h:=mul64_nat x y (by omega) (by omega) w;rw[Int.natCast_ediv,Int.natCast_emod,Int.natCast_mul]at h;exact h
theorem ret_two{k l:IntKind}{a b c d:Int}(h:a=b)(h':c=d):Ending.returned (.tuple #[.int k a,.int l c])=.returned (.tuple #[.int k b,.int l d]):=by rw[h,h']
theorem prod_lt(a b more:Int)(ha0:0≤a)(ha:a<18446744073709551616)(hb0:0≤b)(hb:b<18446744073709551616)(hm:more<18446744073709551616):
  a*b+more<18446744073709551616*18446744073709551616-18446744073709551616+1:=by
 have h1:a*b≤18446744073709551615*18446744073709551615:=Int.mul_le_mul (by omega) (by omega) hb0 (by omega);omega
theorem mulAdd_any(a b more:Int)(ha0:0≤a)(ha:a<18446744073709551616)(hb0:0≤b)(hb:b<18446744073709551616)(hm0:0≤more)(hm:more<18446744073709551616)(w:World):
  Calls Tryz.prog 144 #[.int .u64 a,.int .u64 b,.int .u64 more] w fun e w'=>e=.returned (.tuple #[.int .u64 ((a*b+more)/18446744073709551616),.int .u64 ((a*b+more)%18446744073709551616)])∧w'=w:=by
 have hp:=prod_lt a b more ha0 ha hb0 hb hm;have hp0:0≤a*b:=Int.mul_nonneg ha0 hb0;have HM:=mul64_any a b ha0 ha hb0 hb;generalize hP:a*b=P at *;clear hP;have k0:0≤P%18446744073709551616:=by omega
 go_enter Tryz.func144,Tryz.ntmps144;go_wp2_with (first|(go_at_call 146;refine(HM _).mono ?_;rintro e w' ⟨rfl,rfl⟩)|simp only[add64_0 _ more k0 hm0])
 go_ret2
 exact⟨ret_two (by omega) rfl,rfl⟩
def Row (e:TypeId)(k:IntKind)(w:World)(g:Nat)(xs:List Int):Prop:=w.heap[g]?=some (.cells ((xs.map (Value.int k)).toArray) e (0,0))
theorem Row.lt{e:TypeId}{k:IntKind}{w:World}{g:Nat}{xs:List Int}(h:Row e k w g xs):g<w.heap.size:=by unfold Row at h;exact(Array.getElem?_eq_some_iff.1 h).1
theorem Row.cell{e:TypeId}{k:IntKind}{w:World}{g:Nat}{xs:List Int}(h:Row e k w g xs)(j:Nat)(hj:j<xs.length):w.cell? ⟨g,j,none⟩=some (.int k (xs.getD j 0)):=by rw[cell_of_row w g j _ e (0,0) h];simp[hj]
theorem Row.frozen{e:TypeId}{k:IntKind}{w:World}{g:Nat}{xs:List Int}(h:Row e k w g xs)(j:Nat):w.frozen? ⟨g,j,none⟩=false:=frozen_of_row w g j _ e h
theorem Row.set{e:TypeId}{k:IntKind}{w:World}{g:Nat}{xs:List Int}(h:Row e k w g xs)(j:Nat)(y:Int):Row e k (w.setCell ⟨g,j,none⟩ (.int k y)) g (xs.set j y):=by unfold Row;rw[heap_setCell_same w g j _ e _ h];simp[List.map_set]
theorem Row.kept{e:TypeId}{k:IntKind}{w w':World}{g:Nat}{xs:List Int}(h:Row e k w g xs){row:Option Nat}(hg:w.grownBy w' row)(hne:some g≠row):Row e k w' g xs:=by unfold Row;rw[hg.block g h.lt hne];exact h
theorem Row.below{e:TypeId}{k:IntKind}{w w':World}{g:Nat}{xs:List Int}(h:Row e k w g xs){B:Nat}(hg:Below B w w')(hne:g<B):Row e k w' g xs:=by unfold Row;rw[hg.block g hne];exact h
theorem Row.lies{e:TypeId}{k:IntKind}{w:World}{g:Nat}{xs:List Int}(h:Row e k w g xs)(off len:Nat)(hl:off+len≤xs.length):Lies k w (some ⟨g,off,none⟩) len ((xs.drop off).take len):=by refine⟨by simp;omega,.inr ⟨g,off,rfl,h.lt,fun i hi => ?_⟩⟩;rw[h.cell (off+i) (by omega)];simp only[List.getD,List.getElem?_take,List.getElem?_drop];rw[if_pos hi]
theorem grown_set(w:World)(g j:Nat)(u:Value):w.grownBy (w.setCell ⟨g,j,none⟩ u) (some g):=
 ⟨rfl,rfl,rfl,by simp,fun k _ hk=>heap_setCell_other w ⟨g,j,none⟩ k u (fun e=>hk (by simp[e]))⟩
theorem grown_trans{a b c:World}{row:Option Nat}(h:a.grownBy b row)(k:b.grownBy c row):a.grownBy c row:=
 ⟨k.os.trans h.os,k.tape.trans h.tape,k.output.trans h.output,Nat.le_trans h.size k.size,fun i hi hne=>(k.block i (Nat.lt_of_lt_of_le hi h.size) hne).trans (h.block i hi hne)⟩
theorem Lies.kept{k:IntKind}{w w':World}{ao:Option Addr}{len:Nat}{xs:List Int}(h:Lies k w ao len xs){row:Option Nat}(hg:w.grownBy w' row)(hne:∀b off s,ao=some ⟨b,off,s⟩→some b≠row):Lies k w' ao len xs:=by
 refine⟨h.1,?_⟩;rcases h.2 with h0|⟨b,off,e,hlt,hc⟩
 ·exact .inl h0
 ·exact .inr ⟨b,off,e,Nat.lt_of_lt_of_le hlt hg.size,fun i hi=>hg.cell (hc i hi) (hne b off none e)⟩
end
section
open Go.RowKit
def B64:Int:=18446744073709551616
theorem B64_pos:0<B64:=by decide
theorem B64_one:1<B64:=by decide
def seg (xs:List Int)(o i:Nat):List Int:=(xs.drop o).take i
theorem seg_succ(xs:List Int)(o i:Nat)(h:o+i<xs.length):seg xs o (i+1)=seg xs o i++[xs.getD (o+i) 0]:=by
 unfold seg;rw[List.take_succ_eq_append_getElem (by simp;omega)];congr 2
 simp[List.getD,List.getElem?_eq_getElem h]
theorem seg_len(xs:List Int)(o i:Nat)(h:o+i≤xs.length):(seg xs o i).length=i:=by unfold seg;simp;omega
theorem seg_set(xs:List Int)(o i:Nat)(y:Int):seg (xs.set (o+i) y) o i=seg xs o i:=by
 unfold seg;apply List.ext_getElem?;intro j;simp only[List.getElem?_take,List.getElem?_drop];by_cases hj:j<i
 ·simp only[hj,if_true];rw[List.getElem?_set_ne (by omega)]
 ·simp[hj]
theorem getD_set(xs:List Int)(j k:Nat)(y:Int)(h:k<xs.length):(xs.set k y).getD j 0=if j=k then y else xs.getD j 0:=by
 simp only[List.getD,List.getElem?_set];by_cases hj:k=j
 ·subst hj;simp[h]
 ·simp[hj,Ne.symm hj]
theorem take_succ_getD(xs:List Int)(i:Nat)(h:i<xs.length):xs.take (i+1)=xs.take i++[xs.getD i 0]:=by
 rw[List.take_succ_eq_append_getElem h];congr 2
 simp[List.getD,List.getElem?_eq_getElem h]
def Runs (s:Int)(xs ys:List Int)(o i:Nat)(t:Int)(cur:List Int)(c:Int):Prop:=
 cur.length=xs.length∧(∀j,j<o∨o+i≤j→cur.getD j 0=xs.getD j 0)∧Dg B64 cur∧0≤c∧c<B64 ∧
  val B64 (seg cur o i)+s*(B64^i*c)=val B64 (seg xs o i)+s*(t*val B64 (ys.take i))
theorem Runs.zero{s:Int}{xs ys:List Int}{o:Nat}{t:Int}(hd:Dg B64 xs):Runs s xs ys o 0 t xs 0:=
 ⟨rfl,fun _ _=>rfl,hd,by decide,by decide,by simp[seg,val]⟩
theorem Runs.step{s:Int}{xs ys:List Int}{o i:Nat}{t:Int}{cur:List Int}{c:Int}(h:Runs s xs ys o i t cur c)(ho:o+i<xs.length)(hy:i<ys.length){next c':Int}
  (hn:0≤next∧next<B64) (hc:0≤c'∧c'<B64) (he:next+s*(B64*c')=cur.getD (o+i) 0+s*(ys.getD i 0*t+c)):Runs s xs ys o (i+1) t (cur.set (o+i) next) c':=by
 obtain⟨h1,h2,h3,h4,h5,h6⟩:=h;refine⟨by simp[h1],fun j hj => ?_,h3.set _ hn,hc.1,hc.2,?_⟩
 ·rw[getD_set _ _ _ _ (by omega),if_neg (by omega)];exact h2 j (by omega)
 ·have e1:seg (cur.set (o+i) next) o (i+1)=seg cur o i++[next]:=by
   rw[seg_succ _ _ _ (by simp;omega),seg_set,getD_set _ _ _ _ (by omega),if_pos rfl]
  rw[e1,seg_succ xs o i ho,take_succ_getD ys i hy];simp only[val_append,seg_len cur o i (by omega),seg_len xs o i (by omega),val];have e2:(ys.take i).length=i:=by simp;omega
  rw[e2,Int.pow_succ];have e3:=h2 (o+i) (by omega);rw[e3]at he;generalize val B64 (seg cur o i)=A at *;generalize val B64 (seg xs o i)=X at *;generalize val B64 (ys.take i)=Y at *;generalize B64^i=p at *;generalize ys.getD i 0=y at *;generalize xs.getD (o+i) 0=x at *;generalize B64=b at *
  grind
theorem add_round(x y t c hi lo ne ov:Int)(hx:0≤x∧x<B64)(hy:0≤y∧y<B64)(ht:0≤t∧t<B64)(hc:0≤c∧c<B64)
  (e1:hi=(y*t+c)/18446744073709551616) (e2:lo=(y*t+c)%18446744073709551616) (e3:ne=(x+lo)%18446744073709551616) (e4:ov=(x+lo)/18446744073709551616):
  (0≤ne∧ne<B64)∧(0≤hi+ov∧hi+ov<B64)∧ne+1*(B64*(hi+ov))=x+1*(y*t+c):=by
 unfold B64 at *;have hp:=prod_lt y t c hy.1 hy.2 ht.1 ht.2 hc.2;have hp0:0≤y*t:=Int.mul_nonneg hy.1 ht.1;generalize y*t=P at *;omega
theorem sub_round(x y t c hi lo ne ov:Int)(hx:0≤x∧x<B64)(hy:0≤y∧y<B64)(ht:0≤t∧t<B64)(hc:0≤c∧c<B64)
  (e1:hi=(y*t+c)/18446744073709551616) (e2:lo=(y*t+c)%18446744073709551616) (e3:ne=(x-lo)%18446744073709551616) (e4:ov=bor x lo):
  (0≤ne∧ne<B64)∧(0≤hi+ov∧hi+ov<B64)∧ne + -1*(B64*(hi+ov))=x + -1*(y*t+c):=by
 unfold B64 bor at *;have hp:=prod_lt y t c hy.1 hy.2 ht.1 ht.2 hc.2;have hp0:0≤y*t:=Int.mul_nonneg hy.1 ht.1;generalize y*t=P at *;split at e4<;>omega
theorem addTimes_any(e:TypeId)(g o ls cs:Nat)(ao:Option Addr)(la ca:Nat)(xs ys:List Int)(t:Int)(w:World)(hr:Row e .u64 w g xs)(ha:Lies .u64 w ao la ys)
  (hne:0<la→∀b off s,ao=some ⟨b,off,s⟩→b≠g) (h1:la≤ls) (h2:o+ls≤xs.length) (h3:ls≤maxLen) (hx:Dg B64 xs) (hy:Dg B64 ys) (ht0:0≤t) (ht:t<18446744073709551616):
  Calls Tryz.prog 127 #[.slice (some ⟨g,o,none⟩) ls cs,.slice ao la ca,.int .u64 t] w fun e' w'=>∃cur c,e'=.returned (.int .u64 c)∧Row e .u64 w' g cur∧Runs 1 xs ys o la t cur c∧w.grownBy w' (some g):=by
 have hl:=ha.len;unfold maxLen at h3;go_enter Tryz.func127,Tryz.ntmps127;go_wp2;go_loopw [7,15] (fun c i wr=>∃(k:Nat) (cur:List Int) (cc:Int),k≤la∧i=.int .i64 k∧c=.int .u64 cc∧Row e .u64 wr g cur∧Runs 1 xs ys o k t cur cc∧w.grownBy wr (some g)) (fun _ i _=>la-(intOf i).toNat)
 case atStart=>exact⟨0,xs,0,Nat.zero_le _,rfl,rfl,hr,Runs.zero hx,World.grownBy.refl _ _⟩
 case round=>
  obtain⟨k,cur,cc,hk,rfl,rfl,hrow,hrun,hgr⟩:=hrel;by_cases hlt:k<la
  ·obtain⟨b,off,rfl,hb,hc⟩:=ha.at (by omega);have hcell:=(hgr.cell (hc k hlt) (by have:=hne (by omega) b off none rfl;simp;omega))
   have hcl:=hrow.cell (o+k) (by have:=hrun.1;omega);have hfr:=hrow.frozen (o+k);have hyk:=hy.getD B64_pos k;have hxk:=hrun.2.2.1.getD B64_pos (o+k);have hcc:=hrun.2.2.2.1;have hcc':=hrun.2.2.2.2.1;have hst:=fun next c'=>hrun.step (next:=next) (c':=c') (by omega) (by omega);generalize hY:ys.getD k 0=y at *;generalize hX:cur.getD (o+k) 0=x at *;clear hY hX;obtain⟨hi,lo,HM,e1,e2⟩:∃hi lo,(∀w,Calls Tryz.prog 144 #[.int .u64 y,.int .u64 t,.int .u64 cc] w fun e w'=>e=.returned (.tuple #[.int .u64 hi,.int .u64 lo])∧w'=w)∧hi=(y*t+cc)/18446744073709551616∧lo=(y*t+cc)%18446744073709551616:=
    ⟨_,_,mulAdd_any y t cc hyk.1 hyk.2 ht0 ht hcc hcc',rfl,rfl⟩
   have hlo:0≤lo∧lo<18446744073709551616:=by omega
   obtain⟨ne,ov,HC,e3,e4⟩:∃ne ov,(∀w,(callFunc 145 #[.int .u64 x,.int .u64 lo,.int .u64 0]).run Tryz.prog w=.ok (.value (.tuple #[.int .u64 ne,.int .u64 ov])) w)∧ne=(x+lo)%18446744073709551616∧ov=(x+lo)/18446744073709551616:=
    ⟨_,_,add64_0 x lo hxk.1 hlo.1,rfl,rfl⟩
   have HA:=add_round x y t cc hi lo ne ov hxk hyk ⟨ht0,ht⟩ ⟨hcc,hcc'⟩ e1 e2 e3 e4;have HS:Hid _:=hst ne (hi+ov) HA.1 HA.2.1 HA.2.2;have hw:0≤hi+ov∧hi+ov<18446744073709551616:=HA.2.1;have hgr':Hid _:=hgr;have hrow':Hid _:=hrow.set (o+k) ne;clear hst HA e1 e2 e3 e4 hrun hyk hxk hlo hgr hrow hc hcc hcc' ht0 ht ha hne;go_wp2_with (first|(go_at_call 144;refine(HM _).mono ?_;rintro e w' ⟨rfl,rfl⟩)|simp only[HC])
   go_roundw
   case rel=>exact⟨k+1,_,_,by omega,by go_num,rfl,hrow'.out,HS.out,grown_trans hgr'.out (grown_set _ _ _ _)⟩
   case measure=>simp[intOf];omega
  ·obtain rfl:k=la:=by omega
   go_wp2;go_ret;exact⟨cur,cc,rfl,hrow,hrun,hgr⟩
theorem subTimes_any(e:TypeId)(g o ls cs:Nat)(ao:Option Addr)(la ca:Nat)(xs ys:List Int)(t:Int)(w:World)(hr:Row e .u64 w g xs)(ha:Lies .u64 w ao la ys)
  (hne:0<la→∀b off s,ao=some ⟨b,off,s⟩→b≠g) (h1:la≤ls) (h2:o+ls≤xs.length) (h3:ls≤maxLen) (hx:Dg B64 xs) (hy:Dg B64 ys) (ht0:0≤t) (ht:t<18446744073709551616):
  Calls Tryz.prog 143 #[.slice (some ⟨g,o,none⟩) ls cs,.slice ao la ca,.int .u64 t] w fun e' w'=>∃cur c,e'=.returned (.int .u64 c)∧Row e .u64 w' g cur∧Runs (-1) xs ys o la t cur c∧w.grownBy w' (some g):=by
 have hl:=ha.len;unfold maxLen at h3;go_enter Tryz.func143,Tryz.ntmps143;go_wp2;go_loopw [7,15] (fun c i wr=>∃(k:Nat) (cur:List Int) (cc:Int),k≤la∧i=.int .i64 k∧c=.int .u64 cc∧Row e .u64 wr g cur∧Runs (-1) xs ys o k t cur cc∧w.grownBy wr (some g)) (fun _ i _=>la-(intOf i).toNat)
 case atStart=>exact⟨0,xs,0,Nat.zero_le _,rfl,rfl,hr,Runs.zero hx,World.grownBy.refl _ _⟩
 case round=>
  obtain⟨k,cur,cc,hk,rfl,rfl,hrow,hrun,hgr⟩:=hrel;by_cases hlt:k<la
  ·obtain⟨b,off,rfl,hb,hc⟩:=ha.at (by omega);have hcell:=(hgr.cell (hc k hlt) (by have:=hne (by omega) b off none rfl;simp;omega))
   have hcl:=hrow.cell (o+k) (by have:=hrun.1;omega);have hfr:=hrow.frozen (o+k);have hyk:=hy.getD B64_pos k;have hxk:=hrun.2.2.1.getD B64_pos (o+k);have hcc:=hrun.2.2.2.1;have hcc':=hrun.2.2.2.2.1;have hst:=fun next c'=>hrun.step (next:=next) (c':=c') (by omega) (by omega);generalize hY:ys.getD k 0=y at *;generalize hX:cur.getD (o+k) 0=x at *;clear hY hX;obtain⟨hi,lo,HM,e1,e2⟩:∃hi lo,(∀w,Calls Tryz.prog 144 #[.int .u64 y,.int .u64 t,.int .u64 cc] w fun e w'=>e=.returned (.tuple #[.int .u64 hi,.int .u64 lo])∧w'=w)∧hi=(y*t+cc)/18446744073709551616∧lo=(y*t+cc)%18446744073709551616:=
    ⟨_,_,mulAdd_any y t cc hyk.1 hyk.2 ht0 ht hcc hcc',rfl,rfl⟩
   have hlo:0≤lo∧lo<18446744073709551616:=by omega
   obtain⟨ne,ov,HC,e3,e4⟩:∃ne ov,(∀w,(callFunc 149 #[.int .u64 x,.int .u64 lo,.int .u64 0]).run Tryz.prog w=.ok (.value (.tuple #[.int .u64 ne,.int .u64 ov])) w)∧ne=(x-lo)%18446744073709551616∧ov=bor x lo:=
    ⟨_,_,sub64_0 x lo hxk.1 hlo.1 hlo.2,rfl,rfl⟩
   have HA:=sub_round x y t cc hi lo ne ov hxk hyk ⟨ht0,ht⟩ ⟨hcc,hcc'⟩ e1 e2 e3 e4;have HS:Hid _:=hst ne (hi+ov) HA.1 HA.2.1 HA.2.2;have hw:0≤hi+ov∧hi+ov<18446744073709551616:=HA.2.1;have hgr':Hid _:=hgr;have hrow':Hid _:=hrow.set (o+k) ne;clear hst HA e1 e2 e3 e4 hrun hyk hxk hlo hgr hrow hc hcc hcc' ht0 ht ha hne;go_wp2_with (first|(go_at_call 144;refine(HM _).mono ?_;rintro e w' ⟨rfl,rfl⟩)|simp only[HC])
   go_roundw
   case rel=>exact⟨k+1,_,_,by omega,by go_num,rfl,hrow'.out,HS.out,grown_trans hgr'.out (grown_set _ _ _ _)⟩
   case measure=>simp[intOf];omega
  ·obtain rfl:k=la:=by omega
   go_wp2;go_ret;exact⟨cur,cc,rfl,hrow,hrun,hgr⟩
structure NumIn(k:IntKind)(B:Int)(w:World)(ao:Option Addr)(len cap:Nat)(xs:List Int):Prop where
 lies:Lies k w ao len xs
 lc:len≤cap
 cm:cap≤maxLen
 nn:ao=none→cap=0
 dg:Dg B xs
 sm:len≤1073741824
def NumOut(k:IntKind)(B:Int)(w w':World)(v:Value)(n:Int)(L:Nat):Prop:=
 ∃ao len cap xs,v=.slice ao len cap∧NumIn k B w' ao len cap xs∧Canon xs∧val B xs=n∧len≤L∧Below w.heap.size w w'
theorem NumIn.old{k:IntKind}{B:Int}{w w':World}{ao:Option Addr}{len cap:Nat}{xs:List Int}(h:NumIn k B w ao len cap xs)(hb:Below w.heap.size w w'):NumIn k B w' ao len cap xs:=
 ⟨h.lies.old hb,h.lc,h.cm,h.nn,h.dg,h.sm⟩
theorem NumIn.len{k:IntKind}{B:Int}{w:World}{ao:Option Addr}{len cap:Nat}{xs:List Int}(h:NumIn k B w ao len cap xs):xs.length=len:=h.lies.len
theorem NumIn.take{k:IntKind}{B:Int}{w:World}{ao:Option Addr}{len cap:Nat}{xs:List Int}(h:NumIn k B w ao len cap xs)(n:Nat)(hn:n≤len):NumIn k B w ao n cap (xs.take n):=
 ⟨h.lies.take n hn,by have:=h.lc;omega,h.cm,h.nn,h.dg.take n,by have:=h.sm;omega⟩
theorem NumIn.nil{k:IntKind}{B:Int}{w:World}:NumIn k B w none 0 0 []:=⟨Lies.empty _ _ _,Nat.le_refl _,by simp[maxLen],fun _=>rfl,Dg.nil _,by omega⟩
theorem Row.num{e:TypeId}{k:IntKind}{B:Int}{w:World}{g:Nat}{xs:List Int}(h:Row e k w g xs)(hd:Dg B xs)(hs:xs.length≤1073741824):NumIn k B w (some ⟨g,0,none⟩) xs.length xs.length xs:=by refine⟨?_,Nat.le_refl _,by unfold maxLen;omega,fun h=>(by cases h),hd,hs⟩;have:=h.lies 0 xs.length (by omega);simpa using this
theorem NumIn.out{k:IntKind}{B:Int}{w w':World}{ao:Option Addr}{len cap:Nat}{xs:List Int}(h:NumIn k B w' ao len cap xs)(hb:Below w.heap.size w w')(n:Int)(hv:val B xs=n)(L:Nat)(hL:len≤L):
  NumOut k B w w' (.slice ao (top xs) cap) n L:=by
 have hl:=h.len;have ht:=top_le xs;exact⟨ao,top xs,cap,xs.take (top xs),rfl,h.take _ (by omega),canon_take_top xs,by rw[val_take_top,hv],by omega,hb⟩
theorem Tryz.infoU:(Tryz.prog.info? 47).map (fun i=>(i.zero,i.size,i.bytes))=some (some (.int .u64 0),1,8):=by kernel_rfl
theorem Tryz.infoI:(Tryz.prog.info? 3).map (fun i=>(i.zero,i.size,i.bytes))=some (some (.int .i64 0),1,8):=by kernel_rfl
theorem Tryz.infoB:(Tryz.prog.info? 5).map (fun i=>(i.zero,i.size,i.bytes))=some (some (.int .u8 0),1,1):=by kernel_rfl
theorem wpList_make_row{P:Program}(w:World){ops:Array Oper}{rest:List Oper}{o:Oper}{a:Act}{Q:Exit→Act→World→Prop}
  (hg:o.guard=none) (l c:Operand) (t:TypeId) (hop:o.op=Op.makeSlice t l c) (e:TypeId) (k:IntKind) (bytes:Nat)
  (h1:P.underlying t=some (.slice e)) (h2:(P.info? e).map (fun i=>(i.zero,i.size,i.bytes))=some (some (.int k 0),1,bytes))
  (kl kc:IntKind) (L C:Int) (n:Nat) (hl:a.eval l=.int kl L) (hc:a.eval c=.int kc C) (hL:L=(n:Int)) (hC:C=(n:Int)) (b2:bytes*n≤281474976710656) (b3:n≤maxLen)
  (hK:∀w',Row e k w' w.heap.size (List.replicate n 0)→Below w.heap.size w w'→wpList P ops Q rest (a.put o.dst (.slice (some ⟨w.heap.size,0,none⟩) n n)) w'):
  wpList P ops Q (o::rest) a w:=by
 obtain⟨i,hi,hz0,hz1,hz2⟩:=info_parts h2;refine wpList_make_full w hg l c t hop w.heap.size e i (.int k 0) 1 h1 hi hz0 hz1 kl kc L C n hl hc hL hC (by rw[hz2];exact b2) b3 (Nat.le_refl _) ?_;intro w' hown hgr;refine hK w' ?_ ((Below.refl _ _).grown hgr (Nat.le_refl _) (fun k h=>by cases h));rcases hown.2 with⟨h',_⟩|⟨g',cap',cur,h',_,hrow,_,_,hsz,htake⟩
 ·simp at h'
 ·simp only[Value.slice.injEq,Option.some.injEq,Addr.mk.injEq,and_true,true_and]at h';obtain⟨rfl,rfl⟩:=h';unfold Row;rw[hrow];have e1:cur.toList=(List.replicate n 0).map (Value.int k):=by
   have e2:cur.toList.take (n*1)=cur.toList:=List.take_of_length_le (by simp[hsz]);rw[e2]at htake;rw[htake];simp only[Value.cells,Nat.mul_one,toList_madeCells_one,List.map_replicate]
  rw[←e1]
def lenOf(xs:List Int):Nat:=if top xs=0 then 0 else (top xs-1)*64+blen (xs.getD (top xs-1) 0).toNat
theorem Len_any(ao:Option Addr)(len cap:Nat)(xs:List Int)(w:World)(h:NumIn .u64 B64 w ao len cap xs):
  Calls Tryz.prog 69 #[.slice ao len cap] w fun e w'=>e=.returned (.int .i64 (lenOf xs))∧w'=w:=by
 have hl:=h.len;have ht:=top_le xs;have hs:=h.sm;by_cases h0:top xs=0
 ·have hb:(((top xs:Nat):Int)==0)=true:=by simp[h0]
  have HF:Hid (lenOf xs=0):=by unfold Hid lenOf;rw[if_pos h0]
  go_enter Tryz.func69,Tryz.ntmps69;go_wp2_with (go_at_call 73;refine(limbs_any ao len cap xs _ h.lies (by unfold maxLen;omega)).mono ?_;rintro e w' ⟨rfl,rfl⟩)
  go_ret;exact⟨ret_int (by rw[HF.out];rfl),rfl⟩
 ·obtain⟨b,off,rfl,hb,hc⟩:=h.lies.at (by omega);have hcell:=hc (top xs-1) (by omega);have hg:=h.dg.getD B64_pos (top xs-1);unfold B64 at hg;have hbl:=blen_le (xs.getD (top xs-1) 0).toNat 64 (by omega);have hbe:(((top xs:Nat):Int)==0)=false:=by simp[h0]
  have HF:Hid (lenOf xs=(top xs-1)*64+blen (xs.getD (top xs-1) 0).toNat):=by unfold Hid lenOf;rw[if_neg h0]
  have HL:=len64_any (xs.getD (top xs-1) 0);have HLIM:=limbs_any (some ⟨b,off,none⟩) len cap xs w h.lies (by unfold maxLen;omega);generalize xs.getD (top xs-1) 0=x at *;clear hc h;go_enter Tryz.func69,Tryz.ntmps69;go_wp2_with fail
  refine HLIM.mono ?_;rintro e w' ⟨rfl,rfl⟩;go_wp2_with (go_at_call 94;refine(HL _ hg.1 hg.2).mono ?_;rintro e w' ⟨rfl,rfl⟩)
  go_ret;exact⟨ret_int (by rw[HF.out];omega),rfl⟩
theorem cmp_at(B:Int)(hB:1<B)(xs ys:List Int)(hx:Dg B xs)(hy:Dg B ys)(n:Nat)(hn:xs.length=n)(hn':ys.length=n)(p:Nat)(hp:p<n)
  (heq:∀j,p<j→j<n→xs.getD j 0=ys.getD j 0) (hlt:xs.getD p 0<ys.getD p 0):val B xs<val B ys:=by
 have hd:xs.drop (p+1)=ys.drop (p+1):=by
  apply List.ext_getElem
  ·simp;omega
  ·intro i h1 h2;have:=heq (p+1+i) (by omega) (by simp at h1;omega);simp only[List.getElem_drop];simp only[List.getD]at this;rw[List.getElem?_eq_getElem (by simp at h1;omega),List.getElem?_eq_getElem (by simp at h2;omega)]at this;simpa using this
 have ex:xs=xs.take (p+1)++xs.drop (p+1):=(List.take_append_drop _ _).symm;have ey:ys=ys.take (p+1)++ys.drop (p+1):=(List.take_append_drop _ _).symm;rw[ex,ey,hd,val_append,val_append,take_succ_getD xs p (by omega),take_succ_getD ys p (by omega),val_append,val_append];have a1:=val_lt (by omega) (hx.take p);have a2:=val_nonneg (by omega) (hy.take p);have l1:(xs.take p).length=p:=by simp;omega
 have l2:(ys.take p).length=p:=by simp;omega
 simp only[List.length_append,l1,l2,List.length_cons,List.length_nil,val,Int.mul_zero,Int.add_zero];rw[l1]at a1;have a3:B^p*(xs.getD p 0+1)≤B^p*ys.getD p 0:=Int.mul_le_mul_of_nonneg_left (by omega) (Int.le_of_lt (Int.pow_pos (by omega)));rw[Int.mul_add]at a3;omega
theorem cmpI_lt{a b:Int}(h:a<b):cmpI a b = -1:=by simp[cmpI,h]
theorem cmpI_gt{a b:Int}(h:b<a):cmpI a b=1:=by unfold cmpI;rw[if_neg (by omega),if_pos h]
theorem cmpI_eq{a b:Int}(h:a=b):cmpI a b=0:=by unfold cmpI;rw[if_neg (by omega),if_neg (by omega)]
theorem top_lt_val{B:Int}(hB:1<B){xs ys:List Int}(hx:Dg B xs)(hy:Dg B ys)(h:top xs<top ys):val B xs<val B ys:=by
 by_cases hv:val B xs<val B ys
 ·exact hv
 ·have:=top_mono hB hy hx (by omega);omega
def Drew (w w':World):Prop:=∃n,w'=w.drewN n
theorem Drew.refl(w:World):Drew w w:=⟨0,rfl⟩
theorem Drew.more{w w':World}(h:Drew w w')(n:Nat):Drew w (w'.drewN n):=by obtain⟨m,rfl⟩:=h;exact⟨m+n,World.drewN_drewN _ _ _⟩
theorem Drew.trans{a b c:World}(h:Drew a b)(k:Drew b c):Drew a c:=by obtain⟨n,rfl⟩:=k;exact h.more n
theorem Drew.cell{w w':World}(h:Drew w w')(p:Addr):w'.cell? p=w.cell? p:=by obtain⟨n,rfl⟩:=h;simp
theorem Drew.below{w w':World}(h:Drew w w')(B:Nat):Below B w w':=by obtain⟨n,rfl⟩:=h;exact below_drewN (Below.refl _ _) n
theorem Drew.size{w w':World}(h:Drew w w'):w'.heap.size=w.heap.size:=by obtain⟨n,rfl⟩:=h;simp
theorem Cmp_any(ao bo:Option Addr)(la ca lb cb:Nat)(xs ys:List Int)(w:World)(h:NumIn .u64 B64 w ao la ca xs)(h':NumIn .u64 B64 w bo lb cb ys):
  Calls Tryz.prog 45 #[.slice ao la ca,.slice bo lb cb] w fun e w'=>e=.returned (.int .i64 (cmpI (val B64 xs) (val B64 ys)))∧Drew w w':=by
 have hl:=h.len;have hl':=h'.len;have ht:=top_le xs;have ht':=top_le ys;have hs:=h.sm;have hs':=h'.sm;have HX:∀w,Lies .u64 w ao la xs→Calls Tryz.prog 73 #[.slice ao la ca] w fun e w'=>e=.returned (.int .i64 (top xs))∧w'=w:=fun w hw=>limbs_any ao la ca xs w hw (by unfold maxLen;omega);have HY:∀w,Lies .u64 w bo lb ys→Calls Tryz.prog 73 #[.slice bo lb cb] w fun e w'=>e=.returned (.int .i64 (top ys))∧w'=w:=fun w hw=>limbs_any bo lb cb ys w hw (by unfold maxLen;omega);have HC:=compare_int (top xs) (top ys);by_cases hne:top xs=top ys
 ·rw[cmpI_eq (by omega)]at HC;have hvx:=val_take_top B64 xs;have hvy:=val_take_top B64 ys;rw[←hne]at HY HC hvy ht';generalize hn:top xs=n at *;clear hn hne;have HVX:Hid _:=hvx;have HVY:Hid _:=hvy;clear hvx hvy;go_enter Tryz.func45,Tryz.ntmps45;go_wp2_with fail
  refine(HX _ h.lies).mono ?_;rintro e w' ⟨rfl,rfl⟩;go_wp2_with fail
  refine(HY _ h'.lies).mono ?_;rintro e w' ⟨rfl,rfl⟩;go_wp2_with fail
  refine(HC _).mono ?_;rintro e w' ⟨rfl,rfl⟩;go_wp2;go_loopw [20] (fun i wr=>∃(k:Nat),k≤n∧i=.int .i64 k∧(∀j,n-k≤j→j<n→xs.getD j 0=ys.getD j 0)∧Drew w' wr) (fun i _=>n-(intOf i).toNat)
  case atStart=>exact⟨0,Nat.zero_le _,rfl,fun j h1 h2=>by omega,Drew.refl _⟩
  case round=>
   obtain⟨k,hk,rfl,heq,hdr⟩:=hrel;by_cases hlt:k<n
   ·obtain⟨b,off,rfl,hb,hc⟩:=h.lies.at (by omega);obtain⟨b2,off2,rfl,hb2,hc2⟩:=h'.lies.at (by omega);have hcell:=(hdr.cell _).trans (hc (n-1-k) (by omega));have hcell2:=(hdr.cell _).trans (hc2 (n-1-k) (by omega));have hxg:∀j,j<n→(xs.take n).getD j 0=xs.getD j 0:=fun j hj=>by simp[List.getD,List.getElem?_take,hj]
    have hyg:∀j,j<n→(ys.take n).getD j 0=ys.getD j 0:=fun j hj=>by simp[List.getD,List.getElem?_take,hj]
    have hL:=cmp_at B64 B64_one (xs.take n) (ys.take n) (h.dg.take n) (h'.dg.take n) n (by simp;omega) (by simp;omega) (n-1-k) (by omega) (fun j h1 h2=>by rw[hxg j h2,hyg j h2];exact heq j (by omega) h2);have hG:=cmp_at B64 B64_one (ys.take n) (xs.take n) (h'.dg.take n) (h.dg.take n) n (by simp;omega) (by simp;omega) (n-1-k) (by omega) (fun j h1 h2=>by rw[hxg j h2,hyg j h2];exact(heq j (by omega) h2).symm);rw[hxg _ (by omega),hyg _ (by omega),HVX.out,HVY.out]at hL hG;have hE:xs.getD (n-1-k) 0=ys.getD (n-1-k) 0→∀j,n-(k+1)≤j→j<n→xs.getD j 0=ys.getD j 0:=fun h0 j h1 h2=>by
     by_cases hj:j=n-1-k
     ·rw[hj];exact h0
     ·exact heq j (by omega) h2
    have HL:Hid _:=hL;have HG:Hid _:=hG;have HE:Hid _:=hE;have HU:=compare_u64 (xs.getD (n-1-k) 0) (ys.getD (n-1-k) 0);clear hxg hyg hL hG hE heq HVX HVY HX HY HC hc hc2;have ep:(n:Int)-1-(k:Int)=((n-1-k:Nat):Int):=by omega
    have b1:((n-1-k:Nat):Int)<(la:Int):=by omega
    have b2:((n-1-k:Nat):Int)<(lb:Int):=by omega
    generalize xs.getD (n-1-k) 0=x at *;generalize ys.getD (n-1-k) 0=y at *;generalize n-1-k=p at *;rcases Int.lt_trichotomy x y with hxy|hxy|hxy
    ·rw[cmpI_lt hxy]at HU;have HFIN:Hid _:=cmpI_lt (HL.out hxy);clear HL HG HE;go_wp2;go_quiet ((go_at_call 75;exact Calls.quiet_of_same (HU _)))
     go_wp2;go_ret;exact⟨ret_int HFIN.out.symm,hdr.more _⟩
    ·rw[cmpI_eq hxy]at HU;have HFIN:Hid _:=HE.out hxy;clear HL HG HE hxy;go_wp2;go_quiet ((go_at_call 75;exact Calls.quiet_of_same (HU _)))
     go_wp2;go_roundw
     case rel=>exact⟨k+1,by omega,by go_num,HFIN.out,hdr.more _⟩
     case measure=>simp[intOf];omega
    ·rw[cmpI_gt hxy]at HU;have HFIN:Hid _:=cmpI_gt (HG.out hxy);clear HL HG HE;go_wp2;go_quiet ((go_at_call 75;exact Calls.quiet_of_same (HU _)))
     go_wp2;go_ret;exact⟨ret_int HFIN.out.symm,hdr.more _⟩
   ·obtain rfl:k=n:=by omega
    have HF:Hid (val B64 xs=val B64 ys):=by
     unfold Hid;rw[←HVX.out,←HVY.out];congr 1
     apply List.ext_getElem
     ·simp;omega
     ·intro i h1 h2;have:=heq i (by omega) (by simp at h1;omega);simp only[List.getD]at this;rw[List.getElem?_eq_getElem (by simp at h1;omega),List.getElem?_eq_getElem (by simp at h2;omega)]at this;simpa using this
    clear heq HX HY HC HVX HVY;go_wp2;go_ret;exact⟨ret_int (cmpI_eq HF.out).symm,hdr⟩
 ·have HF:Hid (cmpI (top xs) (top ys)=cmpI (val B64 xs) (val B64 ys)):=by
   unfold Hid;rcases Nat.lt_or_gt_of_ne hne with hlt|hlt
   ·rw[cmpI_lt (by omega),cmpI_lt (top_lt_val B64_one h.dg h'.dg hlt)]
   ·rw[cmpI_gt (by omega),cmpI_gt (top_lt_val B64_one h'.dg h.dg hlt)]
  have hnz:(cmpI (top xs) (top ys) != 0)=true:=by
   rcases Nat.lt_or_gt_of_ne hne with hlt|hlt
   ·rw[cmpI_lt (by omega)];decide
   ·rw[cmpI_gt (by omega)];decide
  clear hne;generalize cmpI (top xs) (top ys)=c at *;go_enter Tryz.func45,Tryz.ntmps45;go_wp2_with fail
  refine(HX _ h.lies).mono ?_;rintro e w' ⟨rfl,rfl⟩;go_wp2_with fail
  refine(HY _ h'.lies).mono ?_;rintro e w' ⟨rfl,rfl⟩;go_wp2_with fail
  refine(HC _).mono ?_;rintro e w' ⟨rfl,rfl⟩;go_wp2;go_ret;exact⟨ret_int HF.out,Drew.refl _⟩
theorem add_none(b off j:Nat):(⟨b,off,none⟩:Addr).add j=⟨b,off+j,none⟩:=by
 simp only[Addr.add];split
 ·subst j;rfl
 ·rfl
theorem wpList_copy_row{P:Program}{w:World}{ops:Array Oper}{rest:List Oper}{o:Oper}{a:Act}{Q:Exit→Act→World→Prop}(hgd:o.guard=none)(d s:Operand)(dT sT:TypeId)
  (ho:o.op=.call { callee:=.builtin .copy,args:=#[d,s],argTypes:=#[dT,sT] }) (e:TypeId) (hu:P.underlying dT=some (.slice e)) (k:IntKind) (bytes:Nat)
  (h2:(P.info? e).map (fun i=>(i.zero,i.size,i.bytes))=some (some (.int k 0),1,bytes)) (g:Nat) (ao:Option Addr) (dl dc sl sc:Nat)
  (hd:a.eval d=.slice (some ⟨g,0,none⟩) dl dc) (hs:a.eval s=.slice ao sl sc) (xs ys:List Int) (hr:Row e k w g xs) (hy:Lies k w ao sl ys) (hdl:dl≤xs.length) (n:Nat) (hn:n=min sl dl)
  (B:Nat) (w0:World) (hb:Below B w0 w) (hB:B≤g)
  (h:∀w',Row e k w' g (ys.take n++xs.drop n)→Below B w0 w'→wpList P ops Q rest (a.put o.dst (goInt n)) w'):wpList P ops Q (o::rest) a w:=by
 have hl:=hy.len;have hsz:(P.info? e).map (·.size)=some 1:=by obtain⟨i,hi,_,hz,_⟩:=info_parts h2;rw[hi];simp[hz]
 have hcl:((ys.take n).map (Value.int k)).length=n:=by simp;omega
 refine wpList_copy_splice hgd d s dT sT ho e hu hsz _ ao dl dc sl sc hd hs g 0 (xs.map (Value.int k)) e hr ((ys.take n).map (Value.int k)) (by rw[hcl];exact hn) ?_ (by rw[hcl];simp;omega) (ints_oneCell _ _) B w0 hb hB ?_
 ·intro h0;rw[hcl]at h0;obtain⟨b,off,rfl,hlt,hc⟩:=hy.at (by omega);refine⟨rfl,_,rfl,fun j v hj => ?_⟩;simp only[List.getElem?_map,List.getElem?_take]at hj;split at hj
  ·have:=hc j (by omega);rw[List.getElem?_eq_getElem (by omega)]at hj;simp only[Option.map_some,Option.some.injEq]at hj;rw[add_none,this,←hj];simp[List.getD,List.getElem?_eq_getElem (show j<ys.length by omega)]
  ·simp at hj
 ·intro w' hg hb';rw[hcl];refine h w' ?_ hb';unfold Row;rw[hg.out];congr 2
  simp only[splice,List.take_zero,List.nil_append,Nat.zero_add,hcl];simp
theorem Norm_any(ao:Option Addr)(len cap:Nat)(xs:List Int)(w:World)(h:NumIn .u64 B64 w ao len cap xs):
  Calls Tryz.prog 98 #[.slice ao len cap] w fun e w'=>∃v,e=.returned v∧NumOut .u64 B64 w w' v (val B64 xs) len:=by
 have hl:=h.len;have ht:=top_le xs;have hs:=h.sm;go_enter Tryz.func98,Tryz.ntmps98;go_wp2_with fail
 refine(limbs_any ao len cap xs w h.lies (by unfold maxLen;omega)).mono ?_;rintro e w' ⟨rfl,rfl⟩;go_wp2_with (at_make;refine wpList_make_row _ rfl _ _ 24 rfl 47 .u64 8 Tryz.underlying24 Tryz.infoU _ _ _ _ (top xs) rfl rfl rfl rfl (by omega) (by unfold maxLen;omega) ?_)
 intro w1 hrow hbel;have hl1:=h.lies.old hbel;go_wp2_with (refine wpList_copy_row rfl _ _ 24 24 rfl 47 Tryz.underlying24 .u64 8 Tryz.infoU w'.heap.size ao _ _ _ _ rfl rfl _ xs hrow hl1 (by simp) (top xs) (by omega) w'.heap.size w' hbel (Nat.le_refl _) ?_)
 intro w2 hr2 hb2;go_wp2;go_ret;refine⟨_,rfl,?_⟩;have hn:=hr2.num (h.dg.take (top xs)) (by simp;omega);have e1:(xs.take (top xs)).length=top xs:=by simp;omega
 rw[e1]at hn;exact⟨_,_,_,_,rfl,hn,canon_take_top xs,val_take_top _ _,by omega,hb2⟩
def low (B:Int)(xs:List Int)(i:Nat):Int:=val B (xs.take i)
theorem low_zero(B:Int)(xs:List Int):low B xs 0=0:=by simp[low,val]
theorem low_succ(B:Int)(xs:List Int)(i:Nat):low B xs (i+1)=low B xs i+B^i*xs.getD i 0:=by
 unfold low;by_cases h:i<xs.length
 ·rw[take_succ_getD xs i h,val_append];have:(xs.take i).length=i:=by simp;omega
  rw[this];simp[val]
 ·rw[List.take_of_length_le (by omega),List.take_of_length_le (by omega)];have:xs.getD i 0=0:=by simp[List.getD,List.getElem?_eq_none (show xs.length≤i by omega)]
  rw[this];simp
theorem low_all(B:Int)(xs:List Int)(m:Nat)(h:top xs≤m):low B xs m=val B xs:=by
 unfold low;rw[←val_take_top B xs];have e:xs.take m=xs.take (top xs)++(xs.drop (top xs)).take (m-top xs):=by
  conv=>lhs;rw[show m=top xs+(m-top xs) by omega]
  rw[List.take_add]
 rw[e,val_append,val_zeros B ((xs.drop (top xs)).take (m-top xs)) ?_]
 ·simp
 ·intro j;have:=top_above xs (top xs+j) (by omega);simp only[List.getD,List.getElem?_take,List.getElem?_drop]at this ⊢;split
  ·exact this
  ·rfl
theorem low_len(B:Int)(xs:List Int):low B xs xs.length=val B xs:=by unfold low;rw[List.take_of_length_le (Nat.le_refl _)]
theorem low_set(B:Int)(xs:List Int)(i j:Nat)(y:Int)(h:i≤j):low B (xs.set j y) i=low B xs i:=by unfold low;rw[List.take_set_of_le h]
theorem low_set_succ(B:Int)(xs:List Int)(i:Nat)(y:Int)(h:i<xs.length):low B (xs.set i y) (i+1)=low B xs i+B^i*y:=by rw[low_succ,low_set B xs i i y (Nat.le_refl _),getD_set _ _ _ _ h,if_pos rfl]
theorem row_alloc(w:World)(e:TypeId)(k:IntKind)(n:Int):Row e k (w.alloc (.cells #[.int k n] e)) w.heap.size [n]:=by unfold Row;rw[heap_alloc_new w];rfl
theorem Of_any(n:Int)(w:World)(h0:0≤n)(h1:n<18446744073709551616):
  Calls Tryz.prog 77 #[.int .u64 n] w fun e w'=>∃v,e=.returned v∧NumOut .u64 B64 w w' v n 1:=by
 have hr:=(row_alloc w 47 .u64 n).num (B:=B64) (Dg.cons ⟨h0,h1⟩ (Dg.nil _)) (by simp);have hb:Below w.heap.size w (w.alloc (.cells #[.int .u64 n] 47)):=(Below.refl _ _).alloc (Nat.le_refl _) _;have HB:Hid _:=hb;clear hb;go_enter Tryz.func77,Tryz.ntmps77;go_wp2_with fail
 refine(trim_any _ _ _ [n] _ hr.lies hr.lc hr.cm hr.nn).mono ?_;rintro e w' ⟨rfl,rfl⟩;go_wp2;go_ret;exact⟨_,rfl,hr.out HB.out n (by simp[val]) 1 (Nat.le_refl _)⟩
def Adds (xs ys:List Int)(m i:Nat)(cur:List Int)(c:Int):Prop:=
 cur.length=m+1∧Dg B64 cur∧0≤c∧c≤1∧low B64 cur i+B64^i*c=low B64 xs i+low B64 ys i
theorem Adds.zero(xs ys:List Int)(m:Nat):Adds xs ys m 0 (List.replicate (m+1) 0) 0:=
 ⟨by simp,Dg.zeros B64_pos _,by decide,by decide,by simp[low_zero]⟩
theorem Adds.step{xs ys:List Int}{m i:Nat}{cur:List Int}{c:Int}(h:Adds xs ys m i cur c)(hi:i<m+1){ne c':Int}(hn:0≤ne∧ne<B64)(hc:0≤c'∧c'≤1)
  (he:ne+B64*c'=xs.getD i 0+ys.getD i 0+c):Adds xs ys m (i+1) (cur.set i ne) c':=by
 obtain⟨h1,h2,h3,h4,h5⟩:=h;refine⟨by simp[h1],h2.set _ hn,hc.1,hc.2,?_⟩;rw[low_set_succ _ _ _ _ (by omega),low_succ,low_succ,Int.pow_succ];generalize low B64 cur i=A at *;generalize low B64 xs i=X at *;generalize low B64 ys i=Y at *;generalize B64^i=p at *;generalize B64=b at *
 grind
theorem Adds.done{xs ys:List Int}{m:Nat}{cur:List Int}{c:Int}(h:Adds xs ys m m cur c)(hx:top xs≤m)(hy:top ys≤m):Dg B64 (cur.set m c)∧(cur.set m c).length=m+1∧val B64 (cur.set m c)=val B64 xs+val B64 ys:=by
 obtain⟨h1,h2,h3,h4,h5⟩:=h;refine⟨h2.set _ ⟨h3,by unfold B64;omega⟩,by simp[h1],?_⟩;have:(cur.set m c).length=m+1:=by simp[h1]
 rw[←low_len,this,low_set_succ _ _ _ _ (by omega),h5,low_all _ _ _ hx,low_all _ _ _ hy]
theorem Add_any(ao bo:Option Addr)(la ca lb cb:Nat)(xs ys:List Int)(w:World)(h:NumIn .u64 B64 w ao la ca xs)(h':NumIn .u64 B64 w bo lb cb ys)(hsum:la+lb<1073741824):
  Calls Tryz.prog 135 #[.slice ao la ca,.slice bo lb cb] w fun e w'=>∃v,e=.returned v∧NumOut .u64 B64 w w' v (val B64 xs+val B64 ys) (max la lb+1):=by
 have hl:=h.len;have hl':=h'.len;have ht:=top_le xs;have ht':=top_le ys;obtain⟨m,hm,hm1,hm2⟩:∃m:Nat,max (top xs:Int) (top ys:Int)=(m:Int)∧m≤max la lb∧(top xs≤m∧top ys≤m):=⟨max (top xs) (top ys),by omega,by omega,by omega,by omega⟩
 have hmb:m<1073741824:=by omega
 go_enter Tryz.func135,Tryz.ntmps135;go_wp2_with fail
 refine(limbs_any ao la ca xs w h.lies (by unfold maxLen;omega)).mono ?_;rintro e w' ⟨rfl,rfl⟩;go_wp2_with fail
 refine(limbs_any bo lb cb ys _ h'.lies (by unfold maxLen;omega)).mono ?_;rintro e w' ⟨rfl,rfl⟩;go_wp2_with (at_make;refine wpList_make_row _ rfl _ _ 24 rfl 47 .u64 8 Tryz.underlying24 Tryz.infoU _ _ _ _ (m+1) rfl rfl (by omega) (by omega) (by omega) (by unfold maxLen;omega) ?_)
 intro w1 hrow hbel;go_wp2;go_loopw [7,18] (fun c i wr=>∃(k:Nat) (cur:List Int) (cc:Int),k≤m∧i=.int .i64 k∧c=.int .u64 cc∧Row 47 .u64 wr w'.heap.size cur∧Adds xs ys m k cur cc∧Below w'.heap.size w' wr) (fun _ i _=>m-(intOf i).toNat)
 case atStart=>exact⟨0,_,0,Nat.zero_le _,rfl,rfl,hrow,Adds.zero xs ys m,hbel⟩
 case round=>
  obtain⟨k,cur,cc,hk,rfl,rfl,hr,ha,hb⟩:=hrel;by_cases hlt:k<m
  ·have hx:=h.lies.old hb;have hy:=h'.lies.old hb;have HX:=fun w hw=>limb_any ao la ca xs (k:Int) w hw (by unfold maxLen;omega) (by omega);have HY:=fun w hw=>limb_any bo lb cb ys (k:Int) w hw (by unfold maxLen;omega) (by omega);rw[Int.toNat_natCast]at HX HY;have gx:=h.dg.getD B64_pos k;have gy:=h'.dg.getD B64_pos k;have hfr:=hr.frozen k;have hcl:=hr.cell k (by have:=ha.1;omega);have hst:=fun ne c'=>ha.step (ne:=ne) (c':=c') (by omega);have hc0:=ha.2.2.1;have hc1:=ha.2.2.2.1;generalize xs.getD k 0=x at *;generalize ys.getD k 0=y at *;obtain⟨ne,ov,HC,e3,e4⟩:∃ne ov,(∀w,(callFunc 145 #[.int .u64 x,.int .u64 y,.int .u64 cc]).run Tryz.prog w=.ok (.value (.tuple #[.int .u64 ne,.int .u64 ov])) w)∧ne=(x+y+cc)%18446744073709551616∧ov=(x+y+cc)/18446744073709551616:=
    ⟨_,_,add64 x y cc gx.1 gy.1 hc0 hc1,rfl,rfl⟩
   unfold B64 at gx gy;have HS:Hid _:=hst ne ov (by unfold B64;omega) (by omega) (by unfold B64;omega);have HR:Hid _:=hr.set k ne;have HB:Hid _:=hb.setCell (p:=⟨w'.heap.size,k,none⟩) (Nat.le_refl _) (.int .u64 ne);have HLX:=hx;have HLY:=hy;clear hst e3 e4 ha hr hb hrow hbel h h' gx gy hm hm1 hm2 hx hy;go_wp2_with fail
   refine(HX _ HLX).mono ?_;rintro e w2 ⟨rfl,rfl⟩;go_wp2_with fail
   refine(HY _ HLY).mono ?_;rintro e w3 ⟨rfl,rfl⟩;go_wp2_with (simp only[HC])
   go_roundw
   case rel=>exact⟨k+1,_,_,by omega,by go_num,rfl,HR.out,HS.out,HB.out⟩
   case measure=>simp[intOf];omega
  ·obtain rfl:k=m:=by omega
   have hd:=ha.done hm2.1 hm2.2;have hfr:=hr.frozen k;have hcl:=hr.cell k (by have:=ha.1;omega);have hr':=(hr.set k cc).num hd.1 (by omega);have hb':=hb.setCell (p:=⟨w'.heap.size,k,none⟩) (Nat.le_refl _) (.int .u64 cc);rw[hd.2.1]at hr';have HV:Hid _:=hd.2.2;have HR:Hid (NumIn _ _ _ _ _ _ _):=hr';have HB:Hid (Below _ _ _):=hb';clear hd hr' hb' ha hb hr hrow hbel hm hm2;go_wp2_with fail
   refine(trim_any _ _ _ _ _ HR.out.lies HR.out.lc HR.out.cm HR.out.nn).mono ?_;rintro e w4 ⟨rfl,rfl⟩;go_wp2;go_ret;exact⟨_,rfl,HR.out.out HB.out _ HV.out _ (by omega)⟩
attribute [local go_sem ↓] Go.wp_at_zero Go.wp_at_succ
def Subs (xs ys:List Int)(m i:Nat)(cur:List Int)(c:Int):Prop:=
 cur.length=m∧Dg B64 cur∧0≤c∧c≤1∧low B64 cur i-B64^i*c=low B64 xs i-low B64 ys i
theorem Subs.zero(xs ys:List Int)(m:Nat):Subs xs ys m 0 (List.replicate m 0) 0:=
 ⟨by simp,Dg.zeros B64_pos _,by decide,by decide,by simp[low_zero]⟩
theorem Subs.step{xs ys:List Int}{m i:Nat}{cur:List Int}{c:Int}(h:Subs xs ys m i cur c)(hi:i<m){ne c':Int}(hn:0≤ne∧ne<B64)(hc:0≤c'∧c'≤1)
  (he:ne-B64*c'=xs.getD i 0-ys.getD i 0-c):Subs xs ys m (i+1) (cur.set i ne) c':=by
 obtain⟨h1,h2,h3,h4,h5⟩:=h;refine⟨by simp[h1],h2.set _ hn,hc.1,hc.2,?_⟩;rw[low_set_succ _ _ _ _ (by omega),low_succ,low_succ,Int.pow_succ];generalize low B64 cur i=A at *;generalize low B64 xs i=X at *;generalize low B64 ys i=Y at *;generalize B64^i=p at *;generalize B64=b at *
 grind
theorem Subs.done{xs ys:List Int}{m:Nat}{cur:List Int}{c:Int}(h:Subs xs ys m m cur c)(hx:top xs≤m)(hy:top ys≤m)(hle:val B64 ys≤val B64 xs):val B64 cur=val B64 xs-val B64 ys:=by
 obtain⟨h1,h2,h3,h4,h5⟩:=h;rw[low_all _ _ _ hx,low_all _ _ _ hy]at h5;have e:low B64 cur m=val B64 cur:=by rw[←h1,low_len]
 rw[e]at h5;have hlt:=val_lt B64_pos h2;rw[h1]at hlt;have:c=0∨c=1:=by omega
 rcases this with rfl|rfl
 ·omega
 ·rw[Int.mul_one]at h5;omega
theorem Sub_yes(ao bo:Option Addr)(la ca lb cb:Nat)(xs ys:List Int)(w:World)(h:NumIn .u64 B64 w ao la ca xs)(h':NumIn .u64 B64 w bo lb cb ys)(hle:val B64 ys≤val B64 xs):
  Calls Tryz.prog 136 #[.slice ao la ca,.slice bo lb cb] w fun e w'=>∃v,e=.returned (.tuple #[v,.bool true])∧NumOut .u64 B64 w w' v (val B64 xs-val B64 ys) la:=by
 have hl:=h.len;have hl':=h'.len;have ht:=top_le xs;have ht':=top_le ys;have hs:=h.sm;have hs':=h'.sm;have hm2:top ys≤top xs:=top_mono B64_one h'.dg h.dg hle;obtain⟨c0,HC0,hc0⟩:∃c0,(∀w,NumIn .u64 B64 w ao la ca xs→NumIn .u64 B64 w bo lb cb ys→Calls Tryz.prog 45 #[.slice ao la ca,.slice bo lb cb] w fun e w'=>e=.returned (.int .i64 c0)∧Drew w w')∧0≤c0:=
  ⟨_,fun w a b=>Cmp_any ao bo la ca lb cb xs ys w a b,by unfold cmpI;split<;>(try split)<;>omega⟩
 generalize hm:top xs=m at *;go_enter Tryz.func136,Tryz.ntmps136;go_wp2_with fail
 refine(HC0 _ h h').mono ?_;rintro e w1 ⟨rfl,hd⟩;have h1:=h.old (hd.below _);have h1':=h'.old (hd.below _);go_wp2_with fail
 have HLI:=limbs_any ao la ca xs w1 h1.lies (by unfold maxLen;omega);rw[hm]at HLI;refine HLI.mono ?_;rintro e w2 ⟨rfl,rfl⟩;have HM:Hid _:=hm;clear HLI hm;go_wp2_with (at_make;refine wpList_make_row _ rfl _ _ 24 rfl 47 .u64 8 Tryz.underlying24 Tryz.infoU _ _ _ _ m rfl rfl rfl rfl (by omega) (by unfold maxLen;omega) ?_)
 intro w3 hrow hbel;go_wp2;go_loopw [7,18] (fun c i wr=>∃(k:Nat) (cur:List Int) (cc:Int),k≤m∧i=.int .i64 k∧c=.int .u64 cc∧Row 47 .u64 wr w2.heap.size cur∧Subs xs ys m k cur cc∧Below w2.heap.size w2 wr) (fun _ i _=>m-(intOf i).toNat)
 case atStart=>exact⟨0,_,0,Nat.zero_le _,rfl,rfl,hrow,Subs.zero xs ys m,hbel⟩
 case round=>
  obtain⟨k,cur,cc,hk,rfl,rfl,hr,ha,hb⟩:=hrel;by_cases hlt:k<m
  ·have hx:=h1.lies.old hb;have hy:=h1'.lies.old hb;have HY:=fun w hw=>limb_any bo lb cb ys (k:Int) w hw (by unfold maxLen;omega) (by omega);rw[Int.toNat_natCast]at HY;have gx:=h.dg.getD B64_pos k;have gy:=h'.dg.getD B64_pos k;obtain⟨b,off,rfl,hblk,hc⟩:=hx.at (by omega);have hcell:=hc k (by omega);have hfr:=hr.frozen k;have hcl:=hr.cell k (by have:=ha.1;omega);have hst:=fun ne c'=>ha.step (ne:=ne) (c':=c') (by omega);have hcc0:=ha.2.2.1;have hcc1:=ha.2.2.2.1;generalize xs.getD k 0=x at *;generalize ys.getD k 0=y at *;obtain⟨ne,ov,HC,e3,e4⟩:∃ne ov,(∀w,(callFunc 149 #[.int .u64 x,.int .u64 y,.int .u64 cc]).run Tryz.prog w=.ok (.value (.tuple #[.int .u64 ne,.int .u64 ov])) w)∧ne=(x-y-cc)%18446744073709551616∧ov=bor x (y+cc):=
    ⟨_,_,sub64 x y cc gx.1 gy.1 gy.2 hcc0 hcc1,rfl,rfl⟩
   unfold B64 at gx gy;unfold bor at e4;have HS:Hid _:=hst ne ov (by unfold B64;omega) (by split at e4<;>omega) (by unfold B64;split at e4<;>omega);have HR:Hid _:=hr.set k ne;have HB:Hid _:=hb.setCell (p:=⟨w2.heap.size,k,none⟩) (Nat.le_refl _) (.int .u64 ne);have HLY:=hy;have i0:(0:Int)≤(k:Int):=by omega
   have i1:(k:Int)<(la:Int):=by omega
   have i2:(k:Int)<(m:Int):=by omega
   clear hst e3 e4 ha hr hb hrow hbel h h' gx gy hm2 hx hy hc HC0 hle h1 h1' HM hd;go_wp2;go_region_with (first|(go_at_call 126;refine(HY wr.drew HLY).mono ?_;rintro e w2 ⟨rfl,rfl⟩)|simp only[HC])
   all_goals
    go_wp2;go_roundw
    case rel=>exact⟨k+1,_,_,by omega,by go_num,rfl,HR.out,HS.out,HB.out.drew⟩
    case measure=>simp[intOf];omega
  ·obtain rfl:k=m:=by omega
   have hv:=ha.done (by rw[HM.out];exact Nat.le_refl _) hm2 hle;have hlen:=ha.1;have hr':=hr.num ha.2.1 (by omega);rw[hlen]at hr';have HV:Hid _:=hv;have HR:Hid (NumIn _ _ _ _ _ _ _):=hr';have HB:Hid (Below w.heap.size w wr):=((hd.below _).trans (hb.mono (by rw[hd.size];exact Nat.le_refl _)))
   clear hv hr' ha hb hr hrow hbel hm2 HC0 hle h1 h1' hlen;go_wp2_with fail
   refine(trim_any _ _ _ _ _ HR.out.lies HR.out.lc HR.out.cm HR.out.nn).mono ?_;rintro e w4 ⟨rfl,rfl⟩;go_wp2;go_ret2
   exact⟨_,rfl,HR.out.out HB.out _ HV.out _ (by omega)⟩
end
section
open Go.RowKit
attribute [local go_sem ↓] Go.wp_at_zero Go.wp_at_succ
theorem low_congr(B:Int)(xs ys:List Int):∀(i:Nat),(∀j,j<i→xs.getD j 0=ys.getD j 0)→low B xs i=low B ys i
 | 0,_=>by simp[low_zero]
 | i+1,h=>by rw[low_succ,low_succ,low_congr B xs ys i (fun j hj=>h j (by omega)),h i (by omega)]
theorem low_add(B:Int)(xs:List Int)(o:Nat):∀(i:Nat),o+i≤xs.length→low B xs (o+i)=low B xs o+B^o*val B (seg xs o i)
 | 0,_=>by simp[seg,val]
 | i+1,h=>by
  rw[show o+(i+1)=(o+i)+1 by omega,low_succ,low_add B xs o i (by omega),seg_succ xs o i (by omega),val_append,seg_len xs o i (by omega)];simp only[val,Int.mul_zero,Int.add_zero,Int.pow_add]
  grind
def Muls (xs ys:List Int)(i:Nat)(cur:List Int):Prop:=
 cur.length=xs.length+ys.length∧Dg B64 cur∧(∀j,i+ys.length≤j→cur.getD j 0=0)∧low B64 cur (i+ys.length)=low B64 xs i*val B64 ys
theorem getD_zeros(n j:Nat):(List.replicate n (0:Int)).getD j 0=0:=by simp[List.getD,List.getElem?_replicate];split<;>rfl
theorem low_zeros(B:Int)(n i:Nat):low B (List.replicate n 0) i=0:=by
 unfold low;exact val_zeros B _ (fun j=>by
  simp only[List.getD,List.getElem?_take];split
  ·exact getD_zeros n j
  ·rfl)
theorem Muls.zero(xs ys:List Int):Muls xs ys 0 (List.replicate (xs.length+ys.length) 0):=
 ⟨by simp,Dg.zeros B64_pos _,fun j _=>getD_zeros _ j,by rw[low_zeros,low_zero,Int.zero_mul]⟩
theorem Muls.step{xs ys:List Int}{i:Nat}{cur cur':List Int}{c:Int}(h:Muls xs ys i cur)(hi:i<xs.length)(hr:Runs 1 cur ys i ys.length (xs.getD i 0) cur' c):Muls xs ys (i+1) (cur'.set (i+ys.length) c):=by
 obtain⟨h1,h2,h3,h4⟩:=h;obtain⟨r1,r2,r3,r4,r5,r6⟩:=hr;refine⟨by simp[r1,h1],r3.set _ ⟨r4,r5⟩,fun j hj => ?_,?_⟩
 ·rw[getD_set _ _ _ _ (by omega),if_neg (by omega),r2 j (by omega)];exact h3 j (by omega)
 ·rw[show i+1+ys.length=(i+ys.length)+1 by omega,low_set_succ _ _ _ _ (by omega),low_add _ _ _ _ (by omega)];rw[low_congr B64 cur' cur i (fun j hj=>r2 j (by omega))];rw[low_add _ _ _ _ (by omega)]at h4;rw[low_succ,Int.pow_add];rw[List.take_of_length_le (Nat.le_refl _)]at r6;generalize val B64 (seg cur' i ys.length)=A at *;generalize val B64 (seg cur i ys.length)=C at *;generalize low B64 cur i=L at *;generalize low B64 xs i=X at *;generalize B64^i=p at *;generalize B64^ys.length=q at *;generalize val B64 ys=Y at *;generalize xs.getD i 0=t at *;have e:L+p*A+p*q*c=L+p*(A+1*(q*c)):=by grind
  rw[e,r6]
  grind
theorem Muls.done{xs ys:List Int}{cur:List Int}(h:Muls xs ys xs.length cur):val B64 cur=val B64 xs*val B64 ys:=by rw[←low_len,h.1,h.2.2.2,low_len]
theorem Mul_any(ao bo:Option Addr)(la ca lb cb:Nat)(xs0 ys0:List Int)(w:World)(h0:NumIn .u64 B64 w ao la ca xs0)(h0':NumIn .u64 B64 w bo lb cb ys0)(hsum:la+lb<1073741824):
  Calls Tryz.prog 101 #[.slice ao la ca,.slice bo lb cb] w fun e w'=>∃v,e=.returned v∧NumOut .u64 B64 w w' v (val B64 xs0*val B64 ys0) (la+lb):=by
 have hl:=h0.len;have hl':=h0'.len;have ht:=top_le xs0;have ht':=top_le ys0;have h:=h0.take (top xs0) (by omega);have h':=h0'.take (top ys0) (by omega);have HX:=trim_any ao la ca xs0 w h0.lies h0.lc h0.cm h0.nn;have HY:=trim_any bo lb cb ys0 w h0'.lies h0'.lc h0'.cm h0'.nn;rw[←val_take_top B64 xs0,←val_take_top B64 ys0];have lx:=h.len;have ly:=h'.len;generalize xs0.take (top xs0)=xs at *;generalize ys0.take (top ys0)=ys at *;generalize top xs0=n at *;generalize top ys0=m at *;have hnm:n+m<1073741824:=by omega
 have hnl:n≤la:=by omega
 have hml:m≤lb:=by omega
 clear h0 h0' ht ht' hl hl';go_enter Tryz.func101,Tryz.ntmps101;go_wp2_with fail
 refine HX.mono ?_;rintro e w1 ⟨rfl,rfl⟩;go_wp2_with fail
 refine HY.mono ?_;rintro e w2 ⟨rfl,rfl⟩;go_wp2_with (at_make;refine wpList_make_row _ rfl _ _ 24 rfl 47 .u64 8 Tryz.underlying24 Tryz.infoU _ _ _ _ (n+m) rfl rfl (by omega) (by omega) (by omega) (by unfold maxLen;omega) ?_)
 intro w3 hrow hbel;have hrow0:Row 47 .u64 w3 w2.heap.size (List.replicate (xs.length+ys.length) 0):=by rw[lx,ly];exact hrow
 go_wp2;go_loopw [21] (fun i wr=>∃(k:Nat) (cur:List Int),k≤n∧i=.int .i64 k∧Row 47 .u64 wr w2.heap.size cur∧Muls xs ys k cur∧Below w2.heap.size w2 wr) (fun i _=>n-(intOf i).toNat)
 case atStart=>exact⟨0,_,Nat.zero_le _,rfl,hrow0,Muls.zero xs ys,hbel⟩
 case round=>
  obtain⟨k,cur,hk,rfl,hr,ha,hb⟩:=hrel;by_cases hlt:k<n
  ·have hx:=h.lies.old hb;have hy:=h'.lies.old hb;have hyne:0<m→∀b off s,bo=some ⟨b,off,s⟩→b≠w2.heap.size:=by
    intro h0 b off s hbo;obtain⟨b',off',e,hlt',_⟩:=h'.lies.at h0;rw[e]at hbo;injection hbo with hbo;injection hbo with hbo;omega
   have gx:=h.dg.getD B64_pos k;obtain⟨b,off,rfl,hblk,hc⟩:=hx.at (by omega);have hcell:=hc k (by omega);have hlen:=ha.1;have hst:=fun cur' c=>ha.step (cur':=cur') (c:=c) (by omega);generalize xs.getD k 0=x at *;have i0:(0:Int)≤(k:Int):=by omega
   have i1:(k:Int)<(n:Int):=by omega
   have i2:(k:Int)≤(n+m:Nat):=by omega
   have i3:(k:Int)<(n+m:Nat):=by omega
   have i4:(k:Int)+m<(n+m:Nat):=by omega
   have hbne:some b≠some w2.heap.size:=by obtain⟨b',off',e,hlt',_⟩:=h.lies.at (by omega);injection e with e;injection e with e;simp;omega
   have HSTEP:Hid (∀cur' c,Runs 1 cur ys k ys.length x cur' c→Muls xs ys (k+1) (cur'.set (k+ys.length) c)):=hst;unfold B64 at gx;have HA:=addTimes_any 47 w2.heap.size k (n+m-k) (n+m-k) bo m cb cur ys x wr.drew hr hy hyne (by omega) (by omega) (by unfold maxLen;omega) ha.2.1 h'.dg gx.1 gx.2;have HCUR:Hid (cur.length=n+m):=by unfold Hid;omega
   have HB:Hid (Below w2.heap.size w2 wr):=hb;clear hst ha hr hrow hbel h h' hx hy hc hrow0 HX HY hyne hb gx hlen;go_wp2;go_region_with (first|(go_at_call 127;refine HA.mono ?_;rintro e w4 ⟨cur',c,rfl,hrow',hrun',hgr'⟩;have hcell4:=hgr'.cell (a:=⟨b,off+k,none⟩) hcell hbne;have hfr4:=hrow'.frozen (k+m);have hcl4:=hrow'.cell (k+m) (by have:=hrun'.1;have:=HCUR.out;omega)))
   all_goals
    have HR:Hid (Row 47 .u64 (w4.setCell ⟨w2.heap.size,k+m,none⟩ (.int .u64 c)) w2.heap.size (cur'.set (k+m) c)):=hrow'.set (k+m) c;have HM:Hid (Muls xs ys (k+1) (cur'.set (k+m) c)):=by have:=HSTEP.out cur' c (by rw[ly];exact hrun');rw[ly]at this;exact this
    have HBB:Hid (Below w2.heap.size w2 (w4.setCell ⟨w2.heap.size,k+m,none⟩ (.int .u64 c))):=(HB.out.drew.grown hgr' HB.out.size (fun j hj=>by injection hj with hj;omega)).setCell (p:=⟨w2.heap.size,k+m,none⟩) (Nat.le_refl _) _;clear hrow' hrun' hgr' HSTEP HA HB HCUR;go_wp2;go_roundw
    case rel=>exact⟨k+1,_,by omega,by go_num,HR.out,HM.out,HBB.out⟩
    case measure=>simp[intOf];omega
  ·obtain rfl:k=n:=by omega
   have hlen:=ha.1;have hv:val B64 cur=val B64 xs*val B64 ys:=by rw[←lx]at ha;exact ha.done
   have hr':=hr.num ha.2.1 (by omega);have HV:Hid _:=hv;have HR:Hid (NumIn _ _ _ _ _ _ _):=hr';have HB:Hid (Below w2.heap.size w2 wr):=hb;rw[hlen,lx,ly]at HR;clear hv hr' ha hb hr hrow hbel hrow0 hlen h h' HX HY;go_wp2_with fail
   refine(trim_any _ _ _ _ _ HR.out.lies HR.out.lc HR.out.cm HR.out.nn).mono ?_;rintro e w4 ⟨rfl,rfl⟩;go_wp2;go_ret;exact⟨_,rfl,HR.out.out HB.out _ HV.out _ (by omega)⟩
end
section
open Go.RowKit
attribute [local go_sem ↓] Go.wp_at_zero Go.wp_at_succ
theorem parts(x p s:Int)(hp:0<p)(hs:0<s)(hps:p*s=18446744073709551616)(hx:0≤x∧x<18446744073709551616):
  (x*p)%18446744073709551616=(x%s)*p∧0≤x/s∧x/s<p∧(x%s)*p+18446744073709551616*(x/s)=x*p∧0≤(x%s)*p∧(x%s)*p+p≤18446744073709551616:=by
 have h1:=Int.emod_nonneg x (show s≠0 by omega);have h2:=Int.emod_lt_of_pos x hs;have h3:=Int.mul_ediv_add_emod x s;have h4:0≤x/s:=Int.ediv_nonneg hx.1 (by omega);have h5:x/s<p:=by apply Int.ediv_lt_of_lt_mul hs;rw[hps];exact hx.2
 have h6:(x%s)*p+18446744073709551616*(x/s)=x*p:=by
  rw[←hps];conv=>rhs;rw[←h3]
  grind
 have h7:0≤(x%s)*p:=Int.mul_nonneg h1 (by omega);have h8:(x%s)*p+p≤18446744073709551616:=by have:(x%s+1)*p≤s*p:=Int.mul_le_mul_of_nonneg_right (by omega) (by omega);rw[Int.add_mul,Int.one_mul,Int.mul_comm s p,hps]at this;exact this
 refine⟨?_,h4,h5,h6,h7,h8⟩;rw[←h6,Int.add_mul_emod_self_left];exact Int.emod_eq_of_lt h7 (by omega)
theorem or_sum(y:Int)(m r:Nat)(hy:0≤y∧y<2^r)(hm:(m:Int)*2^r+2^r≤18446744073709551616):bits .or .u64 y ((m:Int)*2^r)=y+(m:Int)*2^r:=by
 obtain⟨y,rfl⟩:=Int.eq_ofNat_of_zero_le hy.1;have hp:((2^r:Nat):Int)=(2:Int)^r:=by simp
 rw[←hp]at hy hm ⊢;rw[←Int.natCast_mul]at hm ⊢;have hy2:y<2^r:=by omega
 have:=bits_or_u64_nat y (m*2^r) (by omega) (by omega);rw[this];have e:=Nat.two_pow_add_eq_or_of_lt hy2 m;rw[Nat.mul_comm m (2^r),Nat.or_comm,←e];omega
theorem or_sum'(y z:Int)(m r:Nat)(hz:z=(m:Int)*2^r)(hy:0≤y∧y<2^r)(hm:z+2^r≤18446744073709551616):bits .or .u64 y z=y+z:=by subst hz;exact or_sum y m r hy hm
theorem pow64(r:Nat)(hr:r≤64):(2:Int)^r*2^(64-r)=18446744073709551616:=by rw[←Int.pow_add,show r+(64-r)=64 by omega];rfl
def Dbls (xs:List Int)(n q r i:Nat)(cur:List Int):Prop:=
 cur.length=n∧Dg B64 cur∧(∀j,q+i<j→cur.getD j 0=0)∧cur.getD (q+i) 0<2^r∧low B64 cur (q+i+1)=B64^q*(low B64 xs i*2^r)
theorem Dbls.zero(xs:List Int)(n q r:Nat):Dbls xs n q r 0 (List.replicate n 0):=
 ⟨by simp,Dg.zeros B64_pos _,fun j _=>getD_zeros _ j,by rw[getD_zeros];exact Int.pow_pos (by decide),by rw[low_zeros,low_zero];simp⟩
theorem Dbls.step{xs:List Int}{n q r i:Nat}{cur:List Int}(h:Dbls xs n q r i cur)(hr:r<64)(hn:q+i+1<n)(hx:0≤xs.getD i 0∧xs.getD i 0<18446744073709551616):
  Dbls xs n q r (i+1) ((cur.set (q+i) (bits .or .u64 (cur.getD (q+i) 0) (IntKind.u64.wrap (xs.getD i 0*2^r)))).set (q+i+1) (xs.getD i 0/2^(64-r))):=by
 obtain⟨h1,h2,h3,h4,h5⟩:=h;have hp:(0:Int)<2^r:=Int.pow_pos (by decide);have hs:(0:Int)<2^(64-r):=Int.pow_pos (by decide);obtain⟨a1,a2,a3,a4,a5,a6⟩:=parts (xs.getD i 0) (2^r) (2^(64-r)) hp hs (pow64 r (by omega)) hx;have hy:=h2.getD B64_pos (q+i);obtain⟨m,hm⟩:=Int.eq_ofNat_of_zero_le (Int.emod_nonneg (xs.getD i 0) (show(2:Int)^(64-r)≠0 by omega));rw[IntKind.wrap_u64,a1,or_sum' (cur.getD (q+i) 0) _ m r (by rw[hm]) ⟨hy.1,h4⟩ a6];have hpb:(2:Int)^r≤18446744073709551616:=by omega
 refine⟨by simp[h1],(h2.set _ ⟨by omega,by unfold B64;omega⟩).set _ ⟨a2,by unfold B64;omega⟩,fun j hj => ?_,?_,?_⟩
 ·rw[getD_set _ _ _ _ (by simp;omega),if_neg (by omega),getD_set _ _ _ _ (by omega),if_neg (by omega)];exact h3 j (by omega)
 ·rw[show q+(i+1)=q+i+1 by omega,getD_set _ _ _ _ (by simp;omega),if_pos rfl];exact a3
 ·rw[show q+(i+1)+1=(q+i+1)+1 by omega,low_set_succ _ _ _ _ (by simp;omega),low_set_succ _ _ _ _ (by omega)];rw[low_succ]at h5;rw[low_succ B64 xs,Int.pow_succ,Int.pow_add];rw[Int.pow_add]at h5;generalize xs.getD i 0%2^(64-r)*2^r=u at *;generalize xs.getD i 0/2^(64-r)=v at *;generalize cur.getD (q+i) 0=y at *;generalize low B64 cur (q+i)=L at *;generalize low B64 xs i=X at *;generalize xs.getD i 0=x at *;generalize (2:Int)^r=p at *;have e:B64=18446744073709551616:=rfl;rw[←e]at a4;generalize B64^q=Q at *;generalize B64^i=I at *;generalize B64=b at *;have:L+Q*I*(y+u)+Q*I*b*v=(L+Q*I*y)+Q*I*(u+b*v):=by grind
  rw[this,h5,a4]
  grind
theorem Dbls.done{xs:List Int}{n q r:Nat}{cur:List Int}(h:Dbls xs n q r xs.length cur)(hn:n=q+xs.length+1):val B64 cur=val B64 xs*2^(64*q+r):=by
 rw[←low_len,h.1,hn,h.2.2.2.2,low_len,Int.pow_add,Int.pow_mul];have e:B64=2^64:=rfl;rw[e];generalize val (2^64) xs=V;generalize ((2:Int)^64)^q=Q;generalize (2:Int)^r=R
 grind
theorem double_any(ao:Option Addr)(la ca:Nat)(xs:List Int)(q r:Nat)(t:Int)(w:World)(h:NumIn .u64 B64 w ao la ca xs)(ht:t=64*q+r)(hr:r<64)(hsum:la+q<1073741823):
  Calls Tryz.prog 137 #[.slice ao la ca,.int .i64 t] w fun e w'=>∃v,e=.returned v∧NumOut .u64 B64 w w' v (val B64 xs*2^(64*q+r)) (la+q+1):=by
 have hl:=h.len;have ht0:0≤t:=by omega
 have hq:t/64=(q:Int):=by omega
 have hrr:t%64=(r:Int):=by omega
 have ht1:t<100000000000:=by omega
 clear ht;go_enter Tryz.func137,Tryz.ntmps137;go_wp2_with (at_make;refine wpList_make_row _ rfl _ _ 24 rfl 47 .u64 8 Tryz.underlying24 Tryz.infoU _ _ _ _ (la+q+1) rfl rfl (by omega) (by omega) (by omega) (by unfold maxLen;omega) ?_)
 intro w3 hrow hbel;go_wp2;go_loopw [21] (fun i wr=>∃(k:Nat) (cur:List Int),k≤la∧i=.int .i64 k∧Row 47 .u64 wr w.heap.size cur∧Dbls xs (la+q+1) q r k cur∧Below w.heap.size w wr) (fun i _=>la-(intOf i).toNat)
 case atStart=>exact⟨0,_,Nat.zero_le _,rfl,hrow,Dbls.zero _ _ _ _,hbel⟩
 case round=>
  obtain⟨k,cur,hk,rfl,hrw,ha,hb⟩:=hrel;by_cases hlt:k<la
  ·have hx:=h.lies.old hb;obtain⟨b,off,rfl,hblk,hc⟩:=hx.at (by omega);have hlen:=ha.1;have hcell:=hc k (by omega);have hfr:=hrw.frozen (q+k);have hcl:=hrw.cell (q+k) (by omega);have hfr2:=hrw.frozen (q+k+1);have hcl2:=hrw.cell (q+k+1) (by omega);have gx:=h.dg.getD B64_pos k;have HS:Hid (Dbls _ _ _ _ _ _):=ha.step hr (by omega) gx;have HR:Hid (Row _ _ _ _ _):=(hrw.set (q+k) (bits .or .u64 (cur.getD (q+k) 0) (IntKind.u64.wrap (xs.getD k 0*2^r)))).set (q+k+1) (xs.getD k 0/2^(64-r));have HB:Hid (Below w.heap.size w wr):=hb;generalize xs.getD k 0=x at *;generalize cur.getD (q+k) 0=y at *;generalize cur.getD (q+k+1) 0=z at *;have i0:(0:Int)≤(k:Int):=by omega
   have i1:(k:Int)<(la:Int):=by omega
   have i2:(q:Int)+k<(la+q+1:Nat):=by omega
   have hbne:b<w.heap.size:=by obtain⟨b',off',e,hlt',_⟩:=h.lies.at (by omega);injection e with e;injection e with e;omega
   clear hrw hrow hbel hb hx hc h ha hlen;go_wp2;go_region
   all_goals
    go_wp2;go_roundw
    case rel=>exact⟨k+1,_,by omega,by go_num,HR.out,HS.out,((HB.out.setCell (Nat.le_refl _) _).setCell (Nat.le_refl _) _).drew⟩
    case measure=>simp[intOf];omega
  ·obtain rfl:k=la:=by omega
   have hlen:=ha.1;have HV:Hid _:=(by rw[←hl]at ha;exact ha.done (by omega):val B64 cur=val B64 xs*2^(64*q+r))
   have HR:Hid (NumIn _ _ _ _ _ _ _):=hrw.num ha.2.1 (by omega);have HB:Hid (Below w.heap.size w wr):=hb;rw[hlen]at HR;clear ha hb hrw hrow hbel hlen h;go_wp2_with fail
   refine(trim_any _ _ _ _ _ HR.out.lies HR.out.lc HR.out.cm HR.out.nn).mono ?_;rintro e w4 ⟨rfl,rfl⟩;go_wp2;go_ret;exact⟨_,rfl,HR.out.out HB.out _ HV.out _ (by omega)⟩
theorem getD_drop(xs:List Int)(q j:Nat):(xs.drop q).getD j 0=xs.getD (q+j) 0:=by simp[List.getD,List.getElem?_drop]
def Hlvs (ds:List Int)(n r i:Nat)(cur:List Int):Prop:=
 cur.length=n∧Dg B64 cur∧2^r*low B64 cur i+ds.getD 0 0%2^r=low B64 ds i+B64^i*(ds.getD i 0%2^r)
theorem Hlvs.zero(ds:List Int)(n r:Nat):Hlvs ds n r 0 (List.replicate n 0):=
 ⟨by simp,Dg.zeros B64_pos _,by rw[low_zeros,low_zero];simp⟩
theorem Hlvs.step{ds:List Int}{n r i:Nat}{cur:List Int}(h:Hlvs ds n r i cur)(hr:r<64)(hn:i<n)(hx:0≤ds.getD i 0∧ds.getD i 0<18446744073709551616)(hy:0≤ds.getD (i+1) 0∧ds.getD (i+1) 0<18446744073709551616):
  Hlvs ds n r (i+1) (cur.set i (bits .or .u64 (ds.getD i 0/2^r) (IntKind.u64.wrap (ds.getD (i+1) 0*2^(64-r))))):=by
 obtain⟨h1,h2,h3⟩:=h;have hp:(0:Int)<2^r:=Int.pow_pos (by decide);have hs:(0:Int)<2^(64-r):=Int.pow_pos (by decide);have hps:=pow64 r (by omega);obtain⟨a1,a2,a3,a4,a5,a6⟩:=parts (ds.getD (i+1) 0) (2^(64-r)) (2^r) hs hp (by rw[Int.mul_comm];exact hps) hy;obtain⟨_,b2,b3,b4,_,_⟩:=parts (ds.getD i 0) (2^(64-r)) (2^r) hs hp (by rw[Int.mul_comm];exact hps) hx;obtain⟨m,hm⟩:=Int.eq_ofNat_of_zero_le (Int.emod_nonneg (ds.getD (i+1) 0) (show(2:Int)^r≠0 by omega));rw[IntKind.wrap_u64,a1,or_sum' (ds.getD i 0/2^r) _ m (64-r) (by rw[hm]) ⟨b2,b3⟩ a6];refine⟨by simp[h1],h2.set _ ⟨by omega,by unfold B64;omega⟩,?_⟩;rw[low_set_succ _ _ _ _ (by omega),low_succ,Int.pow_succ];have c:=Int.mul_ediv_add_emod (ds.getD i 0) (2^r);generalize ds.getD i 0/2^r=u at *;generalize ds.getD i 0%2^r=v at *;generalize ds.getD (i+1) 0%2^r=y at *;generalize ds.getD 0 0%2^r=z at *;generalize ds.getD i 0=x at *;generalize low B64 cur i=L at *;generalize low B64 ds i=D at *;have e:B64=18446744073709551616:=rfl;rw[←e]at hps;generalize (2:Int)^r=p at *;generalize (2:Int)^(64-r)=s at *;generalize B64^i=I at *;generalize B64=b at *;have:p*(L+I*(u+y*s))+z=(p*L+z)+I*(p*u)+I*(p*s)*y:=by grind
 rw[this,h3,hps];have:p*u=x-v:=by omega
 rw[this]
 grind
theorem Hlvs.done{ds:List Int}{r:Nat}{cur:List Int}(h:Hlvs ds ds.length r ds.length cur):val B64 cur=val B64 ds/2^r:=by
 obtain⟨h1,h2,h3⟩:=h;have hp:(0:Int)<2^r:=Int.pow_pos (by decide);have e0:ds.getD ds.length 0=0:=by simp
 have e1:low B64 cur ds.length=val B64 cur:=by rw[←h1,low_len]
 rw[e0,low_len,e1,Int.zero_emod,Int.mul_zero,Int.add_zero]at h3;have a:=Int.emod_nonneg (ds.getD 0 0) (show(2:Int)^r≠0 by omega);have b:=Int.emod_lt_of_pos (ds.getD 0 0) hp;rw[←h3,Int.mul_comm,Int.add_comm,Int.add_mul_ediv_right _ _ (by omega),Int.ediv_eq_zero_of_lt a b];omega
theorem val_drop{B:Int}(hB:0<B)(xs:List Int)(hd:Dg B xs)(q:Nat):val B (xs.drop q)=val B xs/B^q:=by
 by_cases hq:q≤xs.length
 ·have h:=val_append B (xs.take q) (xs.drop q);rw[List.take_append_drop]at h;have hl:(xs.take q).length=q:=by simp;omega
  rw[hl]at h;have a:=val_nonneg hB (hd.take q);have b:=val_lt hB (hd.take q);rw[hl]at b;have hp:0<B^q:=Int.pow_pos hB;rw[h,Int.mul_comm,Int.add_mul_ediv_right _ _ (by omega),Int.ediv_eq_zero_of_lt a b];omega
 ·rw[List.drop_eq_nil_of_le (by omega)];have a:=val_nonneg hB hd;have b:=val_lt hB hd;have c:=pow_mono (B:=B) (by omega) (show xs.length≤q by omega);rw[Int.ediv_eq_zero_of_lt a (by omega)];rfl
theorem half_val(xs:List Int)(hd:Dg B64 xs)(q r:Nat):val B64 (xs.drop q)/2^r=val B64 xs/2^(64*q+r):=by have hp:(0:Int)<B64^q:=Int.pow_pos B64_pos;rw[val_drop B64_pos xs hd,Int.pow_add,Int.pow_mul];have e:B64=2^64:=rfl;rw[e]at hp ⊢;rw[Int.ediv_ediv_of_nonneg (by omega)]
theorem halve_any(ao:Option Addr)(la ca:Nat)(xs:List Int)(q r:Nat)(t:Int)(w:World)(h:NumIn .u64 B64 w ao la ca xs)(ht:t=64*q+r)(hr:r<64)(htb:t<4294967296):
  Calls Tryz.prog 138 #[.slice ao la ca,.int .i64 t] w fun e w'=>∃v,e=.returned v∧NumOut .u64 B64 w w' v (val B64 xs/2^(64*q+r)) la:=by
 have hl:=h.len;have hs:=h.sm;have ht0:0≤t:=by omega
 have hq:t/64=(q:Int):=by omega
 have hrr:t%64=(r:Int):=by omega
 have hqb:q<67108864:=by omega
 clear ht;have HV:=half_val xs h.dg q r;by_cases hge:la≤q
 ·have HN:Hid (NumOut .u64 B64 w w (.slice none 0 0) (val B64 xs/2^(64*q+r)) la):=by
   refine⟨none,0,0,[],rfl,NumIn.nil,Canon.nil,?_,Nat.zero_le _,Below.refl _ _⟩;rw[←HV,List.drop_eq_nil_of_le (by omega)];simp[val]
  clear HV h;go_enter Tryz.func138,Tryz.ntmps138;go_wp2;go_ret;exact⟨_,rfl,HN.out⟩
 ·obtain⟨n,hN⟩:∃n:Nat,(la:Int)-q=n:=⟨la-q,by omega⟩
  have hn0:0<n:=by omega
  have hqn:q+n≤la:=by omega
  have hqn':la≤q+n:=by omega
  have hql:q<la:=by omega
  have HVH:Hid (val B64 (xs.drop q)/2^r=val B64 xs/2^(64*q+r)):=HV;clear HV hge;go_enter Tryz.func138,Tryz.ntmps138;go_wp2_with (at_make;refine wpList_make_row _ rfl _ _ 24 rfl 47 .u64 8 Tryz.underlying24 Tryz.infoU _ _ _ _ n rfl rfl (by omega) (by omega) (by omega) (by unfold maxLen;omega) ?_)
  intro w3 hrow hbel;go_wp2;go_loopw [24] (fun i wr=>∃(k:Nat) (cur:List Int),k≤n∧i=.int .i64 k∧Row 47 .u64 wr w.heap.size cur∧Hlvs (xs.drop q) n r k cur∧Below w.heap.size w wr) (fun i _=>n-(intOf i).toNat)
  case atStart=>exact⟨0,_,Nat.zero_le _,rfl,hrow,Hlvs.zero _ _ _,hbel⟩
  case round=>
   obtain⟨k,cur,hk,rfl,hrw,ha,hb⟩:=hrel;by_cases hlt:k<n
   ·have hx:=h.lies.old hb;have HL:=fun w hw=>limb_any ao la ca xs (((q+k:Nat):Int)+1) w hw (by unfold maxLen;omega) (by omega);have et:(((q+k:Nat):Int)+1).toNat=q+k+1:=by omega
    rw[et]at HL;have gx:=h.dg.getD B64_pos (q+k);have gy:=h.dg.getD B64_pos (q+k+1);have HS:Hid (Hlvs _ _ _ _ _):=ha.step hr hlt (by rw[getD_drop];exact gx) (by rw[getD_drop];exact gy);rw[getD_drop,getD_drop,show q+(k+1)=q+k+1 by omega]at HS;obtain⟨b,off,rfl,hblk,hc⟩:=hx.at (by omega);have hlen:=ha.1;have hcell:=hc (q+k) (by omega);have hfr:=hrw.frozen k;have hcl:=hrw.cell k (by omega);have HR:Hid (Row _ _ _ _ _):=hrw.set k (bits .or .u64 (xs.getD (q+k) 0/2^r) (IntKind.u64.wrap (xs.getD (q+k+1) 0*2^(64-r))));have HB:Hid (Below w.heap.size w wr):=hb;generalize xs.getD (q+k) 0=x at *;generalize xs.getD (q+k+1) 0=y at *;have HLX:Lies .u64 wr.drew (some ⟨b,off,none⟩) la xs:=hx;have i0:(0:Int)≤(k:Int):=by omega
    have i1:(k:Int)<(n:Int):=by omega
    have hbne:b<w.heap.size:=by obtain⟨b',off',e,hlt',_⟩:=h.lies.at (by omega);injection e with e;injection e with e;omega
    have HBB:Hid (some b≠some w.heap.size):=by unfold Hid;simp;omega
    have hw2:IntKind.i64.wrap (((q+k:Nat):Int)+1)=((q+k:Nat):Int)+1:=IntWalk.i64_in _ (by omega);have hw1:IntKind.i64.wrap ((q:Int)+(k:Int))=((q+k:Nat):Int):=by rw[IntWalk.i64_in _ (by omega)];omega
    have hw3:IntKind.i64.wrap (64-(r:Int))=((64-r:Nat):Int):=by rw[IntWalk.i64_in _ (by omega)];omega
    have i3:((q+k:Nat):Int)<(la:Int):=by omega
    have HQK:q+k<la:=by omega
    clear hrw hrow hbel hb hx hc h ha hlen et hq hrr HVH;generalize q+k=p at *;have HLT:Hid (k<n):=hlt;have hkb:k<1073741824:=by omega
    go_wp2;clear hN hqn hqn' hql hlt hl;go_region_held3 (fun w'=>w'.cell? ⟨b,off+p,none⟩=some (.int .u64 x)) (first|exact hcell|exact(grown_set wr _ _ _).cell hcell HBB.out) (first|(go_at_call 126;refine(HL wr.drew HLX).mono ?_;rintro e w2 ⟨rfl,rfl⟩))
    all_goals
     go_wp2;go_roundw
     case rel=>exact⟨k+1,_,by have:=HLT.out;omega,by go_num,HR.out,HS.out,(HB.out.setCell (Nat.le_refl _) _).drew⟩
     case measure=>have:=HLT.out;simp[intOf];omega
   ·obtain rfl:k=n:=by omega
    have hlen:=ha.1;have HV:Hid (val B64 cur=val B64 xs/2^(64*q+r)):=by
     have e:(xs.drop q).length=k:=by simp;omega
     rw[←e]at ha;unfold Hid;rw[ha.done];exact HVH.out
    have HR:Hid (NumIn _ _ _ _ _ _ _):=hrw.num ha.2.1 (by omega);have HB:Hid (Below w.heap.size w wr):=hb;rw[hlen]at HR;clear ha hb hrw hrow hbel hlen h HVH;go_wp2_with fail
    refine(trim_any _ _ _ _ _ HR.out.lies HR.out.lc HR.out.cm HR.out.nn).mono ?_;rintro e w4 ⟨rfl,rfl⟩;go_wp2;go_ret;exact⟨_,rfl,HR.out.out HB.out _ HV.out _ (by omega)⟩
theorem Shift_down(ao:Option Addr)(la ca:Nat)(xs:List Int)(t:Nat)(w:World)(h:NumIn .u64 B64 w ao la ca xs)(htb:t<2147483648):
  Calls Tryz.prog 111 #[.slice ao la ca,.int .i64 t] w fun e w'=>∃v,e=.returned v∧NumOut .u64 B64 w w' v (val B64 xs/2^t) la:=by
 have hl:=h.len;have htop:=top_le xs;have HT:=trim_any ao la ca xs w h.lies h.lc h.cm h.nn;have h2:=h.take (top xs) (by omega);have HH:=halve_any ao (top xs) ca (xs.take (top xs)) (t/64) (t%64) (t:Int) w h2 (by omega) (by omega) (by omega);rw[val_take_top,show 64*(t/64)+t%64=t by omega]at HH;have hle:top xs≤la:=by omega
 generalize top xs=n at *;have HLE:Hid (n≤la):=hle;clear h h2 hl htop hle;go_enter Tryz.func111,Tryz.ntmps111;go_wp2_with fail
 refine HT.mono ?_;rintro e w1 ⟨rfl,rfl⟩;go_wp2_with fail
 refine HH.mono ?_;rintro e w2 ⟨v,rfl,ao',len',cap',xs',rfl,a,b,c,d,e⟩;go_wp2;go_ret;exact⟨_,rfl,ao',len',cap',xs',rfl,a,b,c,Nat.le_trans d HLE.out,e⟩
theorem Shift_up(ao:Option Addr)(la ca:Nat)(xs:List Int)(t:Nat)(w:World)(h:NumIn .u64 B64 w ao la ca xs)(ht0:0<t)(htb:t≤4096)(hlb:la<1073741000):
  Calls Tryz.prog 111 #[.slice ao la ca,.int .i64 (-(t:Int))] w fun e w'=>∃v,e=.returned v∧NumOut .u64 B64 w w' v (val B64 xs*2^t) (la+t/64+1):=by
 have hl:=h.len;have htop:=top_le xs;have HT:=trim_any ao la ca xs w h.lies h.lc h.cm h.nn;have h2:=h.take (top xs) (by omega);have HH:=double_any ao (top xs) ca (xs.take (top xs)) (t/64) (t%64) (t:Int) w h2 (by omega) (by omega) (by omega);rw[val_take_top,show 64*(t/64)+t%64=t by omega]at HH;have hle:top xs≤la:=by omega
 generalize top xs=n at *;have HLE:Hid (n≤la):=hle;clear h h2 hl htop hle;go_enter Tryz.func111,Tryz.ntmps111;go_wp2_with fail
 refine HT.mono ?_;rintro e w1 ⟨rfl,rfl⟩;go_wp2_with fail
 refine HH.mono ?_;rintro e w2 ⟨v,rfl,ao',len',cap',xs',rfl,a,b,c,d,e⟩;go_wp2;go_ret;exact⟨_,rfl,ao',len',cap',xs',rfl,a,b,c,Nat.le_trans d (by have:=HLE.out;omega),e⟩
end
section
open Go.RowKit
attribute [local go_sem ↓] Go.wp_at_zero Go.wp_at_succ
theorem val_set(B:Int):∀(xs:List Int) (j:Nat) (y:Int),j<xs.length→val B (xs.set j y)=val B xs+B^j*(y-xs.getD j 0)
 | [],j,y,h=>by simp at h
 | x::xs,0,y,_=>by simp[val];omega
 | x::xs,j+1,y,h=>by
  simp only[List.set_cons_succ,val,val_set B xs j y (by simpa using h),List.getD_cons_succ,Int.pow_succ]
  grind
theorem getD_reverse(xs:List Int)(k:Nat)(h:k<xs.length):xs.reverse.getD k 0=xs.getD (xs.length-1-k) 0:=by simp only[List.getD];rw[List.getElem?_reverse h]
theorem pow256(k:Nat):(256:Int)^k=B64^(k/8)*256^(k%8):=by
 have e:B64=256^8:=rfl;rw[e,←Int.pow_mul,←Int.pow_add];congr 1
 omega
theorem pow2_8(r:Nat):(2:Int)^(8*r)=256^r:=by rw[Int.pow_mul];rfl
theorem pow256_le(r:Nat)(h:r<8):(256:Int)^r*256≤18446744073709551616:=by have:=pow_mono (B:=256) (by decide) (show r+1≤8 by omega);rw[Int.pow_succ]at this;exact this
def Reads(rb:List Int)(n k:Nat)(cur:List Int):Prop:=
 cur.length=n∧Dg B64 cur∧(∀j,k/8<j→cur.getD j 0=0)∧cur.getD (k/8) 0<256^(k%8)∧val B64 cur=low 256 rb k
theorem Reads.zero(rb:List Int)(n:Nat):Reads rb n 0 (List.replicate n 0):=
 ⟨by simp,Dg.zeros B64_pos _,fun j _=>getD_zeros _ j,by rw[getD_zeros];decide,by rw[val_replicate,low_zero]⟩
theorem Reads.step{rb:List Int}{n k:Nat}{cur:List Int}(h:Reads rb n k cur)(hn:k/8<n)(hd:0≤rb.getD k 0∧rb.getD k 0<256):
  Reads rb n (k+1) (cur.set (k/8) (bits .or .u64 (cur.getD (k/8) 0) (IntKind.u64.wrap (rb.getD k 0*2^(8*(k%8)))))):=by
 obtain⟨h1,h2,h3,h4,h5⟩:=h;have hp:(0:Int)<256^(k%8):=Int.pow_pos (by decide);have hle:=pow256_le (k%8) (by omega);have hy:=h2.getD B64_pos (k/8);obtain⟨m,hm⟩:=Int.eq_ofNat_of_zero_le hd.1;have hmul:rb.getD k 0*256^(k%8)+256^(k%8)≤18446744073709551616:=by have:(rb.getD k 0+1)*256^(k%8)≤256*256^(k%8):=Int.mul_le_mul_of_nonneg_right (by omega) (by omega);rw[Int.add_mul,Int.one_mul]at this;omega
 have hnn:0≤rb.getD k 0*256^(k%8):=Int.mul_nonneg hd.1 (by omega);rw[IntKind.wrap_u64,pow2_8,Int.emod_eq_of_lt hnn (by omega)];rw[or_sum' (cur.getD (k/8) 0) _ m (8*(k%8)) (by rw[pow2_8,hm]) ⟨hy.1,by rw[pow2_8];exact h4⟩ (by rw[pow2_8];exact hmul)];refine⟨by simp[h1],h2.set _ ⟨by omega,by unfold B64;omega⟩,fun j hj => ?_,?_,?_⟩
 ·rw[getD_set _ _ _ _ (by omega),if_neg (by omega)];exact h3 j (by omega)
 ·rw[getD_set _ _ _ _ (by omega)];by_cases h7:k%8=7
  ·rw[if_neg (by omega),h3 _ (by omega),show(k+1)%8=0 by omega];decide
  ·rw[if_pos (by omega),show(k+1)%8=k%8+1 by omega,Int.pow_succ];have:(rb.getD k 0+1)*256^(k%8)≤256*256^(k%8):=Int.mul_le_mul_of_nonneg_right (by omega) (by omega);rw[Int.add_mul,Int.one_mul]at this;omega
 ·rw[val_set _ _ _ _ (by omega),low_succ,pow256 k,h5];generalize rb.getD k 0=d at *;generalize cur.getD (k/8) 0=c at *;generalize B64^(k/8)=p at *;generalize (256:Int)^(k%8)=q at *
  grind
theorem Read_yes(ao:Option Addr)(n ca:Nat)(bs:List Int)(w:World)(h:NumIn .u8 256 w ao n ca bs)(hn:n≤512):
  Calls Tryz.prog 44 #[.slice ao n ca] w fun e w'=>∃v,e=.returned (.tuple #[v,.int .i64 0])∧NumOut .u64 B64 w w' v (val 256 bs.reverse) 64:=by
 have hl:=h.len;go_enter Tryz.func44,Tryz.ntmps44;go_wp2_with (at_make;refine wpList_make_row _ rfl _ _ 24 rfl 47 .u64 8 Tryz.underlying24 Tryz.infoU _ _ _ _ ((n+7)/8) rfl rfl (by omega) (by omega) (by omega) (by unfold maxLen;omega) ?_)
 intro w3 hrow hbel;go_wp2;go_loopw [18] (fun i wr=>∃(k:Nat) (cur:List Int),k≤n∧i=.int .i64 k∧Row 47 .u64 wr w.heap.size cur∧Reads bs.reverse ((n+7)/8) k cur∧Below w.heap.size w wr) (fun i _=>n-(intOf i).toNat)
 case atStart=>exact⟨0,_,Nat.zero_le _,rfl,hrow,Reads.zero _ _,hbel⟩
 case round=>
  obtain⟨k,cur,hk,rfl,hrw,ha,hb⟩:=hrel;by_cases hlt:k<n
  ·have hx:=h.lies.old hb;obtain⟨b,off,rfl,hblk,hc⟩:=hx.at (by omega);have hlen:=ha.1;have hcell:=hc (n-1-k) (by omega);have hfr:=hrw.frozen (k/8);have hcl:=hrw.cell (k/8) (by omega);have gx:=h.dg.getD (by decide) (n-1-k);have er:=getD_reverse bs k (by omega);rw[hl]at er;have HS:Hid (Reads _ _ _ _):=ha.step (by omega) (by rw[er];exact gx);rw[er]at HS;have HR:Hid (Row _ _ _ _ _):=hrw.set (k/8) (bits .or .u64 (cur.getD (k/8) 0) (IntKind.u64.wrap (bs.getD (n-1-k) 0*2^(8*(k%8)))));have HB:Hid (Below w.heap.size w wr):=hb;generalize bs.getD (n-1-k) 0=x at *;generalize cur.getD (k/8) 0=y at *;clear hrw hrow hbel hb hx hc h ha hlen er;go_wp2;go_region
   all_goals
    go_wp2;go_roundw
    case rel=>exact⟨k+1,_,by omega,by go_num,HR.out,HS.out,(HB.out.setCell (Nat.le_refl _) _).drew⟩
    case measure=>simp[intOf];omega
  ·obtain rfl:k=n:=by omega
   have hlen:=ha.1;have HV:Hid (val B64 cur=val 256 bs.reverse):=by
    unfold Hid;rw[ha.2.2.2.2];have e:bs.reverse.length=k:=by simp[hl]
    rw[←e,low_len]
   have HR:Hid (NumIn _ _ _ _ _ _ _):=hrw.num ha.2.1 (by omega);have HB:Hid (Below w.heap.size w wr):=hb;rw[hlen]at HR;clear ha hb hrw hrow hbel hlen h;go_wp2_with fail
   refine(trim_any _ _ _ _ _ HR.out.lies HR.out.lc HR.out.cm HR.out.nn).mono ?_;rintro e w4 ⟨rfl,rfl⟩;go_wp2;go_ret2
   exact⟨_,rfl,HR.out.out HB.out _ HV.out _ (by omega)⟩
theorem Read_no(ao:Option Addr)(n ca:Nat)(w:World)(hn:512<n)(hm:n≤maxLen):
  Calls Tryz.prog 44 #[.slice ao n ca] w fun e w'=>e=.returned (.tuple #[.slice none 0 0,.int .i64 3])∧w'=w:=by
 go_enter Tryz.func44,Tryz.ntmps44;go_wp2;go_ret2
 exact⟨rfl,rfl⟩
theorem digit_at{B:Int}(hB:0<B)(xs:List Int)(hd:Dg B xs)(j:Nat):xs.getD j 0=val B xs/B^j%B:=by
 rw[←val_drop hB xs hd j];have e:xs.getD j 0=(xs.drop j).getD 0 0:=by rw[getD_drop];rfl
 rw[e];have hdd:=hd.drop j
 cases h:xs.drop j with
 | nil=>simp[val]
 | cons d ds=>
  rw[h]at hdd;simp only[val,List.getD_cons_zero,Int.add_mul_emod_self_left];exact(Int.emod_eq_of_lt hdd.head.1 hdd.head.2).symm
def byteAt(V:Int)(p:Nat):Int:=V/256^p%256
theorem low_bytes(V:Int)(rb:List Int):∀(k:Nat),(∀p,p<k→rb.getD p 0=byteAt V p)→low 256 rb k=V%256^k
 | 0,_=>by simp[low_zero,Int.emod_one]
 | k + 1, h => by
  have hp:(0:Int)<256^k:=Int.pow_pos (by decide);rw[low_succ,low_bytes V rb k (fun p hp=>h p (by omega)),h k (by omega)];unfold byteAt;rw[Int.pow_succ];have e1:=Int.mul_ediv_add_emod V (256^k);have e2:=Int.mul_ediv_add_emod (V/256^k) 256;have a1:=Int.emod_nonneg V (show(256:Int)^k≠0 by omega);have a2:=Int.emod_lt_of_pos V hp;have b1:=Int.emod_nonneg (V/256^k) (show(256:Int)≠0 by decide);have b2:=Int.emod_lt_of_pos (V/256^k) (show(0:Int)<256 by decide);have e3:V=V%256^k+256^k*(V/256^k%256)+256^k*256*(V/256^k/256):=by
   conv=>lhs;rw[←e1,←e2]
   grind
  conv=>rhs;rw[e3]
  rw[Int.add_mul_emod_self_left];refine(Int.emod_eq_of_lt ?_ ?_).symm
  ·have:=Int.mul_nonneg (show(0:Int)≤256^k by omega) b1;omega
  ·have:256^k*(V/256^k%256)≤256^k*255:=Int.mul_le_mul_of_nonneg_left (by omega) (by omega);omega
theorem lenOf_eq(xs:List Int)(hd:Dg B64 xs):lenOf xs=blen (val B64 xs).toNat:=by
 unfold lenOf;by_cases h:top xs=0
 ·rw[if_pos h,←val_take_top,h];simp[val,blen]
 ·rw[if_neg h];obtain⟨m,hm⟩:∃m,top xs=m+1:=⟨top xs-1,by omega⟩
  have ht:=top_hit xs (by omega);have hg:=hd.getD B64_pos (top xs-1);rw[hm]at ht hg ⊢;simp only[Nat.add_sub_cancel]at ht hg ⊢;have hv:val B64 xs=low B64 xs m+B64^m*xs.getD m 0:=by rw[←low_succ,←hm,low_all _ _ _ (Nat.le_refl _)]
  have l0:0≤low B64 xs m:=val_nonneg B64_pos (hd.take m);have l1:low B64 xs m<B64^m:=by
   have a:=val_lt B64_pos (hd.take m);have b:(xs.take m).length≤m:=by simp;omega
   have c:=pow_mono (B:=B64) (by decide) b;unfold low;omega
  generalize xs.getD m 0=d at *;generalize low B64 xs m=L at *;obtain⟨e,he⟩:=Int.eq_ofNat_of_zero_le hg.1;subst he;have hne:e≠0:=by intro h0;rw[h0]at ht;exact ht rfl
  have b1:=blen_lt e;have b2:=blen_ge e hne;have b3:=blen_pos e hne;have hB:B64^m=((2^(64*m):Nat):Int):=by rw[Int.natCast_pow,Int.pow_mul];rfl
  rw[hB]at hv l1;obtain⟨L,rfl⟩:=Int.eq_ofNat_of_zero_le l0;have hn:(val B64 xs).toNat=L+2^(64*m)*e:=by rw[hv,←Int.natCast_mul,←Int.natCast_add,Int.toNat_natCast]
  have hL:L<2^(64*m):=by omega
  have hp:=Nat.two_pow_pos (64*m);obtain⟨c,hc⟩:∃c,blen e=c+1:=⟨blen e-1,by omega⟩
  rw[hc]at b1 b2;simp only[Nat.add_sub_cancel]at b2;have:=blen_eq (val B64 xs).toNat (64*m+c) (by
   rw[hn,Nat.pow_add];have:=Nat.mul_le_mul_left (2^(64*m)) b2;omega) (by
   rw[hn,show 64*m+c+1=64*m+(c+1) by omega,Nat.pow_add];have:=Nat.mul_le_mul_left (2^(64*m)) (show e+1≤2^(c+1) by omega);rw[Nat.mul_add]at this;omega)
  rw[Int.toNat_natCast,hc,this];omega
def Wrts (V:Int)(n k:Nat)(cur:List Int):Prop:=
 cur.length=n∧Dg 256 cur∧∀p,p<k→cur.getD (n-1-p) 0=byteAt V p
theorem byteAt_range(V:Int)(p:Nat):0≤byteAt V p∧byteAt V p<256:=by unfold byteAt;omega
theorem Wrts.zero(V:Int)(n:Nat):Wrts V n 0 (List.replicate n 0):=
 ⟨by simp,Dg.zeros (by decide) _,fun p h=>by omega⟩
theorem Wrts.step{V:Int}{n k:Nat}{cur:List Int}(h:Wrts V n k cur)(hk:k<n):Wrts V n (k+1) (cur.set (n-1-k) (byteAt V k)):=by
 obtain⟨h1,h2,h3⟩:=h;refine⟨by simp[h1],h2.set _ (byteAt_range V k),fun p hp => ?_⟩;rw[getD_set _ _ _ _ (by omega)];by_cases e:p=k
 ·rw[e,if_pos rfl]
 ·rw[if_neg (by omega)];exact h3 p (by omega)
theorem Wrts.done{V:Int}{n:Nat}{cur:List Int}(h:Wrts V n n cur)(h0:0≤V)(hv:V<256^n):val 256 cur.reverse=V:=by
 obtain⟨h1,h2,h3⟩:=h;have e:cur.reverse.length=n:=by simp[h1]
 rw[←low_len,e,low_bytes V cur.reverse n (fun p hp=>by rw[getD_reverse _ _ (by omega),h1];exact h3 p hp)];exact Int.emod_eq_of_lt h0 hv
def BytesOut(w w':World)(v:Value)(n:Nat)(V:Int):Prop:=
 ∃g bs,v=.slice (some ⟨g,0,none⟩) n n∧Row 5 .u8 w' g bs∧bs.length=n∧Dg 256 bs∧val 256 bs.reverse=V∧Below w.heap.size w w'
end
end Go.Proofs.YtkhnnhbmchnajaaGreat
