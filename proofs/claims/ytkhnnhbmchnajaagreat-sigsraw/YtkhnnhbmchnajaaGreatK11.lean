import Derived.Test.YtkhnnhbmchnajaaGreatK10
set_option maxRecDepth 100000
set_option maxHeartbeats 40000000
set_option linter.unusedVariables false
set_option linter.unusedSimpArgs false
namespace Go.Proofs.YtkhnnhbmchnajaaGreat
section
open Go.RowKit Go.Shelf
def AddPost{P:Nat}[NeZero P](K:Cz)(w:World)(p q:Pz)(e:Ending)(w':World):Prop:=∃s,AddZ K p q (some s)∧Gd K P s∧e=.returned (.tuple #[rpv s,.bool true])∧Below w.heap.size w w'
theorem add_gd{P:Nat}[NeZero P]{K:Cz}(g:GoodK K P){p q s:Pz}(hp:Gd K P p)(hq:Gd K P q)(h:AddZ K p q (some s)):Gd K P s:=by
 obtain⟨s',e,h1,h2⟩:=add_good g h hp hq
 cases e
 exact⟨h1,sum_on hp.2 hq.2 h2⟩
def PSd (w:World)(r:Nat)(c0 c1 c2:Value):Prop:=w.heap[r]?=some (.cells #[c0,c1,c2] 64 (0,0))
theorem PSd.facts{w:World}{r:Nat}{c0 c1 c2:Value}(h:PSd w r c0 c1 c2):w.cell? ⟨r,0,none⟩=some c0∧w.cell? ⟨r,1,none⟩=some c1∧w.cell? ⟨r,2,none⟩=some c2∧w.frozen? ⟨r,0,none⟩=false∧w.frozen? ⟨r,1,none⟩=false∧w.frozen? ⟨r,2,none⟩=false:=
 ⟨by rw[cell_of_row _ _ _ _ _ _ h];rfl,by rw[cell_of_row _ _ _ _ _ _ h];rfl,by rw[cell_of_row _ _ _ _ _ _ h];rfl,frozen_of_row w r 0 _ _ h,frozen_of_row w r 1 _ _ h,frozen_of_row w r 2 _ _ h⟩
theorem PSd.lt{w:World}{r:Nat}{c0 c1 c2:Value}(h:PSd w r c0 c1 c2):r<w.heap.size:=(Array.getElem?_eq_some_iff.1 h).1
theorem PSd.keep{w w':World}{r:Nat}{c0 c1 c2:Value}(h:PSd w r c0 c1 c2)(hb:Below w.heap.size w w'):PSd w' r c0 c1 c2:=(hb.block _ h.lt).trans h
theorem PSd.set3{w:World}{r:Nat}{c0 c1 c2:Value}(h:PSd w r c0 c1 c2)(d0 d1 d2:Value):PSd (((w.setCell ⟨r,0,none⟩ d0).setCell ⟨r,1,none⟩ d1).setCell ⟨r,2,none⟩ d2) r d0 d1 d2:=by have h1:=heap_set7 w r 0 d0 _ _ _ h;have h2:=heap_set7 _ r 1 d1 _ _ _ h1;exact heap_set7 _ r 2 d2 _ _ _ h2
theorem sizePd:(Tryz.prog.info? 64).map (·.size)=some 3:=by kernel_rfl
theorem ret_pd{fn:Func}{p u:Tmp}(h:fn.results=#[.cell p 64,.tmp u])(tmps:Array Value)(w:World)(g:Nat)(c0 c1 c2:Value)(hp:tmps.getD p undef=.pointer (some ⟨g,0,none⟩))(hg:PSd w g c0 c1 c2):
  (results fn tmps).run Tryz.prog w=.ok (.tuple #[.agg #[c0,c1,c2],tmps.getD u undef]) w:=by
 rw[results_cell_tmp h,hp];have hl:=run_loadVar_row (P:=Tryz.prog) w g 64 64 #[c0,c1,c2] (0,0) _ hg Tryz.underlying64 rfl sizePd;simp[asAddr,Result.andThen,hl]
theorem gm31(a:Int){m:Int}(h0:0<m)(hm:S31 m):∃T R,a.tmod m=T∧IntKind.i64.wrap T=T∧IntKind.i64.wrap (T+m)=T+m∧(T+m).tmod m=R∧IntKind.i64.wrap R=R∧S31 R∧R=a%m:=by have h1:=Int.lt_tmod_of_pos a h0;have h2:=Int.tmod_lt_of_pos a h0;have h3:=em31 (a:=a) h0 hm;have h4:=hm.2;have h5:=gm_eq (a:=a) h0;refine⟨_,_,rfl,IntWalk.i64_in _ (by omega),IntWalk.i64_in _ (by omega),h5,IntWalk.i64_in _ (by have:=h3.1;have:=h3.2;omega),h3,rfl⟩
theorem tail31(p q:Pz)(up i:Int){m:Int}(h0:0<m)(hm:S31 m)(hi:S31 i)(hx:S31 p.x)(hy:S31 p.y)(hu:S31 q.x):∃T1 U V s ss T2 X T3 Z sz T4 Y,
  up.tmod m=T1∧IntKind.i64.wrap T1=T1∧IntKind.i64.wrap (T1+m)=T1+m∧(T1+m).tmod m=U∧IntKind.i64.wrap U=U∧U*i=V∧IntKind.i64.wrap V=V∧V.tmod m=s∧IntKind.i64.wrap s=s ∧
  s*s=ss∧IntKind.i64.wrap ss=ss∧IntKind.i64.wrap (ss-p.x)=ss-p.x∧IntKind.i64.wrap (ss-p.x-q.x)=ss-p.x-q.x∧(ss-p.x-q.x).tmod m=T2∧IntKind.i64.wrap T2=T2∧IntKind.i64.wrap (T2+m)=T2+m∧(T2+m).tmod m=X∧IntKind.i64.wrap X=X ∧
  IntKind.i64.wrap (p.x-X)=p.x-X∧(p.x-X).tmod m=T3∧IntKind.i64.wrap T3=T3∧IntKind.i64.wrap (T3+m)=T3+m∧(T3+m).tmod m=Z∧IntKind.i64.wrap Z=Z∧s*Z=sz∧IntKind.i64.wrap sz=sz∧IntKind.i64.wrap (sz-p.y)=sz-p.y∧(sz-p.y).tmod m=T4∧IntKind.i64.wrap T4=T4∧IntKind.i64.wrap (T4+m)=T4+m∧(T4+m).tmod m=Y∧IntKind.i64.wrap Y=Y ∧
  s=(up%m*i)%m∧X=dX m p q s∧Y=dY m p q s:=by
 obtain⟨T1,U,a1,a2,a3,a4,a5,a6,a7⟩:=gm31 up h0 hm;obtain⟨V,s,b1,b2,b3,b4,b5,b6⟩:=mr31 h0 hm a6 hi;obtain⟨ss0,ss1⟩:=mul62 b5 b5;obtain⟨T2,X,c1,c2,c3,c4,c5,c6,c7⟩:=gm31 (s*s-p.x-q.x) h0 hm;obtain⟨T3,Z,d1,d2,d3,d4,d5,d6,d7⟩:=gm31 (p.x-X) h0 hm;obtain⟨sz0,sz1⟩:=mul62 b5 d6;obtain⟨T4,Y,e1,e2,e3,e4,e5,e6,e7⟩:=gm31 (s*Z-p.y) h0 hm;have hx1:=hx.1;have hx2:=hx.2;have hy1:=hy.1;have hy2:=hy.2;have hu1:=hu.1;have hu2:=hu.2;have hX1:=c6.1;have hX2:=c6.2;have eX:X=dX m p q s:=by rw[c7];rfl
 refine⟨T1,U,V,s,s*s,T2,X,T3,Z,s*Z,T4,Y,a1,a2,a3,a4,a5,b1,b3,b2,b4,rfl,IntWalk.i64_in _ (by omega),IntWalk.i64_in _ (by omega),IntWalk.i64_in _ (by omega),c1,c2,c3,c4,c5,IntWalk.i64_in _ (by omega),d1,d2,d3,d4,d5,rfl,IntWalk.i64_in _ (by omega),IntWalk.i64_in _ (by omega),e1,e2,e3,e4,e5,?_,eX,?_⟩
 ·rw[b6,a7]
 ·rw[e7,d7,eX];rfl
structure FrD(W:World)(b:Nat)(cv:Array Value)(p0 p1 p2 q0 q1 q2 r0 r1 r2:Value):Prop where
 c:W.heap[b]?=some (.cells cv 60 (0,0))
 p:PSd W (b+1) p0 p1 p2
 q:PSd W (b+1+1) q0 q1 q2
 r:PSd W (b+1+1+1) r0 r1 r2
theorem frD_new(w:World)(cv:Array Value)(p0 p1 p2 q0 q1 q2 r0 r1 r2:Value):FrD ((((w.alloc (.cells cv 60)).alloc (.cells #[p0,p1,p2] 64)).alloc (.cells #[q0,q1,q2] 64)).alloc (.cells #[r0,r1,r2] 64)) w.heap.size cv p0 p1 p2 q0 q1 q2 r0 r1 r2∧Below w.heap.size w ((((w.alloc (.cells cv 60)).alloc (.cells #[p0,p1,p2] 64)).alloc (.cells #[q0,q1,q2] 64)).alloc (.cells #[r0,r1,r2] 64)):=by
 obtain⟨w1,e1⟩:∃x,w.alloc (.cells cv 60)=x:=⟨_,rfl⟩
 obtain⟨w2,e2⟩:∃x,w1.alloc (.cells #[p0,p1,p2] 64)=x:=⟨_,rfl⟩
 obtain⟨w3,e3⟩:∃x,w2.alloc (.cells #[q0,q1,q2] 64)=x:=⟨_,rfl⟩
 have z1:w1.heap.size=w.heap.size+1:=by rw[←e1];exact alloc_sz7 _ _
 have z2:w2.heap.size=w.heap.size+1+1:=by rw[←e2,alloc_sz7,z1]
 have z3:w3.heap.size=w.heap.size+1+1+1:=by rw[←e3,alloc_sz7,z2]
 have n1:w1.heap[w.heap.size]?=some (.cells cv 60 (0,0)):=by rw[←e1];exact heap_alloc_new w _
 have n2:w2.heap[w.heap.size+1]?=some (.cells #[p0,p1,p2] 64 (0,0)):=by rw[←e2,←z1];exact heap_alloc_new w1 _
 have n3:w3.heap[w.heap.size+1+1]?=some (.cells #[q0,q1,q2] 64 (0,0)):=by rw[←e3,←z2];exact heap_alloc_new w2 _
 have n4:=heap_alloc_new w3 (.cells #[r0,r1,r2] 64);rw[z3]at n4;have m1:w2.heap[w.heap.size]?=some (.cells cv 60 (0,0)):=by rw[←e2];exact heap_new n1 (by omega)
 have k1:w3.heap[w.heap.size]?=some (.cells cv 60 (0,0)):=by rw[←e3];exact heap_new m1 (by omega)
 have k2:w3.heap[w.heap.size+1]?=some (.cells #[p0,p1,p2] 64 (0,0)):=by rw[←e3];exact heap_new n2 (by omega)
 have bb:Below w.heap.size w (w3.alloc (.cells #[r0,r1,r2] 64)):=by rw[←e3,←e2,←e1];exact((((Below.refl w.heap.size w).alloc (Nat.le_refl _) _).alloc (by rw[alloc_sz7];omega) _).alloc (by rw[alloc_sz7,alloc_sz7];omega) _).alloc (by rw[alloc_sz7,alloc_sz7,alloc_sz7];omega) _
 rw[e1,e2,e3];exact⟨⟨heap_new k1 (by omega),heap_new k2 (by omega),heap_new n3 (by omega),n4⟩,bb⟩
theorem FrD.keep{W W':World}{b:Nat}{cv:Array Value}{p0 p1 p2 q0 q1 q2 r0 r1 r2:Value}(h:FrD W b cv p0 p1 p2 q0 q1 q2 r0 r1 r2)(hb:Below W.heap.size W W'):FrD W' b cv p0 p1 p2 q0 q1 q2 r0 r1 r2:=⟨blk_old h.c hb,h.p.keep hb,h.q.keep hb,h.r.keep hb⟩
theorem FrD.fin{w W:World}{cv:Array Value}{p0 p1 p2 q0 q1 q2 r0 r1 r2:Value}(h:FrD W w.heap.size cv p0 p1 p2 q0 q1 q2 r0 r1 r2)(hb:Below w.heap.size w W)(k:Nat)(d0 d1 d2:Value):PSd ((((W.drewN k).setCell ⟨w.heap.size+1+1+1,0,none⟩ d0).setCell ⟨w.heap.size+1+1+1,1,none⟩ d1).setCell ⟨w.heap.size+1+1+1,2,none⟩ d2) (w.heap.size+1+1+1) d0 d1 d2∧Below w.heap.size w ((((W.drewN k).setCell ⟨w.heap.size+1+1+1,0,none⟩ d0).setCell ⟨w.heap.size+1+1+1,1,none⟩ d1).setCell ⟨w.heap.size+1+1+1,2,none⟩ d2):=by have hd:=drew7 W k;have b1:=hb.trans (hd.mono hb.size);exact⟨(h.keep hd).r.set3 d0 d1 d2,b1.trans ((Bt.set3 (W.drewN k) _ d0 d1 d2).below (by omega) b1.size)⟩
theorem rAdd_good{P:Nat}[NeZero P]{K:Cz}(g:GoodK K P)(hP:S31 K.p)(hA:S31 K.a)(p q:Pz)(w:World)(hp:Gd K P p)(hq:Gd K P q):
  Calls Tryz.prog 40 #[rcv K,rpv p,rpv q] w (AddPost (P:=P) K w p q):=by
 have h0:0<K.p:=by rw[g.p];exact ppos P
 have HG:Hid (GoodK K P∧Gd K P p∧Gd K P q):=⟨g,hp,hq⟩
 have HPO:Hid (∀W s,AddZ K p q (some s)→Below w.heap.size w W→AddPost (P:=P) K w p q (.returned (.tuple #[rpv s,.bool true])) W):=fun W s hs hW=>⟨s,hs,add_gd g hp hq hs,rfl,hW⟩
 have HINF:Hid (p.inf=true→AddZ K p q (some q)):=fun hpi=>by unfold AddZ;rw[if_neg (good_p0 g),hpi,if_pos rfl,hq.1.own]
 have HINF2:Hid (p.inf=false→q.inf=true→AddZ K p q (some p)):=fun hpi hqi=>by unfold AddZ;rw[if_neg (good_p0 g),hpi,if_neg (by simp),hqi,if_pos rfl,hp.1.own]
 obtain⟨kp,ka,kb,kx,ky,kn⟩:=K;obtain⟨x,y,pi⟩:=p;obtain⟨u,v,qi⟩:=q;simp only at h0 hP hA;unfold rcv rpv at *;simp only at HPO HINF HINF2 ⊢;have hk0:(kp==0)=false:=by simp;omega
 have hk2:kp≠0:=by omega
 cases pi with
 | true=>
  obtain⟨F0,b0⟩:=frD_new w #[.int .i64 kp,.int .i64 ka,.int .i64 kb,.int .i64 kx,.int .i64 ky,.int .i64 kn] (.int .i64 x) (.int .i64 y) (.bool true) (.int .i64 u) (.int .i64 v) (.bool qi) (.int .i64 u) (.int .i64 v) (.bool qi);have HE:Hid (∀W,Below w.heap.size w W→AddPost (P:=P) ⟨kp,ka,kb,kx,ky,kn⟩ w ⟨x,y,true⟩ ⟨u,v,qi⟩ (.returned (.tuple #[.agg #[.int .i64 u,.int .i64 v,.bool qi],.bool true])) W):=fun W hW=>HPO.out W _ (HINF.out rfl) hW;have HF:Hid (_∧_):=⟨F0.r,b0⟩
  clear hp hq HPO HINF HINF2 hP hA h0 F0 b0;go_enter Tryz.func40,Tryz.ntmps40;go_wp2;refine bodyPost_ret (ret_pd rfl _ _ _ _ _ _ rfl HF.out.1) rfl ?_;exact HE.out _ HF.out.2
 | false =>
  cases qi with
  | true=>
   obtain⟨F0,b0⟩:=frD_new w #[.int .i64 kp,.int .i64 ka,.int .i64 kb,.int .i64 kx,.int .i64 ky,.int .i64 kn] (.int .i64 x) (.int .i64 y) (.bool false) (.int .i64 u) (.int .i64 v) (.bool true) (.int .i64 x) (.int .i64 y) (.bool false);have HE:Hid (∀W,Below w.heap.size w W→AddPost (P:=P) ⟨kp,ka,kb,kx,ky,kn⟩ w ⟨x,y,false⟩ ⟨u,v,true⟩ (.returned (.tuple #[.agg #[.int .i64 x,.int .i64 y,.bool false],.bool true])) W):=fun W hW=>HPO.out W _ (HINF2.out rfl rfl) hW;have HF:Hid (_∧_):=⟨F0.r,b0⟩
   clear hp hq HPO HINF HINF2 hP hA h0 F0 b0;go_enter Tryz.func40,Tryz.ntmps40;go_wp2;refine bodyPost_ret (ret_pd rfl _ _ _ _ _ _ rfl HF.out.1) rfl ?_;exact HE.out _ HF.out.2
  | false =>
   clear HINF HINF2;have rp:0≤x∧x<kp∧0≤y∧y<kp:=by have:=gd_rng hp rfl;rwa [←show kp=(P:Int) from g.p]at this
   have rq:0≤u∧u<kp∧0≤v∧v<kp:=by have:=gd_rng hq rfl;rwa [←show kp=(P:Int) from g.p]at this
   have hP2:=hP.2;have w1:IntKind.i64.wrap (x-u)=x-u:=IntWalk.i64_in _ (by omega);have w2:IntKind.i64.wrap (y+v)=y+v:=IntWalk.i64_in _ (by omega);have w3:IntKind.i64.wrap (y+y)=y+y:=IntWalk.i64_in _ (by omega);obtain⟨D,hD⟩:∃D,(x-u).tmod kp=D:=⟨_,rfl⟩
   have wD:IntKind.i64.wrap D=D:=by rw[←hD];exact IntWalk.i64_in _ (by have:=Int.lt_tmod_of_pos (x-u) h0;have:=Int.tmod_lt_of_pos (x-u) h0;omega)
   obtain⟨E,hE⟩:∃E,(y+v).tmod kp=E:=⟨_,rfl⟩
   have wE:IntKind.i64.wrap E=E:=by rw[←hE];exact IntWalk.i64_in _ (by have:=Int.lt_tmod_of_pos (y+v) h0;have:=Int.tmod_lt_of_pos (y+v) h0;omega)
   by_cases q1:D=0
   ·have hx:(x-u)%kp=0:=by rw[←tm_zero,hD];exact q1
    subst q1;by_cases q2:E=0
    ·subst q2;have hy:(y+v)%kp=0:=by rw[←tm_zero,hE]
     obtain⟨F0,b0⟩:=frD_new w #[.int .i64 kp,.int .i64 ka,.int .i64 kb,.int .i64 kx,.int .i64 ky,.int .i64 kn] (.int .i64 x) (.int .i64 y) (.bool false) (.int .i64 u) (.int .i64 v) (.bool false) (.int .i64 0) (.int .i64 0) (.bool true);have HE:Hid (∀W,Below w.heap.size w W→AddPost (P:=P) ⟨kp,ka,kb,kx,ky,kn⟩ w ⟨x,y,false⟩ ⟨u,v,false⟩ (.returned (.tuple #[.agg #[.int .i64 0,.int .i64 0,.bool true],.bool true])) W):=fun W hW=>HPO.out W noZ (add_void g rfl rfl hx hy) hW;have HF:Hid (_∧_):=⟨F0.r,b0⟩
     clear hp hq HPO hP hA h0 F0 b0 rp rq hx hy;go_enter Tryz.func40,Tryz.ntmps40;go_wp2;refine bodyPost_ret (ret_pd rfl _ _ _ _ _ _ rfl HF.out.1) rfl ?_;exact HE.out _ HF.out.2
    ·have sx:S31 x:=⟨rp.1,by omega⟩
     have sy:S31 y:=⟨rp.2.2.1,by omega⟩
     have su:S31 u:=⟨rq.1,by omega⟩
     have s3:S31 3:=⟨by decide,by decide⟩
     obtain⟨c3,t3,wc3,sc3,mc3⟩:=tr31 h0 hP s3.1;have txx:x.tmod kp=x:=by rw[Int.tmod_eq_emod_of_nonneg rp.1,Int.emod_eq_of_lt rp.1 rp.2.1]
     have wxx:IntKind.i64.wrap x=x:=IntWalk.i64_in _ (by omega);obtain⟨v2,r2,e2,t2,w2v,w2r,sr2,m2⟩:=mr31 h0 hP sx sx;obtain⟨v3,r3,e3,t4,w3v,w3r,sr3,m3⟩:=mr31 h0 hP sc3 sr2;obtain⟨ra,ta,wra,sra,mra⟩:=tr31 h0 hP hA.1;have wsu:IntKind.i64.wrap (r3+ra)=r3+ra:=IntWalk.i64_in _ (by have:=sr3.1;have:=sr3.2;have:=sra.1;have:=sra.2;omega);obtain⟨up,tup,wup,sup,mup⟩:=tr31 h0 hP (show 0≤r3+ra by have:=sr3.1;have:=sra.1;omega);obtain⟨dn,tdn,wdn,sdn,mdn⟩:=tr31 h0 hP (show 0≤y+y by omega);have hy:¬(y+v)%kp=0:=by rw[←tm_zero,hE];exact q2
     have hy2:=add_twice_ne (K:=⟨kp,ka,kb,kx,ky,kn⟩) g hp hq rfl rfl hx hy;have hg1:=(gdP (K:=⟨kp,ka,kb,kx,ky,kn⟩) g (y+y) hy2).1;have HU:Hid (Cg kp up (3*(x*x)+ka)):=by unfold Hid;rw[mup,m3,mc3,m2,mra];exact(Cg.mod kp _).trans (((Cg.mod kp _).trans ((Cg.mod kp 3).mul (Cg.mod kp _))).add (Cg.mod kp ka))
     have HINV:=fun W=>rInv_any dn kp W h0 hP.2 (by have:=sdn.1;omega) (by have:=sdn.2;omega);have edn:dn%kp=(y+y)%kp:=by rw[mdn,Int.emod_emod]
     rw[edn]at HINV;have HTL:=fun i (hi:S31 i)=>tail31 ⟨x,y,false⟩ ⟨u,v,false⟩ up i h0 hP hi sx sy su;have HAD:Hid (∀i,0≤i→i<kp→Cg kp (i*((y+y)%kp)) 1→AddZ ⟨kp,ka,kb,kx,ky,kn⟩ ⟨x,y,false⟩ ⟨u,v,false⟩ (some ⟨dX kp ⟨x,y,false⟩ ⟨u,v,false⟩ ((up%kp*i)%kp),dY kp ⟨x,y,false⟩ ⟨u,v,false⟩ ((up%kp*i)%kp),false⟩)):=fun i i0 i1 ic=>(add_twice g hp hq rfl rfl hx hy i0 i1 ic HU.out).2;have HG1:Hid (gd kp ((y+y)%kp)=1):=hg1;have HKP:Hid (kp<2147483648):=hP.2;have q2b:(E==0)=false:=by simp[q2]
     obtain⟨F0,b0⟩:=frD_new w #[.int .i64 kp,.int .i64 ka,.int .i64 kb,.int .i64 kx,.int .i64 ky,.int .i64 kn] (.int .i64 x) (.int .i64 y) (.bool false) (.int .i64 u) (.int .i64 v) (.bool false) (.int .i64 0) (.int .i64 0) (.bool false);have HF:Hid (FrD _ _ _ _ _ _ _ _ _ _ _ _∧_):=⟨F0,b0⟩
     clear mup m3 mc3 m2 mra mdn sup sdn sra sr3 sr2 sc3 s3 hp hq HG hP hA rp rq hx hy hy2 hg1 edn sx sy su F0 b0 hP2;go_enter Tryz.func40,Tryz.ntmps40;go_wp2_with fail
     go_quiet (fail)
     go_wp2_with fail
     refine(HINV _).mono ?_;rintro e w1' ⟨rfl,h⟩;rcases h with⟨hn,_⟩|⟨_,i,i0,i1,ic,rfl⟩
     ·exact absurd HG1.out hn
     obtain⟨T1,U,V,s,ss,T2,X,T3,Z,sz,T4,Y,k1,k2,k3,k4,k5,k6,k7,k8,k9,k10,k11,k12,k13,k14,k15,k16,k17,k18,k19,k20,k21,k22,k23,k24,k25,k26,k27,k28,k29,k30,k31,k32,es,eX,eY⟩:=HTL i ⟨i0,by have:=HKP.out;omega⟩;have HS:Hid (AddZ ⟨kp,ka,kb,kx,ky,kn⟩ ⟨x,y,false⟩ ⟨u,v,false⟩ (some ⟨X,Y,false⟩)):=by unfold Hid;rw[eX,eY,es];exact HAD.out i i0 i1 ic
     clear HTL HINV HAD HG1 ic es eX eY HU t3 wc3 txx e2 t2 w2v w2r e3 t4 w3v w3r ta wra wsu tup tdn hE w1 w2 w3 i0 i1;go_wp2_with fail
     go_quiet (fail)
     go_wp2;obtain⟨a1,a2⟩:=HF.out.1.fin HF.out.2 _ (.int .i64 X) (.int .i64 Y) (.bool false);refine bodyPost_ret (ret_pd rfl _ _ _ _ _ _ rfl a1) rfl ?_;exact HPO.out _ ⟨X,Y,false⟩ HS.out a2
   ·have hx:¬(x-u)%kp=0:=by rw[←tm_zero,hD];exact q1
    have sx:S31 x:=⟨rp.1,by omega⟩
    have sy:S31 y:=⟨rp.2.2.1,by omega⟩
    have su:S31 u:=⟨rq.1,by omega⟩
    have w5:IntKind.i64.wrap (v-y)=v-y:=IntWalk.i64_in _ (by omega);have w6:IntKind.i64.wrap (u-x)=u-x:=IntWalk.i64_in _ (by omega);obtain⟨up,hup⟩:∃r,(v-y).tmod kp=r:=⟨_,rfl⟩
    have wup:IntKind.i64.wrap up=up:=by rw[←hup];exact IntWalk.i64_in _ (by have:=Int.lt_tmod_of_pos (v-y) h0;have:=Int.tmod_lt_of_pos (v-y) h0;omega)
    obtain⟨dn,hdn⟩:∃r,(u-x).tmod kp=r:=⟨_,rfl⟩
    have rdn : -kp<dn∧dn<kp:=by rw[←hdn];exact⟨Int.lt_tmod_of_pos (u-x) h0,Int.tmod_lt_of_pos (u-x) h0⟩
    have wdn:IntKind.i64.wrap dn=dn:=IntWalk.i64_in _ (by omega);have hx2:¬(u-x)%kp=0:=fun e=>hx (neg_zero_em.1 e);have hg1:=(gdP (K:=⟨kp,ka,kb,kx,ky,kn⟩) g (u-x) hx2).1;have HINV:=fun W=>rInv_any dn kp W h0 hP.2 (by omega) (by omega);have edn:dn%kp=(u-x)%kp:=by rw[←hdn,tm_em]
    have eup:up%kp=(v-y)%kp:=by rw[←hup,tm_em]
    rw[edn]at HINV;have HTL:=fun i (hi:S31 i)=>tail31 ⟨x,y,false⟩ ⟨u,v,false⟩ up i h0 hP hi sx sy su;have HAD:Hid (∀i,0≤i→i<kp→Cg kp (i*((u-x)%kp)) 1→AddZ ⟨kp,ka,kb,kx,ky,kn⟩ ⟨x,y,false⟩ ⟨u,v,false⟩ (some ⟨dX kp ⟨x,y,false⟩ ⟨u,v,false⟩ ((up%kp*i)%kp),dY kp ⟨x,y,false⟩ ⟨u,v,false⟩ ((up%kp*i)%kp),false⟩)):=fun i i0 i1 ic=>by rw[eup];exact add_apart g rfl rfl hx i0 i1 ic
    have HG1:Hid (gd kp ((u-x)%kp)=1):=hg1;have HKP:Hid (kp<2147483648):=hP.2;have q1b:(D==0)=false:=by simp[q1]
    obtain⟨F0,b0⟩:=frD_new w #[.int .i64 kp,.int .i64 ka,.int .i64 kb,.int .i64 kx,.int .i64 ky,.int .i64 kn] (.int .i64 x) (.int .i64 y) (.bool false) (.int .i64 u) (.int .i64 v) (.bool false) (.int .i64 0) (.int .i64 0) (.bool false);have HF:Hid (FrD _ _ _ _ _ _ _ _ _ _ _ _∧_):=⟨F0,b0⟩
    clear hp hq HG hP hA rp rq hx hx2 hg1 edn eup sx sy su F0 b0 hP2 rdn hE wE;go_enter Tryz.func40,Tryz.ntmps40;go_wp2_with fail
    go_quiet (fail)
    go_wp2_with fail
    refine(HINV _).mono ?_;rintro e w1' ⟨rfl,h⟩;rcases h with⟨hn,_⟩|⟨_,i,i0,i1,ic,rfl⟩
    ·exact absurd HG1.out hn
    obtain⟨T1,U,V,s,ss,T2,X,T3,Z,sz,T4,Y,k1,k2,k3,k4,k5,k6,k7,k8,k9,k10,k11,k12,k13,k14,k15,k16,k17,k18,k19,k20,k21,k22,k23,k24,k25,k26,k27,k28,k29,k30,k31,k32,es,eX,eY⟩:=HTL i ⟨i0,by have:=HKP.out;omega⟩;have HS:Hid (AddZ ⟨kp,ka,kb,kx,ky,kn⟩ ⟨x,y,false⟩ ⟨u,v,false⟩ (some ⟨X,Y,false⟩)):=by unfold Hid;rw[eX,eY,es];exact HAD.out i i0 i1 ic
    clear HTL HINV HAD HG1 ic es eX eY hup hdn hD w1 w2 w3 w5 w6 i0 i1;go_wp2_with fail
    go_quiet (fail)
    go_wp2;obtain⟨a1,a2⟩:=HF.out.1.fin HF.out.2 _ (.int .i64 X) (.int .i64 Y) (.bool false);refine bodyPost_ret (ret_pd rfl _ _ _ _ _ _ rfl a1) rfl ?_;exact HPO.out _ ⟨X,Y,false⟩ HS.out a2
end
end Go.Proofs.YtkhnnhbmchnajaaGreat
