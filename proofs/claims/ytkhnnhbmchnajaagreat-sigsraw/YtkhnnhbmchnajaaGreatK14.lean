import Derived.Test.YtkhnnhbmchnajaaGreatK13
import Derived.Test.YtkhnnhbmchnajaaGreatK02
set_option maxRecDepth 100000
set_option maxHeartbeats 40000000
set_option linter.unusedVariables false
set_option linter.unusedSimpArgs false
namespace Go.Proofs.YtkhnnhbmchnajaaGreat
section
open Go.Shelf Go.RowKit
def Pr (w:World)(v:Value)(r:Option Pz)(L:Nat):Prop:=(∃u p,r=some p∧v=.tuple #[u,.bool true]∧Pv w u p L)∨(r=none∧v=.tuple #[.agg #[.slice none 0 0,.slice none 0 0,.bool false],.bool false])
theorem Pr.old{w w':World}{v:Value}{r:Option Pz}{L:Nat}(h:Pr w v r L)(hb:Below w.heap.size w w'):Pr w' v r L:=by
 rcases h with⟨u,p,h1,h2,h3⟩|h
 ·exact .inl ⟨u,p,h1,h2,h3.old hb⟩
 ·exact .inr h
theorem Pa.pr{w w':World}{e:Ending}{r:Option Pz}{L:Nat}(h:Pa w w' e r L):Below w.heap.size w w'∧∃v,e=.returned v∧Pr w' v r L:=by
 obtain⟨hb,(⟨v,p,h1,h2,h3⟩|⟨h1,h2⟩)⟩:=h
 ·exact⟨hb,_,h2,.inl ⟨v,p,h1,rfl,h3⟩⟩
 ·exact⟨hb,_,h2,.inr ⟨h1,rfl⟩⟩
theorem Pv.apart{w w':World}{c:Value}{p:Pz}{L r:Nat}{a1 a2:Option Addr}{l1 k1 l2 k2:Nat}{b:Bool}(h:Pv w c p L)(hs:PSl w r (.slice a1 l1 k1) (.slice a2 l2 k2) (.bool b))(hb:Bt r w w'):Pv w' c p L:=by obtain⟨vx,vy,e,h1,h2⟩:=h;exact⟨vx,vy,e,h1.apart hs hb,h2.apart hs hb⟩
theorem Pr.parts{w:World}{v:Value}{r:Option Pz}{L:Nat}(h:Pr w v r L):∃o1 l1 k1 o2 l2 k2 bb ok,v=.tuple #[.agg #[.slice o1 l1 k1,.slice o2 l2 k2,.bool bb],.bool ok]:=by
 rcases h with⟨u,p,h1,h2,vx,vy,rfl,⟨a1,a2,a3,a4,rfl,a5⟩,⟨b1,b2,b3,b4,rfl,b5⟩⟩|⟨_,h2⟩
 ·exact⟨_,_,_,_,_,_,_,_,h2⟩
 ·exact⟨_,_,_,_,_,_,_,_,h2⟩
def BxP (B:Nat)(W:World)(v:Value)(c0 c1 c2:Value):Prop:=∃b o1 l1 k1 o2 l2 k2 bb,v=.pointer (some ⟨b,0,none⟩)∧B≤b∧c0=.slice o1 l1 k1∧c1=.slice o2 l2 k2∧c2=.bool bb∧PSl W b c0 c1 c2
structure Fk where
 sem:List Value→World→Prop
 keep:∀vs w w',Below w.heap.size w w'→sem vs w→sem vs w'
 box':Bool
 store:box'=true→∀vs w w' r a1 a2 l1 k1 l2 k2 b b1 b2 m1 n1 m2 n2 b',PSl w r (.slice a1 l1 k1) (.slice a2 l2 k2) (.bool b)→PSl w' r (.slice b1 m1 n1) (.slice b2 m2 n2) (.bool b')→Bt r w w'→sem vs w→sem vs w'
def Fk.pure(S:List Value→Prop):Fk:=⟨fun vs _=>S vs,fun _ _ _ _ h=>h,true,fun _ _ _ _ _ _ _ _ _ _ _ _ _ _ _ _ _ _ _ _ _ _ h=>h⟩
def Fk.eq(e:Value):Fk:=Fk.pure fun vs=>vs.getD 0 undef=e
def Fk.same:Fk:=Fk.pure fun vs=>vs.getD 0 undef=vs.getD 1 undef
def Fk.ext(i:Nat):Fk:=Fk.pure fun vs=>∃t:Array Value,vs.getD 1 undef=.tuple t∧vs.getD 0 undef=t.getD i undef
def Fk.nv(R:Int→Prop)(L:Nat):Fk:=⟨fun vs W=>∃n,R n∧Nv W (vs.getD 0 undef) n L,fun vs w w' hb h=>by
 obtain⟨n,h1,h2⟩:=h;exact⟨n,h1,h2.old hb⟩,true,fun _ vs w w' r a1 a2 l1 k1 l2 k2 b b1 b2 m1 n1 m2 n2 b' hs _ hb h=>by
 obtain⟨n,h1,h2⟩:=h;exact⟨n,h1,h2.apart hs hb⟩⟩
def Fk.pv(R:Pz→Prop)(L:Nat):Fk:=⟨fun vs W=>∃p,R p∧Pv W (vs.getD 0 undef) p L,fun vs w w' hb h=>by
 obtain⟨n,h1,h2⟩:=h;exact⟨n,h1,h2.old hb⟩,true,fun _ vs w w' r a1 a2 l1 k1 l2 k2 b b1 b2 m1 n1 m2 n2 b' hs _ hb h=>by
 obtain⟨n,h1,h2⟩:=h;exact⟨n,h1,h2.apart hs hb⟩⟩
def Fk.pr(R:Option Pz→Prop)(L:Nat):Fk:=⟨fun vs W=>∃r,R r∧Pr W (vs.getD 0 undef) r L,fun vs w w' hb h=>by
 obtain⟨n,h1,h2⟩:=h;exact⟨n,h1,h2.old hb⟩,true,fun _ vs w w' r a1 a2 l1 k1 l2 k2 b b1 b2 m1 n1 m2 n2 b' hs _ hb h=>by
 obtain⟨n,h1,h2⟩:=h;refine⟨n,h1,?_⟩;rcases h2 with⟨u,p,q1,q2,q3⟩|h2
 ·exact .inl ⟨u,p,q1,q2,q3.apart hs hb⟩
 ·exact .inr h2⟩
def Fk.box(B:Nat):Fk:=⟨fun vs W=>∃c0 c1 c2,BxP B W (vs.getD 0 undef) c0 c1 c2,fun vs w w' hb h=>by
 obtain⟨c0,c1,c2,b,o1,l1,k1,o2,l2,k2,bb,h1,h2,h3,h4,h5,h6⟩:=h;exact⟨c0,c1,c2,b,o1,l1,k1,o2,l2,k2,bb,h1,h2,h3,h4,h5,h6.keep hb⟩,true,fun _ vs w w' r a1 a2 l1 k1 l2 k2 b b1 b2 m1 n1 m2 n2 b' hs hs' hb h=>by
 obtain⟨c0,c1,c2,g,o1,p1,q1,o2,p2,q2,bb,h1,h2,h3,h4,h5,h6⟩:=h;by_cases hg:g=r
 ·subst hg;exact⟨_,_,_,g,b1,m1,n1,b2,m2,n2,b',h1,h2,rfl,rfl,rfl,hs'⟩
 ·exact⟨c0,c1,c2,g,o1,p1,q1,o2,p2,q2,bb,h1,h2,h3,h4,h5,(hb.block g h6.lt hg).trans h6⟩⟩
def Fk.sto(B:Nat):Fk:=⟨fun vs W=>∃c0 c1 c2,vs.getD 1 undef=.agg #[c0,c1,c2]∧BxP B W (vs.getD 0 undef) c0 c1 c2,fun vs w w' hb h=>by obtain⟨c0,c1,c2,h0,b,o1,l1,k1,o2,l2,k2,bb,h1,h2,h3,h4,h5,h6⟩:=h;exact⟨c0,c1,c2,h0,b,o1,l1,k1,o2,l2,k2,bb,h1,h2,h3,h4,h5,h6.keep hb⟩,false,fun h=>by cases h⟩
theorem sem_keep(f:Fk)(vs:List Value){w w':World}(hb:Below w.heap.size w w')(h:f.sem vs w):f.sem vs w':=f.keep vs w w' hb h
theorem sem_store(f:Fk)(vs:List Value){w w':World}{r:Nat}{a1 a2:Option Addr}{l1 k1 l2 k2:Nat}{b:Bool}(hs:PSl w r (.slice a1 l1 k1) (.slice a2 l2 k2) (.bool b)){b1 b2:Option Addr}{m1 n1 m2 n2:Nat}{b':Bool}(hs':PSl w' r (.slice b1 m1 n1) (.slice b2 m2 n2) (.bool b'))(hb:Bt r w w')(hf:f.box'=true)(h:f.sem vs w):f.sem vs w':=f.store hf vs w w' r a1 a2 l1 k1 l2 k2 b b1 b2 m1 n1 m2 n2 b' hs hs' hb h
theorem box_but(i:Nat)(fs:List Fk)(h:(List.range fs.length).all (fun j=>decide (j=i)||(fs.map Fk.box').getD j true)=true):∀j,j≠i→(fs.map Fk.box').getD j true=true:=by
 intro j hj;rw[List.all_eq_true]at h;by_cases hl:j<fs.length
 ·have:=h j (List.mem_range.2 hl);rw[Bool.or_eq_true]at this;rcases this with this|this
  ·exact absurd (by simpa using this) hj
  ·exact this
 ·rw[List.getD_eq_getElem?_getD,List.getElem?_eq_none (by simpa using Nat.le_of_not_lt hl)];rfl
theorem fs_keep(fs:List Fk)(j:Nat)(vs:List Value){w w':World}(hb:Below w.heap.size w w')(h:(fs.map Fk.sem).getD j (fun _ _=>True) vs w):(fs.map Fk.sem).getD j (fun _ _=>True) vs w':=by
 rw[List.getD_eq_getElem?_getD,List.getElem?_map]at h ⊢
 cases hf:fs[j]? with
 | none=>trivial
 | some f=>rw[hf]at h;exact sem_keep f vs hb h
theorem fs_store(fs:List Fk)(j:Nat)(vs:List Value){w w':World}{r:Nat}{a1 a2:Option Addr}{l1 k1 l2 k2:Nat}{b:Bool}(hs:PSl w r (.slice a1 l1 k1) (.slice a2 l2 k2) (.bool b)){b1 b2:Option Addr}{m1 n1 m2 n2:Nat}{b':Bool}(hs':PSl w' r (.slice b1 m1 n1) (.slice b2 m2 n2) (.bool b'))(hb:Bt r w w')(hf:(fs.map Fk.box').getD j true=true)(h:(fs.map Fk.sem).getD j (fun _ _=>True) vs w):(fs.map Fk.sem).getD j (fun _ _=>True) vs w':=by
 rw[List.getD_eq_getElem?_getD,List.getElem?_map]at h hf ⊢
 cases hq:fs[j]? with
 | none=>trivial
 | some f=>rw[hq]at h hf;exact sem_store f vs hs hs' hb hf h
theorem wanted_at{ops:Array Oper}{a:Act}{j d:Nat}{b:Bool}{oj:Oper}(h1:ops[j]?=some oj)(h2:oj.dst=some d)(h:a.tmps.getD d undef=.bool b):(yielded ops a.tmps j==some b)=true:=by
 unfold yielded;rw[h1];simp only[Option.bind_some,h2];rw[Array.getD_eq_getD_getElem?]at h
 cases he:a.tmps[d]? with
 | none=>rw[he]at h;cases h
 | some v=>rw[he]at h;simp only[Option.getD_some]at h;rw[h];simp
def PtB (B:Nat)(W:World)(b:Nat)(p:Pz)(L:Nat):Prop:=B≤b∧∃o1 l1 k1 o2 l2 k2,PSl W b (.slice o1 l1 k1) (.slice o2 l2 k2) (.bool p.inf)∧Nv W (.slice o1 l1 k1) p.x L∧Nv W (.slice o2 l2 k2) p.y L
theorem pair_end{R:Option Pz→Prop}{L B:Nat}{W:World}{vs1 vs2 vs3 vs4 vs5 vs6:List Value}(h1:(Fk.pr R L).sem vs1 W)(h2:Fk.same.sem vs2 W)(h3:(Fk.ext 0).sem vs3 W)(h4:(Fk.ext 1).sem vs4 W)(h5:(Fk.sto B).sem vs5 W)(h6:Fk.same.sem vs6 W)
  (e1:vs2.getD 1 undef=vs1.getD 0 undef) (e2:vs3.getD 1 undef=vs2.getD 0 undef) (e3:vs4.getD 1 undef=vs2.getD 0 undef) (e4:vs5.getD 1 undef=vs3.getD 0 undef) (e5:vs6.getD 1 undef=vs4.getD 0 undef):
  ∃r b,R r∧vs5.getD 0 undef=.pointer (some ⟨b,0,none⟩)∧((∃p,r=some p∧vs6.getD 0 undef=.bool true∧PtB B W b p L)∨(r=none∧vs6.getD 0 undef=.bool false∧PtB B W b ⟨0,0,false⟩ L)):=by
 obtain⟨r,hr,hp⟩:=h1;have h2':vs2.getD 0 undef=vs2.getD 1 undef:=h2;have h6':vs6.getD 0 undef=vs6.getD 1 undef:=h6;obtain⟨t3,q3,q3'⟩:=h3;obtain⟨t4,q4,q4'⟩:=h4;obtain⟨c0,c1,c2,hc,b,o1,l1,k1,o2,l2,k2,bb,hb,hB,rfl,rfl,rfl,hs⟩:=h5;rw[e2,h2',e1]at q3;rw[e3,h2',e1]at q4;rw[e4,q3']at hc;rw[e5,q4']at h6';refine⟨r,b,hr,hb,?_⟩;rcases hp with⟨u,p,h7,h8,vx,vy,rfl,n1,n2⟩|⟨h7,h8⟩
 ·left;rw[h8]at q3 q4;injection q3 with q3;injection q4 with q4;subst q3;subst q4;injection hc with hc;have hl:=congrArg Array.toList hc;simp only[List.cons.injEq,and_true]at hl;obtain⟨rfl,rfl,hbb⟩:=hl;injection hbb with hbb;subst hbb;exact⟨p,h7,h6',hB,o1,l1,k1,o2,l2,k2,hs,n1,n2⟩
 ·right;rw[h8]at q3 q4;injection q3 with q3;injection q4 with q4;subst q3;subst q4;injection hc with hc;have hl:=congrArg Array.toList hc;simp only[List.cons.injEq,and_true]at hl;obtain⟨h9,h10,hbb⟩:=hl;injection hbb with hbb;subst hbb;rw[←h9,←h10]at hs;exact⟨h7,h6',hB,none,0,0,none,0,0,hs,nv_nil _ _,nv_nil _ _⟩
section
variable {P : Program} {ops : Array Oper} {Q : Exit → Act → World → Prop}
theorem GInv.grow{rd:List (List Nat)}{fs:List Fk}{a0:Act}{w0:World}{listed:Array Bool}{a:Act}{w:World}(h:GInv .any ops rd (fs.map Fk.sem) a0 w0 listed a w){i:Nat}{dst:Option Tmp}{KK:Act→World→Prop}
  (hK:∀v w',Below w0.heap.size w0 w'→(∀j vs,listed.getD j false=true→(fs.map Fk.sem).getD j (fun _ _=>True) vs w→(fs.map Fk.sem).getD j (fun _ _=>True) vs w')→(fs.map Fk.sem).getD i (fun _ _=>True) ((rd.getD i []).map fun s=>(a.put dst v).tmps.getD s undef) w'→KK (a.put dst v) w') (v:Value) (w':World) (hb:Below w.heap.size w w') (hf:(fs.map Fk.sem).getD i (fun _ _=>True) ((rd.getD i []).map fun s=>(a.put dst v).tmps.getD s undef) w'):KK (a.put dst v) w':=
 hK v w' (h.below.trans (hb.mono h.below.size)) (fun j vs _ hj=>fs_keep fs j vs hb hj) hf
theorem GInv.fill{rd:List (List Nat)}{fs:List Fk}{a0:Act}{w0:World}{listed:Array Bool}{a:Act}{w:World}(h:GInv .any ops rd (fs.map Fk.sem) a0 w0 listed a w){i:Nat}{dst:Option Tmp}{KK:Act→World→Prop}
  (hK:∀v w',Below w0.heap.size w0 w'→(∀j vs,listed.getD j false=true→(fs.map Fk.sem).getD j (fun _ _=>True) vs w→(fs.map Fk.sem).getD j (fun _ _=>True) vs w')→(fs.map Fk.sem).getD i (fun _ _=>True) ((rd.getD i []).map fun s=>(a.put dst v).tmps.getD s undef) w'→KK (a.put dst v) w') (hli:listed.getD i false=false) (v:Value) (r:Nat) {a1 a2:Option Addr} {l1 k1 l2 k2:Nat} {b:Bool} (hs:PSl w r (.slice a1 l1 k1) (.slice a2 l2 k2) (.bool b)) (b1 b2:Option Addr) (m1 n1 m2 n2:Nat) (b':Bool) (hr:w0.heap.size≤r) (hbx:∀j,j≠i→(fs.map Fk.box').getD j true=true)
  (hf:(fs.map Fk.sem).getD i (fun _ _=>True) ((rd.getD i []).map fun s=>(a.put dst v).tmps.getD s undef) (((w.setCell ⟨r,0,none⟩ (.slice b1 m1 n1)).setCell ⟨r,1,none⟩ (.slice b2 m2 n2)).setCell ⟨r,2,none⟩ (.bool b'))):KK (a.put dst v) (((w.setCell ⟨r,0,none⟩ (.slice b1 m1 n1)).setCell ⟨r,1,none⟩ (.slice b2 m2 n2)).setCell ⟨r,2,none⟩ (.bool b')):=
 hK v _ (h.below.trans ((Bt.set3 w r _ _ _).below hr h.below.size)) (fun j vs hl hj=>fs_store fs j vs hs (hs.set3 _ _ _) (Bt.set3 w r _ _ _) (hbx j (by rintro rfl;rw[hli]at hl;cases hl)) hj) hf
end
end
section
open Go.Shelf Go.RowKit
theorem Cu.slices{w:World}{c:Value}{K:Cz}{L:Nat}(h:Cu w c K L):∃(g1 g2:Int) (oo:Option Addr) (lo co:Nat) (a1:Option Addr) (a2 a3:Nat) (b1:Option Addr) (b2 b3:Nat) (d1:Option Addr) (d2 d3:Nat) (e1:Option Addr) (e2 e3:Nat) (f1:Option Addr) (f2 f3:Nat) (j1:Option Addr) (j2 j3:Nat),c=.agg #[.int .i64 g1,.int .i64 g2,.slice oo lo co,.slice a1 a2 a3,.slice b1 b2 b3,.slice d1 d2 d3,.slice e1 e2 e3,.slice f1 f2 f3,.slice j1 j2 j3]∧Nv w (.slice a1 a2 a3) K.p L∧Nv w (.slice b1 b2 b3) K.a L∧Nv w (.slice d1 d2 d3) K.b L∧Nv w (.slice e1 e2 e3) K.gx L∧Nv w (.slice f1 f2 f3) K.gy L∧Nv w (.slice j1 j2 j3) K.n L:=by obtain⟨g1,g2,oo,lo,co,vp,va,vb,vx,vy,vn,rfl,c1,c2,c3,c4,c5,c6⟩:=h;obtain⟨a1,a2,a3,a4,rfl,a5⟩:=c1;obtain⟨b1,b2,b3,b4,rfl,b5⟩:=c2;obtain⟨d1,d2,d3,d4,rfl,d5⟩:=c3;obtain⟨e1,e2,e3,e4,rfl,e5⟩:=c4;obtain⟨f1,f2,f3,f4,rfl,f5⟩:=c5;obtain⟨j1,j2,j3,j4,rfl,j5⟩:=c6;exact⟨g1,g2,oo,lo,co,a1,a2,a3,b1,b2,b3,d1,d2,d3,e1,e2,e3,f1,f2,f3,j1,j2,j3,rfl,⟨a1,a2,a3,a4,rfl,a5⟩,⟨b1,b2,b3,b4,rfl,b5⟩,⟨d1,d2,d3,d4,rfl,d5⟩,⟨e1,e2,e3,e4,rfl,e5⟩,⟨f1,f2,f3,f4,rfl,f5⟩,⟨j1,j2,j3,j4,rfl,j5⟩⟩
theorem cells9{W:World}{g:Nat}{v0 v1 v2 v3 v4 v5 v6 v7 v8:Value}{t:TypeId}(h:W.heap[g]?=some (.cells #[v0,v1,v2,v3,v4,v5,v6,v7,v8] t (0,0))):W.cell? ⟨g,0,none⟩=some v0∧W.cell? ⟨g,1,none⟩=some v1∧W.cell? ⟨g,2,none⟩=some v2∧W.cell? ⟨g,3,none⟩=some v3∧W.cell? ⟨g,4,none⟩=some v4∧W.cell? ⟨g,5,none⟩=some v5∧W.cell? ⟨g,6,none⟩=some v6∧W.cell? ⟨g,7,none⟩=some v7∧W.cell? ⟨g,8,none⟩=some v8:=by refine⟨?_,?_,?_,?_,?_,?_,?_,?_,?_⟩<;>(rw[cell_of_row _ _ _ _ _ _ h];rfl)
end
end Go.Proofs.YtkhnnhbmchnajaaGreat
