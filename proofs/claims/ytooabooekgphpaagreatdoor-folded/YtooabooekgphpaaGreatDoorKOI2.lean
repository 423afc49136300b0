import Derived.Test.YtooabooekgphpaaGreatDoorKOHA
set_option linter.all false
open Go.Proofs.Tryz
set_option maxRecDepth 1000000
set_option maxHeartbeats 20000000
namespace Go.Proofs.YtooabooekgphpaaGreatDoor
open Go.RowKit
namespace Pn
open Mf Ed
theorem lV{A:Nat->Prop}{w:zW}{a:Option Addr}{n c:Nat}{L:List Mo}(h:RdA A Sm.mc w (.slice a n c) L){wr:zW}(O:zB w wr){i:Nat}(E:i<L.length):∃(G I:zA)(b o:Nat),L[i]?=some (G,I)/\a=some (tD b o)/\wr.cell? (tD b (o+i*2))=some (tS G)/\wr.cell? (tD b (o+i*2+1))=some (tS I):=by
 obtain⟨b,o,S,M,F⟩:=RdA.at (A:=A) (L:=L) h fC (by decide) O i E;injection M with D _ _;refine⟨L[i].1,L[i].2,b,o,aV E,D,?_,?_⟩
 ·have:=F 0 _ rfl;simpa using this
 have:=F 1 _ rfl;simpa using this
theorem lW{A:Nat->Prop}{w:zW}{a:Option Addr}{n c:Nat}{L:List Pb}(h:RdA A aJ w (.slice a n c) L){wr:zW}(S:zB w wr){i:Nat}(F:i<L.length):∃(G:Nat)(I M:zA)(b o:Nat),L[i]?=some (G,I,M)/\a=some (tD b o)/\wr.cell? (tD b (o+i*3))=some (zI (G:Nat))/\wr.cell? (tD b (o+i*3+1))=some (tS I)/\wr.cell? (tD b (o+i*3+2))=some (tS M):=by
 obtain⟨b,o,T,O,E⟩:=RdA.at (A:=A) (L:=L) h gR (by decide) S i F;injection O with D _ _;refine⟨L[i].1,L[i].2.1,L[i].2.2,b,o,aV F,D,?_,?_,?_⟩
 ·have:=E 0 _ rfl;simpa using this
 ·have:=E 1 _ rfl;simpa using this
 have:=E 2 _ rfl;simpa using this
theorem Ei{α:Type}{L:List α}{k:Nat}{x y:α}(h:L[k]?=some y):x∈L.take (k+1)↔x∈L.take k\/x=y:=by
 rw[iY,h,bH];simp
theorem FoS.done{A:Nat->Prop}{w D:zW}{I M:Array zV}{m p o:zV}{Z:List Mo}{Y:List Pb}{N:List zA}(h:FoS w I M D m p o Z Y)(G:RdA A dB w o N):
  (RdA (fun b=>b<w.heap.size) Sm.mc (((D.setCell (tD (w.heap.size+1+1) 0) m).setCell (tD (w.heap.size+1+1) 1) p).setCell (tD (w.heap.size+1+1) 2) o).drew m Z/\RdA (fun b=>b<w.heap.size) aJ (((D.setCell (tD (w.heap.size+1+1) 0) m).setCell (tD (w.heap.size+1+1) 1) p).setCell (tD (w.heap.size+1+1) 2) o).drew p Y/\RdA A dB (((D.setCell (tD (w.heap.size+1+1) 0) m).setCell (tD (w.heap.size+1+1) 1) p).setCell (tD (w.heap.size+1+1) 2) o).drew o N)/\zB w (((D.setCell (tD (w.heap.size+1+1) 0) m).setCell (tD (w.heap.size+1+1) 1) p).setCell (tD (w.heap.size+1+1) 2) o).drew:=by
 have E:ai (fun b=>b=w.heap.size+2) D (((D.setCell (tD (w.heap.size+1+1) 0) m).setCell (tD (w.heap.size+1+1) 1) p).setCell (tD (w.heap.size+1+1) 2) o).drew:=((((ai.refl (fun b=>b=w.heap.size+2) D).set (a:=(tD (w.heap.size+2) 0)) (fun _=>rfl) _).set (a:=(tD (w.heap.size+2) 1)) (fun _=>rfl) _).set (a:=(tD (w.heap.size+2) 2)) (fun _=>rfl) _).more (ae _ _).drew;generalize (((D.setCell (tD (w.heap.size+1+1) 0) m).setCell (tD (w.heap.size+1+1) 1) p).setCell (tD (w.heap.size+1+1) 2) o).drew=wf at E ⊢;have F:=bl h.b E (fun b e=>by omega);exact⟨⟨RdA.own (ar h.rm (fun b e=>E.block b (h.rm.lt b e).2 (by have:=(h.rm.lt b e).1;omega))) rfl fC (fun b e=>by omega),RdA.own (ar h.rp (fun b e=>E.block b (h.rp.lt b e).2 (by have:=(h.rp.lt b e).1;omega))) rfl gR (fun b e=>by omega),G.below F⟩,F⟩
def Bi(g:Bool)(p:Prop):Prop:=g=true↔p
open Classical in
theorem FU{A A2:Nat->Prop}(a1 a2 a3 v1 v2 v3 v4 v6:zV)(T T':Tri)(w:zW)(hT:T.1.length<=100000/\T.2.1.length<=10000000/\T.2.2.length<=100000)(g4:T'.1.length<=100000/\T'.2.1.length<=10000000/\T'.2.2.length<=100000)
  (s1:Srt Prod.fst aT T.1) (g8:Srt Prod.fst aT T'.1) (s2:Srt id cT T.2.1) (g9:Srt id cT T'.2.1)
  (r1:RdA A Sm.mc w a1 T.1) (r2:RdA A aJ w a2 T.2.1) (r3:RdA A dB w a3 T.2.2)
  (h1:RdA A2 Sm.mc w v1 (wo T.1 T'.1)) (h2:RdA A2 Sm.mc w v2 (wo T'.1 T.1)) (h3:RdA A2 aJ w v3 (wo T.2.1 T'.2.1)) (h4:RdA A2 aJ w v4 (wo T'.2.1 T.2.1)) (h6:RdA A2 dB w v6 (if T.2.2=T'.2.2 then [] else T'.2.2)):
  zC 10 #[.agg #[a1,a2,a3],.agg #[v1,v2,v3,v4,.bool (decide (¬T.2.2=T'.2.2)),v6]] w fun e w'=>∃m p o,e=.returned (.tuple #[.agg #[m,p,o],.bool true])/\(RdA (fun b=>b<w.heap.size) Sm.mc w' m T'.1/\RdA (fun b=>b<w.heap.size) aJ w' p T'.2.1/\RdA (fun b=>A b/\A2 b) dB w' o T'.2.2)/\zB w w':=by
 obtain⟨M,P,O⟩:=T;obtain⟨M',P',O'⟩:=T';simp only at*;obtain⟨aa,ca,rfl⟩:=r1.len;obtain⟨ab,cb,rfl⟩:=r2.len;obtain⟨ac,cc,rfl⟩:=r3.len;obtain⟨x1,c1,rfl⟩:=h1.len;obtain⟨x2,c2,rfl⟩:=h2.len;obtain⟨x3,c3,rfl⟩:=h3.len;obtain⟨x4,c4,rfl⟩:=h4.len;obtain⟨x6,c6,rfl⟩:=h6.len;have l1:(wo M M').length<=100000:=aO (List.length_filter_le _ _) hT.1;have l2:(wo M' M).length<=100000:=aO (List.length_filter_le _ _) g4.1;have l3:(wo P P').length<=10000000:=aO (List.length_filter_le _ _) hT.2.1;have l4:(wo P' P).length<=10000000:=aO (List.length_filter_le _ _) g4.2.1;have R1:Hid (RdA A Sm.mc w (.slice aa M.length ca) M):=r1;have R2:Hid (RdA A aJ w (.slice ab P.length cb) P):=r2;have R3:Hid (RdA A dB w (.slice ac O.length cc) O):=r3;have H1:Hid (RdA A2 Sm.mc w (.slice x1 (wo M M').length c1) (wo M M')):=h1;have H2:Hid (RdA A2 Sm.mc w (.slice x2 (wo M' M).length c2) (wo M' M)):=h2;have H3:Hid (RdA A2 aJ w (.slice x3 (wo P P').length c3) (wo P P')):=h3;have H4:Hid (RdA A2 aJ w (.slice x4 (wo P' P).length c4) (wo P' P)):=h4;have H6:Hid (RdA A2 dB w (.slice x6 (if O=O' then [] else O').length c6) (if O=O' then [] else O')):=h6;have HD:Hid (∀x∈wo M' M,x∉M):=fun x hx=>((ni _ _ _).1 hx).2
 have fv:Hid (∀x∈wo P' P,x∉P):=fun x hx=>((ni _ _ _).1 hx).2
 have FB:Hid ((wo M' M).foldl (fun K x=>Ss.ins (Go.Proofs.ltOf fun x y:Mo=>aT x.1 y.1) x K) (wo M (wo M M'))=M'):=Aw dh s1 g8;have fu:Hid ((wo P' P).foldl (fun K x=>Ss.ins (Go.Proofs.ltOf fun x y:Pb=>cT x y) x K) (wo P (wo P P'))=P'):=Aw (key:=id) nh s2 g9;have DC:Hid (M.length-(wo M (wo M M')).length=(wo M M').length/\P.length-(wo P (wo P P')).length=(wo P P').length):=⟨AB M M',AB P P'⟩;clear r1 r2 r3 h1 h2 h3 h4 h6 s1 g8 s2 g9;generalize g5:decide (¬O=O')=dm;have cv:Hid (decide (¬O=O')=dm):=g5;clear g5;generalize h7:wo M M'=Dr at*;generalize h0:wo M' M=Ad at*;generalize h8:wo P P'=Gn at*;generalize h5:wo P' P=Cn at*;generalize (if O=O' then [] else O').length=n6 at*;clear h7 h0 h8 h5;obtain⟨va,g6⟩:∃va,va=#[Value.slice aa M.length ca,.slice ab P.length cb,.slice ac O.length cc]:=⟨_,rfl⟩;obtain⟨vd,g7⟩:∃vd,vd=#[Value.slice x1 Dr.length c1,.slice x2 Ad.length c2,.slice x3 Gn.length c3,.slice x4 Cn.length c4,.bool dm,.slice x6 n6 c6]:=⟨_,rfl⟩
 have HN:Hid (FoS w va vd ((((w.alloc (.cells #[.slice aa M.length ca,.slice ab P.length cb,.slice ac O.length cc] 34)).alloc (.cells #[.slice x1 Dr.length c1,.slice x2 Ad.length c2,.slice x3 Gn.length c3,.slice x4 Cn.length c4,.bool dm,.slice x6 n6 c6] 40)).alloc (.cells #[nl,nl,nl] 34)).alloc (.cells #[nl,nl,nl] 34)) nl nl nl [] []):=by
  rw[g6,g7];exact FoS.new w _ _
 have ga:Hid (va=_):=g6;have gb:Hid (vd=_):=g7
 have CA:Hid (∀{wr:zW} {mv pv ov:zV} {Z:List Mo} {Y:List Pb},FoS w va vd wr mv pv ov Z Y->wr.cell? (tD w.heap.size 0)=some (.slice aa M.length ca)/\wr.cell? (tD w.heap.size 1)=some (.slice ab P.length cb)/\wr.cell? (tD w.heap.size 2)=some (.slice ac O.length cc)):=fun h=>by
  have g:=h.ba;rw[ga.o] at g;exact⟨(fd3 g).1.1,(fd3 g).2.1.1,(fd3 g).2.2.1⟩
 have CD:Hid (∀{wr:zW} {mv pv ov:zV} {Z:List Mo} {Y:List Pb},FoS w va vd wr mv pv ov Z Y->wr.cell? (tD (w.heap.size+1) 0)=some (.slice x1 Dr.length c1)/\wr.cell? (tD (w.heap.size+1) 1)=some (.slice x2 Ad.length c2)/\wr.cell? (tD (w.heap.size+1) 2)=some (.slice x3 Gn.length c3)/\wr.cell? (tD (w.heap.size+1) 3)=some (.slice x4 Cn.length c4)/\wr.cell? (tD (w.heap.size+1) 4)=some (.bool dm)/\wr.cell? (tD (w.heap.size+1) 5)=some (.slice x6 n6 c6)):=fun h=>by
  have g:=h.bd;rw[gb.o] at g;exact⟨(fd6 g).1.1,(fd6 g).2.1.1,(fd6 g).2.2.1.1,(fd6 g).2.2.2.1.1,(fd6 g).2.2.2.2.1.1,(fd6 g).2.2.2.2.2.1⟩
 have CB:Hid (∀{wr:zW} {mv pv ov:zV} {Z:List Mo} {Y:List Pb},FoS w va vd wr mv pv ov Z Y->(wr.cell? (tD (w.heap.size+1+1+1) 0)=some mv/\wr.cell? (tD (w.heap.size+1+1+1) 1)=some pv/\wr.cell? (tD (w.heap.size+1+1+1) 2)=some ov)/\wr.frozen? (tD (w.heap.size+1+1+1) 0)=false/\wr.frozen? (tD (w.heap.size+1+1+1) 1)=false/\wr.frozen? (tD (w.heap.size+1+1+1) 2)=false):=fun h=>by
  have g:=fd3 h.bb;exact⟨⟨g.1.1,g.2.1.1,g.2.2.1⟩,g.1.2,g.2.1.2,g.2.2.2⟩
 obtain⟨i2,cg,ch,ck,cm⟩:=Bm.fB 63 (.agg #[zE,zE]) 2 32 (by kernel_rfl);have bi:Hid (prog.info? 63=some i2/\i2.zero=some (.agg #[zE,zE])/\i2.size=2/\i2.bytes=32):=⟨cg,ch,ck,cm⟩;clear cg ch ck cm;obtain⟨i3,cg,ch,ck,cm⟩:=Bm.fB 65 (.agg #[zI 0,zE,zE]) 3 40 (by kernel_rfl);have bk:Hid (prog.info? 65=some i3/\i3.zero=some (.agg #[zI 0,zE,zE])/\i3.size=3/\i3.bytes=40):=⟨cg,ch,ck,cm⟩;clear cg ch ck cm;go_enter func10,ntmps10;go_wp2;go_loopg [7,8] M.length (fun gg s7 s8 wr=>∃(i dn:Nat)(mz:zV)(Z:List Mo),i<=M.length/\M.length-i<=gg/\s7=zI dn/\s8=zI i/\dn<=i/\Hid (Z=wo (M.take i) Dr/\dn+Z.length=i)/\Hid (FoS w va vd wr mz nl nl Z []))
 case atStart=>exact⟨0,0,nl,[],by omega,by omega,rfl,rfl,af _,⟨rfl,rfl⟩,HN⟩
 case round=>
  as_aux_lemma=>
  obtain⟨i,dn,mz,Z,hi,hg,rfl,rfl,h9,HZ,HR⟩:=hrel;clear HN;obtain⟨p0,p1,p2⟩:=CA.o HR.o;by_cases b3:i<M.length
  ·have bp:((i:Nat):Int)<((M.length:Nat):Int):=by omega
   obtain⟨D,E,b,o,hx,au,ak,an⟩:=lV R1.o HR.o.b b3;have HX:Hid (M[i]?=some (D,E)):=hx;clear hx ak an;go_wp2;go_loopg [9,10] Dr.length (fun gg s9 fi wq=>∃(k:Nat)(g:Bool),k<=Dr.length/\Dr.length-k<=gg/\s9=.bool g/\fi=zI k/\Hid (Bi g ((D,E)∈Dr.take k))/\Hid (FoS w va vd wq mz nl nl Z []))
   case atStart=>exact⟨0,false,by omega,by omega,rfl,rfl,⟨fun h=>absurd h (by decide),fun h=>absurd h (by simp)⟩,HR⟩
   case round=>
    as_aux_lemma=>
    obtain⟨k,g,hk,cf,rfl,rfl,HG,HQ⟩:=hrel;obtain⟨p0,p1,p2⟩:=CA.o HQ.o;obtain⟨d0,d1,d2,d3,d4,d5⟩:=CD.o HQ.o;obtain⟨_,_,b',o',a7,nj,ak,an⟩:=lV R1.o HQ.o.b b3;rw[HX.o] at a7;injection a7 with a7;injection a7 with e1 e2;subst e1;subst e2;rw[au] at nj;injection nj with nj;injection nj with e4 e5 _;subst e4;subst e5;subst au;by_cases bv:k<Dr.length
    ·have bu:((k:Nat):Int)<((Dr.length:Nat):Int):=by omega
     obtain⟨G,y1,yb,yo,hy,rfl,dq,du⟩:=lV H1.o HQ.o.b bv;have HT:=Ei (x:=(D,E)) hy;have HT:Hid ((D,E)∈Dr.take (k+1)↔(D,E)∈Dr.take k\/(D,E)=(G,y1)):=HT;clear hy;cases g
     ·by_cases a9:(D,E)=(G,y1)
      ·injection a9 with q0 q1
       subst q0;subst q1;have t0:(D.toList==D.toList)=true:=by simp
       have t1:(E.toList==E.toList)=true:=by simp
       have aq:Hid (Bi true ((D,E)∈Dr.take (k+1))):=⟨fun _=>HT.o.2 (oS rfl),fun _=>rfl⟩;go_upto_region 10 with fail;go_quiet (fail);generalize V:World.drewN _ _=W4;have a0:Hid (FoS w va vd W4 mz nl nl Z []):=by rw[<-V];exact HQ.o.below (aK (ae _ _) _)
       clear V;go_wp2;go_roundg (Dr.length-(k+1))
       case measure=>omega
       case rel=>exact⟨k+1,true,by omega,by omega,rfl,by go_num,aq,a0⟩
      have aq:Hid (Bi false ((D,E)∈Dr.take (k+1))):=⟨fun h=>absurd h (by decide),fun h=>(HT.o.1 h).elim (fun h=>absurd (HG.o.2 h) (by decide)) (fun h=>absurd h a9)⟩
      have q3:(G.toList==D.toList)=false\/(G=D/\(y1.toList==E.toList)=false):=by
       by_cases t:G=D
       ·exact oS ⟨t,Rn.bM (fun h=>a9 (by rw[t,h]))⟩
       exact oE (Rn.bM t)
      clear a9 HT;rcases q3 with q|⟨rfl,q⟩
      rotate_left
      have t0:(G.toList==G.toList)=true:=by simp
      rotate_left
      all_goals
       go_upto_region 10 with fail;go_quiet (fail);generalize V:World.drewN _ _=W4;have a0:Hid (FoS w va vd W4 mz nl nl Z []):=by rw[<-V];exact HQ.o.below (aK (ae _ _) _)
       clear V;go_wp2;go_roundg (Dr.length-(k+1))
       case measure=>omega
       case rel=>exact⟨k+1,false,by omega,by omega,rfl,by go_num,aq,a0⟩
     have aq:Hid (Bi true ((D,E)∈Dr.take (k+1))):=⟨fun _=>HT.o.2 (oE (HG.o.1 rfl)),fun _=>rfl⟩
     go_upto_region 10 with fail;go_quiet (fail);generalize V:World.drewN _ _=W4;have a0:Hid (FoS w va vd W4 mz nl nl Z []):=by rw[<-V];exact HQ.o.below (aK (ae _ _) _)
     clear V;go_wp2;go_roundg (Dr.length-(k+1))
     case measure=>omega
     case rel=>exact⟨k+1,true,by omega,by omega,rfl,by go_num,aq,a0⟩
    have bu:¬((k:Nat):Int)<((Dr.length:Nat):Int):=by omega
    have b8:Hid (Bi g ((D,E)∈Dr)):=by
     have e:Dr.take k=Dr:=fy (by omega);have:=HG.o;rw[e] at this;exact this
    clear HG;have HW:=vQ HX.o Dr;have HW:Hid (((D,E)∈Dr->wo (M.take (i+1)) Dr=wo (M.take i) Dr)/\((D,E)∉Dr->wo (M.take (i+1)) Dr=wo (M.take i) Dr++[(D,E)])):=HW;cases g
    ·have b4:(D,E)∉Dr:=fun h=>absurd (b8.o.2 h) (by decide)
     have bn:Hid (Z++[(D,E)]=wo (M.take (i+1)) Dr/\dn+(Z++[(D,E)]).length=i+1):=⟨by rw[HW.o.2 b4,<-HZ.o.1],by rw[aW];have:=HZ.o.2;simp;omega⟩;have ff:Z.length<=i:=by have:=HZ.o.2;omega
     obtain⟨ma,mc,e1⟩:=ax HQ.o.rm;subst e1;clear b4 HW b8 HZ;generalize b6:Z.length=U at*;have a5:Hid (Z.length=U):=b6;clear b6;obtain⟨⟨b0,b1,b2⟩,z0,z1,z2⟩:=CB.o HQ.o;have av:zB wr (wr.alloc (.cells #[tS D,tS E] 63)):=(ae _ _).alloc (af _) _;have a8:Hid (FoS w va vd (wr.alloc (.cells #[tS D,tS E] 63)).drew (.slice ma U mc) nl nl Z []):=HQ.o.below av.drew;obtain⟨⟨t0,t1,t2⟩,_⟩:=CB.o (HQ.o.below av);have bh:(wr.alloc (.cells #[tS D,tS E] 63)).drew.ownsRow (w.heap.size+4) 63 2 (.slice ma U mc) U (Z.flatMap Sm.mc):=by have:=a8.o.rm;rw[a5.o] at this;exact this
     have bc:∀j u,[Value.string D,tS E][j]?=some u->(wr.alloc (.cells #[tS D,tS E] 63)).drew.cell? (((tD wr.heap.size 0):Addr).add j)=some u:=fun j u hj=>by
      have q:=dy wr #[tS D,tS E] 63 (j:=j) (u:=u) (by simpa using hj);rw[addr_add,cZ];exact q.1
     have fd:w.heap.size+4<=wr.heap.size:=by have:=ah HQ.o.bb;omega
     go_upto_region 13 with fail
     go_region_law
      (first|(refine step_append_lies _ rfl (.tmp 57) (.tmp 63) 30 rfl (w.heap.size+4) 63 i2 (.agg #[zE,zE]) 2 32 underlying30 bi.o.1 bi.o.2.1 bi.o.2.2.1 bi.o.2.2.2 rfl (by decide) _ U _ rfl bh (tD wr.heap.size 0) 1 1 [tS D,tS E] rfl rfl bc (fun u hu=>by simp at hu;rcases hu with rfl|rfl<;>rfl) (by decide) (by unfold maxLen;omega) (by omega) (by show w.heap.size+4<=(wr.alloc _).heap.size;simp;omega) _ rfl ?_;intro g cap w5 b5 a6 fa vB;have bs:=a8.o.kept a6 (oE rfl);have bt:w5.heap[w.heap.size+1+1+1]?=_:=bs.1;obtain⟨⟨e3,f3⟩,⟨e4,f4⟩,⟨e5,f5⟩⟩:=fd3 bt))
     all_goals
      have HF:Hid (FoS w va vd (w5.setCell (tD (w.heap.size+1+1+1) 0) (.slice (some (tD g 0)) (U+1) cap)) (.slice (some (tD g 0)) (U+1) cap) nl nl (Z++[(D,E)]) []):=a8.o.appM (D,E) ((ai.refl _ _).grown a6 (fun _ _ e=>e)) (by rw[a5.o];exact b5);go_wp2;go_roundg (M.length-(i+1))
      case measure=>omega
      case rel=>exact⟨i+1,dn,_,Z++[(D,E)],by omega,by omega,rfl,by go_num,by omega,bn,HF⟩
    have b4:(D,E)∈Dr:=b8.o.1 rfl
    have bn:Hid (Z=wo (M.take (i+1)) Dr/\dn+1+Z.length=i+1):=⟨by rw[HW.o.1 b4,<-HZ.o.1],by have:=HZ.o.2;omega⟩;clear b4 HW b8 HZ;go_wp2;go_roundg (M.length-(i+1))
    case measure=>omega
    case rel=>exact⟨i+1,dn+1,_,Z,by omega,by omega,by go_num,by go_num,by omega,bn,HQ⟩
  have bp:¬((i:Nat):Int)<((M.length:Nat):Int):=by omega
  have HE:Hid (Z=wo M Dr/\dn+Z.length=M.length):=by
   have e:M.take i=M:=fy (by omega);refine⟨by rw[HZ.o.1,e],by have:=HZ.o.2;omega⟩
  have gm:Hid (Z.length<=10000000/\Ad.length<=10000000):=⟨by have:=HE.o.2;omega,by omega⟩;go_wp2;go_loopg [11] Ad.length (fun gg fk wr=>∃(i:Nat)(mm:zV)(F:List Mo),i<=Ad.length/\Ad.length-i<=gg/\fk=zI i/\Hid (F=(Ad.take i).foldl (fun F x=>Ss.ins (Go.Proofs.ltOf fun x y:Mo=>aT x.1 y.1) x F) Z/\F.length=Z.length+i)/\Hid (FoS w va vd wr mm nl nl F []))
  case atStart=>exact⟨0,_,Z,by omega,by omega,rfl,⟨rfl,rfl⟩,HR⟩
  case round=>
   as_aux_lemma=>
   obtain⟨i,mm,F,hi,hg,rfl,HK,HR⟩:=hrel;obtain⟨d0,d1,d2,d3,d4,d5⟩:=CD.o HR.o;by_cases b3:i<Ad.length
   ·have bp:((i:Nat):Int)<((Ad.length:Nat):Int):=by omega
    obtain⟨D,E,b,o,hx,au,ak,an⟩:=lV H2.o HR.o.b b3;have HX:Hid (Ad[i]?=some (D,E)):=hx;have c9:Hid ((D,E)∉M):=HD.o _ (iN hx);clear hx ak an;go_wp2;go_loopg [12] M.length (fun gg fm wq=>∃k:Nat,k<=M.length/\M.length-k<=gg/\fm=zI k/\Hid (FoS w va vd wq mm nl nl F []))
    case atStart=>exact⟨0,by omega,by omega,rfl,HR⟩
    case round=>
     as_aux_lemma=>
     obtain⟨k,hk,cf,rfl,HQ⟩:=hrel;obtain⟨p0,p1,p2⟩:=CA.o HQ.o;obtain⟨d0,d1,d2,d3,d4,d5⟩:=CD.o HQ.o;obtain⟨_,_,b',o',a7,nj,ak,an⟩:=lV H2.o HQ.o.b b3;rw[HX.o] at a7;injection a7 with a7;injection a7 with e1 e2;subst e1;subst e2;rw[au] at nj;injection nj with nj;injection nj with e4 e5 _;subst e4;subst e5;subst au;by_cases bv:k<M.length
     ·have bu:((k:Nat):Int)<((M.length:Nat):Int):=by omega
      obtain⟨G,y1,yb,yo,hy,rfl,dq,du⟩:=lV R1.o HQ.o.b bv;have a9:¬(D,E)=(G,y1):=fun e=>c9.o (by rw[e];exact iN hy)
      clear hy
      have q3:(G.toList==D.toList)=false\/(G=D/\(y1.toList==E.toList)=false):=by
        by_cases t:G=D
        ·exact oS ⟨t,Rn.bM (fun h=>a9 (by rw[t,h]))⟩
        exact oE (Rn.bM t)
      clear a9;rcases q3 with q|⟨rfl,q⟩
      rotate_left
      have t0:(G.toList==G.toList)=true:=by simp
      rotate_left
      all_goals
       go_upto_region 20 with fail;go_quiet (fail);generalize V:World.drewN _ _=W4;have a0:Hid (FoS w va vd W4 mm nl nl F []):=by rw[<-V];exact HQ.o.below (aK (ae _ _) _)
       clear V;go_wp2;go_roundg (M.length-(k+1))
       case measure=>omega
       case rel=>exact⟨k+1,by omega,by omega,by go_num,a0⟩
     have bu:¬((k:Nat):Int)<((M.length:Nat):Int):=by omega
     obtain⟨ma,mc,e1⟩:=ax HQ.o.rm;subst e1;have ff:F.length<=20000000:=by have:=HK.o.2;have:=gm.o;omega
     generalize b6:F.length=U at*;have a5:Hid (F.length=U):=b6;clear b6;obtain⟨⟨b0,b1,b2⟩,z0,z1,z2⟩:=CB.o HQ.o;have av:zB wr (wr.alloc (.cells #[tS D,tS E] 63)):=(ae _ _).alloc (af _) _;have a8:Hid (FoS w va vd (wr.alloc (.cells #[tS D,tS E] 63)).drew (.slice ma U mc) nl nl F []):=HQ.o.below av.drew;obtain⟨⟨t0,t1,t2⟩,_⟩:=CB.o (HQ.o.below av);have bh:(wr.alloc (.cells #[tS D,tS E] 63)).drew.ownsRow (w.heap.size+4) 63 2 (.slice ma U mc) U (F.flatMap Sm.mc):=by have:=a8.o.rm;rw[a5.o] at this;exact this
     have bc:∀j u,[Value.string D,tS E][j]?=some u->(wr.alloc (.cells #[tS D,tS E] 63)).drew.cell? (((tD wr.heap.size 0):Addr).add j)=some u:=fun j u hj=>by
      have q:=dy wr #[tS D,tS E] 63 (j:=j) (u:=u) (by simpa using hj);rw[addr_add,cZ];exact q.1
     have fd:w.heap.size+4<=wr.heap.size:=by have:=ah HQ.o.bb;omega
     go_upto_region 22 with fail
     go_cut [] (fun wx=>∃(g cap:Nat),Hid (FoS w va vd wx (.slice (some (tD g 0)) (U+1) cap) nl nl (F++[(D,E)]) []))
     case first=>
      as_aux_lemma=>
      go_region_law
       (first|(refine step_append_lies _ rfl (.tmp 93) (.tmp 99) 30 rfl (w.heap.size+4) 63 i2 (.agg #[zE,zE]) 2 32 underlying30 bi.o.1 bi.o.2.1 bi.o.2.2.1 bi.o.2.2.2 rfl (by decide) _ U _ rfl bh (tD wr.heap.size 0) 1 1 [tS D,tS E] rfl rfl bc (fun u hu=>by simp at hu;rcases hu with rfl|rfl<;>rfl) (by decide) (by unfold maxLen;omega) (by omega) (by show w.heap.size+4<=(wr.alloc _).heap.size;simp;omega) _ rfl ?_;intro g cap w5 b5 a6 fa vB;have bs:=a8.o.kept a6 (oE rfl);have bt:w5.heap[w.heap.size+1+1+1]?=_:=bs.1;obtain⟨⟨e3,f3⟩,⟨e4,f4⟩,⟨e5,f5⟩⟩:=fd3 bt))
      all_goals
       have HF:Hid (FoS w va vd (w5.setCell (tD (w.heap.size+1+1+1) 0) (.slice (some (tD g 0)) (U+1) cap)) (.slice (some (tD g 0)) (U+1) cap) nl nl (F++[(D,E)]) []):=a8.o.appM (D,E) ((ai.refl _ _).grown a6 (fun _ _ e=>e)) (by rw[a5.o];exact b5)
       go_wp2_with fail
       go_meet
       exact⟨g,cap,HF⟩
     case rest=>
      as_aux_lemma=>
      obtain⟨g,cap,HF⟩:=hcut;clear bc bh t0 t1 t2 b0 b1 b2 z0 z1 z2 a8 HQ p0 p1 p2 d0 d1 d2 d3 d4 d5 ak an
      have c8:Hid (Ss.ins (Go.Proofs.ltOf fun x y:Mo=>aT x.1 y.1) (D,E) F=(Ad.take (i+1)).foldl (fun F x=>Ss.ins (Go.Proofs.ltOf fun x y:Mo=>aT x.1 y.1) x F) Z/\(Ss.ins (Go.Proofs.ltOf fun x y:Mo=>aT x.1 y.1) (D,E) F).length=Z.length+(i+1)):=by
       refine⟨?_,?_⟩
       ·rw[iY,HX.o,jI,<-HK.o.1];rfl
       rw[Ss.A8];have:=HK.o.2;have:=a5.o;omega
      clear HK HX c9;obtain⟨⟨b0,b1,b2⟩,z0,z1,z2⟩:=CB.o HF.o;go_wp2;go_loopg [13] U (fun gg fs wz=>∃k:Nat,k<=U/\k<=gg/\fs=zI k/\Hid (∀y∈F.drop k,(Go.Proofs.ltOf fun x y:Mo=>aT x.1 y.1) (D,E) y=true)/\Hid (FoS w va vd wz (.slice (some (tD g 0)) (U+1) cap) nl nl (F.take k++(D,E)::F.drop k) []))
      case atStart=>
       refine⟨U,af _,af _,by go_num,?_,?_⟩
       ·show ∀y∈F.drop U,_
        intro y hy;rw[iO (by rw[a5.o];exact af _)] at hy;cases hy
       rw[iO (by rw[a5.o];exact af _),fy (by rw[a5.o];exact af _)]
       exact HF
      case round=>
       as_aux_lemma=>
       obtain⟨k,hk,cf,rfl,HL,HB⟩:=hrel;clear b0 b1 b2 z0 z1 z2;obtain⟨⟨b0,b1,b2⟩,z0,z1,z2⟩:=CB.o HB.o;rcases k with _|j
       ·have bm:Hid (F.take 0++(D,E)::F.drop 0=Ss.ins (Go.Proofs.ltOf fun x y:Mo=>aT x.1 y.1) (D,E) F):=(BM (D,E) F 0 HL.o (fun y h=>absurd rfl h) (aL _)).symm
        go_upto_region 24 with fail;go_quiet (fail);generalize V:World.drewN _ _=W4
        have a0:Hid (FoS w va vd W4 (.slice (some (tD g 0)) (U+1) cap) nl nl (Ss.ins (Go.Proofs.ltOf fun x y:Mo=>aT x.1 y.1) (D,E) F) []):=by
         rw[<-V,<-bm.o];exact HB.o.below (aK (ae _ _) _)
        clear V;go_wp2;go_roundg (Ad.length-(i+1))
        case measure=>omega
        case rel=>exact⟨i+1,_,_,by omega,by omega,by go_num,c8,a0⟩
       have bq:j<F.length:=by rw[a5.o];omega
       obtain⟨⟨G,y1⟩,hy⟩:∃y,F[j]?=some y:=⟨_,aV bq⟩;obtain⟨cp,cs,ct⟩:=Az (D,E) (G,y1) F j bq hy;have cn:U+1=(F.take (j+1)++(D,E)::F.drop (j+1)).length:=by simp[jz,List.length_drop];have:=a5.o;omega
       have HS:Hid ((F.take (j+1)++(D,E)::F.drop (j+1))[j]?=some (G,y1)/\(F.take (j+1)++(D,E)::F.drop (j+1))[j+1]?=some (D,E)/\((F.take (j+1)++(D,E)::F.drop (j+1)).set (j+1) (G,y1)).set j (D,E)=F.take j++(D,E)::F.drop j/\U+1=(F.take (j+1)++(D,E)::F.drop (j+1)).length/\F[j]?=some (G,y1)/\F.drop j=(G,y1)::F.drop (j+1)):=⟨cp,cs,ct,cn,hy,by
        obtain⟨h,e⟩:=dv.1 hy;rw[cY h,e]⟩
       have HC:Hid (∀W,FoS w va vd W (.slice (some (tD g 0)) (U+1) cap) nl nl (F.take (j+1)++(D,E)::F.drop (j+1)) []->(W.cell? ⟨g,(j+1)*2,none⟩=some (tS D)/\W.cell? ⟨g,(j+1)*2+1,none⟩=some (tS E))/\(W.cell? (tD g (j*2))=some (tS G)/\W.cell? (tD g (j*2+1))=some (tS y1))):=fun W h=>by
        have h2:=h.rm;rw[<-HS.o.2.2.2.1] at h2;exact⟨BL h2 HS.o.2.2.2.1 HS.o.2.1,BL h2 HS.o.2.2.2.1 HS.o.1⟩
       clear cp cs ct cn hy bq;obtain⟨⟨r0,r1⟩,r2,r3⟩:=HC.o _ HB.o;have ha:(0:Int)<((j:Nat):Int)+1:=by omega
       have hb:((j:Nat):Int)+1<((U:Nat):Int)+1:=by omega
       have hf:((j:Nat):Int)<((U:Nat):Int)+1:=by omega
       by_cases c7:(Go.Proofs.ltOf fun x y:Mo=>aT x.1 y.1) (D,E) (G,y1)=true
       ·have q:Go.Op.bytesLess D.toList G.toList=true:=by rw[iT];exact c7
        have dc:Hid (∀y∈F.drop j,(Go.Proofs.ltOf fun x y:Mo=>aT x.1 y.1) (D,E) y=true):=fun y h=>by
         rw[HS.o.2.2.2.2.2] at h;rcases aP.1 h with e|h
         ·rw[e];exact c7
         exact HL.o y h
        clear c7;go_upto_region 24 with fail;go_quiet (fail);generalize V:World.drewN _ _=W4
        have a0:Hid (FoS w va vd W4 (.slice (some (tD g 0)) (U+1) cap) nl nl (F.take (j+1)++(D,E)::F.drop (j+1)) []):=by
         rw[<-V];exact HB.o.below (aK (ae _ _) _)
        clear V r0 r1 r2 r3 b0 b1 b2 z0 z1 z2 q;obtain⟨⟨r0,r1⟩,r2,r3⟩:=HC.o _ a0.o;obtain⟨⟨b0,b1,b2⟩,_⟩:=CB.o a0.o;go_upto_region 27 with fail;have a4:Hid (FoS w va vd (W4.alloc (.cells #[tS D,tS E] 63)) (.slice (some (tD g 0)) (U+1) cap) nl nl (F.take (j+1)++(D,E)::F.drop (j+1)) []/\(W4.alloc (.cells #[tS D,tS E] 63)).heap[W4.heap.size]?=some (.cells #[tS D,tS E] 63)/\g<W4.heap.size):=⟨a0.o.below ((ae _ _).alloc (af _) _),ay _ _,(a0.o.rm.lt g rfl).2⟩;clear r0 r1 r2 r3 b0 b1 b2;generalize W4.alloc (.cells #[tS D,tS E] 63)=W5 at*;generalize W4.heap.size=xb at*;obtain⟨⟨r0,r1⟩,r2,r3⟩:=HC.o _ a4.o.1;obtain⟨⟨b0,b1,b2⟩,_⟩:=CB.o a4.o.1;have f0:=a4.o.1.rm.fV ((j+1)*2);have f1:=a4.o.1.rm.fV ((j+1)*2+1)
        have dj:Hid (∀W,FoS w va vd W (.slice (some (tD g 0)) (U+1) cap) nl nl (F.take (j+1)++(D,E)::F.drop (j+1)) []->W.heap[xb]?=some (.cells #[tS D,tS E] 63)->FoS w va vd ((W.setCell ⟨g,(j+1)*2,none⟩ (tS G)).setCell ⟨g,(j+1)*2+1,none⟩ (tS y1)) (.slice (some (tD g 0)) (U+1) cap) nl nl ((F.take (j+1)++(D,E)::F.drop (j+1)).set (j+1) (G,y1)) []/\((W.setCell ⟨g,(j+1)*2,none⟩ (tS G)).setCell ⟨g,(j+1)*2+1,none⟩ (tS y1)).heap[xb]?=some (.cells #[tS D,tS E] 63)):=fun W h hx=>by
         have fb:xb≠g:=by have:=a4.o.2.2;omega
         refine⟨h.putM HS.o.2.2.2.1 (j+1) (by omega) (G,y1),?_⟩;exact((((ai.refl (fun b=>b=g) W).set (a:=⟨g,(j+1)*2,none⟩) (fun _=>rfl) _).set (a:=⟨g,(j+1)*2+1,none⟩) (fun _=>rfl) _).block xb (ah hx) fb).trans hx
        go_cut [] (fun wx=>Hid (FoS w va vd wx (.slice (some (tD g 0)) (U+1) cap) nl nl ((F.take (j+1)++(D,E)::F.drop (j+1)).set (j+1) (G,y1)) []/\wx.heap[xb]?=some (.cells #[tS D,tS E] 63)))
        case first=>
         as_aux_lemma=>
         go_region
         all_goals
          go_wp2_with fail
          go_meet
          first
           |exact dj.o _ a4.o.1 a4.o.2.1
           |exact dj.o _ (a4.o.1.below ((ae _ _).drew)) a4.o.2.1
        case rest=>
         as_aux_lemma=>
         have ad:=hcut;clear hcut dj a4 r0 r1 r2 r3 b0 b1 b2 f0 f1;obtain⟨⟨b0,b1,b2⟩,_⟩:=CB.o ad.o.1;obtain⟨⟨u0,_⟩,⟨u1,_⟩⟩:=fd2 ad.o.2;have f0:=ad.o.1.rm.fV (j*2);have f1:=ad.o.1.rm.fV (j*2+1)
         have db:wc.cell? (tD g (j*2))=some (tS G)/\wc.cell? (tD g (j*2+1))=some (tS y1):=by
          have h2:=ad.o.1.rm;have hl:U+1=((F.take (j+1)++(D,E)::F.drop (j+1)).set (j+1) (G,y1)).length:=by rw[List.length_set];exact HS.o.2.2.2.1
          rw[<-hl] at h2;exact BL h2 hl (by rw[List.getElem?_set_ne (show j+1≠j by omega)];exact HS.o.1)
         obtain⟨r2,r3⟩:=db
         have dk:Hid (FoS w va vd ((wc.setCell (tD g (j*2)) (tS D)).setCell (tD g (j*2+1)) (tS E)) (.slice (some (tD g 0)) (U+1) cap) nl nl (F.take j++(D,E)::F.drop j) []):=by
          have h:=ad.o.1.putM (by rw[List.length_set];exact HS.o.2.2.2.1) j (by omega) (D,E);rw[HS.o.2.2.1] at h;exact h
         go_wp2;go_roundg j
         case measure=>omega
         case rel=>exact⟨j,by omega,af _,by go_num,dc,dk⟩
       have q:Go.Op.bytesLess D.toList G.toList=false:=by
        rw[iT];exact Bool.eq_false_iff.2 c7
       have bm:Hid (F.take (j+1)++(D,E)::F.drop (j+1)=Ss.ins (Go.Proofs.ltOf fun x y:Mo=>aT x.1 y.1) (D,E) F):=(BM (D,E) F (j+1) HL.o (fun y _ h=>by
        have h:F[j]?=some y:=h;rw[HS.o.2.2.2.2.1] at h;injection h with h;rw[<-h];exact Bool.eq_false_iff.2 c7) (by rw[a5.o];omega)).symm
       clear c7;go_upto_region 24 with fail;go_quiet (fail);generalize V:World.drewN _ _=W4
       have a0:Hid (FoS w va vd W4 (.slice (some (tD g 0)) (U+1) cap) nl nl (Ss.ins (Go.Proofs.ltOf fun x y:Mo=>aT x.1 y.1) (D,E) F) []):=by
        rw[<-V,<-bm.o];exact HB.o.below (aK (ae _ _) _)
       clear V;go_wp2;go_roundg (Ad.length-(i+1))
       case measure=>omega
       case rel=>exact⟨i+1,_,_,by omega,by omega,by go_num,c8,a0⟩
   have bp:¬((i:Nat):Int)<((Ad.length:Nat):Int):=by omega
   have g2:Hid (F=M'):=by
    have e:Ad.take i=Ad:=fy (by omega);have h:=HK.o.1;rw[e,HE.o.1,FB.o] at h;exact h
   go_wp2;go_loopg [15,16] P.length (fun gg s7 s8 wr=>∃(i dp:Nat)(mz:zV)(ZP:List Pb),i<=P.length/\P.length-i<=gg/\s7=zI dp/\s8=zI i/\dp<=i/\Hid (ZP=wo (P.take i) Gn/\dp+ZP.length=i)/\Hid (FoS w va vd wr mm mz nl F ZP))
   case atStart=>exact⟨0,0,nl,[],by omega,by omega,rfl,rfl,af _,⟨rfl,rfl⟩,HR⟩
   case round=>
    as_aux_lemma=>
    obtain⟨i,dp,mz,ZP,hi,hg,rfl,rfl,h9,HZ,HR⟩:=hrel
    skip
    obtain⟨p0,p1,p2⟩:=CA.o HR.o;by_cases b3:i<P.length
    ·have bp:((i:Nat):Int)<((P.length:Nat):Int):=by omega
     obtain⟨D,E,I,b,o,hx,au,ak,an,c0⟩:=lW R2.o HR.o.b b3;have HX:Hid (P[i]?=some (D,E,I)):=hx;clear hx ak an c0;go_wp2;go_loopg [17,18] Gn.length (fun gg s9 fi wq=>∃(k:Nat)(g:Bool),k<=Gn.length/\Gn.length-k<=gg/\s9=.bool g/\fi=zI k/\Hid (Bi g ((D,E,I)∈Gn.take k))/\Hid (FoS w va vd wq mm mz nl F ZP))
     case atStart=>exact⟨0,false,by omega,by omega,rfl,rfl,⟨fun h=>absurd h (by decide),fun h=>absurd h (by simp)⟩,HR⟩
     case round=>
      as_aux_lemma=>
      obtain⟨k,g,hk,cf,rfl,rfl,HG,HQ⟩:=hrel;obtain⟨p0,p1,p2⟩:=CA.o HQ.o;obtain⟨d0,d1,d2,d3,d4,d5⟩:=CD.o HQ.o;obtain⟨_,_,_,b',o',a7,nj,ak,an,c0⟩:=lW R2.o HQ.o.b b3;rw[HX.o] at a7;injection a7 with a7;injection a7 with e1 e2;injection e2 with e2 e3;subst e1;subst e2;subst e3;rw[au] at nj;injection nj with nj;injection nj with e4 e5 _;subst e4;subst e5;subst au;by_cases bv:k<Gn.length
      ·have bu:((k:Nat):Int)<((Gn.length:Nat):Int):=by omega
       obtain⟨G,y1,y2,yb,yo,hy,rfl,dq,du,gx⟩:=lW H3.o HQ.o.b bv;have HT:=Ei (x:=(D,E,I)) hy;have HT:Hid ((D,E,I)∈Gn.take (k+1)↔(D,E,I)∈Gn.take k\/(D,E,I)=(G,y1,y2)):=HT;clear hy;cases g
       ·by_cases a9:(D,E,I)=(G,y1,y2)
        ·injection a9 with q0 q1
         injection q1 with q1 q2;subst q0;subst q1;subst q2;have t0:(((D:Nat):Int)==((D:Nat):Int))=true:=by simp
         have t1:(E.toList==E.toList)=true:=by simp
         have t2:(I.toList==I.toList)=true:=by simp
         have aq:Hid (Bi true ((D,E,I)∈Gn.take (k+1))):=⟨fun _=>HT.o.2 (oS rfl),fun _=>rfl⟩;go_upto_region 37 with fail;go_quiet (fail);generalize V:World.drewN _ _=W4;have a0:Hid (FoS w va vd W4 mm mz nl F ZP):=by rw[<-V];exact HQ.o.below (aK (ae _ _) _)
         clear V;go_wp2;go_roundg (Gn.length-(k+1))
         case measure=>omega
         case rel=>exact⟨k+1,true,by omega,by omega,rfl,by go_num,aq,a0⟩
        have aq:Hid (Bi false ((D,E,I)∈Gn.take (k+1))):=⟨fun h=>absurd h (by decide),fun h=>(HT.o.1 h).elim (fun h=>absurd (HG.o.2 h) (by decide)) (fun h=>absurd h a9)⟩
        have q3:(((G:Nat):Int)==((D:Nat):Int))=false\/(G=D/\(y1.toList==E.toList)=false)\/(G=D/\y1=E/\(y2.toList==I.toList)=false):=by
         by_cases t:G=D
         ·by_cases t1:y1=E
          ·exact oS (oS ⟨t,t1,Rn.bM (fun h=>a9 (by rw[t,t1,h]))⟩)
          exact oS (oE ⟨t,Rn.bM t1⟩)
         exact oE (by rw[eI];omega)
        clear a9 HT;rcases q3 with q|⟨rfl,q⟩|⟨rfl,rfl,q⟩
        rotate_left
        have t0:(((G:Nat):Int)==((G:Nat):Int))=true:=by simp
        rotate_left
        have t0:(((G:Nat):Int)==((G:Nat):Int))=true:=by simp
        have t1:(y1.toList==y1.toList)=true:=by simp
        rotate_left
        all_goals
         go_upto_region 37 with fail;go_quiet (fail);generalize V:World.drewN _ _=W4;have a0:Hid (FoS w va vd W4 mm mz nl F ZP):=by rw[<-V];exact HQ.o.below (aK (ae _ _) _)
         clear V;go_wp2;go_roundg (Gn.length-(k+1))
         case measure=>omega
         case rel=>exact⟨k+1,false,by omega,by omega,rfl,by go_num,aq,a0⟩
       have aq:Hid (Bi true ((D,E,I)∈Gn.take (k+1))):=⟨fun _=>HT.o.2 (oE (HG.o.1 rfl)),fun _=>rfl⟩
       go_upto_region 37 with fail;go_quiet (fail);generalize V:World.drewN _ _=W4;have a0:Hid (FoS w va vd W4 mm mz nl F ZP):=by rw[<-V];exact HQ.o.below (aK (ae _ _) _)
       clear V;go_wp2;go_roundg (Gn.length-(k+1))
       case measure=>omega
       case rel=>exact⟨k+1,true,by omega,by omega,rfl,by go_num,aq,a0⟩
      have bu:¬((k:Nat):Int)<((Gn.length:Nat):Int):=by omega
      have b8:Hid (Bi g ((D,E,I)∈Gn)):=by
       have e:Gn.take k=Gn:=fy (by omega);have:=HG.o;rw[e] at this;exact this
      clear HG;have HW:=vQ HX.o Gn;have HW:Hid (((D,E,I)∈Gn->wo (P.take (i+1)) Gn=wo (P.take i) Gn)/\((D,E,I)∉Gn->wo (P.take (i+1)) Gn=wo (P.take i) Gn++[(D,E,I)])):=HW;cases g
      ·have b4:(D,E,I)∉Gn:=fun h=>absurd (b8.o.2 h) (by decide)
       have bn:Hid (ZP++[(D,E,I)]=wo (P.take (i+1)) Gn/\dp+(ZP++[(D,E,I)]).length=i+1):=⟨by rw[HW.o.2 b4,<-HZ.o.1],by rw[aW];have:=HZ.o.2;simp;omega⟩;have ff:ZP.length<=i:=by have:=HZ.o.2;omega
       obtain⟨ma,mc,e1⟩:=ax HQ.o.rp;subst e1;clear b4 HW b8 HZ;generalize b6:ZP.length=U at*;have a5:Hid (ZP.length=U):=b6;clear b6;obtain⟨⟨b0,b1,b2⟩,z0,z1,z2⟩:=CB.o HQ.o;have av:zB wr (wr.alloc (.cells #[zI (D:Nat),tS E,tS I] 65)):=(ae _ _).alloc (af _) _;have a8:Hid (FoS w va vd (wr.alloc (.cells #[zI (D:Nat),tS E,tS I] 65)).drew mm (.slice ma U mc) nl F ZP):=HQ.o.below av.drew;obtain⟨⟨t0,t1,t2⟩,_⟩:=CB.o (HQ.o.below av);have bh:(wr.alloc (.cells #[zI (D:Nat),tS E,tS I] 65)).drew.ownsRow (w.heap.size+4) 65 3 (.slice ma U mc) U (ZP.flatMap aJ):=by have:=a8.o.rp;rw[a5.o] at this;exact this
       have bc:∀j u,[Value.int .i64 (D:Nat),tS E,tS I][j]?=some u->(wr.alloc (.cells #[zI (D:Nat),tS E,tS I] 65)).drew.cell? (((tD wr.heap.size 0):Addr).add j)=some u:=fun j u hj=>by
        have q:=dy wr #[zI (D:Nat),tS E,tS I] 65 (j:=j) (u:=u) (by simpa using hj);rw[addr_add,cZ];exact q.1
       have fd:w.heap.size+4<=wr.heap.size:=by have:=ah HQ.o.bb;omega
       go_upto_region 40 with fail
       go_region_law
        (first|(refine step_append_lies _ rfl (.tmp 179) (.tmp 185) 31 rfl (w.heap.size+4) 65 i3 (.agg #[zI 0,zE,zE]) 3 40 underlying31 bk.o.1 bk.o.2.1 bk.o.2.2.1 bk.o.2.2.2 rfl (by decide) _ U _ rfl bh (tD wr.heap.size 0) 1 1 [zI (D:Nat),tS E,tS I] rfl rfl bc (fun u hu=>by simp at hu;rcases hu with rfl|rfl|rfl<;>rfl) (by decide) (by unfold maxLen;omega) (by omega) (by show w.heap.size+4<=(wr.alloc _).heap.size;simp;omega) _ rfl ?_;intro g cap w5 b5 a6 fa vB;have bs:=a8.o.kept a6 (oS rfl);have bt:w5.heap[w.heap.size+1+1+1]?=_:=bs.1;obtain⟨⟨e3,f3⟩,⟨e4,f4⟩,⟨e5,f5⟩⟩:=fd3 bt))
       all_goals
        have HF:Hid (FoS w va vd (w5.setCell (tD (w.heap.size+1+1+1) 1) (.slice (some (tD g 0)) (U+1) cap)) mm (.slice (some (tD g 0)) (U+1) cap) nl F (ZP++[(D,E,I)])):=a8.o.appP (D,E,I) ((ai.refl _ _).grown a6 (fun _ _ e=>e)) (by rw[a5.o];exact b5);go_wp2;go_roundg (P.length-(i+1))
        case measure=>omega
        case rel=>exact⟨i+1,dp,_,ZP++[(D,E,I)],by omega,by omega,rfl,by go_num,by omega,bn,HF⟩
      have b4:(D,E,I)∈Gn:=b8.o.1 rfl
      have bn:Hid (ZP=wo (P.take (i+1)) Gn/\dp+1+ZP.length=i+1):=⟨by rw[HW.o.1 b4,<-HZ.o.1],by have:=HZ.o.2;omega⟩;clear b4 HW b8 HZ;go_wp2;go_roundg (P.length-(i+1))
      case measure=>omega
      case rel=>exact⟨i+1,dp+1,_,ZP,by omega,by omega,by go_num,by go_num,by omega,bn,HQ⟩
    have bp:¬((i:Nat):Int)<((P.length:Nat):Int):=by omega
    have cx:Hid (ZP=wo P Gn/\dp+ZP.length=P.length):=by
     have e:P.take i=P:=fy (by omega);refine⟨by rw[HZ.o.1,e],by have:=HZ.o.2;omega⟩
    have g3:Hid (ZP.length<=10000000/\Cn.length<=10000000):=⟨by have:=cx.o.2;omega,by omega⟩;go_wp2;go_loopg [19] Cn.length (fun gg fk wr=>∃(i:Nat)(mz:zV)(S:List Pb),i<=Cn.length/\Cn.length-i<=gg/\fk=zI i/\Hid (S=(Cn.take i).foldl (fun S x=>Ss.ins (Go.Proofs.ltOf fun x y:Pb=>cT x y) x S) ZP/\S.length=ZP.length+i)/\Hid (FoS w va vd wr mm mz nl F S))
    case atStart=>exact⟨0,_,ZP,by omega,by omega,rfl,⟨rfl,rfl⟩,HR⟩
    case round=>
     as_aux_lemma=>
     obtain⟨i,mz,S,hi,hg,rfl,HK,HR⟩:=hrel;obtain⟨d0,d1,d2,d3,d4,d5⟩:=CD.o HR.o;by_cases b3:i<Cn.length
     ·have bp:((i:Nat):Int)<((Cn.length:Nat):Int):=by omega
      obtain⟨D,E,I,b,o,hx,au,ak,an,c0⟩:=lW H4.o HR.o.b b3;have HX:Hid (Cn[i]?=some (D,E,I)):=hx;have c9:Hid ((D,E,I)∉P):=fv.o _ (iN hx);clear hx ak an c0;go_wp2;go_loopg [20] P.length (fun gg fm wq=>∃k:Nat,k<=P.length/\P.length-k<=gg/\fm=zI k/\Hid (FoS w va vd wq mm mz nl F S))
      case atStart=>exact⟨0,by omega,by omega,rfl,HR⟩
      case round=>
       as_aux_lemma=>
       obtain⟨k,hk,cf,rfl,HQ⟩:=hrel;obtain⟨p0,p1,p2⟩:=CA.o HQ.o;obtain⟨d0,d1,d2,d3,d4,d5⟩:=CD.o HQ.o;obtain⟨_,_,_,b',o',a7,nj,ak,an,c0⟩:=lW H4.o HQ.o.b b3;rw[HX.o] at a7;injection a7 with a7;injection a7 with e1 e2;injection e2 with e2 e3;subst e1;subst e2;subst e3;rw[au] at nj;injection nj with nj;injection nj with e4 e5 _;subst e4;subst e5;subst au;by_cases bv:k<P.length
       ·have bu:((k:Nat):Int)<((P.length:Nat):Int):=by omega
        obtain⟨G,y1,y2,yb,yo,hy,rfl,dq,du,gx⟩:=lW R2.o HQ.o.b bv;have a9:¬(D,E,I)=(G,y1,y2):=fun e=>c9.o (by rw[e];exact iN hy)
        clear hy
        have q3:(((G:Nat):Int)==((D:Nat):Int))=false\/(G=D/\(y1.toList==E.toList)=false)\/(G=D/\y1=E/\(y2.toList==I.toList)=false):=by
         by_cases t:G=D
         ·by_cases t1:y1=E
          ·exact oS (oS ⟨t,t1,Rn.bM (fun h=>a9 (by rw[t,t1,h]))⟩)
          exact oS (oE ⟨t,Rn.bM t1⟩)
         exact oE (by rw[eI];omega)
        clear a9;rcases q3 with q|⟨rfl,q⟩|⟨rfl,rfl,q⟩
        rotate_left
        have t0:(((G:Nat):Int)==((G:Nat):Int))=true:=by simp
        rotate_left
        have t0:(((G:Nat):Int)==((G:Nat):Int))=true:=by simp
        have t1:(y1.toList==y1.toList)=true:=by simp
        rotate_left
        all_goals
         go_upto_region 47 with fail;go_quiet (fail);generalize V:World.drewN _ _=W4;have a0:Hid (FoS w va vd W4 mm mz nl F S):=by rw[<-V];exact HQ.o.below (aK (ae _ _) _)
         clear V;go_wp2;go_roundg (P.length-(k+1))
         case measure=>omega
         case rel=>exact⟨k+1,by omega,by omega,by go_num,a0⟩
       have bu:¬((k:Nat):Int)<((P.length:Nat):Int):=by omega
       obtain⟨ma,mc,e1⟩:=ax HQ.o.rp;subst e1;have ff:S.length<=20000000:=by have:=HK.o.2;have:=g3.o;omega
       generalize b6:S.length=U at*;have a5:Hid (S.length=U):=b6;clear b6;obtain⟨⟨b0,b1,b2⟩,z0,z1,z2⟩:=CB.o HQ.o;have av:zB wr (wr.alloc (.cells #[zI (D:Nat),tS E,tS I] 65)):=(ae _ _).alloc (af _) _;have a8:Hid (FoS w va vd (wr.alloc (.cells #[zI (D:Nat),tS E,tS I] 65)).drew mm (.slice ma U mc) nl F S):=HQ.o.below av.drew;obtain⟨⟨t0,t1,t2⟩,_⟩:=CB.o (HQ.o.below av);have bh:(wr.alloc (.cells #[zI (D:Nat),tS E,tS I] 65)).drew.ownsRow (w.heap.size+4) 65 3 (.slice ma U mc) U (S.flatMap aJ):=by have:=a8.o.rp;rw[a5.o] at this;exact this
       have bc:∀j u,[Value.int .i64 (D:Nat),tS E,tS I][j]?=some u->(wr.alloc (.cells #[zI (D:Nat),tS E,tS I] 65)).drew.cell? (((tD wr.heap.size 0):Addr).add j)=some u:=fun j u hj=>by
        have q:=dy wr #[zI (D:Nat),tS E,tS I] 65 (j:=j) (u:=u) (by simpa using hj);rw[addr_add,cZ];exact q.1
       have fd:w.heap.size+4<=wr.heap.size:=by have:=ah HQ.o.bb;omega
       go_upto_region 49 with fail
       go_cut [] (fun wx=>∃(g cap:Nat),Hid (FoS w va vd wx mm (.slice (some (tD g 0)) (U+1) cap) nl F (S++[(D,E,I)])))
       case first=>
        as_aux_lemma=>
        go_region_law
         (first|(refine step_append_lies _ rfl (.tmp 215) (.tmp 221) 31 rfl (w.heap.size+4) 65 i3 (.agg #[zI 0,zE,zE]) 3 40 underlying31 bk.o.1 bk.o.2.1 bk.o.2.2.1 bk.o.2.2.2 rfl (by decide) _ U _ rfl bh (tD wr.heap.size 0) 1 1 [zI (D:Nat),tS E,tS I] rfl rfl bc (fun u hu=>by simp at hu;rcases hu with rfl|rfl|rfl<;>rfl) (by decide) (by unfold maxLen;omega) (by omega) (by show w.heap.size+4<=(wr.alloc _).heap.size;simp;omega) _ rfl ?_;intro g cap w5 b5 a6 fa vB;have bs:=a8.o.kept a6 (oS rfl);have bt:w5.heap[w.heap.size+1+1+1]?=_:=bs.1;obtain⟨⟨e3,f3⟩,⟨e4,f4⟩,⟨e5,f5⟩⟩:=fd3 bt))
        all_goals
         have HF:Hid (FoS w va vd (w5.setCell (tD (w.heap.size+1+1+1) 1) (.slice (some (tD g 0)) (U+1) cap)) mm (.slice (some (tD g 0)) (U+1) cap) nl F (S++[(D,E,I)])):=a8.o.appP (D,E,I) ((ai.refl _ _).grown a6 (fun _ _ e=>e)) (by rw[a5.o];exact b5)
         go_wp2_with fail
         go_meet
         exact⟨g,cap,HF⟩
       case rest=>
        as_aux_lemma=>
        obtain⟨g,cap,HF⟩:=hcut;clear bc bh t0 t1 t2 b0 b1 b2 z0 z1 z2 a8 HQ p0 p1 p2 d0 d1 d2 d3 d4 d5 ak an c0
        have c8:Hid (Ss.ins (Go.Proofs.ltOf fun x y:Pb=>cT x y) (D,E,I) S=(Cn.take (i+1)).foldl (fun S x=>Ss.ins (Go.Proofs.ltOf fun x y:Pb=>cT x y) x S) ZP/\(Ss.ins (Go.Proofs.ltOf fun x y:Pb=>cT x y) (D,E,I) S).length=ZP.length+(i+1)):=by
         refine⟨?_,?_⟩
         ·rw[iY,HX.o,jI,<-HK.o.1];rfl
         rw[Ss.A8];have:=HK.o.2;have:=a5.o;omega
        clear HK HX c9;obtain⟨⟨b0,b1,b2⟩,z0,z1,z2⟩:=CB.o HF.o;go_wp2;go_loopg [21] U (fun gg fs wz=>∃k:Nat,k<=U/\k<=gg/\fs=zI k/\Hid (∀y∈S.drop k,(Go.Proofs.ltOf fun x y:Pb=>cT x y) (D,E,I) y=true)/\Hid (FoS w va vd wz mm (.slice (some (tD g 0)) (U+1) cap) nl F (S.take k++(D,E,I)::S.drop k)))
        case atStart=>
         refine⟨U,af _,af _,by go_num,?_,?_⟩
         ·show ∀y∈S.drop U,_
          intro y hy;rw[iO (by rw[a5.o];exact af _)] at hy;cases hy
         rw[iO (by rw[a5.o];exact af _),fy (by rw[a5.o];exact af _)]
         exact HF
        case round=>
         as_aux_lemma=>
         obtain⟨k,hk,cf,rfl,HL,HB⟩:=hrel;clear b0 b1 b2 z0 z1 z2;obtain⟨⟨b0,b1,b2⟩,z0,z1,z2⟩:=CB.o HB.o;rcases k with _|j
         ·have bm:Hid (S.take 0++(D,E,I)::S.drop 0=Ss.ins (Go.Proofs.ltOf fun x y:Pb=>cT x y) (D,E,I) S):=(BM (D,E,I) S 0 HL.o (fun y h=>absurd rfl h) (aL _)).symm
          have a0:Hid (FoS w va vd wr mm (.slice (some (tD g 0)) (U+1) cap) nl F (Ss.ins (Go.Proofs.ltOf fun x y:Pb=>cT x y) (D,E,I) S)):=by
           rw[<-bm.o];exact HB.o
          go_wp2;go_roundg (Cn.length-(i+1))
          case measure=>omega
          case rel=>exact⟨i+1,_,_,by omega,by omega,by go_num,c8,a0⟩
         have bq:j<S.length:=by rw[a5.o];omega
         obtain⟨⟨G,y1,y2⟩,hy⟩:∃y,S[j]?=some y:=⟨_,aV bq⟩;obtain⟨cp,cs,ct⟩:=Az (D,E,I) (G,y1,y2) S j bq hy;have cn:U+1=(S.take (j+1)++(D,E,I)::S.drop (j+1)).length:=by simp[jz,List.length_drop];have:=a5.o;omega
         have HS:Hid ((S.take (j+1)++(D,E,I)::S.drop (j+1))[j]?=some (G,y1,y2)/\(S.take (j+1)++(D,E,I)::S.drop (j+1))[j+1]?=some (D,E,I)/\((S.take (j+1)++(D,E,I)::S.drop (j+1)).set (j+1) (G,y1,y2)).set j (D,E,I)=S.take j++(D,E,I)::S.drop j/\U+1=(S.take (j+1)++(D,E,I)::S.drop (j+1)).length/\S[j]?=some (G,y1,y2)/\S.drop j=(G,y1,y2)::S.drop (j+1)):=⟨cp,cs,ct,cn,hy,by
          obtain⟨h,e⟩:=dv.1 hy;rw[cY h,e]⟩
         have HC:Hid (∀W,FoS w va vd W mm (.slice (some (tD g 0)) (U+1) cap) nl F (S.take (j+1)++(D,E,I)::S.drop (j+1))->(W.cell? ⟨g,(j+1)*3,none⟩=some (zI (D:Nat))/\W.cell? ⟨g,(j+1)*3+1,none⟩=some (tS E)/\W.cell? ⟨g,(j+1)*3+2,none⟩=some (tS I))/\(W.cell? (tD g (j*3))=some (zI (G:Nat))/\W.cell? (tD g (j*3+1))=some (tS y1)/\W.cell? (tD g (j*3+2))=some (tS y2))):=fun W h=>by
          have h2:=h.rp;rw[<-HS.o.2.2.2.1] at h2;exact⟨yB h2 HS.o.2.2.2.1 HS.o.2.1,yB h2 HS.o.2.2.2.1 HS.o.1⟩
         clear cp cs ct cn hy bq;obtain⟨⟨r0,r1,r2⟩,r3,r4,r5⟩:=HC.o _ HB.o;obtain⟨⟨hn,hp,hr⟩,hs,ht,hv⟩:=HC.o (wr.alloc (.cells #[zI (D:Nat),tS E,tS I] 65)) (HB.o.below ((ae _ _).alloc (af _) _));obtain⟨⟨gn,gs,gv⟩,_⟩:=CB.o (HB.o.below (wr':=wr.alloc (.cells #[zI (D:Nat),tS E,tS I] 65)) ((ae _ _).alloc (af _) _));have ha:(0:Int)<((j:Nat):Int)+1:=by omega
         have hb:((j:Nat):Int)+1<((U:Nat):Int)+1:=by omega
         have hf:((j:Nat):Int)<((U:Nat):Int)+1:=by omega
         go_upto_region 55 with fail;have a4:Hid (FoS w va vd ((wr.alloc (.cells #[zI (D:Nat),tS E,tS I] 65)).alloc (.cells #[zI (G:Nat),tS y1,tS y2] 65)) mm (.slice (some (tD g 0)) (U+1) cap) nl F (S.take (j+1)++(D,E,I)::S.drop (j+1))/\(((wr.alloc (.cells #[zI (D:Nat),tS E,tS I] 65)).alloc (.cells #[zI (G:Nat),tS y1,tS y2] 65)).heap[wr.heap.size]?=some (.cells #[zI (D:Nat),tS E,tS I] 65)/\((wr.alloc (.cells #[zI (D:Nat),tS E,tS I] 65)).alloc (.cells #[zI (G:Nat),tS y1,tS y2] 65)).heap[wr.heap.size+1]?=some (.cells #[zI (G:Nat),tS y1,tS y2] 65))/\g<wr.heap.size):=⟨HB.o.below (uB _ _ _).1,(uB _ _ _).2,(HB.o.rp.lt g rfl).2⟩;clear r0 r1 r2 r3 r4 r5 hn hp hr hs ht hv gn gs gv b0 b1 b2 z0 z1 z2;generalize ((wr.alloc (.cells #[zI (D:Nat),tS E,tS I] 65)).alloc (.cells #[zI (G:Nat),tS y1,tS y2] 65))=W5 at*;generalize i4:wr.heap.size+1=yb at*;generalize i1:wr.heap.size=xb at*;obtain⟨⟨u0,_⟩,⟨u1,_⟩,⟨u2,_⟩⟩:=fd3 a4.o.2.1.1;obtain⟨⟨v0,_⟩,⟨v1,_⟩,⟨v2,_⟩⟩:=fd3 a4.o.2.1.2;have gd:Hid (g<xb/\g<yb):=⟨a4.o.2.2,by have:=a4.o.2.2;omega⟩;obtain⟨lt,Qu⟩:∃lt,lt=(Go.Proofs.ltOf fun x y:Pb=>cT x y) (D,E,I) (G,y1,y2):=⟨_,rfl⟩;have g1:Hid (lt=(Go.Proofs.ltOf fun x y:Pb=>cT x y) (D,E,I) (G,y1,y2)):=Qu;have az:=Jw D G E I y1 y2;rw[<-Qu] at az
         clear Qu
         go_cut [275] (fun c wx=>c=.bool (!lt)/\Hid (FoS w va vd wx mm (.slice (some (tD g 0)) (U+1) cap) nl F (S.take (j+1)++(D,E,I)::S.drop (j+1))/\wx.heap[xb]?=some (.cells #[zI (D:Nat),tS E,tS I] 65)/\wx.heap[yb]?=some (.cells #[zI (G:Nat),tS y1,tS y2] 65)))
         case first=>
          as_aux_lemma=>
          rcases az with⟨hl,h⟩|⟨hl,h⟩
          ·subst hl
           rcases h with h|⟨h,q1⟩|⟨h,h1,q1,q2,q3⟩
           ·have q0:((G:Nat):Int)<((D:Nat):Int):=by omega
            go_wp2_with fail
            go_meet
            exact⟨rfl,a4.o.1,a4.o.2.1⟩
           ·subst h
            have q0:¬((G:Nat):Int)<((G:Nat):Int):=by omega
            have q2:(((G:Nat):Int)==((G:Nat):Int))=true:=by simp
            go_wp2_with fail
            go_meet
            exact⟨rfl,a4.o.1,a4.o.2.1⟩
           subst h;subst h1
           have q0:¬((G:Nat):Int)<((G:Nat):Int):=by omega
           have q4:(((G:Nat):Int)==((G:Nat):Int))=true:=by simp
           go_wp2_with fail
           go_meet
           exact⟨rfl,a4.o.1,a4.o.2.1⟩
          subst hl
          rcases h with h|⟨h,q1,q2⟩|⟨h,h1,q1,q2,q3,q4⟩
          ·have q0:¬((G:Nat):Int)<((D:Nat):Int):=by omega
           have q2:(((G:Nat):Int)==((D:Nat):Int))=false:=by rw[eI];omega
           go_wp2_with fail
           go_meet
           exact⟨rfl,a4.o.1,a4.o.2.1⟩
          ·subst h
           have q0:¬((G:Nat):Int)<((G:Nat):Int):=by omega
           have q4:(((G:Nat):Int)==((G:Nat):Int))=true:=by simp
           go_wp2_with fail
           go_meet
           exact⟨rfl,a4.o.1,a4.o.2.1⟩
          subst h;subst h1
          have q0:¬((G:Nat):Int)<((G:Nat):Int):=by omega
          have q5:(((G:Nat):Int)==((G:Nat):Int))=true:=by simp
          go_wp2_with fail
          go_meet
          exact⟨rfl,a4.o.1,a4.o.2.1⟩
         case rest=>
          as_aux_lemma=>
          obtain⟨hc,HW⟩:=hcut;rw[hc];clear hc az u0 u1 u2 v0 v1 v2 a4;cases lt
          ·have bm:Hid ((S.take (j+1)++(D,E,I)::S.drop (j+1))=Ss.ins (Go.Proofs.ltOf fun x y:Pb=>cT x y) (D,E,I) S):=(BM (D,E,I) S (j+1) HL.o (fun y _ h=>by
            have h:S[j]?=some y:=h;rw[HS.o.2.2.2.2.1] at h;injection h with h;rw[<-h];exact g1.o.symm) (by rw[a5.o];omega)).symm
           have a0:Hid (FoS w va vd wc mm (.slice (some (tD g 0)) (U+1) cap) nl F (Ss.ins (Go.Proofs.ltOf fun x y:Pb=>cT x y) (D,E,I) S)):=by
            rw[<-bm.o];exact HW.o.1
           go_wp2;go_roundg (Cn.length-(i+1))
           case measure=>omega
           case rel=>exact⟨i+1,_,_,by omega,by omega,by go_num,c8,a0⟩
          have dc:Hid (∀y∈S.drop j,(Go.Proofs.ltOf fun x y:Pb=>cT x y) (D,E,I) y=true):=fun y h=>by
           rw[HS.o.2.2.2.2.2] at h;rcases aP.1 h with e|h
           ·rw[e];exact g1.o.symm
           exact HL.o y h
          obtain⟨⟨r0,r1,r2⟩,r3,r4,r5⟩:=HC.o _ HW.o.1;obtain⟨⟨b0,b1,b2⟩,_⟩:=CB.o HW.o.1;obtain⟨⟨u0,_⟩,⟨u1,_⟩,⟨u2,_⟩⟩:=fd3 HW.o.2.1;obtain⟨⟨v0,_⟩,⟨v1,_⟩,⟨v2,_⟩⟩:=fd3 HW.o.2.2;have f0:=HW.o.1.rp.fV ((j+1)*3);have f1:=HW.o.1.rp.fV ((j+1)*3+1);have f2:=HW.o.1.rp.fV ((j+1)*3+2)
          have ad:Hid (FoS w va vd (((wc.setCell ⟨g,(j+1)*3,none⟩ (zI (G:Nat))).setCell ⟨g,(j+1)*3+1,none⟩ (tS y1)).setCell ⟨g,(j+1)*3+2,none⟩ (tS y2)) mm (.slice (some (tD g 0)) (U+1) cap) nl F ((S.take (j+1)++(D,E,I)::S.drop (j+1)).set (j+1) (G,y1,y2))/\(((wc.setCell ⟨g,(j+1)*3,none⟩ (zI (G:Nat))).setCell ⟨g,(j+1)*3+1,none⟩ (tS y1)).setCell ⟨g,(j+1)*3+2,none⟩ (tS y2)).heap[xb]?=some (.cells #[zI (D:Nat),tS E,tS I] 65)):=by
           have fb:xb≠g:=by have:=gd.o.1;omega
           refine⟨HW.o.1.putP HS.o.2.2.2.1 (j+1) (by omega) (G,y1,y2),?_⟩;exact(((((ai.refl (fun b=>b=g) wc).set (a:=⟨g,(j+1)*3,none⟩) (fun _=>rfl) _).set (a:=⟨g,(j+1)*3+1,none⟩) (fun _=>rfl) _).set (a:=⟨g,(j+1)*3+2,none⟩) (fun _=>rfl) _).block xb (ah HW.o.2.1) fb).trans HW.o.2.1
          go_upto_region 57 with fail;generalize (((wc.setCell ⟨g,(j+1)*3,none⟩ (zI (G:Nat))).setCell ⟨g,(j+1)*3+1,none⟩ (tS y1)).setCell ⟨g,(j+1)*3+2,none⟩ (tS y2))=W6 at*;clear r0 r1 r2 r3 r4 r5 b0 b1 b2 u0 u1 u2 v0 v1 v2 f0 f1 f2;obtain⟨⟨b0,b1,b2⟩,_⟩:=CB.o ad.o.1;obtain⟨⟨u0,_⟩,⟨u1,_⟩,⟨u2,_⟩⟩:=fd3 ad.o.2;have f0:=ad.o.1.rp.fV (j*3);have f1:=ad.o.1.rp.fV (j*3+1);have f2:=ad.o.1.rp.fV (j*3+2)
          have db:W6.cell? (tD g (j*3))=some (zI (G:Nat))/\W6.cell? (tD g (j*3+1))=some (tS y1)/\W6.cell? (tD g (j*3+2))=some (tS y2):=by
           have h2:=ad.o.1.rp;have hl:U+1=((S.take (j+1)++(D,E,I)::S.drop (j+1)).set (j+1) (G,y1,y2)).length:=by rw[List.length_set];exact HS.o.2.2.2.1
           rw[<-hl] at h2;exact yB h2 hl (by rw[List.getElem?_set_ne (show j+1≠j by omega)];exact HS.o.1)
          obtain⟨r3,r4,r5⟩:=db
          have dk:Hid (FoS w va vd (((W6.setCell (tD g (j*3)) (zI (D:Nat))).setCell (tD g (j*3+1)) (tS E)).setCell (tD g (j*3+2)) (tS I)) mm (.slice (some (tD g 0)) (U+1) cap) nl F (S.take j++(D,E,I)::S.drop j)):=by
           have h:=ad.o.1.putP (by rw[List.length_set];exact HS.o.2.2.2.1) j (by omega) (D,E,I);rw[HS.o.2.2.1] at h;exact h
          go_wp2;go_roundg j
          case measure=>omega
          case rel=>exact⟨j,by omega,af _,by go_num,dc,dk⟩
     have bp:¬((i:Nat):Int)<((Cn.length:Nat):Int):=by omega
     have g0:Hid (S=P'):=by
      have e:Cn.take i=Cn:=fy (by omega);have h:=HK.o.1;rw[e,cx.o.1,fu.o] at h;exact h
     have hz:(((dn:Nat):Int)==((Dr.length:Nat):Int))=true:=by
      have h1:=HE.o.2;have h2:=DC.o.1;rw[<-HE.o.1] at h2;rw[beq_iff_eq];omega
     have i0:(((dp:Nat):Int)==((Gn.length:Nat):Int))=true:=by
      have h1:=cx.o.2;have h2:=DC.o.2;rw[<-cx.o.1] at h2;rw[beq_iff_eq];omega
     obtain⟨p0,p1,p2⟩:=CA.o HR.o;obtain⟨⟨b0,b1,b2⟩,z0,z1,z2⟩:=CB.o HR.o;obtain⟨mo,mq,e1⟩:=ax HR.o.rm;obtain⟨no,hh,e2⟩:=ax HR.o.rp;subst e1;subst e2;clear HK HD fv FB fu DC H1 H2 H3 H4 R1 R2;go_upto_region 59 with fail;have b9:Hid (FoS w va vd (wr.setCell (tD (w.heap.size+1+1+1) 2) (.slice ac O.length cc)) (.slice mo F.length mq) (.slice no S.length hh) (.slice ac O.length cc) F S):=HR.o.setO _;clear p0 p1 p2 b0 b1 b2 z0 z1 z2;generalize wr.setCell (tD (w.heap.size+1+1+1) 2) (.slice ac O.length cc)=W1 at*;obtain⟨d0,d1,d2,d3,d4,d5⟩:=CD.o b9.o;obtain⟨p0,p1,p2⟩:=CA.o b9.o;obtain⟨⟨b0,b1,b2⟩,z0,z1,z2⟩:=CB.o b9.o;cases dm
     ·have c5:O=O':=qq fun h=>absurd cv.o (by rw[bj h];decide)
      have bx:=rf (.slice ac O.length cc) (.slice ac O.length cc) O O W1 (by omega) (R3.o.below b9.o.b) (R3.o.below b9.o.b);rw[bj (rfl:O=O)] at bx;have b7:Hid (FoS w va vd W1 _ _ (.slice ac O.length cc) F S/\RdA (fun b=>A b/\A2 b) dB w (.slice ac O.length cc) O'):=⟨b9.o,by rw[<-c5];exact R3.o.more (fun b _ e=>e.1)⟩;clear c5 cv b9
      go_wp2_with (go_at_call 29;fail)
      go_at_call 29;refine bx.mono ?_;rintro e w3 ⟨rfl,cd⟩;have HF:Hid (FoS w va vd w3 _ _ (.slice ac O.length cc) F S/\RdA (fun b=>A b/\A2 b) dB w (.slice ac O.length cc) O'):=⟨b7.o.1.below cd,b7.o.2⟩;clear bx cd b7 p0 p1 p2 b0 b1 b2;obtain⟨d0,d1,d2,d3,d4,d5⟩:=CD.o HF.o.1;obtain⟨⟨b0,b1,b2⟩,_⟩:=CB.o HF.o.1;have az:w3.heap[w.heap.size+1+1]?=some (.cells #[nl,nl,nl] 34):=HF.o.1.br;obtain⟨⟨_,z0⟩,⟨_,z1⟩,⟨_,z2⟩⟩:=fd3 az;have da:Hid (w3.heap[w.heap.size+1+1]?=some (.cells #[nl,nl,nl] 34)):=az;clear az;go_upto_region 62 with fail
      go_region
      go_wp2;refine aI (Mf.results_cell_tmp results10 _ _ (w.heap.size+1+1) 34 _ (0,0) _ _ rfl rfl (xM da.o _ _ _) underlying34 rfl (by kernel_rfl)) rfl ?_;have hq:=HF.o.1.done HF.o.2;rw[g2.o,g0.o] at hq ⊢;exact⟨_,_,_,rfl,hq⟩
     have c5:¬O=O':=gJ cv.o
     have b7:Hid (FoS w va vd (W1.setCell (tD (w.heap.size+1+1+1) 2) (.slice x6 n6 c6)) _ _ (.slice x6 n6 c6) F S):=b9.o.setO _;go_upto_region 61 with fail;generalize W1.setCell (tD (w.heap.size+1+1+1) 2) (.slice x6 n6 c6)=W2 at*;clear p0 p1 p2 b0 b1 b2 z0 z1 z2 d0 d1 d2 d3 d4 d5;have h6:=H6.o;rw[ag c5] at h6;have bx:=rf (.slice ac O.length cc) (.slice x6 n6 c6) O O' W2 (by omega) (R3.o.below b7.o.b) (h6.below b7.o.b);rw[aQ c5] at bx;have H7:Hid (RdA A2 dB w (.slice x6 n6 c6) O'):=h6;obtain⟨p0,p1,p2⟩:=CA.o b7.o;obtain⟨⟨b0,b1,b2⟩,_⟩:=CB.o b7.o;clear c5 cv b9 h6
     go_wp2_with (go_at_call 29;fail)
     go_at_call 29;refine bx.mono ?_;rintro e w3 ⟨rfl,cd⟩;have HF:Hid (FoS w va vd w3 _ _ (.slice x6 n6 c6) F S/\RdA (fun b=>A b/\A2 b) dB w (.slice x6 n6 c6) O'):=⟨b7.o.below cd,H7.o.more (fun b _ e=>e.2)⟩;clear bx cd b7 p0 p1 p2 b0 b1 b2;obtain⟨d0,d1,d2,d3,d4,d5⟩:=CD.o HF.o.1;obtain⟨⟨b0,b1,b2⟩,_⟩:=CB.o HF.o.1;have az:w3.heap[w.heap.size+1+1]?=some (.cells #[nl,nl,nl] 34):=HF.o.1.br;obtain⟨⟨_,z0⟩,⟨_,z1⟩,⟨_,z2⟩⟩:=fd3 az;have da:Hid (w3.heap[w.heap.size+1+1]?=some (.cells #[nl,nl,nl] 34)):=az;clear az;go_upto_region 62 with fail
     go_region
     go_wp2;refine aI (Mf.results_cell_tmp results10 _ _ (w.heap.size+1+1) 34 _ (0,0) _ _ rfl rfl (xM da.o _ _ _) underlying34 rfl (by kernel_rfl)) rfl ?_;have hq:=HF.o.1.done HF.o.2;rw[g2.o,g0.o] at hq ⊢;exact⟨_,_,_,rfl,hq⟩
