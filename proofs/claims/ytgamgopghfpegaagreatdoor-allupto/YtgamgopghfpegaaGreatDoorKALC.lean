import Derived.Test.YtgamgopghfpegaaGreatDoorKALG
set_option linter.all false
open Go.Proofs.Tryz
set_option maxRecDepth 100000
set_option maxHeartbeats 8000000
namespace Go.Proofs.YtgamgopghfpegaaGreatDoor
open Go.RowKit
namespace Pn
open Mf Ed
variable{A R:Nat→Prop}{w W:zW}{G c k:Nat}{O D:zV}{Y:Nat→zV}{E:Nat→List Ent}
theorem V3(z:Int):PR 72 (.agg #[z,e0,e0]) (.agg #[z,e0,e0]) true:=fun w=>by
 rw[run_eql_struct,run_neq_struct,run_equalIn_agg w 9999 72 _ _ aB aB];simp[go_sem]
theorem Lw.row(h:Lw A R w G O D c Y E)(T:k<3):∃a N M,Y k=.slice a N M∧N=(E k)∧N≤4*c∧∀W,Below w w W→W.cell? (G,3+k)=some (.slice a N M):=by
 obtain⟨a,M,e⟩:=(h.ro k T).len;refine⟨a,_,M,e,rfl,h.le k,fun W S=>?_⟩;have f:=(S.block G (ag h.hw)).trans h.hw;rw[←e];obtain⟨_,_,_,⟨f3,_⟩,⟨f4,_⟩,⟨f5,_⟩⟩:=fd6 f
 grind
theorem Lw.at(h:Lw A R w G O D c Y E)(T:k<3){a}{N lc i}(e:Y k=.slice a N lc)(hN:N=(E k))(hi:i<N):∃lb xa m ac M,a=some ⟨lb,0,none⟩∧M≤c∧m≤9223372036854775807∧(∀W,Below w w W→W.cell? (lb,i*2)=some (.slice xa m ac)∧W.cell? (lb,i*2+1)=some (.int .i64 (M:Nat)))∧
  ∀j,j<m→∃b o,xa=some ⟨b,o,none⟩∧∀W,Below w w W→∀q u,(xc k M)[q]?=some u→W.cell? (b,o+j*zt k+q)=some u:=by
 have r:=h.ro k T;rw[hN] at hi;obtain⟨g,cap,q⟩:=bo r ae;rw[q] at e r;injection e with e1 e2 e3;have S:=h.en k T _ (dH hi);obtain⟨⟨⟨xa,m,ac⟩,M⟩,hx⟩:∃x,(E k)[i]=x:=⟨_,rfl⟩;rw[hx] at S;refine⟨g,xa,m,ac,M,e1.symm,S.1,?_,fun W hb=>?_,fun j hj=>?_⟩
 ·have:=S.2.room
  unfold maxLen at this
  grind
 ·have rr:=(Ro.rd (A:=fun _=>False) (kE k T) r (fun _ e=>e.elim)).at (s:=2) (fun _=>rfl) aA hb i hi
  obtain⟨b,o,c',f,e5⟩:=rr;injection f with f;injection f with f;injection f with e6 e7;subst e6 e7;rw[hx] at e5;have a0:=e5 0 _ rfl
  grind
 ·have rr:=fun W hb=>S.2.at (W:=W) (s:=zt k) (fun _=>Fc k M T) ax hb j ax
  obtain⟨b,o,c',f,_⟩:=rr w (af _ _)
  grind
abbrev JL(w:zW)(N f:Nat)(s:zV)(W:zW):Prop:=∃i:Nat,i≤N∧N-i≤f∧s=.int .i64 i∧Hid (zB w W)
theorem KY w(h:Lw A R w G O D c Y E)(hc:c≤10000000):zC 8 #[.pointer (some (G,0))] w fun e w'=>e=.returned (true)∧Below w w w':=by
 have HL:=zH h;obtain⟨a0,n0,l0,an,q0,z0,r0⟩:=h.row (k:=0) aA;obtain⟨a1,n1,l1,e1,q1,z1,r1⟩:=h.row (k:=1) aA;obtain⟨a2,n2,l2,e2,q2,z2,r2⟩:=h.row (k:=2) aA;have HR:Hid (∀W,zB w W→W.cell? (G,3)=_∧W.cell? (G,4)=_∧W.cell? (G,5)=_):=fun W hb=>⟨r0 W hb,r1 W hb,r2 W hb⟩
 have ab:=zH (And.intro an q0);have ad:=zH (And.intro e1 q1);have ak:=zH (And.intro e2 q2);clear h an q0 r0 e1 q1 r1 e2 q2 r2;go_enter func8,ntmps8;go_wp2;go_loopg [3] n0 (fun gg s wr=>JL w n0 gg s wr)
 case atStart=>exact⟨0,ae,ae,rfl,af _ _⟩
 case round=>
  obtain⟨i,hi,hg,rfl,f⟩:=hrel;obtain⟨w3,rfl⟩:∃w3,w3=wr:=⟨_,rfl⟩;by_cases a3:i<n0
  ·have T:i<(n0:Int):=ae
   obtain⟨lb,xa,m,ac,tg,rfl,ht,hm,hX,M⟩:=HL.out.at aA ab.out.1 ab.out.2 a3;have HX:=zH hX;have HY:=zH M;clear hX M;obtain⟨c3,_⟩:=HR.out w3 f.out;obtain⟨x0,x1⟩:=HX.out w3 f.out
   go_wp2_with (go_at_call 28;fail)
   go_at_call 28;refine(tK tg ae _).mono ?_;rintro e w4 ⟨rfl,a4⟩
   have HW:Hid (∀W,Below (w4.alloc (.cells #[(wd tg),zE] 68)) (w4.alloc (.cells #[(wd tg),zE] 68)) W→zB w W∧W.heap[w4.heap.size]?=some (.cells #[(wd tg),zE] 68)):=fun W hb=>by
    have aq:=f.out.trans (a4.mono f.out.size);exact⟨(aD aq _).trans (hb.mono (aD aq _).size),(hb.block _ ah).trans (aI _ _)⟩
   clear c3 x0 x1 a4;go_wp2;generalize w4.alloc _=W4 at*;generalize w4.heap.size=bx at*;go_loopg [5] m (fun gg s wr=>JL W4 m gg s wr)
   case atStart=>exact⟨0,ae,ae,rfl,af _ _⟩
   case round=>
    obtain⟨j,hj,av,rfl,aa⟩:=hrel;obtain⟨S,a8⟩:=HW.out wr aa.out;obtain⟨c3,_⟩:=HR.out wr S;obtain⟨x0,x1⟩:=HX.out wr S;by_cases a6:j<m
    ·have a5:j<(m:Int):=ae
     obtain⟨b,o,rfl,M⟩:=HY.out j a6;have y0:wr.cell? (b,o+j*2)=_:=M wr S 0 _ rfl;have y1:wr.cell? (b,o+j*2+1)=some (zE):=M wr S 1 _ rfl;obtain⟨⟨u0,_⟩,⟨u1,_⟩⟩:=fd2 a8;have hq:=fun w=>(Ef (x:=(wd tg,⟨#[]⟩)) (Gi rfl) w).2
     clear S a8 M;go_upto_region 8 with fail;go_quiet (fail);generalize hW:World.drewN _ _=W5;have a7:Hid (zB W4 W5):=by rw[←hW];exact bw aa.out _
     clear hW;go_wp2;go_roundg (m-(j+1))
     case measure=>omega
     case rel=>exact⟨j+1,ae,ae,by go_num,a7⟩
    ·have a5:¬j<(m:Int):=ae
     have az:=zH S;clear S a8;go_wp2;go_roundg (n0-(i+1))
     case measure=>omega
     case rel=>exact⟨i+1,ae,ae,by go_num,az⟩
  ·have T:¬i<(n0:Int):=ae
   obtain⟨c3,_⟩:=HR.out w3 f.out;go_wp2;clear c3 T a3 hi hg;obtain⟨w5,rfl⟩:∃w5,w5=w3:=⟨_,rfl⟩;go_loopg [6] n1 (fun gg s wr=>JL w n1 gg s wr)
   case atStart=>exact⟨0,ae,ae,rfl,f⟩
   case round=>
    clear f;obtain⟨i,hi,hg,rfl,f⟩:=hrel;obtain⟨w3,rfl⟩:∃w3,w3=wr:=⟨_,rfl⟩;obtain⟨_,c3,_⟩:=HR.out w3 f.out;by_cases a3:i<n1
    ·have T:i<(n1:Int):=ae
     obtain⟨lb,xa,m,ac,tg,rfl,ht,hm,hX,M⟩:=HL.out.at aA ad.out.1 ad.out.2 a3;have HX:=zH hX;have HY:=zH M;clear hX M;go_wp2;clear c3;go_loopg [7] m (fun gg s wr=>JL w m gg s wr)
     case atStart=>exact⟨0,ae,ae,rfl,f⟩
     case round=>
      clear f;obtain⟨j,hj,av,rfl,f⟩:=hrel;obtain⟨_,c3,_⟩:=HR.out wr f.out;obtain⟨x0,x1⟩:=HX.out wr f.out;by_cases a6:j<m
      ·have a5:j<(m:Int):=ae
       obtain⟨b,o,rfl,M⟩:=HY.out j a6;have y0:wr.cell? (b,o+j*3)=_:=M wr f.out 0 _ rfl;have y1:wr.cell? (b,o+j*3+1)=some (zE):=M wr f.out 1 _ rfl;have y2:wr.cell? (b,o+j*3+2)=some (zE):=M wr f.out 2 _ rfl;have hq:=fun w=>(V3 (-tg) w).2
       have hw:IntKind.i64.wrap (-tg)=-tg:=by simp[IntKind.wrap,IntKind.bits,IntKind.signed];omega
       have b0:wrap64 (-tg)=-tg:=by unfold wrap64;omega
       clear M;go_upto_region 16 with fail;go_quiet (fail);generalize hW:World.drewN _ _=W5;have a7:Hid (zB w W5):=by rw[←hW];exact bw f.out _
       clear hW;go_wp2;go_roundg (m-(j+1))
       case measure=>omega
       case rel=>exact⟨j+1,ae,ae,by go_num,a7⟩
      ·have a5:¬j<(m:Int):=ae
       go_wp2;go_roundg (n1-(i+1))
       case measure=>omega
       case rel=>exact⟨i+1,ae,ae,by go_num,f⟩
    ·have T:¬i<(n1:Int):=ae
     go_wp2;clear c3 T a3 hi hg;go_loopg [8] n2 (fun gg s wr=>JL w n2 gg s wr)
     case atStart=>exact⟨0,ae,ae,rfl,f⟩
     case round=>
      clear f;obtain⟨i,hi,hg,rfl,f⟩:=hrel;obtain⟨w7,rfl⟩:∃w3,w3=wr:=⟨_,rfl⟩;obtain⟨_,_,c3⟩:=HR.out w7 f.out;by_cases a3:i<n2
      ·have T:i<(n2:Int):=ae
       obtain⟨lb,xa,m,ac,tg,rfl,ht,hm,hX,M⟩:=HL.out.at aA ak.out.1 ak.out.2 a3;have HX:=zH hX;have HY:=zH M;obtain⟨x0,x1⟩:=hX w7 f.out;clear hX M
       go_wp2_with (go_at_call 28;fail)
       go_at_call 28;refine(tK tg ae _).mono ?_;rintro e w4 ⟨rfl,a4⟩;have a9:=zH (f.out.trans (a4.mono f.out.size));clear c3 x0 x1 a4 f;go_wp2;go_loopg [10] m (fun gg s wr=>JL w m gg s wr)
       case atStart=>exact⟨0,ae,ae,rfl,a9⟩
       case round=>
        clear a9;obtain⟨j,hj,av,rfl,f⟩:=hrel;obtain⟨_,_,c3⟩:=HR.out wr f.out;obtain⟨x0,x1⟩:=HX.out wr f.out;by_cases a6:j<m
        ·have a5:j<(m:Int):=ae
         obtain⟨b,o,rfl,M⟩:=HY.out j a6
         have y0:wr.cell? (b,o+j)=(wd tg):=by
          have:wr.cell? (b,o+j*1+0)=_:=M wr f.out 0 _ rfl;simpa using this
         clear M;go_wp2;go_roundg (m-(j+1))
         case measure=>omega
         case rel=>exact⟨j+1,ae,ae,by go_num,f⟩
        ·have a5:¬j<(m:Int):=ae
         go_wp2;go_roundg (n2-(i+1))
         case measure=>omega
         case rel=>exact⟨i+1,ae,ae,by go_num,f⟩
      ·have T:¬i<(n2:Int):=ae
       go_wp2;go_ret;exact⟨rfl,f.out⟩
end Pn
namespace Pn
open Mf Ed
variable{A Z U:Nat→Prop}{w Q I W:zW}{G V F q c:Nat}{O D:zV}{Y:Nat→zV}{E:Nat→List Ent}
theorem yX(c:Int)w(f:c<1):zC 6 #[c] w fun e w'=>e=.returned (.tuple #[.pointer none,true])∧w'=w:=by
 have M:=Pd c w f;have S:=I8 c w f;clear f;go_enter func6,ntmps6
 go_wp2_with (first|(go_at_call 10;refine M.mono ?_;rintro e w' ⟨rfl,rfl⟩)|(go_at_call 11;refine S.mono ?_;rintro e w' ⟨rfl,rfl⟩)|(go_at_call 12;refine(CS _ _).mono ?_;rintro e w' ⟨rfl,rfl⟩))
 go_ret2;simp
def Beg(A:Nat→Prop)(w:zW)(V:Nat)(w':zW):Prop:=∃Z,Pq (fun b=>A b∨Z b) Z w' V 0∧(∀b,Z b→w.heap.size≤b)∧zB w w'
theorem vk(c:Int)(hc:1≤c∧c≤9223372036854775807)w(hm:Ml w)(A:Nat→Prop)(hA:∀b,A b→b<w)(h0:¬A 0):zC 6 #[c] w fun e w'=>∃V,e=.returned (.tuple #[.pointer (some (V,0)),true])∧Beg A w V w':=by
 have k1:=VM c hc.1 w hm A hA h0;have k2:=fun W=>FT c W ae
 have HC:Hid (_∧_):=⟨hc.2,hA⟩;clear hc hA h0 hm;go_enter func6,ntmps6
 go_wp2_with (go_at_call 10;fail)
 go_at_call 10;refine k1.mono ?_;rintro e I ⟨pb,rfl,he,M⟩;have H1:Hid (_∧_):=⟨he,M⟩;clear k1 he M
 go_wp2_with (go_at_call 11;fail)
 go_at_call 11;refine(k2 _).mono ?_;intro e w2 h1;rw[h1.1,h1.2];clear k2 h1
 go_wp2_with (go_at_call 12;refine(CS 0 _).mono ?_;rintro e w' ⟨rfl,rfl⟩)
 go_ret2;obtain⟨he,M⟩:=H1.out;have b1:=boxed I #[nl,nl,zE,.int .i64 0,nl,nl,nl] 61;have T:=boxed (I.alloc LQ) #[.pointer (some (pb,0)),.pointer (some (I,0)),c] 49;rw[b1.2.2] at T;have hs:=M.size;have S:=b1.1.trans (T.1.mono ae);have f:=fun j u h=>(dL I #[nl,nl,_,_,nl,nl,nl] 61 (j:=j) (u:=u) h).of_block (T.1.block _ ae)
 refine⟨_,rfl,fun b=>_∧b≤I,⟨fun b=>_∧b<I,pb,_,c,nl,nl,[],[],e0,0,([],[],[]),0,⟨T.2.1,fun e=>?_,?_,⟨⟨f 0 _ rfl,f 1 _ rfl,f 2 _ rfl,f 3 _ rfl,bP _ _ _ _,bP _ _ _ _,⟨(fun e=>by cases e),(fun e=>by cases e),(fun _ e=>by cases e)⟩,aN _⟩,⟨nl,nl,nl,⟨f 4 _ rfl,f 5 _ rfl,f 6 _ rfl⟩,RdA.nil _,RdA.nil _,RdA.nil _⟩,aN _,aN _,aN _⟩,fun b e=>⟨e.1,ae⟩,fun b e=>?_,fun b e=>Or.inr e,⟨⟨aN _,aN _⟩,aN _,HC.out.1⟩⟩,ai _,aN _⟩,fun b e=>e.1,M.trans (S.mono hs)⟩
 ·rcases e with e|e
  ·have:=HC.out.2 _ e;omega
  ·omega
 ·refine(he.wide S (fun b=>b=I) (fun b e=>ae)).less (fun b e=>?_) (fun b e=>Or.inr ⟨e.1,ae⟩)
  grind
 ·rcases e with e|e|e
  ·omega
  ·cases e
  ·cases e
end Pn
namespace Pn
open Mf Ed
variable{A Z U:Nat→Prop}{w w' Q I W:zW}{G V F q c g J:Nat}{O D:zV}{Y:Nat→zV}{E:Nat→List Ent}
theorem Sy.swap(h:Sy A Z U w G O D V F q c Y E):Sy A U Z w G O D F V q c Y E:=⟨h.o,h.m,h.l,fun b e z=>h.nz b e z.symm,fun b e z=>h.zz b z e,h.cq⟩
abbrev pt(g:Nat):zV:=.pointer (some ⟨g,0,none⟩)
def Lo(Q:zW)(G g J q:Nat)(w:zW):Prop:=∃A Z U c Y E,Sy A Z U w G (pt g) (pt J) g J q c Y E∧zB Q w∧∀b,A b→Q.heap.size≤b
theorem Lo.more{M}(h:Lo Q G g J q w)(f:q≤M):Lo Q G g J M w:=by
 obtain⟨A,Z,U,c,Y,E,h,r⟩:=h;have:=h.cq;exact⟨A,Z,U,c,Y,E,⟨h.m.more f,h.o.more f,h.l,h.nz,h.zz,ae⟩,r⟩
theorem Lo.below(h:Lo Q G g J q w)(f:Below w w W):Lo Q G g J q W:=by
 obtain⟨A,Z,U,c,Y,E,h,b,r⟩:=h;exact⟨A,Z,U,c,Y,E,h.below f,b.trans (f.mono b.size),r⟩
theorem Lo.step(h:Lo Q G g J q w)(hq:q≤500000)(kd S nn:Int)(p v s:zA)(hp:p.size<281474976710656)(hv:v.size<281474976710656)(hs:s.size<281474976710656):
  zC 7 #[pt G,.agg #[kd,S,p,v,s,nn]] w fun e w'=>e=.returned (true)∧Lo Q G g J (q+1) w':=by
 obtain⟨A,Z,U,c,Y,E,h,b,r⟩:=h;have hn:∀{M:Nat→Prop} {w':zW},aj A w w'→(∀b,M b→A b∨_)→_∧_:=fun t k=>⟨bg b t r,fun x e=>(k x e).elim (r x) (fun e=>aP b.size e)⟩
 rcases QK S with e|e
 ·refine(Fq 0 kd S nn p v s w h hq e (Or.inl ⟨rfl,rfl⟩) hp hv hs).mono fun e w' ⟨e1,M,Z1,c',f,T,k,t,ka,_⟩=>⟨e1,M,Z1,U,c',f,T,k,hn t ka⟩
 ·refine(Fq 1 kd S nn p v s w h.swap hq e (Or.inr ⟨rfl,rfl⟩) hp hv hs).mono fun e w' ⟨e1,M,Z1,c',f,T,k,t,ka,_⟩=>⟨e1,M,Z,Z1,c',f,T,k.swap,hn t ka⟩
theorem Lo.looks(h:Lo Q G g J q w)(T:q≤500001):zC 8 #[pt G] w fun e w'=>e=(true)∧Lo Q G g J q w':=by
 have M:=h;obtain⟨A,Z,U,c,Y,E,h,b,r⟩:=h;exact(KY w h.l (by have:=h.cq;omega)).mono fun e w' ⟨f,S⟩=>⟨f,M.below S⟩
theorem Lo.resident(h:Lo Q G g J q w):(zC 9 #[pt g] w fun e w'=>e=(true)∧w'=w)∧(zC 9 #[pt J] w fun e w'=>e=(true)∧w'=w)∧Below Q Q w:=by
 obtain⟨A,Z,U,c,Y,E,h,b,r⟩:=h;obtain⟨X,pb,rb,cap,mv,iv,ms,ix,root,a5,T,n,hP,_⟩:=h.m;obtain⟨X',a6,a7,S,a4,a1,a3,a2,M,a0,T',n',f,_⟩:=h.o;exact⟨nJ w hP,nJ w f,b⟩
theorem Lo.start{f}Z(h1:Pq (fun b=>False∨Z b) Z I g 0∧(∀b,Z b→Q≤b)∧Below Q Q I)(h2:Beg (fun b=>False∨Z b) I J f):Lo Q f g J 0 (f.alloc (.cells #[pt g,pt J,.int .i64 0,zN,zN,zN] 37)):=by
 obtain⟨p1,z1,T⟩:=h1;have zl:∀b,Z b→_∧_:=fun b e=>⟨z1 b e,p1.za.2 b (Or.inr e)⟩
 obtain⟨U,p2,z2,M⟩:=h2;have S:∀b,U b→_∧_:=fun b e=>⟨z2 b e,p2.za.2 b (Or.inr e)⟩
 have q1:=p1.grow (p:=fun _=>False) (aj.of_below M) (fun _ _ e=>e.elim) S;have bx:=boxed f #[pt g,pt J,.int .i64 0,zN,zN,zN] 37;have s1:=T.size;have s2:=M.size;have bb:=T.trans ((M.trans (bx.1.mono s2)).mono s1);have pw:∀b,b=f.heap.size→f≤b∧b<(f.alloc (.cells #[pt g,pt J,.int .i64 0,zN,zN,zN] 37)):=fun b e=>ae
 refine⟨_,Z,U,0,fun _=>zN,fun _=>[],⟨q1.grow (p:=fun _=>False) (aj.of_below bx.1) (fun _ _ e=>e.elim) pw,p2.grow (p:=fun _=>False) (aj.of_below bx.1) (fun _ _ e=>e.elim) pw,⟨bx.2.1,Or.inr rfl,fun _ _=>Ro.nil,fun k b _ e=>by simp[Ow,Value.ownBlock] at e,fun _ _ e he=>absurd he dI,fun _=>aN _⟩,fun b e z=>?_,fun b e z=>?_,aN _⟩,bb,fun b e=>?_⟩
 ·rcases e with e|⟨k,_,e⟩
  ·grind
  ·simp[Ow,Value.ownBlock] at e
 ·grind
 grind
def rE(w:zW)(S:Option Addr)(T:Nat):Prop:=
 ∀i,i<T→∃(b o:Nat)(M f nn:Int)(p v s:zA),S=some ⟨b,o,none⟩∧b<w.heap.size∧w.cell? ⟨b,o+i*6,none⟩=some (.int .i64 M)∧w.cell? ⟨b,o+i*6+1,none⟩=some (.int .i64 f)∧w.cell? ⟨b,o+i*6+2,none⟩=some (.string p)∧w.cell? ⟨b,o+i*6+3,none⟩=some (.string v)∧w.cell? ⟨b,o+i*6+4,none⟩=some (.string s)∧w.cell? ⟨b,o+i*6+5,none⟩=some (.int .i64 nn)∧p.size<281474976710656∧v.size<281474976710656∧s.size<281474976710656
theorem rE.below{T}{ln}(h:rE w T ln)(S:Below w w w'):rE w' T ln:=fun i hi=>by
 obtain⟨b,o,kd,hh,nn,p,v,s,M,f,d0,d1,d2,d3,d4,d5,z⟩:=h i hi;have k:=fun o=>S.cell (p:=⟨b,o,none⟩) f
 exact⟨b,o,kd,hh,nn,p,v,s,M,bU f S.size,(k _).trans d0,(k _).trans d1,(k _).trans d2,(k _).trans d3,(k _).trans d4,(k _).trans d5,z⟩
theorem vN(c d:Int)la S cap w(hm:Ml w)(a4:S≤400000)(hl:rE w la S)(f:c≤9223372036854775807∧d≤9223372036854775807):
  zC 5 #[c,d,.slice la S cap,.int .i64 11] w fun e w'=>e=.returned (true)∧Below w w w':=by
 have HL:=zH hl;have HM:=zH hm;clear hl hm;go_enter func5,ntmps5;by_cases hc:c<1
 ·have k1:=yX c w hc
  go_wp2_with (go_at_call 6;fail)
  go_at_call 6;refine k1.mono ?_;rintro e I ⟨rfl,rfl⟩;clear k1 hc;by_cases hd:d<1
  ·have M:=yX d I hd
   clear hd f
   go_wp2_with (go_at_call 6;fail)
   go_at_call 6;refine M.mono ?_;rintro e w2 ⟨rfl,rfl⟩;clear M;go_wp2;go_ret;exact⟨rfl,af _ _⟩
  ·have M:=vk d ⟨ae,f.2⟩ I HM.out (fun _=>False) (fun _ e=>e.elim) id
   clear hd f
   go_wp2_with (go_at_call 6;fail)
   go_at_call 6;refine M.mono ?_;rintro e w2 ⟨g,rfl,T⟩;have HB:=zH T;clear M T;go_wp2;go_ret;obtain⟨_,_,_,hb⟩:=HB.out;simp_all
 ·have k1:=vk c ⟨ae,f.1⟩ w HM.out (fun _=>False) (fun _ e=>e.elim) id
  go_wp2_with (go_at_call 6;fail)
  go_at_call 6;refine k1.mono ?_;rintro e I ⟨g,rfl,T⟩;have HB:=zH T;clear k1 T hc;by_cases hd:d<1
  ·have M:=yX d I hd
   clear hd f
   go_wp2_with (go_at_call 6;fail)
   go_at_call 6;refine M.mono ?_;rintro e w2 ⟨rfl,rfl⟩;clear M;go_wp2;go_ret;obtain⟨_,_,_,hb⟩:=HB.out;simp_all
  ·obtain⟨Z,p1,z1,b1⟩:=HB.out
   have M:=vk d ⟨ae,f.2⟩ I (HM.out.below b1) (fun b=>False∨Z b) p1.za.2 (fun e=>e.elim id (fun e=>by have:=z1 0 e;have:=HM.out.pos;omega));have HB:Hid (Pq (fun b=>False∨Z b) Z I g 0∧_∧_):=⟨p1,z1,b1⟩;clear hd f p1 z1 b1
   go_wp2_with (go_at_call 6;fail)
   go_at_call 6;refine M.mono ?_;rintro e w2 ⟨J,rfl,T⟩;have HS:=zH (Lo.start Z HB.out T);clear M T HB;go_wp2;generalize w2.alloc _=W at*;generalize w2.heap.size=G at*;go_loopg [13] S (fun gg iv wr=>∃i:Nat,iv=.int .i64 i∧i≤S∧S-i≤gg∧Hid (Lo w G g J i wr))
   case atStart=>exact⟨0,rfl,ae,ae,HS⟩
   case round=>
    clear HS;obtain⟨i,rfl,hi,hg,HS⟩:=hrel;have HR:=zH HS.out.resident;by_cases a3:i<S
    ·have fD:i<(S:Int):=ae
     obtain⟨b,o,kd,hh,nn,sp,sv,st,rfl,a1,d0,d1,d2,d3,d4,d5,z1,z2,z3⟩:=HL.out.below HR.out.2.2 i a3;by_cases hk:kd≤11
     ·have a2:¬(kd>11):=ae
      have k3:=HS.out.step ae kd hh nn sp sv st z1 z2 z3;clear hk HR HS a1
      go_wp2_with (go_at_call 7;fail)
      go_at_call 7;refine k3.mono ?_;rintro e w3 ⟨rfl,h3⟩;have k4:=h3.looks ae;clear k3 h3 d0 d1 d2 d3 d4 d5
      go_wp2_with (go_at_call 8;fail)
      go_at_call 8;refine k4.mono ?_;rintro e w4 ⟨rfl,h4⟩;have a0:=zH h4;clear k4 h4;go_wp2;go_roundg (S-(i+1))
      case measure=>omega
      grind
     ·have a2:kd>11:=ae
      have a0:Hid (Lo w G g J (i+1) wr):=HS.out.more ae;clear hk;go_wp2;go_roundg (S-(i+1))
      case measure=>omega
      grind
    ·have fD:¬(i<(S:Int)):=ae
     have k5:=HR.out.1;have k6:=HR.out.2.1
     go_wp2_with (go_at_call 9;fail)
     go_at_call 9;refine k5.mono ?_;rintro e w5 ⟨rfl,rfl⟩;clear k5
     go_wp2_with (go_at_call 9;fail)
     go_at_call 9;refine k6.mono ?_;rintro e w6 ⟨rfl,rfl⟩;clear k6;go_wp2;go_ret;exact⟨rfl,HR.out.2.2⟩
end Pn
namespace Pn
open Mf Ed
variable{w w' I:zW}
abbrev Op6:=Int×Int×zA×zA×zA×Int
abbrev wj(x:Op6):List zV:=[.int .i64 x.1,.int .i64 x.2.1,.string x.2.2.1,.string x.2.2.2.1,.string x.2.2.2.2.1,.int .i64 x.2.2.2.2.2]
theorem G9{B g n cap:Nat}{L:List Op6}(h:w.ownsRow B 25 6 (.slice (some (g,0)) n cap) n (L.flatMap wj))(hn:n=L)(S:∀x∈L,x.2.2.1.size<1000∧x.2.2.2.1.size<1000∧x.2.2.2.2.1.size<1000):rE w (some (g,0)) n:=fun i hi=>by
 have f:i<L:=ae;have z:=S L[i] (dH f)
 have k:∀j u,(wj L[i])[j]?=some u→w.cell? (g,0+i*6+j)=some u:=fun j u M=>by
  have T:j<6:=(dh.1 M).1;rw[dQ,h.cellAt _ ae]
  haveI:Inhabited Op6:=⟨L[i]⟩
  rw[Ss.flat_get (k:=6) (fun _=>rfl) aA L _ ae,show(i*6+j)/6=i by omega,show(i*6+j)%6=j by omega,cB L i f];exact M
 exact⟨g,0,_,_,_,_,_,_,rfl,(h.lt g rfl).2,k 0 _ rfl,k 1 _ rfl,k 2 _ rfl,k 3 _ rfl,k 4 _ rfl,k 5 _ rfl,ae,ae,ae⟩
abbrev sA:zA:=⟨#[97]⟩
abbrev sB:zA:=⟨#[98]⟩
abbrev sR(x:UInt8):zA:=⟨#[109,111,100,117,108,101,32,97,10,114,101,113,117,105,114,101,32,98,32,118,49,46,x,46,48,10]⟩
abbrev KZ:List Op6:=[(5,0,sA,e0,e0,0),(1,0,sA,e0,sR 48,0),(3,0,sB,e0,⟨#[118,101,114,115,105,111,110,32,118,49,46,48,46,48,10,118,101,114,115,105,111,110,32,118,49,46,49,46,48,10]⟩,0),(1,0,sB,⟨#[118,49,46,48,46,48]⟩,⟨#[109,111,100,117,108,101,32,98,10]⟩,0),(6,0,e0,e0,e0,0),(4,0,⟨#[99]⟩,e0,e0,0),(6,0,e0,e0,e0,0)]
abbrev QL:List Op6:=[(7,0,e0,e0,e0,0),(8,0,e0,e0,e0,0),(9,0,e0,e0,e0,3),(1,0,sA,e0,sR 49,0),(8,0,e0,e0,e0,0),(10,0,e0,e0,e0,0)]
abbrev TB:List Op6:=[(11,0,e0,e0,e0,0),(11,0,e0,e0,e0,1),(11,0,e0,e0,e0,0)]
theorem UX x:∀u∈wj x,u.oneCell'=true:=fun u f=>by
 simp[wj] at f;rcases f with rfl|rfl|rfl|rfl|rfl|rfl<;>rfl
theorem OE(L:List Op6):∀u∈L.flatMap wj,u.oneCell'=true:=fun u f=>by
 obtain⟨x,_,M⟩:=List.mem_flatMap.1 f;exact UX x u M
theorem K0:∀x∈(KZ++QL)++TB,x.2.2.1.size<1000∧x.2.2.2.1.size<1000∧x.2.2.2.2.1.size<1000:=aA
theorem IG(w:zW)(L:List Op6):∀j u,(L.flatMap wj)[j]?=some u→(w.alloc (.cells (L.flatMap wj).toArray 25)).cell? (((w,0):Addr).add j)=some u:=fun j u f=>by
 rw[show(_:Addr).add j=(w,j) by cases j<;>simp[Addr.add]];simp_all
theorem Fs{n:Nat}(h:n≤w)o:n≤(w.alloc o):=aJ
theorem Ha w:zC 4 #[] w fun e w'=>e=.returned (.slice (some (w,0)) 7 7)∧Below w w w'∧w'.ownsRow w 25 6 (.slice (some (w,0)) 7 7) 7 (KZ.flatMap wj):=by
 have H:Hid ((w.alloc _).ownsRow _ 25 6 _ 7 (KZ.flatMap wj)):=World.ownsRow_lit w (KZ.flatMap wj).toArray 7 (ai _) aA rfl;go_enter func4,ntmps4;go_wp2;go_ret;exact⟨rfl,(af _ _).alloc (ai _) _,H.out⟩
theorem QM(c d:Int)la ln cap w(hm:Ml w)(a7:ln≤400000)(hl:rE w la ln)(a6:c≤9223372036854775807∧d≤9223372036854775807):
  zC 3 #[c,d,.slice la ln cap] w fun e w'=>e=.returned (true)∧Below w w w':=by
 have k1:=Ha w;have HL:=zH hl;have HM:=zH hm;obtain⟨i,hi⟩:=Bm.eD 25 (.agg #[.int .i64 0,.int .i64 0,zE,zE,zE,.int .i64 0]) 6 72 aB;have f:=zH hi;clear hl hm hi;go_enter func3,ntmps3
 go_wp2_with (go_at_call 4;fail)
 go_at_call 4;refine k1.mono ?_;rintro e I ⟨rfl,a0,a3⟩;have T:Hid (_∧_):=⟨a0,a3⟩;clear k1 a0 a3;have a4:=T.out.1.size
 go_wp2_with (at_builtin;refine bO _ rfl _ _ 22 rfl _ 25 i _ 6 72 underlying22 f.out.1 f.out.2.1 f.out.2.2.1 f.out.2.2.2 rfl aA _ 7 _ rfl (T.out.2.alloc _) _ 6 6 _ rfl rfl (IG I QL) (OE _) aA aA (Fs a4 _) ?_)
 intro v2 w2 ho hg _ _;have M:Hid (_∧w2.ownsRow _ 25 6 v2 13 ((KZ++QL).flatMap wj)):=⟨bg T.out.1 (((aj.refl _ I).alloc _).grown hg (fun b _ e=>e)) (fun b e=>(T.out.2.lt b e).1),ho⟩;clear ho hg a4 T;obtain⟨ga,gc,hv⟩:=bo M.out.2 aA;subst hv;have a5:=M.out.1.size
 go_wp2_with (at_builtin;refine bO _ rfl _ _ 22 rfl _ 25 i _ 6 72 underlying22 f.out.1 f.out.2.1 f.out.2.2.1 f.out.2.2.2 rfl aA _ 13 _ rfl (M.out.2.alloc _) _ 3 3 _ rfl rfl (IG w2 TB) (OE _) aA aA (Fs a5 _) ?_)
 intro v3 w3 ho hg _ _;have S:Hid (_∧w3.ownsRow _ 25 6 v3 16 (((KZ++QL)++TB).flatMap wj)):=⟨bg M.out.1 (((aj.refl _ w2).alloc _).grown hg (fun b _ e=>e)) (fun b e=>(M.out.2.lt b e).1),ho⟩;clear ho hg a5 M;obtain⟨ga,gc,hv⟩:=bo S.out.2 aA;subst hv;have k2:=vN 2 9 _ 16 gc w3 (HM.out.below S.out.1) aA (G9 S.out.2 rfl K0) aA
 go_wp2_with (go_at_call 5;fail)
 go_at_call 5;refine k2.mono ?_;rintro e w4 ⟨rfl,a1⟩;have H4:=zH (S.out.1.trans (a1.mono S.out.1.size));clear k2 a1 S;have k3:=vN c d la ln cap w4 (HM.out.below H4.out) a7 (HL.out.below H4.out) a6
 go_wp2_with (go_at_call 5;fail)
 go_at_call 5;refine k3.mono ?_;rintro e w5 ⟨rfl,a2⟩;have H5:=zH (H4.out.trans (a2.mono H4.out.size));clear k3 a2 H4;go_wp2;go_ret;exact⟨rfl,H5.out⟩
