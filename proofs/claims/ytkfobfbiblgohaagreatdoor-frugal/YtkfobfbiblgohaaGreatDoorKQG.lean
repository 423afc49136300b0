import Derived.Test.YtkfobfbiblgohaaGreatDoorKQF
import Derived.Test.YtkfobfbiblgohaaGreatDoorKXA
import Derived.Test.YtkfobfbiblgohaaGreatDoorKCC
set_option linter.all false
open Go.Proofs.Tryz
set_option maxRecDepth 100000
set_option maxHeartbeats 4000000
namespace Go.Proofs.YtkfobfbiblgohaaGreatDoor
open Go.RowKit
namespace Mf
variable{w w':zW}
theorem pd(s:zA)(M:Nat)(w:zW)(hs:s.size<=2000)(hm:Ml w)(h0:M≠0)(hv:gG w M 6 rdF):
  zC 188 #[zP M,tS s] w fun e w'=>∃(E:List OLn)(T:List (Nat×Nat×Nat))(m q:Nat)(J lv:zV),e=.returned (.tuple #[J,lv])/\(Tx.spoken 1 (Pv.spl 10 s.data.toList)).foldl (Tx.bM false Pv.aG 20) oJ=⟨eN E,T,m,q⟩/\(∀g∈E,∃ks,Ok g.2 ks)/\E.length<=2001/\T.length<=2001/\Fr (fun b=>b=M) w w'/\
   ((jN m T≠[]/\J=zN/\w'.ownsRow w.heap.size 291 3 lv (jN m T).length (dK (jN m T)))\/(jN m T=[]/\lv=zN/\w'.ownsRow w.heap.size 265 4 J E.length (cu (E.map fun g=>dW g.2)))):=by
 have gb:((s.size:Int)<=2000):=by omega
 obtain⟨i9,cf,ch,ck,cm⟩:=Kf;have HI:Hid (prog.info? 291=some i9/\i9.zero=some (.agg #[zI 0,zI 0,zI 0])/\i9.size=3/\i9.bytes=24):=⟨cf,ch,ck,cm⟩;clear cf ch ck cm;obtain⟨l,hl,hz,ks⟩:=vD s (by omega)
 have g9:l.length<=2001:=by
  have h1:=bz List.length hl;have h2:=Dr.spl_len_count 10 s.data.toList;rw[bJ] at h1;rw[<-cr] at h2;omega
 have b7:M<w.heap.size:=aY w (tD M 0) (hv.at' 0 (by omega));have c5:Hid (∀o,Rs (((w.setCell (tD M 4) (.map (some w.heap.size))).alloc (.map #[] 0)).alloc o) M w.heap.size (zN) (zN) [] [] 0 0 (((w.setCell (tD M 4) (.map (some w.heap.size))).alloc (.map #[] 0)).alloc o)):=fun o=>xR hv b7 o
 have c4:(w.alloc (.map #[] 0)).cell? (tD M 4)=some (.map none):=by rw[World.cell?_alloc_lt _ _ _ b7];exact hv.at' 4 (by omega)
 have f4:(w.alloc (.map #[] 0)).frozen? (tD M 4)=false:=by
  rw[gy (w:=w) (a:=(tD M 4)) (aH _ _ _ b7)];exact hv.fr 4 (by omega)
 have fi:=run_makeMap (P:=prog) 258 w
 have Fe:Ml ((w.setCell (tD M 4) (.map (some w.heap.size))).alloc (.map #[] 0)):=by
  obtain⟨m,e⟩:=hm;refine⟨m,?_⟩;have a8:=aY w _ e;rw[World.cell?_alloc_lt _ _ _ (by simp[World.setCell];exact a8),cH _ _ _ _ (fun e=>h0 (by injection e))];exact e
 have ks:=ks _ Fe;have HR:Hid (Left ((Tx.spoken 1 (Pv.spl 10 s.data.toList)).foldl (Tx.bM false Pv.aG 20) oJ) l 0 [] [] 0 0):=⟨by rw[List.drop_zero,hl];rfl,fun g hg=>(by cases hg),ah _,ah _,ah _,ah _⟩;generalize (Tx.spoken 1 (Pv.spl 10 s.data.toList)).foldl (Tx.bM false Pv.aG 20) oJ=R at*;have c2:Hid (Ml ((w.setCell (tD M 4) (.map (some w.heap.size))).alloc (.map #[] 0))):=Fe;have HZ:Hid (∀x∈l,x.size<=2000):=fun x hx=>by have:=hz x hx;omega
 have b4:Hid (M<w.heap.size/\M≠0):=⟨b7,h0⟩;clear hv Fe hm hl hz;go_enter func188,ntmps188;go_wp2
 go_step3
 go_wp2_with fail
 go_step3
 go_wp2_with (go_at_call 95;fail)
 go_at_call 95;refine ks.mono ?_;rintro e w1 ⟨rfl,an⟩
 have c3:Hid (Rs w1 M w.heap.size (zN) (zN) [] [] 0 0 w1):=by
  show Rs w1 M w.heap.size _ _ [] [] 0 0 w1;rw[an];exact c5.out _
 have BI:((w.setCell (tD M 4) (.map (some w.heap.size))).alloc (.map #[] 0)).heap.size=w.heap.size+1:=by rw[kX];simp[World.setCell]
 have b9:Hid (Ml w1):=by
  show Ml w1;rw[an];exact c2.out.below ((ae _ _).alloc (ah _) _)
 have dk:Hid (∀k (hk:k<l.length),w1.cell? (tD (w.heap.size+1) k)=some (tS l[k])):=fun k hk=>by
  rw[an];have h:=xQ ((w.setCell (tD M 4) (.map (some w.heap.size))).alloc (.map #[] 0)) (.cells (l.map Value.string).toArray 9);rw[BI] at h;unfold World.cell?;simp only[h];simp[hk]
 have c0:Hid (Fr (fun b=>b=M) w w1):=by
  show Fr _ w w1;rw[an];exact((Fr.qZ (X:=fun b=>b=M) w M 4 _ rfl).trans (Fr.of_below ((ae _ _).alloc (ah _) _))).trans (Fr.of_below ((ae _ _).alloc (ah _) _))
 have c6:Hid (w.heap.size+1<w1.heap.size/\M≠w.heap.size+1):=⟨by rw[an,kX,BI];omega,by have:=b4.out.1;omega⟩;rw[BI];clear ks c5 c2 an BI c4 f4 fi;have bi:Hid (w.heap.size≠0/\w.heap.size≠w.heap.size+1):=⟨by have:=b4.out.1;omega,by omega⟩;have bn:Hid (∀b,w1.heap.size<=b->w.heap.size<=b):=fun b hb=>by have:=c6.out.1;omega
 generalize w.heap.size+1=lb at*;go_wp2;go_loopg [6,24] l.length (fun gg lv kv wr=>∃(k:Nat)(E:List OLn)(T:List (Nat×Nat×Nat))(O rq:Nat)(I a1:zV),a1=lv/\k<=l.length/\l.length-k<=gg/\kv=zI k/\O<=k/\Hid (Rs w1 M w.heap.size I lv (E.map fun g=>dW g.2) T O rq wr)/\Hid (Left R l k E T O rq))
 case atStart=>exact⟨0,[],[],0,0,_,_,rfl,by omega,by omega,rfl,by omega,c3,HR⟩
 case round=>
  clear c3 HR;obtain⟨k,E,T,O,rq,I,a1,Qt,hk,g6,rfl,TS,HS,HL⟩:=hrel;subst Qt;by_cases a8:k<l.length
  ·have gO:(k:Int)<(l.length:Int):=by omega
   have ff:wr.cell? (tD lb k)=some (tS l[k]):=HS.out.old (dk.out k a8) ⟨fun e=>c6.out.2 e.symm,fun e=>bi.out.2 e.symm⟩;have dj:=xO l[k] wr (HS.out.ml b9.out ⟨b4.out.2,bi.out.1⟩) (by have:=HZ.out l[k] (ez a8);omega)
   go_wp2_with (go_at_call 206;fail)
   go_at_call 206;refine dj.mono ?_;rintro e w2 ⟨v,F,rfl,a6,a4,bq⟩;clear dj ff;have av:Hid (Rs w1 M w.heap.size I a1 (E.map fun g=>dW g.2) T O rq w2):=HS.out.below bq;have bb:Hid (aF F=Tx.words l[k].data.toList):=a6;have dp:Hid (M<wr.heap.size):=bP HS.out.rd.lt.1 HS.out.rd.lt.2.2.1;by_cases he:F=[]
   ·have aq:Hid (Left R l (k+1) E T O rq):=HL.out.blank a8 (by rw[<-a6,he];rfl)
    obtain⟨va,vc,rfl⟩:=aC a4;subst he;clear a4 bq a6 HL HS bb;go_wp2;go_roundg (l.length-(k+1))
    case measure=>omega
    case rel=>exact⟨k+1,E,T,O,rq,I,a1,rfl,by omega,by omega,by go_num,by omega,av,aq⟩
   ·have hn:0<F.length:=gC.2 he
    obtain⟨g,vc,rfl⟩:=dT a4 hn;have b0:=Gn a4;have fd:=(a4.lt g rfl).1;have fk:¬((F.length:Int)=0):=by omega
    have fu:((F.length:Int)==0)=false:=by rw[ij];omega
    have cc:w2.cell? (tD M 2)=some (zI O):=av.out.rd.rd.2.2.1;have b6:w2.frozen? (tD M 2)=false:=av.out.rd.f2;have dq:Hid (Rs w1 M w.heap.size I a1 (E.map fun g=>dW g.2) T (O+1) rq (w2.setCell (tD M 2) (zI ((O:Int)+1)))):=av.out.speak
    have bm:Hid (WAt (w2.setCell (tD M 2) (zI ((O:Int)+1))) g 0 F/\F.length<=vc):=by
     have fm:g≠M:=by have:=dp.out;omega
     have ct:(w2.setCell (tD M 2) (zI ((O:Int)+1))).heap[g]?=w2.heap[g]?:=aL _ _ _ _ fm;exact⟨⟨by simp[World.setCell];exact b0.1.1,fun j hj=>⟨by rw[bg (w:=w2) (a:=(tD g (0+j*2))) ct];exact(b0.1.2 j hj).1,by rw[bg (w:=w2) (a:=(tD g (0+j*2+1))) ct];exact(b0.1.2 j hj).2⟩⟩,b0.2⟩
    have e2:IntKind.i64.wrap ((O:Int)+1)=(O:Int)+1:=by simp[IntKind.wrap,IntKind.bits,IntKind.signed];omega
    have c9:Hid (∀x∈F,x.1<=4000/\x.2.size<=2000):=fun x hx=>by
     have h1:=Dk a6 x hx;have h2:=HZ.out l[k] (ez a8);omega
    have b3:Hid (F≠[]):=he;clear a4 bq a6 b0 fd he av HS
    go_wp2_with fail
    clear cc b6 e2 fk fu;generalize w2.setCell (tD M 2) (zI ((O:Int)+1))=W3 at*
    have bf:Hid ((Tx.slip false Pv.aG (O==0) (od E F) (rq==20) (aF F)=none/\(∀k,2<=k->k<=9->ek F (O+1==1) (od E F) (rq==20) k=-1)/\(∃ks,Ok F ks)/\od E F=false)\/
      (∃a k:Nat,Tx.slip false Pv.aG (O==0) (od E F) (rq==20) (aF F)=some (a,k)/\2<=k/\k<=9/\ek F (O+1==1) (od E F) (rq==20) k=(a:Int)/\∀j,2<=j->j<k->ek F (O+1==1) (od E F) (rq==20) j=-1)):=by
     have e:(O+1==1)=(O==0):=by rw[gi];simp
     rw[e];exact ru F b3.out (O==0) (od E F) (rq==20)
    generalize b1:ek F (O+1==1) (od E F) (rq==20)=AT at*;have bc:Hid (ek F (O+1==1) (od E F) (rq==20)=AT):=b1;clear b1;go_loopg [6,10] 8 (fun gg l6 kv wx=>∃j:Nat,a1=l6/\2<=j/\j<=10/\10-j<=gg/\kv=zI j/\Hid (∀i,2<=i->i<j->AT i=-1)/\zB W3 wx)
    case atStart=>exact⟨2,rfl,by omega,by omega,by omega,rfl,fun i h1 h2=>(by omega),ae _ _⟩
    case round=>
     obtain⟨j,h6,bs,TT,g5,rfl,ab,ak⟩:=hrel;subst h6;have a5:Hid (Rs w1 M w.heap.size I a1 (E.map fun g=>dW g.2) T (O+1) rq wr):=dq.out.below ak;by_cases cp:j<=9
     ·have kk:=Ix M (O+1) rq g vc w.heap.size w1.heap.size j I _ _ F wr (a5.out.ml b9.out ⟨b4.out.2,bi.out.1⟩) a5.out.rd (bm.out.1.below ak) b3.out bm.out.2 c9.out bs cp (by rw[Gr,bc.out];exact ab.out)
      rw[Gr,bc.out] at kk;have Qu:(j:Int)<=9:=by omega
      by_cases hr:AT j=-1
      ·rw[hr] at kk
       have KU:Hid (∀i,2<=i->i<j+1->AT i=-1):=fun i h1 h2=>by
        by_cases e:i=j
        ·rw[e];exact hr
        ·exact ab.out i h1 (by omega)
       clear hr a5
       go_wp2_with (go_at_call 207;fail)
       go_at_call 207;refine kk.mono ?_;rintro e w4 ⟨rfl,b2⟩;have fb:zB W3 w4:=ak.trans (b2.mono ak.size);clear kk b2;go_wp2;go_roundg (10-(j+1))
       case measure=>omega
       case rel=>exact⟨j+1,rfl,by omega,by omega,by omega,by go_num,KU,fb⟩
      ·obtain⟨a,a0,cb⟩:∃a:Nat,Tx.slip false Pv.aG (O==0) (od E F) (rq==20) (aF F)=some (a,j)/\AT j=(a:Int):=by
        rcases bf.out with⟨_,h,_⟩|⟨a,q,h1,h2,h3,h4,h5⟩
        ·exact absurd (h j bs cp) hr
        ·have e:q=j:=by
          rcases Nat.lt_trichotomy q j with e|e|e
          ·have:=ab.out q h2 e;rw[h4] at this;omega
          ·exact e
          ·exact absurd (h5 j bs e) hr
         subst e;exact⟨a,h1,h4⟩
       rw[cb] at kk;have aq:Hid (Left R l (k+1) E (T++[(k+1,a,j)]) (O+1) rq):=HL.out.slip a8 bb.out b3.out a0;have g1:((a:Int)==-1)=false:=by rw[ij];omega
       have g2:¬((a:Int)=-1):=by omega
       have TU:T.length<=2001:=by have:=HL.out.2.2.2.1;omega
       clear hr cb a0
       go_wp2_with (go_at_call 207;fail)
       go_at_call 207;refine kk.mono ?_;rintro e w4 ⟨rfl,b2⟩;have b5:Hid (Rs w1 M w.heap.size I a1 (E.map fun g=>dW g.2) T (O+1) rq w4):=a5.out.below b2;clear kk b2 a5 ak;have fa:=b5.out.rd.lt.2.2.1
       go_wp2_with (at_builtin;refine dG _ rfl _ _ 228 rfl w1.heap.size 291 i9 (.agg #[zI 0,zI 0,zI 0]) 3 24 underlying228 HI.out.1 HI.out.2.1 HI.out.2.2.1 HI.out.2.2.2 rfl (by decide) _ _ _ rfl (b5.out.os.alloc _) (tD w4.heap.size 0) 1 1 [zI (k+1),zI a,zI j] rfl rfl ?_ ?_ ?_ ?_ ?_ ?_)
       all_goals first
        |exact fF _ _ _ _ _
        |(show ∀u∈[Value.int .i64 ((k:Int)+1),Value.int .i64 a,Value.int .i64 j],u.oneCell'=true;intro u hu;simp at hu;rcases hu with rfl|rfl|rfl<;>rfl)
        |(show T.length+1<=maxLen;unfold maxLen;omega)
        |(show(T.length+1)*24<=140737488355328;omega)
        |(show w1.heap.size<=(w4.alloc _).heap.size;simp;omega)
        |skip
       intro b8 w5 a3 a2 _ a7
       have bk:Hid (Rs w1 M w.heap.size I b8 (E.map fun g=>dW g.2) (T++[(k+1,a,j)]) (O+1) rq w5):=b5.out.slip _ (k+1,a,j) a3 a2 (by
        rcases a7 with e|e
        ·exact oE e
        ·exact oS (by rw[e];simp))
       clear a3 a2 a7 b5;go_wp2;go_roundg (l.length-(k+1))
       case measure=>omega
       case rel=>exact⟨k+1,E,T++[(k+1,a,j)],O+1,rq,I,b8,rfl,by omega,by omega,by go_num,by omega,bk,aq⟩
     ·have Qu:¬((j:Int)<=9):=by omega
      have g8:j=10:=by omega
      obtain⟨a0,aa⟩:Tx.slip false Pv.aG (O==0) (od E F) (rq==20) (aF F)=none/\∃ks,Ok F ks:=by
       rcases bf.out with⟨h1,_,h3,_⟩|⟨a,q,_,h2,h3,h4,_⟩
       ·exact⟨h1,h3⟩
       ·have:=ab.out q h2 (by omega)
        rw[h4] at this;omega
      have aq:Hid (Left R l (k+1) (E++[(k+1,F)]) T (O+1) (if (wd F 0).toList==[114,101,113,117,105,114,101] then rq+1 else rq)):=HL.out.kept a8 bb.out b3.out aa a0;obtain⟨g0,aa⟩:=aa;have Ff:=bm.out.1.below ak;have g7:=HL.out.2.2.1;have ga:=HL.out.2.2.2.2.2;have da:0<F.length:=by have:=aa.len;omega
      have kt:=xA M (O+1) rq g F.length vc (F.getD 0 pad).1 w.heap.size w1.heap.size (k+1) I (E.map fun g=>dW g.2) ((E.map fun g=>dW g.2).map xC) (wd F 0) (wd F 1) (wd F 2) (wd F 4) (kF F).1 (kF F).2.1 (kF F).2.2 _ g0 wr da (Gq c9.out) (by rw[bJ];omega) (by rw[bJ,bJ];omega) (by omega) (by omega) a5.out.rd (QA Ff da) aa.sh rfl (fun W q hb hq=>sT aa q g vc W hq (Ff.below hb)) (fun W=>Ai (wd F 0) (wd F 1) (wd F 2) (wd F 4) W)
      have c8:Hid ((E.map fun g=>dW g.2)++[(wd F 0,wd F 1,wd F 2,wd F 4)]=(E++[(k+1,F)]).map fun g=>dW g.2):=by
       show _=_;rw[eK];rfl
      have du:Hid ((E.map fun g=>dW g.2).map xC++[((kF F).1,(kF F).2.1,(kF F).2.2)]=((E++[(k+1,F)]).map fun g=>dW g.2).map xC):=by
       show _=_;rw[eK,eK];rfl
      rw[c8.out,du.out] at kt;generalize (if (wd F 0).toList==[114,101,113,117,105,114,101] then rq+1 else rq)=rq2 at*;clear a0 aa Ff bf bc
      go_wp2_with (go_at_call 208;fail)
      go_at_call 208;refine kt.mono ?_;rintro e w4 ⟨bv,rfl,bt,cd,b1⟩
      have bk:Hid (Rs w1 M w.heap.size bv a1 ((E++[(k+1,F)]).map fun g=>dW g.2) T (O+1) rq2 w4):=by
       show Rs w1 M w.heap.size bv a1 _ T (O+1) rq2 w4;rw[<-c8.out] at bt ⊢;exact a5.out.keep bt cd b1
      clear bt cd b1 kt a5;go_wp2;go_roundg (l.length-(k+1))
      case measure=>omega
      case rel=>exact⟨k+1,E++[(k+1,F)],T,O+1,rq2,bv,a1,rfl,by omega,by omega,by go_num,by omega,bk,aq⟩
  ·have cx:k=l.length:=by omega
   have gO:¬((k:Int)<(l.length:Int)):=by omega
   have ad:=HL.out
   have Dm:(⟨eN E,T,O,rq⟩:Tx.Got)=R:=by
    have h:=ad.1;rw[cx,List.drop_length] at h;exact h
   have g3:wr.cell? (tD M 1)=some (tS mV):=HS.out.rd.rd.2.1;have cc:wr.cell? (tD M 2)=some (zI O):=HS.out.rd.rd.2.2.1;have g4:wr.cell? (tD M 5)=some I:=HS.out.rd.fs.1
   have c1:Hid (∀lv sl w',Rs w1 M w.heap.size I lv (E.map fun g=>dW g.2) sl O rq w'->Fr (fun b=>b=M) w w'/\w'.ownsRow w.heap.size 291 3 lv sl.length (dK sl)):=fun lv sl w' hR=>by
    have h1:=c0.out;have h2:=hR.fr;refine⟨⟨h2.os.trans h1.os,h2.tape.trans h1.tape,h2.output.trans h1.output,aN h1.size h2.size,fun b hb hn=>?_⟩,hR.os.1,?_⟩
    ·rw[h2.block b (bP hb h1.size) (fun e=>by rcases e with e|e;exact hn e;omega)]
     exact h1.block b hb hn
    ·rcases hR.os.2 with hn|⟨g,cap,az,hv,hg,a9⟩
     ·exact .inl hn
     ·exact .inr ⟨g,cap,az,hv,bn.out g hg,a9⟩
   have HO:Hid (wr.ownsRow w.heap.size 291 3 a1 T.length (dK T)/\wr.ownsRow w.heap.size 265 4 I E.length (cu (E.map fun g=>dW g.2))):=by
    have h1:=HS.out.os;have h2:=HS.out.rd.own;rw[bJ] at h2;refine⟨⟨h1.1,?_⟩,⟨h2.1,?_⟩⟩
    ·rcases h1.2 with hn|⟨g,cap,az,hv,hg,a9⟩
     ·exact .inl hn
     ·exact .inr ⟨g,cap,az,hv,bn.out g hg,a9⟩
    ·rcases h2.2 with hn|⟨g,cap,az,hv,hg,a9⟩
     ·exact .inl hn
     ·exact .inr ⟨g,cap,az,hv,bn.out g hg,a9⟩
   have U:Hid (R=⟨eN E,T,O,rq⟩/\(∀g∈E,∃ks,Ok g.2 ks)/\E.length<=2001/\T.length<=2001):=⟨Dm.symm,ad.2.1,by have:=ad.2.2.1;omega,by have:=ad.2.2.2.1;omega⟩;have db:O=0->T=[]:=fun e=>qJ (by have:=ad.2.2.2.1;omega)
   have gd:w.heap.size<=wr.heap.size:=aN c0.out.size HS.out.fr.size;clear Dm ad HL cx;by_cases bu:O=0
   ·have a0:=db bu
    subst a0;subst bu;clear db;obtain⟨la,lc,rfl⟩:=aC HO.out.1;have fa:=HS.out.rd.lt.2.2.1
    go_wp2_with (at_builtin;refine dG _ rfl _ _ 228 rfl w1.heap.size 291 i9 (.agg #[zI 0,zI 0,zI 0]) 3 24 underlying228 HI.out.1 HI.out.2.1 HI.out.2.2.1 HI.out.2.2.2 rfl (by decide) _ _ _ rfl (HS.out.os.alloc _) (tD wr.heap.size 0) 1 1 [zI 0,zI 0,zI 2] rfl rfl ?_ ?_ ?_ ?_ ?_ ?_)
    all_goals first
     |exact fF _ _ _ _ _
     |(show ∀u∈[Value.int .i64 0,Value.int .i64 0,Value.int .i64 2],u.oneCell'=true;intro u hu;simp at hu;rcases hu with rfl|rfl|rfl<;>rfl)
     |exact⟨rfl,rfl⟩
     |(show w1.heap.size<=wr.heap.size+1;omega)
     |(show 0+1<=maxLen;unfold maxLen;omega)
     |(show(0+1)*24<=140737488355328;omega)
     |(show w1.heap.size<=(wr.alloc _).heap.size;simp;omega)
     |skip
    intro b8 w5 a3 a2 _ a7
    have ca:=HS.out.slip _ (0,0,2) a3 a2 (by
     rcases a7 with e|e
     ·exact oE e
     ·exact oS (by rw[e];simp))
    have bp:Hid (Fr (fun b=>b=M) w w5/\w5.ownsRow w.heap.size 291 3 b8 1 (dK [(0,0,2)])):=c1.out _ _ _ ca;obtain⟨ma,mc,rfl⟩:=aC bp.out.2;clear a3 a2 a7 ca HS;go_wp2
    (try rw[fO])
    go_ret2;exact⟨E,[],0,rq,_,_,rfl,U.out.1,U.out.2.1,U.out.2.2.1,U.out.2.2.2,bp.out.1,oE ⟨by decide,rfl,bp.out.2⟩⟩
   ·have UF:((O:Int)==0)=false:=by rw[ij];omega
    have b6:jN O T=T:=ag bu;have bd:Hid (jN O T=T):=b6;clear b6;have bx:Hid (Fr (fun b=>b=M) w wr):=(c1.out _ _ _ HS.out).1;clear HS;obtain⟨la,lc,rfl⟩:=aC HO.out.1;by_cases a0:T=[]
    ·subst a0
     have fv:¬((([]:List (Nat×Nat×Nat)).length:Int)>0):=by simp
     go_wp2
     (try rw[fO])
     go_ret2;exact⟨E,[],O,rq,_,_,rfl,U.out.1,U.out.2.1,U.out.2.2.1,U.out.2.2.2,bx.out,oS ⟨bd.out,rfl,HO.out.2⟩⟩
    ·have fv:(0:Int)<(T.length:Int):=by have:=gC.2 a0;omega
     have ds:Hid (T≠[]):=a0;clear a0;go_wp2
     (try rw[fO])
     go_ret2;exact⟨E,T,O,rq,_,_,rfl,U.out.1,U.out.2.1,U.out.2.2.1,U.out.2.2.2,bx.out,oE ⟨by rw[bd.out];exact ds.out,rfl,by rw[bd.out];exact HO.out.1⟩⟩
end Mf
namespace Mf
variable{w w' Y W W':zW}{G:Nat}{V:Nat->zV}{n:Nat->Nat}{L:Nat->List zV}
theorem results_cell_tmp{P:Program}{fn:Func}{p q:Tmp}{ty:TypeId}(h:fn.results=#[.cell p ty,.tmp q])(E:Array zV)(w:zW)(g:Nat)(t:TypeId)(cs:Array zV)(fr:Nat×Nat)(d:TypeDesc)(v:zV)
  (U:E.getD p undef=zP g) (hq:E.getD q undef=v) (O:w.heap[g]?=some (.cells cs t fr))
  (hu:P.underlying ty=some d) (hd:(match d with | .struct _ | .array _ _=>true|_=>false)=true) (T:(P.info? ty).map (·.size)=some cs.size):
  (results fn E).run P w=.ok (.tuple #[.agg cs,v]) w:=by
 have F:E[p]?.getD undef=zP g:=by simpa using U
 have M:E[q]?.getD undef=v:=by simpa using hq
 simp[results,h,F,M,asAddr,run_loadVar_row w g t ty cs fr d O hu hd T]
abbrev ty(i:Nat):TypeId:=if i=3 then 267 else 70
abbrev sz(i:Nat):Nat:=if i=3 then 3 else 2
structure Mk(Y:World)(G:Nat)(V:Nat->zV)(n:Nat->Nat)(L:Nat->List zV)(W:World):Prop where
 b:zB Y W
 lt:Y.heap.size<=G/\G<W.heap.size
 box:gG W G 4 V
 own:∀i,1<=i->i<=3->W.ownsRow (G+1) (ty i) (sz i) (V i) (n i) (L i)
 ne:∀i j,1<=i->i<=3->1<=j->j<=3->i≠j->∀b,(V i).ownBlock=some b->(V j).ownBlock≠some b
theorem Mk.below(h:Mk Y G V n L W)(E:zB W W'):Mk Y G V n L W':=
 ⟨h.b.trans (E.mono h.b.size),⟨h.lt.1,bP h.lt.2 E.size⟩,h.box.of_block (E.block _ h.lt.2),fun i F M=>ar (h.own i F M) (fun b e=>E.block b ((h.own i F M).lt b e).2),h.ne⟩
theorem nC{e s m:Nat}{v:zV}{xs:List zV}(h:w.ownsRow (G+1) e s v m xs)(E:v.ownBlock=some G):False:=by
 have:=(h.lt G E).1;omega
def upd{α:Type}(V:Nat->α)(i:Nat)(v:α)(j:Nat):α:=if j=i then v else V j
theorem Mk.put(h:Mk Y G V n L W)(i:Nat)(h1:1<=i)(h3:i<=3){v':zV}{m:Nat}{xs:List zV}(T:w'.ownsRow (G+1) (ty i) (sz i) v' m xs)(O:ai (fun b=>(V i).ownBlock=some b) W w')(a0:∀b,v'.ownBlock=some b->(V i).ownBlock=some b\/W.heap.size<=b):
  Mk Y G (upd V i v') (upd n i m) (upd L i xs) (w'.setCell (tD G i) v'):=by
 have U:∀k,k≠G->(w'.setCell (tD G i) v').heap[k]?=w'.heap[k]?:=fun k U=>aL _ _ _ _ U
 have a4:(w'.setCell (tD G i) v').heap.size=w'.heap.size:=by simp[World.setCell]
 have a2:¬((V i).ownBlock=some G):=fun e=>nC (h.own i h1 h3) e
 refine⟨?_,⟨h.lt.1,by rw[a4];exact bP h.lt.2 O.size⟩,?_,fun j j1 j3=>?_,fun a c a1 a3 c1 c3 F b e=>?_⟩
 ·refine(⟨O.os.trans h.b.os,O.tape.trans h.b.tape,O.output.trans h.b.output,aN h.b.size O.size,fun k U=>?_⟩:zB Y w').setCell h.lt.1 _
  rw[O.block k (bP U h.b.size) (fun e=>by have:=((h.own i h1 h3).lt k e).1;have:=h.lt.1;omega)];exact h.b.block k U
 ·exact((h.box.of_block (O.block G h.lt.2 a2)).set (p:=i) (by omega) v').ext (fun j _=>rfl)
 ·unfold upd
  by_cases e:j=i
  ·subst e
   simp only[aj];exact ar T (fun b e=>U b (fun E=>by subst E;exact nC T e))
  ·simp only[ag e]
   refine ar (h.own j j1 j3) (fun b E=>?_);rw[U b (fun M=>by subst M;exact nC (h.own j j1 j3) E)];exact O.block b ((h.own j j1 j3).lt b E).2 (fun M=>h.ne j i j1 j3 h1 h3 e b E M)
 ·unfold upd at e ⊢
  by_cases ea:a=i
  ·subst ea
   simp only[aj] at e;rw[ag (fun h=>F h.symm)];rcases a0 b e with E|E
   ·exact h.ne a c a1 a3 c1 c3 F b E
   ·intro M
    have:=((h.own c c1 c3).lt b M).2;omega
  ·rw[ag ea] at e
   by_cases ec:c=i
   ·subst ec
    simp only[aj];intro E;rcases a0 b E with M|M
    ·exact h.ne a c a1 a3 c1 c3 F b e M
    ·have:=((h.own a a1 a3).lt b e).2
     omega
   ·rw[ag ec]
    exact h.ne a c a1 a3 c1 c3 F b e
theorem Mk.path(h:Mk Y G V n L W)(v:zV):Mk Y G (upd V 0 v) n L (W.setCell (tD G 0) v):=by
 have F:∀k,k≠G->(W.setCell (tD G 0) v).heap[k]?=W.heap[k]?:=fun k F=>aL _ _ _ _ F
 have M:(W.setCell (tD G 0) v).heap.size=W.heap.size:=by simp[World.setCell]
 have O:∀i,1<=i->upd V 0 v i=V i:=fun i hi=>ag (by omega)
 refine⟨h.b.setCell h.lt.1 _,⟨h.lt.1,by rw[M];exact h.lt.2⟩,(h.box.set (p:=0) (by omega) v).ext (fun j _=>rfl),fun j T j3=>?_,fun a c U a3 c1 c3 E b e=>?_⟩
 ·rw[O j T]
  exact ar (h.own j T j3) (fun b e=>F b (fun e2=>by subst e2;exact nC (h.own j T j3) e))
 ·rw[O c c1]
  rw[O a U] at e;exact h.ne a c U a3 c1 c3 E b e
theorem Mk.start(Y:zW):Mk Y Y.heap.size (fun f=>if f=0 then zE else zN) (fun _=>0) (fun _=>[]) (Y.alloc (.cells #[zE,zN,zN,zN] 214)):=by
 have E:=aA Y (.cells #[zE,zN,zN,zN] 214);refine⟨(ae _ _).alloc (ah _) _,⟨ah _,by simp⟩,⟨fun j F=>?_,fun j F=>?_⟩,fun i O T=>?_,fun a c M _ _ _ _ b e=>?_⟩
 ·rcases(by omega:j=0\/j=1\/j=2\/j=3) with rfl|rfl|rfl|rfl<;>simp only[World.cell?,E]<;>rfl
 ·simp only[World.frozen?,E];simp
 ·simp only[ag (by omega:¬i=0)]
  exact eC _ _ _ _
 ·simp only[ag (by omega:¬a=0)] at e
  simp[Value.ownBlock] at e
def mv(p:zA)(J Q I:zV)(i:Nat):zV:=if i=0 then tS p else if i=1 then J else if i=2 then Q else I
def mn(R X:List Mo)(S:List So)(i:Nat):Nat:=if i=1 then R.length else if i=2 then X.length else S.length
def mL(R X:List Mo)(S:List So)(i:Nat):List zV:=if i=1 then mcs R else if i=2 then mcs X else scs S
theorem Mk.ext{U:Nat->zV}{n':Nat->Nat}{T:Nat->List zV}(h:Mk Y G V n L W)(E:∀i,i<4->V i=U i)(hn:∀i,1<=i->i<=3->n i=n' i)(hL:∀i,1<=i->i<=3->L i=T i):Mk Y G U n' T W:=
 ⟨h.b,h.lt,h.box.ext E,fun i F M=>by rw[<-E i (by omega),<-hn i F M,<-hL i F M];exact h.own i F M,fun i j i1 i3 j1 j3 O b e=>by rw[<-E j (by omega)];rw[<-E i (by omega)] at e;exact h.ne i j i1 i3 j1 j3 O b e⟩
abbrev Mq(Y:zW)(G:Nat)(p:zA)(J Q I:zV)(R X:List Mo)(S:List So)(W:zW):Prop:=Mk Y G (mv p J Q I) (mn R X S) (mL R X S) W
variable{p:zA}{J Q I:zV}{R X R' X':List Mo}{S S':List So}
theorem Mq.start(Y:zW):Mq Y Y.heap.size ⟨#[]⟩ (zN) (zN) (zN) [] [] [] (Y.alloc (.cells #[zE,zN,zN,zN] 214)):=
 (Mk.start Y).ext (fun i M=>by rcases(by omega:i=0\/i=1\/i=2\/i=3) with rfl|rfl|rfl|rfl<;>rfl) (fun i E F=>by rcases(by omega:i=1\/i=2\/i=3) with rfl|rfl|rfl<;>rfl) (fun i E F=>by rcases(by omega:i=1\/i=2\/i=3) with rfl|rfl|rfl<;>rfl)
theorem Mq.path(h:Mq Y G p J Q I R X S W)(E:zA):Mq Y G E J Q I R X S (W.setCell (tD G 0) (tS E)):=
 (Mk.path h (tS E)).ext (fun i O=>by rcases(by omega:i=0\/i=1\/i=2\/i=3) with rfl|rfl|rfl|rfl<;>rfl) (fun i F M=>rfl) (fun i F M=>rfl)
theorem Mq.req(h:Mq Y G p J Q I R X S W){F:zV}(E:w'.ownsRow (G+1) 70 2 F R'.length (mcs R'))(U:ai (fun b=>J.ownBlock=some b) W w')(M:∀b,F.ownBlock=some b->J.ownBlock=some b\/W.heap.size<=b):Mq Y G p F Q I R' X S (w'.setCell (tD G 1) F):=
 (Mk.put h 1 (by omega) (by omega) (m:=R'.length) (xs:=mcs R') E U M).ext (fun i hi=>by rcases(by omega:i=0\/i=1\/i=2\/i=3) with rfl|rfl|rfl|rfl<;>rfl) (fun i O T=>by rcases(by omega:i=1\/i=2\/i=3) with rfl|rfl|rfl<;>rfl) (fun i O T=>by rcases(by omega:i=1\/i=2\/i=3) with rfl|rfl|rfl<;>rfl)
theorem Mq.exc(h:Mq Y G p J Q I R X S W){F:zV}(E:w'.ownsRow (G+1) 70 2 F X'.length (mcs X'))(U:ai (fun b=>Q.ownBlock=some b) W w')(M:∀b,F.ownBlock=some b->Q.ownBlock=some b\/W.heap.size<=b):Mq Y G p J F I R X' S (w'.setCell (tD G 2) F):=
 (Mk.put h 2 (by omega) (by omega) (m:=X'.length) (xs:=mcs X') E U M).ext (fun i hi=>by rcases(by omega:i=0\/i=1\/i=2\/i=3) with rfl|rfl|rfl|rfl<;>rfl) (fun i O T=>by rcases(by omega:i=1\/i=2\/i=3) with rfl|rfl|rfl<;>rfl) (fun i O T=>by rcases(by omega:i=1\/i=2\/i=3) with rfl|rfl|rfl<;>rfl)
theorem Mq.rep(h:Mq Y G p J Q I R X S W){F:zV}(E:w'.ownsRow (G+1) 267 3 F S'.length (scs S'))(U:ai (fun b=>I.ownBlock=some b) W w')(M:∀b,F.ownBlock=some b->I.ownBlock=some b\/W.heap.size<=b):Mq Y G p J Q F R X S' (w'.setCell (tD G 3) F):=
 (Mk.put h 3 (by omega) (by omega) (m:=S'.length) (xs:=scs S') E U M).ext (fun i hi=>by rcases(by omega:i=0\/i=1\/i=2\/i=3) with rfl|rfl|rfl|rfl<;>rfl) (fun i O T=>by rcases(by omega:i=1\/i=2\/i=3) with rfl|rfl|rfl<;>rfl) (fun i O T=>by rcases(by omega:i=1\/i=2\/i=3) with rfl|rfl|rfl<;>rfl)
theorem Mq.r(h:Mq Y G p J Q I R X S W):W.ownsRow (G+1) 70 2 J R.length (mcs R):=h.own 1 (by omega) (by omega)
theorem Mq.x(h:Mq Y G p J Q I R X S W):W.ownsRow (G+1) 70 2 Q X.length (mcs X):=h.own 2 (by omega) (by omega)
theorem Mq.s(h:Mq Y G p J Q I R X S W):W.ownsRow (G+1) 267 3 I S.length (scs S):=h.own 3 (by omega) (by omega)
theorem Mq.cells(h:Mq Y G p J Q I R X S W):(W.cell? (tD G 0)=some (tS p)/\W.cell? (tD G 1)=some J/\W.cell? (tD G 2)=some Q/\W.cell? (tD G 3)=some I)/\(W.frozen? (tD G 0)=false/\W.frozen? (tD G 1)=false/\W.frozen? (tD G 2)=false/\W.frozen? (tD G 3)=false):=
 ⟨⟨h.box.at' 0 (by omega),h.box.at' 1 (by omega),h.box.at' 2 (by omega),h.box.at' 3 (by omega)⟩,h.box.fr 0 (by omega),h.box.fr 1 (by omega),h.box.fr 2 (by omega),h.box.fr 3 (by omega)⟩
structure Mx where
 p:zA
 R:List Mo
 X:List Mo
 S:List So
end Mf
namespace Mf
variable{w w':zW}
def fU(m:Mx)(s:Sm4):Mx:=
 if s.1=mV then ⟨s.2.1,m.R,m.X,m.S⟩ else if s.1=oN then ⟨m.p,m.R++[(s.2.1,s.2.2.1)],m.X,m.S⟩ else if s.1=C0 then ⟨m.p,m.R,m.X++[(s.2.1,s.2.2.1)],m.S⟩ else if s.1=C2 then ⟨m.p,m.R,m.X,m.S++[(s.2.1,s.2.2.1,s.2.2.2)]⟩ else m
def dU(L:List Sm4):Mx:=L.foldl fU ⟨⟨#[]⟩,[],[],[]⟩
theorem Iy(L:List Sm4)(s:Sm4):dU (L++[s])=fU (dU L) s:=by simp[dU,pM]
theorem sU(L:List Sm4):(dU L).R.length<=L.length/\(dU L).X.length<=L.length/\(dU L).S.length<=L.length:=by
 have gen:∀(L:List Sm4)(m:Mx),(L.foldl fU m).R.length<=m.R.length+L.length/\(L.foldl fU m).X.length<=m.X.length+L.length/\(L.foldl fU m).S.length<=m.S.length+L.length:=by
  intro L
  induction L with
  |nil=>intro m;simp
  |cons s L E=>
   intro m;have h:=E (fU m s)
   have F:(fU m s).R.length<=m.R.length+1/\(fU m s).X.length<=m.X.length+1/\(fU m s).S.length<=m.S.length+1:=by
    unfold fU
    split
    ·simp
    ·split
     ·simp
     ·split
      ·simp
      ·split<;>simp
   simp only[lI,bW];omega
 have:=gen L ⟨⟨#[]⟩,[],[],[]⟩;simpa[dU] using this
theorem jq:∀(l:List Sm4)(j:Nat)(h:j<l.length),(cu l)[j*4]?=some (tS l[j].1)/\(cu l)[j*4+1]?=some (tS l[j].2.1)/\(cu l)[j*4+2]?=some (tS l[j].2.2.1)/\(cu l)[j*4+3]?=some (tS l[j].2.2.2)
 |x::r,0,_=>⟨rfl,rfl,rfl,rfl⟩
 |x::r,j+1,h=>by
  have e:cu (x::r)=tS x.1::tS x.2.1::tS x.2.2.1::tS x.2.2.2::cu r:=rfl;have E:=jq r j (by simpa using h);rw[e];refine⟨?_,?_,?_,?_⟩
  ·rw[show(j+1)*4=j*4+1+1+1+1 by omega];simpa using E.1
  ·rw[show(j+1)*4+1=j*4+1+1+1+1+1 by omega];simpa using E.2.1
  ·rw[show(j+1)*4+2=j*4+2+1+1+1+1 by omega];simpa using E.2.2.1
  ·rw[show(j+1)*4+3=j*4+3+1+1+1+1 by omega];simpa using E.2.2.2
theorem pV{B:Nat}{v:zV}{L:List Mo}(h:w.ownsRow B 70 2 v L.length (mcs L)):Sm.Rd w v L:=by
 rcases h.2 with⟨E,T⟩|⟨g,c,O,E,_⟩
 ·exact oE ⟨E,qJ T⟩
 ·subst E
  refine oS ⟨g,0,c,rfl,fun j u M=>?_⟩
  have F:j<L.length*2:=by
   have:=(dB.1 M).1;rw[Sm.xK] at this;exact this
  rw[dJ,h.cellAt j F];exact M
theorem Iz{B:Nat}{v:zV}{L:List So}(h:w.ownsRow B 267 3 v L.length (scs L)):Sw.Rd w v L:=by
 rcases h.2 with⟨E,T⟩|⟨g,c,O,E,_⟩
 ·exact oE ⟨E,qJ T⟩
 ·subst E
  refine oS ⟨g,0,c,rfl,fun j u M=>?_⟩
  have F:j<L.length*3:=by
   have:=(dB.1 M).1;rw[Sw.xK] at this;exact this
  rw[dJ,h.cellAt j F];exact M
theorem Fl(W:zW):gG (W.alloc (.cells #[.func (.func 187) #[] #[],tS mV,zI 0,zI 0,.map none,zN] 261)) W.heap.size 6 rdF:=by
 have E:=iU W (.cells #[.func (.func 187) #[] #[],tS mV,zI 0,zI 0,.map none,zN] 261);refine⟨fun j F=>?_,fun j F=>?_⟩
 ·simp only[World.cell?,E]
  rcases(by omega:j=0\/j=1\/j=2\/j=3\/j=4\/j=5) with e|e|e|e|e|e<;>rw[e]<;>rfl
 ·simp only[World.frozen?,E];simp
abbrev zM:Array zV:=#[zE,zN,zN,zN]
end Mf
namespace Mf
variable{w w':zW}
theorem Fo{W:zW}{r:Nat}(h:W.heap[r]?=some (.cells zM 214))(a b c d:zV):((((W.setCell (tD r 0) a).setCell (tD r 1) b).setCell (tD r 2) c).setCell (tD r 3) d).heap[r]?=some (.cells #[a,b,c,d] 214):=by
 have E:=bo _ _ 0 _ _ a h;have F:=bo _ _ 1 _ _ b E;have M:=bo _ _ 2 _ _ c F;exact bo _ _ 3 _ _ d M
theorem rF{W:zW}{r:Nat}(F:zB w W)(E:w.heap.size<=r)(a b c d:zV):zB w ((((W.setCell (tD r 0) a).setCell (tD r 1) b).setCell (tD r 2) c).setCell (tD r 3) d):=(((F.setCell E _).setCell E _).setCell E _).setCell E _
theorem pn{W:zW}{r B e s n:Nat}{v:zV}{l:List zV}(h:W.ownsRow B e s v n l)(E:r<B)(a b c d:zV):((((W.setCell (tD r 0) a).setCell (tD r 1) b).setCell (tD r 2) c).setCell (tD r 3) d).ownsRow B e s v n l:=cV (cV (cV (cV h _ E) _ E) _ E) _ E
theorem sV(s:zA)(w:zW)(hs:s.size<=2000)(hm:Ml w)(bq:∀E au m q,(Tx.spoken 1 (Pv.spl 10 s.data.toList)).foldl (Tx.bM false Pv.aG 20) oJ=⟨eN E,au,m,q⟩->E.length<=19):
  zC 166 #[tS s] w fun e w'=>∃(E:List OLn)(au:List (Nat×Nat×Nat))(m q:Nat)(p:zA)(J Q I lv:zV),e=.returned (.tuple #[.agg #[tS p,J,Q,I],lv])/\(Tx.spoken 1 (Pv.spl 10 s.data.toList)).foldl (Tx.bM false Pv.aG 20) oJ=⟨eN E,au,m,q⟩/\(∀g∈E,∃ks,Ok g.2 ks)/\E.length<=2001/\au.length<=2001/\zB w w'/\
   ((jN m au≠[]/\(p=⟨#[]⟩/\J=zN/\Q=zN/\I=zN)/\w'.ownsRow w.heap.size 291 3 lv (jN m au).length (dK (jN m au)))\/
    (jN m au=[]/\lv=zN/\p=(dU (E.map fun g=>dW g.2)).p/\w'.ownsRow w.heap.size 70 2 J (dU (E.map fun g=>dW g.2)).R.length (mcs (reqs (dU (E.map fun g=>dW g.2)).R))/\w'.ownsRow w.heap.size 70 2 Q (dU (E.map fun g=>dW g.2)).X.length (mcs (sR (dU (E.map fun g=>dW g.2)).X))/\w'.ownsRow w.heap.size 267 3 I (dU (E.map fun g=>dW g.2)).S.length (scs (sS (dU (E.map fun g=>dW g.2)).S))/\Apart J Q I)):=by
 obtain⟨i2,b5,b6,b7,b8⟩:=xu;have HJ:Hid (prog.info? 70=some i2/\i2.zero=some (.agg #[zE,zE])/\i2.size=2/\i2.bytes=32):=⟨b5,b6,b7,b8⟩;clear b5 b6 b7 b8;obtain⟨i3,b5,b6,b7,b8⟩:=Sw.Gl;have bb:Hid (prog.info? 267=some i3/\i3.zero=some (.agg #[zE,zE,zE])/\i3.size=3/\i3.bytes=48):=⟨b5,b6,b7,b8⟩;clear b5 b6 b7 b8;generalize hR:(Tx.spoken 1 (Pv.spl 10 s.data.toList)).foldl (Tx.bM false Pv.aG 20) oJ=R;rw[hR] at bq;have bu:=zH bq;clear bq;have HM:=zH hm;clear hm;have da:∀(W:zW)(a:Addr),(store a (.func (.func 187) #[] #[])).run prog W=stored prog W a (.func (.func 187) #[] #[]) .plain:=fun W a=>run_store prog W a _ _ rfl
 have b2:Hid (zB w (w.alloc (.cells zM 214))/\(w.alloc (.cells zM 214)).heap[w.heap.size]?=some (.cells zM 214)/\(w.alloc (.cells zM 214)).heap.size=w.heap.size+1):=⟨(ae _ _).alloc (ah _) _,aA _ _,by simp⟩;go_enter func166,ntmps166
 go_wp2_with (go_at_call 188;fail)
 have kr:=pd s (w.alloc (.cells zM 214)).heap.size ((w.alloc (.cells zM 214)).alloc (.cells #[.func (.func 187) #[] #[],tS mV,zI 0,zI 0,.map none,zN] 261)) hs (HM.out.below (b2.out.1.alloc (by simp) _)) (by rw[b2.out.2.2];omega) (Fl _);rw[hR] at kr;clear hR;have b1:Hid (zB w ((w.alloc (.cells zM 214)).alloc (.cells #[.func (.func 187) #[] #[],tS mV,zI 0,zI 0,.map none,zN] 261))/\((w.alloc (.cells zM 214)).alloc (.cells #[.func (.func 187) #[] #[],tS mV,zI 0,zI 0,.map none,zN] 261)).heap[w.heap.size]?=some (.cells zM 214)/\((w.alloc (.cells zM 214)).alloc (.cells #[.func (.func 187) #[] #[],tS mV,zI 0,zI 0,.map none,zN] 261)).heap.size=w.heap.size+2):=⟨b2.out.1.alloc (by simp) _,heap_alloc2_old _ _ _,by simp⟩;rw[b2.out.2.2] at kr;generalize (w.alloc (.cells zM 214)).alloc (.cells #[.func (.func 187) #[] #[],tS mV,zI 0,zI 0,.map none,zN] 261)=W1 at*;go_at_call 188;refine kr.mono ?_;rintro e O ⟨E,au,m,q,J,lv,rfl,hD,hT,ck,cx,aa,hx⟩;have UG:=bu.out E au m q hD;clear bu;clear kr da
 have b3:Hid (zB w O/\O.heap[w.heap.size]?=some (.cells zM 214)/\w.heap.size+2<=O.heap.size):=by
  have h1:=b1.out.1;refine⟨⟨aa.os.trans h1.os,aa.tape.trans h1.tape,aa.output.trans h1.output,aN h1.size aa.size,fun b hb=>?_⟩,?_,?_⟩
  ·rw[aa.block b (bP hb h1.size) (by omega)];exact h1.block b hb
  ·rw[aa.block w.heap.size (by rw[b1.out.2.2];omega) (by omega)];exact b1.out.2.1
  ·rw[<-b1.out.2.2];exact aa.size
 have HD:Hid (R=⟨eN E,au,m,q⟩/\(∀g∈E,∃ks,Ok g.2 ks)/\E.length<=2001/\au.length<=2001):=⟨hD,hT,ck,cx⟩;have ch:=b1.out.2.2;clear hD hT aa b1 b2;rcases hx with⟨bs,rfl,a7⟩|⟨c3,rfl,a7⟩
 ·obtain⟨la,lc,rfl⟩:=aC a7
  have hq:(0:Int)<((jN m au).length:Int):=by have:=gC.2 bs;omega
  have HO:Hid (jN m au≠[]/\O.ownsRow (w.heap.size+2) 291 3 (.slice la (jN m au).length lc) (jN m au).length (dK (jN m au))):=⟨bs,by rw[<-ch];exact a7⟩;have HW:Hid (∀a b c d,((((O.setCell (tD w.heap.size 0) a).setCell (tD w.heap.size 1) b).setCell (tD w.heap.size 2) c).setCell (tD w.heap.size 3) d).heap[w.heap.size]?=some (.cells #[a,b,c,d] 214)):=fun a b c d=>Fo b3.out.2.1 a b c d
  obtain⟨⟨g0,g1,g2,g3⟩,f0,f1,f2,f3⟩:=Dr.cells4 b3.out.2.1;clear bs a7;generalize c4:(jN m au).length=fl at*;have ca:=zH c4;clear c4;go_wp2;refine aI (results_cell_tmp results166 _ _ w.heap.size 214 _ (0,0) _ _ rfl rfl (HW.out _ _ _ _) underlying214 rfl (by kernel_rfl)) rfl ?_;exact⟨E,au,m,q,_,_,_,_,_,rfl,HD.out.1,HD.out.2.1,HD.out.2.2.1,HD.out.2.2.2,rF b3.out.1 (ah _) _ _ _ _,oE ⟨HO.out.1,⟨rfl,rfl,rfl,rfl⟩,by rw[ca.out];exact gI (B:=w.heap.size+2) (pn (r:=w.heap.size) (B:=w.heap.size+2) HO.out.2 (by omega) _ _ _ _) (by omega)⟩⟩
 ·have HO:=zH a7
  clear a7;obtain⟨ra,rc,rfl⟩:=aC HO.out;have c9:=zH c3
  have cb:Hid (∀j (h:j<(E.map fun g=>dW g.2).length),Wd4 (E.map fun g=>dW g.2)[j].1):=fun j h=>by
   have hj:j<E.length:=by simpa using h
   obtain⟨ks,hk⟩:=HD.out.2.1 E[j] (ez hj);simp only[uj];exact Qz hk
  clear c3;have db:(E.map fun g=>dW g.2).length=E.length:=bJ ..;generalize c1:(E.map fun g=>dW g.2)=L at*;have cc:=zH c1;clear c1;have bx:=zH (Mq.start O);go_wp2;go_loopg [23] E.length (fun gg kv wr=>∃(k:Nat)(J Q I:zV),k<=E.length/\E.length-k<=gg/\kv=zI k/\Hid (Mq O O.heap.size (dU (L.take k)).p J Q I (dU (L.take k)).R (dU (L.take k)).X (dU (L.take k)).S wr))
  case atStart=>exact⟨0,_,_,_,by omega,by omega,rfl,bx⟩
  case round=>
   clear bx;obtain⟨k,J,Q,I,hk,ds,rfl,HS⟩:=hrel;by_cases du:k<E.length
   ·have gO:(k:Int)<(E.length:Int):=by omega
    have bf:k<L.length:=by omega
    obtain⟨g,c,ct⟩:=dT HO.out (by omega);have QB:ra=some (tD g 0):=by injection ct
    subst QB;clear ct;obtain⟨a0,a1,a2,a3⟩:=jq L k bf;have zv:=(HO.out.lt g rfl).2;have b4:=HS.out.b;have d0:wr.cell? (tD g (k*4))=some (tS L[k].1):=by rw[b4.cell (p:=(tD g (k*4))) zv,HO.out.cellAt (k*4) (by omega)];exact a0
    have d1:wr.cell? (tD g (k*4+1))=some (tS L[k].2.1):=by rw[b4.cell (p:=(tD g (k*4+1))) zv,HO.out.cellAt (k*4+1) (by omega)];exact a1
    have d2:wr.cell? (tD g (k*4+2))=some (tS L[k].2.2.1):=by rw[b4.cell (p:=(tD g (k*4+2))) zv,HO.out.cellAt (k*4+2) (by omega)];exact a2
    have d3:wr.cell? (tD g (k*4+3))=some (tS L[k].2.2.2):=by rw[b4.cell (p:=(tD g (k*4+3))) zv,HO.out.cellAt (k*4+3) (by omega)];exact a3
    have c5:=cb.out k bf;have b9:=sU (L.take k);have cp:(L.take k).length<=2001:=by rw[qN];omega
    have HN:Hid (dU (L.take (k+1))=fU (dU (L.take k)) L[k]):=by
     show _=_;rw[<-List.take_append_getElem bf,Iy]
    have dq:O.heap.size<wr.heap.size:=HS.out.lt.2;generalize dU (L.take k)=M at*;obtain⟨mp,mR,mX,mS⟩:=M;simp only at HS HN b9;have dj:mR.length<=2001:=by omega
    have dp:mX.length<=2001:=by omega
    have dk:mS.length<=2001:=by omega
    generalize hx:L[k]=x at*;clear hx;obtain⟨f,p,v,b⟩:=x;simp only at d0 d1 d2 d3 c5 HN;clear a0 a1 a2 a3 b4 b9 cp bf;have T:Hid (Mq O O.heap.size mp J Q I mR mX mS (wr.alloc (.cells #[tS f,tS p,tS v,tS b] 265))):=Mk.below HS.out ((ae _ _).alloc (ah _) _);obtain⟨⟨e0,e1,e2,e3⟩,f0,f1,f2,f3⟩:=T.out.cells;obtain⟨ad,ak,rfl⟩:=aC HS.out.r;obtain⟨av,az,rfl⟩:=aC HS.out.x;obtain⟨an,aq,rfl⟩:=aC HS.out.s;have a8:(wr.alloc (.cells #[tS f,tS p,tS v,tS b] 265)).heap.size=wr.heap.size+1:=by simp
    rcases c5 with rfl|rfl|rfl|rfl
    ·have b0:Hid (Mq O O.heap.size (dU (L.take (k+1))).p (.slice ad mR.length ak) (.slice av mX.length az) (.slice an mS.length aq) (dU (L.take (k+1))).R (dU (L.take (k+1))).X (dU (L.take (k+1))).S ((wr.setCell (tD O.heap.size 0) (tS p)).alloc (.cells #[tS mV,tS p,tS v,tS b] 265))):=by
      show Mq _ _ _ _ _ _ _ _ _ _;rw[HN.out];exact Mk.below (Mq.path HS.out p) ((ae _ _).alloc (ah _) _)
     clear HS T HN;go_wp2;go_roundg (E.length-(k+1))
     case measure=>omega
     case rel=>exact⟨k+1,_,_,_,by omega,by omega,by go_num,b0⟩
    ·have ab:∀j u,[Value.string p,tS v][j]?=some u->((wr.alloc (.cells #[tS oN,tS p,tS v,tS b] 265)).alloc (.cells #[tS p,tS v] 70)).cell? (((tD (wr.heap.size+1) 0):Addr).add j)=some u:=fun j u hj=>by
      have h:=cell_two_new (wr.alloc (.cells #[tS oN,tS p,tS v,tS b] 265)) 70 (tS p) (tS v) j u hj;rw[a8] at h;exact h
     go_wp2_with (at_builtin;refine dG _ rfl _ _ 33 rfl (O.heap.size+1) 70 i2 (.agg #[zE,zE]) 2 32 underlying33 HJ.out.1 HJ.out.2.1 HJ.out.2.2.1 HJ.out.2.2.2 rfl (by decide) (.slice ad mR.length ak) mR.length (mcs mR) rfl (T.out.r.alloc _) (tD (wr.heap.size+1) 0) 1 1 [tS p,tS v] rfl rfl ab ?_ ?_ ?_ ?_ ?_)
     all_goals first
      |(show ∀u∈[Value.string p,Value.string v],u.oneCell'=true;intro u hu;simp at hu;rcases hu with rfl|rfl<;>rfl)
      |(show mR.length+1<=maxLen;unfold maxLen;omega)
      |(show(mR.length+1)*32<=140737488355328;omega)
      |(show O.heap.size+1<=((wr.alloc _).alloc _).heap.size;simp;omega)
      |(show O.heap.size+1<=wr.heap.size+1+1;omega)
      |skip
     intro c6 w3 F U _ a4;obtain⟨g',c',rfl⟩:=dT F (by omega);have a5:ai (fun b=>(Value.slice ad mR.length ak).ownBlock=some b) (wr.alloc (.cells #[tS oN,tS p,tS v,tS b] 265)) w3:=((ai.refl _ _).alloc _).grown U (fun b _ e=>e)
     have a9:∀b',(Value.slice (some (tD g' 0)) (mR.length+1) c').ownBlock=some b'->(Value.slice ad mR.length ak).ownBlock=some b'\/(wr.alloc (.cells #[tS oN,tS p,tS v,tS b] 265)).heap.size<=b':=fun b' e=>by
      rcases a4 with e2|e2
      ·exact oE (by rw[<-e2];exact e)
      ·right
       rw[e2] at e;have:wr.heap.size+1+1=b':=by simpa using e
       rw[a8];omega
     have a6:=(T.out.box.of_block (a5.block O.heap.size (by rw[a8];omega) (fun e=>nC T.out.r e)));have bd:w3.cell? (tD O.heap.size 1)=some (.slice ad mR.length ak):=a6.at' 1 (by omega);have c0:w3.frozen? (tD O.heap.size 1)=false:=a6.fr 1 (by omega)
     have b0:Hid (Mq O O.heap.size (dU (L.take (k+1))).p (.slice (some (tD g' 0)) (mR.length+1) c') (.slice av mX.length az) (.slice an mS.length aq) (dU (L.take (k+1))).R (dU (L.take (k+1))).X (dU (L.take (k+1))).S (w3.setCell (tD O.heap.size 1) (.slice (some (tD g' 0)) (mR.length+1) c'))):=by
      show Mq _ _ _ _ _ _ _ _ _ _;rw[HN.out];exact Mq.req (R':=mR++[(p,v)]) T.out (by rw[aU];simpa[mcs,Sm.mc] using F) a5 a9
     clear HS T HN F U a4 a5 a9 a6 ab e0 e1 e2 e3 f0 f1 f2 f3;go_wp2;go_roundg (E.length-(k+1))
     case measure=>omega
     case rel=>exact⟨k+1,_,_,_,by omega,by omega,by go_num,b0⟩
    ·have ab:∀j u,[Value.string p,tS v][j]?=some u->((wr.alloc (.cells #[tS C0,tS p,tS v,tS b] 265)).alloc (.cells #[tS p,tS v] 70)).cell? (((tD (wr.heap.size+1) 0):Addr).add j)=some u:=fun j u hj=>by
      have h:=cell_two_new (wr.alloc (.cells #[tS C0,tS p,tS v,tS b] 265)) 70 (tS p) (tS v) j u hj;rw[a8] at h;exact h
     go_wp2_with (at_builtin;refine dG _ rfl _ _ 33 rfl (O.heap.size+1) 70 i2 (.agg #[zE,zE]) 2 32 underlying33 HJ.out.1 HJ.out.2.1 HJ.out.2.2.1 HJ.out.2.2.2 rfl (by decide) (.slice av mX.length az) mX.length (mcs mX) rfl (T.out.x.alloc _) (tD (wr.heap.size+1) 0) 1 1 [tS p,tS v] rfl rfl ab ?_ ?_ ?_ ?_ ?_)
     all_goals first
      |(show ∀u∈[Value.string p,Value.string v],u.oneCell'=true;intro u hu;simp at hu;rcases hu with rfl|rfl<;>rfl)
      |(show mX.length+1<=maxLen;unfold maxLen;omega)
      |(show(mX.length+1)*32<=140737488355328;omega)
      |(show O.heap.size+1<=((wr.alloc _).alloc _).heap.size;simp;omega)
      |(show O.heap.size+1<=wr.heap.size+1+1;omega)
      |skip
     intro c6 w3 F U _ a4;obtain⟨g',c',rfl⟩:=dT F (by omega);have a5:ai (fun b=>(Value.slice av mX.length az).ownBlock=some b) (wr.alloc (.cells #[tS C0,tS p,tS v,tS b] 265)) w3:=((ai.refl _ _).alloc _).grown U (fun b _ e=>e)
     have a9:∀b',(Value.slice (some (tD g' 0)) (mX.length+1) c').ownBlock=some b'->(Value.slice av mX.length az).ownBlock=some b'\/(wr.alloc (.cells #[tS C0,tS p,tS v,tS b] 265)).heap.size<=b':=fun b' e=>by
      rcases a4 with e2|e2
      ·exact oE (by rw[<-e2];exact e)
      ·right
       rw[e2] at e;have:wr.heap.size+1+1=b':=by simpa using e
       rw[a8];omega
     have a6:=(T.out.box.of_block (a5.block O.heap.size (by rw[a8];omega) (fun e=>nC T.out.x e)));have bd:w3.cell? (tD O.heap.size 2)=some (.slice av mX.length az):=a6.at' 2 (by omega);have c0:w3.frozen? (tD O.heap.size 2)=false:=a6.fr 2 (by omega)
     have b0:Hid (Mq O O.heap.size (dU (L.take (k+1))).p (.slice ad mR.length ak) (.slice (some (tD g' 0)) (mX.length+1) c') (.slice an mS.length aq) (dU (L.take (k+1))).R (dU (L.take (k+1))).X (dU (L.take (k+1))).S (w3.setCell (tD O.heap.size 2) (.slice (some (tD g' 0)) (mX.length+1) c'))):=by
      show Mq _ _ _ _ _ _ _ _ _ _;rw[HN.out];exact Mq.exc (X':=mX++[(p,v)]) T.out (by rw[aU];simpa[mcs,Sm.mc] using F) a5 a9
     clear HS T HN F U a4 a5 a9 a6 ab e0 e1 e2 e3 f0 f1 f2 f3;go_wp2;go_roundg (E.length-(k+1))
     case measure=>omega
     case rel=>exact⟨k+1,_,_,_,by omega,by omega,by go_num,b0⟩
    ·have ab:∀j u,[Value.string p,tS v,tS b][j]?=some u->((wr.alloc (.cells #[tS C2,tS p,tS v,tS b] 265)).alloc (.cells #[tS p,tS v,tS b] 267)).cell? (((tD (wr.heap.size+1) 0):Addr).add j)=some u:=fun j u hj=>by
      have h:=fF (wr.alloc (.cells #[tS C2,tS p,tS v,tS b] 265)) (tS p) (tS v) (tS b) 267 j u hj;rw[a8] at h;exact h
     go_wp2_with (at_builtin;refine dG _ rfl _ _ 212 rfl (O.heap.size+1) 267 i3 (.agg #[zE,zE,zE]) 3 48 underlying212 bb.out.1 bb.out.2.1 bb.out.2.2.1 bb.out.2.2.2 rfl (by decide) (.slice an mS.length aq) mS.length (scs mS) rfl (T.out.s.alloc _) (tD (wr.heap.size+1) 0) 1 1 [tS p,tS v,tS b] rfl rfl ab ?_ ?_ ?_ ?_ ?_)
     all_goals first
      |(show ∀u∈[Value.string p,Value.string v,Value.string b],u.oneCell'=true;intro u hu;simp at hu;rcases hu with rfl|rfl|rfl<;>rfl)
      |(show mS.length+1<=maxLen;unfold maxLen;omega)
      |(show(mS.length+1)*48<=140737488355328;omega)
      |(show O.heap.size+1<=((wr.alloc _).alloc _).heap.size;simp;omega)
      |(show O.heap.size+1<=wr.heap.size+1+1;omega)
      |skip
     intro c6 w3 F U _ a4;obtain⟨g',c',rfl⟩:=dT F (by omega);have a5:ai (fun b=>(Value.slice an mS.length aq).ownBlock=some b) (wr.alloc (.cells #[tS C2,tS p,tS v,tS b] 265)) w3:=((ai.refl _ _).alloc _).grown U (fun b _ e=>e)
     have a9:∀b',(Value.slice (some (tD g' 0)) (mS.length+1) c').ownBlock=some b'->(Value.slice an mS.length aq).ownBlock=some b'\/(wr.alloc (.cells #[tS C2,tS p,tS v,tS b] 265)).heap.size<=b':=fun b' e=>by
      rcases a4 with e2|e2
      ·exact oE (by rw[<-e2];exact e)
      ·right
       rw[e2] at e;have:wr.heap.size+1+1=b':=by simpa using e
       rw[a8];omega
     have a6:=(T.out.box.of_block (a5.block O.heap.size (by rw[a8];omega) (fun e=>nC T.out.s e)));have bd:w3.cell? (tD O.heap.size 3)=some (.slice an mS.length aq):=a6.at' 3 (by omega);have c0:w3.frozen? (tD O.heap.size 3)=false:=a6.fr 3 (by omega)
     have b0:Hid (Mq O O.heap.size (dU (L.take (k+1))).p (.slice ad mR.length ak) (.slice av mX.length az) (.slice (some (tD g' 0)) (mS.length+1) c') (dU (L.take (k+1))).R (dU (L.take (k+1))).X (dU (L.take (k+1))).S (w3.setCell (tD O.heap.size 3) (.slice (some (tD g' 0)) (mS.length+1) c'))):=by
      show Mq _ _ _ _ _ _ _ _ _ _;rw[HN.out];exact Mq.rep (S':=mS++[(p,v,b)]) T.out (by rw[aU];simpa[scs,Sw.mc] using F) a5 a9
     clear HS T HN F U a4 a5 a9 a6 ab e0 e1 e2 e3 f0 f1 f2 f3;go_wp2;go_roundg (E.length-(k+1))
     case measure=>omega
     case rel=>exact⟨k+1,_,_,_,by omega,by omega,by go_num,b0⟩
   ·have gO:¬((k:Int)<(E.length:Int)):=by omega
    have cm:L.take k=L:=oy (by omega);rw[cm] at HS;have b9:=sU L
    have bk:Hid (zB w wr/\wr.heap[w.heap.size]?=some (.cells zM 214)/\w.heap.size+2<=wr.heap.size):=by
     have hb:=b3.out;have h2:=HS.out.b;exact⟨hb.1.trans (h2.mono hb.1.size),by rw[h2.block w.heap.size (by omega)];exact hb.2.1,by have:=h2.size;omega⟩
    obtain⟨M,bn⟩:∃M,dU L=M:=⟨_,rfl⟩;rw[bn] at HS b9;obtain⟨mp,mR,mX,mS⟩:=M;have bc:Hid (dU (E.map fun g=>dW g.2)=⟨mp,mR,mX,mS⟩):=by show _=_;rw[cc.out];exact bn
    simp only at HS b9;clear bn;have ko:=zu mp J Q I mR mX mS wr (HM.out.below bk.out.1) (by omega) (by omega) (by omega) (pV HS.out.r) (pV HS.out.x) (Iz HS.out.s);obtain⟨⟨e0,e1,e2,e3⟩,f0,f1,f2,f3⟩:=HS.out.cells;obtain⟨ad,ak,rfl⟩:=aC HS.out.r;obtain⟨av,az,rfl⟩:=aC HS.out.x;obtain⟨an,aq,rfl⟩:=aC HS.out.s;clear HS b3
    go_wp2_with (go_at_call 189;fail)
    go_at_call 189;refine ko.mono ?_;rintro e w4 ⟨fa,fd,fb,rfl,o1,o2,o3,bp,c2⟩;obtain⟨_,_,_,bd⟩:=jV o1;obtain⟨_,_,_,cd⟩:=jV o2;obtain⟨_,_,_,cf⟩:=jV o3;subst bd cd cf
    have bi:Hid (zB w w4/\w4.heap[w.heap.size]?=some (.cells zM 214)):=by
     have hb:=bk.out;exact⟨hb.1.trans (bp.mono hb.1.size),by rw[bp.block w.heap.size (by omega)];exact hb.2.1⟩
    have HW:Hid (∀a b c d,((((w4.setCell (tD w.heap.size 0) a).setCell (tD w.heap.size 1) b).setCell (tD w.heap.size 2) c).setCell (tD w.heap.size 3) d).heap[w.heap.size]?=some (.cells #[a,b,c,d] 214)):=fun a b c d=>Fo bi.out.2 a b c d
    obtain⟨⟨g0,g1,g2,g3⟩,k0,k1,k2,k3⟩:=Dr.cells4 bi.out.2;have bt:w.heap.size<wr.heap.size:=by have:=bk.out.2.2;omega
    have bv:=And.intro o1 (And.intro o2 o3);have bm:Hid _:=bv;have c8:Hid _:=c2;clear ko bp o1 o2 o3 bv c2 e0 e1 e2 e3 f0 f1 f2 f3;go_wp2;refine aI (results_cell_tmp results166 _ _ w.heap.size 214 _ (0,0) _ _ rfl rfl (HW.out _ _ _ _) underlying214 rfl (by kernel_rfl)) rfl ?_;exact⟨E,au,m,q,_,_,_,_,_,rfl,HD.out.1,HD.out.2.1,HD.out.2.2.1,HD.out.2.2.2,rF bi.out.1 (ah _) _ _ _ _,oS ⟨c9.out,rfl,by rw[bc.out],by rw[bc.out];exact gI (B:=wr.heap.size) (pn (B:=wr.heap.size) bm.out.1 bt _ _ _ _) (by omega),by rw[bc.out];exact gI (B:=wr.heap.size) (pn (B:=wr.heap.size) bm.out.2.1 bt _ _ _ _) (by omega),by rw[bc.out];exact gI (B:=wr.heap.size) (pn (B:=wr.heap.size) bm.out.2.2 bt _ _ _ _) (by omega),c8.out⟩⟩
end Mf
namespace Mf
variable{w w':zW}
def dV(s:zA):Tx.Got:=(Tx.dx [] 1 [] false false 0 s.data.toList).foldl (Tx.bM false Pv.aG 20) oJ
def bO(s:zA):List (Nat×Nat×Nat):=if s.size<=2000 then jN (dV s).spoken (dV s).au else [(0,0,1)]
def bK(s:zA):Mx:=if bO s=[] then dU ((dV s).good.map fun x=>dW (jK x).2) else ⟨⟨#[]⟩,[],[],[]⟩
structure Dn(base:Nat)(s:zA)(W:World)(p:zA)(J Q I lv:zV):Prop where
 pe:p=(bK s).p
 re:W.ownsRow base 70 2 J (bK s).R.length (mcs (reqs (bK s).R))
 xe:W.ownsRow base 70 2 Q (bK s).X.length (mcs (sR (bK s).X))
 se:W.ownsRow base 267 3 I (bK s).S.length (scs (sS (bK s).S))
 le:W.ownsRow base 291 3 lv (bO s).length (dK (bO s))
 ne:(bK s).R.length<=2001/\(bK s).X.length<=2001/\(bK s).S.length<=2001/\(bO s).length<=2001
theorem KV{m:Nat}{sl:List (Nat×Nat×Nat)}(h:sl.length<=2001):(jN m sl).length<=2001:=by
 unfold jN
 split
 ·simp
 ·exact h
theorem xV{s:zA}{base:Nat}{W:zW}{F:zV}(E:bO s≠[])(M:(bO s).length<=2001)(O:W.ownsRow base 291 3 F (bO s).length (dK (bO s))):Dn base s W ⟨#[]⟩ (zN) (zN) (zN) F:=by
 have e:bK s=⟨⟨#[]⟩,[],[],[]⟩:=ag E;refine⟨by rw[e],?_,?_,?_,O,?_⟩
 ·rw[e];exact eC _ _ _ _
 ·rw[e];exact eC _ _ _ _
 ·rw[e];exact eC _ _ _ _
 ·rw[e];exact⟨by simp,by simp,by simp,M⟩
theorem Ak:Apart (zN) (zN) (zN):=fun b=>⟨fun e=>(by cases e),fun e=>(by cases e)⟩
theorem IA{s:zA}(hs:s.size<=2000){E:List OLn}{O:List (Nat×Nat×Nat)}{m q base:Nat}{W:zW}{p:zA}{J Q I:zV}(T:dV s=⟨eN E,O,m,q⟩)(hg:E.length<=2001)(hf:jN m O=[])(hp:p=(dU (E.map fun g=>dW g.2)).p)
  (U:W.ownsRow base 70 2 J (dU (E.map fun g=>dW g.2)).R.length (mcs (reqs (dU (E.map fun g=>dW g.2)).R))) (M:W.ownsRow base 70 2 Q (dU (E.map fun g=>dW g.2)).X.length (mcs (sR (dU (E.map fun g=>dW g.2)).X))) (h3:W.ownsRow base 267 3 I (dU (E.map fun g=>dW g.2)).S.length (scs (sS (dU (E.map fun g=>dW g.2)).S))):
  Dn base s W p J Q I (zN):=by
 have F:bO s=[]:=by
  unfold bO;rw[aj hs,T];exact hf
 have e:bK s=dU (E.map fun g=>dW g.2):=by
  unfold bK;rw[aj F,T];show dU ((eN E).map fun x=>dW (jK x).2)=_
  congr 1
  have h:=xT E;have M:(eN E).map (fun x=>dW (jK x).2)=((eN E).map jK).map (fun g=>dW g.2):=by rw[mN];rfl
  rw[M,h]
 have hl:=sU (E.map fun g=>dW g.2);rw[bJ] at hl;refine⟨by rw[e];exact hp,by rw[e];exact U,by rw[e];exact M,by rw[e];exact h3,?_,?_⟩
 ·rw[F];exact eC _ _ _ _
 ·rw[e,F];exact⟨by omega,by omega,by omega,by simp⟩
theorem rG(s:zA)(w:zW)(hs:2000<s.size):
  zC 166 #[tS s] w fun e w'=>∃O,e=.returned (.tuple #[.agg #[zE,zN,zN,zN],O])/\w'.ownsRow w.heap.size 291 3 O 1 (dK [(0,0,1)])/\zB w w':=by
 have a0:∀(W:zW)(a:Addr),(store a (.func (.func 187) #[] #[])).run prog W=stored prog W a (.func (.func 187) #[] #[]) .plain:=fun W a=>run_store prog W a _ _ rfl
 have E:Hid (zB w ((w.alloc (.cells zM 214)).alloc (.cells #[.func (.func 187) #[] #[],tS mV,zI 0,zI 0,.map none,zN] 261))/\((w.alloc (.cells zM 214)).alloc (.cells #[.func (.func 187) #[] #[],tS mV,zI 0,zI 0,.map none,zN] 261)).heap[w.heap.size]?=some (.cells zM 214)/\((w.alloc (.cells zM 214)).alloc (.cells #[.func (.func 187) #[] #[],tS mV,zI 0,zI 0,.map none,zN] 261)).heap.size=w.heap.size+2):=⟨((ae _ _).alloc (ah _) _).alloc (by simp) _,heap_alloc2_old _ _ _,by simp⟩;have kr:=fun W=>Ah s (w.heap.size+1) W hs
 go_enter func166,ntmps166
 go_wp2_with (go_at_call 188;fail)
 generalize (w.alloc (.cells zM 214)).alloc (.cells #[.func (.func 187) #[] #[],tS mV,zI 0,zI 0,.map none,zN] 261)=W1 at*;go_at_call 188;refine(kr _).mono ?_;rintro e T ⟨O,rfl,F,U⟩;clear kr a0;have M:Hid (zB w T/\T.heap[w.heap.size]?=some (.cells zM 214)):=⟨E.out.1.trans (U.mono E.out.1.size),by rw[U.block w.heap.size (by rw[E.out.2.2];omega)];exact E.out.2.1⟩;have HO:Hid (T.ownsRow (w.heap.size+2) 291 3 O 1 (dK [(0,0,1)])):=by show World.ownsRow _ _ _ _ _ _ _;rw[<-E.out.2.2];exact F
 obtain⟨la,lc,rfl⟩:=aC F;have HW:Hid (∀a b c d,((((T.setCell (tD w.heap.size 0) a).setCell (tD w.heap.size 1) b).setCell (tD w.heap.size 2) c).setCell (tD w.heap.size 3) d).heap[w.heap.size]?=some (.cells #[a,b,c,d] 214)):=fun a b c d=>Fo M.out.2 a b c d
 obtain⟨⟨g0,g1,g2,g3⟩,f0,f1,f2,f3⟩:=Dr.cells4 M.out.2;clear F U E;go_wp2;refine aI (results_cell_tmp results166 _ _ w.heap.size 214 _ (0,0) _ _ rfl rfl (HW.out _ _ _ _) underlying214 rfl (by kernel_rfl)) rfl ?_;exact⟨_,rfl,gI (B:=w.heap.size+2) (pn (r:=w.heap.size) (B:=w.heap.size+2) HO.out (by omega) _ _ _ _) (by omega),rF M.out.1 (ah _) _ _ _ _⟩
theorem sW(s:zA)(w:zW)(hm:Ml w)(M:(dV s).good.length<=19):
  zC 166 #[tS s] w fun e w'=>∃p J Q I O,e=.returned (.tuple #[.agg #[tS p,J,Q,I],O])/\Dn w.heap.size s w' p J Q I O/\zB w w'/\(Apart J Q I/\∀b,O.ownBlock=some b->J.ownBlock≠some b/\Q.ownBlock≠some b/\I.ownBlock≠some b):=by
 by_cases hs:s.size<=2000
 ·refine(sV s w hs hm (fun E T m q e=>by
   rw[<-Tx.mP] at e;have e:dV s=⟨eN E,T,m,q⟩:=e;rw[e] at M;have M:(eN E).length<=19:=M;have:(eN E).length=E.length:=bJ _;omega)).mono ?_
  rintro e w' ⟨E,T,m,q,p,J,Q,I,O,rfl,hR,hg,a1,a3,U,hx⟩;rw[<-Tx.mP] at hR;rcases hx with⟨a2,⟨rfl,rfl,rfl,rfl⟩,ho⟩|⟨hf,rfl,hp,h1,h2,h3,a0⟩
  ·have F:bO s=jN m T:=by
    unfold bO;rw[aj hs];have:dV s=⟨eN E,T,m,q⟩:=hR;rw[this]
   refine⟨_,_,_,_,_,rfl,?_,U,Ak,fun b _=>⟨fun e=>by (cases e),fun e=>by (cases e),fun e=>by (cases e)⟩⟩;refine xV (by rw[F];exact a2) (by rw[F];exact KV a3) (by rw[F];exact ho)
  ·exact⟨_,_,_,_,_,rfl,IA hs hR a1 hf hp h1 h2 h3,U,a0,fun b e=>by cases e⟩
 ·refine(rG s w (by omega)).mono ?_
  rintro e w' ⟨O,rfl,ho,U⟩;have F:bO s=[(0,0,1)]:=ag hs;exact⟨_,_,_,_,_,rfl,xV (by rw[F];simp) (by rw[F];simp) (by rw[F];exact ho),U,Ak,fun b _=>⟨fun e=>by (cases e),fun e=>by (cases e),fun e=>by (cases e)⟩⟩
theorem Dn.below{base:Nat}{s:zA}{p:zA}{J Q I F:zV}(h:Dn base s w p J Q I F)(E:zB w w'):Dn base s w' p J Q I F:=
 ⟨h.pe,own_below h.re E,own_below h.xe E,own_below h.se E,own_below h.le E,h.ne⟩
