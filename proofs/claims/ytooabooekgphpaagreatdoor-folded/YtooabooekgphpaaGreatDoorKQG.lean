import Derived.Test.YtooabooekgphpaaGreatDoorKQF
import Derived.Test.YtooabooekgphpaaGreatDoorKXA
import Derived.Test.YtooabooekgphpaaGreatDoorKCB
set_option linter.all false
open Go.Proofs.Tryz
set_option maxRecDepth 100000
set_option maxHeartbeats 4000000
namespace Go.Proofs.YtooabooekgphpaaGreatDoor
open Go.RowKit
namespace Mf
variable{w w':zW}
theorem oz(s:zA)(F:Nat)(w:zW)(hs:s.size<=2000)(hm:Ml w)(h0:F≠0)(hv:gu w F 6 rdF):
  zC 177 #[zP F,.string s] w fun e w'=>∃(D:List OLn)(O:List (Nat×Nat×Nat))(m q:Nat)(J lv:zV),e=.returned (.tuple #[J,lv])/\(Tx.spoken 1 (Pv.spl 10 s.data.toList)).foldl (Tx.bz false Pv.aH 20) nZ=⟨fj D,O,m,q⟩/\(∀g∈D,∃ks,Ok g.2 ks)/\D.length<=2001/\O.length<=2001/\Fr (fun b=>b=F) w w'/\
   ((jK m O≠[]/\J=zN/\w'.ownsRow w.heap.size 282 3 lv (jK m O).length (dI (jK m O)))\/(jK m O=[]/\lv=zN/\w'.ownsRow w.heap.size 255 4 J D.length (bP (D.map fun g=>dU g.2)))):=by
 have g3:((s.size:Int)<=2000):=by omega
 obtain⟨i9,cc,cd,cf,cg⟩:=JL;have HI:Hid (prog.info? 282=some i9/\i9.zero=some (.agg #[zI 0,zI 0,zI 0])/\i9.size=3/\i9.bytes=24):=⟨cc,cd,cf,cg⟩;clear cc cd cf cg;obtain⟨l,hl,hz,ks⟩:=uO s (by omega)
 have g1:l.length<=2001:=by
  have h1:=cV List.length hl;have h2:=Dr.spl_len_count 10 s.data.toList;rw[cW] at h1;rw[<-bO] at h2;omega
 have b6:F<w.heap.size:=aY w ⟨F,0,none⟩ (hv.at' 0 (by omega));have c3:Hid (∀o,Rs (((w.setCell ⟨F,4,none⟩ (.map (some w.heap.size))).alloc (.map #[] 0)).alloc o) F w.heap.size (zN) (zN) [] [] 0 0 (((w.setCell ⟨F,4,none⟩ (.map (some w.heap.size))).alloc (.map #[] 0)).alloc o)):=fun o=>xr hv b6 o
 have c4:(w.alloc (.map #[] 0)).cell? ⟨F,4,none⟩=some (.map none):=by rw[World.cell?_alloc_lt _ _ _ b6];exact hv.at' 4 (by omega)
 have f4:(w.alloc (.map #[] 0)).frozen? ⟨F,4,none⟩=false:=by
  rw[gh (w:=w) (a:=⟨F,4,none⟩) (aG _ _ _ b6)];exact hv.fr 4 (by omega)
 have dn:=run_makeMap (P:=prog) 248 w
 have EW:Ml ((w.setCell ⟨F,4,none⟩ (.map (some w.heap.size))).alloc (.map #[] 0)):=by
  obtain⟨m,e⟩:=hm;refine⟨m,?_⟩;have a8:=aY w _ e;rw[World.cell?_alloc_lt _ _ _ (by simp[World.setCell];exact a8),bX _ _ _ _ (fun e=>h0 (by injection e))];exact e
 have ks:=ks _ EW;have HR:Hid (Left ((Tx.spoken 1 (Pv.spl 10 s.data.toList)).foldl (Tx.bz false Pv.aH 20) nZ) l 0 [] [] 0 0):=⟨by rw[List.drop_zero,hl];rfl,fun g hg=>(by cases hg),af _,af _,af _,af _⟩;generalize (Tx.spoken 1 (Pv.spl 10 s.data.toList)).foldl (Tx.bz false Pv.aH 20) nZ=R at*;have c1:Hid (Ml ((w.setCell ⟨F,4,none⟩ (.map (some w.heap.size))).alloc (.map #[] 0))):=EW;have HZ:Hid (∀x∈l,x.size<=2000):=fun x hx=>by have:=hz x hx;omega
 have b3:Hid (F<w.heap.size/\F≠0):=⟨b6,h0⟩;clear hv EW hm hl hz;go_enter func177,ntmps177;go_wp2
 go_step3
 go_wp2_with fail
 go_step3
 go_wp2_with (go_at_call 86;fail)
 go_at_call 86;refine ks.mono ?_;rintro e w1 ⟨rfl,ak⟩
 have c2:Hid (Rs w1 F w.heap.size (zN) (zN) [] [] 0 0 w1):=by
  show Rs w1 F w.heap.size _ _ [] [] 0 0 w1;rw[ak];exact c3.out _
 have Be:((w.setCell ⟨F,4,none⟩ (.map (some w.heap.size))).alloc (.map #[] 0)).heap.size=w.heap.size+1:=by rw[kQ];simp[World.setCell]
 have b8:Hid (Ml w1):=by
  show Ml w1;rw[ak];exact c1.out.below ((ae _ _).alloc (af _) _)
 have ct:Hid (∀k (hk:k<l.length),w1.cell? ⟨w.heap.size+1,k,none⟩=some (.string l[k])):=fun k hk=>by
  rw[ak];have h:=xq ((w.setCell ⟨F,4,none⟩ (.map (some w.heap.size))).alloc (.map #[] 0)) (.cells (l.map Value.string).toArray 9);rw[Be] at h;unfold World.cell?;simp only[h];simp[hk]
 have bx:Hid (Fr (fun b=>b=F) w w1):=by
  show Fr _ w w1;rw[ak];exact((Fr.qC (X:=fun b=>b=F) w F 4 _ rfl).trans (Fr.of_below ((ae _ _).alloc (af _) _))).trans (Fr.of_below ((ae _ _).alloc (af _) _))
 have c5:Hid (w.heap.size+1<w1.heap.size/\F≠w.heap.size+1):=⟨by rw[ak,kQ,Be];omega,by have:=b3.out.1;omega⟩;rw[Be];clear ks c3 c1 ak Be c4 f4 dn;have bh:Hid (w.heap.size≠0/\w.heap.size≠w.heap.size+1):=⟨by have:=b3.out.1;omega,by omega⟩;have bm:Hid (∀b,w1.heap.size<=b->w.heap.size<=b):=fun b hb=>by have:=c5.out.1;omega
 generalize w.heap.size+1=lb at*;go_wp2;go_loopg [6,24] l.length (fun gg lv kv wr=>∃(k:Nat)(D:List OLn)(O:List (Nat×Nat×Nat))(M U:Nat)(I a1:zV),a1=lv/\k<=l.length/\l.length-k<=gg/\kv=zI k/\M<=k/\Hid (Rs w1 F w.heap.size I lv (D.map fun g=>dU g.2) O M U wr)/\Hid (Left R l k D O M U))
 case atStart=>exact⟨0,[],[],0,0,_,_,rfl,by omega,by omega,rfl,by omega,c2,HR⟩
 case round=>
  clear c2 HR;obtain⟨k,D,O,M,U,I,a1,PE,hk,fu,rfl,R8,HS,HL⟩:=hrel;subst PE;by_cases a8:k<l.length
  ·have ij:(k:Int)<(l.length:Int):=by omega
   have dm:wr.cell? ⟨lb,k,none⟩=some (.string l[k]):=HS.out.old (ct.out k a8) ⟨fun e=>c5.out.2 e.symm,fun e=>bh.out.2 e.symm⟩;have cs:=xm l[k] wr (HS.out.ml b8.out ⟨b3.out.2,bh.out.1⟩) (by have:=HZ.out l[k] (dP a8);omega)
   go_wp2_with (go_at_call 195;fail)
   go_at_call 195;refine cs.mono ?_;rintro e w2 ⟨v,E,rfl,a6,a4,bp⟩;clear cs dm;have aq:Hid (Rs w1 F w.heap.size I a1 (D.map fun g=>dU g.2) O M U w2):=HS.out.below bp;have b9:Hid (aD E=Tx.words l[k].data.toList):=a6;have cv:Hid (F<wr.heap.size):=bE HS.out.rd.lt.1 HS.out.rd.lt.2.2.1;by_cases he:E=[]
   ·have an:Hid (Left R l (k+1) D O M U):=HL.out.blank a8 (by rw[<-a6,he];rfl)
    obtain⟨va,vc,rfl⟩:=ax a4;subst he;clear a4 bp a6 HL HS b9;go_wp2;go_roundg (l.length-(k+1))
    case measure=>omega
    case rel=>exact⟨k+1,D,O,M,U,I,a1,rfl,by omega,by omega,by go_num,by omega,aq,an⟩
   ·have hn:0<E.length:=gH.2 he
    obtain⟨g,vc,rfl⟩:=dQ a4 hn;have az:=Ga a4;have dk:=(a4.lt g rfl).1;have dp:¬((E.length:Int)=0):=by omega
    have du:((E.length:Int)==0)=false:=by rw[eI];omega
    have ca:w2.cell? ⟨F,2,none⟩=some (zI M):=aq.out.rd.rd.2.2.1;have b5:w2.frozen? ⟨F,2,none⟩=false:=aq.out.rd.f2;have cx:Hid (Rs w1 F w.heap.size I a1 (D.map fun g=>dU g.2) O (M+1) U (w2.setCell ⟨F,2,none⟩ (zI ((M:Int)+1)))):=aq.out.speak
    have bk:Hid (WAt (w2.setCell ⟨F,2,none⟩ (zI ((M:Int)+1))) g 0 E/\E.length<=vc):=by
     have dq:g≠F:=by have:=cv.out;omega
     have ck:(w2.setCell ⟨F,2,none⟩ (zI ((M:Int)+1))).heap[g]?=w2.heap[g]?:=aM _ _ _ _ dq;exact⟨⟨by simp[World.setCell];exact az.1.1,fun j hj=>⟨by rw[aZ (w:=w2) (a:=⟨g,0+j*2,none⟩) ck];exact(az.1.2 j hj).1,by rw[aZ (w:=w2) (a:=⟨g,0+j*2+1,none⟩) ck];exact(az.1.2 j hj).2⟩⟩,az.2⟩
    have e2:IntKind.i64.wrap ((M:Int)+1)=(M:Int)+1:=by simp[IntKind.wrap,IntKind.bits,IntKind.signed];omega
    have c7:Hid (∀x∈E,x.1<=4000/\x.2.size<=2000):=fun x hx=>by
     have h1:=CS a6 x hx;have h2:=HZ.out l[k] (dP a8);omega
    have b2:Hid (E≠[]):=he;clear a4 bp a6 az dk he aq HS
    go_wp2_with fail
    clear ca b5 e2 dp du;generalize w2.setCell ⟨F,2,none⟩ (zI ((M:Int)+1))=W3 at*
    have bd:Hid ((Tx.slip false Pv.aH (M==0) (nC D E) (U==20) (aD E)=none/\(∀k,2<=k->k<=9->dX E (M+1==1) (nC D E) (U==20) k=-1)/\(∃ks,Ok E ks)/\nC D E=false)\/
      (∃a k:Nat,Tx.slip false Pv.aH (M==0) (nC D E) (U==20) (aD E)=some (a,k)/\2<=k/\k<=9/\dX E (M+1==1) (nC D E) (U==20) k=(a:Int)/\∀j,2<=j->j<k->dX E (M+1==1) (nC D E) (U==20) j=-1)):=by
     have e:(M+1==1)=(M==0):=by rw[fW];simp
     rw[e];exact qF E b2.out (M==0) (nC D E) (U==20)
    generalize b0:dX E (M+1==1) (nC D E) (U==20)=AT at*;have bb:Hid (dX E (M+1==1) (nC D E) (U==20)=AT):=b0;clear b0;go_loopg [6,10] 8 (fun gg l6 kv wx=>∃j:Nat,a1=l6/\2<=j/\j<=10/\10-j<=gg/\kv=zI j/\Hid (∀i,2<=i->i<j->AT i=-1)/\zB W3 wx)
    case atStart=>exact⟨2,rfl,by omega,by omega,by omega,rfl,fun i h1 h2=>(by omega),ae _ _⟩
    case round=>
     obtain⟨j,h6,bq,R9,fm,rfl,aa,ad⟩:=hrel;subst h6;have a5:Hid (Rs w1 F w.heap.size I a1 (D.map fun g=>dU g.2) O (M+1) U wr):=cx.out.below ad;by_cases ch:j<=9
     ·have kk:=Ht F (M+1) U g vc w.heap.size w1.heap.size j I _ _ E wr (a5.out.ml b8.out ⟨b3.out.2,bh.out.1⟩) a5.out.rd (bk.out.1.below ad) b2.out bk.out.2 c7.out bq ch (by rw[Gd,bb.out];exact aa.out)
      rw[Gd,bb.out] at kk;have PF:(j:Int)<=9:=by omega
      by_cases hr:AT j=-1
      ·rw[hr] at kk
       have Kn:Hid (∀i,2<=i->i<j+1->AT i=-1):=fun i h1 h2=>by
        by_cases e:i=j
        ·rw[e];exact hr
        ·exact aa.out i h1 (by omega)
       clear hr a5
       go_wp2_with (go_at_call 196;fail)
       go_at_call 196;refine kk.mono ?_;rintro e w4 ⟨rfl,b1⟩;have dj:zB W3 w4:=ad.trans (b1.mono ad.size);clear kk b1;go_wp2;go_roundg (10-(j+1))
       case measure=>omega
       case rel=>exact⟨j+1,rfl,by omega,by omega,by omega,by go_num,Kn,dj⟩
      ·obtain⟨a,a0,c9⟩:∃a:Nat,Tx.slip false Pv.aH (M==0) (nC D E) (U==20) (aD E)=some (a,j)/\AT j=(a:Int):=by
        rcases bd.out with⟨_,h,_⟩|⟨a,q,h1,h2,h3,h4,h5⟩
        ·exact absurd (h j bq ch) hr
        ·have e:q=j:=by
          rcases Nat.lt_trichotomy q j with e|e|e
          ·have:=aa.out q h2 e;rw[h4] at this;omega
          ·exact e
          ·exact absurd (h5 j bq e) hr
         subst e;exact⟨a,h1,h4⟩
       rw[c9] at kk;have an:Hid (Left R l (k+1) D (O++[(k+1,a,j)]) (M+1) U):=HL.out.slip a8 b9.out b2.out a0;have fd:((a:Int)==-1)=false:=by rw[eI];omega
       have ff:¬((a:Int)=-1):=by omega
       have Sb:O.length<=2001:=by have:=HL.out.2.2.2.1;omega
       clear hr c9 a0
       go_wp2_with (go_at_call 196;fail)
       go_at_call 196;refine kk.mono ?_;rintro e w4 ⟨rfl,b1⟩;have b4:Hid (Rs w1 F w.heap.size I a1 (D.map fun g=>dU g.2) O (M+1) U w4):=a5.out.below b1;clear kk b1 a5 ad;have dc:=b4.out.rd.lt.2.2.1
       go_wp2_with (at_builtin;refine dG _ rfl _ _ 218 rfl w1.heap.size 282 i9 (.agg #[zI 0,zI 0,zI 0]) 3 24 underlying218 HI.out.1 HI.out.2.1 HI.out.2.2.1 HI.out.2.2.2 rfl (by decide) _ _ _ rfl (b4.out.os.alloc _) ⟨w4.heap.size,0,none⟩ 1 1 [zI (k+1),zI a,zI j] rfl rfl ?_ ?_ ?_ ?_ ?_ ?_)
       all_goals first
        |exact fz _ _ _ _ _
        |(show ∀u∈[Value.int .i64 ((k:Int)+1),Value.int .i64 a,Value.int .i64 j],u.oneCell'=true;intro u hu;simp at hu;rcases hu with rfl|rfl|rfl<;>rfl)
        |(show O.length+1<=maxLen;unfold maxLen;omega)
        |(show(O.length+1)*24<=140737488355328;omega)
        |(show w1.heap.size<=(w4.alloc _).heap.size;simp;omega)
        |skip
       intro b7 w5 a3 a2 _ a7
       have bi:Hid (Rs w1 F w.heap.size I b7 (D.map fun g=>dU g.2) (O++[(k+1,a,j)]) (M+1) U w5):=b4.out.slip _ (k+1,a,j) a3 a2 (by
        rcases a7 with e|e
        ·exact Or.inl e
        ·exact Or.inr (by rw[e];simp))
       clear a3 a2 a7 b4;go_wp2;go_roundg (l.length-(k+1))
       case measure=>omega
       case rel=>exact⟨k+1,D,O++[(k+1,a,j)],M+1,U,I,b7,rfl,by omega,by omega,by go_num,by omega,bi,an⟩
     ·have PF:¬((j:Int)<=9):=by omega
      have g0:j=10:=by omega
      obtain⟨a0,a9⟩:Tx.slip false Pv.aH (M==0) (nC D E) (U==20) (aD E)=none/\∃ks,Ok E ks:=by
       rcases bd.out with⟨h1,_,h3,_⟩|⟨a,q,_,h2,h3,h4,_⟩
       ·exact⟨h1,h3⟩
       ·have:=aa.out q h2 (by omega)
        rw[h4] at this;omega
      have an:Hid (Left R l (k+1) (D++[(k+1,E)]) O (M+1) (if (wd E 0).toList==[114,101,113,117,105,114,101] then U+1 else U)):=HL.out.kept a8 b9.out b2.out a9 a0;obtain⟨fb,a9⟩:=a9;have EX:=bk.out.1.below ad;have fv:=HL.out.2.2.1;have g2:=HL.out.2.2.2.2.2;have cn:0<E.length:=by have:=a9.len;omega
      have kt:=wI F (M+1) U g E.length vc (E.getD 0 pad).1 w.heap.size w1.heap.size (k+1) I (D.map fun g=>dU g.2) ((D.map fun g=>dU g.2).map wK) (wd E 0) (wd E 1) (wd E 2) (wd E 4) (kD E).1 (kD E).2.1 (kD E).2.2 _ fb wr cn (Gc c7.out) (by rw[cW];omega) (by rw[cW,cW];omega) (by omega) (by omega) a5.out.rd (PN EX cn) a9.sh rfl (fun W q hb hq=>rW a9 q g vc W hq (EX.below hb)) (fun W=>zJ (wd E 0) (wd E 1) (wd E 2) (wd E 4) W)
      have c6:Hid ((D.map fun g=>dU g.2)++[(wd E 0,wd E 1,wd E 2,wd E 4)]=(D++[(k+1,E)]).map fun g=>dU g.2):=by
       show _=_;rw[eZ];rfl
      have db:Hid ((D.map fun g=>dU g.2).map wK++[((kD E).1,(kD E).2.1,(kD E).2.2)]=((D++[(k+1,E)]).map fun g=>dU g.2).map wK):=by
       show _=_;rw[eZ,eZ];rfl
      rw[c6.out,db.out] at kt;generalize (if (wd E 0).toList==[114,101,113,117,105,114,101] then U+1 else U)=bt at*;clear a0 a9 EX bd bb
      go_wp2_with (go_at_call 197;fail)
      go_at_call 197;refine kt.mono ?_;rintro e w4 ⟨bu,rfl,br,cb,b0⟩
      have bi:Hid (Rs w1 F w.heap.size bu a1 ((D++[(k+1,E)]).map fun g=>dU g.2) O (M+1) bt w4):=by
       show Rs w1 F w.heap.size bu a1 _ O (M+1) bt w4;rw[<-c6.out] at br ⊢;exact a5.out.keep br cb b0
      clear br cb b0 kt a5;go_wp2;go_roundg (l.length-(k+1))
      case measure=>omega
      case rel=>exact⟨k+1,D++[(k+1,E)],O,M+1,bt,bu,a1,rfl,by omega,by omega,by go_num,by omega,bi,an⟩
  ·have cm:k=l.length:=by omega
   have ij:¬((k:Int)<(l.length:Int)):=by omega
   have ab:=HL.out
   have CV:(⟨fj D,O,M,U⟩:Tx.Got)=R:=by
    have h:=ab.1;rw[cm,List.drop_length] at h;exact h
   have fi:wr.cell? ⟨F,1,none⟩=some (.string mF):=HS.out.rd.rd.2.1;have ca:wr.cell? ⟨F,2,none⟩=some (zI M):=HS.out.rd.rd.2.2.1;have fk:wr.cell? ⟨F,5,none⟩=some I:=HS.out.rd.fs.1
   have c0:Hid (∀lv sl w',Rs w1 F w.heap.size I lv (D.map fun g=>dU g.2) sl M U w'->Fr (fun b=>b=F) w w'/\w'.ownsRow w.heap.size 282 3 lv sl.length (dI sl)):=fun lv sl w' hR=>by
    have h1:=bx.out;have h2:=hR.fr;refine⟨⟨h2.os.trans h1.os,h2.tape.trans h1.tape,h2.output.trans h1.output,aO h1.size h2.size,fun b hb hn=>?_⟩,hR.os.1,?_⟩
    ·rw[h2.block b (bE hb h1.size) (fun e=>by rcases e with e|e;exact hn e;omega)]
     exact h1.block b hb hn
    ·rcases hR.os.2 with hn|⟨g,cap,av,hv,hg,rest⟩
     ·exact .inl hn
     ·exact .inr ⟨g,cap,av,hv,bm.out g hg,rest⟩
   have HO:Hid (wr.ownsRow w.heap.size 282 3 a1 O.length (dI O)/\wr.ownsRow w.heap.size 255 4 I D.length (bP (D.map fun g=>dU g.2))):=by
    have h1:=HS.out.os;have h2:=HS.out.rd.own;rw[cW] at h2;refine⟨⟨h1.1,?_⟩,⟨h2.1,?_⟩⟩
    ·rcases h1.2 with hn|⟨g,cap,av,hv,hg,rest⟩
     ·exact .inl hn
     ·exact .inr ⟨g,cap,av,hv,bm.out g hg,rest⟩
    ·rcases h2.2 with hn|⟨g,cap,av,hv,hg,rest⟩
     ·exact .inl hn
     ·exact .inr ⟨g,cap,av,hv,bm.out g hg,rest⟩
   have T:Hid (R=⟨fj D,O,M,U⟩/\(∀g∈D,∃ks,Ok g.2 ks)/\D.length<=2001/\O.length<=2001):=⟨CV.symm,ab.2.1,by have:=ab.2.2.1;omega,by have:=ab.2.2.2.1;omega⟩;have cp:M=0->O=[]:=fun e=>qf (by have:=ab.2.2.2.1;omega)
   have g4:w.heap.size<=wr.heap.size:=aO bx.out.size HS.out.fr.size;clear CV ab HL cm;by_cases bs:M=0
   ·have a0:=cp bs
    subst a0;subst bs;clear cp;obtain⟨la,lc,rfl⟩:=ax HO.out.1;have dc:=HS.out.rd.lt.2.2.1
    go_wp2_with (at_builtin;refine dG _ rfl _ _ 218 rfl w1.heap.size 282 i9 (.agg #[zI 0,zI 0,zI 0]) 3 24 underlying218 HI.out.1 HI.out.2.1 HI.out.2.2.1 HI.out.2.2.2 rfl (by decide) _ _ _ rfl (HS.out.os.alloc _) ⟨wr.heap.size,0,none⟩ 1 1 [zI 0,zI 0,zI 2] rfl rfl ?_ ?_ ?_ ?_ ?_ ?_)
    all_goals first
     |exact fz _ _ _ _ _
     |(show ∀u∈[Value.int .i64 0,Value.int .i64 0,Value.int .i64 2],u.oneCell'=true;intro u hu;simp at hu;rcases hu with rfl|rfl|rfl<;>rfl)
     |exact⟨rfl,rfl⟩
     |(show w1.heap.size<=wr.heap.size+1;omega)
     |(show 0+1<=maxLen;unfold maxLen;omega)
     |(show(0+1)*24<=140737488355328;omega)
     |(show w1.heap.size<=(wr.alloc _).heap.size;simp;omega)
     |skip
    intro b7 w5 a3 a2 _ a7
    have c8:=HS.out.slip _ (0,0,2) a3 a2 (by
     rcases a7 with e|e
     ·exact Or.inl e
     ·exact Or.inr (by rw[e];simp))
    have bn:Hid (Fr (fun b=>b=F) w w5/\w5.ownsRow w.heap.size 282 3 b7 1 (dI [(0,0,2)])):=c0.out _ _ _ c8;obtain⟨ma,mc,rfl⟩:=ax bn.out.2;clear a3 a2 a7 c8 HS;go_wp2
    (try rw[fI])
    go_ret2;exact⟨D,[],0,U,_,_,rfl,T.out.1,T.out.2.1,T.out.2.2.1,T.out.2.2.2,bn.out.1,Or.inl ⟨by decide,rfl,bn.out.2⟩⟩
   ·have Ta:((M:Int)==0)=false:=by rw[eI];omega
    have b5:jK M O=O:=ag bs;have bc:Hid (jK M O=O):=b5;clear b5;have bv:Hid (Fr (fun b=>b=F) w wr):=(c0.out _ _ _ HS.out).1;clear HS;obtain⟨la,lc,rfl⟩:=ax HO.out.1;by_cases a0:O=[]
    ·subst a0
     have fa:¬((([]:List (Nat×Nat×Nat)).length:Int)>0):=by simp
     go_wp2
     (try rw[fI])
     go_ret2;exact⟨D,[],M,U,_,_,rfl,T.out.1,T.out.2.1,T.out.2.2.1,T.out.2.2.2,bv.out,Or.inr ⟨bc.out,rfl,HO.out.2⟩⟩
    ·have fa:(0:Int)<(O.length:Int):=by have:=gH.2 a0;omega
     have da:Hid (O≠[]):=a0;clear a0;go_wp2
     (try rw[fI])
     go_ret2;exact⟨D,O,M,U,_,_,rfl,T.out.1,T.out.2.1,T.out.2.2.1,T.out.2.2.2,bv.out,Or.inl ⟨by rw[bc.out];exact da.out,rfl,by rw[bc.out];exact HO.out.1⟩⟩
end Mf
namespace Mf
variable{w w' Y W W':zW}{G:Nat}{V:Nat->zV}{n:Nat->Nat}{L:Nat->List zV}
theorem results_cell_tmp{P:Program}{fn:Func}{p q:Tmp}{ty:TypeId}(h:fn.results=#[.cell p ty,.tmp q])(D:Array zV)(w:zW)(g:Nat)(t:TypeId)(E:Array zV)(fr:Nat×Nat)(d:TypeDesc)(v:zV)
  (U:D.getD p undef=zP g) (hq:D.getD q undef=v) (O:w.heap[g]?=some (.cells E t fr))
  (hu:P.underlying ty=some d) (hd:(match d with | .struct _ | .array _ _=>true|_=>false)=true) (T:(P.info? ty).map (·.size)=some E.size):
  (results fn D).run P w=.ok (.tuple #[.agg E,v]) w:=by
 have F:D[p]?.getD undef=zP g:=by simpa using U
 have M:D[q]?.getD undef=v:=by simpa using hq
 simp[results,h,F,M,asAddr,run_loadVar_row w g t ty E fr d O hu hd T]
abbrev ty(i:Nat):TypeId:=if i=3 then 257 else 63
abbrev sz(i:Nat):Nat:=if i=3 then 3 else 2
structure Mk(Y:World)(G:Nat)(V:Nat->zV)(n:Nat->Nat)(L:Nat->List zV)(W:World):Prop where
 b:zB Y W
 lt:Y.heap.size<=G/\G<W.heap.size
 box:gu W G 4 V
 own:∀i,1<=i->i<=3->W.ownsRow (G+1) (ty i) (sz i) (V i) (n i) (L i)
 ne:∀i j,1<=i->i<=3->1<=j->j<=3->i≠j->∀b,(V i).ownBlock=some b->(V j).ownBlock≠some b
theorem Mk.below(h:Mk Y G V n L W)(D:zB W W'):Mk Y G V n L W':=
 ⟨h.b.trans (D.mono h.b.size),⟨h.lt.1,bE h.lt.2 D.size⟩,h.box.of_block (D.block _ h.lt.2),fun i E F=>ar (h.own i E F) (fun b e=>D.block b ((h.own i E F).lt b e).2),h.ne⟩
theorem mV{e s m:Nat}{v:zV}{xs:List zV}(h:w.ownsRow (G+1) e s v m xs)(D:v.ownBlock=some G):False:=by
 have:=(h.lt G D).1;omega
def upd{α:Type}(V:Nat->α)(i:Nat)(v:α)(j:Nat):α:=if j=i then v else V j
theorem Mk.put(h:Mk Y G V n L W)(i:Nat)(h1:1<=i)(h3:i<=3){U:zV}{m:Nat}{xs:List zV}(O:w'.ownsRow (G+1) (ty i) (sz i) U m xs)(M:ai (fun b=>(V i).ownBlock=some b) W w')(a0:∀b,U.ownBlock=some b->(V i).ownBlock=some b\/W.heap.size<=b):
  Mk Y G (upd V i U) (upd n i m) (upd L i xs) (w'.setCell ⟨G,i,none⟩ U):=by
 have T:∀k,k≠G->(w'.setCell ⟨G,i,none⟩ U).heap[k]?=w'.heap[k]?:=fun k T=>aM _ _ _ _ T
 have a4:(w'.setCell ⟨G,i,none⟩ U).heap.size=w'.heap.size:=by simp[World.setCell]
 have a2:¬((V i).ownBlock=some G):=fun e=>mV (h.own i h1 h3) e
 refine⟨?_,⟨h.lt.1,by rw[a4];exact bE h.lt.2 M.size⟩,?_,fun j j1 j3=>?_,fun a c a1 a3 c1 c3 E b e=>?_⟩
 ·refine(⟨M.os.trans h.b.os,M.tape.trans h.b.tape,M.output.trans h.b.output,aO h.b.size M.size,fun k T=>?_⟩:zB Y w').setCell h.lt.1 _
  rw[M.block k (bE T h.b.size) (fun e=>by have:=((h.own i h1 h3).lt k e).1;have:=h.lt.1;omega)];exact h.b.block k T
 ·exact((h.box.of_block (M.block G h.lt.2 a2)).set (p:=i) (by omega) U).ext (fun j _=>rfl)
 ·unfold upd
  by_cases e:j=i
  ·subst e
   simp only[aj];exact ar O (fun b e=>T b (fun D=>by subst D;exact mV O e))
  ·simp only[ag e]
   refine ar (h.own j j1 j3) (fun b D=>?_);rw[T b (fun F=>by subst F;exact mV (h.own j j1 j3) D)];exact M.block b ((h.own j j1 j3).lt b D).2 (fun F=>h.ne j i j1 j3 h1 h3 e b D F)
 ·unfold upd at e ⊢
  by_cases ea:a=i
  ·subst ea
   simp only[aj] at e;rw[ag (fun h=>E h.symm)];rcases a0 b e with D|D
   ·exact h.ne a c a1 a3 c1 c3 E b D
   ·intro F
    have:=((h.own c c1 c3).lt b F).2;omega
  ·rw[ag ea] at e
   by_cases ec:c=i
   ·subst ec
    simp only[aj];intro D;rcases a0 b D with F|F
    ·exact h.ne a c a1 a3 c1 c3 E b e F
    ·have:=((h.own a a1 a3).lt b e).2
     omega
   ·rw[ag ec]
    exact h.ne a c a1 a3 c1 c3 E b e
theorem Mk.path(h:Mk Y G V n L W)(v:zV):Mk Y G (upd V 0 v) n L (W.setCell ⟨G,0,none⟩ v):=by
 have E:∀k,k≠G->(W.setCell ⟨G,0,none⟩ v).heap[k]?=W.heap[k]?:=fun k E=>aM _ _ _ _ E
 have F:(W.setCell ⟨G,0,none⟩ v).heap.size=W.heap.size:=by simp[World.setCell]
 have M:∀i,1<=i->upd V 0 v i=V i:=fun i hi=>ag (by omega)
 refine⟨h.b.setCell h.lt.1 _,⟨h.lt.1,by rw[F];exact h.lt.2⟩,(h.box.set (p:=0) (by omega) v).ext (fun j _=>rfl),fun j O j3=>?_,fun a c T a3 U c3 D b e=>?_⟩
 ·rw[M j O]
  exact ar (h.own j O j3) (fun b e=>E b (fun e2=>by subst e2;exact mV (h.own j O j3) e))
 ·rw[M c U]
  rw[M a T] at e;exact h.ne a c T a3 U c3 D b e
theorem Mk.start(Y:zW):Mk Y Y.heap.size (fun f=>if f=0 then zE else zN) (fun _=>0) (fun _=>[]) (Y.alloc (.cells #[zE,zN,zN,zN] 206)):=by
 have D:=ay Y (.cells #[zE,zN,zN,zN] 206);refine⟨(ae _ _).alloc (af _) _,⟨af _,by simp⟩,⟨fun j E=>?_,fun j E=>?_⟩,fun i M O=>?_,fun a c F _ _ _ _ b e=>?_⟩
 ·rcases(by omega:j=0\/j=1\/j=2\/j=3) with rfl|rfl|rfl|rfl<;>simp only[World.cell?,D]<;>rfl
 ·simp only[World.frozen?,D];simp
 ·simp only[ag (by omega:¬i=0)]
  exact eM _ _ _ _
 ·simp only[ag (by omega:¬a=0)] at e
  simp[Value.ownBlock] at e
def mv(p:zA)(J Q I:zV)(i:Nat):zV:=if i=0 then .string p else if i=1 then J else if i=2 then Q else I
def mn(R X:List Mo)(S:List So)(i:Nat):Nat:=if i=1 then R.length else if i=2 then X.length else S.length
def mL(R X:List Mo)(S:List So)(i:Nat):List zV:=if i=1 then mcs R else if i=2 then mcs X else scs S
theorem Mk.ext{T:Nat->zV}{U:Nat->Nat}{O:Nat->List zV}(h:Mk Y G V n L W)(D:∀i,i<4->V i=T i)(hn:∀i,1<=i->i<=3->n i=U i)(hL:∀i,1<=i->i<=3->L i=O i):Mk Y G T U O W:=
 ⟨h.b,h.lt,h.box.ext D,fun i E F=>by rw[<-D i (by omega),<-hn i E F,<-hL i E F];exact h.own i E F,fun i j i1 i3 j1 j3 M b e=>by rw[<-D j (by omega)];rw[<-D i (by omega)] at e;exact h.ne i j i1 i3 j1 j3 M b e⟩
abbrev Mq(Y:zW)(G:Nat)(p:zA)(J Q I:zV)(R X:List Mo)(S:List So)(W:zW):Prop:=Mk Y G (mv p J Q I) (mn R X S) (mL R X S) W
variable{p:zA}{J Q I:zV}{R X R' X':List Mo}{S S':List So}
theorem Mq.start(Y:zW):Mq Y Y.heap.size ⟨#[]⟩ (zN) (zN) (zN) [] [] [] (Y.alloc (.cells #[zE,zN,zN,zN] 206)):=
 (Mk.start Y).ext (fun i F=>by rcases(by omega:i=0\/i=1\/i=2\/i=3) with rfl|rfl|rfl|rfl<;>rfl) (fun i D E=>by rcases(by omega:i=1\/i=2\/i=3) with rfl|rfl|rfl<;>rfl) (fun i D E=>by rcases(by omega:i=1\/i=2\/i=3) with rfl|rfl|rfl<;>rfl)
theorem Mq.path(h:Mq Y G p J Q I R X S W)(D:zA):Mq Y G D J Q I R X S (W.setCell ⟨G,0,none⟩ (.string D)):=
 (Mk.path h (.string D)).ext (fun i M=>by rcases(by omega:i=0\/i=1\/i=2\/i=3) with rfl|rfl|rfl|rfl<;>rfl) (fun i E F=>rfl) (fun i E F=>rfl)
theorem Mq.req(h:Mq Y G p J Q I R X S W){E:zV}(D:w'.ownsRow (G+1) 63 2 E R'.length (mcs R'))(T:ai (fun b=>J.ownBlock=some b) W w')(F:∀b,E.ownBlock=some b->J.ownBlock=some b\/W.heap.size<=b):Mq Y G p E Q I R' X S (w'.setCell ⟨G,1,none⟩ E):=
 (Mk.put h 1 (by omega) (by omega) (m:=R'.length) (xs:=mcs R') D T F).ext (fun i U=>by rcases(by omega:i=0\/i=1\/i=2\/i=3) with rfl|rfl|rfl|rfl<;>rfl) (fun i M O=>by rcases(by omega:i=1\/i=2\/i=3) with rfl|rfl|rfl<;>rfl) (fun i M O=>by rcases(by omega:i=1\/i=2\/i=3) with rfl|rfl|rfl<;>rfl)
theorem Mq.exc(h:Mq Y G p J Q I R X S W){E:zV}(D:w'.ownsRow (G+1) 63 2 E X'.length (mcs X'))(T:ai (fun b=>Q.ownBlock=some b) W w')(F:∀b,E.ownBlock=some b->Q.ownBlock=some b\/W.heap.size<=b):Mq Y G p J E I R X' S (w'.setCell ⟨G,2,none⟩ E):=
 (Mk.put h 2 (by omega) (by omega) (m:=X'.length) (xs:=mcs X') D T F).ext (fun i U=>by rcases(by omega:i=0\/i=1\/i=2\/i=3) with rfl|rfl|rfl|rfl<;>rfl) (fun i M O=>by rcases(by omega:i=1\/i=2\/i=3) with rfl|rfl|rfl<;>rfl) (fun i M O=>by rcases(by omega:i=1\/i=2\/i=3) with rfl|rfl|rfl<;>rfl)
theorem Mq.rep(h:Mq Y G p J Q I R X S W){E:zV}(D:w'.ownsRow (G+1) 257 3 E S'.length (scs S'))(T:ai (fun b=>I.ownBlock=some b) W w')(F:∀b,E.ownBlock=some b->I.ownBlock=some b\/W.heap.size<=b):Mq Y G p J Q E R X S' (w'.setCell ⟨G,3,none⟩ E):=
 (Mk.put h 3 (by omega) (by omega) (m:=S'.length) (xs:=scs S') D T F).ext (fun i U=>by rcases(by omega:i=0\/i=1\/i=2\/i=3) with rfl|rfl|rfl|rfl<;>rfl) (fun i M O=>by rcases(by omega:i=1\/i=2\/i=3) with rfl|rfl|rfl<;>rfl) (fun i M O=>by rcases(by omega:i=1\/i=2\/i=3) with rfl|rfl|rfl<;>rfl)
theorem Mq.r(h:Mq Y G p J Q I R X S W):W.ownsRow (G+1) 63 2 J R.length (mcs R):=h.own 1 (by omega) (by omega)
theorem Mq.x(h:Mq Y G p J Q I R X S W):W.ownsRow (G+1) 63 2 Q X.length (mcs X):=h.own 2 (by omega) (by omega)
theorem Mq.s(h:Mq Y G p J Q I R X S W):W.ownsRow (G+1) 257 3 I S.length (scs S):=h.own 3 (by omega) (by omega)
theorem Mq.cells(h:Mq Y G p J Q I R X S W):(W.cell? ⟨G,0,none⟩=some (.string p)/\W.cell? ⟨G,1,none⟩=some J/\W.cell? ⟨G,2,none⟩=some Q/\W.cell? ⟨G,3,none⟩=some I)/\(W.frozen? ⟨G,0,none⟩=false/\W.frozen? ⟨G,1,none⟩=false/\W.frozen? ⟨G,2,none⟩=false/\W.frozen? ⟨G,3,none⟩=false):=
 ⟨⟨h.box.at' 0 (by omega),h.box.at' 1 (by omega),h.box.at' 2 (by omega),h.box.at' 3 (by omega)⟩,h.box.fr 0 (by omega),h.box.fr 1 (by omega),h.box.fr 2 (by omega),h.box.fr 3 (by omega)⟩
structure Mx where
 p:zA
 R:List Mo
 X:List Mo
 S:List So
end Mf
namespace Mf
variable{w w':zW}
def fN(m:Mx)(s:Sm4):Mx:=
 if s.1=mF then ⟨s.2.1,m.R,m.X,m.S⟩ else if s.1=oq then ⟨m.p,m.R++[(s.2.1,s.2.2.1)],m.X,m.S⟩ else if s.1=Cr then ⟨m.p,m.R,m.X++[(s.2.1,s.2.2.1)],m.S⟩ else if s.1=Ct then ⟨m.p,m.R,m.X,m.S++[(s.2.1,s.2.2.1,s.2.2.2)]⟩ else m
def dS(L:List Sm4):Mx:=L.foldl fN ⟨⟨#[]⟩,[],[],[]⟩
theorem Hu(L:List Sm4)(s:Sm4):dS (L++[s])=fN (dS L) s:=by simp[dS,jI]
theorem rX(L:List Sm4):(dS L).R.length<=L.length/\(dS L).X.length<=L.length/\(dS L).S.length<=L.length:=by
 have gen:∀(L:List Sm4)(m:Mx),(L.foldl fN m).R.length<=m.R.length+L.length/\(L.foldl fN m).X.length<=m.X.length+L.length/\(L.foldl fN m).S.length<=m.S.length+L.length:=by
  intro L
  induction L with
  |nil=>intro m;simp
  |cons s L D=>
   intro m;have h:=D (fN m s)
   have E:(fN m s).R.length<=m.R.length+1/\(fN m s).X.length<=m.X.length+1/\(fN m s).S.length<=m.S.length+1:=by
    unfold fN
    split
    ·simp
    ·split
     ·simp
     ·split
      ·simp
      ·split<;>simp
   simp only[jY,bN];omega
 have:=gen L ⟨⟨#[]⟩,[],[],[]⟩;simpa[dS] using this
theorem jl:∀(l:List Sm4)(j:Nat)(h:j<l.length),(bP l)[j*4]?=some (.string l[j].1)/\(bP l)[j*4+1]?=some (.string l[j].2.1)/\(bP l)[j*4+2]?=some (.string l[j].2.2.1)/\(bP l)[j*4+3]?=some (.string l[j].2.2.2)
 |x::r,0,_=>⟨rfl,rfl,rfl,rfl⟩
 |x::r,j+1,h=>by
  have e:bP (x::r)=.string x.1::.string x.2.1::.string x.2.2.1::.string x.2.2.2::bP r:=rfl;have D:=jl r j (by simpa using h);rw[e];refine⟨?_,?_,?_,?_⟩
  ·rw[show(j+1)*4=j*4+1+1+1+1 by omega];simpa using D.1
  ·rw[show(j+1)*4+1=j*4+1+1+1+1+1 by omega];simpa using D.2.1
  ·rw[show(j+1)*4+2=j*4+2+1+1+1+1 by omega];simpa using D.2.2.1
  ·rw[show(j+1)*4+3=j*4+3+1+1+1+1 by omega];simpa using D.2.2.2
theorem pg{B:Nat}{v:zV}{L:List Mo}(h:w.ownsRow B 63 2 v L.length (mcs L)):Sm.Rd w v L:=by
 rcases h.2 with⟨D,O⟩|⟨g,c,M,D,_⟩
 ·exact Or.inl ⟨D,qf O⟩
 ·subst D
  refine Or.inr ⟨g,0,c,rfl,fun j u F=>?_⟩
  have E:j<L.length*2:=by
   have:=(dv.1 F).1;rw[Sm.xh] at this;exact this
  rw[cZ,h.cellAt j E];exact F
theorem Hv{B:Nat}{v:zV}{L:List So}(h:w.ownsRow B 257 3 v L.length (scs L)):Sw.Rd w v L:=by
 rcases h.2 with⟨D,O⟩|⟨g,c,M,D,_⟩
 ·exact Or.inl ⟨D,qf O⟩
 ·subst D
  refine Or.inr ⟨g,0,c,rfl,fun j u F=>?_⟩
  have E:j<L.length*3:=by
   have:=(dv.1 F).1;rw[Sw.xh] at this;exact this
  rw[cZ,h.cellAt j E];exact F
theorem E4(W:zW):gu (W.alloc (.cells #[.func (.func 176) #[] #[],.string mF,zI 0,zI 0,.map none,zN] 251)) W.heap.size 6 rdF:=by
 have D:=iQ W (.cells #[.func (.func 176) #[] #[],.string mF,zI 0,zI 0,.map none,zN] 251);refine⟨fun j E=>?_,fun j E=>?_⟩
 ·simp only[World.cell?,D]
  rcases(by omega:j=0\/j=1\/j=2\/j=3\/j=4\/j=5) with e|e|e|e|e|e<;>rw[e]<;>rfl
 ·simp only[World.frozen?,D];simp
abbrev zM:Array zV:=#[zE,zN,zN,zN]
end Mf
namespace Mf
variable{w w':zW}
theorem E5{W:zW}{r:Nat}(h:W.heap[r]?=some (.cells zM 206))(a b c d:zV):((((W.setCell ⟨r,0,none⟩ a).setCell ⟨r,1,none⟩ b).setCell ⟨r,2,none⟩ c).setCell ⟨r,3,none⟩ d).heap[r]?=some (.cells #[a,b,c,d] 206):=by
 have D:=aU _ _ 0 _ _ a h;have E:=aU _ _ 1 _ _ b D;have F:=aU _ _ 2 _ _ c E;exact aU _ _ 3 _ _ d F
theorem qL{W:zW}{r:Nat}(E:zB w W)(D:w.heap.size<=r)(a b c d:zV):zB w ((((W.setCell ⟨r,0,none⟩ a).setCell ⟨r,1,none⟩ b).setCell ⟨r,2,none⟩ c).setCell ⟨r,3,none⟩ d):=(((E.setCell D _).setCell D _).setCell D _).setCell D _
theorem oC{W:zW}{r B e s n:Nat}{v:zV}{l:List zV}(h:W.ownsRow B e s v n l)(D:r<B)(a b c d:zV):((((W.setCell ⟨r,0,none⟩ a).setCell ⟨r,1,none⟩ b).setCell ⟨r,2,none⟩ c).setCell ⟨r,3,none⟩ d).ownsRow B e s v n l:=cH (cH (cH (cH h _ D) _ D) _ D) _ D
theorem rY(s:zA)(w:zW)(hs:s.size<=2000)(hm:Ml w):
  zC 155 #[.string s] w fun e w'=>∃(D:List OLn)(au:List (Nat×Nat×Nat))(m q:Nat)(p:zA)(J Q I lv:zV),e=.returned (.tuple #[.agg #[.string p,J,Q,I],lv])/\(Tx.spoken 1 (Pv.spl 10 s.data.toList)).foldl (Tx.bz false Pv.aH 20) nZ=⟨fj D,au,m,q⟩/\(∀g∈D,∃ks,Ok g.2 ks)/\D.length<=2001/\au.length<=2001/\zB w w'/\
   ((jK m au≠[]/\(p=⟨#[]⟩/\J=zN/\Q=zN/\I=zN)/\w'.ownsRow w.heap.size 282 3 lv (jK m au).length (dI (jK m au)))\/
    (jK m au=[]/\lv=zN/\p=(dS (D.map fun g=>dU g.2)).p/\w'.ownsRow w.heap.size 63 2 J (dS (D.map fun g=>dU g.2)).R.length (mcs (reqs (dS (D.map fun g=>dU g.2)).R))/\w'.ownsRow w.heap.size 63 2 Q (dS (D.map fun g=>dU g.2)).X.length (mcs (vF (dS (D.map fun g=>dU g.2)).X))/\w'.ownsRow w.heap.size 257 3 I (dS (D.map fun g=>dU g.2)).S.length (scs (xj (dS (D.map fun g=>dU g.2)).S))/\Apart J Q I)):=by
 obtain⟨i2,b4,b5,b6,b7⟩:=Ey;have HJ:Hid (prog.info? 63=some i2/\i2.zero=some (.agg #[zE,zE])/\i2.size=2/\i2.bytes=32):=⟨b4,b5,b6,b7⟩;clear b4 b5 b6 b7;obtain⟨i3,b4,b5,b6,b7⟩:=Sw.F8;have b9:Hid (prog.info? 257=some i3/\i3.zero=some (.agg #[zE,zE,zE])/\i3.size=3/\i3.bytes=48):=⟨b4,b5,b6,b7⟩;clear b4 b5 b6 b7;generalize hR:(Tx.spoken 1 (Pv.spl 10 s.data.toList)).foldl (Tx.bz false Pv.aH 20) nZ=R;have HM:=zH hm;clear hm;have ch:∀(W:zW)(a:Addr),(store a (.func (.func 176) #[] #[])).run prog W=stored prog W a (.func (.func 176) #[] #[]) .plain:=fun W a=>run_store prog W a _ _ rfl
 have b1:Hid (zB w (w.alloc (.cells zM 206))/\(w.alloc (.cells zM 206)).heap[w.heap.size]?=some (.cells zM 206)/\(w.alloc (.cells zM 206)).heap.size=w.heap.size+1):=⟨(ae _ _).alloc (af _) _,ay _ _,by simp⟩;go_enter func155,ntmps155
 go_wp2_with (go_at_call 177;fail)
 have kr:=oz s (w.alloc (.cells zM 206)).heap.size ((w.alloc (.cells zM 206)).alloc (.cells #[.func (.func 176) #[] #[],.string mF,zI 0,zI 0,.map none,zN] 251)) hs (HM.out.below (b1.out.1.alloc (by simp) _)) (by rw[b1.out.2.2];omega) (E4 _);rw[hR] at kr;clear hR;have b0:Hid (zB w ((w.alloc (.cells zM 206)).alloc (.cells #[.func (.func 176) #[] #[],.string mF,zI 0,zI 0,.map none,zN] 251))/\((w.alloc (.cells zM 206)).alloc (.cells #[.func (.func 176) #[] #[],.string mF,zI 0,zI 0,.map none,zN] 251)).heap[w.heap.size]?=some (.cells zM 206)/\((w.alloc (.cells zM 206)).alloc (.cells #[.func (.func 176) #[] #[],.string mF,zI 0,zI 0,.map none,zN] 251)).heap.size=w.heap.size+2):=⟨b1.out.1.alloc (by simp) _,heap_alloc2_old _ _ _,by simp⟩;rw[b1.out.2.2] at kr;generalize (w.alloc (.cells zM 206)).alloc (.cells #[.func (.func 176) #[] #[],.string mF,zI 0,zI 0,.map none,zN] 251)=W1 at*;go_at_call 177;refine kr.mono ?_;rintro e F ⟨D,au,m,q,J,lv,rfl,hD,hT,cc,cg,a9,hx⟩;clear kr ch
 have b2:Hid (zB w F/\F.heap[w.heap.size]?=some (.cells zM 206)/\w.heap.size+2<=F.heap.size):=by
  have h1:=b0.out.1;refine⟨⟨a9.os.trans h1.os,a9.tape.trans h1.tape,a9.output.trans h1.output,aO h1.size a9.size,fun b hb=>?_⟩,?_,?_⟩
  ·rw[a9.block b (bE hb h1.size) (by omega)];exact h1.block b hb
  ·rw[a9.block w.heap.size (by rw[b0.out.2.2];omega) (by omega)];exact b0.out.2.1
  ·rw[<-b0.out.2.2];exact a9.size
 have HD:Hid (R=⟨fj D,au,m,q⟩/\(∀g∈D,∃ks,Ok g.2 ks)/\D.length<=2001/\au.length<=2001):=⟨hD,hT,cc,cg⟩;have cb:=b0.out.2.2;clear hD hT a9 b0 b1;rcases hx with⟨bp,rfl,a6⟩|⟨bx,rfl,a6⟩
 ·obtain⟨la,lc,rfl⟩:=ax a6
  have hq:(0:Int)<((jK m au).length:Int):=by have:=gH.2 bp;omega
  have HO:Hid (jK m au≠[]/\F.ownsRow (w.heap.size+2) 282 3 (.slice la (jK m au).length lc) (jK m au).length (dI (jK m au))):=⟨bp,by rw[<-cb];exact a6⟩;have HW:Hid (∀a b c d,((((F.setCell ⟨w.heap.size,0,none⟩ a).setCell ⟨w.heap.size,1,none⟩ b).setCell ⟨w.heap.size,2,none⟩ c).setCell ⟨w.heap.size,3,none⟩ d).heap[w.heap.size]?=some (.cells #[a,b,c,d] 206)):=fun a b c d=>E5 b2.out.2.1 a b c d
  obtain⟨⟨g0,g1,g2,g3⟩,f0,f1,f2,f3⟩:=Dr.cells4 b2.out.2.1;clear bp a6;generalize c0:(jK m au).length=fl at*;have c6:=zH c0;clear c0;go_wp2;refine aI (results_cell_tmp results155 _ _ w.heap.size 206 _ (0,0) _ _ rfl rfl (HW.out _ _ _ _) underlying206 rfl (by kernel_rfl)) rfl ?_;exact⟨D,au,m,q,_,_,_,_,_,rfl,HD.out.1,HD.out.2.1,HD.out.2.2.1,HD.out.2.2.2,qL b2.out.1 (af _) _ _ _ _,Or.inl ⟨HO.out.1,⟨rfl,rfl,rfl,rfl⟩,by rw[c6.out];exact gy (B:=w.heap.size+2) (oC (r:=w.heap.size) (B:=w.heap.size+2) HO.out.2 (by omega) _ _ _ _) (by omega)⟩⟩
 ·have HO:=zH a6
  clear a6;obtain⟨ra,rc,rfl⟩:=ax HO.out;have c5:=zH bx
  have c7:Hid (∀j (h:j<(D.map fun g=>dU g.2).length),Wd4 (D.map fun g=>dU g.2)[j].1):=fun j h=>by
   have hj:j<D.length:=by simpa using h
   obtain⟨ks,hk⟩:=HD.out.2.1 D[j] (dP hj);simp only[qx];exact PL hk
  clear bx;have ck:(D.map fun g=>dU g.2).length=D.length:=cW ..;generalize bu:(D.map fun g=>dU g.2)=L at*;have c8:=zH bu;clear bu;have bs:=zH (Mq.start F);go_wp2;go_loopg [23] D.length (fun gg kv wr=>∃(k:Nat)(J Q I:zV),k<=D.length/\D.length-k<=gg/\kv=zI k/\Hid (Mq F F.heap.size (dS (L.take k)).p J Q I (dS (L.take k)).R (dS (L.take k)).X (dS (L.take k)).S wr))
  case atStart=>exact⟨0,_,_,_,by omega,by omega,rfl,bs⟩
  case round=>
   clear bs;obtain⟨k,J,Q,I,hk,ct,rfl,HS⟩:=hrel;by_cases cv:k<D.length
   ·have ij:(k:Int)<(D.length:Int):=by omega
    have bd:k<L.length:=by omega
    obtain⟨g,c,c1⟩:=dQ HO.out (by omega);have PO:ra=some ⟨g,0,none⟩:=by injection c1
    subst PO;clear c1;obtain⟨a0,a1,a2,a3⟩:=jl L k bd;have yR:=(HO.out.lt g rfl).2;have b3:=HS.out.b;have d0:wr.cell? ⟨g,k*4,none⟩=some (.string L[k].1):=by rw[b3.cell (p:=⟨g,k*4,none⟩) yR,HO.out.cellAt (k*4) (by omega)];exact a0
    have d1:wr.cell? ⟨g,k*4+1,none⟩=some (.string L[k].2.1):=by rw[b3.cell (p:=⟨g,k*4+1,none⟩) yR,HO.out.cellAt (k*4+1) (by omega)];exact a1
    have d2:wr.cell? ⟨g,k*4+2,none⟩=some (.string L[k].2.2.1):=by rw[b3.cell (p:=⟨g,k*4+2,none⟩) yR,HO.out.cellAt (k*4+2) (by omega)];exact a2
    have d3:wr.cell? ⟨g,k*4+3,none⟩=some (.string L[k].2.2.2):=by rw[b3.cell (p:=⟨g,k*4+3,none⟩) yR,HO.out.cellAt (k*4+3) (by omega)];exact a3
    have c2:=c7.out k bd;have b8:=rX (L.take k);have cf:(L.take k).length<=2001:=by rw[jz];omega
    have HN:Hid (dS (L.take (k+1))=fN (dS (L.take k)) L[k]):=by
     show _=_;rw[<-List.take_append_getElem bd,Hu]
    have cs:F.heap.size<wr.heap.size:=HS.out.lt.2;generalize dS (L.take k)=M at*;obtain⟨mp,mR,mX,mS⟩:=M;simp only at HS HN b8;have cm:mR.length<=2001:=by omega
    have cp:mX.length<=2001:=by omega
    have cn:mS.length<=2001:=by omega
    generalize hx:L[k]=x at*;clear hx;obtain⟨f,p,v,b⟩:=x;simp only at d0 d1 d2 d3 c2 HN;clear a0 a1 a2 a3 b3 b8 cf bd;have O:Hid (Mq F F.heap.size mp J Q I mR mX mS (wr.alloc (.cells #[.string f,.string p,.string v,.string b] 255))):=Mk.below HS.out ((ae _ _).alloc (af _) _);obtain⟨⟨e0,e1,e2,e3⟩,f0,f1,f2,f3⟩:=O.out.cells;obtain⟨ab,ad,rfl⟩:=ax HS.out.r;obtain⟨aq,av,rfl⟩:=ax HS.out.x;obtain⟨ak,an,rfl⟩:=ax HS.out.s;have a7:(wr.alloc (.cells #[.string f,.string p,.string v,.string b] 255)).heap.size=wr.heap.size+1:=by simp
    rcases c2 with rfl|rfl|rfl|rfl
    ·have az:Hid (Mq F F.heap.size (dS (L.take (k+1))).p (.slice ab mR.length ad) (.slice aq mX.length av) (.slice ak mS.length an) (dS (L.take (k+1))).R (dS (L.take (k+1))).X (dS (L.take (k+1))).S ((wr.setCell ⟨F.heap.size,0,none⟩ (.string p)).alloc (.cells #[.string mF,.string p,.string v,.string b] 255))):=by
      show Mq _ _ _ _ _ _ _ _ _ _;rw[HN.out];exact Mk.below (Mq.path HS.out p) ((ae _ _).alloc (af _) _)
     clear HS O HN;go_wp2;go_roundg (D.length-(k+1))
     case measure=>omega
     case rel=>exact⟨k+1,_,_,_,by omega,by omega,by go_num,az⟩
    ·have aa:∀j u,[Value.string p,.string v][j]?=some u->((wr.alloc (.cells #[.string oq,.string p,.string v,.string b] 255)).alloc (.cells #[.string p,.string v] 63)).cell? ((⟨wr.heap.size+1,0,none⟩:Addr).add j)=some u:=fun j u hj=>by
      have h:=cell_two_new (wr.alloc (.cells #[.string oq,.string p,.string v,.string b] 255)) 63 (.string p) (.string v) j u hj;rw[a7] at h;exact h
     go_wp2_with (at_builtin;refine dG _ rfl _ _ 30 rfl (F.heap.size+1) 63 i2 (.agg #[zE,zE]) 2 32 underlying30 HJ.out.1 HJ.out.2.1 HJ.out.2.2.1 HJ.out.2.2.2 rfl (by decide) (.slice ab mR.length ad) mR.length (mcs mR) rfl (O.out.r.alloc _) ⟨wr.heap.size+1,0,none⟩ 1 1 [.string p,.string v] rfl rfl aa ?_ ?_ ?_ ?_ ?_)
     all_goals first
      |(show ∀u∈[Value.string p,Value.string v],u.oneCell'=true;intro u hu;simp at hu;rcases hu with rfl|rfl<;>rfl)
      |(show mR.length+1<=maxLen;unfold maxLen;omega)
      |(show(mR.length+1)*32<=140737488355328;omega)
      |(show F.heap.size+1<=((wr.alloc _).alloc _).heap.size;simp;omega)
      |(show F.heap.size+1<=wr.heap.size+1+1;omega)
      |skip
     intro c3 w3 E T _ U;obtain⟨g',c',rfl⟩:=dQ E (by omega);have a4:ai (fun b=>(Value.slice ab mR.length ad).ownBlock=some b) (wr.alloc (.cells #[.string oq,.string p,.string v,.string b] 255)) w3:=((ai.refl _ _).alloc _).grown T (fun b _ e=>e)
     have a8:∀b',(Value.slice (some ⟨g',0,none⟩) (mR.length+1) c').ownBlock=some b'->(Value.slice ab mR.length ad).ownBlock=some b'\/(wr.alloc (.cells #[.string oq,.string p,.string v,.string b] 255)).heap.size<=b':=fun b' e=>by
      rcases U with e2|e2
      ·exact Or.inl (by rw[<-e2];exact e)
      ·right
       rw[e2] at e;have:wr.heap.size+1+1=b':=by simpa using e
       rw[a7];omega
     have a5:=(O.out.box.of_block (a4.block F.heap.size (by rw[a7];omega) (fun e=>mV O.out.r e)));have bc:w3.cell? ⟨F.heap.size,1,none⟩=some (.slice ab mR.length ad):=a5.at' 1 (by omega);have bt:w3.frozen? ⟨F.heap.size,1,none⟩=false:=a5.fr 1 (by omega)
     have az:Hid (Mq F F.heap.size (dS (L.take (k+1))).p (.slice (some ⟨g',0,none⟩) (mR.length+1) c') (.slice aq mX.length av) (.slice ak mS.length an) (dS (L.take (k+1))).R (dS (L.take (k+1))).X (dS (L.take (k+1))).S (w3.setCell ⟨F.heap.size,1,none⟩ (.slice (some ⟨g',0,none⟩) (mR.length+1) c'))):=by
      show Mq _ _ _ _ _ _ _ _ _ _;rw[HN.out];exact Mq.req (R':=mR++[(p,v)]) O.out (by rw[aW];simpa[mcs,Sm.mc] using E) a4 a8
     clear HS O HN E T U a4 a8 a5 aa e0 e1 e2 e3 f0 f1 f2 f3;go_wp2;go_roundg (D.length-(k+1))
     case measure=>omega
     case rel=>exact⟨k+1,_,_,_,by omega,by omega,by go_num,az⟩
    ·have aa:∀j u,[Value.string p,.string v][j]?=some u->((wr.alloc (.cells #[.string Cr,.string p,.string v,.string b] 255)).alloc (.cells #[.string p,.string v] 63)).cell? ((⟨wr.heap.size+1,0,none⟩:Addr).add j)=some u:=fun j u hj=>by
      have h:=cell_two_new (wr.alloc (.cells #[.string Cr,.string p,.string v,.string b] 255)) 63 (.string p) (.string v) j u hj;rw[a7] at h;exact h
     go_wp2_with (at_builtin;refine dG _ rfl _ _ 30 rfl (F.heap.size+1) 63 i2 (.agg #[zE,zE]) 2 32 underlying30 HJ.out.1 HJ.out.2.1 HJ.out.2.2.1 HJ.out.2.2.2 rfl (by decide) (.slice aq mX.length av) mX.length (mcs mX) rfl (O.out.x.alloc _) ⟨wr.heap.size+1,0,none⟩ 1 1 [.string p,.string v] rfl rfl aa ?_ ?_ ?_ ?_ ?_)
     all_goals first
      |(show ∀u∈[Value.string p,Value.string v],u.oneCell'=true;intro u hu;simp at hu;rcases hu with rfl|rfl<;>rfl)
      |(show mX.length+1<=maxLen;unfold maxLen;omega)
      |(show(mX.length+1)*32<=140737488355328;omega)
      |(show F.heap.size+1<=((wr.alloc _).alloc _).heap.size;simp;omega)
      |(show F.heap.size+1<=wr.heap.size+1+1;omega)
      |skip
     intro c3 w3 E T _ U;obtain⟨g',c',rfl⟩:=dQ E (by omega);have a4:ai (fun b=>(Value.slice aq mX.length av).ownBlock=some b) (wr.alloc (.cells #[.string Cr,.string p,.string v,.string b] 255)) w3:=((ai.refl _ _).alloc _).grown T (fun b _ e=>e)
     have a8:∀b',(Value.slice (some ⟨g',0,none⟩) (mX.length+1) c').ownBlock=some b'->(Value.slice aq mX.length av).ownBlock=some b'\/(wr.alloc (.cells #[.string Cr,.string p,.string v,.string b] 255)).heap.size<=b':=fun b' e=>by
      rcases U with e2|e2
      ·exact Or.inl (by rw[<-e2];exact e)
      ·right
       rw[e2] at e;have:wr.heap.size+1+1=b':=by simpa using e
       rw[a7];omega
     have a5:=(O.out.box.of_block (a4.block F.heap.size (by rw[a7];omega) (fun e=>mV O.out.x e)));have bc:w3.cell? ⟨F.heap.size,2,none⟩=some (.slice aq mX.length av):=a5.at' 2 (by omega);have bt:w3.frozen? ⟨F.heap.size,2,none⟩=false:=a5.fr 2 (by omega)
     have az:Hid (Mq F F.heap.size (dS (L.take (k+1))).p (.slice ab mR.length ad) (.slice (some ⟨g',0,none⟩) (mX.length+1) c') (.slice ak mS.length an) (dS (L.take (k+1))).R (dS (L.take (k+1))).X (dS (L.take (k+1))).S (w3.setCell ⟨F.heap.size,2,none⟩ (.slice (some ⟨g',0,none⟩) (mX.length+1) c'))):=by
      show Mq _ _ _ _ _ _ _ _ _ _;rw[HN.out];exact Mq.exc (X':=mX++[(p,v)]) O.out (by rw[aW];simpa[mcs,Sm.mc] using E) a4 a8
     clear HS O HN E T U a4 a8 a5 aa e0 e1 e2 e3 f0 f1 f2 f3;go_wp2;go_roundg (D.length-(k+1))
     case measure=>omega
     case rel=>exact⟨k+1,_,_,_,by omega,by omega,by go_num,az⟩
    ·have aa:∀j u,[Value.string p,.string v,.string b][j]?=some u->((wr.alloc (.cells #[.string Ct,.string p,.string v,.string b] 255)).alloc (.cells #[.string p,.string v,.string b] 257)).cell? ((⟨wr.heap.size+1,0,none⟩:Addr).add j)=some u:=fun j u hj=>by
      have h:=fz (wr.alloc (.cells #[.string Ct,.string p,.string v,.string b] 255)) (.string p) (.string v) (.string b) 257 j u hj;rw[a7] at h;exact h
     go_wp2_with (at_builtin;refine dG _ rfl _ _ 204 rfl (F.heap.size+1) 257 i3 (.agg #[zE,zE,zE]) 3 48 underlying204 b9.out.1 b9.out.2.1 b9.out.2.2.1 b9.out.2.2.2 rfl (by decide) (.slice ak mS.length an) mS.length (scs mS) rfl (O.out.s.alloc _) ⟨wr.heap.size+1,0,none⟩ 1 1 [.string p,.string v,.string b] rfl rfl aa ?_ ?_ ?_ ?_ ?_)
     all_goals first
      |(show ∀u∈[Value.string p,Value.string v,Value.string b],u.oneCell'=true;intro u hu;simp at hu;rcases hu with rfl|rfl|rfl<;>rfl)
      |(show mS.length+1<=maxLen;unfold maxLen;omega)
      |(show(mS.length+1)*48<=140737488355328;omega)
      |(show F.heap.size+1<=((wr.alloc _).alloc _).heap.size;simp;omega)
      |(show F.heap.size+1<=wr.heap.size+1+1;omega)
      |skip
     intro c3 w3 E T _ U;obtain⟨g',c',rfl⟩:=dQ E (by omega);have a4:ai (fun b=>(Value.slice ak mS.length an).ownBlock=some b) (wr.alloc (.cells #[.string Ct,.string p,.string v,.string b] 255)) w3:=((ai.refl _ _).alloc _).grown T (fun b _ e=>e)
     have a8:∀b',(Value.slice (some ⟨g',0,none⟩) (mS.length+1) c').ownBlock=some b'->(Value.slice ak mS.length an).ownBlock=some b'\/(wr.alloc (.cells #[.string Ct,.string p,.string v,.string b] 255)).heap.size<=b':=fun b' e=>by
      rcases U with e2|e2
      ·exact Or.inl (by rw[<-e2];exact e)
      ·right
       rw[e2] at e;have:wr.heap.size+1+1=b':=by simpa using e
       rw[a7];omega
     have a5:=(O.out.box.of_block (a4.block F.heap.size (by rw[a7];omega) (fun e=>mV O.out.s e)));have bc:w3.cell? ⟨F.heap.size,3,none⟩=some (.slice ak mS.length an):=a5.at' 3 (by omega);have bt:w3.frozen? ⟨F.heap.size,3,none⟩=false:=a5.fr 3 (by omega)
     have az:Hid (Mq F F.heap.size (dS (L.take (k+1))).p (.slice ab mR.length ad) (.slice aq mX.length av) (.slice (some ⟨g',0,none⟩) (mS.length+1) c') (dS (L.take (k+1))).R (dS (L.take (k+1))).X (dS (L.take (k+1))).S (w3.setCell ⟨F.heap.size,3,none⟩ (.slice (some ⟨g',0,none⟩) (mS.length+1) c'))):=by
      show Mq _ _ _ _ _ _ _ _ _ _;rw[HN.out];exact Mq.rep (S':=mS++[(p,v,b)]) O.out (by rw[aW];simpa[scs,Sw.mc] using E) a4 a8
     clear HS O HN E T U a4 a8 a5 aa e0 e1 e2 e3 f0 f1 f2 f3;go_wp2;go_roundg (D.length-(k+1))
     case measure=>omega
     case rel=>exact⟨k+1,_,_,_,by omega,by omega,by go_num,az⟩
   ·have ij:¬((k:Int)<(D.length:Int)):=by omega
    have cd:L.take k=L:=fy (by omega);rw[cd] at HS;have b8:=rX L
    have bi:Hid (zB w wr/\wr.heap[w.heap.size]?=some (.cells zM 206)/\w.heap.size+2<=wr.heap.size):=by
     have hb:=b2.out;have h2:=HS.out.b;exact⟨hb.1.trans (h2.mono hb.1.size),by rw[h2.block w.heap.size (by omega)];exact hb.2.1,by have:=h2.size;omega⟩
    obtain⟨M,bm⟩:∃M,dS L=M:=⟨_,rfl⟩;rw[bm] at HS b8;obtain⟨mp,mR,mX,mS⟩:=M;have bb:Hid (dS (D.map fun g=>dU g.2)=⟨mp,mR,mX,mS⟩):=by show _=_;rw[c8.out];exact bm
    simp only at HS b8;clear bm;have ko:=yQ mp J Q I mR mX mS wr (HM.out.below bi.out.1) (by omega) (by omega) (by omega) (pg HS.out.r) (pg HS.out.x) (Hv HS.out.s);obtain⟨⟨e0,e1,e2,e3⟩,f0,f1,f2,f3⟩:=HS.out.cells;obtain⟨ab,ad,rfl⟩:=ax HS.out.r;obtain⟨aq,av,rfl⟩:=ax HS.out.x;obtain⟨ak,an,rfl⟩:=ax HS.out.s;clear HS b2
    go_wp2_with (go_at_call 178;fail)
    go_at_call 178;refine ko.mono ?_;rintro e w4 ⟨cx,db,da,rfl,o1,o2,o3,bn,bv⟩;obtain⟨_,_,_,bc⟩:=jQ o1;obtain⟨_,_,_,c9⟩:=jQ o2;obtain⟨_,_,_,ca⟩:=jQ o3;subst bc c9 ca
    have bh:Hid (zB w w4/\w4.heap[w.heap.size]?=some (.cells zM 206)):=by
     have hb:=bi.out;exact⟨hb.1.trans (bn.mono hb.1.size),by rw[bn.block w.heap.size (by omega)];exact hb.2.1⟩
    have HW:Hid (∀a b c d,((((w4.setCell ⟨w.heap.size,0,none⟩ a).setCell ⟨w.heap.size,1,none⟩ b).setCell ⟨w.heap.size,2,none⟩ c).setCell ⟨w.heap.size,3,none⟩ d).heap[w.heap.size]?=some (.cells #[a,b,c,d] 206)):=fun a b c d=>E5 bh.out.2 a b c d
    obtain⟨⟨g0,g1,g2,g3⟩,k0,k1,k2,k3⟩:=Dr.cells4 bh.out.2;have bq:w.heap.size<wr.heap.size:=by have:=bi.out.2.2;omega
    have br:=And.intro o1 (And.intro o2 o3);have bk:Hid _:=br;have c4:Hid _:=bv;clear ko bn o1 o2 o3 br bv e0 e1 e2 e3 f0 f1 f2 f3;go_wp2;refine aI (results_cell_tmp results155 _ _ w.heap.size 206 _ (0,0) _ _ rfl rfl (HW.out _ _ _ _) underlying206 rfl (by kernel_rfl)) rfl ?_;exact⟨D,au,m,q,_,_,_,_,_,rfl,HD.out.1,HD.out.2.1,HD.out.2.2.1,HD.out.2.2.2,qL bh.out.1 (af _) _ _ _ _,Or.inr ⟨c5.out,rfl,by rw[bb.out],by rw[bb.out];exact gy (B:=wr.heap.size) (oC (B:=wr.heap.size) bk.out.1 bq _ _ _ _) (by omega),by rw[bb.out];exact gy (B:=wr.heap.size) (oC (B:=wr.heap.size) bk.out.2.1 bq _ _ _ _) (by omega),by rw[bb.out];exact gy (B:=wr.heap.size) (oC (B:=wr.heap.size) bk.out.2.2 bq _ _ _ _) (by omega),c4.out⟩⟩
end Mf
namespace Mf
variable{w w':zW}
def kG(s:zA):Tx.Got:=(Tx.dw [] 1 [] false false 0 s.data.toList).foldl (Tx.bz false Pv.aH 20) nZ
def bg(s:zA):List (Nat×Nat×Nat):=if s.size<=2000 then jK (kG s).spoken (kG s).au else [(0,0,1)]
def bw(s:zA):Mx:=if bg s=[] then dS ((kG s).good.map fun x=>dU (jE x).2) else ⟨⟨#[]⟩,[],[],[]⟩
structure CW(base:Nat)(s:zA)(W:World)(p:zA)(J Q I lv:zV):Prop where
 pe:p=(bw s).p
 re:W.ownsRow base 63 2 J (bw s).R.length (mcs (reqs (bw s).R))
 xe:W.ownsRow base 63 2 Q (bw s).X.length (mcs (vF (bw s).X))
 se:W.ownsRow base 257 3 I (bw s).S.length (scs (xj (bw s).S))
 le:W.ownsRow base 282 3 lv (bg s).length (dI (bg s))
 ne:(bw s).R.length<=2001/\(bw s).X.length<=2001/\(bw s).S.length<=2001/\(bg s).length<=2001
theorem Ko{m:Nat}{sl:List (Nat×Nat×Nat)}(h:sl.length<=2001):(jK m sl).length<=2001:=by
 unfold jK
 split
 ·simp
 ·exact h
theorem xy{s:zA}{base:Nat}{W:zW}{E:zV}(D:bg s≠[])(F:(bg s).length<=2001)(M:W.ownsRow base 282 3 E (bg s).length (dI (bg s))):CW base s W ⟨#[]⟩ (zN) (zN) (zN) E:=by
 have e:bw s=⟨⟨#[]⟩,[],[],[]⟩:=ag D;refine⟨by rw[e],?_,?_,?_,M,?_⟩
 ·rw[e];exact eM _ _ _ _
 ·rw[e];exact eM _ _ _ _
 ·rw[e];exact eM _ _ _ _
 ·rw[e];exact⟨by simp,by simp,by simp,F⟩
theorem zL:Apart (zN) (zN) (zN):=fun b=>⟨fun e=>(by cases e),fun e=>(by cases e)⟩
theorem Hw{s:zA}(hs:s.size<=2000){D:List OLn}{M:List (Nat×Nat×Nat)}{m q base:Nat}{W:zW}{p:zA}{J Q I:zV}(O:kG s=⟨fj D,M,m,q⟩)(hg:D.length<=2001)(hf:jK m M=[])(hp:p=(dS (D.map fun g=>dU g.2)).p)
  (T:W.ownsRow base 63 2 J (dS (D.map fun g=>dU g.2)).R.length (mcs (reqs (dS (D.map fun g=>dU g.2)).R))) (F:W.ownsRow base 63 2 Q (dS (D.map fun g=>dU g.2)).X.length (mcs (vF (dS (D.map fun g=>dU g.2)).X))) (U:W.ownsRow base 257 3 I (dS (D.map fun g=>dU g.2)).S.length (scs (xj (dS (D.map fun g=>dU g.2)).S))):
  CW base s W p J Q I (zN):=by
 have E:bg s=[]:=by
  unfold bg;rw[aj hs,O];exact hf
 have e:bw s=dS (D.map fun g=>dU g.2):=by
  unfold bw;rw[aj E,O];show dS ((fj D).map fun x=>dU (jE x).2)=_
  congr 1
  have h:=xu D;have F:(fj D).map (fun x=>dU (jE x).2)=((fj D).map jE).map (fun g=>dU g.2):=by rw[nT];rfl
  rw[F,h]
 have hl:=rX (D.map fun g=>dU g.2);rw[cW] at hl;refine⟨by rw[e];exact hp,by rw[e];exact T,by rw[e];exact F,by rw[e];exact U,?_,?_⟩
 ·rw[E];exact eM _ _ _ _
 ·rw[e,E];exact⟨by omega,by omega,by omega,by simp⟩
theorem qM(s:zA)(w:zW)(hs:2000<s.size):
  zC 155 #[.string s] w fun e w'=>∃M,e=.returned (.tuple #[.agg #[zE,zN,zN,zN],M])/\w'.ownsRow w.heap.size 282 3 M 1 (dI [(0,0,1)])/\zB w w':=by
 have U:∀(W:zW)(a:Addr),(store a (.func (.func 176) #[] #[])).run prog W=stored prog W a (.func (.func 176) #[] #[]) .plain:=fun W a=>run_store prog W a _ _ rfl
 have D:Hid (zB w ((w.alloc (.cells zM 206)).alloc (.cells #[.func (.func 176) #[] #[],.string mF,zI 0,zI 0,.map none,zN] 251))/\((w.alloc (.cells zM 206)).alloc (.cells #[.func (.func 176) #[] #[],.string mF,zI 0,zI 0,.map none,zN] 251)).heap[w.heap.size]?=some (.cells zM 206)/\((w.alloc (.cells zM 206)).alloc (.cells #[.func (.func 176) #[] #[],.string mF,zI 0,zI 0,.map none,zN] 251)).heap.size=w.heap.size+2):=⟨((ae _ _).alloc (af _) _).alloc (by simp) _,heap_alloc2_old _ _ _,by simp⟩;have kr:=fun W=>zG s (w.heap.size+1) W hs
 go_enter func155,ntmps155
 go_wp2_with (go_at_call 177;fail)
 generalize (w.alloc (.cells zM 206)).alloc (.cells #[.func (.func 176) #[] #[],.string mF,zI 0,zI 0,.map none,zN] 251)=W1 at*;go_at_call 177;refine(kr _).mono ?_;rintro e O ⟨M,rfl,E,T⟩;clear kr U;have F:Hid (zB w O/\O.heap[w.heap.size]?=some (.cells zM 206)):=⟨D.out.1.trans (T.mono D.out.1.size),by rw[T.block w.heap.size (by rw[D.out.2.2];omega)];exact D.out.2.1⟩;have HO:Hid (O.ownsRow (w.heap.size+2) 282 3 M 1 (dI [(0,0,1)])):=by show World.ownsRow _ _ _ _ _ _ _;rw[<-D.out.2.2];exact E
 obtain⟨la,lc,rfl⟩:=ax E;have HW:Hid (∀a b c d,((((O.setCell ⟨w.heap.size,0,none⟩ a).setCell ⟨w.heap.size,1,none⟩ b).setCell ⟨w.heap.size,2,none⟩ c).setCell ⟨w.heap.size,3,none⟩ d).heap[w.heap.size]?=some (.cells #[a,b,c,d] 206)):=fun a b c d=>E5 F.out.2 a b c d
 obtain⟨⟨g0,g1,g2,g3⟩,f0,f1,f2,f3⟩:=Dr.cells4 F.out.2;clear E T D;go_wp2;refine aI (results_cell_tmp results155 _ _ w.heap.size 206 _ (0,0) _ _ rfl rfl (HW.out _ _ _ _) underlying206 rfl (by kernel_rfl)) rfl ?_;exact⟨_,rfl,gy (B:=w.heap.size+2) (oC (r:=w.heap.size) (B:=w.heap.size+2) HO.out (by omega) _ _ _ _) (by omega),qL F.out.1 (af _) _ _ _ _⟩
theorem rZ(s:zA)(w:zW)(hm:Ml w):
  zC 155 #[.string s] w fun e w'=>∃p J Q I F,e=.returned (.tuple #[.agg #[.string p,J,Q,I],F])/\CW w.heap.size s w' p J Q I F/\zB w w'/\(Apart J Q I/\∀b,F.ownBlock=some b->J.ownBlock≠some b/\Q.ownBlock≠some b/\I.ownBlock≠some b):=by
 by_cases O:s.size<=2000
 ·refine(rY s w O hm).mono ?_
  rintro e w' ⟨E,au,m,q,p,J,Q,I,F,rfl,T,hg,a0,a2,M,hx⟩;rw[<-Tx.qA] at T;rcases hx with⟨a1,⟨rfl,rfl,rfl,rfl⟩,ho⟩|⟨hf,rfl,hp,h1,h2,h3,U⟩
  ·have D:bg s=jK m au:=by
    unfold bg;rw[aj O];have:kG s=⟨fj E,au,m,q⟩:=T;rw[this]
   refine⟨_,_,_,_,_,rfl,?_,M,zL,fun b _=>⟨fun e=>by (cases e),fun e=>by (cases e),fun e=>by (cases e)⟩⟩;refine xy (by rw[D];exact a1) (by rw[D];exact Ko a2) (by rw[D];exact ho)
  ·exact⟨_,_,_,_,_,rfl,Hw O T a0 hf hp h1 h2 h3,M,U,fun b e=>by cases e⟩
 ·refine(qM s w (by omega)).mono ?_
  rintro e w' ⟨F,rfl,ho,M⟩;have D:bg s=[(0,0,1)]:=ag O;exact⟨_,_,_,_,_,rfl,xy (by rw[D];simp) (by rw[D];simp) (by rw[D];exact ho),M,zL,fun b _=>⟨fun e=>by (cases e),fun e=>by (cases e),fun e=>by (cases e)⟩⟩
theorem CW.below{base:Nat}{s:zA}{p:zA}{J Q I E:zV}(h:CW base s w p J Q I E)(D:zB w w'):CW base s w' p J Q I E:=
 ⟨h.pe,own_below h.re D,own_below h.xe D,own_below h.se D,own_below h.le D,h.ne⟩
