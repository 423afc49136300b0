import Derived.Test.YtelmkfkgpnadnaaGreatDoorJPLD
set_option linter.all false
open Go.Proofs.Tryz
set_option maxRecDepth 100000
set_option maxHeartbeats 8000000
namespace Go.Proofs.YtelmkfkgpnadnaaGreatDoor
open Go.RowKit
namespace Lk
open Mf Ed Rn
open Pn (aA e0 ai fP Rc eh eL Whl EgW Qj tq RdA Pb aT fW rL)
theorem Jw(O:List Nat)(p:Nat):-1≤eW O p∧eW O p<O.length+1:=by
 unfold eW
 split
 ·rename_i i h
  have:=(mM.1 h).1;omega
 ·omega
theorem MH(tv rv:zV)(T:List Int)(LL:List (List Int))(hT:T.length≤9223372036854775807)(w:zW)(hml:Ml w)(ht:RdI w tv T)(hr:wh w rv LL):
  zC 9 #[tv,rv] w fun e w'=>e=.returned (.bool true)∧zB w w':=by
 have HIn:Hid (RdI w tv T∧wh w rv LL∧Ml w):=⟨ht,hr,hml⟩;have k26:=Me w hml;clear ht hr hml;go_enter func9,ntmps9
 go_wp2_with (go_at_call 26;fail)
 go_at_call 26;refine k26.mono ?_;rintro e w1 ⟨rfl,hb1⟩;have k27:=Ja 100 (by decide) tv rv T LL hT w1 (HIn.out.2.2.below hb1) (HIn.out.1.below hb1) (HIn.out.2.1.below hb1);have HB1:Hid (zB w w1):=hb1;clear k26 hb1
 go_wp2_with (go_at_call 27;fail)
 go_at_call 27;refine k27.mono ?_;rintro e w2 ⟨pb,rfl,A,X,s,now,he2,hwh,SP,hA,hb2⟩;obtain⟨cds,hval,GA⟩:=FE hwh;have HX:Hid (zB w w2∧∀b,X b→w.heap.size≤b∧b<w2.heap.size):=⟨HB1.out.trans (hb2.mono HB1.out.size),fun b e=>⟨aP HB1.out.size (hA b (he2.lt.2.1 b e)),he2.lt.1 b (he2.lt.2.1 b e)⟩⟩;have RG:=Ji hwh hval GA.bl;have HBest:Hid (jH (eh (aN T T.length) (bN LL)) cds):=GA;have HLd:Hid (Ld (mm (eh (aN T T.length) (bN LL)) cds) (eB cds) (kN (eh (aN T T.length) (bN LL)) cds) (Pn.once ([]++tG (eh (aN T T.length) (bN LL)) cds)) (eh (aN T T.length) (bN LL) 28)):=RE GA (OD T LL);have HTop:Hid (eK (aN T T.length)):=iL T _ (ag _);have k28:=tq (by decide) w2 he2;clear k27 hwh SP hA hb2 GA he2
 go_wp2_with (go_at_call 28;fail)
 go_at_call 28;refine k28.mono ?_;rintro e w3 ⟨⟨v1,v2,v3,ms,ps,ns,qs,rfl,hv,ho,hlen⟩,_,ht3⟩;rw[hval,RG] at hv;injection hv.1 with e1 e2;injection hv.2 with e3 e4;have e3':=(FN HBest.out.bl (eh (aN T T.length) (bN LL))).symm.trans e3;have e4':tG (eh (aN T T.length) (bN LL)) cds=qs:=e4;subst e1;subst e2;subst e3';subst e4';have HL1:Hid ((Pn.once ([]++tG (eh (aN T T.length) (bN LL)) cds)).length=cyU (mm (eh (aN T T.length) (bN LL)) cds) (eB cds) 7):=HLd.out.cyc
 have HN1:Hid ((kN (eh (aN T T.length) (bN LL)) cds).length=cds.length∧cds.length≤29):=by
  rw[My];exact⟨rfl,HBest.out.bl.len⟩
 have HM:Hid (∀W,zB w W→zC 34 #[.agg (bo (eB cds)),rv] W fun e w'=>e=.returned (.agg (cW (lz (mm (eh (aN T T.length) (bN LL)) cds))))∧zB W w'):=fun W hW=>Jt (eB cds) rv T LL W (HIn.out.2.1.below hW) (fun p hp=>by
  by_cases hs:eB cds p<0
  ·left;have:=Qm cds p;omega
  ·right
   obtain⟨c,hc,rfl⟩:=(uR HBest.out).1 hs;exact⟨c%4,by omega,tC HBest.out hc⟩)
 have HQ28:Hid (eh (aN T T.length) (bN LL) 28=(aN T T.length).map fP):=rfl;have HR3:Hid (w3.ownsRow w2.heap.size 29 2 v1 (cds.map aA).length (mcs (cds.map aA))):=ho.1;have HRP:Hid (RdA (fun _=>False) aT w3 v2 _):=RdA.own ho.2.1 rfl Pn.sU (fun _ e=>e.elim);have HRO:Hid (RdA (fun _=>False) fW w3 v3 _):=RdA.own ho.2.2 rfl (fun _=>rfl) (fun _ e=>e.elim);obtain⟨a1,c1,rfl⟩:=ay ho.1;obtain⟨a2,c2,rfl⟩:=ay ho.2.1;obtain⟨a3,c3,rfl⟩:=ay ho.2.2;have HB3:Hid (zB w w3):=Pn.bh HX.out.1 ht3 (fun b e=>(HX.out.2 b e).1);simp only[bE];generalize kN (eh (aN T T.length) (bN LL)) cds=O at*;generalize Pn.once ([]++tG (eh (aN T T.length) (bN LL)) cds)=P at*;generalize mm (eh (aN T T.length) (bN LL)) cds=m at*;generalize hQ:eh (aN T T.length) (bN LL) 28=Q at*;have TK:O.length≤29:=by have:=HN1.out;omega
 rw[←HN1.out.1];rw[bE,←HN1.out.1] at HR3;have k29:=fun W hW=>BX (.slice a1 O.length c1) cds HBest.out.bl W (BV (own_below HR3.out hW) (HN1.out.1.trans (bE _).symm))
 have HK29:Hid _:=k29;generalize eB cds=S at*;generalize hn:O.length=n at*;generalize hnp:P.length=np at*;have HN:Hid (O.length=n∧P.length=np):=⟨hn,hnp⟩;have TL:np≤7:=by rw[HL1.out];exact MG _ _ 7
 clear hv ho ht3 k28 hval RG hlen e3 e4 k29 hn hnp hQ HN1 HBest HR3 HX HB1;have HB4:Hid (zB w3 (w3.alloc (.cells #[.slice a1 n c1,.slice a2 np c2,.slice a3 n c3] 58))∧(w3.alloc (.cells #[.slice a1 n c1,.slice a2 np c2,.slice a3 n c3] 58)).heap[w3.heap.size]?=some (.cells #[.slice a1 n c1,.slice a2 np c2,.slice a3 n c3] 58)):=⟨(ae _ _).alloc (ag _) _,aD _ _⟩;obtain⟨⟨x0,_⟩,_,_⟩:=Pn.fd3 HB4.out.2;have k29:=HK29.out _ HB4.out.1
 go_wp2_with (go_at_call 29;fail)
 generalize w3.alloc (.cells #[.slice a1 n c1,.slice a2 np c2,.slice a3 n c3] 58)=W4 at*;refine k29.mono ?_;rintro e w5 ⟨rfl,hb5⟩
 have HB6:Hid (zB w3 (w5.alloc (.cells (bo S) 60))∧(w5.alloc (.cells (bo S) 60)).heap[w3.heap.size]?=some (.cells #[.slice a1 n c1,.slice a2 np c2,.slice a3 n c3] 58)∧(w5.alloc (.cells (bo S) 60)).heap[w5.heap.size]?=some (.cells (bo S) 60)∧w3.heap.size<w5.heap.size):=by
  have b5:=HB4.out.1.trans (hb5.mono HB4.out.1.size);have g5:=(hb5.block _ (ai HB4.out.2)).trans HB4.out.2;exact⟨b5.alloc b5.size _,(aG _ _ _ (ai g5)).trans g5,aD _ _,ai g5⟩
 clear k29 hb5 HB4 x0 HK29;obtain⟨⟨y0,_⟩,_,⟨y2,_⟩⟩:=Pn.fd3 HB6.out.2.1;have k34:=HM.out _ (HB3.out.trans (HB6.out.1.mono HB3.out.size));have HRW:Hid (∀c:Array zV,(w5.alloc (.cells c 60)).setRow w5.heap.size (bo S)=w5.alloc (.cells (bo S) 60)):=fun c=>World.setRow_alloc_new _ _ _ _
 have hnn:(((n:Nat):Int) !=(n:Int))=false:=by simp
 go_wp2_with (first
  |(refine wpList_store_row rfl 60 _ _ rfl w5.heap.size (bo S) rfl rfl 60 z7 (aD w5 _) (by kernel_rfl) rfl (SJ S) ?_;rw[HRW.out])
  |refine wpList_load_row rfl 60 _ rfl w5.heap.size rfl 60 (bo S) (0,0) _ HB6.out.2.2.1 underlying60 rfl (by kernel_rfl) ?_
  |(go_at_call 34;fail))
 generalize hW6:w5.alloc (.cells (bo S) 60)=W6 at*;refine k34.mono ?_;rintro e w7 ⟨rfl,hb7⟩;have HQ7:Hid _:=Pn.yE w7 (.cells (cW (lz m)) 72) (.cells (bo (fun _=>0)) 60)
 have HL0:Hid (Ls w3 w3.heap.size w5.heap.size w7.heap.size #[.slice a1 n c1,.slice a2 np c2,.slice a3 n c3] S m (fun q=>if q<0 then -1 else 0) ((w7.alloc (.cells (cW (lz m)) 72)).alloc (.cells (bo (fun _=>0)) 60))):=by
  have b7:=HB6.out.1.trans (hb7.mono HB6.out.1.size);have g8:=(hb7.block _ (ai HB6.out.2.1)).trans HB6.out.2.1;have g9:=(hb7.block _ (ai HB6.out.2.2.1)).trans HB6.out.2.2.1;refine⟨b7.trans (HQ7.out.1.mono b7.size),(HQ7.out.1.block _ (ai g8)).trans g8,(HQ7.out.1.block _ (ai g9)).trans g9,HQ7.out.2.1,?_,ag _,HB6.out.2.2.2,ai g9⟩;rw[HQ7.out.2.2,fL (fun q _=>?_)];rw[af (dz _)]
 clear HQ7 k34 hb7 hW6 HRW HB6 y0 y2 hnn HM;have HRW:Hid (∀c:Array zV,(w7.alloc (.cells c 72)).setRow w7.heap.size (cW (lz m))=w7.alloc (.cells (cW (lz m)) 72)):=fun c=>World.setRow_alloc_new _ _ _ _
 go_wp2_with (refine wpList_store_row rfl 72 _ _ rfl w7.heap.size (cW (lz m)) rfl rfl 72 z49 (aD w7 _) (by kernel_rfl) rfl (OE (lz m)) ?_;rw[HRW.out])
 clear HRW;obtain⟨vs,hvs⟩:∃vs:Array zV,vs=#[.slice a1 n c1,.slice a2 np c2,.slice a3 n c3]:=⟨_,rfl⟩;rw[←hvs] at HL0;have HVs:Hid (vs=#[.slice a1 n c1,.slice a2 np c2,.slice a3 n c3]):=hvs;clear hvs
 have HF8:Hid (∀(g:Nat→Int) W,Ls w3 w3.heap.size w5.heap.size w7.heap.size vs S m g W→W.cell? ⟨w3.heap.size,1,none⟩=some (.slice a2 np c2)∧W.cell? ⟨w3.heap.size,2,none⟩=some (.slice a3 n c3)):=fun g W h=>by
  have h8:=h.h8;rw[HVs.out] at h8;exact⟨(Pn.fd3 h8).2.1.1,(Pn.fd3 h8).2.2.1⟩
 generalize hb8:w3.heap.size=b8 at*;generalize hb9:w5.heap.size=b9 at*;generalize TM:w7.heap.size=b11 at*;clear hb8 hb9 HVs;go_loopg [13] 7 (fun gg pv wr=>∃p:Nat,p≤7∧7-p≤gg∧pv=zI p∧Hid (Ls w3 b8 b9 b11 vs S m (fun q=>if q<p then -1 else 0) wr))
 case atStart=>exact⟨0,by omega,by omega,rfl,HL0⟩
 case round=>
  obtain⟨p,hp,hg,rfl,HS⟩:=hrel;by_cases hlt:p<7
  ·have gN:(p:Int)<7:=by omega
   obtain⟨x0,x1⟩:=nK HS.out.h12 hlt
   have HS2:Hid (Ls w3 b8 b9 b11 vs S m (fun q=>if q<p+1 then -1 else 0) (wr.setCell ⟨b11+1,p,none⟩ (zI (-1)))):=HS.out.set hlt (-1) (fun q _=>by
    show(if q=p then -1 else (if q<p then -1 else 0))=(if q<p+1 then (-1:Int) else 0);by_cases e:q=p
    ·rw[ah e,ah (by omega)]
    ·rw[af e]
     by_cases e2:q<p
     ·rw[ah e2,ah (by omega)]
     ·rw[af e2,af (by omega)])
   as_aux_lemma=>
    go_wp2;go_roundg (7-(p+1))
    case measure=>omega
    case rel=>exact⟨p+1,by omega,by omega,by go_num,HS2⟩
  ·have gN:¬(p:Int)<7:=by omega
   have HS3:Hid (Ls w3 b8 b9 b11 vs S m (eW (O.take 0)) wr):=HS.out.congr (fun q hq=>by rw[ah (by omega)];rfl);clear HS;go_wp2;go_loopg [14,15] n (fun gg rt iv wr=>∃i:Nat,i≤n∧n-i≤gg∧iv=zI i∧rt=zI (eW (O.take i) 7)∧Hid (Ls w3 b8 b9 b11 vs S m (eW (O.take i)) wr))
   case atStart=>exact⟨0,by omega,by omega,rfl,rfl,HS3⟩
   case round=>
    obtain⟨i,hi,hgi,rfl,rfl,HS⟩:=hrel;by_cases hlj:i<n
    ·have Mj:(i:Int)<(n:Int):=by omega
     have hiO:i<O.length:=by have:=HN.out.1;omega
     obtain⟨b,o,k,eg,hcell⟩:=Qq HRO.out (aO hiO);injection eg with eg1 eg2 eg3;clear eg2 eg3;subst eg1;have HPl:Hid (∀q,eW (O.take i) (O[i]/4)=-1∧eW (O.take (i+1)) q=if q=O[i]/4 then (i:Int) else eW (O.take i) q):=fun q=>Jr HLd.out.nd hiO q
     have nL:O[i]≤28:=HLd.out.oc _ (bL hiO);have HSe:Hid (O[i]<28→¬S (O[i]/4)<0):=fun h=>HLd.out.se _ (bL hiO) h
     have HCe:Hid (∀W,zB wr W→W.cell? ⟨b,o+i,none⟩=some (.string (aA O[i]).1)∧W.cell? ⟨b8,2,none⟩=some (.slice (some ⟨b,o,none⟩) n c3)∧Ls w3 b8 b9 b11 vs S m (eW (O.take i)) W):=fun W hW=>by
      have h:=HS.out.below hW;exact⟨hcell W h.b,(HF8.out _ _ h).2,h⟩
     clear hcell;generalize O[i]=c at*;obtain⟨x0,x8,_⟩:=HCe.out wr (ae _ _);by_cases hc:c=28
     ·subst hc
      have em:(aA 28).1=⟨#[114]⟩:=rfl;rw[em] at x0 HCe;have k35:=ku ⟨#[114]⟩ (-1) wr QS;have hrt:eW (O.take i) 7=-1:=(HPl.out 0).1;have HRt:Hid (eW (O.take (i+1)) 7=(i:Int)):=by rw[(HPl.out 7).2];exact ah rfl
      have HSn:Hid (∀W,zB wr W→Ls w3 b8 b9 b11 vs S m (eW (O.take (i+1))) W):=fun W hW=>(HCe.out W hW).2.2.congr (fun q hq=>by rw[(HPl.out q).2,af (by omega)])
      rw[hrt];clear hrt HPl HSe HS nL em
      as_aux_lemma=>
       go_wp2_with (go_at_call 35;refine k35.mono ?_;rintro e w1 ⟨rfl,hb1⟩;obtain⟨z0,z8,_⟩:=HCe.out w1 hb1)
       go_roundg (n-(i+1))
       case measure=>omega
       case rel=>exact⟨i+1,by omega,by omega,by go_num,by rw[HRt.out],HSn.out w1 hb1⟩
     ·have hp7:c/4<7:=by omega
      have q1:((aA c).1.toList==[114])=false:=by
       have:=OC nL;simp only[eH.2 hc] at this;rw[←this];simp[dV]
      have em:(aA c).1=ba (pW (c/4)):=bW Prod.fst (af hc:aA c=(ba (pW (c/4)),ba (vW (c%4))))
      have k35:zC 35 #[.string (aA c).1] wr fun e w'=>e=.returned (zI ((c/4:Nat):Int))∧zB wr w':=by
       rw[em];exact ku _ _ wr (Gf hp7)
      have HRt:Hid (eW (O.take (i+1)) 7=eW (O.take i) 7):=by rw[(HPl.out 7).2];exact af (by omega)
      have HSn:Hid (∀W,zB wr W→Ls w3 b8 b9 b11 vs S m (eW (O.take (i+1))) (W.setCell ⟨b11+1,c/4,none⟩ (zI (i:Int)))∧(W.cell? ⟨b11+1,c/4,none⟩=some (zI (-1))∧W.frozen? ⟨b11+1,c/4,none⟩=false)∧W.cell? ⟨b9,c/4,none⟩=some (zI (S (c/4)))):=fun W hW=>by
       have h:=(HCe.out W hW).2.2;have g:=nK h.h12 hp7;rw[(HPl.out 0).1] at g;exact⟨h.set hp7 _ (fun q _=>(HPl.out q).2.symm),g,(nK h.h9 hp7).1⟩
      have hs0:¬S (c/4)<0:=HSe.out (by omega);have hs1:(0:Int)≤S (c/4):=by omega
      have hpI:(0:Int)≤((c/4:Nat):Int):=by omega
      have Rt:((c/4:Nat):Int)<7:=by omega
      clear HPl HSe HS nL em hc;generalize (aA c).1=X1 at*;generalize c/4=p at*;generalize S p=sp at*;generalize eW (O.take i) 7=rr at*
      as_aux_lemma=>
       go_wp2_with (go_at_call 35;refine k35.mono ?_;rintro e w1 ⟨rfl,hb1⟩;obtain⟨z0,z8,_⟩:=HCe.out w1 hb1;obtain⟨hg1,⟨hg2,hg3⟩,hg4⟩:=HSn.out w1 hb1;have HG:Hid _:=hg1;clear hg1)
       go_roundg (n-(i+1))
       case measure=>omega
       case rel=>exact⟨i+1,by omega,by omega,by go_num,by rw[HRt.out],HG.out⟩
    ·have Mj:¬(i:Int)<(n:Int):=by omega
     obtain⟨_,x8⟩:=HF8.out _ _ HS.out;have hOt:O.take i=O:=by rw[show i=O.length by have:=HN.out.1;omega];exact lJ
     rw[hOt];have HS4:Hid (Ls w3 b8 b9 b11 vs S m (eW O) wr):=by have:=HS.out;rw[hOt] at this;exact this
     have HPb:Hid (∀p,-1≤eW O p∧eW O p≤30):=fun p=>by have:=Jw O p;have:=HN.out.1;omega
     have HNeed:Hid (∀p q,p<7→q<7→m p q=true→m q p=false→eW O q<eW O p):=HLd.out.need;have HGrp:Hid (∀p,p<7→0≤S p→∃st:Nat,∀k q,(cu m p)[k]?=some q→eW O q=((st+k:Nat):Int)):=fun p hp hs=>HLd.out.grp p hp (by omega)
     have HTopF:Hid (∀y∈Q,y<28∧eW O (y/4)≤eW O 7):=HLd.out.top;have HTold:Hid (∀p,p<7→0≤S p→((10,ba (pW ((cu m p)[0]?.getD 0)),dR (cu m p))∈P↔1<(cu m p).length)):=fun p hp hs=>HLd.out.told p hp (by omega)
     clear HS hOt HRO HLd;generalize eW O=f at*;go_wp2;go_loopg [17,18] 7 (fun gg cv pv wr=>∃p:Nat,p≤7∧7-p≤gg∧pv=zI p∧cv=zI ((cyU m S p:Nat):Int)∧Hid (Ls w3 b8 b9 b11 vs S m f wr))
     case atStart=>exact⟨0,by omega,by omega,rfl,rfl,HS4⟩
     case round=>
      obtain⟨p,hp3,hg3,rfl,rfl,HS⟩:=hrel;by_cases hlt:p<7
      ·have RH:(p:Int)<7:=by omega
       obtain⟨x9,_⟩:=nK HS.out.h9 hlt;obtain⟨x12,_⟩:=nK HS.out.h12 hlt;have HCy:=MF m S p;have TN:=MG m S p;by_cases hs:S p<0
       ·have HC0:Hid (cyU m S (p+1)=cyU m S p):=by rw[HCy,af (fun h=>h.1 hs)];rfl
        clear HCy x12;generalize S p=sp at*
        as_aux_lemma=>
         go_wp2;go_roundg (7-(p+1))
         case measure=>omega
         case rel=>exact⟨p+1,by omega,by omega,by go_num,by rw[HC0.out],HS⟩
       ·have hs0:0≤S p:=by omega
        obtain⟨st,hst⟩:=HGrp.out p hlt hs0;have HSt:Hid (∀k q,(cu m p)[k]?=some q→f q=((st+k:Nat):Int)):=hst
        have HCy':Hid (cyU m S (p+1)=cyU m S p+(if 1<(cu m p).length∧(cu m p)[0]?=some p then 1 else 0)):=by
         refine HCy.trans ?_;by_cases hh:1<(cu m p).length∧(cu m p)[0]?=some p
         ·rw[ah hh,ah ⟨hs,hh⟩]
         ·rw[af hh,af (fun h=>hh h.2)]
        have HTo:Hid ((10,ba (pW ((cu m p)[0]?.getD 0)),dR (cu m p))∈P↔1<(cu m p).length):=HTold.out p hlt hs0;clear HCy hst hs0;generalize S p=sp at x9 hs;generalize SQ:cyU m S p=cyp at*;clear SQ;go_wp2;go_loopg [19,20,21,22] 7 (fun gg lv sv nv qv wr=>∃q:Nat,q≤7∧7-q≤gg∧qv=zI q∧lv=zI (jI f m p st q)∧sv=zI (((fM m p q).length:Nat):Int)∧nv=.string (dR (fM m p q))∧Hid (Ls w3 b8 b9 b11 vs S m f wr))
        case atStart=>exact⟨0,by omega,by omega,rfl,rfl,rfl,rfl,HS⟩
        case round=>
         obtain⟨q,hq,hgq,rfl,rfl,rfl,rfl,HS⟩:=hrel;by_cases hlq:q<7
         ·have MI:(q:Int)<7:=by omega
          have HC4:Hid (∀W,zB wr W→W.cell? ⟨b11,p*7+q,none⟩=some (.bool (m p q))∧W.cell? ⟨b11,q*7+p,none⟩=some (.bool (m q p))∧W.cell? ⟨b11+1,q,none⟩=some (zI (f q))∧W.cell? ⟨b11+1,p,none⟩=some (zI (f p))):=fun W hW=>by
           have h:=HS.out.below hW;exact⟨(h.h11.get hlt hlq).1,(h.h11.get hlq hlt).1,(nK h.h12 hlq).1,(nK h.h12 hlt).1⟩
          have TP:=tJ m p q;by_cases hin:(q==p||(m p q&&m q p))=true
          ·have hLS:=MC hlt hlq HSt.out hin
           have HT:Hid ((f q<jI f m p st q∧jI f m p st (q+1)=f q)∨(¬f q<jI f m p st q∧jI f m p st (q+1)=jI f m p st q)):=by
            by_cases hh:f q<jI f m p st q
            ·exact Or.inl ⟨hh,by rw[hLS.1,hLS.2.1 hh]⟩
            ·exact Or.inr ⟨hh,by rw[hLS.1,hLS.2.2 hh]⟩
           have HU:Hid ((¬(0:Int)<(((fM m p q).length:Nat):Int)∧dR (fM m p (q+1))=dR (fM m p q)++ba (pW q))∨((0:Int)<(((fM m p q).length:Nat):Int)∧dR (fM m p (q+1))=dR (fM m p q)++⟨#[32]⟩++ba (pW q))):=by
            rw[wD hin];by_cases hh:fM m p q=[]
            ·rw[hh]
             exact Or.inl ⟨by decide,by rw[jS,AO,Jq,show e0=ba [] from rfl,iM];rfl⟩
            ·have:=gp.2 hh
             exact Or.inr ⟨by omega,FP hh q⟩
           have HZ:Hid ((fM m p (q+1)).length=(fM m p q).length+1):=by rw[wD hin,bg];rfl
           have HV:Hid ((((q:Nat):Int)==(p:Int))=true∧m p q=false∧m q p=false∨(((q:Nat):Int)==(p:Int))=true∧m p q=true∧m q p=true∨(((q:Nat):Int)==(p:Int))=false∧m p q=true∧m q p=true):=by
            by_cases hqp:q=p
            ·subst hqp
             cases hm:m q q
             ·exact Or.inl ⟨by simp,rfl,rfl⟩
             ·exact Or.inr (Or.inl ⟨by simp,rfl,rfl⟩)
            ·have:(q==p)=false:=eH.2 hqp
             rw[this,Bool.false_or,cG] at hin;exact Or.inr (Or.inr ⟨eH.2 (by omega),hin⟩)
           have hnm:(dR (fM m p q)).size≤21:=by
            by_cases hh:fM m p q=[]
            ·rw[hh];exact aK _
            ·have:=nN (L:=fM m p q) (fun x hx=>by have:=cH.1 (List.mem_filter.1 hx).1;omega) hh
             omega
           have hxs:(ba (pW q)).size≤2:=by rw[iz,lg q hlq];exact ag _
           clear hin hLS;generalize jI f m p st q=lo at*;generalize dR (fM m p q)=nm at*;generalize (fM m p q).length=sz at*;generalize hxq:ba (pW q)=xq at*;generalize f q=fq at*;generalize f p=fp at*;rcases HT.out with⟨t1,t2⟩|⟨t1,t2⟩<;>rcases HU.out with⟨u1,u2⟩|⟨u1,u2⟩<;>rcases HV.out with⟨v1,v2,v3⟩|⟨v1,v2,v3⟩|⟨v1,v2,v3⟩
           all_goals
            have T2:Hid _:=t2;have U2:Hid _:=u2;rw[v2,v3] at HC4;clear t2 u2 HT HU HV v2 v3;obtain⟨r1,r2,r3,r4⟩:=HC4.out wr (ae _ _)
            as_aux_lemma=>
             go_upto_region 36 with fail;go_quiet (fail);generalize hW:World.drewN _ _=W4;have hb4:zB wr W4:=by rw[←hW];exact aZ (ae _ _) _
             clear hW r1 r2 r3 r4;obtain⟨r1,r2,r3,r4⟩:=HC4.out W4 hb4;have k16:=wy q hlq W4;rw[hxq] at k16;have HL5:Hid (∀W,zB W4 W→Ls w3 b8 b9 b11 vs S m f W):=fun W hW=>(HS.out.below hb4).below hW
             go_wp2_with (go_at_call 16;refine k16.mono ?_;rintro e w5 ⟨rfl,hb5⟩)
             go_roundg (7-(q+1))
             case measure=>omega
             case rel=>exact⟨q+1,by omega,by omega,by go_num,by rw[T2.out],by rw[HZ.out];go_num,by rw[U2.out],HL5.out w5 hb5⟩
          ·have Ol:(q==p||(m p q&&m q p))=false:=by simpa using hin
           have HE:Hid (jI f m p st (q+1)=jI f m p st q∧(fM m p (q+1)).length=(fM m p q).length∧dR (fM m p (q+1))=dR (fM m p q)):=⟨Oj Ol,by rw[tH Ol],by rw[tH Ol]⟩;have hqp:q≠p:=fun e=>by rw[e] at hin;simp at hin
           have v1:(((q:Nat):Int)==(p:Int))=false:=eH.2 (by omega)
           have HV:Hid (m p q=false∨m p q=true∧m q p=false∧¬f p<f q):=by
            cases h1:m p q
            ·exact Or.inl rfl
            ·cases h2:m q p
             ·exact Or.inr ⟨rfl,rfl,by have:=HNeed.out p q hlt hlq h1 h2;omega⟩
             ·rw[h1,h2] at hin;simp at hin
           clear hin Ol hqp;generalize jI f m p st q=lo at*;generalize dR (fM m p q)=nm at*;generalize (fM m p q).length=sz at*;generalize f q=fq at*;generalize f p=fp at*;rcases HV.out with v2|⟨v2,v3,v4⟩
           all_goals
            rw[v2] at HC4
            (try rw[v3] at HC4)
            clear HV v2
            (try clear v3)
            obtain⟨r1,r2,r3,r4⟩:=HC4.out wr (ae _ _)
            as_aux_lemma=>
             go_upto_region 36 with fail;go_quiet (fail);generalize hW:World.drewN _ _=W4;have hb4:zB wr W4:=by rw[←hW];exact aZ (ae _ _) _
             clear hW r1 r2 r3 r4;obtain⟨r1,r2,r3,r4⟩:=HC4.out W4 hb4;go_wp2;go_roundg (7-(q+1))
             case measure=>omega
             case rel=>exact⟨q+1,by omega,by omega,by go_num,by rw[HE.out.1],by rw[HE.out.2.1],by rw[HE.out.2.2],HS.out.below hb4⟩
         ·have MI:¬(q:Int)<7:=by omega
          have e7:q=7:=by omega
          subst e7;have hmem:p∈cu m p:=jk.2 ⟨hlt,Or.inl rfl⟩;have hne:cu m p≠[]:=List.ne_nil_of_mem hmem;have hlo:jI f m p st 7=st:=by unfold jI;rw[El,af hne]
          have hn2:=MD (fun q hq=>(jk.1 hq).1) hne;have TQ:(cu m p).length≤7:=tJ m p 7;have hfp:=HSt.out _ _ (wF (m:=m) (p:=p) hlt (by simp));rw[←pJ m p p (ag _)] at hfp;have hbd:=HPb.out p;have HFp:Hid (f p=((st+oh m p p:Nat):Int)∧st+oh m p p≤30):=⟨hfp,by omega⟩;have SZ:st≤30:=by omega
          have HHd:Hid ((cu m p)[0]?=some p↔oh m p p=0):=ME hlt;rw[hlo,El];have hsl:=fun W=>Ju (dR (cu m p)) _ hn2.1 hn2.2 W
          have HX:Hid (kK P (10,ba (pW ((cu m p)[0]?.getD 0)),dR (cu m p)) np=decide (1<(cu m p).length)):=by
           rw[eu,iI,←HN.out.2];exact(Jv _ _).trans HTo.out
          clear hmem hne hlo hn2 hfp hbd HTo hq hgq MI;generalize dR (cu m p)=nm at*;generalize ba (pW ((cu m p)[0]?.getD 0))=x2 at*;generalize SR:(cu m p).length=sz at*;clear SR;go_wp2;go_loopg [23,24] np (fun gg tv iv wr=>∃j:Nat,j≤np∧np-j≤gg∧iv=zI j∧tv=.bool (kK P (10,x2,nm) j)∧Hid (Ls w3 b8 b9 b11 vs S m f wr))
          case atStart=>exact⟨0,by omega,by omega,rfl,rfl,HS⟩
          case round=>
           obtain⟨j,hj,hgj,rfl,rfl,HS⟩:=hrel;by_cases TR:j<np
           ·have RI:(j:Int)<(np:Int):=by omega
            have hjP:j<P.length:=by have:=HN.out.2;omega
            obtain⟨b,o,k,eg,hcell⟩:=RF HRP.out (aO hjP);injection eg with eg1 eg2 eg3;clear eg2 eg3;subst eg1;have HTs:Hid (kK P (10,x2,nm) (j+1)=(kK P (10,x2,nm) j||decide (P[j]=(10,x2,nm)))):=FQ (aO hjP);obtain⟨x8,_⟩:=HF8.out _ _ HS.out;obtain⟨y0,y1,y2⟩:=hcell wr HS.out.b;clear hcell;obtain⟨⟨pk,s1,s2⟩,hPj⟩:∃x,P[j]=x:=⟨_,rfl⟩;rw[hPj] at HTs y0 y1 y2;clear hPj;generalize kK P (10,x2,nm) j=tj at*;have HDr:Hid (∀k,Ls w3 b8 b9 b11 vs S m f (wr.drewN k)):=fun k=>HS.out.below (aZ (ae _ _) k)
            cases tj
            ·have HV:Hid ((((pk:Nat):Int)==10)=true∧(s1.toList==x2.toList)=true∧(s2.toList==nm.toList)=true∧kK P (10,x2,nm) (j+1)=true∨(((pk:Nat):Int)==10)=true∧(s1.toList==x2.toList)=true∧(s2.toList==nm.toList)=false∧kK P (10,x2,nm) (j+1)=false∨(((pk:Nat):Int)==10)=true∧(s1.toList==x2.toList)=false∧(s2.toList==s2.toList)=true∧kK P (10,x2,nm) (j+1)=false∨(((pk:Nat):Int)==10)=false∧(s1.toList==s1.toList)=true∧(s2.toList==s2.toList)=true∧kK P (10,x2,nm) (j+1)=false):=by
              rw[HTs.out,Bool.false_or];by_cases t0:pk=10
              ·subst t0
               by_cases t1:s1=x2
               ·subst t1
                by_cases t2:s2=nm
                ·subst t2
                 exact Or.inl ⟨by simp,by simp,by simp,by simp⟩
                ·exact Or.inr (Or.inl ⟨by simp,by simp,dr t2,by simp[t2]⟩)
               ·exact Or.inr (Or.inr (Or.inl ⟨by simp,dr t1,by simp,by simp[t1]⟩))
              ·exact Or.inr (Or.inr (Or.inr ⟨eH.2 (by omega),by simp,by simp,by simp[t0]⟩))
             clear HTs;rcases HV.out with⟨t0,t1,t2,t3⟩|⟨t0,t1,t2,t3⟩|⟨t0,t1,t2,t3⟩|⟨t0,t1,t2,t3⟩
             all_goals
              have T3:Hid _:=t3;clear t3 HV
              as_aux_lemma=>
               go_upto_region 49 with fail;go_quiet (fail);go_wp2;go_roundg (np-(j+1))
               case measure=>omega
               case rel=>exact⟨j+1,by omega,by omega,by go_num,by rw[T3.out],HDr.out _⟩
            ·have T3:Hid (kK P (10,x2,nm) (j+1)=true):=by rw[HTs.out];rfl
             clear HTs
             as_aux_lemma=>
              go_upto_region 49 with fail;go_quiet (fail);go_wp2;go_roundg (np-(j+1))
              case measure=>omega
              case rel=>exact⟨j+1,by omega,by omega,by go_num,by rw[T3.out],HDr.out _⟩
           ·have RI:¬(j:Int)<(np:Int):=by omega
            obtain⟨x8,_⟩:=HF8.out _ _ HS.out;have ej:j=np:=by omega
            subst ej;rw[HX.out];have htt:decide ((1:Int)<((sz:Nat):Int))=decide (1<sz):=by rw[decide_eq_decide];omega
            generalize decide (1<sz)=tt at*;clear HX hsl;have SS:=tJ m p p;rw[←pJ m p p (ag _)] at SS;go_wp2;go_loopg [25,26] p (fun gg bv qv wr=>∃q:Nat,q≤p∧p-q≤gg∧qv=zI q∧bv=zI ((oh m p q:Nat):Int)∧Hid (Ls w3 b8 b9 b11 vs S m f wr))
            case atStart=>exact⟨0,by omega,by omega,rfl,rfl,HS⟩
            case round=>
             obtain⟨q,hq,hgq,rfl,rfl,HS⟩:=hrel;by_cases hlq:q<p
             ·have MI:(q:Int)<(p:Int):=by omega
              have TS:(q:Int)<7:=by omega
              have g1:=(HS.out.h11.get hlt (show q<7 by omega)).1;have g2:=(HS.out.h11.get (show q<7 by omega) hlt).1;have HBs:Hid (oh m p (q+1)=oh m p q+(if (m p q&&m q p)=true then 1 else 0)):=AL m p q;have hbq:=tJ m p q;rw[←pJ m p q (by omega)] at hbq;generalize hm1:m p q=x1 at*;generalize hm2:m q p=x2' at*;clear hm1 hm2;generalize oh m p q=bq at*;cases x1
              ·have HB0:Hid (oh m p (q+1)=bq):=HBs.out
               clear HBs
               as_aux_lemma=>
                go_wp2;go_roundg (p-(q+1))
                case measure=>omega
                case rel=>exact⟨q+1,by omega,by omega,by go_num,by rw[HB0.out],HS⟩
              ·cases x2'
               ·have HB0:Hid (oh m p (q+1)=bq):=HBs.out
                clear HBs
                as_aux_lemma=>
                 go_wp2;go_roundg (p-(q+1))
                 case measure=>omega
                 case rel=>exact⟨q+1,by omega,by omega,by go_num,by rw[HB0.out],HS⟩
               ·have HB0:Hid (oh m p (q+1)=bq+1):=HBs.out
                clear HBs
                as_aux_lemma=>
                 go_wp2;go_roundg (p-(q+1))
                 case measure=>omega
                 case rel=>exact⟨q+1,by omega,by omega,by go_num,by rw[HB0.out];go_num,HS⟩
             ·have MI:¬(q:Int)<(p:Int):=by omega
              have eq:p=q:=by omega
              have HS9:Hid (Ls w3 b8 b9 b11 vs S m f wr):=HS;obtain⟨y12,_⟩:=nK HS.out.h12 hlt;have hne:(f p !=(st:Int)+((oh m p p:Nat):Int))=false:=by rw[HFp.out.1];simp
              rw[←eq];clear HFp eq MI hq hgq HS x12;generalize oh m p p=bf at*;generalize f p=fp at*;cases tt
              ·have h1:¬(1:Int)<((sz:Nat):Int):=oD htt
               have HC0:Hid (cyU m S (p+1)=cyp):=by
                have:=HCy'.out;rw[af (fun h=>by omega)] at this;exact this
               clear htt HCy'
               as_aux_lemma=>
                go_wp2;go_roundg (7-(p+1))
                case measure=>omega
                case rel=>exact⟨p+1,by omega,by omega,by go_num,by rw[HC0.out],HS9⟩
              ·have h1:(1:Int)<((sz:Nat):Int):=gH htt
               by_cases hb0:bf=0
               ·subst hb0
                have HC0:Hid (cyU m S (p+1)=cyp+1):=by
                 have:=HCy'.out;rw[ah ⟨by omega,HHd.out.2 rfl⟩] at this;exact this
                clear htt HCy' HHd
                as_aux_lemma=>
                 go_wp2;go_roundg (7-(p+1))
                 case measure=>omega
                 case rel=>exact⟨p+1,by omega,by omega,by go_num,by rw[HC0.out];go_num,HS9⟩
               ·have hb1:(((bf:Nat):Int)==0)=false:=eH.2 (by omega)
                have HC0:Hid (cyU m S (p+1)=cyp):=by
                 have:=HCy'.out;rw[af (fun h=>hb0 (HHd.out.1 h.2))] at this;exact this
                clear htt HCy' HHd
                as_aux_lemma=>
                 go_wp2;go_roundg (7-(p+1))
                 case measure=>omega
                 case rel=>exact⟨p+1,by omega,by omega,by go_num,by rw[HC0.out],HS9⟩
      ·have RH:¬(p:Int)<7:=by omega
       have e7:p=7:=by omega
       subst e7;rw[←HL1.out];have k14:=nJ tv T wr hT (HIn.out.1.below (HB3.out.trans (HS.out.b.mono HB3.out.size)));clear RH hg3 hp3 HTold HGrp HNeed HPb HRP HL1 HS4
       go_wp2_with (go_at_call 14;refine k14.mono ?_;rintro e w14 ⟨lv,rfl,RJ,RL⟩)
       have H14:Hid (Ls w3 b8 b9 b11 vs S m f w14∧w14.ownsRow wr.heap.size 29 2 lv Q.length (mcs (Q.map aA))):=by
        refine⟨HS.out.below RL,?_⟩;rw[HQ28.out,←AE HTop.out,bE];exact RJ
       have hQ7:Q.length≤7:=by rw[HQ28.out,bE];exact HTop.out.len
       obtain⟨la,lc,rfl⟩:=ay H14.out.2;generalize SU:wr.heap.size=B14 at*;clear SU k14 RJ RL HS HIn;generalize f 7=rt at*;go_loopg [28] Q.length (fun gg iv wr=>∃i:Nat,i≤Q.length∧Q.length-i≤gg∧iv=zI i∧Hid (Ls w3 b8 b9 b11 vs S m f wr∧wr.ownsRow B14 29 2 (.slice la Q.length lc) Q.length (mcs (Q.map aA))))
       case atStart=>exact⟨0,by omega,by omega,rfl,H14⟩
       case round=>
        obtain⟨i,hi7,TT,rfl,HI⟩:=hrel;by_cases hli:i<Q.length
        ·have MB:(i:Int)<(Q.length:Int):=by omega
         obtain⟨b,o,e1,hcell⟩:=Ms HI.out.2 (aO hli);have hy:=HTopF.out _ (bL hli);have em:(aA Q[i]).1=ba (pW (Q[i]/4)):=bW Prod.fst (af (by omega):aA Q[i]=(ba (pW (Q[i]/4)),ba (vW (Q[i]%4))));obtain⟨y0,_⟩:=hcell wr (ae _ _);rw[em] at y0;subst e1;have hx7:Q[i]/4<7:=by omega
         have k35:=ku _ _ wr (Gf hx7);have hgt:¬rt<f (Q[i]/4):=by omega
         have TU:((Q[i]/4:Nat):Int)<7:=by omega
         have HGt:Hid (∀W,zB wr W→W.cell? ⟨b11+1,Q[i]/4,none⟩=some (zI (f (Q[i]/4)))):=fun W hW=>(nK (HI.out.1.below hW).h12 hx7).1
         have HI2:Hid (∀W,zB wr W→Ls w3 b8 b9 b11 vs S m f W∧W.ownsRow B14 29 2 (.slice (some ⟨b,o,none⟩) Q.length lc) Q.length (mcs (Q.map aA))):=fun W hW=>⟨HI.out.1.below hW,own_below HI.out.2 hW⟩
         clear hcell em hy HI;generalize ba (pW (Q[i]/4))=X1 at*;generalize Q[i]/4=x at*;generalize f x=fx at*
         as_aux_lemma=>
          go_wp2_with (go_at_call 35;refine k35.mono ?_;rintro e w5 ⟨rfl,hb5⟩;have g1:=HGt.out w5 hb5)
          go_roundg (Q.length-(i+1))
          case measure=>omega
          case rel=>exact⟨i+1,by omega,by omega,by go_num,HI2.out w5 hb5⟩
        ·have MB:¬(i:Int)<(Q.length:Int):=by omega
         obtain⟨x8,_⟩:=HF8.out _ _ HI.out.1;have hnp:(((np:Nat):Int)==(np:Int))=true:=by simp
         have HBe:Hid (zB w wr):=HB3.out.trans (HI.out.1.b.mono HB3.out.size);clear HI;go_wp2;go_ret;exact⟨rfl,HBe.out⟩
