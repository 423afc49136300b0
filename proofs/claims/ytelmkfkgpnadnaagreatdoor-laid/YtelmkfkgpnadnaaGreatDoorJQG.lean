import Derived.Test.YtelmkfkgpnadnaaGreatDoorJQF
import Derived.Test.YtelmkfkgpnadnaaGreatDoorJXA
import Derived.Test.YtelmkfkgpnadnaaGreatDoorJCC
import Derived.Test.YtelmkfkgpnadnaaGreatDoorJCB
set_option linter.all false
open Go.Proofs.Tryz
set_option maxRecDepth 100000
set_option maxHeartbeats 4000000
namespace Go.Proofs.YtelmkfkgpnadnaaGreatDoor
open Go.RowKit
namespace Mf
variable{w w':zW}
theorem oW(s:zA)(rp:Nat)(w:zW)(hs:s.size≤2000)(hm:Ml w)(h0:rp≠0)(hv:gu w rp 6 rdF):
  zC 86 #[zP rp,.string s] w fun e w'=>∃(good:List OLn)(au:List (Nat×Nat×Nat))(m q:Nat)(rv lv:zV),e=.returned (.tuple #[rv,lv])∧(Tx.spoken 1 (Pv.spl 10 s.data.toList)).foldl (Tx.bw false Pv.aH 20) nY=⟨eI good,au,m,q⟩∧(∀g∈good,∃ks,Ok g.2 ks)∧good.length≤2001∧au.length≤2001∧Fr (fun b=>b=rp) w w'∧
   ((jD m au≠[]∧rv=zN∧w'.ownsRow w.heap.size 45 3 lv (jD m au).length (dF (jD m au)))∨(jD m au=[]∧lv=zN∧w'.ownsRow w.heap.size 155 4 rv good.length (bU (good.map fun g=>dS g.2)))):=by
 have hsI:((s.size:Int)≤2000):=by omega
 obtain⟨i9,hi1,hi2,hi3,hi4⟩:=JQ;have HI:Hid (prog.info? 45=some i9∧i9.zero=some (.agg #[zI 0,zI 0,zI 0])∧i9.size=3∧i9.bytes=24):=⟨hi1,hi2,hi3,hi4⟩;clear hi1 hi2 hi3 hi4;obtain⟨l,hl,hz,ks⟩:=uY s (by omega)
 have hll:l.length≤2001:=by
  have h1:=bW List.length hl;have h2:=Dr.spl_len_count 10 s.data.toList;rw[bE] at h1;rw[←bT] at h2;omega
 have hrl:rp<w.heap.size:=aU w ⟨rp,0,none⟩ (hv.at' 0 (by omega));have HST:Hid (∀o,Rs (((w.setCell ⟨rp,4,none⟩ (.map (some w.heap.size))).alloc (.map #[] 0)).alloc o) rp w.heap.size (zN) (zN) [] [] 0 0 (((w.setCell ⟨rp,4,none⟩ (.map (some w.heap.size))).alloc (.map #[] 0)).alloc o)):=fun o=>xw hv hrl o
 have c4:(w.alloc (.map #[] 0)).cell? ⟨rp,4,none⟩=some (.map none):=by rw[World.cell?_alloc_lt _ _ _ hrl];exact hv.at' 4 (by omega)
 have f4:(w.alloc (.map #[] 0)).frozen? ⟨rp,4,none⟩=false:=by
  rw[gf (w:=w) (a:=⟨rp,4,none⟩) (aG _ _ _ hrl)];exact hv.fr 4 (by omega)
 have hmk:=run_makeMap (P:=prog) 148 w
 have EF:Ml ((w.setCell ⟨rp,4,none⟩ (.map (some w.heap.size))).alloc (.map #[] 0)):=by
  obtain⟨m,e⟩:=hm;refine⟨m,?_⟩;have hlt:=aU w _ e;rw[World.cell?_alloc_lt _ _ _ (by simp[World.setCell];exact hlt),cB _ _ _ _ (fun e=>h0 (by injection e))];exact e
 have ks:=ks _ EF;have HR:Hid (Left ((Tx.spoken 1 (Pv.spl 10 s.data.toList)).foldl (Tx.bw false Pv.aH 20) nY) l 0 [] [] 0 0):=⟨by rw[List.drop_zero,hl];rfl,fun g hg=>(by cases hg),ag _,ag _,ag _,ag _⟩;generalize (Tx.spoken 1 (Pv.spl 10 s.data.toList)).foldl (Tx.bw false Pv.aH 20) nY=R at*;have HML:Hid (Ml ((w.setCell ⟨rp,4,none⟩ (.map (some w.heap.size))).alloc (.map #[] 0))):=EF;have HZ:Hid (∀x∈l,x.size≤2000):=fun x hx=>by have:=hz x hx;omega
 have HRL:Hid (rp<w.heap.size∧rp≠0):=⟨hrl,h0⟩;clear hv EF hm hl hz;go_enter func86,ntmps86;go_wp2
 go_step3
 go_wp2_with fail
 go_step3
 go_wp2_with (go_at_call 122;fail)
 go_at_call 122;refine ks.mono ?_;rintro e w1 ⟨rfl,hw1⟩
 have HS0:Hid (Rs w1 rp w.heap.size (zN) (zN) [] [] 0 0 w1):=by
  show Rs w1 rp w.heap.size _ _ [] [] 0 0 w1;rw[hw1];exact HST.out _
 have Bj:((w.setCell ⟨rp,4,none⟩ (.map (some w.heap.size))).alloc (.map #[] 0)).heap.size=w.heap.size+1:=by rw[kQ];simp[World.setCell]
 have HML1:Hid (Ml w1):=by
  show Ml w1;rw[hw1];exact HML.out.below ((ae _ _).alloc (ag _) _)
 have HLC:Hid (∀k (hk:k<l.length),w1.cell? ⟨w.heap.size+1,k,none⟩=some (.string l[k])):=fun k hk=>by
  rw[hw1];have h:=xu ((w.setCell ⟨rp,4,none⟩ (.map (some w.heap.size))).alloc (.map #[] 0)) (.cells (l.map Value.string).toArray 9);rw[Bj] at h;unfold World.cell?;simp only[h];simp[hk]
 have HFW:Hid (Fr (fun b=>b=rp) w w1):=by
  show Fr _ w w1;rw[hw1];exact((Fr.qZ (X:=fun b=>b=rp) w rp 4 _ rfl).trans (Fr.of_below ((ae _ _).alloc (ag _) _))).trans (Fr.of_below ((ae _ _).alloc (ag _) _))
 have HSZ:Hid (w.heap.size+1<w1.heap.size∧rp≠w.heap.size+1):=⟨by rw[hw1,kQ,Bj];omega,by have:=HRL.out.1;omega⟩;rw[Bj];clear ks HST HML hw1 Bj c4 f4 hmk;have HM0:Hid (w.heap.size≠0∧w.heap.size≠w.heap.size+1):=⟨by have:=HRL.out.1;omega,by omega⟩;have HWB:Hid (∀b,w1.heap.size≤b→w.heap.size≤b):=fun b hb=>by have:=HSZ.out.1;omega
 generalize w.heap.size+1=lb at*;go_wp2;go_loopg [6,24] l.length (fun gg lv kv wr=>∃(k:Nat)(good:List OLn)(au:List (Nat×Nat×Nat))(sp rq:Nat)(sv lv0:zV),lv0=lv∧k≤l.length∧l.length-k≤gg∧kv=zI k∧sp≤k∧Hid (Rs w1 rp w.heap.size sv lv (good.map fun g=>dS g.2) au sp rq wr)∧Hid (Left R l k good au sp rq))
 case atStart=>exact⟨0,[],[],0,0,_,_,rfl,by omega,by omega,rfl,by omega,HS0,HR⟩
 case round=>
  clear HS0 HR;obtain⟨k,good,au,sp,rq,sv,lv0,Pj,hk,hgk,rfl,R3,HS,HL⟩:=hrel;subst Pj;by_cases hlt:k<l.length
  ·have gN:(k:Int)<(l.length:Int):=by omega
   have hlk:wr.cell? ⟨lb,k,none⟩=some (.string l[k]):=HS.out.old (HLC.out k hlt) ⟨fun e=>HSZ.out.2 e.symm,fun e=>HM0.out.2 e.symm⟩;have kwo:=xr l[k] wr (HS.out.ml HML1.out ⟨HRL.out.2,HM0.out.1⟩) (by have:=HZ.out l[k] (bL hlt);omega)
   go_wp2_with (go_at_call 123;fail)
   go_at_call 123;refine kwo.mono ?_;rintro e w2 ⟨v,acc,rfl,hacc,hown,hb2⟩;clear kwo hlk;have HS2:Hid (Rs w1 rp w.heap.size sv lv0 (good.map fun g=>dS g.2) au sp rq w2):=HS.out.below hb2;have HAC:Hid (aC acc=Tx.words l[k].data.toList):=hacc;have HRB:Hid (rp<wr.heap.size):=bI HS.out.rd.lt.1 HS.out.rd.lt.2.2.1;by_cases he:acc=[]
   ·have HLn:Hid (Left R l (k+1) good au sp rq):=HL.out.blank hlt (by rw[←hacc,he];rfl)
    obtain⟨va,vc,rfl⟩:=ay hown;subst he;clear hown hb2 hacc HL HS HAC;go_wp2;go_roundg (l.length-(k+1))
    case measure=>omega
    case rel=>exact⟨k+1,good,au,sp,rq,sv,lv0,rfl,by omega,by omega,by go_num,by omega,HS2,HLn⟩
   ·have hn:0<acc.length:=gp.2 he
    obtain⟨g,vc,rfl⟩:=dL hown hn;have hWA:=F0 hown;have hgb:=(hown.lt g rfl).1;have hnI:¬((acc.length:Int)=0):=by omega
    have hnq:((acc.length:Int)==0)=false:=by rw[eH];omega
    have hc2:w2.cell? ⟨rp,2,none⟩=some (zI sp):=HS2.out.rd.rd.2.2.1;have hf2:w2.frozen? ⟨rp,2,none⟩=false:=HS2.out.rd.f2;have HS3:Hid (Rs w1 rp w.heap.size sv lv0 (good.map fun g=>dS g.2) au (sp+1) rq (w2.setCell ⟨rp,2,none⟩ (zI ((sp:Int)+1)))):=HS2.out.speak
    have HW3:Hid (WAt (w2.setCell ⟨rp,2,none⟩ (zI ((sp:Int)+1))) g 0 acc∧acc.length≤vc):=by
     have hne:g≠rp:=by have:=HRB.out;omega
     have hk2:(w2.setCell ⟨rp,2,none⟩ (zI ((sp:Int)+1))).heap[g]?=w2.heap[g]?:=aL _ _ _ _ hne;exact⟨⟨by simp[World.setCell];exact hWA.1.1,fun j hj=>⟨by rw[aW (w:=w2) (a:=⟨g,0+j*2,none⟩) hk2];exact(hWA.1.2 j hj).1,by rw[aW (w:=w2) (a:=⟨g,0+j*2+1,none⟩) hk2];exact(hWA.1.2 j hj).2⟩⟩,hWA.2⟩
    have e2:IntKind.i64.wrap ((sp:Int)+1)=(sp:Int)+1:=by simp[IntKind.wrap,IntKind.bits,IntKind.signed];omega
    have HZA:Hid (∀x∈acc,x.1≤4000∧x.2.size≤2000):=fun x hx=>by
     have h1:=CR hacc x hx;have h2:=HZ.out l[k] (bL hlt);omega
    have HNE:Hid (acc≠[]):=he;clear hown hb2 hacc hWA hgb he HS2 HS
    go_wp2_with fail
    clear hc2 hf2 e2 hnI hnq;generalize w2.setCell ⟨rp,2,none⟩ (zI ((sp:Int)+1))=W3 at*
    have HLI:Hid ((Tx.slip false Pv.aH (sp==0) (nZ good acc) (rq==20) (aC acc)=none∧(∀k,2≤k→k≤9→ee acc (sp+1==1) (nZ good acc) (rq==20) k=-1)∧(∃ks,Ok acc ks)∧nZ good acc=false)∨
      (∃a k:Nat,Tx.slip false Pv.aH (sp==0) (nZ good acc) (rq==20) (aC acc)=some (a,k)∧2≤k∧k≤9∧ee acc (sp+1==1) (nZ good acc) (rq==20) k=(a:Int)∧∀j,2≤j→j<k→ee acc (sp+1==1) (nZ good acc) (rq==20) j=-1)):=by
     have e:(sp+1==1)=(sp==0):=by rw[eu];simp
     rw[e];exact ru acc HNE.out (sp==0) (nZ good acc) (rq==20)
    generalize hat:ee acc (sp+1==1) (nZ good acc) (rq==20)=AT at*;have HAT:Hid (ee acc (sp+1==1) (nZ good acc) (rq==20)=AT):=hat;clear hat;go_loopg [6,10] 8 (fun gg l6 kv wx=>∃j:Nat,lv0=l6∧2≤j∧j≤10∧10-j≤gg∧kv=zI j∧Hid (∀i,2≤i→i<j→AT i=-1)∧zB W3 wx)
    case atStart=>exact⟨2,rfl,by omega,by omega,by omega,rfl,fun i h1 h2=>(by omega),ae _ _⟩
    case round=>
     obtain⟨j,h6,hj2,R4,hgj,rfl,HLow,hbx⟩:=hrel;subst h6;have HSx:Hid (Rs w1 rp w.heap.size sv lv0 (good.map fun g=>dS g.2) au (sp+1) rq wr):=HS3.out.below hbx;by_cases hj9:j≤9
     ·have kk:=G8 rp (sp+1) rq g vc w.heap.size w1.heap.size j sv _ _ acc wr (HSx.out.ml HML1.out ⟨HRL.out.2,HM0.out.1⟩) HSx.out.rd (HW3.out.1.below hbx) HNE.out HW3.out.2 HZA.out hj2 hj9 (by rw[F4,HAT.out];exact HLow.out)
      rw[F4,HAT.out] at kk;have Pk:(j:Int)≤9:=by omega
      by_cases hr:AT j=-1
      ·rw[hr] at kk
       have J7:Hid (∀i,2≤i→i<j+1→AT i=-1):=fun i h1 h2=>by
        by_cases e:i=j
        ·rw[e];exact hr
        ·exact HLow.out i h1 (by omega)
       clear hr HSx
       go_wp2_with (go_at_call 124;fail)
       go_at_call 124;refine kk.mono ?_;rintro e w4 ⟨rfl,hb4⟩;have hb5:zB W3 w4:=hbx.trans (hb4.mono hbx.size);clear kk hb4;go_wp2;go_roundg (10-(j+1))
       case measure=>omega
       case rel=>exact⟨j+1,rfl,by omega,by omega,by omega,by go_num,J7,hb5⟩
      ·obtain⟨a,hsl,haj⟩:∃a:Nat,Tx.slip false Pv.aH (sp==0) (nZ good acc) (rq==20) (aC acc)=some (a,j)∧AT j=(a:Int):=by
        rcases HLI.out with⟨_,h,_⟩|⟨a,q,h1,h2,h3,h4,h5⟩
        ·exact absurd (h j hj2 hj9) hr
        ·have e:q=j:=by
          rcases Nat.lt_trichotomy q j with e|e|e
          ·have:=HLow.out q h2 e;rw[h4] at this;omega
          ·exact e
          ·exact absurd (h5 j hj2 e) hr
         subst e;exact⟨a,h1,h4⟩
       rw[haj] at kk;have HLn:Hid (Left R l (k+1) good (au++[(k+1,a,j)]) (sp+1) rq):=HL.out.slip hlt HAC.out HNE.out hsl;have haI:((a:Int)==-1)=false:=by rw[eH];omega
       have haN:¬((a:Int)=-1):=by omega
       have R5:au.length≤2001:=by have:=HL.out.2.2.2.1;omega
       clear hr haj hsl
       go_wp2_with (go_at_call 124;fail)
       go_at_call 124;refine kk.mono ?_;rintro e w4 ⟨rfl,hb4⟩;have HS4:Hid (Rs w1 rp w.heap.size sv lv0 (good.map fun g=>dS g.2) au (sp+1) rq w4):=HSx.out.below hb4;clear kk hb4 HSx hbx;have hBs:=HS4.out.rd.lt.2.2.1
       go_wp2_with (at_builtin;refine dU _ rfl _ _ 38 rfl w1.heap.size 45 i9 (.agg #[zI 0,zI 0,zI 0]) 3 24 underlying38 HI.out.1 HI.out.2.1 HI.out.2.2.1 HI.out.2.2.2 rfl (by decide) _ _ _ rfl (HS4.out.os.alloc _) ⟨w4.heap.size,0,none⟩ 1 1 [zI (k+1),zI a,zI j] rfl rfl ?_ ?_ ?_ ?_ ?_ ?_)
       all_goals first
        |exact fg _ _ _ _ _
        |(show ∀u∈[Value.int .i64 ((k:Int)+1),Value.int .i64 a,Value.int .i64 j],u.oneCell'=true;intro u hu;simp at hu;rcases hu with rfl|rfl|rfl<;>rfl)
        |(show au.length+1≤maxLen;unfold maxLen;omega)
        |(show(au.length+1)*24≤140737488355328;omega)
        |(show w1.heap.size≤(w4.alloc _).heap.size;simp;omega)
        |skip
       intro lv1 w5 hown' hgrow _ hloc
       have HS5:Hid (Rs w1 rp w.heap.size sv lv1 (good.map fun g=>dS g.2) (au++[(k+1,a,j)]) (sp+1) rq w5):=HS4.out.slip _ (k+1,a,j) hown' hgrow (by
        rcases hloc with e|e
        ·exact Or.inl e
        ·exact Or.inr (by rw[e];simp))
       clear hown' hgrow hloc HS4;go_wp2;go_roundg (l.length-(k+1))
       case measure=>omega
       case rel=>exact⟨k+1,good,au++[(k+1,a,j)],sp+1,rq,sv,lv1,rfl,by omega,by omega,by go_num,by omega,HS5,HLn⟩
     ·have Pk:¬((j:Int)≤9):=by omega
      have hje:j=10:=by omega
      obtain⟨hsl,hok⟩:Tx.slip false Pv.aH (sp==0) (nZ good acc) (rq==20) (aC acc)=none∧∃ks,Ok acc ks:=by
       rcases HLI.out with⟨h1,_,h3,_⟩|⟨a,q,_,h2,h3,h4,_⟩
       ·exact⟨h1,h3⟩
       ·have:=HLow.out q h2 (by omega)
        rw[h4] at this;omega
      have HLn:Hid (Left R l (k+1) (good++[(k+1,acc)]) au (sp+1) (if (wd acc 0).toList==[114,101,113,117,105,114,101] then rq+1 else rq)):=HL.out.kept hlt HAC.out HNE.out hok hsl;obtain⟨ks',hok⟩:=hok;have EG:=HW3.out.1.below hbx;have hgl:=HL.out.2.2.1;have hql:=HL.out.2.2.2.2.2;have hn0:0<acc.length:=by have:=hok.len;omega
      have kt:=xj rp (sp+1) rq g acc.length vc (acc.getD 0 pad).1 w.heap.size w1.heap.size (k+1) sv (good.map fun g=>dS g.2) ((good.map fun g=>dS g.2).map xm) (wd acc 0) (wd acc 1) (wd acc 2) (wd acc 4) (kq acc).1 (kq acc).2.1 (kq acc).2.2 _ ks' wr hn0 (F3 HZA.out) (by rw[bE];omega) (by rw[bE,bE];omega) (by omega) (by omega) HSx.out.rd (Pt EG hn0) hok.sh rfl (fun W q hb hq=>sA hok q g vc W hq (EG.below hb)) (fun W=>zJ (wd acc 0) (wd acc 1) (wd acc 2) (wd acc 4) W)
      have HWd:Hid ((good.map fun g=>dS g.2)++[(wd acc 0,wd acc 1,wd acc 2,wd acc 4)]=(good++[(k+1,acc)]).map fun g=>dS g.2):=by
       show _=_;rw[eQ];rfl
      have HWc:Hid ((good.map fun g=>dS g.2).map xm++[((kq acc).1,(kq acc).2.1,(kq acc).2.2)]=((good++[(k+1,acc)]).map fun g=>dS g.2).map xm):=by
       show _=_;rw[eQ,eQ];rfl
      rw[HWd.out,HWc.out] at kt;generalize (if (wd acc 0).toList==[114,101,113,117,105,114,101] then rq+1 else rq)=rq2 at*;clear hsl hok EG HLI HAT
      go_wp2_with (go_at_call 125;fail)
      go_at_call 125;refine kt.mono ?_;rintro e w4 ⟨sv2,rfl,hrd,hfr,hat⟩
      have HS5:Hid (Rs w1 rp w.heap.size sv2 lv0 ((good++[(k+1,acc)]).map fun g=>dS g.2) au (sp+1) rq2 w4):=by
       show Rs w1 rp w.heap.size sv2 lv0 _ au (sp+1) rq2 w4;rw[←HWd.out] at hrd ⊢;exact HSx.out.keep hrd hfr hat
      clear hrd hfr hat kt HSx;go_wp2;go_roundg (l.length-(k+1))
      case measure=>omega
      case rel=>exact⟨k+1,good++[(k+1,acc)],au,sp+1,rq2,sv2,lv0,rfl,by omega,by omega,by go_num,by omega,HS5,HLn⟩
  ·have hke:k=l.length:=by omega
   have gN:¬((k:Int)<(l.length:Int)):=by omega
   have hLd:=HL.out
   have CU:(⟨eI good,au,sp,rq⟩:Tx.Got)=R:=by
    have h:=hLd.1;rw[hke,List.drop_length] at h;exact h
   have hc1:wr.cell? ⟨rp,1,none⟩=some (.string nB):=HS.out.rd.rd.2.1;have hc2:wr.cell? ⟨rp,2,none⟩=some (zI sp):=HS.out.rd.rd.2.2.1;have hc5:wr.cell? ⟨rp,5,none⟩=some sv:=HS.out.rd.fs.1
   have HFr:Hid (∀lv sl w',Rs w1 rp w.heap.size sv lv (good.map fun g=>dS g.2) sl sp rq w'→Fr (fun b=>b=rp) w w'∧w'.ownsRow w.heap.size 45 3 lv sl.length (dF sl)):=fun lv sl w' hR=>by
    have h1:=HFW.out;have h2:=hR.fr;refine⟨⟨h2.os.trans h1.os,h2.tape.trans h1.tape,h2.output.trans h1.output,aP h1.size h2.size,fun b hb hn=>?_⟩,hR.os.1,?_⟩
    ·rw[h2.block b (bI hb h1.size) (fun e=>by rcases e with e|e;exact hn e;omega)]
     exact h1.block b hb hn
    ·rcases hR.os.2 with hn|⟨g,cap,cur,hv,hg,rest⟩
     ·exact .inl hn
     ·exact .inr ⟨g,cap,cur,hv,HWB.out g hg,rest⟩
   have HO:Hid (wr.ownsRow w.heap.size 45 3 lv0 au.length (dF au)∧wr.ownsRow w.heap.size 155 4 sv good.length (bU (good.map fun g=>dS g.2))):=by
    have h1:=HS.out.os;have h2:=HS.out.rd.own;rw[bE] at h2;refine⟨⟨h1.1,?_⟩,⟨h2.1,?_⟩⟩
    ·rcases h1.2 with hn|⟨g,cap,cur,hv,hg,rest⟩
     ·exact .inl hn
     ·exact .inr ⟨g,cap,cur,hv,HWB.out g hg,rest⟩
    ·rcases h2.2 with hn|⟨g,cap,cur,hv,hg,rest⟩
     ·exact .inl hn
     ·exact .inr ⟨g,cap,cur,hv,HWB.out g hg,rest⟩
   have HFin:Hid (R=⟨eI good,au,sp,rq⟩∧(∀g∈good,∃ks,Ok g.2 ks)∧good.length≤2001∧au.length≤2001):=⟨CU.symm,hLd.2.1,by have:=hLd.2.2.1;omega,by have:=hLd.2.2.2.1;omega⟩;have hs0:sp=0→au=[]:=fun e=>qL (by have:=hLd.2.2.2.1;omega)
   have hws:w.heap.size≤wr.heap.size:=aP HFW.out.size HS.out.fr.size;clear CU hLd HL hke;by_cases hsp:sp=0
   ·have hsl:=hs0 hsp
    subst hsl;subst hsp;clear hs0;obtain⟨la,lc,rfl⟩:=ay HO.out.1;have hBs:=HS.out.rd.lt.2.2.1
    go_wp2_with (at_builtin;refine dU _ rfl _ _ 38 rfl w1.heap.size 45 i9 (.agg #[zI 0,zI 0,zI 0]) 3 24 underlying38 HI.out.1 HI.out.2.1 HI.out.2.2.1 HI.out.2.2.2 rfl (by decide) _ _ _ rfl (HS.out.os.alloc _) ⟨wr.heap.size,0,none⟩ 1 1 [zI 0,zI 0,zI 2] rfl rfl ?_ ?_ ?_ ?_ ?_ ?_)
    all_goals first
     |exact fg _ _ _ _ _
     |(show ∀u∈[Value.int .i64 0,Value.int .i64 0,Value.int .i64 2],u.oneCell'=true;intro u hu;simp at hu;rcases hu with rfl|rfl|rfl<;>rfl)
     |exact⟨rfl,rfl⟩
     |(show w1.heap.size≤wr.heap.size+1;omega)
     |(show 0+1≤maxLen;unfold maxLen;omega)
     |(show(0+1)*24≤140737488355328;omega)
     |(show w1.heap.size≤(wr.alloc _).heap.size;simp;omega)
     |skip
    intro lv1 w5 hown' hgrow _ hloc
    have hS5:=HS.out.slip _ (0,0,2) hown' hgrow (by
     rcases hloc with e|e
     ·exact Or.inl e
     ·exact Or.inr (by rw[e];simp))
    have HZ5:Hid (Fr (fun b=>b=rp) w w5∧w5.ownsRow w.heap.size 45 3 lv1 1 (dF [(0,0,2)])):=HFr.out _ _ _ hS5;obtain⟨ma,mc,rfl⟩:=ay HZ5.out.2;clear hown' hgrow hloc hS5 HS;go_wp2
    (try rw[fD])
    go_ret2;exact⟨good,[],0,rq,_,_,rfl,HFin.out.1,HFin.out.2.1,HFin.out.2.2.1,HFin.out.2.2.2,HZ5.out.1,Or.inl ⟨by decide,rfl,HZ5.out.2⟩⟩
   ·have S4:((sp:Int)==0)=false:=by rw[eH];omega
    have hf2:jD sp au=au:=af hsp;have HF2:Hid (jD sp au=au):=hf2;clear hf2;have HFH:Hid (Fr (fun b=>b=rp) w wr):=(HFr.out _ _ _ HS.out).1;clear HS;obtain⟨la,lc,rfl⟩:=ay HO.out.1;by_cases hsl:au=[]
    ·subst hsl
     have hq0:¬((([]:List (Nat×Nat×Nat)).length:Int)>0):=by simp
     go_wp2
     (try rw[fD])
     go_ret2;exact⟨good,[],sp,rq,_,_,rfl,HFin.out.1,HFin.out.2.1,HFin.out.2.2.1,HFin.out.2.2.2,HFH.out,Or.inr ⟨HF2.out,rfl,HO.out.2⟩⟩
    ·have hq0:(0:Int)<(au.length:Int):=by have:=gp.2 hsl;omega
     have HSL:Hid (au≠[]):=hsl;clear hsl;go_wp2
     (try rw[fD])
     go_ret2;exact⟨good,au,sp,rq,_,_,rfl,HFin.out.1,HFin.out.2.1,HFin.out.2.2.1,HFin.out.2.2.2,HFH.out,Or.inl ⟨by rw[HF2.out];exact HSL.out,rfl,by rw[HF2.out];exact HO.out.1⟩⟩
end Mf
namespace Mf
variable{w w' W0 W W':zW}{b7:Nat}{V:Nat→zV}{n:Nat→Nat}{L:Nat→List zV}
theorem results_cell_tmp{P:Program}{fn:Func}{p q:Tmp}{ty:TypeId}(h:fn.results=#[.cell p ty,.tmp q])(tmps:Array zV)(w:zW)(g:Nat)(t:TypeId)(cs:Array zV)(fr:Nat×Nat)(d:TypeDesc)(v:zV)
  (hp:tmps.getD p undef=zP g) (hq:tmps.getD q undef=v) (hg:w.heap[g]?=some (.cells cs t fr))
  (hu:P.underlying ty=some d) (hd:(match d with | .struct _ | .array _ _=>true|_=>false)=true) (hi:(P.info? ty).map (·.size)=some cs.size):
  (results fn tmps).run P w=.ok (.tuple #[.agg cs,v]) w:=by
 have hp':tmps[p]?.getD undef=zP g:=by simpa using hp
 have hq':tmps[q]?.getD undef=v:=by simpa using hq
 simp[results,h,hp',hq',asAddr,run_loadVar_row w g t ty cs fr d hg hu hd hi]
abbrev ty(i:Nat):TypeId:=if i=3 then 137 else 29
abbrev sz(i:Nat):Nat:=if i=3 then 3 else 2
structure Mk(W0:World)(b7:Nat)(V:Nat→zV)(n:Nat→Nat)(L:Nat→List zV)(W:World):Prop where
 b:zB W0 W
 lt:W0.heap.size≤b7∧b7<W.heap.size
 box:gu W b7 4 V
 own:∀i,1≤i→i≤3→W.ownsRow (b7+1) (ty i) (sz i) (V i) (n i) (L i)
 ne:∀i j,1≤i→i≤3→1≤j→j≤3→i≠j→∀b,(V i).ownBlock=some b→(V j).ownBlock≠some b
theorem Mk.below(h:Mk W0 b7 V n L W)(hb:zB W W'):Mk W0 b7 V n L W':=
 ⟨h.b.trans (hb.mono h.b.size),⟨h.lt.1,bI h.lt.2 hb.size⟩,h.box.of_block (hb.block _ h.lt.2),fun i h1 h3=>ar (h.own i h1 h3) (fun b e=>hb.block b ((h.own i h1 h3).lt b e).2),h.ne⟩
theorem nC{e s m:Nat}{v:zV}{xs:List zV}(h:w.ownsRow (b7+1) e s v m xs)(e':v.ownBlock=some b7):False:=by
 have:=(h.lt b7 e').1;omega
def upd{α:Type}(V:Nat→α)(i:Nat)(v:α)(j:Nat):α:=if j=i then v else V j
theorem Mk.put(h:Mk W0 b7 V n L W)(i:Nat)(h1:1≤i)(h3:i≤3){v':zV}{m:Nat}{xs:List zV}(hown:w'.ownsRow (b7+1) (ty i) (sz i) v' m xs)(hT:aj (fun b=>(V i).ownBlock=some b) W w')(hat:∀b,v'.ownBlock=some b→(V i).ownBlock=some b∨W.heap.size≤b):
  Mk W0 b7 (upd V i v') (upd n i m) (upd L i xs) (w'.setCell ⟨b7,i,none⟩ v'):=by
 have hk:∀k,k≠b7→(w'.setCell ⟨b7,i,none⟩ v').heap[k]?=w'.heap[k]?:=fun k hk=>aL _ _ _ _ hk
 have hsz:(w'.setCell ⟨b7,i,none⟩ v').heap.size=w'.heap.size:=by simp[World.setCell]
 have hn7:¬((V i).ownBlock=some b7):=fun e=>nC (h.own i h1 h3) e
 refine⟨?_,⟨h.lt.1,by rw[hsz];exact bI h.lt.2 hT.size⟩,?_,fun j j1 j3=>?_,fun a c a1 a3 c1 c3 hac b e=>?_⟩
 ·refine(⟨hT.os.trans h.b.os,hT.tape.trans h.b.tape,hT.output.trans h.b.output,aP h.b.size hT.size,fun k hk=>?_⟩:zB W0 w').setCell h.lt.1 _
  rw[hT.block k (bI hk h.b.size) (fun e=>by have:=((h.own i h1 h3).lt k e).1;have:=h.lt.1;omega)];exact h.b.block k hk
 ·exact((h.box.of_block (hT.block b7 h.lt.2 hn7)).set (p:=i) (by omega) v').ext (fun j _=>rfl)
 ·unfold upd
  by_cases e:j=i
  ·subst e
   simp only[ah];exact ar hown (fun b e=>hk b (fun e2=>by subst e2;exact nC hown e))
  ·simp only[af e]
   refine ar (h.own j j1 j3) (fun b e2=>?_);rw[hk b (fun e3=>by subst e3;exact nC (h.own j j1 j3) e2)];exact hT.block b ((h.own j j1 j3).lt b e2).2 (fun e3=>h.ne j i j1 j3 h1 h3 e b e2 e3)
 ·unfold upd at e ⊢
  by_cases ea:a=i
  ·subst ea
   simp only[ah] at e;rw[af (fun h=>hac h.symm)];rcases hat b e with e2|e2
   ·exact h.ne a c a1 a3 c1 c3 hac b e2
   ·intro e3
    have:=((h.own c c1 c3).lt b e3).2;omega
  ·rw[af ea] at e
   by_cases ec:c=i
   ·subst ec
    simp only[ah];intro e2;rcases hat b e2 with e3|e3
    ·exact h.ne a c a1 a3 c1 c3 hac b e e3
    ·have:=((h.own a a1 a3).lt b e).2
     omega
   ·rw[af ec]
    exact h.ne a c a1 a3 c1 c3 hac b e
theorem Mk.path(h:Mk W0 b7 V n L W)(v:zV):Mk W0 b7 (upd V 0 v) n L (W.setCell ⟨b7,0,none⟩ v):=by
 have hk:∀k,k≠b7→(W.setCell ⟨b7,0,none⟩ v).heap[k]?=W.heap[k]?:=fun k hk=>aL _ _ _ _ hk
 have hsz:(W.setCell ⟨b7,0,none⟩ v).heap.size=W.heap.size:=by simp[World.setCell]
 have hu:∀i,1≤i→upd V 0 v i=V i:=fun i hi=>af (by omega)
 refine⟨h.b.setCell h.lt.1 _,⟨h.lt.1,by rw[hsz];exact h.lt.2⟩,(h.box.set (p:=0) (by omega) v).ext (fun j _=>rfl),fun j j1 j3=>?_,fun a c a1 a3 c1 c3 hac b e=>?_⟩
 ·rw[hu j j1]
  exact ar (h.own j j1 j3) (fun b e=>hk b (fun e2=>by subst e2;exact nC (h.own j j1 j3) e))
 ·rw[hu c c1]
  rw[hu a a1] at e;exact h.ne a c a1 a3 c1 c3 hac b e
theorem Mk.start(W0:zW):Mk W0 W0.heap.size (fun f=>if f=0 then zE else zN) (fun _=>0) (fun _=>[]) (W0.alloc (.cells #[zE,zN,zN,zN] 26)):=by
 have b0:=aD W0 (.cells #[zE,zN,zN,zN] 26);refine⟨(ae _ _).alloc (ag _) _,⟨ag _,by simp⟩,⟨fun j hj=>?_,fun j hj=>?_⟩,fun i h1 h3=>?_,fun a c a1 _ _ _ _ b e=>?_⟩
 ·rcases(by omega:j=0∨j=1∨j=2∨j=3) with rfl|rfl|rfl|rfl<;>simp only[World.cell?,b0]<;>rfl
 ·simp only[World.frozen?,b0];simp
 ·simp only[af (by omega:¬i=0)]
  exact ew _ _ _ _
 ·simp only[af (by omega:¬a=0)] at e
  simp[Value.ownBlock] at e
def mv(p:zA)(rv xv sv:zV)(i:Nat):zV:=if i=0 then .string p else if i=1 then rv else if i=2 then xv else sv
def mn(R X:List Mo)(S:List So)(i:Nat):Nat:=if i=1 then R.length else if i=2 then X.length else S.length
def mL(R X:List Mo)(S:List So)(i:Nat):List zV:=if i=1 then mcs R else if i=2 then mcs X else scs S
theorem Mk.ext{V':Nat→zV}{n':Nat→Nat}{L':Nat→List zV}(h:Mk W0 b7 V n L W)(hV:∀i,i<4→V i=V' i)(hn:∀i,1≤i→i≤3→n i=n' i)(hL:∀i,1≤i→i≤3→L i=L' i):Mk W0 b7 V' n' L' W:=
 ⟨h.b,h.lt,h.box.ext hV,fun i h1 h3=>by rw[←hV i (by omega),←hn i h1 h3,←hL i h1 h3];exact h.own i h1 h3,fun i j i1 i3 j1 j3 hij b e=>by rw[←hV j (by omega)];rw[←hV i (by omega)] at e;exact h.ne i j i1 i3 j1 j3 hij b e⟩
abbrev Mq(W0:zW)(b7:Nat)(p:zA)(rv xv sv:zV)(R X:List Mo)(S:List So)(W:zW):Prop:=Mk W0 b7 (mv p rv xv sv) (mn R X S) (mL R X S) W
variable{p:zA}{rv xv sv:zV}{R X R' X':List Mo}{S S':List So}
theorem Mq.start(W0:zW):Mq W0 W0.heap.size ⟨#[]⟩ (zN) (zN) (zN) [] [] [] (W0.alloc (.cells #[zE,zN,zN,zN] 26)):=
 (Mk.start W0).ext (fun i hi=>by rcases(by omega:i=0∨i=1∨i=2∨i=3) with rfl|rfl|rfl|rfl<;>rfl) (fun i h1 h3=>by rcases(by omega:i=1∨i=2∨i=3) with rfl|rfl|rfl<;>rfl) (fun i h1 h3=>by rcases(by omega:i=1∨i=2∨i=3) with rfl|rfl|rfl<;>rfl)
theorem Mq.path(h:Mq W0 b7 p rv xv sv R X S W)(p':zA):Mq W0 b7 p' rv xv sv R X S (W.setCell ⟨b7,0,none⟩ (.string p')):=
 (Mk.path h (.string p')).ext (fun i hi=>by rcases(by omega:i=0∨i=1∨i=2∨i=3) with rfl|rfl|rfl|rfl<;>rfl) (fun i h1 h3=>rfl) (fun i h1 h3=>rfl)
theorem Mq.req(h:Mq W0 b7 p rv xv sv R X S W){v':zV}(hown:w'.ownsRow (b7+1) 29 2 v' R'.length (mcs R'))(hT:aj (fun b=>rv.ownBlock=some b) W w')(hat:∀b,v'.ownBlock=some b→rv.ownBlock=some b∨W.heap.size≤b):Mq W0 b7 p v' xv sv R' X S (w'.setCell ⟨b7,1,none⟩ v'):=
 (Mk.put h 1 (by omega) (by omega) (m:=R'.length) (xs:=mcs R') hown hT hat).ext (fun i hi=>by rcases(by omega:i=0∨i=1∨i=2∨i=3) with rfl|rfl|rfl|rfl<;>rfl) (fun i h1 h3=>by rcases(by omega:i=1∨i=2∨i=3) with rfl|rfl|rfl<;>rfl) (fun i h1 h3=>by rcases(by omega:i=1∨i=2∨i=3) with rfl|rfl|rfl<;>rfl)
theorem Mq.exc(h:Mq W0 b7 p rv xv sv R X S W){v':zV}(hown:w'.ownsRow (b7+1) 29 2 v' X'.length (mcs X'))(hT:aj (fun b=>xv.ownBlock=some b) W w')(hat:∀b,v'.ownBlock=some b→xv.ownBlock=some b∨W.heap.size≤b):Mq W0 b7 p rv v' sv R X' S (w'.setCell ⟨b7,2,none⟩ v'):=
 (Mk.put h 2 (by omega) (by omega) (m:=X'.length) (xs:=mcs X') hown hT hat).ext (fun i hi=>by rcases(by omega:i=0∨i=1∨i=2∨i=3) with rfl|rfl|rfl|rfl<;>rfl) (fun i h1 h3=>by rcases(by omega:i=1∨i=2∨i=3) with rfl|rfl|rfl<;>rfl) (fun i h1 h3=>by rcases(by omega:i=1∨i=2∨i=3) with rfl|rfl|rfl<;>rfl)
theorem Mq.rep(h:Mq W0 b7 p rv xv sv R X S W){v':zV}(hown:w'.ownsRow (b7+1) 137 3 v' S'.length (scs S'))(hT:aj (fun b=>sv.ownBlock=some b) W w')(hat:∀b,v'.ownBlock=some b→sv.ownBlock=some b∨W.heap.size≤b):Mq W0 b7 p rv xv v' R X S' (w'.setCell ⟨b7,3,none⟩ v'):=
 (Mk.put h 3 (by omega) (by omega) (m:=S'.length) (xs:=scs S') hown hT hat).ext (fun i hi=>by rcases(by omega:i=0∨i=1∨i=2∨i=3) with rfl|rfl|rfl|rfl<;>rfl) (fun i h1 h3=>by rcases(by omega:i=1∨i=2∨i=3) with rfl|rfl|rfl<;>rfl) (fun i h1 h3=>by rcases(by omega:i=1∨i=2∨i=3) with rfl|rfl|rfl<;>rfl)
theorem Mq.r(h:Mq W0 b7 p rv xv sv R X S W):W.ownsRow (b7+1) 29 2 rv R.length (mcs R):=h.own 1 (by omega) (by omega)
theorem Mq.x(h:Mq W0 b7 p rv xv sv R X S W):W.ownsRow (b7+1) 29 2 xv X.length (mcs X):=h.own 2 (by omega) (by omega)
theorem Mq.s(h:Mq W0 b7 p rv xv sv R X S W):W.ownsRow (b7+1) 137 3 sv S.length (scs S):=h.own 3 (by omega) (by omega)
theorem Mq.cells(h:Mq W0 b7 p rv xv sv R X S W):(W.cell? ⟨b7,0,none⟩=some (.string p)∧W.cell? ⟨b7,1,none⟩=some rv∧W.cell? ⟨b7,2,none⟩=some xv∧W.cell? ⟨b7,3,none⟩=some sv)∧(W.frozen? ⟨b7,0,none⟩=false∧W.frozen? ⟨b7,1,none⟩=false∧W.frozen? ⟨b7,2,none⟩=false∧W.frozen? ⟨b7,3,none⟩=false):=
 ⟨⟨h.box.at' 0 (by omega),h.box.at' 1 (by omega),h.box.at' 2 (by omega),h.box.at' 3 (by omega)⟩,h.box.fr 0 (by omega),h.box.fr 1 (by omega),h.box.fr 2 (by omega),h.box.fr 3 (by omega)⟩
structure Mx where
 p:zA
 R:List Mo
 X:List Mo
 S:List So
end Mf
namespace Mf
variable{w w':zW}
def fH(m:Mx)(s:Sm4):Mx:=
 if s.1=nB then ⟨s.2.1,m.R,m.X,m.S⟩ else if s.1=oV then ⟨m.p,m.R++[(s.2.1,s.2.2.1)],m.X,m.S⟩ else if s.1=CJ then ⟨m.p,m.R,m.X++[(s.2.1,s.2.2.1)],m.S⟩ else if s.1=CL then ⟨m.p,m.R,m.X,m.S++[(s.2.1,s.2.2.1,s.2.2.2)]⟩ else m
def dN(L:List Sm4):Mx:=L.foldl fH ⟨⟨#[]⟩,[],[],[]⟩
theorem G9(L:List Sm4)(s:Sm4):dN (L++[s])=fH (dN L) s:=by simp[dN,pK]
theorem sB(L:List Sm4):(dN L).R.length≤L.length∧(dN L).X.length≤L.length∧(dN L).S.length≤L.length:=by
 have gen:∀(L:List Sm4)(m:Mx),(L.foldl fH m).R.length≤m.R.length+L.length∧(L.foldl fH m).X.length≤m.X.length+L.length∧(L.foldl fH m).S.length≤m.S.length+L.length:=by
  intro L
  induction L with
  |nil=>intro m;simp
  |cons s L ih=>
   intro m;have h:=ih (fH m s)
   have hs:(fH m s).R.length≤m.R.length+1∧(fH m s).X.length≤m.X.length+1∧(fH m s).S.length≤m.S.length+1:=by
    unfold fH
    split
    ·simp
    ·split
     ·simp
     ·split
      ·simp
      ·split<;>simp
   simp only[lG,bX];omega
 have:=gen L ⟨⟨#[]⟩,[],[],[]⟩;simpa[dN] using this
theorem jd:∀(l:List Sm4)(j:Nat)(h:j<l.length),(bU l)[j*4]?=some (.string l[j].1)∧(bU l)[j*4+1]?=some (.string l[j].2.1)∧(bU l)[j*4+2]?=some (.string l[j].2.2.1)∧(bU l)[j*4+3]?=some (.string l[j].2.2.2)
 |x::r,0,_=>⟨rfl,rfl,rfl,rfl⟩
 |x::r,j+1,h=>by
  have e:bU (x::r)=.string x.1::.string x.2.1::.string x.2.2.1::.string x.2.2.2::bU r:=rfl;have ih:=jd r j (by simpa using h);rw[e];refine⟨?_,?_,?_,?_⟩
  ·rw[show(j+1)*4=j*4+1+1+1+1 by omega];simpa using ih.1
  ·rw[show(j+1)*4+1=j*4+1+1+1+1+1 by omega];simpa using ih.2.1
  ·rw[show(j+1)*4+2=j*4+2+1+1+1+1 by omega];simpa using ih.2.2.1
  ·rw[show(j+1)*4+3=j*4+3+1+1+1+1 by omega];simpa using ih.2.2.2
theorem pT{B:Nat}{v:zV}{L:List Mo}(h:w.ownsRow B 29 2 v L.length (mcs L)):Sm.Rd w v L:=by
 rcases h.2 with⟨h1,h2⟩|⟨g,c,cur,h1,_⟩
 ·exact Or.inl ⟨h1,qL h2⟩
 ·subst h1
  refine Or.inr ⟨g,0,c,rfl,fun j u hj=>?_⟩
  have hj2:j<L.length*2:=by
   have:=(cq.1 hj).1;rw[Sm.wY] at this;exact this
  rw[dX,h.cellAt j hj2];exact hj
theorem Ha{B:Nat}{v:zV}{L:List So}(h:w.ownsRow B 137 3 v L.length (scs L)):Sw.Rd w v L:=by
 rcases h.2 with⟨h1,h2⟩|⟨g,c,cur,h1,_⟩
 ·exact Or.inl ⟨h1,qL h2⟩
 ·subst h1
  refine Or.inr ⟨g,0,c,rfl,fun j u hj=>?_⟩
  have hj2:j<L.length*3:=by
   have:=(cq.1 hj).1;rw[Sw.wY] at this;exact this
  rw[dX,h.cellAt j hj2];exact hj
theorem EK(W:zW):gu (W.alloc (.cells #[.func (.func 85) #[] #[],.string nB,zI 0,zI 0,.map none,zN] 151)) W.heap.size 6 rdF:=by
 have b0:=iJ W (.cells #[.func (.func 85) #[] #[],.string nB,zI 0,zI 0,.map none,zN] 151);refine⟨fun j hj=>?_,fun j hj=>?_⟩
 ·simp only[World.cell?,b0]
  rcases(by omega:j=0∨j=1∨j=2∨j=3∨j=4∨j=5) with e|e|e|e|e|e<;>rw[e]<;>rfl
 ·simp only[World.frozen?,b0];simp
abbrev zM:Array zV:=#[zE,zN,zN,zN]
