import Derived.Test.YtelmkfkgpnadnaaGreatDoorJQG
import Derived.Test.YtelmkfkgpnadnaaGreatDoorJCB
import Derived.Test.YtelmkfkgpnadnaaGreatDoorJXA
set_option linter.all false
open Go.Proofs.Tryz
set_option maxRecDepth 100000
set_option maxHeartbeats 4000000
namespace Go.Proofs.YtelmkfkgpnadnaaGreatDoor
open Go.RowKit
namespace Mf
variable{w w':zW}
theorem EL{W:zW}{r:Nat}(h:W.heap[r]?=some (.cells zM 26))(a b c d:zV):((((W.setCell ⟨r,0,none⟩ a).setCell ⟨r,1,none⟩ b).setCell ⟨r,2,none⟩ c).setCell ⟨r,3,none⟩ d).heap[r]?=some (.cells #[a,b,c,d] 26):=by
 have h1:=cg _ _ 0 _ _ a h;have h2:=cg _ _ 1 _ _ b h1;have h3:=cg _ _ 2 _ _ c h2;exact cg _ _ 3 _ _ d h3
theorem ry{W:zW}{r:Nat}(hb:zB w W)(hr:w.heap.size≤r)(a b c d:zV):zB w ((((W.setCell ⟨r,0,none⟩ a).setCell ⟨r,1,none⟩ b).setCell ⟨r,2,none⟩ c).setCell ⟨r,3,none⟩ d):=(((hb.setCell hr _).setCell hr _).setCell hr _).setCell hr _
theorem oY{W:zW}{r B e s n:Nat}{v:zV}{l:List zV}(h:W.ownsRow B e s v n l)(hr:r<B)(a b c d:zV):((((W.setCell ⟨r,0,none⟩ a).setCell ⟨r,1,none⟩ b).setCell ⟨r,2,none⟩ c).setCell ⟨r,3,none⟩ d).ownsRow B e s v n l:=cP (cP (cP (cP h _ hr) _ hr) _ hr) _ hr
theorem sD(s:zA)(w:zW)(hs:s.size≤2000)(hm:Ml w)(hfw:∀good au m q,(Tx.spoken 1 (Pv.spl 10 s.data.toList)).foldl (Tx.bw false Pv.aH 20) nY=⟨eI good,au,m,q⟩→good.length≤19):
  zC 50 #[.string s] w fun e w'=>∃(good:List OLn)(au:List (Nat×Nat×Nat))(m q:Nat)(p:zA)(rv xv sv lv:zV),e=.returned (.tuple #[.agg #[.string p,rv,xv,sv],lv])∧(Tx.spoken 1 (Pv.spl 10 s.data.toList)).foldl (Tx.bw false Pv.aH 20) nY=⟨eI good,au,m,q⟩∧(∀g∈good,∃ks,Ok g.2 ks)∧good.length≤2001∧au.length≤2001∧zB w w'∧
   ((jD m au≠[]∧(p=⟨#[]⟩∧rv=zN∧xv=zN∧sv=zN)∧w'.ownsRow w.heap.size 45 3 lv (jD m au).length (dF (jD m au)))∨
    (jD m au=[]∧lv=zN∧p=(dN (good.map fun g=>dS g.2)).p∧w'.ownsRow w.heap.size 29 2 rv (dN (good.map fun g=>dS g.2)).R.length (mcs (reqs (dN (good.map fun g=>dS g.2)).R))∧w'.ownsRow w.heap.size 29 2 xv (dN (good.map fun g=>dS g.2)).X.length (mcs (vT (dN (good.map fun g=>dS g.2)).X))∧w'.ownsRow w.heap.size 137 3 sv (dN (good.map fun g=>dS g.2)).S.length (scs (xf (dN (good.map fun g=>dS g.2)).S))∧Apart rv xv sv)):=by
 obtain⟨i2,hi1,hi2,hi3,hi4⟩:=Ew;have HJ:Hid (prog.info? 29=some i2∧i2.zero=some (.agg #[zE,zE])∧i2.size=2∧i2.bytes=32):=⟨hi1,hi2,hi3,hi4⟩;clear hi1 hi2 hi3 hi4;obtain⟨i3,hi1,hi2,hi3,hi4⟩:=Sw.FW;have HJ3:Hid (prog.info? 137=some i3∧i3.zero=some (.agg #[zE,zE,zE])∧i3.size=3∧i3.bytes=48):=⟨hi1,hi2,hi3,hi4⟩;clear hi1 hi2 hi3 hi4;generalize hR:(Tx.spoken 1 (Pv.spl 10 s.data.toList)).foldl (Tx.bw false Pv.aH 20) nY=R;rw[hR] at hfw;have HFw:Hid (∀good au m q,R=⟨eI good,au,m,q⟩→good.length≤19):=hfw;clear hfw;have HM:Hid (Ml w):=hm;clear hm;have hst:∀(W:zW)(a:Addr),(store a (.func (.func 85) #[] #[])).run prog W=stored prog W a (.func (.func 85) #[] #[]) .plain:=fun W a=>run_store prog W a _ _ rfl
 have HB0:Hid (zB w (w.alloc (.cells zM 26))∧(w.alloc (.cells zM 26)).heap[w.heap.size]?=some (.cells zM 26)∧(w.alloc (.cells zM 26)).heap.size=w.heap.size+1):=⟨(ae _ _).alloc (ag _) _,aD _ _,by simp⟩;go_enter func50,ntmps50
 go_wp2_with (go_at_call 86;fail)
 have kr:=oW s (w.alloc (.cells zM 26)).heap.size ((w.alloc (.cells zM 26)).alloc (.cells #[.func (.func 85) #[] #[],.string nB,zI 0,zI 0,.map none,zN] 151)) hs (HM.out.below (HB0.out.1.alloc (by simp) _)) (by rw[HB0.out.2.2];omega) (EK _);rw[hR] at kr;clear hR;have HBa:Hid (zB w ((w.alloc (.cells zM 26)).alloc (.cells #[.func (.func 85) #[] #[],.string nB,zI 0,zI 0,.map none,zN] 151))∧((w.alloc (.cells zM 26)).alloc (.cells #[.func (.func 85) #[] #[],.string nB,zI 0,zI 0,.map none,zN] 151)).heap[w.heap.size]?=some (.cells zM 26)∧((w.alloc (.cells zM 26)).alloc (.cells #[.func (.func 85) #[] #[],.string nB,zI 0,zI 0,.map none,zN] 151)).heap.size=w.heap.size+2):=⟨HB0.out.1.alloc (by simp) _,heap_alloc2_old _ _ _,by simp⟩;rw[HB0.out.2.2] at kr;generalize (w.alloc (.cells zM 26)).alloc (.cells #[.func (.func 85) #[] #[],.string nB,zI 0,zI 0,.map none,zN] 151)=W1 at*;go_at_call 86;refine kr.mono ?_;rintro e w2 ⟨good,au,m,q,rv,lv,rfl,hD,hT,hgl,hsl,hfr,hx⟩;have S5:=HFw.out good au m q hD;clear HFw;clear kr hst
 have HB2:Hid (zB w w2∧w2.heap[w.heap.size]?=some (.cells zM 26)∧w.heap.size+2≤w2.heap.size):=by
  have h1:=HBa.out.1;refine⟨⟨hfr.os.trans h1.os,hfr.tape.trans h1.tape,hfr.output.trans h1.output,aP h1.size hfr.size,fun b hb=>?_⟩,?_,?_⟩
  ·rw[hfr.block b (bI hb h1.size) (by omega)];exact h1.block b hb
  ·rw[hfr.block w.heap.size (by rw[HBa.out.2.2];omega) (by omega)];exact HBa.out.2.1
  ·rw[←HBa.out.2.2];exact hfr.size
 have HD:Hid (R=⟨eI good,au,m,q⟩∧(∀g∈good,∃ks,Ok g.2 ks)∧good.length≤2001∧au.length≤2001):=⟨hD,hT,hgl,hsl⟩;have hSz:=HBa.out.2.2;clear hD hT hfr HBa HB0;rcases hx with⟨hne,rfl,hown⟩|⟨hf2,rfl,hown⟩
 ·obtain⟨la,lc,rfl⟩:=ay hown
  have hq:(0:Int)<((jD m au).length:Int):=by have:=gp.2 hne;omega
  have HO:Hid (jD m au≠[]∧w2.ownsRow (w.heap.size+2) 45 3 (.slice la (jD m au).length lc) (jD m au).length (dF (jD m au))):=⟨hne,by rw[←hSz];exact hown⟩;have HW:Hid (∀a b c d,((((w2.setCell ⟨w.heap.size,0,none⟩ a).setCell ⟨w.heap.size,1,none⟩ b).setCell ⟨w.heap.size,2,none⟩ c).setCell ⟨w.heap.size,3,none⟩ d).heap[w.heap.size]?=some (.cells #[a,b,c,d] 26)):=fun a b c d=>EL HB2.out.2.1 a b c d
  obtain⟨⟨g0,g1,g2,g3⟩,f0,f1,f2,f3⟩:=Dr.cells4 HB2.out.2.1;clear hne hown;generalize hfl:(jD m au).length=fl at*;have HFl:Hid ((jD m au).length=fl):=hfl;clear hfl;go_wp2;refine aI (results_cell_tmp results50 _ _ w.heap.size 26 _ (0,0) _ _ rfl rfl (HW.out _ _ _ _) underlying26 rfl (by kernel_rfl)) rfl ?_;exact⟨good,au,m,q,_,_,_,_,_,rfl,HD.out.1,HD.out.2.1,HD.out.2.2.1,HD.out.2.2.2,ry HB2.out.1 (ag _) _ _ _ _,Or.inl ⟨HO.out.1,⟨rfl,rfl,rfl,rfl⟩,by rw[HFl.out];exact gw (B:=w.heap.size+2) (oY (r:=w.heap.size) (B:=w.heap.size+2) HO.out.2 (by omega) _ _ _ _) (by omega)⟩⟩
 ·have HO:Hid (w2.ownsRow W1.heap.size 155 4 rv good.length (bU (good.map fun g=>dS g.2))):=hown
  clear hown;obtain⟨ra,rc,rfl⟩:=ay HO.out;have HF2:Hid (jD m au=[]):=hf2
  have HL4:Hid (∀j (h:j<(good.map fun g=>dS g.2).length),Wd4 (good.map fun g=>dS g.2)[j].1):=fun j h=>by
   have hj:j<good.length:=by simpa using h
   obtain⟨ks,hk⟩:=HD.out.2.1 good[j] (bL hj);simp only[jR];exact Pr hk
  clear hf2;have hLl:(good.map fun g=>dS g.2).length=good.length:=bE ..;generalize hLe:(good.map fun g=>dS g.2)=L at*;have HLe:Hid ((good.map fun g=>dS g.2)=L):=hLe;clear hLe;have HS0:Hid (Mq w2 w2.heap.size ⟨#[]⟩ (zN) (zN) (zN) [] [] [] (w2.alloc (.cells zM 26))):=Mq.start w2;go_wp2;go_loopg [23] good.length (fun gg kv wr=>∃(k:Nat)(rv xv sv:zV),k≤good.length∧good.length-k≤gg∧kv=zI k∧Hid (Mq w2 w2.heap.size (dN (L.take k)).p rv xv sv (dN (L.take k)).R (dN (L.take k)).X (dN (L.take k)).S wr))
  case atStart=>exact⟨0,_,_,_,by omega,by omega,rfl,HS0⟩
  case round=>
   clear HS0;obtain⟨k,rv,xv,sv,hk,hgk,rfl,HS⟩:=hrel;by_cases hlt:k<good.length
   ·have gN:(k:Int)<(good.length:Int):=by omega
    have hkL:k<L.length:=by omega
    obtain⟨g,c,hra⟩:=dL HO.out (by omega);have Pu:ra=some ⟨g,0,none⟩:=by injection hra
    subst Pu;clear hra;obtain⟨a0,a1,a2,a3⟩:=jd L k hkL;have yY:=(HO.out.lt g rfl).2;have hbw:=HS.out.b;have d0:wr.cell? ⟨g,k*4,none⟩=some (.string L[k].1):=by rw[hbw.cell (p:=⟨g,k*4,none⟩) yY,HO.out.cellAt (k*4) (by omega)];exact a0
    have d1:wr.cell? ⟨g,k*4+1,none⟩=some (.string L[k].2.1):=by rw[hbw.cell (p:=⟨g,k*4+1,none⟩) yY,HO.out.cellAt (k*4+1) (by omega)];exact a1
    have d2:wr.cell? ⟨g,k*4+2,none⟩=some (.string L[k].2.2.1):=by rw[hbw.cell (p:=⟨g,k*4+2,none⟩) yY,HO.out.cellAt (k*4+2) (by omega)];exact a2
    have d3:wr.cell? ⟨g,k*4+3,none⟩=some (.string L[k].2.2.2):=by rw[hbw.cell (p:=⟨g,k*4+3,none⟩) yY,HO.out.cellAt (k*4+3) (by omega)];exact a3
    have hw4:=HL4.out k hkL;have hl3:=sB (L.take k);have hlk:(L.take k).length≤2001:=by rw[jP];omega
    have HN:Hid (dN (L.take (k+1))=fH (dN (L.take k)) L[k]):=by
     show _=_;rw[←List.take_append_getElem hkL,G9]
    have hb7:w2.heap.size<wr.heap.size:=HS.out.lt.2;generalize dN (L.take k)=M at*;obtain⟨mp,mR,mX,mS⟩:=M;simp only at HS HN hl3;have hRl:mR.length≤2001:=by omega
    have hXl:mX.length≤2001:=by omega
    have hSl:mS.length≤2001:=by omega
    generalize hx:L[k]=x at*;clear hx;obtain⟨f,p,v,b⟩:=x;simp only at d0 d1 d2 d3 hw4 HN;clear a0 a1 a2 a3 hbw hl3 hlk hkL;have HS1:Hid (Mq w2 w2.heap.size mp rv xv sv mR mX mS (wr.alloc (.cells #[.string f,.string p,.string v,.string b] 155))):=Mk.below HS.out ((ae _ _).alloc (ag _) _);obtain⟨⟨e0,e1,e2,e3⟩,f0,f1,f2,f3⟩:=HS1.out.cells;obtain⟨ra1,rc1,rfl⟩:=ay HS.out.r;obtain⟨xa1,xc1,rfl⟩:=ay HS.out.x;obtain⟨sa1,sc1,rfl⟩:=ay HS.out.s;have hsz:(wr.alloc (.cells #[.string f,.string p,.string v,.string b] 155)).heap.size=wr.heap.size+1:=by simp
    rcases hw4 with rfl|rfl|rfl|rfl
    ·have HN2:Hid (Mq w2 w2.heap.size (dN (L.take (k+1))).p (.slice ra1 mR.length rc1) (.slice xa1 mX.length xc1) (.slice sa1 mS.length sc1) (dN (L.take (k+1))).R (dN (L.take (k+1))).X (dN (L.take (k+1))).S ((wr.setCell ⟨w2.heap.size,0,none⟩ (.string p)).alloc (.cells #[.string nB,.string p,.string v,.string b] 155))):=by
      show Mq _ _ _ _ _ _ _ _ _ _;rw[HN.out];exact Mk.below (Mq.path HS.out p) ((ae _ _).alloc (ag _) _)
     clear HS HS1 HN;go_wp2;go_roundg (good.length-(k+1))
     case measure=>omega
     case rel=>exact⟨k+1,_,_,_,by omega,by omega,by go_num,HN2⟩
    ·have hnw:∀j u,[Value.string p,.string v][j]?=some u→((wr.alloc (.cells #[.string oV,.string p,.string v,.string b] 155)).alloc (.cells #[.string p,.string v] 29)).cell? ((⟨wr.heap.size+1,0,none⟩:Addr).add j)=some u:=fun j u hj=>by
      have h:=cell_two_new (wr.alloc (.cells #[.string oV,.string p,.string v,.string b] 155)) 29 (.string p) (.string v) j u hj;rw[hsz] at h;exact h
     go_wp2_with (at_builtin;refine dU _ rfl _ _ 23 rfl (w2.heap.size+1) 29 i2 (.agg #[zE,zE]) 2 32 underlying23 HJ.out.1 HJ.out.2.1 HJ.out.2.2.1 HJ.out.2.2.2 rfl (by decide) (.slice ra1 mR.length rc1) mR.length (mcs mR) rfl (HS1.out.r.alloc _) ⟨wr.heap.size+1,0,none⟩ 1 1 [.string p,.string v] rfl rfl hnw ?_ ?_ ?_ ?_ ?_)
     all_goals first
      |(show ∀u∈[Value.string p,Value.string v],u.oneCell'=true;intro u hu;simp at hu;rcases hu with rfl|rfl<;>rfl)
      |(show mR.length+1≤maxLen;unfold maxLen;omega)
      |(show(mR.length+1)*32≤140737488355328;omega)
      |(show w2.heap.size+1≤((wr.alloc _).alloc _).heap.size;simp;omega)
      |(show w2.heap.size+1≤wr.heap.size+1+1;omega)
      |skip
     intro lv' w3 hown' hgrow _ hloc;obtain⟨g',c',rfl⟩:=dL hown' (by omega);have hT3:aj (fun b=>(Value.slice ra1 mR.length rc1).ownBlock=some b) (wr.alloc (.cells #[.string oV,.string p,.string v,.string b] 155)) w3:=((aj.refl _ _).alloc _).grown hgrow (fun b _ e=>e)
     have hat:∀b',(Value.slice (some ⟨g',0,none⟩) (mR.length+1) c').ownBlock=some b'→(Value.slice ra1 mR.length rc1).ownBlock=some b'∨(wr.alloc (.cells #[.string oV,.string p,.string v,.string b] 155)).heap.size≤b':=fun b' e=>by
      rcases hloc with e2|e2
      ·exact Or.inl (by rw[←e2];exact e)
      ·right
       rw[e2] at e;have:wr.heap.size+1+1=b':=by simpa using e
       rw[hsz];omega
     have hx0:=(HS1.out.box.of_block (hT3.block w2.heap.size (by rw[hsz];omega) (fun e=>nC HS1.out.r e)));have e1':w3.cell? ⟨w2.heap.size,1,none⟩=some (.slice ra1 mR.length rc1):=hx0.at' 1 (by omega);have f1':w3.frozen? ⟨w2.heap.size,1,none⟩=false:=hx0.fr 1 (by omega)
     have HN2:Hid (Mq w2 w2.heap.size (dN (L.take (k+1))).p (.slice (some ⟨g',0,none⟩) (mR.length+1) c') (.slice xa1 mX.length xc1) (.slice sa1 mS.length sc1) (dN (L.take (k+1))).R (dN (L.take (k+1))).X (dN (L.take (k+1))).S (w3.setCell ⟨w2.heap.size,1,none⟩ (.slice (some ⟨g',0,none⟩) (mR.length+1) c'))):=by
      show Mq _ _ _ _ _ _ _ _ _ _;rw[HN.out];exact Mq.req (R':=mR++[(p,v)]) HS1.out (by rw[bg];simpa[mcs,Sm.mc] using hown') hT3 hat
     clear HS HS1 HN hown' hgrow hloc hT3 hat hx0 hnw e0 e1 e2 e3 f0 f1 f2 f3;go_wp2;go_roundg (good.length-(k+1))
     case measure=>omega
     case rel=>exact⟨k+1,_,_,_,by omega,by omega,by go_num,HN2⟩
    ·have hnw:∀j u,[Value.string p,.string v][j]?=some u→((wr.alloc (.cells #[.string CJ,.string p,.string v,.string b] 155)).alloc (.cells #[.string p,.string v] 29)).cell? ((⟨wr.heap.size+1,0,none⟩:Addr).add j)=some u:=fun j u hj=>by
      have h:=cell_two_new (wr.alloc (.cells #[.string CJ,.string p,.string v,.string b] 155)) 29 (.string p) (.string v) j u hj;rw[hsz] at h;exact h
     go_wp2_with (at_builtin;refine dU _ rfl _ _ 23 rfl (w2.heap.size+1) 29 i2 (.agg #[zE,zE]) 2 32 underlying23 HJ.out.1 HJ.out.2.1 HJ.out.2.2.1 HJ.out.2.2.2 rfl (by decide) (.slice xa1 mX.length xc1) mX.length (mcs mX) rfl (HS1.out.x.alloc _) ⟨wr.heap.size+1,0,none⟩ 1 1 [.string p,.string v] rfl rfl hnw ?_ ?_ ?_ ?_ ?_)
     all_goals first
      |(show ∀u∈[Value.string p,Value.string v],u.oneCell'=true;intro u hu;simp at hu;rcases hu with rfl|rfl<;>rfl)
      |(show mX.length+1≤maxLen;unfold maxLen;omega)
      |(show(mX.length+1)*32≤140737488355328;omega)
      |(show w2.heap.size+1≤((wr.alloc _).alloc _).heap.size;simp;omega)
      |(show w2.heap.size+1≤wr.heap.size+1+1;omega)
      |skip
     intro lv' w3 hown' hgrow _ hloc;obtain⟨g',c',rfl⟩:=dL hown' (by omega);have hT3:aj (fun b=>(Value.slice xa1 mX.length xc1).ownBlock=some b) (wr.alloc (.cells #[.string CJ,.string p,.string v,.string b] 155)) w3:=((aj.refl _ _).alloc _).grown hgrow (fun b _ e=>e)
     have hat:∀b',(Value.slice (some ⟨g',0,none⟩) (mX.length+1) c').ownBlock=some b'→(Value.slice xa1 mX.length xc1).ownBlock=some b'∨(wr.alloc (.cells #[.string CJ,.string p,.string v,.string b] 155)).heap.size≤b':=fun b' e=>by
      rcases hloc with e2|e2
      ·exact Or.inl (by rw[←e2];exact e)
      ·right
       rw[e2] at e;have:wr.heap.size+1+1=b':=by simpa using e
       rw[hsz];omega
     have hx0:=(HS1.out.box.of_block (hT3.block w2.heap.size (by rw[hsz];omega) (fun e=>nC HS1.out.x e)));have e1':w3.cell? ⟨w2.heap.size,2,none⟩=some (.slice xa1 mX.length xc1):=hx0.at' 2 (by omega);have f1':w3.frozen? ⟨w2.heap.size,2,none⟩=false:=hx0.fr 2 (by omega)
     have HN2:Hid (Mq w2 w2.heap.size (dN (L.take (k+1))).p (.slice ra1 mR.length rc1) (.slice (some ⟨g',0,none⟩) (mX.length+1) c') (.slice sa1 mS.length sc1) (dN (L.take (k+1))).R (dN (L.take (k+1))).X (dN (L.take (k+1))).S (w3.setCell ⟨w2.heap.size,2,none⟩ (.slice (some ⟨g',0,none⟩) (mX.length+1) c'))):=by
      show Mq _ _ _ _ _ _ _ _ _ _;rw[HN.out];exact Mq.exc (X':=mX++[(p,v)]) HS1.out (by rw[bg];simpa[mcs,Sm.mc] using hown') hT3 hat
     clear HS HS1 HN hown' hgrow hloc hT3 hat hx0 hnw e0 e1 e2 e3 f0 f1 f2 f3;go_wp2;go_roundg (good.length-(k+1))
     case measure=>omega
     case rel=>exact⟨k+1,_,_,_,by omega,by omega,by go_num,HN2⟩
    ·have hnw:∀j u,[Value.string p,.string v,.string b][j]?=some u→((wr.alloc (.cells #[.string CL,.string p,.string v,.string b] 155)).alloc (.cells #[.string p,.string v,.string b] 137)).cell? ((⟨wr.heap.size+1,0,none⟩:Addr).add j)=some u:=fun j u hj=>by
      have h:=fg (wr.alloc (.cells #[.string CL,.string p,.string v,.string b] 155)) (.string p) (.string v) (.string b) 137 j u hj;rw[hsz] at h;exact h
     go_wp2_with (at_builtin;refine dU _ rfl _ _ 24 rfl (w2.heap.size+1) 137 i3 (.agg #[zE,zE,zE]) 3 48 underlying24 HJ3.out.1 HJ3.out.2.1 HJ3.out.2.2.1 HJ3.out.2.2.2 rfl (by decide) (.slice sa1 mS.length sc1) mS.length (scs mS) rfl (HS1.out.s.alloc _) ⟨wr.heap.size+1,0,none⟩ 1 1 [.string p,.string v,.string b] rfl rfl hnw ?_ ?_ ?_ ?_ ?_)
     all_goals first
      |(show ∀u∈[Value.string p,Value.string v,Value.string b],u.oneCell'=true;intro u hu;simp at hu;rcases hu with rfl|rfl|rfl<;>rfl)
      |(show mS.length+1≤maxLen;unfold maxLen;omega)
      |(show(mS.length+1)*48≤140737488355328;omega)
      |(show w2.heap.size+1≤((wr.alloc _).alloc _).heap.size;simp;omega)
      |(show w2.heap.size+1≤wr.heap.size+1+1;omega)
      |skip
     intro lv' w3 hown' hgrow _ hloc;obtain⟨g',c',rfl⟩:=dL hown' (by omega);have hT3:aj (fun b=>(Value.slice sa1 mS.length sc1).ownBlock=some b) (wr.alloc (.cells #[.string CL,.string p,.string v,.string b] 155)) w3:=((aj.refl _ _).alloc _).grown hgrow (fun b _ e=>e)
     have hat:∀b',(Value.slice (some ⟨g',0,none⟩) (mS.length+1) c').ownBlock=some b'→(Value.slice sa1 mS.length sc1).ownBlock=some b'∨(wr.alloc (.cells #[.string CL,.string p,.string v,.string b] 155)).heap.size≤b':=fun b' e=>by
      rcases hloc with e2|e2
      ·exact Or.inl (by rw[←e2];exact e)
      ·right
       rw[e2] at e;have:wr.heap.size+1+1=b':=by simpa using e
       rw[hsz];omega
     have hx0:=(HS1.out.box.of_block (hT3.block w2.heap.size (by rw[hsz];omega) (fun e=>nC HS1.out.s e)));have e1':w3.cell? ⟨w2.heap.size,3,none⟩=some (.slice sa1 mS.length sc1):=hx0.at' 3 (by omega);have f1':w3.frozen? ⟨w2.heap.size,3,none⟩=false:=hx0.fr 3 (by omega)
     have HN2:Hid (Mq w2 w2.heap.size (dN (L.take (k+1))).p (.slice ra1 mR.length rc1) (.slice xa1 mX.length xc1) (.slice (some ⟨g',0,none⟩) (mS.length+1) c') (dN (L.take (k+1))).R (dN (L.take (k+1))).X (dN (L.take (k+1))).S (w3.setCell ⟨w2.heap.size,3,none⟩ (.slice (some ⟨g',0,none⟩) (mS.length+1) c'))):=by
      show Mq _ _ _ _ _ _ _ _ _ _;rw[HN.out];exact Mq.rep (S':=mS++[(p,v,b)]) HS1.out (by rw[bg];simpa[scs,Sw.mc] using hown') hT3 hat
     clear HS HS1 HN hown' hgrow hloc hT3 hat hx0 hnw e0 e1 e2 e3 f0 f1 f2 f3;go_wp2;go_roundg (good.length-(k+1))
     case measure=>omega
     case rel=>exact⟨k+1,_,_,_,by omega,by omega,by go_num,HN2⟩
   ·have gN:¬((k:Int)<(good.length:Int)):=by omega
    have hke:L.take k=L:=oy (by omega);rw[hke] at HS;have hl3:=sB L
    have HBw:Hid (zB w wr∧wr.heap[w.heap.size]?=some (.cells zM 26)∧w.heap.size+2≤wr.heap.size):=by
     have hb:=HB2.out;have h2:=HS.out.b;exact⟨hb.1.trans (h2.mono hb.1.size),by rw[h2.block w.heap.size (by omega)];exact hb.2.1,by have:=h2.size;omega⟩
    obtain⟨M,hMM⟩:∃M,dN L=M:=⟨_,rfl⟩;rw[hMM] at HS hl3;obtain⟨mp,mR,mX,mS⟩:=M;have HMM:Hid (dN (good.map fun g=>dS g.2)=⟨mp,mR,mX,mS⟩):=by show _=_;rw[HLe.out];exact hMM
    simp only at HS hl3;clear hMM;have ko:=yS mp rv xv sv mR mX mS wr (HM.out.below HBw.out.1) (by omega) (by omega) (by omega) (pT HS.out.r) (pT HS.out.x) (Ha HS.out.s);obtain⟨⟨e0,e1,e2,e3⟩,f0,f1,f2,f3⟩:=HS.out.cells;obtain⟨ra1,rc1,rfl⟩:=ay HS.out.r;obtain⟨xa1,xc1,rfl⟩:=ay HS.out.x;obtain⟨sa1,sc1,rfl⟩:=ay HS.out.s;clear HS HB2
    go_wp2_with (go_at_call 87;fail)
    go_at_call 87;refine ko.mono ?_;rintro e w4 ⟨rv',xv',sv',rfl,o1,o2,o3,hb4,hap⟩;obtain⟨_,_,_,e1'⟩:=jK o1;obtain⟨_,_,_,e2'⟩:=jK o2;obtain⟨_,_,_,e3'⟩:=jK o3;subst e1' e2' e3'
    have HB5:Hid (zB w w4∧w4.heap[w.heap.size]?=some (.cells zM 26)):=by
     have hb:=HBw.out;exact⟨hb.1.trans (hb4.mono hb.1.size),by rw[hb4.block w.heap.size (by omega)];exact hb.2.1⟩
    have HW:Hid (∀a b c d,((((w4.setCell ⟨w.heap.size,0,none⟩ a).setCell ⟨w.heap.size,1,none⟩ b).setCell ⟨w.heap.size,2,none⟩ c).setCell ⟨w.heap.size,3,none⟩ d).heap[w.heap.size]?=some (.cells #[a,b,c,d] 26)):=fun a b c d=>EL HB5.out.2 a b c d
    obtain⟨⟨g0,g1,g2,g3⟩,k0,k1,k2,k3⟩:=Dr.cells4 HB5.out.2;have hws:w.heap.size<wr.heap.size:=by have:=HBw.out.2.2;omega
    have HO5:=And.intro o1 (And.intro o2 o3);have HO6:Hid _:=HO5;have HAp:Hid _:=hap;clear ko hb4 o1 o2 o3 HO5 hap e0 e1 e2 e3 f0 f1 f2 f3;go_wp2;refine aI (results_cell_tmp results50 _ _ w.heap.size 26 _ (0,0) _ _ rfl rfl (HW.out _ _ _ _) underlying26 rfl (by kernel_rfl)) rfl ?_;exact⟨good,au,m,q,_,_,_,_,_,rfl,HD.out.1,HD.out.2.1,HD.out.2.2.1,HD.out.2.2.2,ry HB5.out.1 (ag _) _ _ _ _,Or.inr ⟨HF2.out,rfl,by rw[HMM.out],by rw[HMM.out];exact gw (B:=wr.heap.size) (oY (B:=wr.heap.size) HO6.out.1 hws _ _ _ _) (by omega),by rw[HMM.out];exact gw (B:=wr.heap.size) (oY (B:=wr.heap.size) HO6.out.2.1 hws _ _ _ _) (by omega),by rw[HMM.out];exact gw (B:=wr.heap.size) (oY (B:=wr.heap.size) HO6.out.2.2 hws _ _ _ _) (by omega),HAp.out⟩⟩
end Mf
namespace Mf
variable{w w':zW}
def fV(s:zA):Tx.Got:=(Tx.dv [] 1 [] false false 0 s.data.toList).foldl (Tx.bw false Pv.aH 20) nY
def br(s:zA):List (Nat×Nat×Nat):=if s.size≤2000 then jD (fV s).spoken (fV s).au else [(0,0,1)]
def bB(s:zA):Mx:=if br s=[] then dN ((fV s).good.map fun x=>dS (jw x).2) else ⟨⟨#[]⟩,[],[],[]⟩
structure CV(base:Nat)(s:zA)(W:World)(p:zA)(rv xv sv lv:zV):Prop where
 pe:p=(bB s).p
 re:W.ownsRow base 29 2 rv (bB s).R.length (mcs (reqs (bB s).R))
 xe:W.ownsRow base 29 2 xv (bB s).X.length (mcs (vT (bB s).X))
 se:W.ownsRow base 137 3 sv (bB s).S.length (scs (xf (bB s).S))
 le:W.ownsRow base 45 3 lv (br s).length (dF (br s))
 ne:(bB s).R.length≤2001∧(bB s).X.length≤2001∧(bB s).S.length≤2001∧(br s).length≤2001
theorem J8{m:Nat}{sl:List (Nat×Nat×Nat)}(h:sl.length≤2001):(jD m sl).length≤2001:=by
 unfold jD
 split
 ·simp
 ·exact h
theorem xB{s:zA}{base:Nat}{W:zW}{lv:zV}(hne:br s≠[])(hl:(br s).length≤2001)(ho:W.ownsRow base 45 3 lv (br s).length (dF (br s))):CV base s W ⟨#[]⟩ (zN) (zN) (zN) lv:=by
 have e:bB s=⟨⟨#[]⟩,[],[],[]⟩:=af hne;refine⟨by rw[e],?_,?_,?_,ho,?_⟩
 ·rw[e];exact ew _ _ _ _
 ·rw[e];exact ew _ _ _ _
 ·rw[e];exact ew _ _ _ _
 ·rw[e];exact⟨by simp,by simp,by simp,hl⟩
theorem zL:Apart (zN) (zN) (zN):=fun b=>⟨fun e=>(by cases e),fun e=>(by cases e)⟩
theorem Hb{s:zA}(hs:s.size≤2000){good:List OLn}{au:List (Nat×Nat×Nat)}{m q base:Nat}{W:zW}{p:zA}{rv xv sv:zV}(hR:fV s=⟨eI good,au,m,q⟩)(hg:good.length≤2001)(hf:jD m au=[])(hp:p=(dN (good.map fun g=>dS g.2)).p)
  (h1:W.ownsRow base 29 2 rv (dN (good.map fun g=>dS g.2)).R.length (mcs (reqs (dN (good.map fun g=>dS g.2)).R))) (h2:W.ownsRow base 29 2 xv (dN (good.map fun g=>dS g.2)).X.length (mcs (vT (dN (good.map fun g=>dS g.2)).X))) (h3:W.ownsRow base 137 3 sv (dN (good.map fun g=>dS g.2)).S.length (scs (xf (dN (good.map fun g=>dS g.2)).S))):
  CV base s W p rv xv sv (zN):=by
 have es:br s=[]:=by
  unfold br;rw[ah hs,hR];exact hf
 have e:bB s=dN (good.map fun g=>dS g.2):=by
  unfold bB;rw[ah es,hR];show dN ((eI good).map fun x=>dS (jw x).2)=_
  congr 1
  have h:=xz good;have h2:(eI good).map (fun x=>dS (jw x).2)=((eI good).map jw).map (fun g=>dS g.2):=by rw[ij];rfl
  rw[h2,h]
 have hl:=sB (good.map fun g=>dS g.2);rw[bE] at hl;refine⟨by rw[e];exact hp,by rw[e];exact h1,by rw[e];exact h2,by rw[e];exact h3,?_,?_⟩
 ·rw[es];exact ew _ _ _ _
 ·rw[e,es];exact⟨by omega,by omega,by omega,by simp⟩
theorem rz(s:zA)(w:zW)(hs:2000<s.size):
  zC 50 #[.string s] w fun e w'=>∃lv,e=.returned (.tuple #[.agg #[zE,zN,zN,zN],lv])∧w'.ownsRow w.heap.size 45 3 lv 1 (dF [(0,0,1)])∧zB w w':=by
 have hst:∀(W:zW)(a:Addr),(store a (.func (.func 85) #[] #[])).run prog W=stored prog W a (.func (.func 85) #[] #[]) .plain:=fun W a=>run_store prog W a _ _ rfl
 have HBa:Hid (zB w ((w.alloc (.cells zM 26)).alloc (.cells #[.func (.func 85) #[] #[],.string nB,zI 0,zI 0,.map none,zN] 151))∧((w.alloc (.cells zM 26)).alloc (.cells #[.func (.func 85) #[] #[],.string nB,zI 0,zI 0,.map none,zN] 151)).heap[w.heap.size]?=some (.cells zM 26)∧((w.alloc (.cells zM 26)).alloc (.cells #[.func (.func 85) #[] #[],.string nB,zI 0,zI 0,.map none,zN] 151)).heap.size=w.heap.size+2):=⟨((ae _ _).alloc (ag _) _).alloc (by simp) _,heap_alloc2_old _ _ _,by simp⟩;have kr:=fun W=>zH s (w.heap.size+1) W hs
 go_enter func50,ntmps50
 go_wp2_with (go_at_call 86;fail)
 generalize (w.alloc (.cells zM 26)).alloc (.cells #[.func (.func 85) #[] #[],.string nB,zI 0,zI 0,.map none,zN] 151)=W1 at*;go_at_call 86;refine(kr _).mono ?_;rintro e w2 ⟨lv,rfl,hown,hb⟩;clear kr hst;have HB2:Hid (zB w w2∧w2.heap[w.heap.size]?=some (.cells zM 26)):=⟨HBa.out.1.trans (hb.mono HBa.out.1.size),by rw[hb.block w.heap.size (by rw[HBa.out.2.2];omega)];exact HBa.out.2.1⟩;have HO:Hid (w2.ownsRow (w.heap.size+2) 45 3 lv 1 (dF [(0,0,1)])):=by show World.ownsRow _ _ _ _ _ _ _;rw[←HBa.out.2.2];exact hown
 obtain⟨la,lc,rfl⟩:=ay hown;have HW:Hid (∀a b c d,((((w2.setCell ⟨w.heap.size,0,none⟩ a).setCell ⟨w.heap.size,1,none⟩ b).setCell ⟨w.heap.size,2,none⟩ c).setCell ⟨w.heap.size,3,none⟩ d).heap[w.heap.size]?=some (.cells #[a,b,c,d] 26)):=fun a b c d=>EL HB2.out.2 a b c d
 obtain⟨⟨g0,g1,g2,g3⟩,f0,f1,f2,f3⟩:=Dr.cells4 HB2.out.2;clear hown hb HBa;go_wp2;refine aI (results_cell_tmp results50 _ _ w.heap.size 26 _ (0,0) _ _ rfl rfl (HW.out _ _ _ _) underlying26 rfl (by kernel_rfl)) rfl ?_;exact⟨_,rfl,gw (B:=w.heap.size+2) (oY (r:=w.heap.size) (B:=w.heap.size+2) HO.out (by omega) _ _ _ _) (by omega),ry HB2.out.1 (ag _) _ _ _ _⟩
theorem sF(s:zA)(w:zW)(hm:Ml w)(hfw:(fV s).good.length≤19):
  zC 50 #[.string s] w fun e w'=>∃p rv xv sv lv,e=.returned (.tuple #[.agg #[.string p,rv,xv,sv],lv])∧CV w.heap.size s w' p rv xv sv lv∧zB w w'∧(Apart rv xv sv∧∀b,lv.ownBlock=some b→rv.ownBlock≠some b∧xv.ownBlock≠some b∧sv.ownBlock≠some b):=by
 by_cases hs:s.size≤2000
 ·refine(sD s w hs hm (fun good au m q e=>by
   rw[←Tx.mW] at e;have e:fV s=⟨eI good,au,m,q⟩:=e;rw[e] at hfw;have hfw:(eI good).length≤19:=hfw;have:(eI good).length=good.length:=bE _;omega)).mono ?_
  rintro e w' ⟨good,au,m,q,p,rv,xv,sv,lv,rfl,hR,hg,hgl,hsl,hb,hx⟩;rw[←Tx.mW] at hR;rcases hx with⟨hne,⟨rfl,rfl,rfl,rfl⟩,ho⟩|⟨hf,rfl,hp,h1,h2,h3,hap⟩
  ·have es:br s=jD m au:=by
    unfold br;rw[ah hs];have:fV s=⟨eI good,au,m,q⟩:=hR;rw[this]
   refine⟨_,_,_,_,_,rfl,?_,hb,zL,fun b _=>⟨fun e=>by (cases e),fun e=>by (cases e),fun e=>by (cases e)⟩⟩;refine xB (by rw[es];exact hne) (by rw[es];exact J8 hsl) (by rw[es];exact ho)
  ·exact⟨_,_,_,_,_,rfl,Hb hs hR hgl hf hp h1 h2 h3,hb,hap,fun b e=>by cases e⟩
 ·refine(rz s w (by omega)).mono ?_
  rintro e w' ⟨lv,rfl,ho,hb⟩;have es:br s=[(0,0,1)]:=af hs;exact⟨_,_,_,_,_,rfl,xB (by rw[es];simp) (by rw[es];simp) (by rw[es];exact ho),hb,zL,fun b _=>⟨fun e=>by (cases e),fun e=>by (cases e),fun e=>by (cases e)⟩⟩
theorem CV.below{base:Nat}{s:zA}{p:zA}{rv xv sv lv:zV}(h:CV base s w p rv xv sv lv)(hb:zB w w'):CV base s w' p rv xv sv lv:=
 ⟨h.pe,own_below h.re hb,own_below h.xe hb,own_below h.se hb,own_below h.le hb,h.ne⟩
