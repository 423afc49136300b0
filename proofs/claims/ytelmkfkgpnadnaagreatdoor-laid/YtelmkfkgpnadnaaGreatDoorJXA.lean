import Derived.Test.YtelmkfkgpnadnaaGreatDoorJXB
import Derived.Test.YtelmkfkgpnadnaaGreatDoorJRA
set_option linter.all false
open Go.Proofs.Tryz
set_option maxRecDepth 100000
set_option maxHeartbeats 4000000
namespace Go.Proofs.YtelmkfkgpnadnaaGreatDoor
open Go.RowKit
section
variable{w w':World}
theorem jd:∀(l:List ByteArray)(j:Nat)(h:j<l.length),(bU l)[j*4]?=some (.string eJ)∧(bU l)[j*4+1]?=some (.string ⟨#[]⟩)∧(bU l)[j*4+2]?=some (.string l[j])∧(bU l)[j*4+3]?=some (.string ⟨#[]⟩)
 |x::r,0,_=>⟨rfl,rfl,rfl,rfl⟩
 |x::r,j+1,h=>by
  have e:bU (x::r)=.string eJ::.string ⟨#[]⟩::.string x::.string ⟨#[]⟩::bU r:=rfl;have ih:=jd r j (by simpa using h);rw[e];refine⟨?_,?_,?_,?_⟩
  ·rw[show(j+1)*4=j*4+1+1+1+1 by omega];simpa using ih.1
  ·rw[show(j+1)*4+1=j*4+1+1+1+1+1 by omega];simpa using ih.2.1
  ·rw[show(j+1)*4+2=j*4+2+1+1+1+1 by omega];simpa using ih.2.2.1
  ·rw[show(j+1)*4+3=j*4+3+1+1+1+1 by omega];simpa using ih.2.2.2
theorem Bo{e:TypeId}{B sz n:Nat}{u:Value}{l:List Value}(h:w.ownsRow B e sz u n l):u=.slice none 0 0∧n=0∨∃g c,u=.slice (some ⟨g,0,none⟩) n c:=by
 rcases h.2 with⟨e1,e2⟩|⟨g,c,_,e1,_⟩
 ·exact Or.inl ⟨e1,e2⟩
 ·exact Or.inr ⟨g,c,e1⟩
theorem EK(W:World):gu (W.alloc (.cells #[.func (.func 165) #[] #[],.string ⟨#[]⟩,.int .i64 0,.int .i64 0,.map none,.slice none 0 0] 151)) W.heap.size 6 rdF:=by
 have b0:=iJ W (.cells #[.func (.func 165) #[] #[],.string ⟨#[]⟩,.int .i64 0,.int .i64 0,.map none,.slice none 0 0] 151);refine⟨fun j hj=>?_,fun j hj=>?_⟩
 ·simp only[World.cell?,b0]
  rcases(by omega:j=0∨j=1∨j=2∨j=3∨j=4∨j=5) with e|e|e|e|e|e<;>rw[e]<;>rfl
 ·simp only[World.frozen?,b0];simp
theorem xy(s:ByteArray)(w:World)(hs:s.size≤2000)(hm:Ml w):
  Calls prog 121 #[.string s] w fun e w'=>∃(good:List OLn)(au:List (Nat×Nat×Nat))(m:Nat)(ov sv:Value),e=.returned (.tuple #[ov,sv])∧(Tx.spoken 1 (Pv.spl 10 s.data.toList)).foldl (Tx.bw true ipF 20) nY=⟨eI good,au,m,0⟩∧(∀g∈good,sg g)∧good.length≤2001∧au.length≤2001∧Below w.heap.size w w'∧
   ((au≠[]∧ov=.slice none 0 0∧w'.ownsRow w.heap.size 45 3 sv au.length (dF au))∨(au=[]∧sv=.slice none 0 0∧w'.ownsRow w.heap.size 9 1 ov good.length (oL (aJ good)))):=by
 obtain⟨i2,hi1,hi2,hi3,hi4⟩:=OU;have HJ:Hid (prog.info? 9=some i2∧i2.zero=some (.string ByteArray.empty)∧i2.size=1∧i2.bytes=16):=⟨hi1,hi2,hi3,hi4⟩;clear hi1 hi2 hi3 hi4;generalize hR:(Tx.spoken 1 (Pv.spl 10 s.data.toList)).foldl (Tx.bw true ipF 20) nY=R;have HM:Hid (Ml w):=hm;clear hm;have hst:∀(W:World)(a:Addr),(store a (.func (.func 165) #[] #[])).run prog W=stored prog W a (.func (.func 165) #[] #[]) .plain:=fun W a=>run_store prog W a _ _ rfl
 go_enter func121,ntmps121
 go_wp2_with (go_at_call 86;fail)
 have kr:=oW s w.heap.size (w.alloc (.cells #[.func (.func 165) #[] #[],.string ⟨#[]⟩,.int .i64 0,.int .i64 0,.map none,.slice none 0 0] 151)) hs (HM.out.below ((ae _ _).alloc (ag _) _)) (by have:=HM.out.pos;omega) (EK w);rw[hR] at kr;clear hR;have HBa:Hid (Below w.heap.size w (w.alloc (.cells #[.func (.func 165) #[] #[],.string ⟨#[]⟩,.int .i64 0,.int .i64 0,.map none,.slice none 0 0] 151))∧w.heap.size<(w.alloc (.cells #[.func (.func 165) #[] #[],.string ⟨#[]⟩,.int .i64 0,.int .i64 0,.map none,.slice none 0 0] 151)).heap.size):=⟨(ae _ _).alloc (ag _) _,by simp⟩;generalize w.alloc (.cells #[.func (.func 165) #[] #[],.string ⟨#[]⟩,.int .i64 0,.int .i64 0,.map none,.slice none 0 0] 151)=W1 at*;go_at_call 86;refine kr.mono ?_;rintro e w2 ⟨good,au,m,rv,lv,rfl,hD,hT,hgl,hsl,hfr,hx⟩;clear kr hst
 have HB2:Hid (Below w.heap.size w w2):=by
  have h1:=HBa.out.1
  exact⟨hfr.os.trans h1.os,hfr.tape.trans h1.tape,hfr.output.trans h1.output,aP h1.size hfr.size,fun b hb=>by
   rw[hfr.block b (bI hb h1.size) (by omega)];exact h1.block b hb⟩
 have HD:Hid (R=⟨eI good,au,m,0⟩∧(∀g∈good,sg g)∧good.length≤2001∧au.length≤2001):=⟨hD,hT,hgl,hsl⟩;clear hD hT hfr;rcases hx with⟨hne,rfl,hown⟩|⟨rfl,rfl,hown⟩
 ·obtain⟨la,lc,rfl⟩:=ay hown
  have hq:(0:Int)<(au.length:Int):=by have:=gp.2 hne;omega
  have HO:Hid (au≠[]∧w2.ownsRow w.heap.size 45 3 (.slice la au.length lc) au.length (dF au)):=by
   refine⟨hne,hown.1,?_⟩;rcases hown.2 with hn|⟨g,cap,cur,hv,hg,rest⟩
   ·exact .inl hn
   ·exact .inr ⟨g,cap,cur,hv,by have:=HBa.out.2;omega,rest⟩
  clear hne hown;go_wp2;go_ret2;exact⟨good,au,m,_,_,rfl,HD.out.1,HD.out.2.1,HD.out.2.2.1,HD.out.2.2.2,HB2.out,Or.inl ⟨HO.out.1,rfl,HO.out.2⟩⟩
 ·have HO:Hid (w2.ownsRow W1.heap.size 155 4 rv good.length (bU (good.map bZ))):=hown
  clear hown;obtain⟨ra,rc,rfl⟩:=ay HO.out;go_wp2;go_loopg [7,22] good.length (fun gg vv kv wr=>∃k:Nat,k≤good.length∧good.length-k≤gg∧kv=.int .i64 k∧Hid (wr.ownsRow w2.heap.size 9 1 vv k (((good.map bZ).take k).map .string))∧Below w2.heap.size w2 wr)
  case atStart=>exact⟨0,by omega,by omega,rfl,ew _ _ _ _,ae _ _⟩
  case round=>
   obtain⟨k,hk,hgk,rfl,HV,hbw⟩:=hrel;by_cases hlt:k<good.length
   ·have gN:(k:Int)<(good.length:Int):=by omega
    obtain⟨g,c,hra⟩:=dL HO.out (by omega);have Pu:ra=some ⟨g,0,none⟩:=by injection hra
    subst Pu;clear hra;have hlm:k<(good.map bZ).length:=by rw[bE];exact hlt
    obtain⟨a0,a1,a2,a3⟩:=jd (good.map bZ) k hlm;have yY:=(HO.out.lt g rfl).2;have d0:wr.cell? ⟨g,k*4,none⟩=some (.string eJ):=by rw[hbw.cell (p:=⟨g,k*4,none⟩) yY,HO.out.cellAt (k*4) (by omega)];exact a0
    have d1:wr.cell? ⟨g,k*4+1,none⟩=some (.string ⟨#[]⟩):=by rw[hbw.cell (p:=⟨g,k*4+1,none⟩) yY,HO.out.cellAt (k*4+1) (by omega)];exact a1
    have d2:wr.cell? ⟨g,k*4+2,none⟩=some (.string (good.map bZ)[k]):=by rw[hbw.cell (p:=⟨g,k*4+2,none⟩) yY,HO.out.cellAt (k*4+2) (by omega)];exact a2
    have d3:wr.cell? ⟨g,k*4+3,none⟩=some (.string ⟨#[]⟩):=by rw[hbw.cell (p:=⟨g,k*4+3,none⟩) yY,HO.out.cellAt (k*4+3) (by omega)];exact a3
    have HN:Hid (((good.map bZ).take k).map Value.string++[.string (good.map bZ)[k]]=((good.map bZ).take (k+1)).map .string):=by
     show _=_;rw[←List.take_append_getElem hlm,eQ];rfl
    generalize (good.map bZ)[k]=x at*;clear a0 a1 a2 a3 hlm;generalize ((good.map bZ).take k).map Value.string=xs at HV HN;have hsz:(wr.alloc (.cells #[.string eJ,.string ⟨#[]⟩,.string x,.string ⟨#[]⟩] 155)).heap.size=wr.heap.size+1:=by simp
    have hnw:∀j u,[Value.string x][j]?=some u→((wr.alloc (.cells #[.string eJ,.string ⟨#[]⟩,.string x,.string ⟨#[]⟩] 155)).alloc (.cells #[.string x] 9)).cell? ((⟨wr.heap.size+1,0,none⟩:Addr).add j)=some u:=fun j u hj=>by
     have h:=cell_one_new (wr.alloc (.cells #[.string eJ,.string ⟨#[]⟩,.string x,.string ⟨#[]⟩] 155)) (.string x) 9 j u hj;rw[hsz] at h;exact h
    have hbs:=hbw.size
    go_wp2_with (at_builtin;refine dU _ rfl _ _ 33 rfl w2.heap.size 9 i2 (.string ByteArray.empty) 1 16 underlying33 HJ.out.1 HJ.out.2.1 HJ.out.2.2.1 HJ.out.2.2.2 rfl (by decide) _ _ _ rfl ((HV.out.alloc _).alloc _) ⟨wr.heap.size+1,0,none⟩ 1 1 [.string x] rfl rfl hnw ?_ ?_ ?_ ?_ ?_)
    all_goals first
     |(show ∀u∈[Value.string x],u.oneCell'=true;intro u hu;simp at hu;subst hu;rfl)
     |(show k+1≤maxLen;unfold maxLen;omega)
     |(show(k+1)*16≤140737488355328;omega)
     |(show w2.heap.size≤((wr.alloc _).alloc _).heap.size;simp;omega)
     |skip
    intro vv2 w3 hown' hgrow _ _;have hb3:Below w2.heap.size w2 w3:=((hbw.alloc hbs _).alloc (by simp;omega) _).grown hgrow (by simp;omega) (fun b e=>(HV.out.lt b e).1)
    have HV2:Hid (w3.ownsRow w2.heap.size 9 1 vv2 (k+1) (((good.map bZ).take (k+1)).map .string)):=by
     rw[←HN.out];exact hown'
    clear hown' hgrow HV hnw hsz d0 d1 d2 d3 HN;go_wp2;go_roundg (good.length-(k+1))
    case measure=>omega
    case rel=>exact⟨k+1,by omega,by omega,by go_num,HV2,hb3⟩
   ·have gN:¬((k:Int)<(good.length:Int)):=by omega
    have hke:k=good.length:=by omega
    have hV:wr.ownsRow w2.heap.size 9 1 u7 good.length ((good.map bZ).map .string):=by
     have h:=HV.out;rw[hke,oy (by rw[bE];omega)] at h;exact h
    have HBw:Hid (Below w.heap.size w wr):=HB2.out.trans (hbw.mono HB2.out.size);have hml:Ml wr:=HM.out.below HBw.out;have hVl:(good.map bZ).length=good.length:=bE ..;have HPS:Hid ((aJ good).Perm (good.map bZ)∧Srt (aJ good)):=⟨bY good,iQ HD.out.2.1⟩
    have HIV:Hid (∀x∈good.map bZ,IsV x):=fun x hx=>by
     obtain⟨g,hg,rfl⟩:=bD.1 hx;exact(HD.out.2.1 g hg).2.2
    have hH2:w.heap.size≤w2.heap.size:=HB2.out.size;clear HV hbw;rcases Bo hV with⟨h7,hz⟩|⟨g,c,h7⟩
    ·have hk0:good=[]:=List.length_eq_zero_iff.1 hz
     rw[h7];have ksn:=fun fv W=>Ba fv W
     subst hk0;clear hV
     go_wp2_with (go_at_call 166;fail)
     go_at_call 166;refine(ksn _ _).mono ?_;rintro e w3 ⟨rfl,hw3⟩;rw[hw3];go_wp2;go_ret2;exact⟨[],[],m,_,_,rfl,HD.out.1,HD.out.2.1,HD.out.2.2.1,HD.out.2.2.2,HBw.out,Or.inr ⟨rfl,rfl,ew _ _ _ _⟩⟩
    ·rw[h7] at hV ⊢
     have hg0:g≠0:=by have h1:=(hV.lt g rfl).1;have h2:=HM.out.pos;omega
     have hgb:=(hV.lt g rfl).1;have kso:=sorting w2.heap.size g c (good.map bZ) wr HIV.out hml hg0 (by rw[hVl];exact hV) (by rw[hVl];have:=HD.out.2.2.1;omega);rw[hVl] at kso;clear hV
     go_wp2_with (go_at_call 166;fail)
     go_at_call 166;refine kso.mono ?_;rintro e w3 ⟨rfl,M,hMp,hMu,hMo,hMt⟩;have hMe:aJ good=M:=hMu _ HPS.out.1 HPS.out.2
     have HO3:Hid (w3.ownsRow w.heap.size 9 1 (.slice (some ⟨g,0,none⟩) good.length c) good.length (oL (aJ good))∧Below w.heap.size w w3):=by
      rw[hMe];refine⟨⟨hMo.1,?_⟩,?_⟩
      ·rcases hMo.2 with hn|⟨g',cap,cur,hv,hg,rest⟩
       ·exact .inl hn
       ·exact .inr ⟨g',cap,cur,hv,aP hH2 hg,rest⟩
      ·have hb:=HBw.out
       exact⟨hMt.os.trans hb.os,hMt.tape.trans hb.tape,hMt.output.trans hb.output,aP hb.size hMt.size,fun b hbl=>by
        rw[hMt.block b (bI hbl hb.size) (by omega)];exact hb.block b hbl⟩
     clear kso hMp hMu hMo hMt hMe;go_wp2;go_ret2;exact⟨good,[],m,_,_,rfl,HD.out.1,HD.out.2.1,HD.out.2.2.1,HD.out.2.2.2,HO3.out.2,Or.inr ⟨rfl,rfl,HO3.out.1⟩⟩
end
section
variable{w w':World}
theorem vV(s:ByteArray)(w:World)(hs:2000<s.size):
  Calls prog 121 #[.string s] w fun e w'=>∃sv,e=.returned (.tuple #[.slice none 0 0,sv])∧w'.ownsRow w.heap.size 45 3 sv 1 (dF [(0,0,1)])∧Below w.heap.size w w':=by
 have hst:∀(W:World)(a:Addr),(store a (.func (.func 165) #[] #[])).run prog W=stored prog W a (.func (.func 165) #[] #[]) .plain:=fun W a=>run_store prog W a _ _ rfl
 have kr:=zH s w.heap.size (w.alloc (.cells #[.func (.func 165) #[] #[],.string ⟨#[]⟩,.int .i64 0,.int .i64 0,.map none,.slice none 0 0] 151)) hs;have HBa:Hid (Below w.heap.size w (w.alloc (.cells #[.func (.func 165) #[] #[],.string ⟨#[]⟩,.int .i64 0,.int .i64 0,.map none,.slice none 0 0] 151))):=(ae _ _).alloc (ag _) _;go_enter func121,ntmps121
 go_wp2_with (go_at_call 86;fail)
 generalize w.alloc (.cells #[.func (.func 165) #[] #[],.string ⟨#[]⟩,.int .i64 0,.int .i64 0,.map none,.slice none 0 0] 151)=W1 at*;go_at_call 86;refine kr.mono ?_;rintro e w2 ⟨sv,rfl,hown,hb⟩;clear kr hst;obtain⟨la,lc,rfl⟩:=ay hown
 have HO:Hid (w2.ownsRow w.heap.size 45 3 (.slice la 1 lc) 1 (dF [(0,0,1)])∧Below w.heap.size w w2):=by
  refine⟨⟨hown.1,?_⟩,HBa.out.trans (hb.mono HBa.out.size)⟩;rcases hown.2 with hn|⟨g,cap,cur,hv,hg,rest⟩
  ·exact .inl hn
  ·exact .inr ⟨g,cap,cur,hv,by have:=HBa.out.size;omega,rest⟩
 clear hown hb;go_wp2;go_ret2;exact⟨_,rfl,HO.out.1,HO.out.2⟩
def Out(base:Nat)(vs:List ByteArray)(au:List (Nat×Nat×Nat))(w':World)(ov sv:Value):Prop:=
 vs.length≤2001∧au.length≤2001∧(au≠[]→ov=.slice none 0 0)∧(au=[]→sv=.slice none 0 0)∧w'.ownsRow base 9 1 ov vs.length (oL vs)∧w'.ownsRow base 45 3 sv au.length (dF au)
def jw(x:Tx.Ln):OLn:=(x.1,x.2.map fun y=>(y.1,⟨y.2.toArray⟩))
theorem xz(l:List OLn):(eI l).map jw=l:=by
 unfold eI;rw[ij]
 conv=>rhs;rw[←List.map_id l]
 apply kO;intro x _;obtain⟨n,ws⟩:=x;simp only[Function.comp,jw,aC,ij,id_eq,iH,true_and]
 conv=>rhs;rw[←List.map_id ws]
 apply kO;intro y _;obtain⟨a,b⟩:=y;simp
def zK(s:ByteArray):Tx.Got:=(Tx.dv [] 1 [] false false 0 s.data.toList).foldl (Tx.bw true ipF 20) nY
def dB(s:ByteArray):List (Nat×Nat×Nat):=if s.size≤2000 then (zK s).au else [(0,0,1)]
def fh(s:ByteArray):List ByteArray:=if s.size≤2000∧(zK s).au=[] then aJ ((zK s).good.map jw) else []
theorem Px{s:ByteArray}(hs:s.size≤2000){good:List OLn}{au:List (Nat×Nat×Nat)}{m base:Nat}{ov sv:Value}(hR:zK s=⟨eI good,au,m,0⟩)(h1:good.length≤2001)(h2:au.length≤2001)
  (hx:(au≠[]∧ov=.slice none 0 0∧w'.ownsRow base 45 3 sv au.length (dF au))∨(au=[]∧sv=.slice none 0 0∧w'.ownsRow base 9 1 ov good.length (oL (aJ good)))):Out base (fh s) (dB s) w' ov sv:=by
 have e1:dB s=au:=by unfold dB;rw[ah hs,hR]
 rw[e1];rcases hx with⟨hne,rfl,ho⟩|⟨rfl,rfl,ho⟩
 ·have e2:fh s=[]:=by unfold fh;rw[af (fun h=>hne (by have:=h.2;rw[hR] at this;exact this))]
  rw[e2];exact⟨by simp,h2,fun _=>rfl,fun h=>absurd h hne,ew _ _ _ _,ho⟩
 ·have e2:fh s=aJ good:=by
   unfold fh;rw[ah ⟨hs,by rw[hR]⟩,hR];show aJ ((eI good).map jw)=_;rw[xz]
  have hl:=df good;rw[e2];exact⟨by omega,h2,fun h=>absurd rfl h,fun _=>rfl,by rw[hl];exact ho,ew _ _ _ _⟩
theorem xA(s:ByteArray)(w:World)(hm:Ml w):
  Calls prog 121 #[.string s] w fun e w'=>∃ov sv,e=.returned (.tuple #[ov,sv])∧Out w.heap.size (fh s) (dB s) w' ov sv∧Below w.heap.size w w':=by
 by_cases hs:s.size≤2000
 ·refine(xy s w hs hm).mono ?_
  rintro e w' ⟨good,au,m,ov,sv,rfl,hR,_,h1,h2,hb,hx⟩;refine⟨ov,sv,rfl,Px hs (m:=m) ?_ h1 h2 hx,hb⟩;unfold zK;rw[Tx.mW];exact hR
 ·refine(vV s w (by omega)).mono ?_
  rintro e w' ⟨sv,rfl,ho,hb⟩;have e1:dB s=[(0,0,1)]:=by unfold dB;rw[af hs]
  have e2:fh s=[]:=by unfold fh;rw[af (fun h=>hs h.1)]
  rw[e1,e2];exact⟨_,sv,rfl,⟨by simp,by simp,fun _=>rfl,fun h=>(by cases h),ew _ _ _ _,ho⟩,hb⟩
