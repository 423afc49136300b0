import Derived.Test.YtgamgopghfpegaaGreatDoorKDUA
set_option linter.all false
open Go.Proofs.Tryz
set_option maxRecDepth 100000
set_option maxHeartbeats 4000000
namespace Go.Proofs.YtgamgopghfpegaaGreatDoor
open Go.RowKit
section
variable{w w':zW}
theorem tH(s:zA)(D:Bool)w(E:2000<s.size):
  zC 171 #[s,D] w fun e w'=>∃a c,e=.returned (.tuple #[zN,.slice a 1 c])∧w'.ownsRow w 273 3 (.slice a 1 c) 1 (cy [(0,0,1)])∧Below w w w':=by
 have f:((s.size:Int)>2000):=ae;go_enter func171,ntmps171;go_wp2;go_ret2;exact⟨_,_,rfl,nC w 0 0 1,(af _ _).alloc (ai _) _⟩
end
section
variable{w w':zW}
theorem KP a b w(M:IsV a)(F:IsV b):
  zC 89 #[.agg #[zE,a],.agg #[zE,b],true] w fun e w'=>e=((vlt a b))∧Below w w w':=by
 obtain⟨G,f⟩:=Option.isSome_iff_exists.1 M;obtain⟨I,D⟩:=Option.isSome_iff_exists.1 F;have R:=fun W=>Ae a b W G I f D
 have O:vlt a b=decide (Pv.jS G I<0):=by unfold vlt;rw[f,D]
 rw[O];generalize Pv.jS G I=r at*;clear f D M F O;have T:Hid (∀S o2,zB w ((w.alloc S).alloc o2)):=fun S o2=>((af _ _).alloc (ai _) _).alloc ah _
 go_enter func89,ntmps89
 go_wp2_with (go_at_call 63;fail)
 go_at_call 63;refine(R _).mono ?_;rintro e U ⟨rfl,E⟩;have F:=(T.out _ _).trans (E.mono aJ);clear E R;go_wp2;go_ret;simp_all
def dx(L:List zA):List zV:=L.flatMap fun v=>[zE,.string v]
theorem kK L:(dx L)=L.length*2:=by
 induction L with
 |nil=>rfl
 |cons a r f=>show(_::_::dx r).length=_;simp[f];omega
theorem E9(p post:List zA)(y v:zA)(n:Nat)(h:p=n):
  ((((dx (p++[y]++[v]++post)).set ((n+1)*2) (zE)).set ((n+1)*2+1) (y)).set (n*2) (zE)).set (n*2+1) (v)=dx (p++[v]++([y]++post)):=by
 have e:dx (p++[y]++[v]++post)=dx p++[zE,.string y,zE,.string v]++dx post:=by simp[dx]
 have f:dx (p++[v]++([y]++post))=dx p++[zE,.string v,zE,.string y]++dx post:=by simp[dx]
 rw[e,f,show _*2=n*2+2 by omega];exact T6 _ _ _ _ _ _ _ _ _ _ _ (by rw[kK,h])
theorem uZ p post v:(dx (p++[v]++post))[p.length*2]?=some (zE)∧(dx (p++[v]++post))[p.length*2+1]?=some (.string v):=by
 have e:dx (p++[v]++post)=dx p++(zE::.string v::dx post):=by simp[dx]
 rw[e]
 constructor
 ·rw[List.getElem?_append_right (by rw[kK];omega),kK,Nat.sub_self];rfl
 ·rw[List.getElem?_append_right (by rw[kK];omega),kK,show _-_=1 by omega];rfl
end
section
variable{w w':zW}
theorem rZ v lv(L:List zA)(w:zW)(B:Nat)(hB:B≤w)(ho:w.ownsRow B 68 2 lv L (dx L))(hl:L.length≤2001)(hv:IsV v)(hL:∀x∈L,IsV x):
  zC 64 #[lv,.agg #[zE,v],true] w fun e w'=>∃g c,e=.returned (.slice (some (g,0)) (L+1) c)∧w'.ownsRow B 68 2 (.slice (some (g,0)) (L+1) c) (L+1) (dx (lK v L))∧aj (fun b=>lv.ownBlock=b) w w'∧(lv.ownBlock=some g∨w≤g):=by
 obtain⟨i2,a0,a1,a2,a3⟩:=BZ;have HI:Hid (_∧_∧_∧_):=⟨a0,a1,a2,a3⟩;clear a0 a1 a2 a3;obtain⟨la,lc,rfl⟩:=aC ho;have HO:=zH ho;have HV:Hid (_∧_):=⟨hv,hL⟩;have a5:(w.alloc (.cells #[zE,v] 68))=w.heap.size+1:=ah
 have Y:Hid (∀j u,[Value.string ⟨#[]⟩,Value.string v][j]?=some u→((w.alloc (.cells #[zE,v] 68)).alloc (.cells #[zE,v] 68)).cell? ((⟨w+1,0,none⟩:Addr).add j)=some u):=by
  have h:=cell_two_new (w.alloc (.cells #[zE,v] 68)) 68 (zE) (v);rw[a5] at h;exact h
 clear ho hv hL a5;go_enter func64,ntmps64
 go_wp2_with (at_builtin;refine bO _ rfl _ _ 55 rfl B 68 i2 _ 2 32 underlying55 HI.out.1 HI.out.2.1 HI.out.2.2.1 HI.out.2.2.2 rfl aA (.slice la _ lc) _ _ rfl ((HO.out.alloc _).alloc _) _ 1 1 _ rfl rfl Y.out ?_ ?_ ?_ ?_ ?_)
 all_goals first
  |(show ∀u∈[Value.string ⟨#[]⟩,Value.string v],u.oneCell'=true;intro u hu;simp at hu;rcases hu with rfl|rfl<;>rfl)
  |(show L.length+1≤maxLen;unfold maxLen;omega)
  |(show(L.length+1)*32≤140737488355328;omega)
  |(show B≤((w.alloc _).alloc _).heap.size;simp;omega)
  |(show B≤w.heap.size+1+1;omega)
  |skip
 intro bd w1 E G _ T;obtain⟨g,c,rfl⟩:=bo E ae
 have hg:(Value.slice la L lc).ownBlock=g∨w≤g:=by
  rcases T with e|e
  ·exact Or.inl e.symm
  ·right
   have:g=w+1+1:=by simpa[Value.ownBlock] using e
   omega
 have a6:=(((aj.refl _ w).alloc _).alloc _).grown G (fun b _ e=>e);have hm:dx L++[zE,.string v]=dx (L++[v]++[]):=by simp[dx]
 rw[hm] at E;have F:Hid (_∧_):=⟨E,a6⟩;have HG:=zH hg;clear E G T hg a6 hm Y HO;go_wp2;go_loopg [7] L (fun gg s wr=>∃(p post:List zA),s=.int .i64 p.length∧p.length≤gg∧p.length≤2001∧Hid (L=p++post)∧Hid (∀z∈post,vlt v z=true)∧Hid (wr.ownsRow B 68 2 (.slice (some ⟨g,0,none⟩) (L.length+1) c) (L.length+1) (dx (p++[v]++post))∧aj (fun b=>(Value.slice la L.length lc).ownBlock=some b) w wr))
 case atStart=>exact⟨L,[],rfl,ae,ae,(eP L).symm,(fun z hz=>by cases hz),F⟩
 case round=>
  clear F;obtain⟨p,post,rfl,aq,b8,HP,HZ,F⟩:=hrel;rcases List.eq_nil_or_concat p with hp|⟨f,y,hp⟩
  ·subst hp
   have HE:Hid (lK v L=[]++[v]++post):=by
    have h:=HP.out;show _=_;rw[h,jP,Ga HZ.out];rfl
   go_wp2;go_ret;refine⟨g,c,rfl,?_,F.out.2,HG.out⟩;rw[HE.out];exact F.out.1
  ·rw[List.concat_eq_append] at hp
   subst hp;have S:L=f+1+post.length:=by have h:=HP.out;rw[h];simp;omega
   have a4:(f++[y]).length=f+1:=ah;have O:=uZ (f++[y]) post v;have R:=uZ f ([v]++post) y;have e2:f++[y]++([v]++post)=f++[y]++[v]++post:=ah;rw[e2] at R;rw[a4] at O;have c0:wr.cell? ⟨g,(f+1)*2,none⟩=some (zE):=by rw[F.out.1.cellAt _ ae];exact O.1
   have c1:wr.cell? ⟨g,(f+1)*2+1,none⟩=v:=by rw[F.out.1.cellAt _ ae];exact O.2
   have c2:wr.cell? ⟨g,f*2,none⟩=some (zE):=by rw[F.out.1.cellAt _ ae];exact R.1
   have c3:wr.cell? ⟨g,f*2+1,none⟩=y:=by rw[F.out.1.cellAt _ ae];exact R.2
   have I:=(F.out.1.lt g rfl).2;have ka:=KP v y wr.drew HV.out.1 (HV.out.2 y (by rw[HP.out];simp));have b6:(f:Int)+1-1=f:=ae;have b4:f<(L:Int)+1:=ae;have b5:f+1<(L:Int)+1:=ae;obtain⟨d,hd⟩:∃d,vlt v y=d:=⟨_,rfl⟩;rw[hd] at ka;have HD:=zH hd;clear O R e2 hd;simp only[a4] at*;generalize hm:f.length=m at*;have HM:=zH hm;clear hm;rw[show(_:Nat)=(m:Int)+1 from by omega];have b7:(0)<(m:Int)+1:=ae;go_upto_region 5 with fail;have av:m<L:=ae;have az:m≤L:=ae;have b0:m<(L:Int):=ae;have b1:m≤(L:Int):=ae;have b2:m<(L:Int)+1:=ae;have b3:m+1<(L:Int)+1:=ae;have ba:(0)≤(m:Int)+1:=ae;have bb:(0)≤(m:Int):=ae;have bc:m≤3000:=ae;have aa:(m+1:Nat)<((L+1:Nat):Int):=ae;have ab:m+1<L+1:=ae;have ad:m<L+1:=ae;have Ud:=zH S;clear S;have b9:IntKind.i64.wrap m=m:=by simp[IntKind.wrap,IntKind.bits,IntKind.signed];omega
   clear aa ab ad
   go_region_held3 (fun w'=>w'.cell? (g,(m+1)*2)=some (zE)∧w'.cell? (g,(m+1)*2+1)=v∧w'.cell? (g,m*2)=some (zE)∧w'.cell? (g,m*2+1)=y) (first|exact⟨c0,c1,c2,c3⟩|(refine⟨?_,?_,?_,?_⟩<;>assumption))
    (first|(go_at_call 89;refine ka.mono ?_;rintro e w2 ⟨rfl,V⟩;have s0:=(V.cell I).trans c0;have s1:=(V.cell I).trans c1;have s2:=(V.cell I).trans c2;have s3:=(V.cell I).trans c3;have U:=zH (((af wr wr).drew).trans V);clear V))
   have jl:=ar F.out.1 (fun b e=>U.out.block b (F.out.1.lt b e).2);have D:Hid (_∧_):=⟨jl,F.out.2.more U.out⟩;clear jl F U ka c0 c1 c2 c3;cases d
   ·have HE:Hid (lK v L=f++[y]++[v]++post):=by
     have h:=HP.out;show _=_;rw[h];exact My HZ.out HD.out
    go_wp2;go_ret;refine⟨g,c,rfl,?_,D.out.2,HG.out⟩;rw[HE.out];exact D.out.1
   ·have f0:=D.out.1.frozenAt ((m+1)*2)
    have f1:=D.out.1.frozenAt ((m+1)*2+1);have f2:=D.out.1.frozenAt (m*2);have f3:=D.out.1.frozenAt (m*2+1);have ak:=(D.out.1.lt g rfl).2;have an:g≠w2:=ae
    have M:g<w→(Value.slice la L lc).ownBlock=g:=fun h=>by
     rcases HG.out with e|e
     ·exact e
     ·omega
    have a8:Hid (∀o,(((((w2.setCell (g,(m+1)*2) (zE)).setCell (g,(m+1)*2+1) (y)).setCell (g,m*2) (zE)).setCell (g,m*2+1) (v)).alloc o).ownsRow B 68 2 (.slice (some (g,0)) (L+1) c) (L+1) (dx (f++[v]++([y]++post)))∧aj (fun b=>(Value.slice la L lc).ownBlock=some b) w (((((w2.setCell (g,(m+1)*2) (zE)).setCell (g,(m+1)*2+1) (y)).setCell (g,m*2) (zE)).setCell (g,m*2+1) (.string v)).alloc o)):=fun o=>by
     have h4:=(((((((D.out.1.stored ((m+1)*2) (zE)).1).stored ((m+1)*2+1) (y)).1).stored (m*2) (zE)).1).stored (m*2+1) (v)).1;rw[E9 f post y v m HM.out] at h4;exact⟨h4.alloc o,((((D.out.2.set M _).set M _).set M _).set M _).alloc o⟩
    have a9:Hid (∀z∈[y]++post,vlt v z=true):=fun z hz=>by
     rcases bT.1 hz with h|h
     ·have e:z=y:=by simpa using h
      rw[e];exact HD.out
     ·exact HZ.out z h
    have a7:Hid (L=f++([y]++post)):=by
     have h:=HP.out;show L=_;rw[h];simp
    go_wp2;go_roundg m
    case measure=>omega
    case rel=>exact⟨f,_,by rw[HM.out],by have:=HM.out;omega,by have:=HM.out;omega,a7,a9,a8.out _⟩
end
section
variable{w w':zW}
theorem GX(M:List zA)(j:Nat)(f:j<M):(dx M)[j*2+1]?=some (.string M[j]):=by
 have e:M=M.take j++[M[j]]++M.drop (j+1):=by
  rw[gX];have:[M[j]]++M.drop (j+1)=M.drop j:=by rw[bN f];rfl
  rw[this,List.take_append_drop]
 have h:=(uZ (M.take j) (M.drop (j+1)) M[j]).2
 grind
theorem CN(s:zA)w(hs:s.size≤2000):
  zC 138 #[s] w fun e w'=>∃good F m q ov sv,e=.returned (.tuple #[ov,sv])∧(Tx.bJ [] 1 [] false false 0 s).foldl (Tx.bK true Pv.aK 20) qf=⟨dr good,F,m,q⟩∧(∀g∈good,Mw g)∧good.length≤2001∧F.length≤2001∧Below w w w'∧
   ((F≠[]∧ov=zN∧w'.ownsRow w 273 3 sv F (cy F))∨(F=[]∧sv=zN∧w'.ownsRow w 9 1 ov good (ig (aQ good)))):=by
 have kl:=Mf.vL true s w hs;generalize a3:(Tx.bJ [] 1 [] false false 0 s.data.toList).foldl (Tx.bK true Pv.aK 20) qf=D;obtain⟨i2,a6,a7,a8,a9⟩:=FK;have HJ:Hid (_∧_∧_∧_):=⟨a6,a7,a8,a9⟩;clear a6 a7 a8 a9;go_enter func138,ntmps138
 go_wp2_with (go_at_call 171;fail)
 go_at_call 171;refine kl.mono ?_;rintro e w1 ⟨gv,sv,rfl,good,b6,F,Wl,m,q,S,hD,hT,a5,ak,⟨h,_⟩|⟨_,hS⟩⟩
 ·cases h
 replace hT:_:=fun g T=>BG (hT g T).choose_spec
 rw[a3] at hD;clear kl a3;obtain⟨sa,sc,rfl⟩:=aC hS.os;obtain⟨ga,gc,rfl⟩:=aC hS.og;have HS:=zH hS;have HB:=zH (S.trans (hS.old.mono S.size));have aq:=zH S.size;have HD:Hid (_∧_):=⟨hD,hT⟩;clear hS S hD hT;by_cases h0:F=[]
 ·subst h0
  have b4:¬((([]:List (Nat×Nat×Nat)):Int)>0):=ah;go_wp2;go_loopg [6,7] good (fun gg lv i wr=>∃k:Nat,i=.int .i64 k∧k≤good.length∧good.length-k≤gg∧Hid (wr.ownsRow w1.heap.size 68 2 lv k (dx (aQ (good.take k)))∧zB w1 wr))
  case atStart=>exact⟨0,rfl,ae,ae,bP _ _ _ _,af _ _⟩
  case round=>
   obtain⟨k,rfl,hk,b8,E⟩:=hrel;by_cases U:k<good
   ·obtain⟨ob,az⟩:∃ob,ga=some ⟨ob,0,none⟩:=by
     obtain⟨g,c,e⟩:=bo HS.out.og ae
     grind
    subst az;obtain⟨gw,cw,_,_,_,a1,_,_,_,Y,b0⟩:=pS HS.out.lie (cF HS.out.og (aN _)) k U;have V:=HD.out.2 _ (dH U);rw[V.1] at a1 Y;have a2:=Y.at' 1 ae;have yR:=(HS.out.og.lt ob rfl).2;have d1:=(E.out.2.cell yR).trans a1;have d2:wr.cell? _=(gF _):=(E.out.2.cell b0).trans a2;have VO:k<(good:Int):=ae;have M:(aQ (good.take k))=k:=by rw[aY,jy];omega
    have f:wr.ownsRow w1 68 2 u6 (aQ (good.take k)) (dx (aQ (good.take k))):=by rw[M];exact E.out.1
    have kp:=rZ (gF _) u6 _ wr _ E.out.2.size f ae V.2.2 (xN fun g T=>HD.out.2 g (List.mem_of_mem_take T));rw[M] at kp
    have HN:Hid (lK (gF good[k]) (aQ (good.take k))=aQ (good.take (k+1))):=by
     show _=_;rw[←cK,List.take_append_getElem U]
    rw[HN.out] at kp;generalize gF good[k]=v at*;clear a1 a2 Y f M V HN
    go_wp2_with (go_at_call 64;fail)
    go_at_call 64;refine kp.mono ?_;rintro e w2 ⟨g,c,rfl,jl,G,_⟩;have an:Hid (_∧zB w1 w2):=⟨jl,⟨G.os.trans E.out.2.os,G.tape.trans E.out.2.tape,G.output.trans E.out.2.output,aP E.out.2.size G.size,fun b S=>(G.block b (bU S E.out.2.size) (fun e=>by have h:=(E.out.1.lt b e).1;omega)).trans (E.out.2.block b S)⟩⟩;clear jl G kp E;go_wp2;go_roundg (good-(k+1))
    case measure=>omega
    grind
   ·have VO:(k<(good:Int))=False:=aJ
    have ad:k=good:=ae
    have f:wr.ownsRow w1 68 2 u6 good (dx (aQ good)):=by
     have h:=E.out.1;rw[ad,Bz] at h;exact h
    obtain⟨la,lc,hu⟩:=aC f;subst hu;have HM:Hid (_∧_):=⟨f,E.out.2⟩;have a0:=zH (aY good);clear f E ad
    rename zW=>w5
    go_wp2;go_loopg [8,9] good (fun gg ov i wx=>∃j:Nat,i=.int .i64 j∧j≤good.length∧good.length-j≤gg∧Hid (wx.ownsRow w5.heap.size 9 1 ov j (ig ((aQ good).take j))∧zB w5 wx))
    case atStart=>exact⟨0,rfl,ae,ae,bP _ _ _ _,af _ _⟩
    case round=>
     obtain⟨j,rfl,hj,b7,E⟩:=hrel;by_cases b2:j<good
     ·obtain⟨lb,b3⟩:∃lb,la=some ⟨lb,0,none⟩:=by
       obtain⟨g,c,e⟩:=bo HM.out.1 ae
       grind
      subst b3;have ab:j<(aQ good):=by rw[a0.out];exact b2
      have a1:w5.cell? (lb,j*2+1)=(aQ good)[j]:=by rw[HM.out.1.cellAt _ ae];exact GX _ j ab
      have VP:=(HM.out.1.lt lb rfl).2;have d1:=(E.out.2.cell VP).trans a1;have b1:j<(good:Int):=ae
      have HN:Hid (ig ((aQ good).take j)++[.string (aQ good)[j]]=ig ((aQ good).take (j+1))):=by
       show _=_;have h:=List.take_append_getElem ab;rw[←h];unfold ig;rw[eY]
       rfl
      have av:=E.out.2.size;generalize (aQ good)[j]=v at*;clear a1
      go_wp2_with (at_builtin;refine bO _ rfl _ _ 57 rfl _ 9 i2 _ 1 16 underlying57 HJ.out.1 HJ.out.2.1 HJ.out.2.2.1 HJ.out.2.2.2 rfl aA _ _ _ rfl (E.out.1.alloc _) _ 1 1 [v] rfl rfl ?_ ?_ ?_ ?_ ?_ ?_)
      all_goals first
       |exact cell_one_new _ _ _
       |(show ∀u∈[Value.string v],u.oneCell'=true;intro u hu;simp at hu;subst hu;rfl)
       |(show j+1≤maxLen;unfold maxLen;omega)
       |(show(j+1)*16≤140737488355328;omega)
       |(show w5.heap.size≤(wr.alloc _).heap.size;simp;omega)
       |(show w5.heap.size≤wr.heap.size+1;omega)
       |skip
      intro b5 w6 O I _ _
      have an:Hid (w6.ownsRow w5 9 1 b5 (j+1) (ig ((aQ good).take (j+1)))∧zB w5 w6):=by
       rw[←HN.out];exact⟨O,(E.out.2.alloc av _).grown I aJ (fun b e=>(E.out.1.lt b e).1)⟩
      clear O I E HN;go_wp2;go_roundg (good-(j+1))
      case measure=>omega
      grind
     ·have b1:(j<(good:Int))=False:=aJ
      have aa:j=good:=ae
      have f:wr.ownsRow w5 9 1 u8 good (ig (aQ good)):=by
       have h:=E.out.1;rw[aa,cV (by rw[a0.out];omega)] at h;exact h
      have a4:=(HB.out.trans (HM.out.2.mono HB.out.size)).trans (E.out.2.mono (aP HB.out.size HM.out.2.size))
      have HO:Hid (wr.ownsRow w 9 1 u8 good (ig (aQ good))∧zB w wr):=by
       refine⟨⟨f.1,?_⟩,a4⟩;rcases f.2 with hn|⟨g,cap,R,Y,T,rest⟩
       ·exact .inl hn
       ·exact .inr ⟨g,cap,R,Y,aP (aP HB.out.size HM.out.2.size) T,rest⟩
      clear f a4 E aa;go_wp2;go_ret2;exact⟨good,[],m,q,_,_,rfl,HD.out.1,HD.out.2,a5,ak,HO.out.2,Or.inr ⟨rfl,rfl,HO.out.1⟩⟩
 ·have b4:(0)<(F:Int):=by have:=eB.2 h0;omega
  have f:w1.ownsRow w 273 3 (.slice sa F sc) F (cy F):=by
   have h:=HS.out.os;refine⟨h.1,?_⟩;rcases h.2 with hn|⟨g,cap,R,Y,T,rest⟩
   ·exact .inl hn
   ·exact .inr ⟨g,cap,R,Y,aP aq.out T,rest⟩
  have HO:Hid (_∧F≠[]):=⟨f,h0⟩;clear f h0;go_wp2;go_ret2;exact⟨good,F,m,q,_,_,rfl,HD.out.1,HD.out.2,a5,ak,HB.out,Or.inl ⟨HO.out.2,rfl,HO.out.1⟩⟩
