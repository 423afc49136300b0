import Derived.Test.YtgamgopghfpegaaGreatDoorKDEC
set_option linter.all false
open Go.Proofs.Tryz
set_option maxRecDepth 100000
set_option maxHeartbeats 8000000
namespace Go.Proofs.YtgamgopghfpegaaGreatDoor
open Go.RowKit
namespace Pn
open Mf Ed
theorem Fh x:once [x]=[x]:=wI kH _ _ (EZ _) (List.pairwise_singleton _ _) (E5 [x])
theorem Ou:fj [] []=.ord [] []:=rfl
theorem G2 m:bF 1 m 2 (fun _=>false)=[[0]]:=by
 have f:bZ 1 m (fun _=>false)=[0]:=by
  unfold bZ bQ dP;cases m 0 0<;>simp[List.range_succ, *]
 have D:bZ 1 m (fun i=>false||[0].contains i)=[]:=by
  unfold bZ;simp[List.range_succ]
 rw[lx (by rw[f];simp),f,nG D]
theorem QC x W:fj [x] [W]=.ord [x.1] []:=by
 show Fi.ord ((bF 1 _ 2 (fun _=>false)).flatMap (aV [x])) ((bF 1 _ 2 (fun _=>false)).flatMap (cu [x]))=_;rw[G2]
 rfl
theorem Fj{α β:Type}{key:α→β}{f:β→β→Int}:∀(K M:List α),K.Nodup→(∀x∈K,x∉M)→K.foldl (fun M x=>Ss.ins (Go.Proofs.ltOf fun x y=>f (key x) (key y)) x M) M=K.foldl (jq key f) M
 |[],_,_,_=>rfl
 |x::K,M,h,D=>by
  obtain⟨O,E⟩:=List.nodup_cons.1 h;rw[jO,jO,jq,au (D x bS)]
  exact Fj K _ E (fun y F e=>by
   rcases(Ip x y M).1 e with e|e
   ·grind
   grind)
noncomputable def lst(l:List Mo)(i:Nat):List Mo:=((l.take i).filter (lO l)).foldl (fun M x=>Ss.ins (fun a b=>gL a b false) x M) []
theorem QE{l}(h:l.Nodup):lst l l=highest l:=by
 unfold lst;rw[Bz,←Kv];exact Fj _ _ (h.sublist List.filter_sublist) (fun _ _ e=>by cases e)
theorem Ov{l:List Mo}{i:Nat}(h:i<l):lst l (i+1)=if lO l l[i]=true then Ss.ins (fun a b=>gL a b false) l[i] (lst l i) else lst l i:=by
 unfold lst;rw[←List.take_append_getElem h,List.filter_append,qK]
 grind
theorem Tv l i:(lst l i)≤i:=by
 have gen:∀(K M:List Mo),(K.foldl (fun M x=>Ss.ins (fun a b=>gL a b false) x M) M)=M+K.length:=fun K=>by
  induction K with
  |nil=>intro M;rfl
  |cons x K f=>intro M;rw[jO,f,(Ss.oL _ _).length_eq,dF,dF];omega
 unfold lst
 grind
noncomputable def vM(l:List Mo)(x:Mo)(k:Nat):Bool:=(l.take k).all fun y=>!decide (y.1=x.1)||decide (dZ y.2 x.2≤0)
theorem KU l x:vM l x l=lO l x:=by
 unfold vM lO
 grind
theorem G3{l:List Mo}{x}{k:Nat}(h:k<l):vM l x (k+1)=(vM l x k&&(!decide (l[k].1=x.1)||decide (dZ l[k].2 x.2≤0))):=by
 unfold vM;rw[←List.take_append_getElem h,List.all_append];simp
theorem yT(n:Nat)(m:Nat→Nat→Bool):∀(f:Nat)(pl:Nat→Bool),(bF n m f pl).length≤f∧∀g∈bF n m f pl,g.length≤n
 |0,_=>⟨ai _,fun g h=>by cases h⟩
 |f+1,pl=>by
  by_cases h:bZ n m pl=[]
  ·rw[nG h];simp
  ·rw[lx h]
   have E:=yT n m f (fun i=>pl i||(bZ n m pl).contains i);refine⟨ax,fun g D=>?_⟩;rcases bI.1 D with e|D
   ·rw[e];exact EF n m pl
   grind
theorem CR{α β:Type}(f:α→List β)(k:Nat):∀(L:List α),(∀x∈L,(f x).length≤k)→(L.flatMap f).length≤L.length*k
 |[],_=>by simp
 |x::L,h=>by
  have E:=CR f k L (fun y D=>h y (eJ _ D));have:=h x bS;rw[od,bj,dF,dR];omega
theorem QF{G}{ws}(h:G.length≤60):(lj (fj G ws)).1.length≤100000∧(lj (fj G ws)).2.length≤100000:=by
 obtain⟨f,D⟩:=yT G (bC (ed G ws) G) (G+1) (fun _=>false);have F:=CR (aV G) 60 _ (fun g E=>by have:=D g E;unfold aV;grind);have M:=CR (cu G) 1 (bF G (bC (ed G ws) G) (G+1) (fun _=>false)) (fun g _=>by unfold cu;grind);have O:=dD 60 f;exact⟨aP F ae,aP M ae⟩
theorem Ox s p v:∀x∈(dMx s p v).R,x.1.size≤2000:=by
 have k:=sZ (s (0,p,v));unfold dMx bL;generalize fg (s (0,p,v))=f at*
 split
 ·simp
 ·intro x D
  cases f with
  |man E m=>exact(k.2.1.R x D).1
  |_=>cases D
theorem KV s n:∀x∈(wOf s n).1,x.1.size≤2000:=by
 have gen:∀(root:zA)(X L G:List Mo)(D:List Pb),(∀x∈L,x.1.size≤2000)→(∀x∈G,x.1.size≤2000)→∀x∈(cM ((bp root X L G D).run s (orc (val s)))).1,x.1.size≤2000:=fun root X L=>by
  induction L with
  |nil=>exact fun G D _ E=>E
  |cons r L F=>
   intro G D M E;have R:=fun x f=>M x (eJ _ f)
   rw[Bg]
   split
   ·grind
   ·have S:∀m,choose r (li (idxOf (s (1,r.1,e0)))) X=.inl m→m.1=r.1:=fun m e=>by
     have O:∀(L:List zA) m,cT X r.1 L=some m→m.1=r.1:=fun L=>by
      induction L with
      |nil=>intro m e;cases e
      |cons v L F=>intro m e;unfold cT at e;split at e;exact F m e;injection e with e;rw[←e]
     unfold choose at e
     grind
    grind
 unfold wOf;rw[EX s n rfl]
 split
 ·intro x f;cases f
 ·refine gen _ _ _ [] [] (fun x f=>?_) (fun x f=>by cases f)
  exact Ox s _ _ x f
theorem yU:∀(r l f:List Mo),cz l r=some f→(∀x∈l,x.1.size≤2000)→(∀x∈r,x.1.size≤2000)→∀x∈f,x.1.size≤2000
 |[],l,f,h,D,_=>by injection h with h;grind
 |m::r,l,f,h,D,M=>by
  have E:=fun x F=>M x (eJ _ F)
  unfold cz at h
  split at h
  ·exact yU r l f h D E
  ·split at h
   ·cases h
   ·exact yU r _ f h (fun x F=>by
     grind) E
theorem Bq(root:zA)(s:Shf)(E:root.size≤2000):∀(n:Nat)(l:List Mo)(i:Nat)(D:List Pb),(∀x∈l,x.1.size≤2000)→∀x∈(lL ((cO root n l i D).run s (orc (val s)))).1,x.1.size≤2000
 |0,l,i,D,h=>fun x f=>h x ((tE l x).1 f).1
 |n+1,l,i,D,h=>by
  cases hm:l[i]? with
  |none=>rw[py (BA.1 hm)];exact fun x f=>h x ((tE l x).1 f).1
  |some m=>
   rw[px hm,Cm.run,yL];cases ha:cz l (wOf s m).1 with
   |none=>intro x f;rw[fW.1 f];exact E
   |some F=>exact Bq root s E n F _ _ (yU _ _ _ ha h (KV s m))
variable{w W U:zW}{n g:Nat}{α:Type}{enc:α→List zV}{Z t sz:Nat}
theorem Ro.lit(K:Knd Z t sz enc)x(f:W.heap[g]?=some (.cells (enc x).toArray t))(D:n≤g):Ro t sz enc n W (.slice (some (g,0)) 1 1) [x]:=by
 have e:[x].flatMap enc=enc x:=ah;unfold Ro;rw[e];exact⟨by rw[K.ln];simp,Or.inr ⟨g,1,_,rfl,D,f,ai _,aA,by simp[K.ln],cV (by simp[K.ln])⟩⟩
theorem G4{s}{B}{w'}{v1 v2 F}{G}{D E}{f}(O:val s ⟨3,e0,e0⟩=.list G D∧val s ⟨4,e0,e0⟩=.ord f E)(R:Ro 68 2 Sm.mc B w' v1 G)(S:Ro 72 3 aZ B w' v2 (once (D++E)))(T:Ro 9 1 dU B w' F f)(M:G.length≤100000∧D.length≤1000000∧f.length≤100000∧E.length≤100000):N0 s B (.returned (.agg #[v1,v2,F])) w':=⟨v1,v2,F,G,D,f,E,rfl,O,⟨R,S,T⟩,M⟩
abbrev zAr:Array zV:=#[zN,zN,zN]
def Fl(K l:List Mo)(f O:List Sl):Prop:=∀(j:Nat)(x:Sl),O[j]?=some x→∃(y:Mo)(k:Nat),K[j]?=some y∧l[k]?=some y∧f[k]?=some x
theorem Fl.nil K l f:Fl K l f []:=fun j x h=>by simp at h
theorem Fl.add{K l}{f O}{y:Mo}{x:Sl}{k:Nat}(h:Fl K l f O)(F:K[O.length]?=y)(M:l[k]?=y)(R:f[k]?=x):Fl K l f (O++[x]):=fun j z D=>by
 by_cases E:j<O
 ·rw[wO E] at D;exact h j z D
 grind
theorem rdV{A}{a}{c}{L}(h:RdA A GY w (.slice a n c) L)(f:Below w w W)(i:Nat)(D:i<L):∃b o,a=some ⟨b,o,none⟩∧W.cell? (b,o+i)=(sl L[i]):=by
 obtain⟨b,o,c,e,E⟩:=h.at (s:=1) (fun _=>rfl) aA f i D;injection e with e;exact⟨b,o,e,by have:=E 0 _ rfl;grind⟩
variable{B Q J:Nat}{mv Y:zV}{G I:List Tt}{root:zA}
theorem IA w(h:gD w B Q mv Y G I root J)(hl:G.length≤90000∧I.length≤90000)(hr:root.size≤2000):
  zC 43 #[.pointer (some (Q,0))] w fun e w'=>N0 (ez G I root) w e w'∧Below w w w':=by
 have HB:=zH (boxed w zAr 59);have HD:Hid (∀W,zB w W→_):=fun W hb=>h.below hb
 have HR:=zH (CO G I root);clear h;have r0:=(HD.out _ HB.out.1).f2.1;have kr:=fun h0=>Ti _ (HD.out _ HB.out.1) hl h0
 have q0:=gZ root;generalize ez G I root=s at*;go_enter func43,ntmps43;by_cases h0:root.size=0
 ·rw[bu h0] at q0
  have HV:Hid (val s ⟨3,e0,e0⟩=.list [] [(1,e0,e0)]):=by
   show _=_;rw[oW s aA];show il.run s (orc (val s))=_;unfold il;simp only[Cm.run,HR.out];rw[ay h0];rfl
  obtain⟨⟨c0,f0⟩,⟨c1,f1⟩,⟨c2,f2⟩⟩:=fd3 HB.out.2.1;have db:=HB.out.2.2;have HO:=zH ((CJ HV.out).trans Ou);clear kr h0;go_wp2;refine aL (bz results43 _ _ _ 59 _ _ _ rfl (nH w _ _).2.1 underlying59 rfl aB) rfl ?_;exact⟨G4 ⟨HV.out,HO.out⟩ Ro.nil (by rw[eP,Fh];exact Ro.lit kP _ (nH w _ _).2.2 ae) Ro.nil ⟨aN _,aA,aN _,aN _⟩,(nH w _ _).1⟩
 ·rw[br h0] at q0
  have kr:=kr h0
  go_wp2_with (go_at_call 62;fail)
  generalize w.alloc _=W1 at*;go_at_call 62;refine kr.mono ?_;rintro e V ⟨lv,wv,pv,rfl,l,vs,i,ps,aq,c4,c7,b1,dv,ct⟩;have ba:=zH aq;have a8:Hid (_∧_∧_):=⟨c4,c7,b1⟩;obtain⟨la,lc,rfl⟩:=aq.l0.len;have R:Hid (_∧_):=⟨HB.out.1.trans (aq.b0.mono HB.out.1.size),(aq.b0.block _ (ag HB.out.2.1)).trans HB.out.2.1⟩;obtain⟨n,hn⟩:∃n,l.length=n:=⟨_,rfl⟩;have HN:=zH hn;rw[hn] at ba ct ⊢;clear hn aq c4 c7 b1 kr r0;have r0:=(HD.out _ R.out.1).f2.1;obtain⟨⟨c0,f0⟩,⟨c1,f1⟩,⟨c2,f2⟩⟩:=fd3 R.out.2;by_cases h6:n≤60
  ·have cf:¬((n:Nat):Int)>60:=ae
   obtain rfl:i=n:=by rw[←HN.out];exact a8.out.2.1 (by rw[HN.out];exact h6)
   have HV:=zH (a8.out.1.done (by rw[HN.out];exact h6) (by rw[HN.out];omega))
   have HZ:Hid (∀x∈highest l,x.1.size≤2000):=by
    have k:=Bq root s hr 61 [(root,e0)] 0 [] (fun x hx=>ax);rw[←(Rch.start HR.out h0).run ah,HV.out] at k;exact k
   have an:=zH (Ro.rd kM ba.out.l0 (fun _ e=>False.elim e));clear r0 c0 f0 c1 f1 c2 f2;go_wp2;go_loopg [6,8] i (fun gg s6 s8 wr=>∃a:Nat,a≤i∧i-a≤gg∧s8=.int .i64 a∧zB V wr∧Hid (Ro 68 2 Sm.mc V.heap.size wr s6 (lst l a)))
   case atStart=>exact⟨0,ae,ae,rfl,af _ _,Ro.nil⟩
   case round=>
    obtain⟨a,ha,ds,rfl,S,HK⟩:=hrel;obtain⟨w3,rfl⟩:∃w3,w3=wr:=⟨_,rfl⟩;by_cases ch:a<i
    ·have cj:a<(i:Int):=ae
     have h1:a<l:=by rw[HN.out];exact ch
     obtain⟨b,o,rfl,_⟩:=rdM an.out (af _ _) a h1;have HX:Hid (∀W,zB V W→_):=fun W hb=>Fb an.out hb a h1
     have bc:=zH (Ov h1);generalize l[a]=x at*;go_wp2;go_loopg [9,10] i (fun gg s9 dk wr=>∃k:Nat,k≤i∧i-k≤gg∧s9=.bool (vM l x k)∧dk=.int .i64 k∧zB w3 wr)
     case atStart=>exact⟨0,ae,ae,rfl,rfl,af _ _⟩
     case round=>
      obtain⟨k,hk,cn,rfl,rfl,a9⟩:=hrel;obtain⟨w4,rfl⟩:∃w4,w4=wr:=⟨_,rfl⟩;have ab:=S.trans (a9.mono S.size);obtain⟨x0,x1⟩:=HX.out _ ab;by_cases cs:k<i
      ·have bm:k<(i:Int):=ae
       have h2:k<l:=by rw[HN.out];exact cs
       obtain⟨y0,y1⟩:=Fb an.out ab k h2;have HY:Hid (∀W,zB V W→_):=fun W hb=>Fb an.out hb k h2
       have HS:=zH (G3 (x:=x) h2);generalize l[k]=y at*;have bi:=cr _ _ x0;have kw:=Ay y.2 x.2 w4.drew;go_upto_region 15 with fail
       go_region_held3 (fun W=>W.cell? (b,o+k*2+1)=y.2∧W.cell? (b,o+a*2+1)=x.2) (first|exact⟨y1,x1⟩|(refine⟨?_,?_⟩<;>assumption))
        (first|(go_at_call 63;refine kw.mono ?_;rintro e w5 ⟨rfl,f⟩;have s0:=(f.cell (p:=(b,o+k*2+1)) bi).trans y1;have s1:=(f.cell (p:=(b,o+a*2+1)) bi).trans x1))
       have av:=a9.trans ((((af _ _).drew).trans f).mono a9.size);clear x0 x1 y0 y1 kw f s0 s1 bi a9 ab;obtain⟨x0,x1⟩:=HX.out _ (S.trans (av.mono S.size));obtain⟨y0,y1⟩:=HY.out _ (S.trans (av.mono S.size));obtain⟨dp,bk⟩:∃d,decide (y.1=x.1)=d:=⟨_,rfl⟩;obtain⟨dc,cm⟩:∃d,decide (dZ y.2 x.2≤0)=d:=⟨_,rfl⟩;have q1:=(iz y.1 x.1).trans bk;rw[bk,cm] at HS;generalize dZ y.2 x.2=r at*;generalize vM l x k=bb at*;clear bk;cases bb<;>cases dp<;>cases dc
       all_goals
        go_upto_region 16 with fail;go_quiet (fail);generalize hW:World.drewN _ _=W7
        replace av:zB w3 W7:=by rw[←hW];exact bw av _
        clear hW;go_wp2;go_roundg (i-(k+1))
        case measure=>omega
        case rel=>exact⟨k+1,ae,ae,by rw[HS.out];rfl,by go_num,av⟩
      ·have bm:¬k<(i:Int):=ae
       obtain rfl:k=i:=ae;have e:vM l x k=lO l x:=by rw[←HN.out];exact KU l x
       rw[e];have b5:=zH (HK.out.below a9);have Xl:=Tv l a;clear e a9;generalize lO l x=bb at*;cases bb
       ·rw[au aA] at bc
        rw[←bc.out] at b5;go_wp2;go_roundg (k-(a+1))
        case measure=>omega
        case rel=>exact⟨_,ae,ae,by go_num,ab,b5⟩
       ·rw[ay rfl] at bc
        have kp:=Cg x.1 x.2 false u6 _ w4 _ ab.size b5.out ae
        go_wp2_with (go_at_call 64;fail)
        go_at_call 64;refine kp.mono ?_;rintro e w5 ⟨g,c,rfl,ho,ht,a4⟩
        have ak:Hid (Ro 68 2 Sm.mc V w5 (.slice (some (g,0)) ((lst l a)+1) c) (lst l (a+1))):=by
         rw[bc.out];show World.ownsRow _ _ _ _ _ _ _;rw[(Ss.oL _ _).length_eq,dF];exact ho
        have f:=bg ab ht (fun b e=>(b5.out.lt b e).1);clear ho ht a4 kp x0 x1;go_wp2;go_roundg (k-(a+1))
        case measure=>omega
        case rel=>exact⟨_,ae,ae,by go_num,f,ak⟩
    ·have cj:¬a<(i:Int):=ae
     obtain rfl:a=i:=ae;have eK:lst l a=highest l:=by rw[←HN.out];exact QE a8.out.1.nd
     rw[eK] at HK;clear eK;have bd:Hid (_∧_∧_):=⟨EY l,yw HV.out,fun x hx=>((tE l x).1 hx).1⟩;generalize highest l=K at*;obtain⟨ka,kc,rfl⟩:=HK.out.len;obtain⟨m,hm⟩:∃m,K.length=m:=⟨_,rfl⟩;have HM:=zH hm;have b9:=zH (Ro.rd kM HK.out (fun _ e=>False.elim e));have Tw:=bd.out.2.1;rw[hm] at HK b9 Tw ⊢;clear hm;have a2:=zH (ba.out.below S);obtain⟨wa,fa,rfl⟩:=a2.out.w0.len;have bh:Hid (_∧_):=⟨Ro.rd kL a2.out.w0 (fun _ e=>False.elim e),an.out.below S⟩;have b1:=a8.out.2.2;rw[b1] at bh ⊢;go_wp2;go_loopg [7,12] m (fun gg s7 dn wr=>∃(j:Nat)(O:List Sl),j≤m∧m-j≤gg∧dn=.int .i64 j∧zB w3 wr∧Hid (Ro 55 1 GY w3.heap.size wr s7 O∧O.length=j∧Fl K l vs O))
     case atStart=>exact⟨0,[],ae,ae,rfl,af _ _,Ro.nil,rfl,Fl.nil _ _ _⟩
     case round=>
      obtain⟨j,O,hj,du,rfl,aa,HO⟩:=hrel;obtain⟨w4,rfl⟩:∃w4,w4=wr:=⟨_,rfl⟩;by_cases cq:j<m
      ·have cp:j<(m:Int):=ae
       have h1:j<K:=by rw[HM.out];exact cq
       obtain⟨b,o,rfl,_⟩:=rdM b9.out (af _ _) j h1;have HX:Hid (∀W,zB w3 W→_):=fun W hb=>Fb b9.out hb j h1
       have HJ:Hid (_∧_):=⟨dE h1,bd.out.2.2 _ (dH h1)⟩;generalize K[j]=x at*;go_wp2;go_loopg [7,13] a (fun gg s7 dq wr=>∃(k:Nat)(O':List Sl),k≤a∧a-k≤gg∧dq=.int .i64 k∧zB w3 wr∧O'.length≤j+1∧Hid (Ro 55 1 GY w3.heap.size wr s7 O'∧Fl K l vs O'∧((O'.length=j∧x∉l.take k)∨(O'.length=j+1∧x∈l.take k))))
       case atStart=>exact⟨0,O,ae,ae,rfl,aa,by rw[HO.out.2.1];omega,HO.out.1,HO.out.2.2,Or.inl ⟨HO.out.2.1,ah⟩⟩
       case round=>
        obtain⟨k,O',hk,cn,rfl,f,cx,T⟩:=hrel;obtain⟨x0,x1⟩:=HX.out _ f;by_cases c8:k<a
        ·have bm:k<(a:Int):=ae
         have h2:k<l:=by rw[HN.out];exact c8
         obtain⟨b2,o2,rfl,y0,y1⟩:=rdM bh.out.2 f k h2;have h3:k<vs:=by rw[b1];exact c8
         obtain⟨b3,M,rfl,z0⟩:=rdV bh.out.1 f k h3
         have a6:Hid ((x∈_↔_)∧_∧_∧l[k]∉l.take k):=⟨tJ h2,dE h2,dE h3,fun e=>by
          obtain⟨q,hq,e⟩:=List.mem_take_iff_getElem.1 e;exact lB.1 a8.out.1.nd q k _ h2 ae e⟩
         generalize l[k]=y at*;generalize vs[k]=z at*;obtain⟨za,zn,zc⟩:=z;simp only[sl] at z0;by_cases he:y=x
         ·have hq:=fun w=>(Ef (Gi he) w).1
          have a1:Hid (O'=j∧(x∈l.take (k+1))):=by
           rcases T.out.2.2 with q|q
           ·exact⟨q.1,a6.out.1.2 (Or.inr he.symm)⟩
           ·exact absurd q.2 (he▸a6.out.2.2.2)
          have cb:=zH (T.out.2.1.add (by rw[a1.out.1];exact HJ.out.1) (by rw[a6.out.2.1,he]) a6.out.2.2.1);clear he;go_upto_region 25 with fail;go_quiet (fail);generalize hW:World.drewN _ _=W7;have D:zB wr W7:=by rw[←hW];exact bw (af _ _) _
          have a0:=zH (f.trans (D.mono f.size));have b7:=zH (T.out.1.below D);have z1:=(D.cell (cr _ _ z0)).trans z0;clear hW D x0 x1 y0 y1 z0 hq
          go_wp2_with (at_builtin;refine app1 kL (za,zn,zc) rfl _ _ rfl rfl rfl ah b7.out ae a0.out.size ?_)
          intro v7 w8 ho ht a4;have cc:=zH ho;have ck:=bg a0.out ht (fun b e=>(b7.out.lt b e).1);clear ho ht a4 z1;go_wp2;go_roundg (a-(k+1))
          case measure=>omega
          case rel=>exact⟨_,_,ae,ae,by go_num,ck,by rw[bj,a1.out.1];simp,cc.out,cb.out,Or.inr ⟨by rw[bj,a1.out.1];rfl,a1.out.2⟩⟩
         ·have hq:=fun w=>(Ef (Gj he) w).1
          have a1:Hid ((_∧x∉_)∨(_∧_)):=T.out.2.2.imp (fun q=>⟨q.1,fun e=>(a6.out.1.1 e).elim q.2 (fun e=>he e.symm)⟩) (fun q=>⟨q.1,a6.out.1.2 (Or.inl q.2)⟩);clear he;go_upto_region 25 with fail;go_quiet (fail);generalize hW:World.drewN _ _=W7;have D:zB wr W7:=by rw[←hW];exact bw (af _ _) _
          have a0:=zH (f.trans (D.mono f.size));have b7:=zH (T.out.1.below D);clear hW D x0 x1 y0 y1 z0 hq;go_wp2;go_roundg (a-(k+1))
          case measure=>omega
          case rel=>exact⟨_,O',ae,ae,by go_num,a0.out,cx,b7.out,T.out.2.1,a1.out⟩
        ·have bm:¬k<(a:Int):=ae
         have a1:Hid (O'=j+1):=by
          rcases T.out.2.2 with q|q
          ·exact absurd (by rw[cV (by rw[HN.out];omega)];exact HJ.out.2) q.2
          ·exact q.1
         go_wp2;go_roundg (m-(j+1))
         case measure=>omega
         case rel=>exact⟨_,O',ae,ae,by go_num,f,T.out.1,a1.out,T.out.2.1⟩
      ·have cp:¬j<(m:Int):=ae
       obtain rfl:j=m:=ae
       have HW:Hid (RdL w4 u7 (K.map fun x=>(wOf s x).1)):=by
        refine⟨⟨O,Ro.rd kL HO.out.1 (fun _ e=>False.elim e),by rw[dM,HM.out,HO.out.2.1],fun q x y h1 h2=>?_⟩,fun y hy=>?_⟩
        ·obtain⟨yy,k,e1,e2,e3⟩:=HO.out.2.2 q x h1
         rw[jN,e1] at h2;injection h2 with h2;rw[←h2];exact(a2.out.v0 k x yy e3 e2).all.below aa
        ·obtain⟨x,_,e⟩:=dC.1 hy
         rw[←e];exact(Iy s x).1
       have kl:=UN _ u7 K _ w4 (by rw[HM.out];exact Tw) ah bd.out.1 HZ.out (b9.out.below aa) HW.out;have cd:Hid (val s _=.ord (lj (fj K _)).1 (lj (fj K _)).2):=CJ HV.out;have b8:=zH (QF (ws:=K.map fun x=>(wOf s x).1) (by rw[HM.out];exact Tw));generalize fj K (K.map fun x=>(wOf s x).1)=F at*
       go_wp2_with (go_at_call 65;fail)
       go_at_call 65;refine kl.mono ?_;rintro e w5 ⟨nv,cv,rfl,bn,c5,f⟩;have QG:=aa.trans (f.mono aa.size);have Tz:=S.trans (QG.mono S.size);have a7:Hid (_∧_):=⟨a2.out.p0.below QG,aP ba.out.b0.size Tz.size⟩;have bs:=zH (Ro.rd kP c5 (fun _ e=>e));have b6:=zH bn;have ak:=zH (HK.out.below QG);have b4:Hid (_∧_):=⟨Tz,aP S.size aa.size⟩;obtain⟨na,nc,rfl⟩:=bn.len;have da:ps+(lj F).2.length≤100000000:=by have:=b8.out.2;omega
       obtain⟨nn,c9⟩:∃nn,(lj F).1.length=nn:=⟨_,rfl⟩;rw[c9] at b6 ⊢;clear bn c5 f QG Tz kl c9
       go_wp2_with (at_builtin;refine Tg kP rfl _ _ rfl rfl rfl bs.out a7.out.1 da a7.out.2 ?_)
       intro v5 w6 ho ht a4;have db:=HB.out.1.size;have c3:=zH (Ro.rd kP ho (fun _ e=>False.elim e));have a3:=fun b e=>(a2.out.p0.lt b e).2
       have bv:=zH ((b6.out.other (fO b6.out a7.out.1 aA) ht a4).1);have bt:=zH ((ak.out.other (fO ak.out a7.out.1 aA) ht a4).1)
       have ad:Hid (zB w w6∧w6.heap[w.heap.size]?=some (.cells zAr 59)):=by
        have dj:=R.out.1.trans (b4.out.1.mono R.out.1.size);have az:=ag R.out.2;have c6:∀b,Ow pv b→w<b:=fun b e=>by have:=(a7.out.1.lt b e).1;have:=HB.out.2.2;omega
        exact⟨bg dj ht (fun b e=>Nat.le_of_lt (c6 b e)),(ht.block _ (bU az b4.out.1.size) (fun e=>absurd (c6 _ e) (Nat.lt_irrefl _))).trans ((b4.out.1.block _ az).trans R.out.2)⟩
       clear ho ht a4 bs a7 b6 ak;have ks:=Ff v5 _ w6 (by rw[bj];have:=b8.out.2;omega) c3.out
       go_wp2_with (go_at_call 66;fail)
       go_at_call 66;refine ks.mono ?_;rintro e w7 ⟨xv,rfl,bq,D⟩;obtain⟨xa,xn,xc,rfl⟩:=(Ro.rd kP bq (fun _ e=>False.elim e)).shape;have a0:Hid (_∧_):=⟨ad.out.1.trans (D.mono ad.out.1.size),(D.block _ (ag ad.out.2)).trans ad.out.2⟩;have a5:Hid (_∧_∧_):=⟨bt.out.below D,bq,bv.out.below D⟩;have ca:Hid (_∧_∧_):=⟨ag R.out.2,ag ad.out.2,bU (ag R.out.2) b4.out.2⟩;clear bq D ks bv bt c3;obtain⟨⟨c0,f0⟩,⟨c1,f1⟩,⟨c2,f2⟩⟩:=fd3 a0.out.2
       have HF:Hid (∀p q r,(((w7.setCell (w,0) p).setCell (w,1) q).setCell (w,2) r).heap[w.heap.size]?=some (.cells #[p,q,r] 59)∧zB w (((w7.setCell (w,0) p).setCell ⟨w,1,none⟩ q).setCell ⟨w,2,none⟩ r)∧∀b,w.heap.size<b→(((w7.setCell ⟨w,0,none⟩ p).setCell ⟨w,1,none⟩ q).setCell ⟨w,2,none⟩ r).heap[b]?=w7.heap[b]?):=fun p q r=>by
        have a3:∀(b i:Nat),w<b→b≠((w,i):Addr).block:=fun b i h=>by show b≠w.heap.size;omega
        exact⟨uR a0.out.2 p q r,((a0.out.1.setCell (ai _) _).setCell (ai _) _).setCell (ai _) _,fun b h=>(aM _ _ _ _ (a3 b 2 h)).trans ((aM _ _ _ _ (a3 b 1 h)).trans (aM _ _ _ _ (a3 b 0 h)))⟩
       go_wp2;refine aL (bz results43 _ _ _ 59 _ _ _ rfl (HF.out _ _ _).1 underlying59 rfl aB) rfl ?_;have az:=ca.out;exact⟨G4 ⟨HV.out,cd.out⟩ ((a5.out.1.block fun b e=>(HF.out _ _ _).2.2 b (by have:=(a5.out.1.lt b e).1;omega)).down ae) ((a5.out.2.1.block fun b e=>(HF.out _ _ _).2.2 b (by have:=(a5.out.2.1.lt b e).1;omega)).down ae) ((a5.out.2.2.block fun b e=>(HF.out _ _ _).2.2 b (by have:=(a5.out.2.2.lt b e).1;omega)).down ae) ⟨by rw[HM.out];omega,ae,b8.out.1,b8.out.2⟩,(HF.out _ _ _).2.1⟩
  ·have cf:((n:Nat):Int)>60:=ae
   have HV:=zH (a8.out.1.many (by rw[HN.out];omega));have HO:=zH ((CJ HV.out).trans (QC _ _));have az:=ag R.out.2;have Gc:=(HD.out _ R.out.1).f2.lt;have HA:∀E o2 M,(((V.alloc E).alloc o2).alloc M).heap[_]?=_:=fun E o2 M=>(((aO _ _ _ aJ).trans (aO _ _ _ aJ)).trans (aO _ _ _ az)).trans R.out.2
   have k0:=fun E o2 M=>(fd3 (HA E o2 M)).1.1
   have k1:=fun E o2 M=>(fd3 (HA E o2 M)).2.1.1
   have k2:=fun E o2 M=>(fd3 (HA E o2 M)).2.2.1
   have k3:=fun E o2 M=>(fd3 (HA E o2 M)).1.2
   have k4:=fun E o2 M=>(fd3 (HA E o2 M)).2.1.2
   have k5:=fun E o2 M=>(fd3 (HA E o2 M)).2.2.2
   have HF:Hid (∀E o2 M a b c,((((((V.alloc E).alloc o2).alloc M).setCell (w,0) a).setCell (w,1) b).setCell (w,2) c).drew.heap[w.heap.size]?=some (.cells #[a,b,c] 59)∧zB w ((((((V.alloc E).alloc o2).alloc M).setCell (w,0) a).setCell ⟨w,1,none⟩ b).setCell ⟨w,2,none⟩ c).drew∧(∀g o,w.heap.size<g→(((V.alloc E).alloc o2).alloc M).heap[g]?=some o→((((((V.alloc E).alloc o2).alloc M).setCell ⟨w,0,none⟩ a).setCell ⟨w,1,none⟩ b).setCell ⟨w,2,none⟩ c).drew.heap[g]?=o)):=fun E o2 M a b c=>by
    have a3:∀(g i:Nat),w<g→g≠((w,i):Addr).block:=fun g i h=>ax
    exact⟨uR (HA E o2 M) a b c,((((aD (aD (aD R.out.1 _) _) _).setCell (ai _) _).setCell (ai _) _).setCell (ai _) _).drew,fun g o h e=>(aM _ _ _ _ (a3 g 2 h)).trans ((aM _ _ _ _ (a3 g 1 h)).trans ((aM _ _ _ _ (a3 g 0 h)).trans e))⟩
   have HG:Hid (∀E o2 M,(((V.alloc E).alloc o2).alloc M).heap[V.heap.size]?=E∧(((V.alloc E).alloc o2).alloc M).heap[V.heap.size+1]?=o2∧(((V.alloc E).alloc o2).alloc M).heap[V.heap.size+1+1]?=M):=fun E o2 M=>by
    have k:=nH V E o2;have s2:((V.alloc E).alloc o2)=V.heap.size+1+1:=ah;exact⟨(aO _ _ _ ae).trans k.2.1,(aO _ _ _ ae).trans k.2.2,by rw[←s2];exact aI _ _⟩
   clear c0 f0 c1 f1 c2 f2;go_upto_region 5 with fail;clear HA
   go_region
   all_goals
    go_wp2;refine aL (bz results43 _ _ _ 59 _ _ _ rfl (HF.out _ _ _ _ _ _).1 underlying59 rfl aB) rfl ?_;refine⟨G4 ⟨HV.out,HO.out⟩ (Ro.lit kM _ ?_ ae) ?_ (Ro.lit kS root ?_ ae) ⟨ah,ah,ah,ah⟩,(HF.out _ _ _ _ _ _).2.1⟩
    all_goals
     try (rw[eP,Fh];refine Ro.lit kP _ ?_ ae)
     refine(HF.out _ _ _ _ _ _).2.2 _ _ ae ?_
     first|exact(HG.out _ _ _).1|exact(HG.out _ _ _).2.1|exact(HG.out _ _ _).2.2
