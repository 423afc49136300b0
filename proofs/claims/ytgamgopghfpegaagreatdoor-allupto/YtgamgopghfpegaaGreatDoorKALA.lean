import Derived.Test.YtgamgopghfpegaaGreatDoorKDEB
set_option linter.all false
open Go.Proofs.Tryz
set_option maxRecDepth 100000
set_option maxHeartbeats 1000000
namespace Go.Proofs.YtgamgopghfpegaaGreatDoor
open Go.RowKit
namespace Pn
open Mf Ed
abbrev Oj(x:UInt8):List zV:=[.int .u8 (x.toNat:Int)]
theorem kB:Knd 98 5 1 Oj:=by
 obtain⟨i,h⟩:=Bm.eD 5 (.int .u8 0) 1 1 aB;exact⟨underlying98,⟨i,_,_,h.1,h.2.1,h.2.2.1,h.2.2.2,rfl,aA⟩,aA,fun _=>rfl,fun x u f=>by simp[Oj] at f;rw[f];rfl⟩
def CQ:Nat→Nat→List UInt8
 |0,_=>[]
 |f+1,n=>if n=0 then [] else UInt8.ofNat (48+n%10)::CQ f (n/10)
def wd(c:Nat):zA:=⟨(35::CQ 20 c).toArray⟩
theorem UH f:CQ f 0=[]:=by cases f<;>simp[CQ]
theorem Ol:∀l:List UInt8,l.flatMap Oj=l.map fun x=>Value.int .u8 (x.toNat:Int)
 |[]=>rfl
 |_::l=>iE _ (Ol l)
theorem Om{W}{n g cap:Nat}{l:List UInt8}(h:Ro 5 1 Oj n W (.slice (some (g,0)) l cap) l):(convert 98 9 (.slice (some (g,0)) l cap)).run prog W=.ok (.string ⟨l.toArray⟩) W:=by
 refine run_convert_bytes_back W 98 9 5 _ cap l underlying98 underlying5 underlying9 fun j f=>?_
 refine World.ownsRow.cells h rfl j _ ?_;rw[Ol,jN,dE f];rfl
theorem tK(c:Nat)(hc:c≤10000000000)w:zC 28 #[c] w fun e w'=>e=.returned ((wd c))∧Below w w w':=by
 obtain⟨D,hD⟩:∃D,CQ 20 c=D:=⟨_,rfl⟩;have HW:Hid (∀L,L=D→wd c=⟨(35::L).toArray⟩):=fun L e=>by rw[e,←hD];rfl
 have H0:Hid ([]++CQ 20 c=D):=hD;clear hD;generalize wd c=x at*;go_enter func28,ntmps28;go_wp2;go_loopg [0,3] 20 (fun gg nv v wr=>∃(m f:Nat)(L:List UInt8),nv=.int .i64 m∧m≤10000000000∧f≤gg∧L.length+f≤20∧zB w wr∧Hid (m<10 ^ f∧L++CQ f m=D∧Ro 5 1 Oj w.heap.size wr v (35::L)))
 case atStart=>exact⟨c,20,[],rfl,hc,ae,aA,(af _ _).alloc (ai _) _,ae,H0.out,World.ownsRow_lit w _ 1 (ai _) aA rfl⟩
 case round=>
  clear H0;obtain⟨m,f,L,rfl,hm,a7,hl,hb,HL⟩:=hrel;by_cases a0:m=0
  ·subst a0
   have e:=HL.out.2.1;rw[UH,eP] at e;have hr:=HL.out.2.2;obtain⟨g,cap,hv⟩:=bo hr ah;rw[hv] at hr ⊢;have a5:=Om hr;rw[←HW.out L e] at a5;generalize (35::L).length=ll at*;clear hr HL HW e;go_wp2;go_ret;exact⟨rfl,hb⟩
  ·obtain⟨f,rfl⟩:∃f',f=f'+1:=⟨f-1,by have:=HL.out.1;grind⟩
   have a8:(0)<(m:Int):=ae
   have hw:IntKind.u8.wrap (48+m%10)=((UInt8.ofNat (48+m%10)).toNat):=by
    rw[UInt8.toNat_ofNat'];simp[IntKind.wrap,IntKind.bits,IntKind.signed]
   have HN:Hid (m/10<10 ^ f∧(L++[UInt8.ofNat (48+m%10)])++CQ f (m/10)=D):=by
    have h:=HL.out;rw[CQ,au a0,Nat.pow_succ] at h;exact⟨ae,ax⟩
   have HR:=zH HL.out.2.2;obtain⟨va,vc,hv⟩:=HR.out.len;rw[hv] at HR ⊢;have HE:Hid ((35::L).length≤100):=by show _≤_;simp;omega
   generalize UInt8.ofNat (48+m%10)=d at*;generalize hX:(35::L)=X at*;have HX:Hid (X++[d]=35::(L++[d])):=by rw[←hX];rfl
   have hs:=hb.size;generalize a2:X.length=xl at*;have a3:=zH a2;clear HL hX a2
   go_wp2_with (at_builtin;refine app1 kB d rfl _ _ rfl rfl rfl ah HR.out (by rw[a3.out];have:=HE.out;omega) hs ?_)
   intro V U a6 a1 _;have a4:=bg hb a1 (fun b e=>(HR.out.lt b e).1);clear a1;go_wp2;go_roundg f
   case measure=>omega
   case rel=>exact⟨_,f,_,by go_num,ae,ae,aJ,a4,HN.out.1,HN.out.2,by rw[←HX.out];exact a6⟩
end Pn
namespace Pn
open Mf Ed
abbrev Ent:=Sl×Nat
abbrev zY(x:Ent):List zV:=[sl x.1,.int .i64 (x.2:Nat)]
abbrev xc:Nat→Nat→List zV
 |0,c=>[.string (wd c),.string e0]
 |1,c=>[.int .i64 (-(c:Int)),.string e0,.string e0]
 |_,c=>[.string (wd c)]
abbrev et:Nat→Nat
 |0=>66
 |1=>70
 |_=>74
abbrev tt:Nat→Nat
 |0=>68
 |1=>72
 |_=>9
abbrev zt:Nat→Nat
 |0=>2
 |1=>3
 |_=>1
abbrev uE(T:List zV)(_:Unit):List zV:=T
abbrev rp(n:Nat):List Unit:=List.replicate n ()
theorem On x:∀u∈zY x,u.oneCell'=true:=fun u f=>by
 simp[zY] at f;rcases f with rfl|rfl<;>rfl
theorem kE k(f:k<3):Knd (33+k) (et k) 2 zY:=by
 have q:∀t,(prog.info? t).map (fun i=>(i.zero,i.size,i.bytes))=some (some (.agg #[zN,.int .i64 0]),2,32)→∃i z b,prog.info? t=some i∧i.zero=some z∧i.size=2∧i.bytes=b∧z.cells.size=2∧b≤64:=fun t h=>by
  obtain⟨i,h⟩:=Bm.eD t _ 2 32 h;exact⟨i,_,_,h.1,h.2.1,h.2.2.1,h.2.2.2,rfl,aA⟩
 rcases k with _|_|_|k
 ·exact⟨underlying33,q 66 aB,aA,fun _=>rfl,On⟩
 ·exact⟨underlying34,q 70 aB,aA,fun _=>rfl,On⟩
 ·exact⟨underlying35,q 74 aB,aA,fun _=>rfl,On⟩
 ·omega
theorem Fc k c(f:k<3):(xc k c)=zt k:=ax
theorem UI k c:∀u∈xc k c,u.oneCell'=true:=fun u f=>by
 rcases k with _|_|k<;>simp[xc] at f
 ·rcases f with rfl|rfl<;>rfl
 ·rcases f with rfl|rfl<;>rfl
 ·rw[f];rfl
theorem kX k c(f:k<3):Knd (55+k) (tt k) (zt k) (uE (xc k c)):=by
 have l:=fun _:Unit=>Fc k c f
 have o:=fun _:Unit=>UI k c
 rcases k with _|_|_|k
 ·exact⟨kM.un,kM.io,kM.ps,l,o⟩
 ·exact⟨kP.un,kP.io,kP.ps,l,o⟩
 ·exact⟨kS.un,kS.io,kS.ps,l,o⟩
 ·omega
variable{α:Type}{enc:α→List zV}{st t sz n N M:Nat}{Z:List α}{A A2:Nat→Prop}{w W U:zW}{v V O:zV}{T:List zV}{x:Sl}
theorem vZ{P:Program}(w:zW)base t ty e(i:TypeInfo)(z:zV)size bytes(ht:P.underlying t=some (.slice e))(hi:P.info? e=i)(hz:i.zero=z)
  (D:i.size=size) (a9:i.bytes=bytes) (ad:z.cells.size=size) (ab:0<size)
  v n xs (a1:w.ownsRow base e size v n xs)
  (a:Addr) m c (f:List zV) (hl:f=m*size) (a0:∀j u,f[j]?=some u→w.cell? (a.add j)=some u) (h1:∀u∈f,u.oneCell'=true)
  (a7:n+m≤maxLen) (a4:(n+m)*bytes≤140737488355328) (a5:base≤w):
  ∃V w',(Builtin.append_ #[t,t] ty #[v,.slice (a) m c]).run P w=.ok V w'∧w'.ownsRow base e size V (n+m) (xs++f)∧w.grownBy w' v.ownBlock∧
   (V.ownBlock=v.ownBlock∨(V.ownBlock=w.heap.size∧w.grownBy w' none)):=by
 obtain⟨V,w',hr,h2,h3,_,h5⟩:=run_append_own_at w base t ty e i z size bytes ht hi hz D a9 ad ab v n xs a1 a m c f hl a0 h1 a7 a4 a5;refine⟨V,w',hr,h2,h3,?_⟩;rcases h5 with h5|h5
 ·exact Or.inl h5
 ·refine Or.inr ⟨h5,?_⟩
  rcases a1.2 with⟨rfl,rfl⟩|⟨g,cap,a6,rfl,ak,hg,aq,an,aa,Q9⟩
  ·exact h3
  ·have VW:n+m≤9223372036854775807:=by simp only[maxLen] at a7;omega
   by_cases a3:n+m≤cap
   ·exfalso
    have a8:n*i.size+f≤a6.size:=by rw[hl,aa,D,←dR];exact dD _ a3
    have a2:=run_append_room w t ty e i ht hi g n cap a6 hg a m c f (by rw[hl,D]) a0 h1 a3 a8;rw[hr] at a2;injection a2 with e1 e2;rw[e1] at h5;have:=(wL.1 hg).1;simp[Value.ownBlock] at h5;omega
   ·have holds:=a1.cells (g:=g) rfl
    have a2:=run_append_grow w t ty e i z ht hi hz _ n cap xs (by rw[a1.1,D]) holds a m c f (by rw[hl,D]) a0 ae ae (growslice_fits ae ax);rw[hr] at a2;injection a2 with e1 e2;rw[e2];exact⟨rfl,rfl,rfl,ah,fun k hk _=>aO _ _ k hk⟩
theorem rC{P:Program}{a4}{rest}{o}{a}{w:zW}{Q}(a7:o.guard=none)s x t
  (ho:o.op=.call {callee:=.builtin .append,args:=#[s,x],argTypes:=#[t,t]})
  base e (i:TypeInfo) (z:zV) size bytes (ht:P.underlying t=some (.slice e)) (hi:P.info? e=i) (hz:i.zero=z)
  (a2:i.size=size) (a6:i.bytes=bytes) (a9:z.cells.size=size) (a8:0<size)
  v n xs (hs:a.eval s=v) (a3:w.ownsRow base e size v n xs)
  (ad:Addr) m c (f:List zV) (hx:a.eval x=.slice (ad) m c) (hl:f=m*size) (a1:∀j u,f[j]?=some u→w.cell? (ad.add j)=some u) (h1:∀u∈f,u.oneCell'=true)
  (a5:n+m≤maxLen) (D:(n+m)*bytes≤140737488355328) (a0:base≤w)
  (h:∀V w',w'.ownsRow base e size V (n+m) (xs++f)→w.grownBy w' v.ownBlock→(V.ownBlock=v.ownBlock∨(V.ownBlock=some w.heap.size∧w.grownBy w' none))→wpList P a4 Q rest (a.put o.dst V) w'):
  wpList P a4 Q (o::rest) a w:=by
 refine wpList_plain a7 fun K hK=>?_
 obtain⟨V,w',hr,h2,h3,h4⟩:=vZ w base t o.type e i z size bytes ht hi hz a2 a6 a9 a8 v n xs a3 ad m c f hl a1 h1 a5 D a0;unfold Oper.wp execOp;simp only[ho,resolve,invoke,builtin,Sem.run_bind,Sem.run_pure,Result.andThen_ok,List.map_toArray,eA,mG,hs,hx,hr];exact hK _ _ (h V w' h2 h3 h4)
theorem UJ(K:Knd st t sz enc)x{D}{rest}{o}{a}{Q}(a0:o.guard=none)s y
  (ho:o.op=.call {callee:=.builtin .append,args:=#[s,y],argTypes:=#[st,st]}) (hs:a.eval s=v) {g:Nat} (hy:a.eval y=.slice (some (g,0)) 1 1) (hg:g=W)
  (h:Ro t sz enc n W v Z) (hl:Z.length≤100000000) (hn:n≤W)
  (k:∀V U,Ro t sz enc n U V (Z++[x])→aj (Ow v) W U→Nr W v V→((∀b,Ow v b→Ow V b)∨aj (fun _=>False) W U)→wpList prog D Q rest (a.put o.dst V) U):
  wpList prog D Q (o::rest) a (W.alloc (.cells (enc x).toArray t)):=by
 subst hg;obtain⟨i,z,b,h1,h2,h3,h4,h5,h6⟩:=K.io;have h:W.ownsRow n t sz v _ _:=h;refine rC a0 s y st ho n t i z sz b K.un h1 h2 h3 h4 h5 K.ps v _ _ hs (h.alloc _) _ 1 1 _ hy (by rw[K.ln,eE]) (fun j u hj=>?_) (K.on x) (by unfold maxLen;omega) ?_ aJ fun V U a1 hg f=>?_
 ·have q:=dL W (enc x).toArray t (j:=j) (u:=u) (by simpa using hj)
  rw[show(_:Addr).add j=(W,j) by cases j<;>simp[Addr.add]];exact q.1
 ·have:(Z+1)*b≤_:=Nat.mul_le_mul_left _ h6
  omega
 ·refine k V U ?_ (((aj.refl _ _).alloc _).grown hg (fun b _ e=>e)) (fun b e=>?_) (f.imp (fun q b e=>ax) (fun q=>((aj.refl _ _).alloc _).grown q.2 (fun b _ e=>by cases e)))
  ·unfold Ro
   grind
  ·rcases f with q|q
   ·grind
   ·right
    rw[q.1] at e;have:W+1=b:=by simpa using e
    omega
def En(A:Nat→Prop)(T:List zV)(N:Nat)(W:zW)(x:Sl):Prop:=RdA A (uE T) W (sl x) (rp x.2.1)∧x.2.1≤N∧∀a,x.1=some a→a.off=0
theorem En.keep{p}(h:En A T N W x)(ht:aj p W U)(f:∀b,b<W.heap.size→A2 b→A b)(hp:∀b,b<W.heap.size→p b→A b)(D:N≤M):En A2 T M U x:=⟨h.1.keep ht f hp,aP h.2.1 D,h.2.2⟩
theorem En.own(h:Ro t sz (uE T) n W v (rp N))(D:T=sz)(f:∀b,Ow v b→¬A b):∃x,v=sl x∧En A T N W x:=by
 obtain⟨a,c,e⟩:=h.len;have hl:(rp N)=N:=List.length_replicate;rw[hl] at e;refine⟨(a,N,c),e,by show RdA A (uE T) W (.slice a N c) (rp N);rw[←e];exact RdA.Ev h rfl (fun _=>D) f,ai _,fun a' e'=>?_⟩;rcases h.2 with⟨q,_⟩|⟨g,_,_,q,_⟩
 ·grind
 grind
theorem Tj{m M j:Nat}{u:zV}(h:m≤M)(f:((rp m).flatMap (uE T))[j]?=u):((rp M).flatMap (uE T))[j]?=u:=by
 have e:rp M=rp m++rp (M-m):=by simp[rp];omega
 grind
theorem En.app(h:En A T N W x)(hr:Ro t sz (uE T) n U V (rp M))(hN:N≤M)(ht:aj (Ow v) W U)(D:(∀b,Ow v b→Ow V b)∨aj (fun _=>False) W U):En A T M U x:=by
 rcases D with D|D
 ·refine⟨?_,aP h.2.1 hN,h.2.2⟩
  rcases h.1 with q|⟨b,o,c,q,f,hc⟩
  ·exact Or.inl q
  ·refine Or.inr ⟨b,o,c,q,⟨f.1,f.2.1,f.2.2.1,bU f.2.2.2 ht.size⟩,fun j u hj=>?_⟩
   by_cases hb:Ow v b
   ·have e:x.1=some ⟨b,o,none⟩:=by injection q
    have o0:=h.2.2 _ e;subst o0;have:=World.ownsRow.cells hr (D b hb) j u (Tj (aP h.2.1 hN) hj);rw[show(_:Addr).add j=(b,0+j) by cases j<;>simp[Addr.add]] at this;exact this
   ·exact(ht.cell f.2.2.2 hb).trans (hc j u hj)
 ·exact h.keep D (fun _ _ e=>e) (fun _ _ e=>e.elim) hN
def puts(W:zW)(g o:Nat):List zV→zW
 |[]=>W
 |u::us=>puts (W.setCell ⟨g,o,none⟩ u) g (o+1) us
theorem Fe{B g n cap e s:Nat}:∀(T us P f:List zV)(W:zW),us.length=T.length→W.ownsRow B e s (.slice (some ⟨g,0,none⟩) n cap) n (P++(us++f))→(puts W g P.length T).ownsRow B e s (.slice (some ⟨g,0,none⟩) n cap) n (P++(T++f))∧aj (fun b=>b=g) W (puts W g P.length T)
 |[],us,P,f,W,hl,h=>by
  rw[lD hl] at h;exact⟨h,aj.refl _ _⟩
 |c::T,us,P,f,W,hl,h=>by
  rcases us with _|⟨u,us⟩
  ·simp at hl
  ·have h1:=(h.stored P c).1
   have e:(P++(u::us++f)).set P c=(P++[c])++(us++f):=ah;rw[e] at h1;have ih:=Fe T us _ f _ (by simpa using hl) h1;rw[bj,iT] at ih;have D:=ih.1;rw[show P++[c]++_=P++(c::T++f) by simp] at D;refine⟨D,((aj.refl (fun b=>b=g) W).set (fun _=>rfl) c).trans ih.2 (fun _ _ e=>e) (fun _ _ e=>e)⟩
theorem pZ{r}{c}{f:TypeId}(h:Ro t sz enc n W v Z)(h':W.heap[r]?=some (.cells c f))(ht:t≠f):¬Ow v r:=fun e=>by
 rcases h.2 with⟨q,_⟩|⟨g,_,D,q,_,q2,_⟩
 ·rw[q] at e;simp[Ow,Value.ownBlock] at e
 ·rw[q] at e
  have e:g=r:=by simpa[Ow,Value.ownBlock] using e
  grind
end Pn
namespace Pn
open Mf Ed
abbrev wcl(J Y:zV)(c:Nat)(I:Nat→zV):Array zV:=#[J,Y,.int .i64 (c:Nat),I 0,I 1,I 2]
abbrev us{α:Type}(s:Nat→α)(k:Nat)(x:α):Nat→α:=fun j=>if j=k then x else s j
structure Lw(A R:Nat→Prop)(w:World)(G:Nat)(J Y:zV)(c:Nat)(I:Nat→zV)(E:Nat→List Ent):Prop where
 hw:w.heap[G]?=some (.cells (wcl J Y c I) 37)
 aw:A G
 ro:∀k,k<3→Ro (et k) 2 zY 0 w (I k) (E k)
 la:∀k b,k<3→Ow (I k) b→A b
 en:∀k,k<3→∀e∈E k,e.2≤c∧RdA (fun b=>A b∨R b) (uE (xc k e.2)) w (sl e.1) (rp e.1.2.1)
 le:∀k,(E k).length≤4*c
variable{A R A2 R2 p:Nat→Prop}{w W U:zW}{G c d k n N i:Nat}{J Y v gv O j0 S:zV}{I:Nat→zV}{E:Nat→List Ent}{F:List Ent}
theorem Lw.keep(h:Lw A R w G J Y c I E)(D:aj p w W)(hp:∀b,b<w.heap.size→p b→A b∨R b)(hn:∀b,p b→b≠G∧∀k,k<3→¬Ow (I k) b)(h2:∀b,b<w.heap.size→A2 b∨R2 b→A b∨R b)(h3:∀b,A b→A2 b):Lw A2 R2 W G J Y c I E:=
 ⟨(D.block G (ag h.hw) (fun e=>(hn G e).1 rfl)).trans h.hw,h3 _ h.aw,fun k f=>(h.ro k f).block fun b e=>D.block b ((h.ro k f).lt b e).2 (fun q=>(hn b q).2 k f e),fun k b f e=>h3 b (h.la k b f e),fun k f e he=>⟨(h.en k f e he).1,(h.en k f e he).2.keep D h2 hp⟩,h.le⟩
theorem UK{j}(f:j<3)(D:k<3)(h:j≠k):et j≠et k:=by
 grind
theorem Bp{j}(f:j<3)(D:k<3):tt k≠et j∧et j≠37∧tt k≠37:=by
 grind
structure T1(w:World)(G:Nat)(J Y:zV)(d:Nat)(I:Nat→zV)(k bx:Nat)(v:zV)(n:Nat)(W:World)(i:Nat):Prop where
 hw:W.heap[G]?=some (.cells (wcl J Y d I) 37)
 hv:∃ys,W.ownsRow 0 (tt k) (zt k) v n ((rp i).flatMap (uE (xc k d))++ys)
 tn:aj (fun b=>b=G∨Ow v b) w W
 hx:k<2→W.heap[bx]?=some (.cells (xc k d).toArray (tt k))∧bx≠G∧¬Ow v bx
theorem Oo k c i(f:k<3):((rp i).flatMap (uE (xc k c)))=i*zt k:=by
 rw[Ss.gp (fun _=>Fc k c f),List.length_replicate]
theorem T1.next{bx}(h:T1 w G J Y d I k bx v n W i)(hk:k<3)(hi:i<n)(hw:¬Ow v G):∃(g cap:Nat)(f:List zV),v=.slice (some (g,0)) n cap∧f=zt k∧(∀j u,f[j]?=some u→W.cell? (g,i*zt k+j)=some u)∧(∀j,W.frozen? ⟨g,j,none⟩=false)∧T1 w G J Y d I k bx v n (puts W g (i*zt k) (xc k d)) (i+1):=by
 obtain⟨f,hv⟩:=h.hv;obtain⟨g,cap,rfl⟩:=bo hv ae;have hl:=Oo k d i hk;have a2:=Fc k d hk
 have a3:zt k≤f:=by
  have:=hv.1;rw[bj,hl] at this;have D:(i+1)*zt k≤_:=dD _ hi;rw[dR] at D;omega
 have hb:(i+1)*zt k≤_:=dD _ hi;rw[dR] at hb;have e:f=_++f.drop (zt k):=(List.take_append_drop _ _).symm;have a0:(f.take (zt k))=zt k:=by rw[jy];omega
 have hg:g≠G:=fun q=>hw (by rw[q];rfl)
 refine⟨g,cap,_,rfl,a0,fun j u hj=>?_,fun j=>hv.frozenAt j,?_⟩
 ·have a1:=(dh.1 hj).1
  rw[hv.cellAt _ ae,List.getElem?_append_right ae,hl,Nat.add_sub_cancel_left]
  grind
 ·rw[e] at hv
  have q:=Fe (xc k d) _ _ _ W ae hv;rw[hl] at q;refine⟨(q.2.block G (ag h.hw) (fun e=>hg e.symm)).trans h.hw,⟨f.drop (zt k),?_⟩,h.tn.trans q.2 (fun _ _ e=>e) (fun b _ e=>Or.inr (by rw[e];rfl)),fun D=>⟨(q.2.block bx (ag (h.hx D).1) (fun e=>(h.hx D).2.2 (by rw[e];rfl))).trans (h.hx D).1,(h.hx D).2⟩⟩;have e2:rp _=rp i++[()]:=List.replicate_succ'
  grind
theorem T1.start{B bx:Nat}{xs}(h:Lw A R w G J Y c I E)(D:w.ownsRow B (tt k) (zt k) v n xs)(nv:¬Ow v G)(f:Below (w.setCell (G,2) ((d:Nat))) (w.setCell (G,2) ((d:Nat))) W)(hx:k<2→W.heap[bx]?=some (.cells (xc k d).toArray (tt k))∧w≤bx):T1 w G J Y d I k bx v n W 0:=by
 have z:(w.setCell (G,2) (d))=w.heap.size:=ah;have t:aj (fun b=>b=G∨Ow v b) w (w.setCell _ (d)):=(aj.refl _ w).set (a:=(G,2)) (fun _=>Or.inl rfl) _;have l:=ag h.hw;refine⟨(f.block G ae).trans (bl _ G 2 _ _ _ h.hw),⟨xs,CF (ar D fun b e=>(f.block b (by have:=(D.lt b e).2;omega)).trans (aM _ _ _ _ (fun q:b=G=>nv (q▸e)))) (aN _)⟩,t.trans (aj.of_below f) (fun _ _ e=>e) (fun _ _ e=>e),fun h2=>⟨(hx h2).1,ae,fun e=>by have:=(hx h2).2;have:=(D.lt bx e).2;omega⟩⟩
abbrev Lb(G:Nat)(I:Nat→zV)(k:Nat)(v:zV)(b:Nat):Prop:=b=G∨Ow (I k) b∨Ow v b
structure Tk(A R:Nat→Prop)(w:World)(G:Nat)(J Y:zV)(d:Nat)(I:Nat→zV)(E:Nat→List Ent)(k bx:Nat)(v:zV)(W:World)(gv O:zV)(N:Nat)(F:List Ent):Prop where
 hw:W.heap[G]?=some (.cells (wcl J Y d (us I k O)) 37)
 ro:∀j,j<3→Ro (et j) 2 zY 0 W (us I k O j) (us E k (E k++F) j)
 en:∀e∈F,e.2=d∧En (fun b=>(A b∨Ow O b)∨R b) (xc k d) N W e.1
 hg:Ro (tt k) (zt k) (uE (xc k d)) 0 W gv (rp N)
 ga:∀b,Ow gv b→¬(A b∨R b)∧(Ow v b∨w.heap.size≤b)
 tn:aj (Lb G I k v) w W
 lb:∀b,Ow O b→Ow (I k) b∨w.heap.size≤b
 hx:k<2→W.heap[bx]?=some (.cells (xc k d).toArray (tt k))∧¬Ow gv bx∧¬Ow O bx∧bx≠G
variable{bx:Nat}
theorem Tk.kk(h:Tk A R w G J Y d I E k bx v W gv O N F)(f:k<3):Ro (et k) 2 zY 0 W O (E k++F):=by
 have:=h.ro k f
 grind
theorem Tk.start(h:Lw A (fun b=>R b∨Ow v b) w G J Y c I E)(f:T1 w G J Y d I k bx v n W n)(hk:k<3)(hv:∀b,Ow v b→¬(A b∨R b))(hb:w≤bx):Tk A R w G J Y d I E k bx v W v (I k) n []:=by
 have e1:us I k (I k)=I:=funext fun j=>ax
 have e2:us E k (E k++[])=E:=funext fun j=>ax
 obtain⟨ys,hy⟩:=f.hv;have hl:=Oo k d n hk;have y0:ys=[]:=lD (by have:=hy.1;grind);rw[y0,eP] at hy;have ow:∀j b,_→_→¬(b=G∨_):=fun j b D e q=>q.elim (fun q=>pZ (h.ro j D) h.hw (Bp D hk).2.1 (q▸e)) (fun q=>hv b q (Or.inl (h.la j b D e)))
 refine⟨by rw[e1];exact f.hw,fun j D=>?_,fun e he=>absurd he dI,?_,fun b e=>⟨hv b e,Or.inl e⟩,f.tn.mono (fun b _ e=>e.imp id Or.inr),fun b e=>Or.inl e,fun h2=>⟨(f.hx h2).1,(f.hx h2).2.2,fun e=>by have:=((h.ro k hk).lt bx e).2;omega,(f.hx h2).2.1⟩⟩
 ·rw[e1,e2]
  exact(h.ro j D).block fun b e=>f.tn.block b ((h.ro j D).lt b e).2 (ow j b D e)
 ·unfold Ro
  grind
theorem Tk.drew(h:Tk A R w G J Y d I E k bx v W gv O N F):Tk A R w G J Y d I E k bx v W.drew gv O N F:=⟨h.hw,h.ro,h.en,h.hg,h.ga,⟨h.tn.os,h.tn.tape,h.tn.output,h.tn.size,h.tn.block⟩,h.lb,h.hx⟩
theorem Tk.gro(h:Tk A R w G J Y d I E k bx v W gv O N F)(hk:k<3)(aw:A G)(hA:∀b,A b∨R b→b<w)(hr:Ro (tt k) (zt k) (uE (xc k d)) 0 U j0 (rp N++[()]))(D:aj (Ow gv) W U)(hn:Nr W gv j0)(hq:(∀b,Ow gv b→Ow j0 b)∨aj (fun _=>False) W U):Tk A R w G J Y d I E k bx v U j0 O (N+1) F:=by
 have e2:rp _=rp N++[()]:=List.replicate_succ';rw[←e2] at hr;have s:=h.tn.size;refine⟨(D.block G (ag h.hw) (fun e=>(h.ga G e).1 (Or.inl aw))).trans h.hw,fun j hj=>(h.ro j hj).block fun b e=>D.block b ((h.ro j hj).lt b e).2 (fun q=>fO h.hg (h.ro j hj) (Bp hj hk).1 b q e),fun e he=>⟨(h.en e he).1,(h.en e he).2.app hr (bW _) D hq⟩,hr,fun b e=>?_,h.tn.trans D (fun _ _ e=>e) (fun b hb e=>Or.inr (Or.inr ((h.ga b e).2.resolve_right ae))),h.lb,fun f=>⟨(D.block bx (ag (h.hx f).1) (h.hx f).2.1).trans (h.hx f).1,fun e=>?_,(h.hx f).2.2⟩⟩
 ·rcases hn b e with e|e
  ·exact h.ga b e
  grind
 ·rcases hn bx e with e|e
  ·exact(h.hx f).2.1 e
  ·have:=ag (h.hx f).1;omega
theorem Tk.lis{x}(h:Tk A R w G J Y d I E k bx v W (sl x) O N F)(f:k<3)(aw:A G)(hr:Ro (et k) 2 zY 0 U S ((E k++F)++[(x,d)]))(ht:aj (Ow O) W U)(hn:Nr W O S):Tk A R w G J Y d I E k bx v (U.setCell (G,3+k) S) (sl x) S N (F++[(x,d)]):=by
 have s:=h.tn.size;have rk:=h.kk f;have nw:=pZ rk h.hw (Bp f f).2.1;have a1:=(ht.block G (ag h.hw) nw).trans h.hw;have a2:=pZ hr a1 (Bp f f).2.1;have t2:aj _ U (U.setCell _ S):=(aj.refl (fun b=>b=G) U).set (a:=(G,3+k)) (fun _=>rfl) _;have t3:=ht.trans t2 (fun _ _ e=>Or.inl e) (fun _ _ e=>Or.inr e);have ng:∀b,_→¬(_∨b=G):=fun b e q=>q.elim (fun q=>fO h.hg rk (Bp f f).1 b e q) (fun q=>(h.ga b e).1 (Or.inl (q▸aw)))
 have a0:=h.hg.block fun b e=>t3.block b (h.hg.lt b e).2 (ng b e)
 refine⟨?_,fun j hj=>?_,fun e he=>?_,a0,h.ga,h.tn.trans t3 (fun _ _ e=>e) (fun b hb e=>e.elim (fun e=>Or.inr (Or.inl ((h.lb b e).resolve_right ae))) Or.inl),fun b e=>?_,fun D=>⟨(t3.block bx (ag (h.hx D).1) (fun e=>e.elim (h.hx D).2.2.1 (h.hx D).2.2.2)).trans (h.hx D).1,(h.hx D).2.1,fun e=>?_,(h.hx D).2.2.2⟩⟩
 ·have q:=bl _ G (3+k) _ _ S a1
  rw[q];rcases k with _|_|_|k
  ·rfl
  ·rfl
  ·rfl
  ·omega
 ·by_cases e:j=k
  ·subst e
   have:=hr.block fun b e=>t2.block b (hr.lt b e).2 (fun q=>a2 (q▸e))
   grind
  ·have r:=h.ro j hj
   simp only[us,au e] at r ⊢;exact r.block fun b q=>t3.block b (r.lt b q).2 (fun z=>z.elim (fun z=>fO r rk (UK hj f e) b q z) (fun z=>pZ r h.hw (Bp hj f).2.1 (z▸q)))
 ·rcases bT.1 he with he|he
  ·exact⟨(h.en e he).1,(h.en e he).2.keep t3 (fun b hb q=>by
    grind) (fun b hb q=>Or.inl (q.elim Or.inr (fun q=>Or.inl (q▸aw)))) (ai _)⟩
  ·rw[fW.1 he]
   obtain⟨y,e1,e2⟩:=En.own (A:=fun b=>(A b∨Ow S b)∨R b) a0 (Fc k d f) (fun b e q=>by
    rcases q with(q|q)|q
    ·exact(h.ga b e).1 (Or.inl q)
    ·rcases hn b q with q|q
     ·grind
     ·have:=(h.hg.lt b e).2;omega
    ·exact(h.ga b e).1 (Or.inr q))
   grind
 ·rcases hn b e with e|e
  ·exact h.lb b e
  omega
 ·rcases hn bx e with e|e
  ·exact(h.hx D).2.2.1 e
  ·have:=ag (h.hx D).1;omega
theorem Tk.done(h:Tk A R w G J Y d I E k bx v W gv O N F)(hd:d=c+1)(f:Lw A (fun b=>R b∨Ow v b) w G J Y c I E)(hk:k<3)(hE:F.length≤4):Lw (fun b=>A b∨Ow O b) R W G J Y (c+1) (us I k O) (us E k (E k++F)):=by
 subst hd;refine⟨h.hw,Or.inl f.aw,h.ro,fun j b D e=>?_,fun j D e he=>?_,fun j=>?_⟩
 ·by_cases q:j=k
  ·grind
  ·simp only[us,au q] at e;exact Or.inl (f.la j b D e)
 ·have old:_→e.2≤c+1∧RdA (fun b=>(A b∨Ow O b)∨R b) _ W _ _:=fun he=>⟨Nat.le_succ_of_le (f.en j D e he).1,(f.en j D e he).2.keep h.tn (fun b hb q=>by
   rcases q with(q|q)|q
   ·exact Or.inl q
   ·exact Or.inl (f.la k b hk ((h.lb b q).resolve_right ae))
   grind) (fun b hb q=>q.elim (fun q=>Or.inl (q▸f.aw)) (fun q=>q.elim (fun q=>Or.inl (f.la k b hk q)) (fun q=>Or.inr (Or.inr q))))⟩
  by_cases q:j=k
  ·subst q
   simp only[us,fC] at he;rcases bT.1 he with he|he
   ·exact old he
   ·have z:=h.en e he
    rw[z.1];exact⟨ai _,z.2.1⟩
  grind
 ·have:=f.le j
  grind
