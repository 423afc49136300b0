import Derived.Test.YtooabooekgphpaaGreatDoorKSUB
import Derived.Test.YtooabooekgphpaaGreatDoorKXB
import Derived.Shelf.SlicesE.Clone
set_option linter.all false
open Go.Proofs.Tryz
set_option maxRecDepth 100000
set_option maxHeartbeats 4000000
namespace Go.Proofs.YtooabooekgphpaaGreatDoor
section
open Go.RowKit Go.Sort Go.Shelf Go.Lib
namespace Su
variable{α:Type}[Inhabited α]{mc:α->List zV}{Y E O V U Q Z cl e:Nat}
def tagged(L:List α):Array (α×Nat):=(L.mapIdx fun i x=>(x,i)).toArray
omit [Inhabited α] in
theorem CO(L:List α):(tagged L).size=L.length:=by simp[tagged]
omit [Inhabited α] in
theorem zD(L:List α):(tagged L).toList.map Prod.fst=L:=by
 apply nI;intro i;simp[tagged,Function.comp_def]
theorem wZ(L:List α):Ss.eO Prod.snd 0 (tagged L).size (tagged L):=by
 intro i j _ D S;have M:i<(tagged L).size:=by omega
 rw[bJ _ i M,bJ _ j S];simpa[tagged] using D
structure Cfn(mc:α->List zV)(g:Nat)(cf0:α->α->Int):Prop where
 eg:∀args w,(callFunc g args).run prog w=.ok (.enter g args) w
 cmp:∀W,Dr.Ml W->∀x y:α,zC g #[.agg (mc x).toArray,.agg (mc y).toArray] W fun e w'=>e=.returned (zI (cf0 x y))/\Dr.Below W.heap.size W w'
 swo:SWO (ltOf fun x y:α×Nat=>cf0 x.1 y.1)
theorem rV{w W:zW}(hm:Dr.Ml w)(M:Below w.heap.size w W):Dr.Ml W:=by
 obtain⟨q,e⟩:=hm;have D:=aY w _ e;exact⟨q,by rw[aZ (w:=w) (a:=⟨0,0,none⟩) (M.block 0 D)];exact e⟩
theorem xf{ρ:Ren}{ins:Nat}(hi:ρ.f 20=ins)(a3:Ly prog Y E O V ins U Q)(Lz:SlLaysF0.n20 prog ρ)(aE:∀w,(isAgg (ρ.t 24)).run prog w=.ok true w)(zE:∀w,(Go.sizeOf (ρ.t 24)).run prog w=.ok Y w)(hk:∀x,(mc x).length=Y)(h1:∀x,∀v∈mc x,v.oneCell'=true)(hp:0<Y)
  {g:Nat} {a0:α->α->Int} (hC:Cfn mc g a0) (B M cap:Nat) (L:List α) (w:zW) (hm:Dr.Ml w) (a4:M≠0) (hL:L.length<=16777216) (h:w.ownsRow B e Y (.slice (some ⟨M,0,none⟩) L.length cap) L.length (L.flatMap mc)):
  zC Q #[.slice (some ⟨M,0,none⟩) L.length cap,.func (.func g) #[] #[]] w fun e' w'=>e'=.returned (.tuple #[])/\w'.ownsRow B e Y (.slice (some ⟨M,0,none⟩) L.length cap) L.length ((Ss.aN (ltOf a0) L).flatMap mc)/\ai (fun b=>b=M) w w':=by
 subst hi;have a1:=CO L;have un:∀D:List (α×Nat),D.flatMap (fun x=>mc x.1)=(D.map Prod.fst).flatMap mc:=fun D=>by rw[List.flatMap_map]
 have e0:(tagged L).toList.flatMap (fun x=>mc x.1)=L.flatMap mc:=by rw[un,zD]
 have a2:∀x:α×Nat,(mc x.1).length=Y:=fun x=>hk x.1
 have h':w.ownsRow B e Y (.slice (some ⟨M,0,none⟩) (tagged L).size cap) (tagged L).size ((tagged L).toList.flatMap fun x=>mc x.1):=by rw[e0,a1];exact h
 have T:Told prog (fun x:α×Nat=>mc x.1) Y g #[] (fun x y=>a0 x.1 y.1) M 0 (tagged L) w:={
  R:=⟨a2,fun x=>h1 x.1,Ss.zy a2 hp h',(h.lt M rfl).2⟩
  eg:=hC.eg
  cmp:=fun m os dk hs x y=>by
   have hS:SWK (fun x:α×Nat=>mc x.1) Y w M 0 dk _:=⟨m,os,rfl⟩;obtain⟨q,e⟩:=hm;have h0:=aY w _ e;refine(hC.cmp _ ⟨q,by rw[aZ (w:=w) (a:=⟨0,0,none⟩) (Ss.tN hS 0 h0 (fun e=>a4 e.symm))];exact e⟩ x.1 y.1).mono ?_;rintro e w' ⟨rfl,hb⟩;exact⟨rfl,hb.grow⟩
  swo:=hC.swo
  sz:=by rw[a1];omega}
 have k:=wW a3 T (ER Lz aE zE T) (by rw[a1];omega) (wZ L) cap;rw[a1] at k;refine k.mono ?_;rintro e w' ⟨rfl,d',hP,S⟩;rw[<-a1] at hP;have a5:d'.size=L.length:=by rw[hP.1.1,a1]
 have hl:d'.toList=Ss.aN (ltOf fun x y:α×Nat=>a0 x.1 y.1) (tagged L).toList:=Ss.Hc hC.swo (wZ L) hP
 have e1:d'.toList.flatMap (fun x=>mc x.1)=(Ss.aN (ltOf a0) L).flatMap mc:=by
  rw[un,hl,Ss.qJ (lt:=ltOf fun x y:α×Nat=>a0 x.1 y.1) Prod.fst (ltOf a0) (fun _ _=>rfl),zD]
 rw[a1] at h';have r:=Ss.wU a2 hp a5 h' S;rw[e1] at r;exact⟨rfl,r.1,r.2⟩
theorem nt6:f230.ntmps=53/\f256.ntmps=53:=⟨ntmps230,ntmps256⟩
theorem nt7:f198.ntmps=11/\f200.ntmps=11:=⟨ntmps198,ntmps200⟩
theorem uN{ins:Nat}(S:prog.funcs[ins]?=some f230\/prog.funcs[ins]?=some f256)(M:zV)(w:zW):zC ins #[zN,zI 0,zI 0,M] w fun e w'=>e=.returned (.tuple #[])/\Below w.heap.size w w':=by
 have D:Hid (Below w.heap.size w w):=ae _ _;rcases S with f|f
 all_goals
  go_enter f,nt6;go_wp2;go_loopg [8] 0 (fun kx T wr=>T=zI 1/\Hid (Below w.heap.size w wr))
  case atStart=>exact⟨rfl,D⟩
  case round=>
   clear D;obtain⟨rfl,D⟩:=hrel;go_wp2
   go_end0
   exact⟨rfl,D.out⟩
theorem CP(hf:prog.funcs[Q]?=some f215\/prog.funcs[Q]?=some f217)(T:zV)(w:zW):zC Q #[zN,T] w fun e w'=>e=.returned (.tuple #[])/\Below w.heap.size w w':=by
 have k2:∀{n:Nat},(prog.funcs[n]?=some f243\/prog.funcs[n]?=some f244)->zC n #[zN,zI 0,T] w fun e w'=>e=.returned (.tuple #[])/\Below w.heap.size w w':=fun hn=>by
  have k1:=uN (Or.inl func230) T;have k3:=uN (Or.inr func256) T;have D:Hid (Below w.heap.size w w):=ae _ _;rcases hn with f|f
  all_goals
   go_enter f,nt4;go_wp2;go_loopg [7,8] 0 (fun kx s7 s8 wr=>s7=zI 0/\s8=zI 20/\Hid (Below w.heap.size w wr))
   case atStart=>exact⟨rfl,rfl,D⟩
   case round=>
    clear D;obtain⟨rfl,rfl,D⟩:=hrel
    go_wp2_with fail
    first|(go_at_call 230;refine(k1 _).mono ?_)|(go_at_call 256;refine(k3 _).mono ?_)
    rintro e w1 ⟨rfl,S⟩;have M:=zH (D.out.trans (S.mono D.out.size));clear S D;go_wp2;go_loopg [6,7,8] 0 (fun kx s6 s7 s8 wr=>s6=zI 20/\Hid (Below w.heap.size w wr))
    case atStart=>exact⟨rfl,M⟩
    case round=>
     clear M;obtain⟨rfl,D⟩:=hrel;go_wp2
     go_end0
     exact⟨rfl,D.out⟩
 have k4:=k2 (Or.inl func243);have k5:=k2 (Or.inr func244);clear k2;rcases hf with f|f
 all_goals
  go_enter f,nt5
  go_wp2_with fail
  first|(go_at_call 243;refine k4.mono ?_)|(go_at_call 244;refine k5.mono ?_)
  rintro ex w2 ⟨rfl,hb⟩;clear k4 k5;go_wp2
  go_end0
  exact⟨rfl,hb⟩
omit [Inhabited α] in
theorem gW(hf:(prog.funcs[Z]?=some f198/\cl=42/\Q=215)\/(prog.funcs[Z]?=some f200/\cl=216/\Q=217))(kn:∀w,zC cl #[zN] w fun e w'=>e=.returned (zN)/\w'=w)
  {g:Nat} (v:zV) (L L':List α) (w:zW) (hm:Dr.Ml w) (h:(v=zN/\L=[]/\L'=[])\/∃b off c,v=.slice (some ⟨b,off,none⟩) L.length c/\zC cl #[.slice (some ⟨b,off,none⟩) L.length c] w fun T w'=>∃g cap,T=.returned (.slice (some ⟨g,0,none⟩) L.length cap)/\w'.ownsRow w.heap.size e Y (.slice (some ⟨g,0,none⟩) L.length cap) L.length (L.flatMap mc)/\Below w.heap.size w w')
  (ks:∀B D cap w,Dr.Ml w->D≠0->w.ownsRow B e Y (.slice (some ⟨D,0,none⟩) L.length cap) L.length (L.flatMap mc)->zC Q #[.slice (some ⟨D,0,none⟩) L.length cap,.func (.func g) #[] #[]] w fun T w'=>T=.returned (.tuple #[])/\w'.ownsRow B e Y (.slice (some ⟨D,0,none⟩) L.length cap) L.length (L'.flatMap mc)/\ai (fun b=>b=D) w w'):
  zC Z #[v,.func (.func g) #[] #[]] w fun T w'=>∃v',T=.returned v'/\w'.ownsRow w.heap.size e Y v' L.length (L'.flatMap mc)/\Below w.heap.size w w':=by
 have hz:=hf.imp (fun h=>h.2.2▸func215) (fun h=>h.2.2▸func217);rcases h with⟨rfl,rfl,rfl⟩|⟨b,off,c,rfl,k1⟩
 ·have k2:=CP hz (.func (.func g) #[] #[])
  clear hm hz ks;rcases hf with⟨f,rfl,rfl⟩|⟨f,rfl,rfl⟩
  all_goals
   go_enter f,nt7
   go_wp2_with fail
   first|go_at_call 42|go_at_call 216
   refine(kn _).mono ?_;rintro e w' ⟨rfl,rfl⟩
   go_wp2_with fail
   first|go_at_call 215|go_at_call 217
   refine(k2 _).mono ?_;rintro e w1 ⟨rfl,M⟩;go_wp2;go_ret;exact⟨_,rfl,⟨(Nat.zero_mul _).symm,Or.inl ⟨rfl,rfl⟩⟩,M⟩
 ·have k2:Aside (∀W D cap,Below w.heap.size w W->W.ownsRow w.heap.size e Y (.slice (some ⟨D,0,none⟩) L.length cap) L.length (L.flatMap mc)->zC Q #[.slice (some ⟨D,0,none⟩) L.length cap,.func (.func g) #[] #[]] W fun T w'=>T=.returned (.tuple #[])/\w'.ownsRow w.heap.size e Y (.slice (some ⟨D,0,none⟩) L.length cap) L.length (L'.flatMap mc)/\Below w.heap.size w w'):=fun W D cap M S=>by
   have a1:=S.lt D rfl;have hp:=hm.pos;refine(ks _ D cap W (rV hm M) (by omega) S).mono ?_;rintro e w' ⟨rfl,a0,ht⟩;exact⟨rfl,a0,⟨by rw[ht.os];exact M.os,by rw[ht.tape];exact M.tape,by rw[ht.output];exact M.output,aO M.size ht.size,fun i hi=>by rw[ht.block i (bE hi M.size) (by omega)];exact M.block i hi⟩⟩
  clear hm ks hz kn;rcases hf with⟨f,rfl,rfl⟩|⟨f,rfl,rfl⟩
  all_goals
   go_enter f,nt7
   go_wp2_with fail
   first|go_at_call 42|go_at_call 216
   refine k1.mono ?_;rintro e w1 ⟨D,cap,rfl,S,M⟩;have k3:=k2.out w1 D cap M S;clear k1 k2 S M
   go_wp2_with fail
   first|go_at_call 215|go_at_call 217
   refine k3.mono ?_;rintro e w2 ⟨rfl,S,M⟩;have HF:Hid (_/\_):=And.intro S M;clear k3 S M;go_wp2;go_ret;exact⟨_,rfl,HF.out.1,HF.out.2⟩
end Su
end
section
open Go.RowKit Go.Sort Go.Shelf Go.Lib
abbrev Mo:=zA×zA
namespace Sm
def mc(x:Mo):List zV:=[.string x.1,.string x.2]
def Rd(w:zW)(v:zV)(L:List Mo):Prop:=
 (v=zN/\L=[])\/∃b off c,v=.slice (some ⟨b,off,none⟩) L.length c/\∀j u,(L.flatMap mc)[j]?=some u->w.cell? ⟨b,off+j,none⟩=some u
theorem xh(L:List Mo):(L.flatMap mc).length=L.length*2:=Ss.fA (enc:=mc) (k:=2) (fun _=>rfl) L
theorem Kg(x:Mo):∀u∈mc x,u.oneCell'=true:=by
 intro u D;simp[mc] at D;rcases D with rfl|rfl<;>rfl
theorem Bb(L:List Mo):∀u∈L.flatMap mc,u.oneCell'=true:=by
 intro u D;obtain⟨x,_,M⟩:=List.mem_flatMap.1 D;exact Kg x u M
def Po:Go.Shelf.Ren:=⟨fun|41=>42|n=>n,fun|22=>30|23=>63|4=>4|n=>n,fun|n=>n⟩
theorem F6:Go.Proofs.SlLaysE0.n41 prog Po:={
 mixed:=by kernel_rfl
 f41:=⟨f42.name,by decide,func42.trans (cV some (by kernel_rfl))⟩
 t4:=underlying4
 a4:=isAgg4
 z4:=sizeOf4
 v4:=zeroValue4
 t22:=underlying30
 a22:=isAgg30
 z22:=sizeOf30
 v22:=zeroValue30}
theorem mQ(b off c:Nat)(L:List Mo)(w:zW)(hL:L.length<=16777216)(hc:∀j u,(L.flatMap mc)[j]?=some u->w.cell? ⟨b,off+j,none⟩=some u):
  zC 42 #[.slice (some ⟨b,off,none⟩) L.length c] w fun e w'=>∃g cap,e=.returned (.slice (some ⟨g,0,none⟩) L.length cap)/\w'.ownsRow w.heap.size 63 2 (.slice (some ⟨g,0,none⟩) L.length cap) L.length (L.flatMap mc)/\Below w.heap.size w w':=by
 obtain⟨i0,h1,h2,h3,h4⟩:=Ey;have D:L.length<=maxLen:=aO hL (by decide);refine(AnyE.slices_Clone F6 i0 _ 2 32 h1 h2 h3 h4 rfl (by decide) sizeOf63 b off L.length c (L.flatMap mc) w (xh L) D (by omega) hc (Bb L)).mono ?_;rintro e w' ⟨v',rfl,ho,S,hb⟩;have M:w'.ownsRow w.heap.size 63 2 v' L.length (L.flatMap mc):=ho;rcases M.2 with⟨hn,_⟩|⟨g,cap,T,rfl,_⟩
 ·exact absurd hn S
 ·exact⟨g,cap,rfl,M,hb⟩
theorem mU(w:zW):zC 42 #[zN] w fun e w'=>e=.returned (zN)/\w'=w:=AnyE.slices_Clone_nil F6 0 0 w
def Kh:Go.Shelf.Ren:=⟨fun|20=>230|n=>n,fun|24=>63|22=>30|3=>3|25=>265|4=>4|0=>0|n=>n,fun|n=>n⟩
theorem Nj:Go.Proofs.SlLaysF0.n20 prog Kh:={
 mixed:=by kernel_rfl
 f20:=⟨f230.name,by decide,func230.trans (cV some (by kernel_rfl))⟩
 t0:=underlying0
 a0:=isAgg0
 z0:=sizeOf0
 v0:=zeroValue0
 t3:=underlying3
 a3:=isAgg3
 z3:=sizeOf3
 v3:=zeroValue3
 t4:=underlying4
 a4:=isAgg4
 z4:=sizeOf4
 v4:=zeroValue4
 t22:=underlying30
 a22:=isAgg30
 z22:=sizeOf30
 v22:=zeroValue30
 t25:=underlying265
 a25:=isAgg265
 z25:=sizeOf265
 v25:=zeroValue265}
theorem gW{g:Nat}{D:Mo->Mo->Int}(hC:Su.Cfn mc g D)(v:zV)(L:List Mo)(w:zW)(hm:Dr.Ml w)(S:L.length<=16777216)(h:Rd w v L):
  zC 198 #[v,.func (.func g) #[] #[]] w fun e w'=>∃T,e=.returned T/\w'.ownsRow w.heap.size 63 2 T L.length ((Ss.aN (ltOf D) L).flatMap mc)/\Below w.heap.size w w':=
 Su.gW (Or.inl ⟨func198,rfl,rfl⟩) mU v L _ w hm (h.imp (fun h=>⟨h.1,h.2,by rw[h.2];rfl⟩) (fun⟨b,off,c,h1,h2⟩=>⟨b,off,c,h1,mQ b off c L w S h2⟩))
  (fun B M cap w hm hb h=>Su.xf (ρ:=Kh) rfl Su.ly2 Nj isAgg63 sizeOf63 (fun _=>rfl) Kg (by decide) hC B M cap L w hm hb S h)
theorem Hk:∀args w,(callFunc 199 args).run prog w=.ok (.enter 199 args) w:=fun _ _=>by kernel_rfl
theorem tT:∀args w,(callFunc 184 args).run prog w=.ok (.enter 184 args) w:=fun _ _=>by kernel_rfl
def EJ(x y:Mo):Int:=aT x.1 y.1
theorem Pp:Su.Cfn mc 199 EJ:=⟨Hk,fun W _ x y=>Dr.comparePaths_any x.1 x.2 y.1 y.2 W,Pv.kF (fun x:Mo×Nat=>x.1.1) dh⟩
theorem Pq:Su.Cfn mc 184 fh:=⟨tT,fun W hm x y=>Dr.compareModules_any x.1 x.2 y.1 y.2 W hm,Pv.kF (fun x:Mo×Nat=>x.1) pd⟩
end Sm
end
section
open Go.RowKit Go.Sort Go.Shelf Go.Lib
abbrev So:=zA×zA×zA
namespace Sw
def mc(x:So):List zV:=[.string x.1,.string x.2.1,.string x.2.2]
def Rd(w:zW)(v:zV)(L:List So):Prop:=
 (v=zN/\L=[])\/∃b off c,v=.slice (some ⟨b,off,none⟩) L.length c/\∀j u,(L.flatMap mc)[j]?=some u->w.cell? ⟨b,off+j,none⟩=some u
theorem xh(L:List So):(L.flatMap mc).length=L.length*3:=Ss.fA (enc:=mc) (k:=3) (fun _=>rfl) L
theorem Kg(x:So):∀u∈mc x,u.oneCell'=true:=by
 intro u D;simp[mc] at D;rcases D with rfl|rfl|rfl<;>rfl
theorem Bb(L:List So):∀u∈L.flatMap mc,u.oneCell'=true:=by
 intro u D;obtain⟨x,_,M⟩:=List.mem_flatMap.1 D;exact Kg x u M
def Pr:Go.Shelf.Ren:=⟨fun|41=>216|n=>n,fun|22=>204|23=>257|4=>4|n=>n,fun|n=>n⟩
theorem F7:Go.Proofs.SlLaysE0.n41 prog Pr:={
 mixed:=by kernel_rfl
 f41:=⟨f216.name,by decide,func216.trans (cV some (by kernel_rfl))⟩
 t4:=underlying4
 a4:=isAgg4
 z4:=sizeOf4
 v4:=zeroValue4
 t22:=underlying204
 a22:=isAgg204
 z22:=sizeOf204
 v22:=zeroValue204}
theorem F8:∃i,prog.info? 257=some i/\i.zero=some (.agg #[zE,zE,zE])/\i.size=3/\i.bytes=48:=by
 have h:(prog.info? 257).map (fun i=>(i.zero,i.size,i.bytes))=some (some (.agg #[zE,zE,zE]),3,48):=by kernel_rfl
 rw[ql] at h;obtain⟨i,M,D⟩:=h;simp only[iP] at D;exact⟨i,M,D.1,D.2.1,D.2.2⟩
theorem mQ(b off c:Nat)(L:List So)(w:zW)(hL:L.length<=16777216)(hc:∀j u,(L.flatMap mc)[j]?=some u->w.cell? ⟨b,off+j,none⟩=some u):
  zC 216 #[.slice (some ⟨b,off,none⟩) L.length c] w fun e w'=>∃g cap,e=.returned (.slice (some ⟨g,0,none⟩) L.length cap)/\w'.ownsRow w.heap.size 257 3 (.slice (some ⟨g,0,none⟩) L.length cap) L.length (L.flatMap mc)/\Below w.heap.size w w':=by
 obtain⟨i0,h1,h2,h3,h4⟩:=F8;have D:L.length<=maxLen:=aO hL (by decide);refine(AnyE.slices_Clone F7 i0 _ 3 48 h1 h2 h3 h4 rfl (by decide) sizeOf257 b off L.length c (L.flatMap mc) w (xh L) D (by omega) hc (Bb L)).mono ?_;rintro e w' ⟨v',rfl,ho,S,hb⟩;have M:w'.ownsRow w.heap.size 257 3 v' L.length (L.flatMap mc):=ho;rcases M.2 with⟨hn,_⟩|⟨g,cap,T,rfl,_⟩
 ·exact absurd hn S
 ·exact⟨g,cap,rfl,M,hb⟩
theorem mU(w:zW):zC 216 #[zN] w fun e w'=>e=.returned (zN)/\w'=w:=AnyE.slices_Clone_nil F7 0 0 w
def Ki:Go.Shelf.Ren:=⟨fun|20=>256|n=>n,fun|24=>257|22=>204|3=>3|25=>289|4=>4|0=>0|n=>n,fun|n=>n⟩
theorem Nk:Go.Proofs.SlLaysF0.n20 prog Ki:={
 mixed:=by kernel_rfl
 f20:=⟨f256.name,by decide,func256.trans (cV some (by kernel_rfl))⟩
 t0:=underlying0
 a0:=isAgg0
 z0:=sizeOf0
 v0:=zeroValue0
 t3:=underlying3
 a3:=isAgg3
 z3:=sizeOf3
 v3:=zeroValue3
 t4:=underlying4
 a4:=isAgg4
 z4:=sizeOf4
 v4:=zeroValue4
 t22:=underlying204
 a22:=isAgg204
 z22:=sizeOf204
 v22:=zeroValue204
 t25:=underlying289
 a25:=isAgg289
 z25:=sizeOf289
 v25:=zeroValue289}
theorem gW{g:Nat}{D:So->So->Int}(hC:Su.Cfn mc g D)(v:zV)(L:List So)(w:zW)(hm:Dr.Ml w)(S:L.length<=16777216)(h:Rd w v L):
  zC 200 #[v,.func (.func g) #[] #[]] w fun e w'=>∃T,e=.returned T/\w'.ownsRow w.heap.size 257 3 T L.length ((Ss.aN (ltOf D) L).flatMap mc)/\Below w.heap.size w w':=
 Su.gW (Or.inr ⟨func200,rfl,rfl⟩) mU v L _ w hm (h.imp (fun h=>⟨h.1,h.2,by rw[h.2];rfl⟩) (fun⟨b,off,c,h1,h2⟩=>⟨b,off,c,h1,mQ b off c L w S h2⟩))
  (fun B M cap w hm hb h=>Su.xf (ρ:=Ki) rfl Su.ly3 Nk isAgg257 sizeOf257 (fun _=>rfl) Kg (by decide) hC B M cap L w hm hb S h)
theorem Hl:∀args w,(callFunc 201 args).run prog w=.ok (.enter 201 args) w:=fun _ _=>by kernel_rfl
def QP(x y:So):Int:=fh (x.1,x.2.1) (y.1,y.2.1)
theorem Pt:Su.Cfn mc 201 QP:=⟨Hl,fun W hm x y=>Dr.compareSwaps_any x.1 x.2.1 x.2.2 y.1 y.2.1 y.2.2 W hm,Pv.kF (fun x:So×Nat=>(x.1.1,x.1.2.1)) pd⟩
end Sw
end
section
open Go.RowKit Go.Sort Go.Shelf Go.Lib
theorem cell_below{w W:zW}{a:Addr}{u:zV}(M:Below w.heap.size w W)(h:w.cell? a=some u):W.cell? a=some u:=by
 have D:=aY w _ h;rw[aZ (w:=w) (M.block a.block D)];exact h
theorem Sm.Rd.below{w W:zW}{v:zV}{L:List Mo}(h:Sm.Rd w v L)(D:Below w.heap.size w W):Sm.Rd W v L:=by
 rcases h with h|⟨b,off,c,h,M⟩
 ·exact Or.inl h
 ·exact Or.inr ⟨b,off,c,h,fun j u S=>cell_below D (M j u S)⟩
theorem Sw.Rd.below{w W:zW}{v:zV}{L:List So}(h:Sw.Rd w v L)(D:Below w.heap.size w W):Sw.Rd W v L:=by
 rcases h with h|⟨b,off,c,h,M⟩
 ·exact Or.inl h
 ·exact Or.inr ⟨b,off,c,h,fun j u S=>cell_below D (M j u S)⟩
theorem Sm.Rd.shape{w:zW}{v:zV}{L:List Mo}(h:Sm.Rd w v L):∃a n c,v=.slice a n c:=by
 rcases h with⟨h,_⟩|⟨b,off,c,h,_⟩<;>exact⟨_,_,_,h⟩
theorem Sw.Rd.shape{w:zW}{v:zV}{L:List So}(h:Sw.Rd w v L):∃a n c,v=.slice a n c:=by
 rcases h with⟨h,_⟩|⟨b,off,c,h,_⟩<;>exact⟨_,_,_,h⟩
theorem jQ{w:zW}{B e s n:Nat}{v:zV}{l:List zV}(h:w.ownsRow B e s v n l):∃a n c,v=.slice a n c:=by
 rcases h.2 with⟨h,_⟩|⟨g,c,_,h,_⟩<;>exact⟨_,_,_,h⟩
abbrev reqs(L:List Mo):List Mo:=Ss.aN (ltOf Sm.EJ) L
abbrev vF(L:List Mo):List Mo:=Ss.aN (ltOf fh) L
abbrev xj(L:List So):List So:=Ss.aN (ltOf Sw.QP) L
theorem gy{w:zW}{B M e s n:Nat}{v:zV}{l:List zV}(h:w.ownsRow B e s v n l)(hb:M<=B):w.ownsRow M e s v n l:=by
 refine⟨h.1,?_⟩;rcases h.2 with h|⟨g,c,D,S,T,h3⟩
 ·exact Or.inl h
 ·exact Or.inr ⟨g,c,D,S,aO hb T,h3⟩
structure InM(w:World)(p:zA)(J I G:zV)(W:World):Prop where
 b:Below w.heap.size w W
 box:gu W w.heap.size 4 (fun f=>if f=0 then .string p else if f=1 then J else if f=2 then I else G)
 out:W.heap[w.heap.size+1]?=some (.cells #[zE,zN,zN,zN] 206)
 sz:w.heap.size+2<=W.heap.size
variable{w W W':zW}{p:zA}{J I G:zV}
theorem InM.call(h:InM w p J I G W)(D:Below W.heap.size W W'):InM w p J I G W':=
 ⟨h.b.trans (D.mono (by have:=h.sz;omega)),h.box.of_block (D.block _ (by have:=h.sz;omega)),by rw[D.block _ (by have:=h.sz;omega)];exact h.out,aO h.sz D.size⟩
theorem InM.cells(h:InM w p J I G W):(W.cell? ⟨w.heap.size,0,none⟩=some (.string p)/\W.cell? ⟨w.heap.size,1,none⟩=some J/\W.cell? ⟨w.heap.size,2,none⟩=some I/\W.cell? ⟨w.heap.size,3,none⟩=some G)/\(W.frozen? ⟨w.heap.size,0,none⟩=false/\W.frozen? ⟨w.heap.size,1,none⟩=false/\W.frozen? ⟨w.heap.size,2,none⟩=false/\W.frozen? ⟨w.heap.size,3,none⟩=false):=
 ⟨⟨h.box.at' 0 (by omega),h.box.at' 1 (by omega),h.box.at' 2 (by omega),h.box.at' 3 (by omega)⟩,h.box.fr 0 (by omega),h.box.fr 1 (by omega),h.box.fr 2 (by omega),h.box.fr 3 (by omega)⟩
theorem InM.outs(h:InM w p J I G W):(W.cell? ⟨w.heap.size+1,0,none⟩=some (zE)/\W.cell? ⟨w.heap.size+1,1,none⟩=some (zN)/\W.cell? ⟨w.heap.size+1,2,none⟩=some (zN)/\W.cell? ⟨w.heap.size+1,3,none⟩=some (zN))/\(W.frozen? ⟨w.heap.size+1,0,none⟩=false/\W.frozen? ⟨w.heap.size+1,1,none⟩=false/\W.frozen? ⟨w.heap.size+1,2,none⟩=false/\W.frozen? ⟨w.heap.size+1,3,none⟩=false):=
 Dr.cells4 h.out
theorem InM.Pu(h:InM w p J I G W)(i:Nat)(hi:i<4)(u:zV)(D S M:zV)(T:zA)(e:∀j,j<4->(if j=i then u else if j=0 then .string p else if j=1 then J else if j=2 then I else G)=(if j=0 then .string T else if j=1 then D else if j=2 then S else M)):InM w T D S M (W.setCell ⟨w.heap.size,i,none⟩ u):=
 ⟨h.b.setCell (af _) _,(h.box.set hi u).ext e,by rw[aM _ _ _ _ (by show w.heap.size+1≠w.heap.size;omega)];exact h.out,by have:=h.sz;simpa using this⟩
theorem InM.r(h:InM w p J I G W)(u:zV):InM w p u I G (W.setCell ⟨w.heap.size,1,none⟩ u):=
 h.Pu 1 (by omega) u u I G p (fun j _=>by by_cases D:j=1<;>simp[D])
theorem InM.x(h:InM w p J I G W)(u:zV):InM w p J u G (W.setCell ⟨w.heap.size,2,none⟩ u):=
 h.Pu 2 (by omega) u J u G p (fun j _=>by by_cases D:j=2<;>simp[D])
theorem InM.s(h:InM w p J I G W)(u:zV):InM w p J I u (W.setCell ⟨w.heap.size,3,none⟩ u):=
 h.Pu 3 (by omega) u J I u p (fun j S=>by
  by_cases D:j=3
  ·simp[D]
  ·have M:j=0\/j=1\/j=2:=by omega
   rcases M with rfl|rfl|rfl<;>simp)
theorem InM.start(w:zW)(p:zA)(J I G:zV):InM w p J I G ((w.alloc (.cells #[.string p,J,I,G] 206)).alloc (.cells #[zE,zN,zN,zN] 206)):=by
 refine⟨((ae _ _).alloc (af _) _).alloc (by simp) _,⟨fun j M=>?_,fun j M=>?_⟩,eA _ _ _,by simp⟩
 ·have D:j=0\/j=1\/j=2\/j=3:=by omega
  rcases D with rfl|rfl|rfl|rfl<;>simp
 ·have D:j=0\/j=1\/j=2\/j=3:=by omega
  rcases D with rfl|rfl|rfl|rfl<;>simp
theorem InM.whole(h:InM w p J I G W)(a b c d:zV):((((W.setCell ⟨w.heap.size+1,0,none⟩ a).setCell ⟨w.heap.size+1,1,none⟩ b).setCell ⟨w.heap.size+1,2,none⟩ c).setCell ⟨w.heap.size+1,3,none⟩ d).heap[w.heap.size+1]?=some (.cells #[a,b,c,d] 206):=by
 have D:=aU _ _ 0 _ _ a h.out;have M:=aU _ _ 1 _ _ b D;have S:=aU _ _ 2 _ _ c M;exact aU _ _ 3 _ _ d S
theorem cH{B e s n:Nat}{v:zV}{l:List zV}(h:W.ownsRow B e s v n l){a:Addr}(u:zV)(D:a.block<B):(W.setCell a u).ownsRow B e s v n l:=
 ownsRow_setCell_other h (fun he=>by have:=(h.lt _ he).1;omega) u
end
section
open Go.RowKit Go.Sort Go.Shelf Go.Lib
variable{F W W':zW}{B:Nat}{l:List UInt8}
theorem QQ(L:List Mo)(i:Nat)(D:i<L.length):(L.flatMap Sm.mc)[i*2]?=some (.string L[i]!.1)/\(L.flatMap Sm.mc)[i*2+1]?=some (.string L[i]!.2):=by
 constructor
 ·rw[Ss.flat_get (enc:=Sm.mc) (k:=2) (fun _=>rfl) (by decide) L (i*2) (by omega),Nat.mul_div_cancel _ (by decide:0<2),Nat.mul_mod_left]
  rfl
 ·rw[Ss.flat_get (enc:=Sm.mc) (k:=2) (fun _=>rfl) (by decide) L (i*2+1) (by omega),show(i*2+1)/2=i by omega,show(i*2+1)%2=1 by omega]
  rfl
end
section
open Go.RowKit
variable{w w':zW}
abbrev mcs(L:List Mo):List zV:=L.flatMap Sm.mc
end
section
open Go.RowKit
variable{w w':zW}
abbrev scs(L:List So):List zV:=L.flatMap Sw.mc
end
section
open Go.RowKit Go.Sort Go.Shelf Go.Lib
namespace Mf
def Apart(J I G:zV):Prop:=∀b,(J.ownBlock=some b->I.ownBlock≠some b/\G.ownBlock≠some b)/\(I.ownBlock=some b->G.ownBlock≠some b)
theorem yQ(p:zA)(J I G:zV)(R X:List Mo)(S:List So)(w:zW)(hm:Dr.Ml w)(hR:R.length<=16777216)(hX:X.length<=16777216)(hS:S.length<=16777216)(hr:Sm.Rd w J R)(hx:Sm.Rd w I X)(hs:Sw.Rd w G S):
  zC 178 #[.agg #[.string p,J,I,G]] w fun e w'=>∃a6 a8 a7,e=.returned (.agg #[.string p,a6,a8,a7])/\w'.ownsRow w.heap.size 63 2 a6 R.length ((reqs R).flatMap Sm.mc)/\w'.ownsRow w.heap.size 63 2 a8 X.length ((vF X).flatMap Sm.mc)/\w'.ownsRow w.heap.size 257 3 a7 S.length ((xj S).flatMap Sw.mc)/\Below w.heap.size w w'/\Apart a6 a8 a7:=by
 obtain⟨ra,rn,rc,er⟩:=hr.shape;obtain⟨xa,xn,xc,ex⟩:=hx.shape;obtain⟨sa,sn,sc,es⟩:=hs.shape
 have KR:Aside (∀W,Below w.heap.size w W->zC 198 #[.slice ra rn rc,.func (.func 199) #[] #[]] W fun e w'=>∃v',e=.returned v'/\w'.ownsRow W.heap.size 63 2 v' R.length ((reqs R).flatMap Sm.mc)/\Below W.heap.size W w'):=fun W hb=>by
  rw[<-er];exact Sm.gW Sm.Pp J R W (Su.rV hm hb) hR (hr.below hb)
 have KX:Aside (∀W,Below w.heap.size w W->zC 198 #[.slice xa xn xc,.func (.func 184) #[] #[]] W fun e w'=>∃v',e=.returned v'/\w'.ownsRow W.heap.size 63 2 v' X.length ((vF X).flatMap Sm.mc)/\Below W.heap.size W w'):=fun W hb=>by
  rw[<-ex];exact Sm.gW Sm.Pq I X W (Su.rV hm hb) hX (hx.below hb)
 have KS:Aside (∀W,Below w.heap.size w W->zC 200 #[.slice sa sn sc,.func (.func 201) #[] #[]] W fun e w'=>∃v',e=.returned v'/\w'.ownsRow W.heap.size 257 3 v' S.length ((xj S).flatMap Sw.mc)/\Below W.heap.size W w'):=fun W hb=>by
  rw[<-es];exact Sw.gW Sw.Pt G S W (Su.rV hm hb) hS (hs.below hb)
 clear hr hx hs hm;subst er;subst ex;subst es;have I0:Aside (InM w p (.slice ra rn rc) (.slice xa xn xc) (.slice sa sn sc) ((w.alloc (.cells #[.string p,.slice ra rn rc,.slice xa xn xc,.slice sa sn sc] 206)).alloc (.cells #[zE,zN,zN,zN] 206))):=InM.start w p _ _ _;go_enter func178,ntmps178
 go_wp2_with (go_at_call 198;fail)
 go_at_call 198;refine(KR.out _ I0.out.b).mono ?_;rintro e w1 ⟨v1,rfl,o1,b1⟩;obtain⟨D,T,M,e1⟩:=jQ o1;subst e1;have I1:Aside (InM w p (.slice D T M) (.slice xa xn xc) (.slice sa sn sc) (w1.setCell ⟨w.heap.size,1,none⟩ (.slice D T M))):=(I0.out.call b1).r _;have O1:Aside ((w1.setCell ⟨w.heap.size,1,none⟩ (.slice D T M)).ownsRow (w.heap.size+2) 63 2 (.slice D T M) R.length ((reqs R).flatMap Sm.mc)):=cH (gy o1 (by simp)) _ (by show w.heap.size<_;omega);obtain⟨⟨z0,z1,z2,z3⟩,y0,y1,y2,y3⟩:=(I0.out.call b1).cells;obtain⟨⟨u0,u1,u2,u3⟩,_⟩:=I1.out.cells;have A1:Aside (∀b,(Value.slice D T M).ownBlock=some b->b<w1.heap.size):=fun b e=>(o1.lt b e).2
 have a9:Aside ((w1.setCell ⟨w.heap.size,1,none⟩ (.slice D T M)).heap.size=w1.heap.size):=by show _=_;simp[World.setCell]
 clear I0 o1 b1 KR
 go_wp2_with (go_at_call 198;fail)
 go_at_call 198;refine(KX.out _ I1.out.b).mono ?_;rintro e w2 ⟨v2,rfl,o2,b2⟩;obtain⟨a3,a5,a4,e2⟩:=jQ o2;subst e2;have I2:Aside (InM w p (.slice D T M) (.slice a3 a5 a4) (.slice sa sn sc) (w2.setCell ⟨w.heap.size,2,none⟩ (.slice a3 a5 a4))):=(I1.out.call b2).x _;have O2:Aside ((w2.setCell ⟨w.heap.size,2,none⟩ (.slice a3 a5 a4)).ownsRow (w.heap.size+2) 63 2 (.slice a3 a5 a4) X.length ((vF X).flatMap Sm.mc)):=cH (gy o2 (by have:=I1.out.sz;exact this)) _ (by show w.heap.size<_;omega);have ab:Aside ((w2.setCell ⟨w.heap.size,2,none⟩ (.slice a3 a5 a4)).ownsRow (w.heap.size+2) 63 2 (.slice D T M) R.length ((reqs R).flatMap Sm.mc)):=cH (own_below O1.out b2) _ (by show w.heap.size<_;omega);obtain⟨⟨t0,t1,t2,t3⟩,s0,s1,s2,s3⟩:=(I1.out.call b2).cells;obtain⟨⟨q0,q1,q2,q3⟩,_⟩:=I2.out.cells;have A2:Aside (∀b,(Value.slice a3 a5 a4).ownBlock=some b->w1.heap.size<=b/\b<w2.heap.size):=fun b e=>⟨by have h:=(o2.lt b e).1;rw[a9.out] at h;exact h,(o2.lt b e).2⟩
 have aa:Aside ((w2.setCell ⟨w.heap.size,2,none⟩ (.slice a3 a5 a4)).heap.size=w2.heap.size/\w1.heap.size<=w2.heap.size):=⟨by simp[World.setCell],by have h:=b2.size;rw[a9.out] at h;exact h⟩;clear I1 o2 b2 KX O1 z0 z1 z2 z3 y0 y1 y2 y3 u0 u1 u2 u3
 go_wp2_with (go_at_call 200;fail)
 go_at_call 200;refine(KS.out _ I2.out.b).mono ?_;rintro e w3 ⟨v3,rfl,o3,b3⟩;obtain⟨a0,a2,a1,e3⟩:=jQ o3;subst e3;have I3:Aside (InM w p (.slice D T M) (.slice a3 a5 a4) (.slice a0 a2 a1) (w3.setCell ⟨w.heap.size,3,none⟩ (.slice a0 a2 a1))):=(I2.out.call b3).s _;have O3:Aside ((w3.setCell ⟨w.heap.size,3,none⟩ (.slice a0 a2 a1)).ownsRow (w.heap.size+2) 257 3 (.slice a0 a2 a1) S.length ((xj S).flatMap Sw.mc)):=cH (gy o3 (by have:=I2.out.sz;exact this)) _ (by show w.heap.size<_;omega);have ad:Aside ((w3.setCell ⟨w.heap.size,3,none⟩ (.slice a0 a2 a1)).ownsRow (w.heap.size+2) 63 2 (.slice a3 a5 a4) X.length ((vF X).flatMap Sm.mc)):=cH (own_below O2.out b3) _ (by show w.heap.size<_;omega);have O1:Aside ((w3.setCell ⟨w.heap.size,3,none⟩ (.slice a0 a2 a1)).ownsRow (w.heap.size+2) 63 2 (.slice D T M) R.length ((reqs R).flatMap Sm.mc)):=cH (own_below ab.out b3) _ (by show w.heap.size<_;omega);obtain⟨⟨z0,z1,z2,z3⟩,y0,y1,y2,y3⟩:=(I2.out.call b3).cells;obtain⟨⟨u0,u1,u2,u3⟩,_⟩:=I3.out.cells;obtain⟨⟨g0,g1,g2,g3⟩,f0,f1,f2,f3⟩:=I3.out.outs;have HO:Hid (∀a b c d,(((((w3.setCell ⟨w.heap.size,3,none⟩ (.slice a0 a2 a1)).setCell ⟨w.heap.size+1,0,none⟩ a).setCell ⟨w.heap.size+1,1,none⟩ b).setCell ⟨w.heap.size+1,2,none⟩ c).setCell ⟨w.heap.size+1,3,none⟩ d).heap[w.heap.size+1]?=some (.cells #[a,b,c,d] 206)):=fun a b c d=>I3.out.whole a b c d
 have HB:=zH I3.out.b
 have A3:Aside (Apart (.slice D T M) (.slice a3 a5 a4) (.slice a0 a2 a1)):=fun b=>by
  have h3:(Value.slice a0 a2 a1).ownBlock=some b->w2.heap.size<=b:=fun e=>by have h:=(o3.lt b e).1;rw[aa.out.1] at h;exact h
  have h4:=aa.out.2;refine⟨fun e=>⟨fun e2=>?_,fun e2=>?_⟩,fun e e2=>?_⟩
  ·have:=A1.out b e;have:=(A2.out b e2).1;omega
  ·have:=A1.out b e;have:=h3 e2;omega
  ·have:=(A2.out b e).2;have:=h3 e2;omega
 clear I2 I3 o3 b3 KS ab O2 t0 t1 t2 t3 s0 s1 s2 s3 q0 q1 q2 q3;generalize hW:w3.setCell ⟨w.heap.size,3,none⟩ (.slice a0 a2 a1)=W at*;have hq:w.heap.size+1<w.heap.size+2:=by omega
 have HF:Hid (∀a b c d,((((W.setCell ⟨w.heap.size+1,0,none⟩ a).setCell ⟨w.heap.size+1,1,none⟩ b).setCell ⟨w.heap.size+1,2,none⟩ c).setCell ⟨w.heap.size+1,3,none⟩ d).ownsRow w.heap.size 63 2 (.slice D T M) R.length ((reqs R).flatMap Sm.mc)/\((((W.setCell ⟨w.heap.size+1,0,none⟩ a).setCell ⟨w.heap.size+1,1,none⟩ b).setCell ⟨w.heap.size+1,2,none⟩ c).setCell ⟨w.heap.size+1,3,none⟩ d).ownsRow w.heap.size 63 2 (.slice a3 a5 a4) X.length ((vF X).flatMap Sm.mc)/\((((W.setCell ⟨w.heap.size+1,0,none⟩ a).setCell ⟨w.heap.size+1,1,none⟩ b).setCell ⟨w.heap.size+1,2,none⟩ c).setCell ⟨w.heap.size+1,3,none⟩ d).ownsRow w.heap.size 257 3 (.slice a0 a2 a1) S.length ((xj S).flatMap Sw.mc)/\Below w.heap.size w ((((W.setCell ⟨w.heap.size+1,0,none⟩ a).setCell ⟨w.heap.size+1,1,none⟩ b).setCell ⟨w.heap.size+1,2,none⟩ c).setCell ⟨w.heap.size+1,3,none⟩ d)):=fun a b c d=>
  ⟨gy (cH (cH (cH (cH O1.out _ hq) _ hq) _ hq) _ hq) (by omega),gy (cH (cH (cH (cH ad.out _ hq) _ hq) _ hq) _ hq) (by omega),gy (cH (cH (cH (cH O3.out _ hq) _ hq) _ hq) _ hq) (by omega),(((HB.out.setCell (by show w.heap.size<=w.heap.size+1;omega) _).setCell (by show w.heap.size<=w.heap.size+1;omega) _).setCell (by show w.heap.size<=w.heap.size+1;omega) _).setCell (by show w.heap.size<=w.heap.size+1;omega) _⟩
 clear O1 ad O3 HB hq;go_wp2;refine aI (bG results178 _ _ (w.heap.size+1) 206 _ (0,0) _ rfl (HO.out _ _ _ _) underlying206 rfl (by kernel_rfl)) rfl ?_;exact⟨_,_,_,rfl,(HF.out _ _ _ _).1,(HF.out _ _ _ _).2.1,(HF.out _ _ _ _).2.2.1,(HF.out _ _ _ _).2.2.2,A3.out⟩
end Mf
end
section
open Go.RowKit
theorem gi(w:zW)(B e s:Nat):w.ownsRow B e s (zN) 0 []:=⟨by simp,Or.inl ⟨rfl,rfl⟩⟩
theorem Bc{w W:zW}{v:zV}{L:List Mo}(h:Sm.Rd w v L)(hb:Below w.heap.size w W)(i:Nat)(D:i<L.length):∃b off c,v=.slice (some ⟨b,off,none⟩) L.length c/\W.cell? ⟨b,off+i*2,none⟩=some (.string L[i]!.1)/\W.cell? ⟨b,off+i*2+1,none⟩=some (.string L[i]!.2):=by
 rcases h.below hb with⟨_,h⟩|⟨b,off,c,h,M⟩
 ·rw[h] at D;simp at D
 ·obtain⟨S,T⟩:=QQ L i D
  exact⟨b,off,c,h,M _ _ S,by rw[Nat.add_assoc];exact M _ _ T⟩
theorem Px{w:zW}{v:zV}{L:List Mo}(h:Sm.Rd w v L):∃a c,v=.slice a L.length c:=by
 rcases h with⟨h,D⟩|⟨b,off,c,h,_⟩
 ·exact⟨none,0,by rw[h,D];rfl⟩
 ·exact⟨_,_,h⟩
