import Derived.Test.YtgamgopghfpegaaGreatDoorKSUB
import Derived.Test.YtgamgopghfpegaaGreatDoorKXB
import Derived.Shelf.SlicesE.Clone
set_option linter.all false
open Go.Proofs.Tryz
set_option maxRecDepth 100000
set_option maxHeartbeats 4000000
namespace Go.Proofs.YtgamgopghfpegaaGreatDoor
section
open Go.RowKit Go.Sort Go.Shelf Go.Lib
namespace Su
variable{α:Type}[Inhabited α]{mc:α→List zV}{Y M F E O Q V Z e:Nat}
def tagged(L:List α):Array (α×Nat):=(L.mapIdx fun i x=>(x,i)).toArray
omit [Inhabited α] in
theorem DW(L:List α):(tagged L).size=L.length:=by simp[tagged]
omit [Inhabited α] in
theorem Aw(L:List α):(tagged L).toList.map Prod.fst=L:=by
 apply qH;intro i;simp[tagged,Function.comp_def]
theorem xP(L:List α):Ss.eU Prod.snd 0 (tagged L).size (tagged L):=by
 intro i j _ f R;have D:i<(tagged L).size:=ae;rw[cB _ i D,cB _ j R];simpa[tagged] using f
structure Cfn(mc:α→List zV)(g:Nat)(cf0:α→α→Int):Prop where
 eg:∀args w,(callFunc g args).run prog w=.ok (.enter g args) w
 cmp:∀W,Dr.Ml W→∀x y:α,zC g #[.agg (mc x).toArray,.agg (mc y).toArray] W fun e w'=>e=.returned (.int .i64 (cf0 x y))∧Dr.Below W.heap.size W w'
 swo:SWO (ltOf fun x y:α×Nat=>cf0 x.1 y.1)
theorem sF{w W}(hm:Dr.Ml w)(D:Below w w W):Dr.Ml W:=by
 obtain⟨q,e⟩:=hm;have f:=cr w _ e;exact⟨q,by rw[dW (a:=⟨0,0,none⟩) (D.block 0 f)];exact e⟩
theorem xQ{ρ:Ren}{ins:Nat}(hi:ρ.f 20=ins)(a4:Ly prog Y M F E ins O Q)(Lz:SlLaysF0.n20 prog ρ)(aE:∀w,(isAgg (ρ.t 24)).run prog w=.ok true w)(zE:∀w,(Go.sizeOf (ρ.t 24)).run prog w=.ok Y w)(hk:∀x,(mc x)=Y)(h1:∀x,∀v∈mc x,v.oneCell'=true)(hp:0<Y)
  {g} {a2} (hC:Cfn mc g a2) B a0 cap (L:List α) w (hm:Dr.Ml w) (a5:a0≠0) (hL:L.length≤16777216) (h:w.ownsRow B e Y (.slice (some (a0,0)) L cap) L (L.flatMap mc)):
  zC Q #[.slice (some (a0,0)) L cap,.func (.func g) #[] #[]] w fun e' w'=>e'=.returned (.tuple #[])∧w'.ownsRow B e Y (.slice (some (a0,0)) L cap) L ((Ss.aQ (ltOf a2) L).flatMap mc)∧aj (fun b=>b=a0) w w':=by
 subst hi;have a1:=DW L;have un:∀D:List (α×Nat),D.flatMap (fun x=>mc x.1)=(D.map Prod.fst).flatMap mc:=fun D=>by rw[List.flatMap_map]
 have e0:(tagged L).toList.flatMap (fun x=>mc x.1)=L.flatMap mc:=by rw[un,Aw]
 have a3:∀x:α×Nat,_=Y:=fun x=>hk x.1
 have h':w.ownsRow B e Y (.slice (some (a0,0)) (tagged L).size cap) (tagged L).size ((tagged L).toList.flatMap fun x=>mc x.1):=by rw[e0,a1];exact h
 have T:Told _ _ Y g #[] _ a0 0 _ w:={
  R:=⟨a3,fun x=>h1 x.1,Ss.Ap a3 hp h',(h.lt a0 rfl).2⟩
  eg:=hC.eg
  cmp:=fun m os dk hs x y=>by
   have hS:SWK (fun x:_=>mc x.1) Y w a0 0 dk _:=⟨m,os,rfl⟩;obtain⟨q,e⟩:=hm;have h0:=cr w _ e;refine(hC.cmp _ ⟨q,by rw[dW (a:=⟨0,0,none⟩) (Ss.uA hS 0 h0 (fun e=>a5 e.symm))];exact e⟩ x.1 y.1).mono ?_;rintro e w' ⟨rfl,hb⟩;exact⟨rfl,hb.grow⟩
  swo:=hC.swo
  sz:=by rw[a1];omega}
 have k:=xL a4 T (F8 Lz aE zE T) (by rw[a1];omega) (xP L) cap;rw[a1] at k;refine k.mono ?_;rintro e w' ⟨rfl,d',hP,S⟩;rw[←a1] at hP;have a6:d'.size=L:=by rw[hP.1.1,a1]
 have hl:=Ss.Jl hC.swo (xP L) hP
 have e1:d'.toList.flatMap (fun x=>mc x.1)=(Ss.aQ (ltOf a2) L).flatMap mc:=by
  rw[un,hl,Ss.xF (lt:=ltOf fun x y:α×Nat=>a2 x.1 y.1) _ (ltOf a2) (fun _ _=>rfl),Aw]
 rw[a1] at h';have r:=Ss.xH a3 hp a6 h' S
 grind
theorem nt6:f284.ntmps=53∧f311.ntmps=53:=⟨ntmps284,ntmps311⟩
theorem nt7:f251.ntmps=11∧f253.ntmps=11:=⟨ntmps251,ntmps253⟩
theorem vD{ins:Nat}(S:prog.funcs[ins]?=f284∨prog.funcs[ins]?=f311)R w:zC ins #[zN,.int .i64 0,.int .i64 0,R] w fun e w'=>e=.returned (.tuple #[])∧Below w w w':=by
 have D:Hid (Below w.heap.size w w):=af _ _;rcases S with f|f
 all_goals
  go_enter f,nt6;go_wp2;go_loopg [8] 0 (fun kx T wr=>T=.int .i64 1∧Hid (Below w.heap.size w wr))
  case atStart=>exact⟨rfl,D⟩
  case round=>
   clear D;obtain⟨rfl,D⟩:=hrel;go_wp2
   go_end0
   exact⟨rfl,D.out⟩
theorem DX(hf:prog.funcs[Q]?=f269∨prog.funcs[Q]?=f271)T w:zC Q #[zN,T] w fun e w'=>e=.returned (.tuple #[])∧Below w w w':=by
 have k2:∀{n:Nat},(prog.funcs[n]?=f300∨prog.funcs[n]?=f301)→zC n #[zN,.int .i64 0,T] w fun e w'=>e=.returned (.tuple #[])∧Below w.heap.size w w':=fun hn=>by
  have k1:=vD (Or.inl func284) T;have k3:=vD (Or.inr func311) T;have D:Hid (Below w.heap.size w w):=af _ _;rcases hn with f|f
  all_goals
   go_enter f,nt4;go_wp2;go_loopg [7,8] 0 (fun kx s7 s8 wr=>s7=.int .i64 0∧s8=.int .i64 20∧Hid (Below w.heap.size w wr))
   case atStart=>exact⟨rfl,rfl,D⟩
   case round=>
    clear D;obtain⟨rfl,rfl,D⟩:=hrel
    go_wp2_with fail
    first|(go_at_call 284;refine(k1 _).mono ?_)|(go_at_call 311;refine(k3 _).mono ?_)
    rintro e w1 ⟨rfl,S⟩;have R:=zH (D.out.trans (S.mono D.out.size));clear S D;go_wp2;go_loopg [6,7,8] 0 (fun kx s6 s7 s8 wr=>s6=.int .i64 20∧Hid (Below w.heap.size w wr))
    case atStart=>exact⟨rfl,R⟩
    case round=>
     clear R;obtain⟨rfl,D⟩:=hrel;go_wp2
     go_end0
     exact⟨rfl,D.out⟩
 have k4:=k2 (Or.inl func300);have k5:=k2 (Or.inr func301);clear k2;rcases hf with f|f
 all_goals
  go_enter f,nt5
  go_wp2_with fail
  first|(go_at_call 300;refine k4.mono ?_)|(go_at_call 301;refine k5.mono ?_)
  rintro ex w2 ⟨rfl,hb⟩;clear k4 k5;go_wp2
  go_end0
  exact⟨rfl,hb⟩
omit [Inhabited α] in
theorem ik(hf:(prog.funcs[V]?=some f251∧Z=81∧Q=269)∨(prog.funcs[V]?=some f253∧Z=270∧Q=271))(kn:∀w,zC Z #[zN] w fun e w'=>e=.returned (zN)∧w'=w)
  {g:Nat} (v:zV) (L L':List α) (w:zW) (hm:Dr.Ml w) (h:(v=zN∧L=[]∧L'=[])∨∃b off c,v=.slice (some ⟨b,off,none⟩) L.length c∧zC Z #[.slice (some ⟨b,off,none⟩) L.length c] w fun T w'=>∃g cap,T=.returned (.slice (some ⟨g,0,none⟩) L.length cap)∧w'.ownsRow w.heap.size e Y (.slice (some ⟨g,0,none⟩) L.length cap) L.length (L.flatMap mc)∧Below w.heap.size w w')
  (ks:∀B D cap w,Dr.Ml w→D≠0→w.ownsRow B e Y (.slice (some ⟨D,0,none⟩) L.length cap) L.length (L.flatMap mc)→zC Q #[.slice (some ⟨D,0,none⟩) L.length cap,.func (.func g) #[] #[]] w fun T w'=>T=.returned (.tuple #[])∧w'.ownsRow B e Y (.slice (some ⟨D,0,none⟩) L.length cap) L.length (L'.flatMap mc)∧aj (fun b=>b=D) w w'):
  zC V #[v,.func (.func g) #[] #[]] w fun T w'=>∃v',T=.returned v'∧w'.ownsRow w.heap.size e Y v' L.length (L'.flatMap mc)∧Below w.heap.size w w':=by
 have hz:=hf.imp (fun h=>h.2.2▸func269) (fun h=>h.2.2▸func271);rcases h with⟨rfl,rfl,rfl⟩|⟨b,off,c,rfl,k1⟩
 ·have k2:=DX hz (.func (.func g) #[] #[])
  clear hm hz ks;rcases hf with⟨f,rfl,rfl⟩|⟨f,rfl,rfl⟩
  all_goals
   go_enter f,nt7
   go_wp2_with fail
   first|go_at_call 81|go_at_call 270
   refine(kn _).mono ?_;rintro e w' ⟨rfl,rfl⟩
   go_wp2_with fail
   first|go_at_call 269|go_at_call 271
   refine(k2 _).mono ?_;rintro e w1 ⟨rfl,R⟩;go_wp2;go_ret;exact⟨_,rfl,⟨(Nat.zero_mul _).symm,Or.inl ⟨rfl,rfl⟩⟩,R⟩
 ·have k2:Aside (∀W D cap,Below w.heap.size w W→W.ownsRow w e Y (.slice (some (D,0)) L cap) L (L.flatMap mc)→zC Q #[.slice (some (D,0)) L cap,.func (.func g) #[] #[]] W fun T w'=>T=.returned (.tuple #[])∧w'.ownsRow w e Y (.slice (some ⟨D,0,none⟩) L cap) L (L'.flatMap mc)∧Below w.heap.size w w'):=fun W D cap R S=>by
   have a1:=S.lt D rfl;have hp:=hm.pos;refine(ks _ D cap W (sF hm R) ae S).mono ?_;rintro e w' ⟨rfl,a0,ht⟩;exact⟨rfl,a0,⟨by rw[ht.os];exact R.os,by rw[ht.tape];exact R.tape,by rw[ht.output];exact R.output,aP R.size ht.size,fun i hi=>by rw[ht.block i (bU hi R.size) ae];exact R.block i hi⟩⟩
  clear hm ks hz kn;rcases hf with⟨f,rfl,rfl⟩|⟨f,rfl,rfl⟩
  all_goals
   go_enter f,nt7
   go_wp2_with fail
   first|go_at_call 81|go_at_call 270
   refine k1.mono ?_;rintro e w1 ⟨D,cap,rfl,S,R⟩;have k3:=k2.out w1 D cap R S;clear k1 k2 S R
   go_wp2_with fail
   first|go_at_call 269|go_at_call 271
   refine k3.mono ?_;rintro e w2 ⟨rfl,S,R⟩;have HF:=zH (And.intro S R);clear k3 S R;go_wp2;go_ret;exact⟨_,rfl,HF.out.1,HF.out.2⟩
end Su
end
section
open Go.RowKit Go.Sort Go.Shelf Go.Lib
abbrev Mo:=zA×zA
namespace Sm
def mc(x:Mo):List zV:=[.string x.1,.string x.2]
def Rd(w:zW)(v:zV)(L:List Mo):Prop:=
 (v=zN∧L=[])∨∃b off c,v=.slice (some ⟨b,off,none⟩) L.length c∧∀j u,(L.flatMap mc)[j]?=some u→w.cell? ⟨b,off+j,none⟩=some u
theorem rf(L:List Mo):(L.flatMap mc)=L.length*2:=Ss.gp (enc:=mc) (k:=2) (fun _=>rfl) L
theorem MC x:∀u∈mc x,u.oneCell'=true:=by
 intro u f;simp[mc] at f;rcases f with rfl|rfl<;>rfl
theorem Ca(L:List Mo):∀u∈L.flatMap mc,u.oneCell'=true:=by
 intro u f;obtain⟨x,_,D⟩:=List.mem_flatMap.1 f;exact MC x u D
def Sc:Go.Shelf.Ren:=⟨fun|41=>81|n=>n,fun|22=>55|23=>68|4=>4|n=>n,fun|n=>n⟩
theorem Hn:Go.Proofs.SlLaysE0.n41 prog Sc:={
 mixed:=aB
 f41:=⟨f81.name,aA,func81.trans (iE some aB)⟩
 t4:=underlying4
 a4:=isAgg4
 z4:=sizeOf4
 v4:=zeroValue4
 t22:=underlying55
 a22:=isAgg55
 z22:=sizeOf55
 v22:=zeroValue55}
theorem nA(b off c:Nat)(L:List Mo)w(hL:L.length≤16777216)(hc:∀j u,(L.flatMap mc)[j]?=some u→w.cell? (b,off+j)=some u):
  zC 81 #[.slice (some (b,off)) L c] w fun e w'=>∃g cap,e=.returned (.slice (some (g,0)) L cap)∧w'.ownsRow w 68 2 (.slice (some ⟨g,0,none⟩) L cap) L (L.flatMap mc)∧Below w w w':=by
 obtain⟨i0,S,T,h3,h4⟩:=BZ;have f:_≤maxLen:=aP hL aA;refine(AnyE.slices_Clone Hn i0 _ 2 32 S T h3 h4 rfl aA sizeOf68 b off _ c _ w (rf L) f ae hc (Ca L)).mono ?_;rintro e w' ⟨v',rfl,ho,a0,hb⟩;have D:w'.ownsRow _ 68 2 v' _ _:=ho;rcases D.2 with⟨hn,_⟩|⟨g,cap,R,rfl,_⟩
 ·grind
 grind
theorem nB w:zC 81 #[zN] w fun e w'=>e=.returned (zN)∧w'=w:=AnyE.slices_Clone_nil Hn 0 0 w
def ME:Go.Shelf.Ren:=⟨fun|20=>284|n=>n,fun|24=>68|22=>55|3=>3|25=>337|4=>4|0=>0|n=>n,fun|n=>n⟩
theorem Pz:Go.Proofs.SlLaysF0.n20 prog ME:={
 mixed:=aB
 f20:=⟨f284.name,aA,func284.trans (iE some aB)⟩
 t0:=underlying0
 a0:=isAgg0
 z0:=sizeOf0
 v0:=zeroValue0
 t3:=underlying3
 a3:=isAgg3
 z3:=sizeOf3
 v3:=zeroValue3
 t4:=underlying4
 a4:=isAgg4
 z4:=sizeOf4
 v4:=zeroValue4
 t22:=underlying55
 a22:=isAgg55
 z22:=sizeOf55
 v22:=zeroValue55
 t25:=underlying337
 a25:=isAgg337
 z25:=sizeOf337
 v25:=zeroValue337}
theorem ik{g}{f}(hC:Su.Cfn mc g f)v L w(hm:Dr.Ml w)(R:L.length≤16777216)(h:Rd w v L):
  zC 251 #[v,.func (.func g) #[] #[]] w fun e w'=>∃S,e=.returned S∧w'.ownsRow w 68 2 S L ((Ss.aQ (ltOf f) L).flatMap mc)∧Below w w w':=
 Su.ik (Or.inl ⟨func251,rfl,rfl⟩) nB v L _ w hm (h.imp (fun h=>⟨h.1,h.2,by rw[h.2];rfl⟩) (fun⟨b,off,c,T,h2⟩=>⟨b,off,c,T,nA b off c L w R h2⟩))
  (fun B D cap w hm hb h=>Su.xQ (ρ:=ME) rfl Su.ly2 Pz isAgg68 sizeOf68 (fun _=>rfl) MC aA hC B D cap L w hm hb R h)
theorem Jt:∀args w,(callFunc 252 args).run prog w=.ok (.enter 252 args) w:=fun _ _=>aB
theorem uI:∀args w,(callFunc 239 args).run prog w=.ok (.enter 239 args) w:=fun _ _=>aB
def qW(x y:Mo):Int:=bG x.1 y.1
theorem Sd:Su.Cfn mc 252 qW:=⟨Jt,fun W _ x y=>Dr.comparePaths_any x.1 x.2 y.1 y.2 W,Pv.ki (fun x:Mo×Nat=>x.1.1) cW⟩
theorem Se:Su.Cfn mc 239 dy:=⟨uI,fun W hm x y=>Dr.compareModules_any x.1 x.2 y.1 y.2 W hm,Pv.ki (fun x:Mo×Nat=>x.1) nt⟩
end Sm
end
section
open Go.RowKit
theorem Ax(s:zA)ok(h:(Pv.parse s).isSome=ok)w:zC 74 #[s] w fun e w'=>∃f T R D n2 S,e=.returned (.tuple #[.slice f T R,.slice D n2 S,ok])∧Below w w w':=by
 refine(kW s w).mono ?_;rintro e w' ⟨v1,v2,a3,rfl,hb,hv⟩;subst h;cases hp:Pv.parse s.data.toList with
 |none=>
  rw[hp] at hv;obtain⟨rfl,⟨f,T,R,rfl⟩,D,n2,S,rfl⟩:=hv;exact⟨f,T,R,D,n2,S,rfl,hb⟩
 |some x=>
  rw[hp] at hv;obtain⟨ns,a0⟩:=x;obtain⟨rfl,hN,_,l,_,_,hS⟩:=hv
  obtain⟨D,n2,S,rfl⟩:∃a n k,v2=.slice a n k:=by
   rcases hS with⟨_,h⟩|⟨b,c,h,_⟩
   ·grind
   grind
  obtain⟨f,T,R,rfl⟩:∃a n k,v1=.slice a n k:=by obtain⟨b,c,h,_⟩:=hN;grind
  exact⟨f,T,R,D,n2,S,rfl,hb⟩
theorem oO(a b:zA)R S r w(ha:(Pv.parse a).isSome=R)(hb:(Pv.parse b).isSome=S)
  (hr:(R=true∧S=false∧r=1)∨(R=false∧S=true∧r=-1)∨(R=false∧S=false∧r=Lib.compareBytes a b)):
  zC 63 #[a,b] w fun e w'=>e=.returned (r)∧Below w w w':=by
 have k1:=Ax a R ha;have k2:=Ax b S hb;have k5:=Ab a b;clear ha hb;go_enter func63,ntmps63
 go_wp2_with (go_at_call 74;fail)
 go_at_call 74;refine(k1 _).mono ?_;rintro e w1 ⟨a1,n1,c1,a2,n2,c2,rfl,f⟩
 go_wp2_with (go_at_call 74;fail)
 go_at_call 74;refine(k2 _).mono ?_;rintro e w2 ⟨a3,n3,c3,a4,n4,c4,rfl,D⟩;have T:=zH (f.trans (D.mono f.size));clear f D k1 k2;rcases hr with⟨rfl,rfl,rfl⟩|⟨rfl,rfl,rfl⟩|⟨rfl,rfl,rfl⟩
 ·go_wp2
  go_ret;exact⟨rfl,T.out⟩
 ·go_wp2
  go_ret;exact⟨rfl,T.out⟩
 ·go_wp2_with (go_at_call 86;refine(k5 _).mono ?_;rintro e w' ⟨rfl,rfl⟩)
  go_ret;exact⟨rfl,T.out⟩
theorem Ay(a b:zA)w:zC 63 #[a,b] w fun e w'=>e=.returned ((dZ a b))∧Below w w w':=by
 unfold dZ;cases ha:Pv.parse a.data.toList with
 |none=>
  cases hb:Pv.parse b.data.toList with
  |none=>
   rw[Pv.lg ha hb];exact oO a b false false _ w (by rw[ha];rfl) (by rw[hb];rfl) (Or.inr (Or.inr ⟨rfl,rfl,rfl⟩))
  |some y=>
   rw[Pv.pP ha hb];exact oO a b false true _ w (by rw[ha];rfl) (by rw[hb];rfl) (Or.inr (Or.inl ⟨rfl,rfl,rfl⟩))
 |some x=>
  cases hb:Pv.parse b.data.toList with
  |none=>
   rw[Pv.lf ha hb];exact oO a b true false _ w (by rw[ha];rfl) (by rw[hb];rfl) (Or.inl ⟨rfl,rfl,rfl⟩)
  |some y=>
   rw[Pv.kZ ha hb];exact Ae a b w x y ha hb
end
section
open Go.RowKit
def gL(x y:Mo)(f:Bool):Bool:=if f then ltOf dy x y else ltOf Sm.qW x y
theorem Cc a b:decide (bG a b<0)=decide (a<b.data.toList):=by
 unfold bG;rcases Pv.jZ a.data.toList b.data.toList with⟨f,D⟩|⟨f,D⟩|⟨f,D,R⟩
 ·grind
 ·grind
 grind
theorem Az{a b}(h:a≠b):bG a b≠0:=fun e=>h (cW.zero a b trivial trivial e)
theorem AA x y(f:Bool)w:
  zC 89 #[.agg #[x.1,x.2],.agg #[y.1,y.2],f] w fun e w'=>e=.returned ((gL x y f))∧Below w w w':=by
 obtain⟨a,u⟩:=x;obtain⟨b,v⟩:=y;have HB:Hid (∀o1 o2,Below w.heap.size w ((w.alloc o1).alloc o2)):=fun o1 o2=>((af _ _).alloc (ai _) _).alloc ah _
 have kw:=Ay u v;by_cases R:a=b
 ·subst R
  have S:bG a a=0:=cW.self trivial;have hq:(!(a.toList==a.toList))=false:=ah;cases f with
  |false=>
   have D:gL (a,u) (a,v) false=false:=by
    unfold gL;rw[au aA];exact br (by show ¬bG a a<0;omega)
   rw[D];clear kw D S;go_enter func89,ntmps89;go_wp2;go_ret;exact⟨rfl,HB.out _ _⟩
  |true=>
   have D:gL (a,u) (a,v) true=decide (dZ u v<0):=by
    unfold gL;rw[ay rfl];show decide (dy (a,u) (a,v)<0)=_;unfold dy;rw[ay S]
   rw[D];generalize dZ u v=r at kw ⊢;clear D S;go_enter func89,ntmps89
   go_wp2_with (go_at_call 63;fail)
   go_at_call 63;refine(kw _).mono ?_;rintro e w1 ⟨rfl,T⟩;have hb:=(HB.out _ _).trans (T.mono aJ);clear T kw;go_wp2;go_ret;exact⟨rfl,hb⟩
 ·have S:=Az R
  have D:gL (a,u) (b,v) f=decide (bG a b<0):=by
   unfold gL;cases f with
   |false=>rfl
   |true=>
    rw[ay rfl];show decide (dy (a,u) (b,v)<0)=_;unfold dy;rw[au S]
  rw[D,Cc];have e1:=(rM a b).1;have a0:=fun e=>R (tV (pG.1 e))
  have hq:(!(a.toList==b.toList))=true:=by
   rw[cP,cP,bX.2 a0];rfl
  clear kw D S a0;generalize decide (a.data.toList<b.data.toList)=d at*;go_enter func89,ntmps89;go_wp2;go_ret;exact⟨rfl,HB.out _ _⟩
end
section
open Go.RowKit Go.Sort Go.Shelf Go.Lib
abbrev So:=zA×zA×zA
namespace Sw
def mc(x:So):List zV:=[.string x.1,.string x.2.1,.string x.2.2]
def Rd(w:zW)(v:zV)(L:List So):Prop:=
 (v=zN∧L=[])∨∃b off c,v=.slice (some ⟨b,off,none⟩) L.length c∧∀j u,(L.flatMap mc)[j]?=some u→w.cell? ⟨b,off+j,none⟩=some u
theorem rf(L:List So):(L.flatMap mc)=L.length*3:=Ss.gp (enc:=mc) (k:=3) (fun _=>rfl) L
theorem MC x:∀u∈mc x,u.oneCell'=true:=by
 intro u f;simp[mc] at f;rcases f with rfl|rfl|rfl<;>rfl
theorem Ca(L:List So):∀u∈L.flatMap mc,u.oneCell'=true:=by
 intro u f;obtain⟨x,_,D⟩:=List.mem_flatMap.1 f;exact MC x u D
def Sf:Go.Shelf.Ren:=⟨fun|41=>270|n=>n,fun|22=>193|23=>199|4=>4|n=>n,fun|n=>n⟩
theorem Ho:Go.Proofs.SlLaysE0.n41 prog Sf:={
 mixed:=aB
 f41:=⟨f270.name,aA,func270.trans (iE some aB)⟩
 t4:=underlying4
 a4:=isAgg4
 z4:=sizeOf4
 v4:=zeroValue4
 t22:=underlying193
 a22:=isAgg193
 z22:=sizeOf193
 v22:=zeroValue193}
theorem Ce:∃i,prog.info? 199=some i∧i.zero=some (.agg #[zE,zE,zE])∧i.size=3∧i.bytes=48:=by
 have h:(prog.info? 199).map (fun i=>(i.zero,i.size,i.bytes))=some (some (.agg #[zE,zE,zE]),3,48):=aB;simp_all
theorem nA(b off c:Nat)(L:List So)w(hL:L.length≤16777216)(hc:∀j u,(L.flatMap mc)[j]?=some u→w.cell? (b,off+j)=some u):
  zC 270 #[.slice (some (b,off)) L c] w fun e w'=>∃g cap,e=.returned (.slice (some (g,0)) L cap)∧w'.ownsRow w 199 3 (.slice (some ⟨g,0,none⟩) L cap) L (L.flatMap mc)∧Below w w w':=by
 obtain⟨i0,S,T,h3,h4⟩:=Ce;have f:_≤maxLen:=aP hL aA;refine(AnyE.slices_Clone Ho i0 _ 3 48 S T h3 h4 rfl aA sizeOf199 b off _ c _ w (rf L) f ae hc (Ca L)).mono ?_;rintro e w' ⟨v',rfl,ho,a0,hb⟩;have D:w'.ownsRow _ 199 3 v' _ _:=ho;rcases D.2 with⟨hn,_⟩|⟨g,cap,R,rfl,_⟩
 ·grind
 grind
theorem nB w:zC 270 #[zN] w fun e w'=>e=.returned (zN)∧w'=w:=AnyE.slices_Clone_nil Ho 0 0 w
def MF:Go.Shelf.Ren:=⟨fun|20=>311|n=>n,fun|24=>199|22=>193|3=>3|25=>355|4=>4|0=>0|n=>n,fun|n=>n⟩
theorem PD:Go.Proofs.SlLaysF0.n20 prog MF:={
 mixed:=aB
 f20:=⟨f311.name,aA,func311.trans (iE some aB)⟩
 t0:=underlying0
 a0:=isAgg0
 z0:=sizeOf0
 v0:=zeroValue0
 t3:=underlying3
 a3:=isAgg3
 z3:=sizeOf3
 v3:=zeroValue3
 t4:=underlying4
 a4:=isAgg4
 z4:=sizeOf4
 v4:=zeroValue4
 t22:=underlying193
 a22:=isAgg193
 z22:=sizeOf193
 v22:=zeroValue193
 t25:=underlying355
 a25:=isAgg355
 z25:=sizeOf355
 v25:=zeroValue355}
theorem ik{g}{f}(hC:Su.Cfn mc g f)v L w(hm:Dr.Ml w)(R:L.length≤16777216)(h:Rd w v L):
  zC 253 #[v,.func (.func g) #[] #[]] w fun e w'=>∃S,e=.returned S∧w'.ownsRow w 199 3 S L ((Ss.aQ (ltOf f) L).flatMap mc)∧Below w w w':=
 Su.ik (Or.inr ⟨func253,rfl,rfl⟩) nB v L _ w hm (h.imp (fun h=>⟨h.1,h.2,by rw[h.2];rfl⟩) (fun⟨b,off,c,T,h2⟩=>⟨b,off,c,T,nA b off c L w R h2⟩))
  (fun B D cap w hm hb h=>Su.xQ (ρ:=MF) rfl Su.ly3 PD isAgg199 sizeOf199 (fun _=>rfl) MC aA hC B D cap L w hm hb R h)
theorem Ju:∀args w,(callFunc 254 args).run prog w=.ok (.enter 254 args) w:=fun _ _=>aB
def Cf(x y:So):Int:=dy (x.1,x.2.1) (y.1,y.2.1)
theorem Sg:Su.Cfn mc 254 Cf:=⟨Ju,fun W hm x y=>Dr.compareSwaps_any x.1 x.2.1 x.2.2 y.1 y.2.1 y.2.2 W hm,Pv.ki (fun x:So×Nat=>(x.1.1,x.1.2.1)) nt⟩
end Sw
end
section
open Go.RowKit Go.Sort Go.Shelf Go.Lib
theorem cell_below{w W:zW}{a}{u:zV}(D:Below w w W)(h:w.cell? a=u):W.cell? a=u:=by
 have f:=cr w _ h;rw[dW (D.block _ f)];exact h
theorem Sm.Rd.below{w W}{v}{L}(h:Sm.Rd w v L)(f:Below w w W):Sm.Rd W v L:=by
 rcases h with h|⟨b,off,c,h,D⟩
 ·exact Or.inl h
 ·exact Or.inr ⟨b,off,c,h,fun j u R=>cell_below f (D j u R)⟩
theorem Sw.Rd.below{w W}{v}{L}(h:Sw.Rd w v L)(f:Below w w W):Sw.Rd W v L:=by
 rcases h with h|⟨b,off,c,h,D⟩
 ·exact Or.inl h
 ·exact Or.inr ⟨b,off,c,h,fun j u R=>cell_below f (D j u R)⟩
theorem Sm.Rd.shape{w}{v}{L}(h:Sm.Rd w v L):∃a n c,v=.slice a n c:=by
 rcases h with⟨h,_⟩|⟨b,off,c,h,_⟩<;>exact⟨_,_,_,h⟩
theorem Sw.Rd.shape{w}{v}{L}(h:Sw.Rd w v L):∃a n c,v=.slice a n c:=by
 rcases h with⟨h,_⟩|⟨b,off,c,h,_⟩<;>exact⟨_,_,_,h⟩
theorem jL{w:zW}{B e s n:Nat}{v}{l}(h:w.ownsRow B e s v n l):∃a n c,v=.slice a n c:=by
 rcases h.2 with⟨h,_⟩|⟨g,c,_,h,_⟩<;>exact⟨_,_,_,h⟩
abbrev reqs(L:List Mo):List Mo:=Ss.aQ (ltOf Sm.qW) L
abbrev gu(L:List Mo):List Mo:=Ss.aQ (ltOf dy) L
abbrev fL(L:List So):List So:=Ss.aQ (ltOf Sw.Cf) L
theorem cF{w:zW}{B B' e s n:Nat}{v}{l}(h:w.ownsRow B e s v n l)(T:B'≤B):w.ownsRow B' e s v n l:=by
 refine⟨h.1,?_⟩;rcases h.2 with h|⟨g,c,f,D,R,S⟩
 ·exact Or.inl h
 ·exact Or.inr ⟨g,c,f,D,aP T R,S⟩
structure InM(w:World)(p:zA)(J I G:zV)(W:World):Prop where
 b:Below w.heap.size w W
 box:dt W w.heap.size 4 (fun f=>if f=0 then .string p else if f=1 then J else if f=2 then I else G)
 out:W.heap[w.heap.size+1]?=some (.cells #[zE,zN,zN,zN] 195)
 sz:w.heap.size+2≤W.heap.size
variable{w W U:zW}{p:zA}{J I G:zV}
theorem InM.call(h:InM w p J I G W)(f:Below W W U):InM w p J I G U:=
 ⟨h.b.trans (f.mono (by have:=h.sz;omega)),h.box.of_block (f.block _ (by have:=h.sz;omega)),by rw[f.block _ (by have:=h.sz;omega)];exact h.out,aP h.sz f.size⟩
theorem InM.cells(h:InM w p J I G W):(W.cell? (w,0)=(p)∧W.cell? (w,1)=J∧W.cell? (w,2)=I∧W.cell? (w,3)=G)∧(W.frozen? (w,0)=false∧W.frozen? (w,1)=false∧W.frozen? (w,2)=false∧W.frozen? (w,3)=false):=
 ⟨⟨h.box.at' 0 ae,h.box.at' 1 ae,h.box.at' 2 ae,h.box.at' 3 ae⟩,h.box.fr 0 ae,h.box.fr 1 ae,h.box.fr 2 ae,h.box.fr 3 ae⟩
theorem InM.outs(h:InM w p J I G W):(W.cell? ⟨w+1,0,none⟩=some (zE)∧W.cell? ⟨w+1,1,none⟩=some (zN)∧W.cell? ⟨w+1,2,none⟩=some (zN)∧W.cell? ⟨w+1,3,none⟩=some (zN))∧(W.frozen? ⟨w+1,0,none⟩=false∧W.frozen? ⟨w+1,1,none⟩=false∧W.frozen? ⟨w+1,2,none⟩=false∧W.frozen? ⟨w+1,3,none⟩=false):=
 Dr.cells4 h.out
theorem InM.Si(h:InM w p J I G W)i(T:i<4)(u:zV)f R D S(e:∀j,j<4→(if j=i then u else if j=0 then p else if j=1 then J else if j=2 then I else G)=(if j=0 then .string S else if j=1 then f else if j=2 then R else D)):InM w S f R D (W.setCell (w,i) u):=
 ⟨h.b.setCell (ai _) _,(h.box.set T u).ext e,by rw[aM _ _ _ _ ah];exact h.out,by have:=h.sz;simp_all⟩
theorem InM.r(h:InM w p J I G W)u:InM w p u I G (W.setCell (w,1) u):=
 h.Si 1 ae u u I G p (fun j _=>ax)
theorem InM.x(h:InM w p J I G W)u:InM w p J u G (W.setCell (w,2) u):=
 h.Si 2 ae u J u G p (fun j _=>ax)
theorem InM.s(h:InM w p J I G W)u:InM w p J I u (W.setCell (w,3) u):=
 h.Si 3 ae u J I u p (fun j f=>by
  grind)
theorem InM.start w p J I G:InM w p J I G ((w.alloc (.cells #[p,J,I,G] 195)).alloc (.cells #[zE,zN,zN,zN] 195)):=by
 refine⟨((af _ _).alloc (ai _) _).alloc ah _,⟨fun j D=>?_,fun j D=>?_⟩,dX _ _ _,ah⟩
 ·have f:j=0∨j=1∨j=2∨j=3:=ae
  rcases f with rfl|rfl|rfl|rfl<;>simp
 simp
theorem InM.whole(h:InM w p J I G W)a b c d:((((W.setCell ⟨w+1,0,none⟩ a).setCell ⟨w+1,1,none⟩ b).setCell ⟨w+1,2,none⟩ c).setCell ⟨w+1,3,none⟩ d).heap[w.heap.size+1]?=some (.cells #[a,b,c,d] 195):=by
 have f:=bl _ _ 0 _ _ a h.out;have D:=bl _ _ 1 _ _ b f;have R:=bl _ _ 2 _ _ c D;exact bl _ _ 3 _ _ d R
theorem cG{B e s n:Nat}{v}{l}(h:W.ownsRow B e s v n l){a}u(f:a.block<B):(W.setCell a u).ownsRow B e s v n l:=
 ownsRow_setCell_other h (fun he=>by have:=(h.lt _ he).1;omega) u
end
section
open Go.RowKit Go.Sort Go.Shelf Go.Lib
variable{N W U:zW}{B:Nat}{l:List UInt8}
theorem Ub(L:List Mo)(i:Nat)(f:i<L):(L.flatMap Sm.mc)[i*2]?=some (.string L[i]!.1)∧(L.flatMap Sm.mc)[i*2+1]?=some (.string L[i]!.2):=by
 constructor
 ·rw[Ss.flat_get (k:=2) (fun _=>rfl) aA L (i*2) ae,Nat.mul_div_cancel _ aA,Nat.mul_mod_left]
  rfl
 ·rw[Ss.flat_get (k:=2) (fun _=>rfl) aA L _ ae,show(i*2+1)/2=i by omega,show(i*2+1)%2=1 by omega]
  rfl
theorem Uc(L:List So)(i:Nat)(f:i<L):(L.flatMap Sw.mc)[i*3]?=some (.string L[i]!.1)∧(L.flatMap Sw.mc)[i*3+1]?=some (.string L[i]!.2.1)∧(L.flatMap Sw.mc)[i*3+2]?=some (.string L[i]!.2.2):=by
 refine⟨?_,?_,?_⟩
 ·rw[Ss.flat_get (k:=3) (fun _=>rfl) aA L (i*3) ae,Nat.mul_div_cancel _ aA,Nat.mul_mod_left]
  rfl
 ·rw[Ss.flat_get (k:=3) (fun _=>rfl) aA L _ ae,show(i*3+1)/3=i by omega,show(i*3+1)%3=1 by omega]
  rfl
 ·rw[Ss.flat_get (k:=3) (fun _=>rfl) aA L _ ae,show(i*3+2)/3=i by omega,show(i*3+2)%3=2 by omega]
  rfl
end
section
open Go.RowKit
variable{w w':zW}
abbrev mcs(L:List Mo):List zV:=L.flatMap Sm.mc
theorem MG(p post:List Mo)y v(n:Nat)(h:p=n):
  (((((mcs (p++[y]++[v]++post)).set ((n+1)*2) (y.1)).set ((n+1)*2+1) (y.2)).set (n*2) (v.1)).set (n*2+1) (v.2))=mcs (p++[v]++([y]++post)):=by
 have f:mcs (p++[y]++[v]++post)=mcs p++[.string y.1,.string y.2,.string v.1,.string v.2]++mcs post:=by simp[mcs,Sm.mc]
 have D:mcs (p++[v]++([y]++post))=mcs p++[.string v.1,.string v.2,.string y.1,.string y.2]++mcs post:=by simp[mcs,Sm.mc]
 have R:(mcs p)=n*2:=by rw[Sm.rf,h]
 rw[f,D,show _*2=n*2+2 by omega];exact T6 _ _ _ _ _ _ _ _ _ _ _ R
theorem MH p post v:(mcs (p++[v]++post))[p.length*2]?=some (.string v.1)∧(mcs (p++[v]++post))[p.length*2+1]?=some (.string v.2):=by
 have h:(p++[v]++post)[p.length]! =v:=by
  rw[cB _ _ ah];simp
 have:=Ub (p++[v]++post) p ah
 grind
theorem Cg(f D:zA)(a0:Bool)lv(L:List Mo)(w:zW)(B:Nat)(hB:B≤w)(ho:w.ownsRow B 68 2 lv L (mcs L))(hl:L.length≤16777216):
  zC 64 #[lv,.agg #[f,D],a0] w fun e w'=>∃g c,e=.returned (.slice (some (g,0)) (L+1) c)∧w'.ownsRow B 68 2 (.slice (some (g,0)) (L+1) c) (L+1) (mcs (Ss.ins (fun a b=>gL a b a0) (f,D) L))∧aj (fun b=>lv.ownBlock=b) w w'∧(lv.ownBlock=some g∨w≤g):=by
 obtain⟨i2,aa,ab,ad,ak⟩:=BZ;have HI:Hid (_∧_∧_∧_):=⟨aa,ab,ad,ak⟩;clear aa ab ad ak;obtain⟨la,lc,rfl⟩:=aC ho;have HO:=zH ho;have aq:(w.alloc (.cells #[f,D] 68))=w.heap.size+1:=ah
 have a9:Hid (∀j u,[Value.string f,Value.string D][j]?=some u→((w.alloc (.cells #[f,D] 68)).alloc (.cells #[f,D] 68)).cell? ((⟨w+1,0,none⟩:Addr).add j)=some u):=by
  have h:=cell_two_new (w.alloc (.cells #[f,D] 68)) 68 (f) (D);rw[aq] at h;exact h
 clear ho aq;go_enter func64,ntmps64
 go_wp2_with (at_builtin;refine bO _ rfl _ _ 55 rfl B 68 i2 _ 2 32 underlying55 HI.out.1 HI.out.2.1 HI.out.2.2.1 HI.out.2.2.2 rfl aA (.slice la _ lc) _ _ rfl ((HO.out.alloc _).alloc _) _ 1 1 _ rfl rfl a9.out ?_ ?_ ?_ ?_ ?_)
 all_goals first
  |(show ∀u∈[Value.string f,Value.string D],u.oneCell'=true;intro u hu;simp at hu;rcases hu with rfl|rfl<;>rfl)
  |(show L.length+1≤maxLen;unfold maxLen;omega)
  |(show(L.length+1)*32≤140737488355328;omega)
  |(show B≤((w.alloc _).alloc _).heap.size;simp;omega)
  |(show B≤w.heap.size+1+1;omega)
  |skip
 intro c4 w1 T a1 _ a7;obtain⟨g,c,rfl⟩:=bo T ae
 have hg:(Value.slice la L lc).ownBlock=g∨w≤g:=by
  rcases a7 with e|e
  ·exact Or.inl e.symm
  ·right
   have:g=w+1+1:=by simpa[Value.ownBlock] using e
   omega
 have av:=(((aj.refl _ w).alloc _).alloc _).grown a1 (fun b _ e=>e);have hm:mcs L++[.string f,.string D]=mcs (L++[(f,D)]++[]):=by simp[mcs,Sm.mc]
 rw[hm] at T;have HS:Hid (_∧_):=⟨T,av⟩;have HG:=zH hg;clear T a1 a7 hg av hm a9 HO;go_wp2;go_loopg [7] L (fun gg s wr=>∃(p post:List Mo),s=.int .i64 p.length∧p.length≤gg∧p.length≤16777216∧Hid (L=p++post)∧Hid (∀z∈post,gL (f,D) z a0=true)∧Hid (wr.ownsRow B 68 2 (.slice (some ⟨g,0,none⟩) (L.length+1) c) (L.length+1) (mcs (p++[(f,D)]++post))∧aj (fun b=>(Value.slice la L.length lc).ownBlock=some b) w wr))
 case atStart=>exact⟨L,[],rfl,ae,ae,(eP L).symm,(fun z hz=>by cases hz),HS⟩
 case round=>
  clear HS;obtain⟨p,post,rfl,b7,bn,HP,HZ,HS⟩:=hrel;rcases List.eq_nil_or_concat p with hp|⟨R,⟨yp,yv⟩,hp⟩
  ·subst hp
   have HE:Hid (Ss.ins (fun a b=>gL a b a0) (f,D) L=[]++[(f,D)]++post):=by
    have h:=HP.out;show _=_;rw[h,jP,Ss.uz HZ.out];rfl
   go_wp2;go_ret;refine⟨g,c,rfl,?_,HS.out.2,HG.out⟩;rw[HE.out];exact HS.out.1
  ·rw[List.concat_eq_append] at hp
   subst hp;have a6:L=R+1+post.length:=by have h:=HP.out;rw[h];simp;omega
   have an:(R++[(yp,yv)]).length=R+1:=ah;have a4:=MH (R++[(yp,yv)]) post (f,D);have a5:=MH R ([(f,D)]++post) (yp,yv);have e2:R++[(yp,yv)]++([(f,D)]++post)=R++[(yp,yv)]++[(f,D)]++post:=ah;rw[e2] at a5;rw[an] at a4;have c0:wr.cell? ⟨g,(R+1)*2,none⟩=f:=by rw[HS.out.1.cellAt _ ae];exact a4.1
   have c1:wr.cell? ⟨g,(R+1)*2+1,none⟩=D:=by rw[HS.out.1.cellAt _ ae];exact a4.2
   have c2:wr.cell? ⟨g,R*2,none⟩=yp:=by rw[HS.out.1.cellAt _ ae];exact a5.1
   have c3:wr.cell? ⟨g,R*2+1,none⟩=yv:=by rw[HS.out.1.cellAt _ ae];exact a5.2
   have a2:=(HS.out.1.lt g rfl).2;have ka:=AA (f,D) (yp,yv) a0 wr.drew;have bk:(R:Int)+1-1=R:=ae;have bh:R<(L:Int)+1:=ae;have bi:R+1<(L:Int)+1:=ae;obtain⟨d,hd⟩:∃d,gL (f,D) (yp,yv) a0=d:=⟨_,rfl⟩;rw[hd] at ka;have HD:=zH hd;clear a4 a5 e2 hd;simp only[an] at*;generalize hm:R.length=m at*;have HM:=zH hm;clear hm;rw[show(_:Nat)=(m:Int)+1 from by omega];have bm:(0)<(m:Int)+1:=ae;go_upto_region 5 with fail;have b8:m<L:=ae;have b9:m≤L:=ae;have ba:m<(L:Int):=ae;have bb:m≤(L:Int):=ae;have bc:m<(L:Int)+1:=ae;have bd:m+1<(L:Int)+1:=ae;have bs:(0)≤(m:Int)+1:=ae;have bt:(0)≤(m:Int):=ae;have bv:m≤20000000:=ae;have b2:(m+1:Nat)<((L+1:Nat):Int):=ae;have b3:m+1<L+1:=ae;have b4:m<L+1:=ae;have Ud:=zH a6;clear a6;have bq:IntKind.i64.wrap m=m:=by simp[IntKind.wrap,IntKind.bits,IntKind.signed];omega
   clear b2 b3 b4
   go_region_held3 (fun w'=>w'.cell? (g,(m+1)*2)=f∧w'.cell? (g,(m+1)*2+1)=D∧w'.cell? (g,m*2)=yp∧w'.cell? (g,m*2+1)=yv) (first|exact⟨c0,c1,c2,c3⟩|(refine⟨?_,?_,?_,?_⟩<;>assumption))
    (first|(go_at_call 89;refine ka.mono ?_;rintro e w2 ⟨rfl,hb⟩;have s0:=(hb.cell a2).trans c0;have s1:=(hb.cell a2).trans c1;have s2:=(hb.cell a2).trans c2;have s3:=(hb.cell a2).trans c3;have a8:=zH (((af wr wr).drew).trans hb);clear hb))
   have jl:=ar HS.out.1 (fun b e=>a8.out.block b (HS.out.1.lt b e).2);have S:Hid (w2.ownsRow B 68 2 _ _ (mcs (R++[(yp,yv)]++[(f,D)]++post))∧_):=⟨jl,HS.out.2.more a8.out⟩;clear jl HS a8 ka c0 c1 c2 c3;cases d
   ·have HE:Hid (Ss.ins (fun a b=>gL a b a0) (f,D) L=R++[(yp,yv)]++[(f,D)]++post):=by
     have h:=HP.out;show _=_;rw[h];exact Ss.BS HZ.out HD.out
    go_wp2;go_ret;refine⟨g,c,rfl,?_,S.out.2,HG.out⟩;rw[HE.out];exact S.out.1
   ·have f0:=S.out.1.frozenAt ((m+1)*2)
    have f1:=S.out.1.frozenAt ((m+1)*2+1);have f2:=S.out.1.frozenAt (m*2);have f3:=S.out.1.frozenAt (m*2+1);have b5:=(S.out.1.lt g rfl).2;have b6:g≠w2:=ae
    have a3:g<w→(Value.slice la L lc).ownBlock=g:=fun h=>by
     rcases HG.out with e|e
     ·exact e
     ·omega
    have b0:Hid (∀o,(((((w2.setCell (g,(m+1)*2) (yp)).setCell (g,(m+1)*2+1) (yv)).setCell (g,m*2) (.string f)).setCell (g,m*2+1) (.string D)).alloc o).ownsRow B 68 2 (.slice (some (g,0)) (L+1) c) (L+1) (mcs (R++[(f,D)]++([(yp,yv)]++post)))∧aj (fun b=>(Value.slice la L lc).ownBlock=some b) w (((((w2.setCell (g,(m+1)*2) (.string yp)).setCell (g,(m+1)*2+1) (.string yv)).setCell (g,m*2) (.string f)).setCell (g,m*2+1) (.string D)).alloc o)):=fun o=>by
     have h4:=(((((((S.out.1.stored ((m+1)*2) (yp)).1).stored ((m+1)*2+1) (yv)).1).stored (m*2) (f)).1).stored (m*2+1) (D)).1;rw[MG R post _ _ m HM.out] at h4;exact⟨h4.alloc o,((((S.out.2.set a3 _).set a3 _).set a3 _).set a3 _).alloc o⟩
    have b1:Hid (∀z∈[(yp,yv)]++post,gL (f,D) z a0=true):=fun z hz=>by
     rcases bT.1 hz with h|h
     ·have e:z=(yp,yv):=by simpa using h
      rw[e];exact HD.out
     ·exact HZ.out z h
    have az:Hid (L=R++([(yp,yv)]++post)):=by
     have h:=HP.out;show L=_;rw[h];simp
    go_wp2;go_roundg m
    case measure=>omega
    case rel=>exact⟨R,_,by rw[HM.out],by have:=HM.out;omega,by have:=HM.out;omega,az,b1,b0.out _⟩
end
section
open Go.RowKit
variable{w w':zW}
abbrev scs(L:List So):List zV:=L.flatMap Sw.mc
theorem Vn(A C:List zV)a b c d e f D R S d' T f'(n:Nat)(h:A=n):((((((A++[a,b,c,d,e,f]++C).set (n+3) d').set (n+4) T).set (n+5) f').set n D).set (n+1) R).set (n+2) S=A++[D,R,S,d',T,f']++C:=by
 subst h;simp
theorem MI(p post:List So)y v(n:Nat)(h:p=n):
  (((((((scs (p++[y]++[v]++post)).set ((n+1)*3) (y.1)).set ((n+1)*3+1) (y.2.1)).set ((n+1)*3+2) (y.2.2)).set (n*3) (v.1)).set (n*3+1) (v.2.1)).set (n*3+2) (v.2.2))=scs (p++[v]++([y]++post)):=by
 have f:scs (p++[y]++[v]++post)=scs p++[.string y.1,.string y.2.1,.string y.2.2,.string v.1,.string v.2.1,.string v.2.2]++scs post:=by simp[scs,Sw.mc]
 have D:scs (p++[v]++([y]++post))=scs p++[.string v.1,.string v.2.1,.string v.2.2,.string y.1,.string y.2.1,.string y.2.2]++scs post:=by simp[scs,Sw.mc]
 have R:(scs p)=n*3:=by rw[Sw.rf,h]
 rw[f,D,show _*3=n*3+3 by omega];exact Vn _ _ _ _ _ _ _ _ _ _ _ _ _ _ _ R
theorem MJ p post v:(scs (p++[v]++post))[p.length*3]?=some (.string v.1)∧(scs (p++[v]++post))[p.length*3+1]?=some (.string v.2.1)∧(scs (p++[v]++post))[p.length*3+2]?=some (.string v.2.2):=by
 have h:(p++[v]++post)[p.length]! =v:=by
  rw[cB _ _ ah];simp
 have:=Uc (p++[v]++post) p ah
 grind
theorem DY(f D R:zA)lv(L:List So)(w:zW)(B:Nat)(hB:B≤w)(ho:w.ownsRow B 199 3 lv L (scs L))(hl:L.length≤16777216):
  zC 172 #[lv,.agg #[f,D,R]] w fun e w'=>∃g c,e=.returned (.slice (some (g,0)) (L+1) c)∧w'.ownsRow B 199 3 (.slice (some (g,0)) (L+1) c) (L+1) (scs (Ss.ins (ltOf Sw.Cf) (f,D,R) L))∧aj (fun b=>lv.ownBlock=b) w w'∧(lv.ownBlock=some g∨w≤g):=by
 obtain⟨i2,aa,ab,ad,ak⟩:=Sw.Ce;have HI:Hid (_∧_∧_∧_):=⟨aa,ab,ad,ak⟩;clear aa ab ad ak;obtain⟨la,lc,rfl⟩:=aC ho;have HO:=zH ho;have aq:(w.alloc (.cells #[f,D,R] 199))=w.heap.size+1:=ah
 have a9:Hid (∀j u,[Value.string f,Value.string D,Value.string R][j]?=some u→((w.alloc (.cells #[f,D,R] 199)).alloc (.cells #[f,D,R] 199)).cell? ((⟨w+1,0,none⟩:Addr).add j)=some u):=by
  have h:=eC (w.alloc (.cells #[f,D,R] 199)) (f) (D) (R) 199;rw[aq] at h;exact h
 clear ho aq;go_enter func172,ntmps172
 go_wp2_with (at_builtin;refine bO _ rfl _ _ 193 rfl B 199 i2 _ 3 48 underlying193 HI.out.1 HI.out.2.1 HI.out.2.2.1 HI.out.2.2.2 rfl aA (.slice la _ lc) _ _ rfl ((HO.out.alloc _).alloc _) _ 1 1 _ rfl rfl a9.out ?_ ?_ ?_ ?_ ?_)
 all_goals first
  |(show ∀u∈[Value.string f,Value.string D,Value.string R],u.oneCell'=true;intro u hu;simp at hu;rcases hu with rfl|rfl|rfl<;>rfl)
  |(show L.length+1≤maxLen;unfold maxLen;omega)
  |(show(L.length+1)*48≤140737488355328;omega)
  |(show B≤((w.alloc _).alloc _).heap.size;simp;omega)
  |(show B≤w.heap.size+1+1;omega)
  |skip
 intro c6 w1 a0 a3 _ a7;obtain⟨g,c,rfl⟩:=bo a0 ae
 have hg:(Value.slice la L lc).ownBlock=g∨w≤g:=by
  rcases a7 with e|e
  ·exact Or.inl e.symm
  ·right
   have:g=w+1+1:=by simpa[Value.ownBlock] using e
   omega
 have av:=(((aj.refl _ w).alloc _).alloc _).grown a3 (fun b _ e=>e);have hm:scs L++[.string f,.string D,.string R]=scs (L++[(f,D,R)]++[]):=by simp[scs,Sw.mc]
 rw[hm] at a0;have HS:Hid (_∧_):=⟨a0,av⟩;have HG:=zH hg;clear a0 a3 a7 hg av hm a9 HO;go_wp2;go_loopg [5] L (fun gg s wr=>∃(p post:List So),s=.int .i64 p.length∧p.length≤gg∧p.length≤16777216∧Hid (L=p++post)∧Hid (∀z∈post,ltOf Sw.Cf (f,D,R) z=true)∧Hid (wr.ownsRow B 199 3 (.slice (some ⟨g,0,none⟩) (L.length+1) c) (L.length+1) (scs (p++[(f,D,R)]++post))∧aj (fun b=>(Value.slice la L.length lc).ownBlock=some b) w wr))
 case atStart=>exact⟨L,[],rfl,ae,ae,(eP L).symm,(fun z hz=>by cases hz),HS⟩
 case round=>
  clear HS;obtain⟨p,post,rfl,b7,bn,HP,HZ,HS⟩:=hrel;rcases List.eq_nil_or_concat p with hp|⟨S,⟨yp,yv,yb⟩,hp⟩
  ·subst hp
   have HE:Hid (Ss.ins (ltOf Sw.Cf) (f,D,R) L=[]++[(f,D,R)]++post):=by
    have h:=HP.out;show _=_;rw[h,jP,Ss.uz HZ.out];rfl
   go_wp2;go_ret;refine⟨g,c,rfl,?_,HS.out.2,HG.out⟩;rw[HE.out];exact HS.out.1
  ·rw[List.concat_eq_append] at hp
   subst hp;have a6:L=S+1+post.length:=by have h:=HP.out;rw[h];simp;omega
   have an:(S++[(yp,yv,yb)]).length=S+1:=ah;have a4:=MJ (S++[(yp,yv,yb)]) post (f,D,R);have a5:=MJ S ([(f,D,R)]++post) (yp,yv,yb);have e2:S++[(yp,yv,yb)]++([(f,D,R)]++post)=S++[(yp,yv,yb)]++[(f,D,R)]++post:=ah;rw[e2] at a5;rw[an] at a4;have c0:wr.cell? ⟨g,(S+1)*3,none⟩=f:=by rw[HS.out.1.cellAt _ ae];exact a4.1
   have c1:wr.cell? ⟨g,(S+1)*3+1,none⟩=D:=by rw[HS.out.1.cellAt _ ae];exact a4.2.1
   have c4:wr.cell? ⟨g,(S+1)*3+2,none⟩=R:=by rw[HS.out.1.cellAt _ ae];exact a4.2.2
   have c2:wr.cell? ⟨g,S*3,none⟩=yp:=by rw[HS.out.1.cellAt _ ae];exact a5.1
   have c3:wr.cell? ⟨g,S*3+1,none⟩=yv:=by rw[HS.out.1.cellAt _ ae];exact a5.2.1
   have c5:wr.cell? ⟨g,S*3+2,none⟩=yb:=by rw[HS.out.1.cellAt _ ae];exact a5.2.2
   have a1:=(HS.out.1.lt g rfl).2;have ka:Calls _ 89 #[.agg #[f,D],.agg #[yp,yv],_] wr.drew fun e w'=>e=(ltOf Sw.Cf (f,D,R) (yp,yv,yb))∧_:=AA _ _ true _
   have bk:(S:Int)+1-1=S:=ae;have bh:S<(L:Int)+1:=ae;have bi:S+1<(L:Int)+1:=ae;obtain⟨d,hd⟩:∃d,ltOf Sw.Cf (f,D,R) (yp,yv,yb)=d:=⟨_,rfl⟩;rw[hd] at ka;have HD:=zH hd;clear a4 a5 e2 hd;simp only[an] at*;generalize hm:S.length=m at*;have HM:=zH hm;clear hm;rw[show(_:Nat)=(m:Int)+1 from by omega];have bm:(0)<(m:Int)+1:=ae;go_upto_region 5 with fail;have b8:m<L:=ae;have b9:m≤L:=ae;have ba:m<(L:Int):=ae;have bb:m≤(L:Int):=ae;have bc:m<(L:Int)+1:=ae;have bd:m+1<(L:Int)+1:=ae;have bs:(0)≤(m:Int)+1:=ae;have bt:(0)≤(m:Int):=ae;have bv:m≤20000000:=ae;have b2:(m+1:Nat)<((L+1:Nat):Int):=ae;have b3:m+1<L+1:=ae;have b4:m<L+1:=ae;have Ud:=zH a6;clear a6;have bq:IntKind.i64.wrap m=m:=by simp[IntKind.wrap,IntKind.bits,IntKind.signed];omega
   clear b2 b3 b4
   go_region_held3 (fun w'=>w'.cell? (g,(m+1)*3)=f∧w'.cell? (g,(m+1)*3+1)=D∧w'.cell? (g,m*3)=yp∧w'.cell? (g,m*3+1)=yv∧w'.cell? (g,(m+1)*3+2)=some (.string R)∧w'.cell? (g,m*3+2)=some (.string yb)) (first|exact⟨c0,c1,c2,c3,c4,c5⟩|(refine⟨?_,?_,?_,?_,?_,?_⟩<;>assumption))
    (first|(go_at_call 89;refine ka.mono ?_;rintro e w2 ⟨rfl,hb⟩;have s0:=(hb.cell a1).trans c0;have s1:=(hb.cell a1).trans c1;have s2:=(hb.cell a1).trans c2;have s3:=(hb.cell a1).trans c3;have s4:=(hb.cell a1).trans c4;have s5:=(hb.cell a1).trans c5;have a8:=zH (((af wr wr).drew).trans hb);clear hb))
   have jl:=ar HS.out.1 (fun b e=>a8.out.block b (HS.out.1.lt b e).2);have T:Hid (w2.ownsRow B 199 3 _ _ (scs (S++[(yp,yv,yb)]++[(f,D,R)]++post))∧_):=⟨jl,HS.out.2.more a8.out⟩;clear jl HS a8 ka c0 c1 c2 c3 c4 c5;cases d
   ·have HE:Hid (Ss.ins (ltOf Sw.Cf) (f,D,R) L=S++[(yp,yv,yb)]++[(f,D,R)]++post):=by
     have h:=HP.out;show _=_;rw[h];exact Ss.BS HZ.out HD.out
    go_wp2;go_ret;refine⟨g,c,rfl,?_,T.out.2,HG.out⟩;rw[HE.out];exact T.out.1
   ·have f0:=T.out.1.frozenAt ((m+1)*3)
    have f1:=T.out.1.frozenAt ((m+1)*3+1);have f2:=T.out.1.frozenAt (m*3);have f3:=T.out.1.frozenAt (m*3+1);have f4:=T.out.1.frozenAt ((m+1)*3+2);have f5:=T.out.1.frozenAt (m*3+2);have b5:=(T.out.1.lt g rfl).2;have b6:g≠w2:=ae
    have a2:g<w→(Value.slice la L lc).ownBlock=g:=fun h=>by
     rcases HG.out with e|e
     ·exact e
     ·omega
    have b0:Hid (∀o,(((((((w2.setCell (g,(m+1)*3) (yp)).setCell (g,(m+1)*3+1) (yv)).setCell (g,(m+1)*3+2) (yb)).setCell (g,m*3) (f)).setCell (g,m*3+1) (D)).setCell (g,m*3+2) (R)).alloc o).ownsRow B 199 3 (.slice (some (g,0)) (L+1) c) (L+1) (scs (S++[(f,D,R)]++([(yp,yv,yb)]++post)))∧aj (fun b=>(Value.slice la L lc).ownBlock=some b) w (((((((w2.setCell (g,(m+1)*3) (yp)).setCell (g,(m+1)*3+1) (yv)).setCell (g,(m+1)*3+2) (yb)).setCell (g,m*3) (f)).setCell (g,m*3+1) (D)).setCell (g,m*3+2) (R)).alloc o)):=fun o=>by
     have h1:=(T.out.1.stored ((m+1)*3) (yp)).1;have h2:=(h1.stored ((m+1)*3+1) (yv)).1;have h3:=(h2.stored ((m+1)*3+2) (yb)).1;have h5:=(h3.stored (m*3) (f)).1;have h6:=(h5.stored (m*3+1) (D)).1;have h4:=(h6.stored (m*3+2) (R)).1;rw[MI S post _ _ m HM.out] at h4;exact⟨h4.alloc o,((((((T.out.2.set a2 _).set a2 _).set a2 _).set a2 _).set a2 _).set a2 _).alloc o⟩
    have b1:Hid (∀z∈[(yp,yv,yb)]++post,ltOf Sw.Cf (f,D,R) z=true):=fun z hz=>by
     rcases bT.1 hz with h|h
     ·have e:z=(yp,yv,yb):=by simpa using h
      rw[e];exact HD.out
     ·exact HZ.out z h
    have az:Hid (L=S++([(yp,yv,yb)]++post)):=by
     have h:=HP.out;show L=_;rw[h];simp
    go_wp2;go_roundg m
    case measure=>omega
    case rel=>exact⟨S,_,by rw[HM.out],by have:=HM.out;omega,by have:=HM.out;omega,az,b1,b0.out _⟩
end
section
open Go.RowKit Go.Sort Go.Shelf Go.Lib
namespace Mf
def Apart(J I G:zV):Prop:=∀b,(J.ownBlock=some b→I.ownBlock≠some b∧G.ownBlock≠some b)∧(I.ownBlock=some b→G.ownBlock≠some b)
theorem zJ(p:zA)J I G R X S w(hm:Dr.Ml w)(hR:R.length≤16777216)(hX:X.length≤16777216)(hS:S.length≤16777216)(hr:Sm.Rd w J R)(hx:Sm.Rd w I X)(hs:Sw.Rd w G S):
  zC 233 #[.agg #[p,J,I,G]] w fun e w'=>∃a7 a9 a8,e=.returned (.agg #[p,a7,a9,a8])∧w'.ownsRow w 68 2 a7 R ((reqs R).flatMap Sm.mc)∧w'.ownsRow w 68 2 a9 X ((gu X).flatMap Sm.mc)∧w'.ownsRow w 199 3 a8 S ((fL S).flatMap Sw.mc)∧Below w w w'∧Apart a7 a9 a8:=by
 obtain⟨ra,rn,rc,er⟩:=hr.shape;obtain⟨xa,xn,xc,ex⟩:=hx.shape;obtain⟨sa,sn,sc,es⟩:=hs.shape
 have KR:Aside (∀W,Below w.heap.size w W→zC 251 #[.slice ra rn rc,.func (.func 252) #[] #[]] W fun e w'=>∃v',e=.returned v'∧w'.ownsRow W 68 2 v' R ((reqs R).flatMap Sm.mc)∧Below W.heap.size W w'):=fun W hb=>by
  rw[←er];exact Sm.ik Sm.Sd J R W (Su.sF hm hb) hR (hr.below hb)
 have KX:Aside (∀W,Below w.heap.size w W→zC 251 #[.slice xa xn xc,.func (.func 239) #[] #[]] W fun e w'=>∃v',e=.returned v'∧w'.ownsRow W 68 2 v' X ((gu X).flatMap Sm.mc)∧Below W.heap.size W w'):=fun W hb=>by
  rw[←ex];exact Sm.ik Sm.Se I X W (Su.sF hm hb) hX (hx.below hb)
 have KS:Aside (∀W,Below w.heap.size w W→zC 253 #[.slice sa sn sc,.func (.func 254) #[] #[]] W fun e w'=>∃v',e=.returned v'∧w'.ownsRow W 199 3 v' S ((fL S).flatMap Sw.mc)∧Below W.heap.size W w'):=fun W hb=>by
  rw[←es];exact Sw.ik Sw.Sg G S W (Su.sF hm hb) hS (hs.below hb)
 clear hr hx hs hm;subst er;subst ex;subst es;have I0:Aside (InM w p (.slice ra rn rc) (.slice xa xn xc) (.slice sa sn sc) _):=InM.start w p _ _ _;go_enter func233,ntmps233
 go_wp2_with (go_at_call 251;fail)
 go_at_call 251;refine(KR.out _ I0.out.b).mono ?_;rintro e w1 ⟨v1,rfl,o1,b1⟩;obtain⟨a4,a6,a5,e1⟩:=jL o1;subst e1;have I1:Aside (InM w p (.slice a4 a6 a5) _ _ _):=(I0.out.call b1).r _;have O1:Aside ((w1.setCell (w,1) (.slice a4 a6 a5)).ownsRow (w+2) 68 2 _ _ _):=cG (cF o1 ah) _ ah;obtain⟨⟨z0,z1,z2,z3⟩,y0,y1,y2,y3⟩:=(I0.out.call b1).cells;obtain⟨⟨u0,u1,u2,u3⟩,_⟩:=I1.out.cells;have A1:Aside _:=fun b e=>(o1.lt b e).2
 have ak:Aside ((w1.setCell (w.heap.size,1) (.slice a4 a6 a5))=w1.heap.size):=by show _=_;simp[World.setCell]
 clear I0 o1 b1 KR
 go_wp2_with (go_at_call 251;fail)
 go_at_call 251;refine(KX.out _ I1.out.b).mono ?_;rintro e w2 ⟨v2,rfl,o2,b2⟩;obtain⟨a1,a3,a2,e2⟩:=jL o2;subst e2;have I2:Aside (InM w p _ (.slice a1 a3 a2) _ _):=(I1.out.call b2).x _;have O2:Aside ((w2.setCell (w,2) (.slice a1 a3 a2)).ownsRow (w+2) 68 2 _ _ _):=cG (cF o2 (by have:=I1.out.sz;exact this)) _ ah;have ab:Aside ((w2.setCell (w,2) (.slice a1 a3 a2)).ownsRow _ 68 2 _ _ _):=cG (own_below O1.out b2) _ ah;obtain⟨⟨t0,t1,t2,t3⟩,s0,s1,s2,s3⟩:=(I1.out.call b2).cells;obtain⟨⟨q0,q1,q2,q3⟩,_⟩:=I2.out.cells;have A2:Aside (∀b,_→w1.heap.size≤b∧_):=fun b e=>⟨by have h:=(o2.lt b e).1;simp_all,(o2.lt b e).2⟩
 have aa:Aside ((w2.setCell (w.heap.size,2) (.slice a1 a3 a2))=w2.heap.size∧w1≤w2.heap.size):=⟨ah,by have h:=b2.size;simp_all⟩;clear I1 o2 b2 KX O1 z0 z1 z2 z3 y0 y1 y2 y3 u0 u1 u2 u3
 go_wp2_with (go_at_call 253;fail)
 go_at_call 253;refine(KS.out _ I2.out.b).mono ?_;rintro e w3 ⟨v3,rfl,o3,b3⟩;obtain⟨D,a0,T,e3⟩:=jL o3;subst e3;have I3:Aside (InM w p _ _ (.slice D a0 T) _):=(I2.out.call b3).s _;have O3:Aside ((w3.setCell (w,3) (.slice D a0 T)).ownsRow (w+2) 199 3 _ _ _):=cG (cF o3 (by have:=I2.out.sz;exact this)) _ ah;have ad:Aside ((w3.setCell (w,3) (.slice D a0 T)).ownsRow _ 68 2 _ _ _):=cG (own_below O2.out b3) _ ah;have O1:Aside ((w3.setCell (w,3) (.slice D a0 T)).ownsRow _ 68 2 _ _ _):=cG (own_below ab.out b3) _ ah;obtain⟨⟨z0,z1,z2,z3⟩,y0,y1,y2,y3⟩:=(I2.out.call b3).cells;obtain⟨⟨u0,u1,u2,u3⟩,_⟩:=I3.out.cells;obtain⟨⟨g0,g1,g2,g3⟩,f0,f1,f2,f3⟩:=I3.out.outs;have HO:=zH (fun a b c d=>I3.out.whole a b c d);have HB:=zH I3.out.b
 have A3:Aside (Apart (.slice a4 a6 a5) (.slice a1 a3 a2) (.slice D a0 T)):=fun b=>by
  have h3:=fun e=>by have h:=(o3.lt b e).1;rw[aa.out.1] at h;exact h
  have h4:=aa.out.2;refine⟨fun e=>⟨fun e2=>?_,fun e2=>?_⟩,fun e e2=>?_⟩
  ·have:=A1.out b e;have:=(A2.out b e2).1;omega
  ·have:=A1.out b e;grind
  ·have:=(A2.out b e).2;grind
 clear I2 I3 o3 b3 KS ab O2 t0 t1 t2 t3 s0 s1 s2 s3 q0 q1 q2 q3;generalize hW:w3.setCell ⟨w.heap.size,3,none⟩ (.slice D a0 T)=W at*;have f:w+1<w.heap.size+2:=ae
 have HF:Hid (∀a b c d,((((W.setCell ⟨w+1,0,none⟩ a).setCell ⟨w+1,1,none⟩ b).setCell ⟨w+1,2,none⟩ c).setCell ⟨w+1,3,none⟩ d).ownsRow w 68 2 (.slice a4 a6 a5) R _∧((((W.setCell ⟨w+1,0,none⟩ a).setCell ⟨w+1,1,none⟩ b).setCell ⟨w+1,2,none⟩ c).setCell ⟨w+1,3,none⟩ d).ownsRow w 68 2 (.slice a1 a3 a2) X _∧((((W.setCell ⟨w+1,0,none⟩ a).setCell ⟨w+1,1,none⟩ b).setCell ⟨w+1,2,none⟩ c).setCell ⟨w+1,3,none⟩ d).ownsRow w 199 3 _ S _∧Below w.heap.size w ((((W.setCell ⟨w+1,0,none⟩ a).setCell ⟨w+1,1,none⟩ b).setCell ⟨w+1,2,none⟩ c).setCell ⟨w+1,3,none⟩ d)):=fun a b c d=>
  ⟨cF (cG (cG (cG (cG O1.out _ f) _ f) _ f) _ f) ae,cF (cG (cG (cG (cG ad.out _ f) _ f) _ f) _ f) ae,cF (cG (cG (cG (cG O3.out _ f) _ f) _ f) _ f) ae,(((HB.out.setCell ah _).setCell ah _).setCell ah _).setCell ah _⟩
 clear O1 ad O3 HB f;go_wp2;refine aL (bz results233 _ _ _ 195 _ _ _ rfl (HO.out _ _ _ _) underlying195 rfl aB) rfl ?_;exact⟨_,_,_,rfl,(HF.out _ _ _ _).1,(HF.out _ _ _ _).2.1,(HF.out _ _ _ _).2.2.1,(HF.out _ _ _ _).2.2.2,A3.out⟩
end Mf
end
section
open Go.RowKit
theorem iM(w:zW)(B e s:Nat):w.ownsRow B e s (zN) 0 []:=⟨ah,Or.inl ⟨rfl,rfl⟩⟩
