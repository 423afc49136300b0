import Derived.Test.YtooabooekgphpaaGreatDoorKCA
set_option linter.all false
open Go.Proofs.Tryz
set_option maxRecDepth 1000000
set_option maxHeartbeats 4000000
namespace Go.Proofs.YtooabooekgphpaaGreatDoor
section
open Go.RowKit Go.Sort Go.Shelf Go.Lib
namespace Su
abbrev Ty(P:Program)(t:TypeId)(d:TypeDesc):Prop:=P.underlying t=some d/\(∀w,(isAgg t).run P w=.ok false w)/\∀w,(Go.sizeOf t).run P w=.ok 1 w
abbrev El(P:Program)(Q:Nat)(e s f:TypeId):Prop:=(∀w,(isAgg e).run P w=.ok true w)/\(∀w,(Go.sizeOf e).run P w=.ok Q w)/\Ty P s (.slice e)/\Ty P f (.func #[e,e] #[3] false)
abbrev Ent(P:Program)(f:Nat):Prop:=∀args w,(callFunc f args).run P w=.ok (.enter f args) w
def Ly(P:Program)(Q D B E ins U O:Nat):Prop:=
 (Ent P D/\Ent P B/\Ent P E/\Ent P ins/\Ent P U/\P.follows Departure.mixedOrders=true/\Ty P 3 (.int .i64)/\Ty P 4 .bool/\Ty P 135 (.int .u64))/\
 ((D=268/\B=264/\E=255/\ins=230/\U=243/\O=215/\El P Q 63 30 265/\P.funcs[268]?=some f268/\P.funcs[264]?=some f264/\P.funcs[255]?=some f255/\P.funcs[243]?=some f243/\P.funcs[215]?=some f215)\/
  (D=269/\B=265/\E=257/\ins=256/\U=244/\O=217/\El P Q 257 204 289/\P.funcs[269]?=some f269/\P.funcs[265]?=some f265/\P.funcs[257]?=some f257/\P.funcs[244]?=some f244/\P.funcs[217]?=some f217))
theorem ly2:Ly prog 2 268 264 255 230 243 215:=⟨⟨fun _ _=>by kernel_rfl,fun _ _=>by kernel_rfl,fun _ _=>by kernel_rfl,fun _ _=>by kernel_rfl,fun _ _=>by kernel_rfl,by kernel_rfl,⟨underlying3,isAgg3,sizeOf3⟩,⟨underlying4,isAgg4,sizeOf4⟩,underlying135,isAgg135,sizeOf135⟩,Or.inl ⟨rfl,rfl,rfl,rfl,rfl,rfl,⟨isAgg63,sizeOf63,⟨underlying30,isAgg30,sizeOf30⟩,underlying265,isAgg265,sizeOf265⟩,func268,func264,func255,func243,func215⟩⟩
theorem ly3:Ly prog 3 269 265 257 256 244 217:=⟨⟨fun _ _=>by kernel_rfl,fun _ _=>by kernel_rfl,fun _ _=>by kernel_rfl,fun _ _=>by kernel_rfl,fun _ _=>by kernel_rfl,ly2.1.2.2.2.2.2⟩,Or.inr ⟨rfl,rfl,rfl,rfl,rfl,rfl,⟨isAgg257,sizeOf257,⟨underlying204,isAgg204,sizeOf204⟩,underlying289,isAgg289,sizeOf289⟩,func269,func265,func257,func244,func217⟩⟩
theorem nt2:f264.ntmps=58/\f265.ntmps=58:=⟨ntmps264,ntmps265⟩
theorem nt1:f268.ntmps=38/\f269.ntmps=38:=⟨ntmps268,ntmps269⟩
variable{P:Program}{α:Type}[Inhabited α]{enc:α->List zV}{Q D B E ins U O:Nat}(L:Ly P Q D B E ins U O)
include L
theorem lx(g:Nat)(V:Array zV)(G off cap a b n:Nat)(d0 d:Array α)(Z w:zW)(R:RowK enc Q Z G off d0)(hs:d0.size=d.size)(S:SWK enc Q Z G off d w)
  (a5:a+n<=b\/b+n<=a) (ha:a+n<=d.size) (hb:b+n<=d.size) (a8:d.size<4611686018427387904):
  Calls P D #[.slice (some ⟨G,off,none⟩) d.size cap,zI a,zI b,zI n,.func (.func g) #[] V] w fun e w'=>e=.returned (.tuple #[])/\∃d',Ss.qH a b n d d'/\SWK enc Q Z G off d' w':=by
 have S0:Aside (SWK enc Q Z G off d w):=S;clear S;obtain⟨⟨e1,e2,e3,e4,e5,a1,⟨t3,a3,z3⟩,⟨t4,a4,z4⟩,He,Hf,Hg⟩,L⟩:=L;rcases L with⟨rfl,rfl,rfl,rfl,rfl,rfl,⟨aE,zE,⟨tS,aS,zS⟩,tF,aF,zF⟩,f1,f2,f3,f4,f5⟩|⟨rfl,rfl,rfl,rfl,rfl,rfl,⟨aE,zE,⟨tS,aS,zS⟩,tF,aF,zF⟩,f1,f2,f3,f4,f5⟩
 all_goals
  go_enter f1,nt1;go_wp2;go_loopg [10] n (fun kx a2 wr=>∃(i:Nat)(F:Array α),a2=zI i/\i<=n/\n-i<=kx/\Hid (Ss.qH a b i d F)/\F.size=d.size/\Aside (SWK enc Q Z G off F wr))
  case atStart=>exact⟨0,d,rfl,by omega,by omega,Ss.qH.zero a b d,rfl,S0⟩
  case round=>
   clear S0;obtain⟨i,F,rfl,hi,a6,W,a0,I⟩:=hrel;by_cases a7:i<n
   ·have ij:(i:Int)<(n:Int):=by omega
    have wa:IntKind.i64.wrap ((a:Int)+(i:Int))=(a:Int)+(i:Int):=by rw[IntKind.wrap_i64];omega
    have wb:IntKind.i64.wrap ((b:Int)+(i:Int))=(b:Int)+(i:Int):=by rw[IntKind.wrap_i64];omega
    have ea:((a:Int)+(i:Int)).toNat=a+i:=by omega
    have eb:((b:Int)+(i:Int)).toNat=b+i:=by omega
    have pa:(0:Int)<=(a:Int)+(i:Int):=by omega
    have pb:(0:Int)<=(b:Int)+(i:Int):=by omega
    have ba:(a:Int)+(i:Int)<(d.size:Int):=by omega
    have bb:(b:Int)+(i:Int)<(d.size:Int):=by omega
    have M:Aside _:=I.out.swapped R (a+i) (b+i) (by omega) (by omega);have la:=I.out.ld1 R (by omega) P (a+i) (by omega);have lb:=I.out.ld1 R (by omega) P (b+i) (by omega);have sa:=I.out.st1 R (by omega) P (a+i) (by omega) F[b+i]!;have sb:=I.out.st2 R (by omega) P (a+i) (b+i) (by omega) (by omega) F[b+i]! F[a+i]!;have na:=R.hk F[a+i]!;have nb:=R.hk F[b+i]!;have Y:Hid (Ss.qH a b (i+1) d (swp F (a+i) (b+i))):=W.out.step (by omega) (by omega) (by omega);generalize enc F[a+i]! =cI at M la sb na;generalize enc F[b+i]! =cJ at M lb sa sb nb;clear I W
    go_wp2_with fail
    go_big_region_o
    clear la lb sa sb;generalize (wr.drew.setCells G _ cJ).setCells G _ cI=w2 at M ⊢;go_wp2;go_roundg (n-(i+1))
    case measure=>omega
    case rel=>exact⟨i+1,_,by go_num,by omega,af _,Y,by rw[swp_size];exact a0,M⟩
   ·have ij:¬((i:Int)<(n:Int)):=by omega
    obtain rfl:i=n:=by omega
    go_wp2
    go_end0
    exact⟨rfl,F,W.out,I.out⟩
theorem EP(g:Nat)(V:Array zV)(G off cap a m b:Nat)(d0 d:Array α)(Z w:zW)(R:RowK enc Q Z G off d0)(hs:d0.size=d.size)(S:SWK enc Q Z G off d w)
  (au:a<m) (az:m<b) (hb:b<=d.size) (b0:d.size<4611686018427387904):
  Calls P B #[.slice (some ⟨G,off,none⟩) d.size cap,zI a,zI m,zI b,.func (.func g) #[] V] w fun e w'=>e=.returned (.tuple #[])/\∃d',Ss.Rot a m b d d'/\SWK enc Q Z G off d' w':=by
 have L0:Aside (Ly P Q D B E ins U O):=L;have S0:Aside (SWK enc Q Z G off d w):=S;clear S;have a8:IntKind.i64.wrap ((m:Int)-(a:Int))=((m-a:Nat):Int):=by rw[IntKind.wrap_i64];omega
 have a9:IntKind.i64.wrap ((b:Int)-(m:Int))=((b-m:Nat):Int):=by rw[IntKind.wrap_i64];omega
 obtain⟨i0,a1⟩:∃i0,i0=m-a:=⟨_,rfl⟩;obtain⟨j0,a5⟩:∃j0,j0=b-m:=⟨_,rfl⟩;rw[<-a1] at a8;rw[<-a5] at a9
 have a7:Hid (∀f,Ss.Rot (m-i0) m (m+j0) d f->Ss.Rot a m b d f):=fun f h=>by
  have e1:m-i0=a:=by omega
  have F:m+j0=b:=by omega
  rw[e1,F] at h;exact h
 have I:Hid (i0=m-a/\j0=b-m):=⟨a1,a5⟩;clear a1 a5;obtain⟨⟨e1,F,e3,e4,e5,ak,⟨t3,a3,z3⟩,⟨t4,a4,z4⟩,He,Hf,Hg⟩,L⟩:=L;rcases L with⟨rfl,rfl,rfl,rfl,rfl,rfl,⟨aE,zE,⟨tS,aS,zS⟩,tF,aF,zF⟩,f1,f2,f3,f4,f5⟩|⟨rfl,rfl,rfl,rfl,rfl,rfl,⟨aE,zE,⟨tS,aS,zS⟩,tF,aF,zF⟩,f1,f2,f3,f4,f5⟩
 all_goals
  go_enter f2,nt2;go_wp2;go_loopg [10,11] (b+b) (fun kx an aq wr=>∃(i j:Nat)(e:Array α),an=zI i/\aq=zI j/\0<i/\0<j/\i<=m/\m+j<=b/\i+j<=kx/\Hid (∀f,Ss.Rot (m-i) m (m+j) e f->Ss.Rot a m b d f)/\e.size=d.size/\Aside (SWK enc Q Z G off e wr))
  case atStart=>exact⟨i0,j0,d,rfl,rfl,by have:=I.out;omega,by have:=I.out;omega,by have:=I.out;omega,by have:=I.out;omega,by have:=I.out;omega,a7,rfl,S0⟩
  case round=>
   clear S0 a7 I a8 a9;obtain⟨i,j,e,rfl,rfl,hi,hj,a0,ab,av,HQ,W,S1⟩:=hrel;obtain⟨u,hu⟩:∃u,u=m-i:=⟨_,rfl⟩;have wu:IntKind.i64.wrap ((m:Int)-(i:Int))=(u:Int):=by rw[IntKind.wrap_i64];omega
   have HU:=zH hu;by_cases M:i=j
   ·have hq:((i:Int) !=(j:Int))=false:=by rw[M];simp
    have ad:((i:Int)==(j:Int))=true:=by rw[M];simp
    have Y:=lx L0.out g V G off cap u m i d0 e Z wr R (by omega) S1.out (by omega) (by omega) (by omega) (by omega);rw[W] at Y
    have HF:Hid (∀f,Ss.qH u m i e f->Ss.Rot a m b d f):=fun f h=>HQ.out f (by
     rw[hu] at h;have h1:=Ss.J4 a0 h;rw[<-M];exact h1)
    clear S1 HQ M hu
    go_wp2_with fail
    first|go_at_call 268|go_at_call 269
    refine Y.mono ?_;rintro en w2 ⟨rfl,d2,h2,S2⟩;have HX:Hid (Ss.Rot a m b d d2/\SWK enc Q Z G off d2 w2):=⟨HF.out d2 h2,S2⟩;clear Y h2 S2 HF;go_wp2
    go_end0
    exact⟨rfl,d2,HX.out⟩
   ·have hq:((i:Int) !=(j:Int))=true:=by simp;omega
    have ad:((i:Int)==(j:Int))=false:=by rw[eI];omega
    by_cases aa:j<i
    ·have R5:(i:Int)>(j:Int):=by omega
     obtain⟨i2,a2⟩:∃i2,i2=i-j:=⟨_,rfl⟩;have w2:IntKind.i64.wrap ((i:Int)-(j:Int))=(i2:Int):=by rw[IntKind.wrap_i64];omega
     have Y:=lx L0.out g V G off cap u m j d0 e Z wr R (by omega) S1.out (by omega) (by omega) (by omega) (by omega);rw[W] at Y
     have HF:Hid (∀F,Ss.qH u m j e F->F.size=d.size/\∀f,Ss.Rot (m-i2) m (m+j) F f->Ss.Rot a m b d f):=fun F h=>⟨h.1.trans W,fun f hr=>HQ.out f (by
      rw[hu] at h;rw[a2] at hr;exact Ss.J5 a0 aa h hr)⟩
     have H2:=zH a2;clear S1 HQ M hu a2
     go_wp2_with fail
     first|go_at_call 268|go_at_call 269
     refine Y.mono ?_;rintro en w3 ⟨rfl,F,h2,S2⟩;have HX:=zH (HF.out F h2);have S3:Aside (SWK enc Q Z G off F w3):=S2;clear Y h2 S2 HF;go_wp2;go_roundg (i2+j)
     case measure=>have:=H2.out;omega
     case rel=>exact⟨i2,j,F,rfl,rfl,by have:=H2.out;omega,hj,by have:=H2.out;omega,ab,af _,HX.out.2,HX.out.1,S3⟩
    ·have R5:¬((i:Int)>(j:Int)):=by omega
     have R6:i<j:=by omega
     obtain⟨j2,a6⟩:∃j2,j2=j-i:=⟨_,rfl⟩;obtain⟨v,hv⟩:∃v,v=m+j-i:=⟨_,rfl⟩;have w2:IntKind.i64.wrap ((j:Int)-(i:Int))=(j2:Int):=by rw[IntKind.wrap_i64];omega
     have w3:IntKind.i64.wrap ((m:Int)+(j:Int))=(m:Int)+(j:Int):=by rw[IntKind.wrap_i64];omega
     have w4:IntKind.i64.wrap ((m:Int)+(j:Int)-(i:Int))=(v:Int):=by rw[IntKind.wrap_i64];omega
     have Y:=lx L0.out g V G off cap u v i d0 e Z wr R (by omega) S1.out (by omega) (by omega) (by omega) (by omega);rw[W] at Y
     have HF:Hid (∀F,Ss.qH u v i e F->F.size=d.size/\∀f,Ss.Rot (m-i) m (m+j2) F f->Ss.Rot a m b d f):=fun F h=>⟨h.1.trans W,fun f hr=>HQ.out f (by
      rw[hu,hv] at h;rw[a6] at hr;exact Ss.Ha a0 R6 h hr)⟩
     have H2:=zH a6;clear S1 HQ M hu a6 hv
     go_wp2_with fail
     first|go_at_call 268|go_at_call 269
     refine Y.mono ?_;rintro en wx ⟨rfl,F,h2,S2⟩;have HX:=zH (HF.out F h2);have S3:Aside (SWK enc Q Z G off F wx):=S2;clear Y h2 S2 HF;go_wp2;go_roundg (i+j2)
     case measure=>have:=H2.out;omega
     case rel=>exact⟨i,j2,F,rfl,rfl,hi,by have:=H2.out;omega,a0,by have:=H2.out;omega,af _,HX.out.2,HX.out.1,S3⟩
end Su
end
section
open Go.RowKit Go.Sort Go.Shelf Go.Lib
namespace Su
structure Told(P:Program){α:Type}[Inhabited α](enc:α->List zV)(Q g:Nat)(V:Array zV)(J:α->α->Int)(G off:Nat)(d0:Array α)(Z:World):Prop where
 R:RowK enc Q Z G off d0
 eg:∀args w,(callFunc g args).run P w=.ok (.enter g args) w
 cmp:CmpLays P g V enc Q J G off d0.size Z
 swo:SWO (ltOf J)
 sz:d0.size<4611686018427387904
variable{P:Program}{α:Type}[Inhabited α]{enc:α->List zV}{Q D B E ins U O:Nat}{g:Nat}{V:Array zV}{J:α->α->Int}{G off:Nat}{d0:Array α}{Z:zW}{tag:α->Nat}
abbrev qK(P:Program){α:Type}[Inhabited α](enc:α->List zV)(tag:α->Nat)(Q E g:Nat)(V:Array zV)(J:α->α->Int)(G off cap:Nat)(Z:zW)(size a m b:Nat)(d:Array α)(w:zW):Prop:=
 Calls P E #[.slice (some ⟨G,off,none⟩) size cap,zI a,zI m,zI b,.func (.func g) #[] V] w fun e w'=>e=.returned (.tuple #[])/\∃d',Ss.eD (ltOf J) tag a b d d'/\SWK enc Q Z G off d' w'
theorem nt3:f255.ntmps=220/\f257.ntmps=220:=⟨ntmps255,ntmps257⟩
section
variable(L:Ly P Q D B E ins U O)(T:Told P enc Q g V J G off d0 Z)
include L T
theorem Nf(cap a m b:Nat)(d:Array α)(w:zW)(hs:d.size=d0.size)(S:SWK enc Q Z G off d w)(hm:m=a+1)(b6:m<b)(hb:b<=d.size)(hP:Ss.gC (ltOf J) tag a m b d):
  qK P enc tag Q E g V J G off cap Z d.size a m b d w:=by
 have b7:d.size<4611686018427387904:=by have:=T.sz;omega
 have eg:=T.eg;have HS:=zH hs;have S0:Aside (SWK enc Q Z G off d w):=S;have F:Aside (Told P enc Q g V J G off d0 Z):=T;have HP:Aside (Ss.gC (ltOf J) tag a m b d):=hP;have HM:=zH hm;have wm:IntKind.i64.wrap ((m:Int)-(a:Int))=1:=by rw[IntKind.wrap_i64];omega
 have b5:a<m:=by omega
 have az:(a:Int)<(d.size:Int):=by omega
 clear S T hP hm hs;obtain⟨⟨e1,e2,e3,e4,e5,ak,⟨t3,a3,z3⟩,⟨t4,a4,z4⟩,He,Hf,Hg⟩,L⟩:=L;rcases L with⟨rfl,rfl,rfl,rfl,rfl,rfl,⟨aE,zE,⟨tS,aS,zS⟩,tF,aF,zF⟩,f1,f2,f3,f4,f5⟩|⟨rfl,rfl,rfl,rfl,rfl,rfl,⟨aE,zE,⟨tS,aS,zS⟩,tF,aF,zF⟩,f1,f2,f3,f4,f5⟩
 all_goals
  go_enter f3,nt3;go_wp2;go_loopg [10,11] b (fun kx an aq wr=>∃(i j:Nat),an=zI i/\aq=zI j/\m<=i/\i<=j/\j<=b/\j-i<=kx/\Aside (SWK enc Q Z G off d wr)/\Aside ((∀x,m<=x->x<i->ltOf J d[x]! d[a]! =true)/\∀x,j<=x->x<b->ltOf J d[x]! d[a]! =false))
  case atStart=>exact⟨m,b,rfl,rfl,af _,by omega,af _,by omega,S0,(⟨fun x h1 h2=>by omega,fun x h1 h2=>by omega⟩:(∀x,m<=x->x<m->ltOf J d[x]! d[a]! =true)/\∀x,b<=x->x<b->ltOf J d[x]! d[a]! =false)⟩
  case round=>
   clear S0;obtain⟨i,j,rfl,rfl,ad,b1,a5,b3,W,I⟩:=hrel;by_cases b4:i<j
   ·have ij:(i:Int)<(j:Int):=by omega
    obtain⟨h,hh⟩:∃h,h=(i+j)/2:=⟨_,rfl⟩;have eh:((i:Int)+(j:Int))/2=(h:Int):=by omega
    have bh:(h:Int)<(d.size:Int):=by omega
    have r1:i<=h/\h<j:=by omega
    have HH:=zH r1;have x0:=W.out.ld F.out.R HS.out P h (by omega);have y0:=W.out.ld F.out.R HS.out P a (by omega);have a0:=W.out.cmp F.out.cmp HS.out d[h]! d[a]!
    have HI:Aside (∀v:Int,v=J d[h]! d[a]!->(v<0->(∀x,m<=x->x<h+1->ltOf J d[x]! d[a]! =true))/\(¬v<0->∀x,h<=x->x<b->ltOf J d[x]! d[a]! =false)):=fun v hv=>⟨fun hl x h1 h2=>by
      have k1:ltOf J d[h]! d[a]! =true:=bj (by rw[<-hv];exact hl);have k2:=Ss.le2 HP.out (i:=x) (j:=h) h1 (by omega) (by omega) F.out.swo;exact Ss.fS F.out.swo k2 k1,fun hl x h1 h2=>by
      have k1:ltOf J d[h]! d[a]! =false:=aQ (by rw[<-hv];exact hl);have k2:=Ss.le2 HP.out (i:=h) (j:=x) (by omega) h1 h2 F.out.swo;exact F.out.swo.ntrans _ _ _ k2 k1⟩
    generalize d[h]! =X at*;generalize d[a]! =Y at*;generalize a9:J X Y=cv at*;clear hh r1 a9;by_cases a6:cv<0
    ·have I2:Aside ((∀x,m<=x->x<h+1->ltOf J d[x]! Y=true)/\∀x,j<=x->x<b->ltOf J d[x]! Y=false):=⟨(HI.out cv rfl).1 a6,I.out.2⟩
     clear HI I
     go_wp2_with fail
     go_quiet_grown (first|(go_at_fn g;refine Calls.grown_of (a0 _ _)))
     have M:Aside (SWK enc Q Z G off d (grow (wr.drewN nq) osq)):=W.out.grown nq osq;clear W x0 y0 a0;generalize grow (wr.drewN nq) osq=w2 at M ⊢;go_wp2;go_roundg (j-(h+1))
     case measure=>have:=HH.out;omega
     case rel=>exact⟨h+1,j,by go_num,rfl,by have:=HH.out;omega,by have:=HH.out;omega,a5,af _,M,I2⟩
    ·have I2:Aside ((∀x,m<=x->x<i->ltOf J d[x]! Y=true)/\∀x,h<=x->x<b->ltOf J d[x]! Y=false):=⟨I.out.1,(HI.out cv rfl).2 a6⟩
     clear HI I
     go_wp2_with fail
     go_quiet_grown (first|(go_at_fn g;refine Calls.grown_of (a0 _ _)))
     have M:Aside (SWK enc Q Z G off d (grow (wr.drewN nq) osq)):=W.out.grown nq osq;clear W x0 y0 a0;generalize grow (wr.drewN nq) osq=w2 at M ⊢;go_wp2;go_roundg (h-i)
     case measure=>have:=HH.out;omega
     case rel=>exact⟨i,h,rfl,rfl,ad,by have:=HH.out;omega,by have:=HH.out;omega,af _,M,I2⟩
   ·have ij:¬((i:Int)<(j:Int)):=by omega
    obtain rfl:i=j:=by omega
    have wi:IntKind.i64.wrap ((i:Int)-1)=(i:Int)-1:=by rw[IntKind.wrap_i64];omega
    have a2:=zH (Ss.ou a (a+1) d);have a1:Hid (a+1<=i):=by have:=HM.out;show a+1<=i;omega
    go_wp2;go_loopg [13] i (fun kx au av=>∃(k:Nat)(e:Array α),au=zI k/\a<=k/\k+1<=i/\i-k<=kx/\e.size=d.size/\Aside (SWK enc Q Z G off e av)/\Hid (Ss.Rot a (a+1) (k+1) d e))
    case atStart=>exact⟨a,d,rfl,af _,a1.out,by omega,rfl,W,a2⟩
    case round=>
     clear W a2;obtain⟨k,e,rfl,a8,b2,R7,aa,M,HR⟩:=hrel;by_cases hk:k+1<i
     ·have ab:(k:Int)<(i:Int)-1:=by omega
      have bk:(k:Int)<(d.size:Int):=by omega
      have b0:(k:Int)+1<(d.size:Int):=by omega
      have hq:=HS.out;have S4:Aside _:=M.out.swapped F.out.R k (k+1) (by omega) (by omega);have la:=M.out.ld1 F.out.R (by omega) P k (by omega);have lb:=M.out.ld1 F.out.R (by omega) P (k+1) (by omega);have sa:=M.out.st1 F.out.R (by omega) P k (by omega) e[k+1]!;have sb:=M.out.st2 F.out.R (by omega) P k (k+1) (by omega) (by omega) e[k+1]! e[k]!;have na:=F.out.R.hk e[k]!;have nb:=F.out.R.hk e[k+1]!;have a7:Hid (Ss.Rot a (a+1) (k+2) d (swp e k (k+1))):=Ss.Pg HR.out a8 (by omega);generalize enc e[k]! =cI at S4 la sb na;generalize enc e[k+1]! =cJ at S4 lb sa sb nb;clear M HR hq
      go_wp2_with fail
      go_big_region_o
      clear la lb sa sb;generalize (wr.drew.setCells G _ cJ).setCells G _ cI=w2 at S4 ⊢;go_wp2;go_roundg (i-(k+1))
      case measure=>omega
      case rel=>exact⟨k+1,swp e k (k+1),by go_num,by omega,by omega,af _,by rw[swp_size];exact aa,S4,a7⟩
     ·have ab:¬((k:Int)<(i:Int)-1):=by omega
      have HF:Hid (Ss.eD (ltOf J) tag a b d e):=by
       have e1:k+1=i:=by omega
       have h1:=HR.out;rw[e1] at h1;have h2:=HP.out;have h3:=I.out;rw[HM.out] at h2 h3;exact Ss.M7 F.out.swo h2 h1 a1.out a5 hb h3.1 h3.2
      clear HR;go_wp2;refine aI (results_none rfl _ _ _) rfl ?_;exact⟨rfl,e,HF.out,M.out⟩
theorem Kc(cap a m b:Nat)(d:Array α)(w:zW)(hs:d.size=d0.size)(S:SWK enc Q Z G off d w)(hm:a+1<m)(a6:b=m+1)(hb:b<=d.size)(hP:Ss.gC (ltOf J) tag a m b d):
  qK P enc tag Q E g V J G off cap Z d.size a m b d w:=by
 have b8:d.size<4611686018427387904:=by have:=T.sz;omega
 have eg:=T.eg;have HS:=zH hs;have S0:Aside (SWK enc Q Z G off d w):=S;have M:Aside (Told P enc Q g V J G off d0 Z):=T;have HP:Aside (Ss.gC (ltOf J) tag a m b d):=hP;have HM:=zH a6;obtain⟨u,hu⟩:∃u,u=m-a:=⟨_,rfl⟩;have wm:IntKind.i64.wrap ((m:Int)-(a:Int))=(u:Int):=by rw[IntKind.wrap_i64];omega
 have wq:((u:Int)==1)=false:=by rw[eI];omega
 have wn:IntKind.i64.wrap ((b:Int)-(m:Int))=1:=by rw[IntKind.wrap_i64];omega
 have b1:(m:Int)<(d.size:Int):=by omega
 have ak:m<d.size:=by omega
 clear S T hP a6 hs hu;obtain⟨⟨e1,e2,e3,e4,e5,an,⟨t3,a3,z3⟩,⟨t4,a4,z4⟩,He,Hf,Hg⟩,L⟩:=L;rcases L with⟨rfl,rfl,rfl,rfl,rfl,rfl,⟨aE,zE,⟨tS,aS,zS⟩,tF,aF,zF⟩,f1,f2,f3,f4,f5⟩|⟨rfl,rfl,rfl,rfl,rfl,rfl,⟨aE,zE,⟨tS,aS,zS⟩,tF,aF,zF⟩,f1,f2,f3,f4,f5⟩
 all_goals
  go_enter f3,nt3;go_wp2;go_loopg [14,15] m (fun kx aq au wr=>∃(i j:Nat),aq=zI i/\au=zI j/\a<=i/\i<=j/\j<=m/\j-i<=kx/\Aside (SWK enc Q Z G off d wr)/\Aside ((∀x,a<=x->x<i->ltOf J d[m]! d[x]! =false)/\∀x,j<=x->x<m->ltOf J d[m]! d[x]! =true))
  case atStart=>exact⟨a,m,rfl,rfl,af _,by omega,af _,by omega,S0,(⟨fun x h1 h2=>by omega,fun x h1 h2=>by omega⟩:(∀x,a<=x->x<a->ltOf J d[m]! d[x]! =false)/\∀x,m<=x->x<m->ltOf J d[m]! d[x]! =true)⟩
  case round=>
   clear S0;obtain⟨i,j,rfl,rfl,a7,b4,a2,b6,S1,I⟩:=hrel;by_cases b7:i<j
   ·have ij:(i:Int)<(j:Int):=by omega
    obtain⟨h,hh⟩:∃h,h=(i+j)/2:=⟨_,rfl⟩;have eh:((i:Int)+(j:Int))/2=(h:Int):=by omega
    have bh:(h:Int)<(d.size:Int):=by omega
    have r1:i<=h/\h<j:=by omega
    have HH:=zH r1;have x0:=S1.out.ld M.out.R HS.out P m (by omega);have y0:=S1.out.ld M.out.R HS.out P h (by omega);have a0:=S1.out.cmp M.out.cmp HS.out d[m]! d[h]!
    have HI:Aside (∀v:Int,v=J d[m]! d[h]!->(¬v<0->(∀x,a<=x->x<h+1->ltOf J d[m]! d[x]! =false))/\(v<0->∀x,h<=x->x<m->ltOf J d[m]! d[x]! =true)):=fun v hv=>⟨fun hl x h1 h2=>by
      have k1:ltOf J d[m]! d[h]! =false:=aQ (by rw[<-hv];exact hl);have k2:=Ss.le1 HP.out (i:=x) (j:=h) h1 (by omega) (by omega) M.out.swo;exact M.out.swo.ntrans _ _ _ k1 k2,fun hl x h1 h2=>by
      have k1:ltOf J d[m]! d[h]! =true:=bj (by rw[<-hv];exact hl);have k2:=Ss.le1 HP.out (i:=h) (j:=x) (by omega) h1 h2 M.out.swo;exact Ss.fR M.out.swo k1 k2⟩
    generalize d[h]! =Y at*;generalize d[m]! =X at*;generalize a9:J X Y=cv at*;clear hh r1 a9;by_cases a1:cv<0
    ·have I2:Aside ((∀x,a<=x->x<i->ltOf J X d[x]! =false)/\∀x,h<=x->x<m->ltOf J X d[x]! =true):=⟨I.out.1,(HI.out cv rfl).2 a1⟩
     clear HI I
     go_wp2_with fail
     go_quiet_grown (first|(go_at_fn g;refine Calls.grown_of (a0 _ _)))
     have W:Aside (SWK enc Q Z G off d (grow (wr.drewN nq) osq)):=S1.out.grown nq osq;clear S1 x0 y0 a0;generalize grow (wr.drewN nq) osq=w2 at W ⊢;go_wp2;go_roundg (h-i)
     case measure=>have:=HH.out;omega
     case rel=>exact⟨i,h,rfl,rfl,a7,by have:=HH.out;omega,by have:=HH.out;omega,af _,W,I2⟩
    ·have b2:decide (cv<0)=false:=aQ a1
     have b3:(cv<0)=False:=eq_false a1;have I2:Aside ((∀x,a<=x->x<h+1->ltOf J X d[x]! =false)/\∀x,j<=x->x<m->ltOf J X d[x]! =true):=⟨(HI.out cv rfl).1 a1,I.out.2⟩;clear HI I
     go_wp2_with fail
     go_quiet_grown (first|(go_at_fn g;refine Calls.grown_of (a0 _ _)))
     have W:Aside (SWK enc Q Z G off d (grow (wr.drewN nq) osq)):=S1.out.grown nq osq;clear S1 x0 y0 a0;generalize grow (wr.drewN nq) osq=w2 at W ⊢;go_wp2;go_roundg (j-(h+1))
     case measure=>have:=HH.out;omega
     case rel=>exact⟨h+1,j,by go_num,rfl,by have:=HH.out;omega,by have:=HH.out;omega,a2,af _,W,I2⟩
   ·have ij:¬((i:Int)<(j:Int)):=by omega
    obtain rfl:i=j:=by omega
    have a5:=zH (Ss.pR m (m+1) d);go_wp2;go_loopg [17] m (fun kx av az=>∃(k:Nat)(e:Array α),av=zI k/\i<=k/\k<=m/\k<=kx/\e.size=d.size/\Aside (SWK enc Q Z G off e az)/\Hid (Ss.Rot k m (m+1) d e))
    case atStart=>exact⟨m,d,rfl,a2,af _,af _,rfl,S1,a5⟩
    case round=>
     clear S1 a5;obtain⟨k,e,rfl,b5,ad,R7,aa,W,HR⟩:=hrel;by_cases hk:i<k
     ·obtain⟨F,rfl⟩:∃F,k=F+1:=⟨k-1,by omega⟩
      have ab:(F:Int)+1>(i:Int):=by omega
      have S8:(i:Int)<(F:Int)+1:=by omega
      have b9:IntKind.i64.wrap (F:Int)=(F:Int):=by rw[IntKind.wrap_i64];omega
      have bk:(F:Int)<(d.size:Int):=by omega
      have b0:(F:Int)+1<(d.size:Int):=by omega
      have p0:(0:Int)<=(F:Int)+1:=by omega
      have e0:((F:Int)+1).toNat=F+1:=by omega
      have hq:=HS.out;have S4:Aside _:=W.out.swapped M.out.R (F+1) F (by omega) (by omega);have la:=W.out.ld1 M.out.R (by omega) P (F+1) (by omega);have lb:=W.out.ld1 M.out.R (by omega) P F (by omega);have sa:=W.out.st1 M.out.R (by omega) P (F+1) (by omega) e[F]!;have sb:=W.out.st2 M.out.R (by omega) P (F+1) F (by omega) (by omega) e[F]! e[F+1]!;have na:=M.out.R.hk e[F+1]!;have nb:=M.out.R.hk e[F]!;have a8:Hid (Ss.Rot F m (m+1) d (swp e (F+1) F)):=Ss.J8 HR.out ad (by omega) ak;generalize enc e[F+1]! =cI at S4 la sb na;generalize enc e[F]! =cJ at S4 lb sa sb nb;clear W HR hq
      go_wp2_with fail
      go_big_region_o
      clear la lb sa sb;generalize (wr.drew.setCells G _ cJ).setCells G _ cI=w2 at S4 ⊢;go_wp2;go_roundg F
      case measure=>omega
      case rel=>exact⟨F,swp e (F+1) F,by first|rfl|go_num|(congr 1;omega),by omega,by omega,af _,by rw[swp_size];exact aa,S4,a8⟩
     ·have ab:¬((k:Int)>(i:Int)):=by omega
      have HF:Hid (Ss.eD (ltOf J) tag a b d e):=by
       obtain rfl:k=i:=by omega
       have h2:=HP.out;have h3:=I.out;have h4:=HM.out;subst h4;exact Ss.Hb M.out.swo h2 HR.out a7 a2 hb h3.1 h3.2
      clear HR;go_wp2;refine aI (results_none rfl _ _ _) rfl ?_;exact⟨rfl,e,HF.out,W.out⟩
