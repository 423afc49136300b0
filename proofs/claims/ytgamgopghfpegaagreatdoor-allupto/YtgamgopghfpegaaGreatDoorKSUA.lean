import Derived.Test.YtgamgopghfpegaaGreatDoorKCA
set_option linter.all false
open Go.Proofs.Tryz
set_option maxRecDepth 1000000
set_option maxHeartbeats 4000000
namespace Go.Proofs.YtgamgopghfpegaaGreatDoor
section
open Go.RowKit Go.Sort Go.Shelf Go.Lib
namespace Su
abbrev Ty(P:Program)(t:TypeId)(d:TypeDesc):Prop:=P.underlying t=some d∧(∀w,(isAgg t).run P w=.ok false w)∧∀w,(Go.sizeOf t).run P w=.ok 1 w
abbrev El(P:Program)(J:Nat)(e s f:TypeId):Prop:=(∀w,(isAgg e).run P w=.ok true w)∧(∀w,(Go.sizeOf e).run P w=.ok J w)∧Ty P s (.slice e)∧Ty P f (.func #[e,e] #[3] false)
abbrev Ent(P:Program)(f:Nat):Prop:=∀args w,(callFunc f args).run P w=.ok (.enter f args) w
def Ly(P:Program)(J D B E ins U V:Nat):Prop:=
 (Ent P D∧Ent P B∧Ent P E∧Ent P ins∧Ent P U∧P.follows Departure.mixedOrders=true∧Ty P 3 (.int .i64)∧Ty P 4 .bool∧Ty P 205 (.int .u64))∧
 ((D=317∧B=315∧E=310∧ins=284∧U=300∧V=269∧El P J 68 55 337∧P.funcs[317]?=some f317∧P.funcs[315]?=some f315∧P.funcs[310]?=some f310∧P.funcs[300]?=some f300∧P.funcs[269]?=some f269)∨
  (D=318∧B=316∧E=312∧ins=311∧U=301∧V=271∧El P J 199 193 355∧P.funcs[318]?=some f318∧P.funcs[316]?=some f316∧P.funcs[312]?=some f312∧P.funcs[301]?=some f301∧P.funcs[271]?=some f271))
theorem ly2:Ly prog 2 317 315 310 284 300 269:=⟨⟨fun _ _=>aB,fun _ _=>aB,fun _ _=>aB,fun _ _=>aB,fun _ _=>aB,aB,⟨underlying3,isAgg3,sizeOf3⟩,⟨underlying4,isAgg4,sizeOf4⟩,underlying205,isAgg205,sizeOf205⟩,Or.inl ⟨rfl,rfl,rfl,rfl,rfl,rfl,⟨isAgg68,sizeOf68,⟨underlying55,isAgg55,sizeOf55⟩,underlying337,isAgg337,sizeOf337⟩,func317,func315,func310,func300,func269⟩⟩
theorem ly3:Ly prog 3 318 316 312 311 301 271:=⟨⟨fun _ _=>aB,fun _ _=>aB,fun _ _=>aB,fun _ _=>aB,fun _ _=>aB,ly2.1.2.2.2.2.2⟩,Or.inr ⟨rfl,rfl,rfl,rfl,rfl,rfl,⟨isAgg199,sizeOf199,⟨underlying193,isAgg193,sizeOf193⟩,underlying355,isAgg355,sizeOf355⟩,func318,func316,func312,func301,func271⟩⟩
theorem nt2:f315.ntmps=58∧f316.ntmps=58:=⟨ntmps315,ntmps316⟩
theorem nt1:f317.ntmps=38∧f318.ntmps=38:=⟨ntmps317,ntmps318⟩
variable{P:Program}{α:Type}[Inhabited α]{enc:α→List zV}{J D B E ins U V:Nat}(L:Ly P J D B E ins U V)
include L
theorem lJ(g:Nat)O G off cap a b n d0 d Q w(R:RowK enc J Q G off d0)(hs:d0.size=d.size)(S:SWK enc J Q G off d w)
  (a5:a+n≤b∨b+n≤a) (ha:a+n≤d.size) (hb:b+n≤d.size) (a8:d.size<4611686018427387904):
  Calls P D #[.slice (some (G,off)) d.size cap,a,b,n,.func (.func g) #[] O] w fun e w'=>e=.returned (.tuple #[])∧∃d',Ss.qX a b n d d'∧SWK enc J Q G off d' w':=by
 have S0:Aside (SWK enc J Q G off d w):=S;clear S;obtain⟨⟨e1,e2,e3,e4,e5,a1,⟨t3,a3,z3⟩,⟨t4,a4,z4⟩,Jo,Jp,Jq⟩,L⟩:=L;rcases L with⟨rfl,rfl,rfl,rfl,rfl,rfl,⟨aE,zE,⟨tS,aS,zS⟩,tF,aF,zF⟩,f1,f2,f3,f4,f5⟩|⟨rfl,rfl,rfl,rfl,rfl,rfl,⟨aE,zE,⟨tS,aS,zS⟩,tF,aF,zF⟩,f1,f2,f3,f4,f5⟩
 all_goals
  go_enter f1,nt1;go_wp2;go_loopg [10] n (fun kx a2 wr=>∃(i:Nat)(f:Array α),a2=.int .i64 i∧i≤n∧n-i≤kx∧Hid (Ss.qX a b i d f)∧f.size=d.size∧Aside (SWK enc J Q G off f wr))
  case atStart=>exact⟨0,d,rfl,ae,ae,Ss.qX.zero a b d,rfl,S0⟩
  case round=>
   clear S0;obtain⟨i,f,rfl,hi,a6,M,a0,F⟩:=hrel;by_cases a7:i<n
   ·have fD:i<(n:Int):=ae
    have wa:IntKind.i64.wrap (a+i)=a+i:=by rw[IntKind.wrap_i64];omega
    have wb:IntKind.i64.wrap (b+i)=b+i:=by rw[IntKind.wrap_i64];omega
    have ea:(a+(i:Int)).toNat=a+i:=ae;have eb:(b+(i:Int)).toNat=b+i:=ae;have pa:(0)≤a+(i:Int):=ae;have pb:(0)≤b+(i:Int):=ae;have ba:a+i<(d.size:Int):=ae;have bb:b+i<(d.size:Int):=ae;have I:Aside _:=F.out.swapped R (a+i) (b+i) ae ae;have la:=F.out.ld1 R ae P (a+i) ae;have lb:=F.out.ld1 R ae P (b+i) ae;have sa:=F.out.st1 R ae P (a+i) ae f[b+i]!;have sb:=F.out.st2 R ae P (a+i) (b+i) ae ae f[b+i]! f[a+i]!;have na:=R.hk f[a+i]!;have nb:=R.hk f[b+i]!;have Y:Hid (Ss.qX a b (i+1) d _):=M.out.step ae ae ae;generalize enc f[a+i]! =cI at I la sb na;generalize enc f[b+i]! =cJ at I lb sa sb nb;clear F M
    go_wp2_with fail
    go_big_region_o
    clear la lb sa sb;generalize (wr.drew.setCells G _ cJ).setCells G _ cI=w2 at I ⊢;go_wp2;go_roundg (n-(i+1))
    case measure=>omega
    case rel=>exact⟨_,_,by go_num,ae,ai _,Y,by rw[swp_size];exact a0,I⟩
   ·have fD:¬(i<(n:Int)):=ae
    obtain rfl:i=n:=ae;go_wp2
    go_end0
    exact⟨rfl,f,M.out,F.out⟩
theorem F7(g:Nat)O G off cap a m b d0 d Q w(R:RowK enc J Q G off d0)(hs:d0.size=d.size)(S:SWK enc J Q G off d w)
  (av:a<m) (b0:m<b) (hb:b≤d.size) (b1:d.size<4611686018427387904):
  Calls P B #[.slice (some (G,off)) d.size cap,a,m,b,.func (.func g) #[] O] w fun e w'=>e=.returned (.tuple #[])∧∃d',Ss.Rot a m b d d'∧SWK enc J Q G off d' w':=by
 have L0:Aside (Ly P J D B E ins U V):=L;have S0:Aside (SWK enc J Q G off d w):=S;clear S;have a8:IntKind.i64.wrap (m-a)=(m-a:Nat):=by rw[IntKind.wrap_i64];omega
 have a9:IntKind.i64.wrap (b-m)=(b-m:Nat):=by rw[IntKind.wrap_i64];omega
 obtain⟨i0,a1⟩:∃i0,i0=m-a:=⟨_,rfl⟩;obtain⟨j0,a5⟩:∃j0,j0=b-m:=⟨_,rfl⟩;rw[←a1] at a8;rw[←a5] at a9
 have a7:Hid (∀f,Ss.Rot (m-i0) m (m+j0) d f→Ss.Rot a m b d f):=fun f h=>by
  grind
 have I:Hid (_∧_):=⟨a1,a5⟩;clear a1 a5;obtain⟨⟨e1,F,e3,e4,e5,ak,⟨t3,a3,z3⟩,⟨t4,a4,z4⟩,Jo,Jp,Jq⟩,L⟩:=L;rcases L with⟨rfl,rfl,rfl,rfl,rfl,rfl,⟨aE,zE,⟨tS,aS,zS⟩,tF,aF,zF⟩,f1,f2,f3,f4,f5⟩|⟨rfl,rfl,rfl,rfl,rfl,rfl,⟨aE,zE,⟨tS,aS,zS⟩,tF,aF,zF⟩,f1,f2,f3,f4,f5⟩
 all_goals
  go_enter f2,nt2;go_wp2;go_loopg [10,11] (b+b) (fun kx an aq wr=>∃(i j:Nat)(e:Array α),an=.int .i64 i∧aq=.int .i64 j∧0<i∧0<j∧i≤m∧m+j≤b∧i+j≤kx∧Hid (∀f,Ss.Rot (m-i) m (m+j) e f→Ss.Rot a m b d f)∧e.size=d.size∧Aside (SWK enc J Q G off e wr))
  case atStart=>exact⟨i0,j0,d,rfl,rfl,by have:=I.out;omega,by have:=I.out;omega,by have:=I.out;omega,by have:=I.out;omega,by have:=I.out;omega,a7,rfl,S0⟩
  case round=>
   clear S0 a7 I a8 a9;obtain⟨i,j,e,rfl,rfl,hi,hj,a0,ab,az,HQ,Y,S1⟩:=hrel;obtain⟨u,hu⟩:∃u,u=m-i:=⟨_,rfl⟩;have wu:IntKind.i64.wrap (m-i)=u:=by rw[IntKind.wrap_i64];omega
   have HU:Hid _:=hu;by_cases M:i=j
   ·have hq:(i !=(j:Int))=false:=by rw[M];simp
    have ad:(i==(j:Int))=true:=by rw[M];simp
    have k1:=lJ L0.out g O G off cap u m i d0 e Q wr R ae S1.out ae ae ae ae;rw[Y] at k1
    have HF:Hid (∀f,Ss.qX u m i e f→_):=fun f h=>HQ.out f (by
     rw[hu] at h;have h1:=Ss.LZ a0 h;rw[←M];exact h1)
    clear S1 HQ M hu
    go_wp2_with fail
    first|go_at_call 317|go_at_call 318
    refine k1.mono ?_;rintro en w2 ⟨rfl,d2,h2,S2⟩;have HX:Hid (_∧_):=⟨HF.out d2 h2,S2⟩;clear k1 h2 S2 HF;go_wp2
    go_end0
    exact⟨rfl,d2,HX.out⟩
   ·have hq:(i !=(j:Int))=true:=aJ
    have ad:(i==(j:Int))=false:=by rw[bX];omega
    by_cases aa:j<i
    ·have Vk:i>(j:Int):=ae
     obtain⟨i2,a2⟩:∃i2,i2=i-j:=⟨_,rfl⟩;have w2:IntKind.i64.wrap (i-j)=i2:=by rw[IntKind.wrap_i64];omega
     have k1:=lJ L0.out g O G off cap u m j d0 e Q wr R ae S1.out ae ae ae ae;rw[Y] at k1
     have HF:Hid (∀F,Ss.qX u m j e F→_∧∀f,Ss.Rot (m-i2) m (m+j) F f→_):=fun F h=>⟨h.1.trans Y,fun f hr=>HQ.out f (by
      rw[hu] at h;rw[a2] at hr;exact Ss.L5 a0 aa h hr)⟩
     have H2:Hid _:=a2;clear S1 HQ M hu a2
     go_wp2_with fail
     first|go_at_call 317|go_at_call 318
     refine k1.mono ?_;rintro en w3 ⟨rfl,F,h2,S2⟩;have HX:Hid _:=HF.out F h2;have S3:Aside (SWK enc J Q G off F w3):=S2;clear k1 h2 S2 HF;go_wp2;go_roundg (i2+j)
     case measure=>have:=H2.out;omega
     case rel=>exact⟨i2,j,F,rfl,rfl,by have:=H2.out;omega,hj,by have:=H2.out;omega,ab,ai _,HX.out.2,HX.out.1,S3⟩
    ·have Vk:¬(i>(j:Int)):=ae
     have Vl:i<j:=ae;obtain⟨j2,a6⟩:∃j2,j2=j-i:=⟨_,rfl⟩;obtain⟨v,hv⟩:∃v,v=m+j-i:=⟨_,rfl⟩;have w2:IntKind.i64.wrap (j-i)=j2:=by rw[IntKind.wrap_i64];omega
     have w3:IntKind.i64.wrap (m+j)=m+j:=by rw[IntKind.wrap_i64];omega
     have w4:IntKind.i64.wrap (m+j-i)=v:=by rw[IntKind.wrap_i64];omega
     have k1:=lJ L0.out g O G off cap u v i d0 e Q wr R ae S1.out ae ae ae ae;rw[Y] at k1
     have HF:Hid (∀F,Ss.qX u v i e F→_∧∀f,Ss.Rot (m-i) m (m+j2) F f→_):=fun F h=>⟨h.1.trans Y,fun f hr=>HQ.out f (by
      rw[hu,hv] at h;rw[a6] at hr;exact Ss.Jj a0 Vl h hr)⟩
     have H2:Hid _:=a6;clear S1 HQ M hu a6 hv
     go_wp2_with fail
     first|go_at_call 317|go_at_call 318
     refine k1.mono ?_;rintro en wx ⟨rfl,F,h2,S2⟩;have HX:Hid _:=HF.out F h2;have S3:Aside (SWK enc J Q G off F wx):=S2;clear k1 h2 S2 HF;go_wp2;go_roundg (i+j2)
     case measure=>have:=H2.out;omega
     case rel=>exact⟨i,j2,F,rfl,rfl,hi,by have:=H2.out;omega,a0,by have:=H2.out;omega,ai _,HX.out.2,HX.out.1,S3⟩
end Su
end
section
open Go.RowKit Go.Sort Go.Shelf Go.Lib
namespace Su
structure Told(P:Program){α:Type}[Inhabited α](enc:α→List zV)(J g:Nat)(O:Array zV)(Z:α→α→Int)(G off:Nat)(d0:Array α)(Q:World):Prop where
 R:RowK enc J Q G off d0
 eg:∀args w,(callFunc g args).run P w=.ok (.enter g args) w
 cmp:CmpLays P g O enc J Z G off d0.size Q
 swo:SWO (ltOf Z)
 sz:d0.size<4611686018427387904
variable{P:Program}{α:Type}[Inhabited α]{enc:α→List zV}{J D B E ins U V:Nat}{g:Nat}{O:Array zV}{Z:α→α→Int}{G off:Nat}{d0:Array α}{Q:zW}{tag:α→Nat}
abbrev uD(P:Program){α}[Inhabited α](enc:α→List zV)(tag:α→Nat)(J E g:Nat)(O:Array zV)(Z:α→α→Int)(G off cap:Nat)(Q:zW)(size a m b:Nat)(d:Array α)(w:zW):Prop:=
 Calls P E #[.slice (some ⟨G,off,none⟩) size cap,.int .i64 a,.int .i64 m,.int .i64 b,.func (.func g) #[] O] w fun e w'=>e=.returned (.tuple #[])∧∃d',Ss.eF (ltOf Z) tag a b d d'∧SWK enc J Q G off d' w'
theorem nt3:f310.ntmps=220∧f312.ntmps=220:=⟨ntmps310,ntmps312⟩
section
variable(L:Ly P J D B E ins U V)(T:Told P enc J g O Z G off d0 Q)
include L T
theorem Pu cap a m b d w(hs:d.size=d0.size)(S:SWK enc J Q G off d w)(hm:m=a+1)(b7:m<b)(hb:b≤d.size)(hP:Ss.ie (ltOf Z) tag a m b d):
  uD P enc tag J E g O Z G off cap Q d.size a m b d w:=by
 have b8:d.size<4611686018427387904:=by have:=T.sz;omega
 have eg:=T.eg;have HS:Hid _:=hs;have S0:Aside (SWK enc J Q G off d w):=S;have f:Aside _:=T;have HP:Aside _:=hP;have HM:Hid _:=hm;have wm:IntKind.i64.wrap (m-a)=1:=by rw[IntKind.wrap_i64];omega
 have b6:a<m:=ae;have b0:a<(d.size:Int):=ae;clear S T hP hm hs;obtain⟨⟨e1,e2,e3,e4,e5,ak,⟨t3,a3,z3⟩,⟨t4,a4,z4⟩,Jo,Jp,Jq⟩,L⟩:=L;rcases L with⟨rfl,rfl,rfl,rfl,rfl,rfl,⟨aE,zE,⟨tS,aS,zS⟩,tF,aF,zF⟩,f1,f2,f3,f4,f5⟩|⟨rfl,rfl,rfl,rfl,rfl,rfl,⟨aE,zE,⟨tS,aS,zS⟩,tF,aF,zF⟩,f1,f2,f3,f4,f5⟩
 all_goals
  go_enter f3,nt3;go_wp2;go_loopg [10,11] b (fun kx an aq wr=>∃(i j:Nat),an=.int .i64 i∧aq=.int .i64 j∧m≤i∧i≤j∧j≤b∧j-i≤kx∧Aside (SWK enc J Q G off d wr)∧Aside ((∀x,m≤x→x<i→ltOf Z d[x]! d[a]! =true)∧∀x,j≤x→x<b→ltOf Z d[x]! d[a]! =false))
  case atStart=>exact⟨m,b,rfl,rfl,ai _,ae,ai _,ae,S0,(⟨fun x h1 h2=>ae,fun x h1 h2=>ae⟩)⟩
  case round=>
   clear S0;obtain⟨i,j,rfl,rfl,ad,b2,a5,b4,M,I⟩:=hrel;by_cases b5:i<j
   ·have fD:i<(j:Int):=ae
    obtain⟨h,hh⟩:∃h,h=(i+j)/2:=⟨_,rfl⟩;have eh:(i+j)/2=(h:Int):=ae;have bh:h<(d.size:Int):=ae;have r1:i≤h∧h<j:=ae;have HH:Hid _:=r1;have x0:=M.out.ld f.out.R HS.out P h ae;have y0:=M.out.ld f.out.R HS.out P a ae;have a0:=M.out.cmp f.out.cmp HS.out d[h]! d[a]!
    have HI:Aside (∀v:Int,v=Z d[h]! d[a]!→(v<0→(∀x,m≤x→x<h+1→ltOf Z d[x]! d[a]! =true))∧(¬v<0→∀x,h≤x→x<b→ltOf Z d[x]! d[a]! =false)):=fun v hv=>⟨fun hl x h1 h2=>by
      have k1:ltOf Z d[h]! d[a]! =true:=bu ae;have k2:=Ss.le2 HP.out (j:=h) h1 ae ae f.out.swo;exact Ss.fK f.out.swo k2 k1,fun hl x h1 h2=>by
      have k1:ltOf Z d[h]! d[a]! =false:=br ae;have k2:=Ss.le2 HP.out ae h1 h2 f.out.swo;exact f.out.swo.ntrans _ _ _ k2 k1⟩
    generalize d[h]! =X at*;generalize d[a]! =Y at*;generalize a9:Z X Y=cv at*;clear hh r1 a9;by_cases a6:cv<0
    ·have I2:Aside (_∧_):=⟨(HI.out cv rfl).1 a6,I.out.2⟩
     clear HI I
     go_wp2_with fail
     go_quiet_grown (first|(go_at_fn g;refine Calls.grown_of (a0 _ _)))
     have F:Aside (SWK enc J Q G off d _):=M.out.grown nq osq;clear M x0 y0 a0;generalize grow (wr.drewN nq) osq=w2 at F ⊢;go_wp2;go_roundg (j-(h+1))
     case measure=>have:=HH.out;omega
     case rel=>exact⟨_,j,by go_num,rfl,ae,ae,a5,ai _,F,I2⟩
    ·have I2:Aside (_∧_):=⟨I.out.1,(HI.out cv rfl).2 a6⟩
     clear HI I
     go_wp2_with fail
     go_quiet_grown (first|(go_at_fn g;refine Calls.grown_of (a0 _ _)))
     have F:Aside (SWK enc J Q G off d _):=M.out.grown nq osq;clear M x0 y0 a0;generalize grow (wr.drewN nq) osq=w2 at F ⊢;go_wp2;go_roundg (h-i)
     case measure=>have:=HH.out;omega
     case rel=>exact⟨i,h,rfl,rfl,ad,ae,ae,ai _,F,I2⟩
   ·have fD:¬(i<(j:Int)):=ae
    obtain rfl:i=j:=ae;have wi:IntKind.i64.wrap (i-1)=i-1:=by rw[IntKind.wrap_i64];omega
    have a2:Hid (Ss.Rot a _ (a+1) d d):=Ss.oJ a _ d;have a1:Hid (a+1≤i):=by have:=HM.out;show a+1≤i;omega
    go_wp2;go_loopg [13] i (fun kx av az=>∃(k:Nat)(e:Array α),av=.int .i64 k∧a≤k∧k+1≤i∧i-k≤kx∧e.size=d.size∧Aside (SWK enc J Q G off e az)∧Hid (Ss.Rot a (a+1) (k+1) d e))
    case atStart=>exact⟨a,d,rfl,ai _,a1.out,ae,rfl,M,a2⟩
    case round=>
     clear M a2;obtain⟨k,e,rfl,a8,b3,Vm,aa,F,HR⟩:=hrel;by_cases hk:k+1<i
     ·have ab:k<(i:Int)-1:=ae
      have bk:k<(d.size:Int):=ae;have b1:k+1<(d.size:Int):=ae;have hq:=HS.out;have S4:Aside _:=F.out.swapped f.out.R k (k+1) ae ae;have la:=F.out.ld1 f.out.R ae P k ae;have lb:=F.out.ld1 f.out.R ae P (k+1) ae;have sa:=F.out.st1 f.out.R ae P k ae e[k+1]!;have sb:=F.out.st2 f.out.R ae P k (k+1) ae ae e[k+1]! e[k]!;have na:=f.out.R.hk e[k]!;have nb:=f.out.R.hk e[k+1]!;have a7:Hid (Ss.Rot a _ _ d _):=Ss.RV HR.out a8 ae;generalize enc e[k]! =cI at S4 la sb na;generalize enc e[k+1]! =cJ at S4 lb sa sb nb;clear F HR hq
      go_wp2_with fail
      go_big_region_o
      clear la lb sa sb;generalize (wr.drew.setCells G _ cJ).setCells G _ cI=w2 at S4 ⊢;go_wp2;go_roundg (i-(k+1))
      case measure=>omega
      case rel=>exact⟨_,_,by go_num,ae,ae,ai _,by rw[swp_size];exact aa,S4,a7⟩
     ·have ab:¬(k<(i:Int)-1):=ae
      have HF:Hid (Ss.eF (ltOf Z) tag a b d e):=by
       have e1:k+1=i:=ae;have h1:=HR.out;rw[e1] at h1;have h2:=HP.out;have h3:=I.out;rw[HM.out] at h2 h3;exact Ss.Pf f.out.swo h2 h1 a1.out a5 hb h3.1 h3.2
      clear HR;go_wp2;refine aL (results_none rfl _ _ _) rfl ?_;exact⟨rfl,e,HF.out,F.out⟩
theorem Mu cap a m b d w(hs:d.size=d0.size)(S:SWK enc J Q G off d w)(hm:a+1<m)(a6:b=m+1)(hb:b≤d.size)(hP:Ss.ie (ltOf Z) tag a m b d):
  uD P enc tag J E g O Z G off cap Q d.size a m b d w:=by
 have b9:d.size<4611686018427387904:=by have:=T.sz;omega
 have eg:=T.eg;have HS:Hid _:=hs;have S0:Aside (SWK enc J Q G off d w):=S;have F:Aside _:=T;have HP:Aside _:=hP;have HM:Hid _:=a6;obtain⟨u,hu⟩:∃u,u=m-a:=⟨_,rfl⟩;have wm:IntKind.i64.wrap (m-a)=u:=by rw[IntKind.wrap_i64];omega
 have wq:((u:Int)==1)=false:=by rw[bX];omega
 have wn:IntKind.i64.wrap (b-m)=1:=by rw[IntKind.wrap_i64];omega
 have b2:m<(d.size:Int):=ae;have ak:m<d.size:=ae;clear S T hP a6 hs hu;obtain⟨⟨e1,e2,e3,e4,e5,an,⟨t3,a3,z3⟩,⟨t4,a4,z4⟩,Jo,Jp,Jq⟩,L⟩:=L;rcases L with⟨rfl,rfl,rfl,rfl,rfl,rfl,⟨aE,zE,⟨tS,aS,zS⟩,tF,aF,zF⟩,f1,f2,f3,f4,f5⟩|⟨rfl,rfl,rfl,rfl,rfl,rfl,⟨aE,zE,⟨tS,aS,zS⟩,tF,aF,zF⟩,f1,f2,f3,f4,f5⟩
 all_goals
  go_enter f3,nt3;go_wp2;go_loopg [14,15] m (fun kx aq av wr=>∃(i j:Nat),aq=.int .i64 i∧av=.int .i64 j∧a≤i∧i≤j∧j≤m∧j-i≤kx∧Aside (SWK enc J Q G off d wr)∧Aside ((∀x,a≤x→x<i→ltOf Z d[m]! d[x]! =false)∧∀x,j≤x→x<m→ltOf Z d[m]! d[x]! =true))
  case atStart=>exact⟨a,m,rfl,rfl,ai _,ae,ai _,ae,S0,(⟨fun x h1 h2=>ae,fun x h1 h2=>ae⟩)⟩
  case round=>
   clear S0;obtain⟨i,j,rfl,rfl,a7,b5,a2,b7,S1,I⟩:=hrel;by_cases b8:i<j
   ·have fD:i<(j:Int):=ae
    obtain⟨h,hh⟩:∃h,h=(i+j)/2:=⟨_,rfl⟩;have eh:(i+j)/2=(h:Int):=ae;have bh:h<(d.size:Int):=ae;have r1:i≤h∧h<j:=ae;have HH:Hid _:=r1;have x0:=S1.out.ld F.out.R HS.out P m ae;have y0:=S1.out.ld F.out.R HS.out P h ae;have a0:=S1.out.cmp F.out.cmp HS.out d[m]! d[h]!
    have HI:Aside (∀v:Int,v=Z d[m]! d[h]!→(¬v<0→(∀x,a≤x→x<h+1→ltOf Z d[m]! d[x]! =false))∧(v<0→∀x,h≤x→x<m→ltOf Z d[m]! d[x]! =true)):=fun v hv=>⟨fun hl x h1 h2=>by
      have k1:ltOf Z d[m]! d[h]! =false:=br ae;have k2:=Ss.le1 HP.out (j:=h) h1 ae ae F.out.swo;exact F.out.swo.ntrans _ _ _ k1 k2,fun hl x h1 h2=>by
      have k1:ltOf Z d[m]! d[h]! =true:=bu ae;have k2:=Ss.le1 HP.out ae h1 h2 F.out.swo;exact Ss.fJ F.out.swo k1 k2⟩
    generalize d[h]! =Y at*;generalize d[m]! =X at*;generalize a9:Z X Y=cv at*;clear hh r1 a9;by_cases a1:cv<0
    ·have I2:Aside (_∧_):=⟨I.out.1,(HI.out cv rfl).2 a1⟩
     clear HI I
     go_wp2_with fail
     go_quiet_grown (first|(go_at_fn g;refine Calls.grown_of (a0 _ _)))
     have M:Aside (SWK enc J Q G off d _):=S1.out.grown nq osq;clear S1 x0 y0 a0;generalize grow (wr.drewN nq) osq=w2 at M ⊢;go_wp2;go_roundg (h-i)
     case measure=>have:=HH.out;omega
     case rel=>exact⟨i,h,rfl,rfl,a7,ae,ae,ai _,M,I2⟩
    ·have b3:=br a1
     have b4:=eq_false a1;have I2:Aside (_∧_):=⟨(HI.out cv rfl).1 a1,I.out.2⟩;clear HI I
     go_wp2_with fail
     go_quiet_grown (first|(go_at_fn g;refine Calls.grown_of (a0 _ _)))
     have M:Aside (SWK enc J Q G off d _):=S1.out.grown nq osq;clear S1 x0 y0 a0;generalize grow (wr.drewN nq) osq=w2 at M ⊢;go_wp2;go_roundg (j-(h+1))
     case measure=>have:=HH.out;omega
     case rel=>exact⟨_,j,by go_num,rfl,ae,ae,a2,ai _,M,I2⟩
   ·have fD:¬(i<(j:Int)):=ae
    obtain rfl:i=j:=ae;have a5:Hid (Ss.Rot m m _ d d):=Ss.qx m (m+1) d;go_wp2;go_loopg [17] m (fun kx az b0=>∃(k:Nat)(e:Array α),az=.int .i64 k∧i≤k∧k≤m∧k≤kx∧e.size=d.size∧Aside (SWK enc J Q G off e b0)∧Hid (Ss.Rot k m (m+1) d e))
    case atStart=>exact⟨m,d,rfl,a2,ai _,ai _,rfl,S1,a5⟩
    case round=>
     clear S1 a5;obtain⟨k,e,rfl,b6,ad,Vm,aa,M,HR⟩:=hrel;by_cases hk:i<k
     ·obtain⟨f,rfl⟩:∃f,k=f+1:=⟨k-1,ae⟩
      have ab:f+1>(i:Int):=ae;have Wr:i<(f:Int)+1:=ae;have ba:IntKind.i64.wrap f=f:=by rw[IntKind.wrap_i64];omega
      have bk:f<(d.size:Int):=ae;have b1:f+1<(d.size:Int):=ae;have p0:(0)≤(f:Int)+1:=ae;have e0:((f:Int)+1).toNat=f+1:=ae;have hq:=HS.out;have S4:Aside _:=M.out.swapped F.out.R (f+1) f ae ae;have la:=M.out.ld1 F.out.R ae P (f+1) ae;have lb:=M.out.ld1 F.out.R ae P f ae;have sa:=M.out.st1 F.out.R ae P (f+1) ae e[f]!;have sb:=M.out.st2 F.out.R ae P (f+1) f ae ae e[f]! e[f+1]!;have na:=F.out.R.hk e[f+1]!;have nb:=F.out.R.hk e[f]!;have a8:Hid (Ss.Rot f m _ d (swp e (f+1) f)):=Ss.Mb HR.out ad ae ak;generalize enc e[f+1]! =cI at S4 la sb na;generalize enc e[f]! =cJ at S4 lb sa sb nb;clear M HR hq
      go_wp2_with fail
      go_big_region_o
      clear la lb sa sb;generalize (wr.drew.setCells G _ cJ).setCells G _ cI=w2 at S4 ⊢;go_wp2;go_roundg f
      case measure=>omega
      case rel=>exact⟨f,_,by rfl,ae,ae,ai _,by rw[swp_size];exact aa,S4,a8⟩
     ·have ab:¬(k>(i:Int)):=ae
      have HF:Hid (Ss.eF (ltOf Z) tag a b d e):=by
       obtain rfl:k=i:=ae;have h2:=HP.out;have h3:=I.out;have h4:=HM.out;subst h4;exact Ss.Jk F.out.swo h2 HR.out a7 a2 hb h3.1 h3.2
      clear HR;go_wp2;refine aL (results_none rfl _ _ _) rfl ?_;exact⟨rfl,e,HF.out,M.out⟩
