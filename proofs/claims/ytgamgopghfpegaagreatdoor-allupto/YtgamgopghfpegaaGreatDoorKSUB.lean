import Derived.Test.YtgamgopghfpegaaGreatDoorKSUA
import Derived.Deep.DeepCutAuto
set_option linter.all false
open Go.Proofs.Tryz
set_option maxRecDepth 1000000
set_option maxHeartbeats 8000000
namespace Go.Proofs.YtgamgopghfpegaaGreatDoor
section
open Go.RowKit Go.Sort Go.Shelf Go.Lib
namespace Su
variable{P:Program}{α:Type}[Inhabited α]{enc:α→List zV}{Q D B E ins O V:Nat}{g:Nat}{U:Array zV}{J:α→α→Int}{G off:Nat}{d0:Array α}{Z:zW}{tag:α→Nat}
 (L:Ly P Q D B E ins O V) (T:Told P enc Q g U J G off d0 Z)
include L T
theorem Pw cap a m b d w(hs:d.size=d0.size)(S:SWK enc Q Z G off d w)(hm:a+1<m)(bk:m+1<b)(hb:b≤d.size)(hP:Ss.ie (ltOf J) tag a m b d)
  (ih:∀a' m' b' d' w',b'-a'<b-a→d'.size=d0.size→SWK enc Q Z G off d' w'→a'<m'→m'<b'→b'≤d'.size→Ss.ie (ltOf J) tag a' m' b' d'→uD P enc tag Q E g U J G off cap Z d.size a' m' b' d' w'):
  uD P enc tag Q E g U J G off cap Z d.size a m b d w:=by
 have b5:d.size<4611686018427387904:=by have:=T.sz;omega
 have eg:=T.eg;have HS:Hid _:=hs;have S0:Aside (SWK enc Q Z G off d w):=S;have HT:Aside _:=T;have HP:Aside _:=hP;have IH:Aside _:=ih;have KR:Aside _:=fun f F w S h1 h2 h3=>F7 L g U G off cap f m F d0 d Z w T.R hs.symm S h1 h2 h3 b5
 obtain⟨u,hu⟩:∃u,u=m-a:=⟨_,rfl⟩;have wm:IntKind.i64.wrap (m-a)=u:=by rw[IntKind.wrap_i64];omega
 have wq:((u:Int)==1)=false:=by rw[bX];omega
 obtain⟨v,hv⟩:∃v,v=b-m:=⟨_,rfl⟩;have wn:IntKind.i64.wrap (b-m)=v:=by rw[IntKind.wrap_i64];omega
 have bs:((v:Int)==1)=false:=by rw[bX];omega
 obtain⟨mid,a5⟩:∃mid,mid=(a+b)/2:=⟨_,rfl⟩;have Ws:(a+b)/2=(mid:Int):=ae;obtain⟨M,ab⟩:∃M,M=mid+m:=⟨_,rfl⟩;have ba:mid+m=(M:Int):=ae;obtain⟨pp,ad⟩:∃pp,pp=M-1:=⟨_,rfl⟩;have bb:M-1=(pp:Int):=ae
 obtain⟨s0,r0,h0⟩:∃s0 r0:Nat,((m:Int)>(mid:Int)∧(M:Int)-(b:Int)=(s0:Int)∧mid=r0)∨(¬(m:Int)>(mid:Int)∧a=s0∧m=r0):=by
  by_cases c:mid<m
  ·exact⟨M-b,mid,Or.inl ⟨ae,ae,rfl⟩⟩
  grind
 have HN:Aside (_∧_∧_∧(s0=a∨s0+b=M)∧(r0=m∨r0+m=M)):=⟨a5,ab,ad,ae,ae⟩;have bm:M<9223372036854775807:=ae;have bn:pp<M:=ae
 have B0:Aside (a≤s0∧s0≤r0∧r0≤m∧M≤s0+b∧r0+m≤M):=by
  show _∧_;omega
 clear S T hP hs hu hv a5 ab ad ih;obtain⟨⟨e1,e2,e3,e4,e5,b6,⟨t3,a3,z3⟩,⟨t4,a4,z4⟩,Jo,Jp,Jq⟩,L⟩:=L;rcases L with⟨rfl,rfl,rfl,rfl,rfl,rfl,⟨aE,zE,⟨tS,aS,zS⟩,tF,aF,zF⟩,f1,f2,f3,f4,f5⟩|⟨rfl,rfl,rfl,rfl,rfl,rfl,⟨aE,zE,⟨tS,aS,zS⟩,tF,aF,zF⟩,f1,f2,f3,f4,f5⟩
 all_goals
  go_enter f3,nt3
  go_upto_if 140 with fail
  go_cut [20,21] (fun s r wx=>s=.int .i64 s0∧r=.int .i64 r0∧Aside (SWK enc Q Z G off d wx))
  case first=>
   rcases h0 with⟨c0,c1,c2⟩|⟨c0,c1,c2⟩
   all_goals
    subst c2
    (try subst c1)
    go_wp2_with fail
    go_meet
    exact⟨rfl,rfl,S0⟩
  case rest=>
   obtain⟨a8,a9,S1⟩:=hcut;rw[a8,a9];clear a8 a9 S0 h0
   go_wp2_with fail
   go_loopg [20,21] b (fun kx b7 b8 wr=>∃(f r:Nat),b7=.int .i64 f∧b8=.int .i64 r∧s0≤f∧f≤r∧r≤r0∧r-f≤kx∧Aside (SWK enc Q Z G off d wr)∧Aside ((∀x,s0≤x→x<f→ltOf J d[M-1-x]! d[x]! =false)∧∀x,r≤x→x<r0→ltOf J d[M-1-x]! d[x]! =true))
   case atStart=>exact⟨s0,r0,rfl,rfl,ai _,B0.out.2.1,ai _,by have:=B0.out;omega,S1,(⟨fun x h1 h2=>ae,fun x h1 h2=>ae⟩)⟩
   case round=>
    clear S1;obtain⟨f,r,rfl,rfl,a7,b0,a6,az,S1,I⟩:=hrel;by_cases bi:f<r
    ·have fD:f<(r:Int):=ae
     obtain⟨h,hh⟩:∃h,h=(f+r)/2:=⟨_,rfl⟩;have eh:(f+r)/2=(h:Int):=ae;have r1:f≤h∧h<r:=ae;have HH:Hid _:=r1;obtain⟨t,ht⟩:∃t,t=M-1-h:=⟨_,rfl⟩;have et:pp-h=(t:Int):=by have:=B0.out;have:=HN.out;omega
     have wt:IntKind.i64.wrap t=t:=by rw[IntKind.wrap_i64];have:=B0.out;have:=HN.out;omega
     have bh:h<(d.size:Int):=by have:=B0.out;omega
     have bt:t<(d.size:Int):=by have:=B0.out;omega
     have x0:=S1.out.ld HT.out.R HS.out P t ae;have y0:=S1.out.ld HT.out.R HS.out P h ae;have a1:=S1.out.cmp HT.out.cmp HS.out d[t]! d[h]!
     have HI:Aside (∀q:Int,q=J d[t]! d[h]!→(¬q<0→(∀x,s0≤x→x<h+1→ltOf J d[M-1-x]! d[x]! =false))∧(q<0→∀x,h≤x→x<r0→ltOf J d[M-1-x]! d[x]! =true)):=fun q hq=>by
      obtain⟨b1,_,b2,b3,b4⟩:=B0.out;refine⟨fun hl x h1 h2=>?_,fun hl x h1 h2=>?_⟩
      ·exact Ss.Pg HT.out.swo HP.out b1 b2 b3 b4 (c:=h) h1 ae ae (by rw[←ht];exact br ae)
      ·exact Ss.Ph HT.out.swo HP.out b1 b2 b3 b4 ae h1 h2 (by rw[←ht];exact bu ae)
     generalize d[h]! =Y at x0 y0 a1 HI;generalize d[t]! =X at x0 y0 a1 HI;generalize aq:J X Y=cv at*;clear hh r1 aq ht;by_cases a2:cv<0
     ·have I2:Aside (_∧_):=⟨I.out.1,(HI.out cv rfl).2 a2⟩
      clear HI I
      go_wp2_with fail
      go_quiet_grown (first|(go_at_fn g;refine Calls.grown_of (a1 _ _)))
      have S2:Aside (SWK enc Q Z G off d _):=S1.out.grown nq osq;clear S1 x0 y0 a1;generalize grow (wr.drewN nq) osq=w2 at S2 ⊢;go_wp2;go_roundg (h-f)
      case measure=>have:=HH.out;omega
      case rel=>exact⟨f,h,rfl,rfl,a7,ae,ae,ai _,S2,I2⟩
     ·have bc:=br a2
      have bd:=eq_false a2;have I2:Aside (_∧_):=⟨(HI.out cv rfl).1 a2,I.out.2⟩;clear HI I
      go_wp2_with fail
      go_quiet_grown (first|(go_at_fn g;refine Calls.grown_of (a1 _ _)))
      have S2:Aside (SWK enc Q Z G off d _):=S1.out.grown nq osq;clear S1 x0 y0 a1;generalize grow (wr.drewN nq) osq=w2 at S2 ⊢;go_wp2;go_roundg (r-(h+1))
      case measure=>have:=HH.out;omega
      case rel=>exact⟨_,r,by go_num,rfl,ae,ae,a6,ai _,S2,I2⟩
    ·have fD:¬(f<(r:Int)):=ae
     obtain rfl:f=r:=ae;obtain⟨F,aa⟩:∃F,F=M-f:=⟨_,rfl⟩;have b9:M-f=(F:Int):=by have:=B0.out;omega
     have bq:IntKind.i64.wrap (M-f)=F:=by rw[IntKind.wrap_i64];have:=B0.out;omega
     have HE:Aside (a≤f∧f≤m∧m≤F∧F≤b∧mid=f+(F-m)∧a<mid∧mid<b):=by
      have:=B0.out;have:=HN.out;show _∧_;omega
     have an:Hid (Ss.Found (ltOf J) a m b f F d):=by
      obtain⟨b1,_,b2,b3,b4⟩:=B0.out;rw[aa];exact Ss.Mc HT.out.swo HP.out HN.out.2.2.2.1 HN.out.2.2.2.2 a7 a6 b1 b2 b3 b4 I.out.1 I.out.2
     have av:F≤d.size:=by have:=HE.out;omega
     clear aa I a7 b0 a6 az;have hR:(f<(m:Int)∧m<(F:Int))∨¬f<(m:Int)∨(f<(m:Int)∧¬m<(F:Int)):=ae;have hL:(a<(f:Int)∧f<(mid:Int))∨¬a<(f:Int)∨(a<(f:Int)∧¬f<(mid:Int)):=ae;have hC:(mid<(F:Int)∧F<(b:Int))∨¬mid<(F:Int)∨(mid<(F:Int)∧¬F<(b:Int)):=ae;have HL:Hid _:=hL;have HC:Hid _:=hC;clear hL hC;have HR:Hid (∀w1,SWK enc Q Z G off d w1→¬(f<m∧m<F)→∃d1,Aside (SWK enc Q Z G off d1 w1)∧Aside (Ss.Rot f m F d d1)):=fun w1 S h=>⟨d,S,by have:=HE.out;exact Ss.Me ae ae h⟩
     rcases hR with⟨q1,q2⟩|q1|⟨q1,q2⟩
     all_goals
      go_upto_region 41 with((first|go_at_call 315|go_at_call 316);refine(KR.out f F _ S1.out ae ae av).mono ?_;rintro ex wA ⟨rfl,d1,h1,T1⟩;have X1:∃d1,Aside (SWK enc Q Z G off d1 wA)∧Aside (Ss.Rot f m F d d1):=⟨d1,T1,h1⟩)
      (try have X1:=HR.out _ S1.out ae)
      clear S1 q1
      (try clear q2)
      (try clear h1 T1)
      obtain⟨d1,SA,RA⟩:=X1
      have a0:Hid (d1.size=d0.size∧Ss.ie (ltOf J) tag a f mid d1∧Ss.ie (ltOf J) tag mid F b d1):=by
       obtain⟨e1,e2,e3,e4,e5,e6,e7⟩:=HE.out;rw[e5];exact⟨RA.out.1.trans HS.out,Ss.qY HP.out RA.out e2 e3 e4,Ss.oK HP.out RA.out e1 e2 e3⟩
      have HB:Hid (∀w1,SWK enc Q Z G off d1 w1→¬(a<f∧f<mid)→∃d2,Aside (SWK enc Q Z G off d2 w1)∧Aside (Ss.eF (ltOf J) tag a mid d1 d2)):=fun w1 S h=>⟨d1,S,by have:=HE.out;exact Ss.Am a0.out.2.1 ae ae h⟩
      have ak:Hid _:=fun p1 p2 w1 S=>IH.out a f mid d1 w1 ae a0.out.1 S p1 p2 (by have:=a0.out.1;have:=HS.out;omega) a0.out.2.1
      have hL:=HL.out;rcases hL with⟨q1,q2⟩|q1|⟨q1,q2⟩
      all_goals
       go_upto_region 43 with((first|go_at_call 310|go_at_call 312);refine(ak.out ae ae _ SA.out).mono ?_;rintro ex wB ⟨rfl,d2,h2,T2⟩;have X2:∃d2,Aside (SWK enc Q Z G off d2 wB)∧Aside (Ss.eF _ tag a mid d1 d2):=⟨d2,T2,h2⟩)
       (try have X2:=HB.out _ SA.out ae)
       clear SA q1
       (try clear q2)
       (try clear h2 T2)
       obtain⟨d2,SB,PB⟩:=X2
       have HD:Hid (d2.size=d0.size∧Ss.ie (ltOf J) tag mid F b d2∧∀d3,Ss.eF (ltOf J) tag mid b d2 d3→Ss.eF (ltOf J) tag a b d d3):=by
        obtain⟨e1,e2,e3,e4,e5,e6,e7⟩:=HE.out;exact⟨PB.out.1.1.trans a0.out.1,a0.out.2.2.congr (fun i hi _=>PB.out.1.2.1 i (Or.inr hi)) ae ae,fun d3 h3=>Ss.merged HT.out.swo HP.out an.out RA.out e1 e2 e3 e4 hb e5 PB.out h3⟩
       have hC:=HC.out;rcases hC with⟨q1,q2⟩|q1|⟨q1,q2⟩
       all_goals
        go_wp2_with ((first|go_at_call 310|go_at_call 312);refine(IH.out mid F b d2 _ ae HD.out.1 SB.out ae ae (by have:=HD.out.1;have:=HS.out;omega) HD.out.2.1).mono ?_;rintro ex wC ⟨rfl,d3,h3,T3⟩;have X3:∃d3,SWK enc Q Z G off d3 wC∧_:=⟨d3,T3,h3⟩)
        all_goals
         (try have X3:∃d3,SWK enc Q Z G off d3 _∧Ss.eF (ltOf J) tag mid b d2 d3:=⟨d2,SB.out,by have:=HE.out;exact Ss.Am HD.out.2.1 ae ae ae⟩)
         obtain⟨d3,SC,PC⟩:=X3
         go_end0
         exact⟨rfl,d3,HD.out.2.2 d3 PC,SC⟩
end Su
end
section
open Go.RowKit Go.Sort Go.Shelf Go.Lib
namespace Su
variable{P:Program}{α:Type}[Inhabited α]{enc:α→List zV}{Q D B E ins O V:Nat}{g:Nat}{U:Array zV}{J:α→α→Int}{G off:Nat}{d0:Array α}{Z:zW}{tag:α→Nat}
abbrev Q5(P:Program){α}[Inhabited α](enc:α→List zV)(Q ins g:Nat)(U:Array zV)(J:α→α→Int)(G off:Nat)(Z:zW)(n cap:Nat):Prop:=
 ∀(a b:Nat)(d:Array α)(w:zW),d.size=n→SWK enc Q Z G off d w→a≤b→b≤d.size→Calls P ins #[.slice (some ⟨G,off,none⟩) n cap,.int .i64 a,.int .i64 b,.func (.func g) #[] U] w fun e w'=>e=.returned (.tuple #[])∧SWK enc Q Z G off (Sort.insertionSort (ltOf J) d a b) w'
abbrev Mv(P:Program){α}[Inhabited α](enc:α→List zV)(Q ins g:Nat)(U:Array zV)(J:α→α→Int)(G off:Nat)(Z:zW)(n:Nat):Prop:=∀cap,Q5 P enc Q ins g U J G off Z n cap
theorem F8{ρ}(Lz:SlLaysF0.n20 P ρ)(aE:∀w,(isAgg (ρ.t 24)).run P w=.ok true w)(zE:∀w,(Go.sizeOf (ρ.t 24)).run P w=.ok Q w)(T:Told P enc Q g U J G off d0 Z):Mv P enc Q (ρ.f 20) g U J G off Z d0.size:=by
 intro cap a b d w hs S F hb;have M:=(insertionSort_holds T.swo d a b F hb).1.1;have a0:=T.sz
 have hC:CmpLays P g U enc Q J G off d.size w:=fun m os dk I x y=>by
  obtain⟨n0,Y,rfl⟩:=S;rw[sortWorldK_on enc Q Z G off n0 m d dk Y os T.R.hblk I];exact T.cmp _ _ dk ae x y
 rw[←hs];refine(AnyQ.insertionSortCmpFunc Lz Q aE zE enc T.R.hk T.R.h1 J g U G off cap a b d w T.eg hC (S.holds T.R.hblk T.R.hH hs) (S.lt T.R.hblk) F hb ae).mono ?_;rintro e w' ⟨rfl,n,os,rfl⟩;exact⟨rfl,S.on T.R.hblk n _ os M⟩
theorem wG{a b n}{d e}(h:PermIn 0 n d0 d)(I:n=d0.size)(F:PermIn a b d e)(f:b≤n):PermIn 0 n d0 e:=
 permIn_trans d0 d e 0 n h (permIn_mono d e a b 0 n (aN _) f (by rw[h.1];omega) F)
theorem nt4:f300.ntmps=63∧f301.ntmps=63:=⟨ntmps300,ntmps301⟩
theorem nt5:f269.ntmps=9∧f271.ntmps=9:=⟨ntmps269,ntmps271⟩
section
variable(L:Ly P Q D B E ins O V)(T:Told P enc Q g U J G off d0 Z)
include L T
theorem BX cap:∀n a m b d w,b-a≤n→d.size=d0.size→SWK enc Q Z G off d w→a<m→m<b→b≤d.size→Ss.ie (ltOf J) tag a m b d→uD P enc tag Q E g U J G off cap Z d0.size a m b d w:=by
 intro n
 induction n with
 |zero=>intro a m b d w hn _ _ h1 M _ _;omega
 |succ n ih=>
  intro a m b d w hn f S h1 M I F;rw[←f];by_cases R:m=a+1
  ·exact Pu L T cap a m b d w f S R M I F
  ·by_cases Y:b=m+1
   ·exact Mu L T cap a m b d w f S ae Y I F
   ·exact Pw L T cap a m b d w f S ae ae I F fun a' m' b' d' w' a0 a1 S' k1 k2 k3 k4=>by
     grind
theorem F9(KI:Mv P enc Q ins g U J G off Z d0.size)(Lh:d0.size<1152921504606846976)(ht:Ss.eU tag 0 d0.size d0)cap w(S:SWK enc Q Z G off d0 w):
  Calls P O #[.slice (some (G,off)) d0.size cap,d0.size,.func (.func g) #[] U] w fun e w'=>e=.returned (.tuple #[])∧∃d',Ss.eF (ltOf J) tag 0 d0.size d0 d'∧SWK enc Q Z G off d' w':=by
 have a2:=KI cap;have T7:=fun a m b d w hs S h1 h2 hb hP=>BX (tag:=tag) L T cap _ a m b d w (ai _) hs S h1 h2 hb hP
 obtain⟨n,hn⟩:∃n,n=d0.size:=⟨_,rfl⟩;have HI:Aside (Q5 P enc Q ins g U J G off Z n cap):=by rw[hn];exact a2
 have HM:Aside (∀(a m b:Nat)(d:Array α)(w:zW),d.size=n→SWK enc Q Z G off d w→a<m→m<b→b≤d.size→Ss.ie (ltOf J) tag a m b d→uD P enc tag Q E g U J G off cap Z n a m b d w):=by rw[hn];exact T7
 have HT:Aside _:=T;have HN:=zH hn;have S0:Aside (SWK enc Q Z G off d0 w):=S;have HB:Hid (Ss.eU tag 0 n d0):=by rw[hn];exact ht
 rw[←hn] at Lh ⊢;clear a2 T7 T KI S ht hn;obtain⟨⟨e1,M,F,e4,Y,ab,⟨t3,a3,z3⟩,⟨t4,a4,z4⟩,Jo,Jp,Jq⟩,L⟩:=L;rcases L with⟨rfl,rfl,rfl,rfl,rfl,rfl,⟨aE,zE,⟨tS,aS,zS⟩,tF,aF,zF⟩,f1,f2,f3,f4,f5⟩|⟨rfl,rfl,rfl,rfl,rfl,rfl,⟨aE,zE,⟨tS,aS,zS⟩,tF,aF,zF⟩,f1,f2,f3,f4,f5⟩
 all_goals
  go_enter f4,nt4;go_wp2;go_loopg [7,8] n (fun kx s7 s8 wr=>∃(a b k:Nat)(d:Array α),s7=.int .i64 a∧s8=.int .i64 b∧a<b∧a≤n∧b≤n+20∧n-a≤kx∧Aside (b=a+20∧a=k*20∧PermIn 0 n d0 d∧Ss.Bl (ltOf J) tag 20 a n d∧Ss.eU tag a n d)∧Aside (SWK enc Q Z G off d wr))
  case atStart=>exact⟨0,20,0,d0,rfl,rfl,ae,ae,ae,ae,(⟨rfl,rfl,permIn_refl d0 0 n,Ss.Bl.none 20 n ae d0,HB.out⟩),S0⟩
  case round=>
   clear S0 HB;obtain⟨a,b,k,d,rfl,rfl,a0,a1,a6,a7,I,S1⟩:=hrel;by_cases R:b≤n
   ·have Px:b≤(n:Int):=ae
    have k1:=HI.out a b d wr (I.out.2.2.1.1.trans HN.out.symm) S1.out ae (by rw[I.out.2.2.1.1,←HN.out];exact R);obtain⟨c,hc⟩:∃c,c=b+20:=⟨_,rfl⟩;have wc:IntKind.i64.wrap (b+20)=c:=by rw[IntKind.wrap_i64];omega
    have I2:Aside (c=b+20∧b=(k+1)*20∧PermIn 0 n d0 (Sort.insertionSort (ltOf J) d a b)∧Ss.Bl (ltOf J) tag 20 b n (Sort.insertionSort (ltOf J) d a b)∧Ss.eU tag b n (Sort.insertionSort (ltOf J) d a b)):=by
     obtain⟨e1,M,F,e4,Y⟩:=I.out;have f:=Ss.F2 HT.out.swo M e4 Y ae (by rw[F.1,←HN.out];omega);rw[←e1] at f;exact⟨hc,ae,Su.wG F HN.out f.1 R,f.2.1,f.2.2⟩
    have HC:Hid (b<c∧c≤n+20):=⟨ae,ae⟩;have HA:=zH a0;clear S1 I hc
    go_wp2_with fail
    first|go_at_call 284|go_at_call 311
    refine k1.mono ?_;rintro ex w2 ⟨rfl,T1⟩;have S2:Aside (SWK enc Q Z G off _ w2):=T1;clear k1 T1;go_wp2;go_roundg (n-b)
    case measure=>have:=HA.out;omega
    case rel=>exact⟨b,c,_,_,rfl,rfl,HC.out.1,R,HC.out.2,ai _,I2,S2⟩
   ·have Px:¬(b≤(n:Int)):=ae
    have k1:=HI.out a n d wr (I.out.2.2.1.1.trans HN.out.symm) S1.out a1 (by rw[I.out.2.2.1.1,←HN.out];omega)
    have I2:Aside (PermIn 0 n d0 (Sort.insertionSort (ltOf J) d a n)∧Ss.Bs (ltOf J) tag 20 0 n (Sort.insertionSort (ltOf J) d a n)):=by
     obtain⟨e1,M,F,e4,Y⟩:=I.out;have f:=Ss.F3 HT.out.swo M e4 Y a1 ae (by rw[F.1,←HN.out];omega);exact⟨Su.wG F HN.out f.1 (ai _),f.2⟩
    clear S1 I
    go_wp2_with fail
    first|go_at_call 284|go_at_call 311
    refine k1.mono ?_;rintro ex w2 ⟨rfl,T1⟩;have S2:Aside (SWK enc Q Z G off _ w2):=T1;clear k1 T1;generalize Sort.insertionSort (ltOf J) d a n=d1 at I2 S2;clear HI a7 Px R a0 a6 a1;go_wp2;go_loopg [6,7,8] n (fun ky s6 s7 s8 wr=>∃(s:Nat)(d:Array α),s6=.int .i64 s∧0<s∧s≤n+n+20∧n-s≤ky∧Aside (PermIn 0 n d0 d∧Ss.Bs (ltOf J) tag s 0 n d)∧Aside (SWK enc Q Z G off d wr))
    case atStart=>exact⟨20,d1,rfl,ae,ae,ae,I2,S2⟩
    case round=>
     clear I2 S2;obtain⟨s,d,rfl,aa,aq,ad,I,S1⟩:=hrel;by_cases a8:s<n
     ·have fD:s<(n:Int):=ae
      obtain⟨u,hu⟩:∃u,u=s+s:=⟨_,rfl⟩;have wu:IntKind.i64.wrap (2*s)=u:=by rw[IntKind.wrap_i64];omega
      have av:IntKind.i64.wrap (s*2)=u:=by rw[IntKind.wrap_i64];omega
      have HU:=zH hu;have I2:Aside (u=0+u∧0=0*u∧_∧_∧Ss.Bl (ltOf J) tag u 0 n d):=⟨ae,ae,I.out.1,I.out.2,Ss.Bl.none u n ae d⟩;have B1:Hid (0<u∧u≤n+u∧0≤n):=⟨ae,ae,ae⟩;have ub:u≤n+n:=ae;clear I hu;go_wp2;go_loopg [7,8] n (fun kz s7 s8 wr=>∃(a b k:Nat)(d:Array α),s7=.int .i64 a∧s8=.int .i64 b∧a<b∧a≤n∧b≤n+u∧n-a≤kz∧Aside (b=a+u∧a=k*u∧PermIn 0 n d0 d∧Ss.Bs (ltOf J) tag s a n d∧Ss.Bl (ltOf J) tag u a n d)∧Aside (SWK enc Q Z G off d wr))
      case atStart=>exact⟨0,u,0,d,rfl,rfl,B1.out.1,B1.out.2.2,B1.out.2.1,ae,I2,S1⟩
      case round=>
       clear I2 S1 B1;obtain⟨a,b,k,d,rfl,rfl,a0,a1,a6,ak,I,S1⟩:=hrel;obtain⟨m,hm⟩:∃m,m=a+s:=⟨_,rfl⟩;have wm:IntKind.i64.wrap (a+s)=m:=by rw[IntKind.wrap_i64];omega
       have a5:=zH hm;clear hm;by_cases R:b≤n
       ·have Px:b≤(n:Int):=ae
        have k0:d.size=n∧a<m∧m<b∧b≤d.size∧Ss.ie (ltOf J) tag a m b d:=by
         obtain⟨e1,M,F,e4,Y⟩:=I.out;have e6:=HU.out;have e7:=a5.out;have e8:=HN.out;have e9:=F.1;have P:=e4.pre (k:=k) (by rw[Ss.vB,←e6];exact M) b ae R ae;rw[←e7] at P;exact⟨ae,ae,ae,ae,P⟩
        have k1:=HM.out a m b d wr k0.1 S1.out k0.2.1 k0.2.2.1 k0.2.2.2.1 k0.2.2.2.2;clear k0;obtain⟨c,hc⟩:∃c,c=b+u:=⟨_,rfl⟩;have wc:IntKind.i64.wrap (b+u)=c:=by rw[IntKind.wrap_i64];omega
        have I2:Aside (∀e,Ss.eF (ltOf J) tag a b d e→c=b+u∧b=(k+1)*u∧PermIn 0 n d0 e∧Ss.Bs (ltOf J) tag s b n e∧Ss.Bl (ltOf J) tag u b n e):=by
         intro e he;obtain⟨e1,M,F,e4,Y⟩:=I.out;have e6:=HU.out;have e8:=HN.out;have e9:=F.1;have g1:=e1;have g2:=M;rw[e6] at e1 M Y;have f:=Ss.FZ (e:=e) M e4 Y ae ae (by rw[←e1];exact he);rw[←e1,←e6] at f;exact⟨hc,by rw[dR,eE,←g2];exact g1,Su.wG F e8 he.1 R,f.1,f.2⟩
        have HC:Hid (b<c∧c≤n+u):=by have:=HU.out;exact⟨ae,ae⟩
        have HA:=zH a0;clear S1 I hc
        go_wp2_with fail
        first|go_at_call 310|go_at_call 312
        refine k1.mono ?_;rintro ex w2 ⟨rfl,e,he,T1⟩;have S2:Aside (SWK enc Q Z G off e w2):=T1;have I3:Aside _:=I2.out e he;clear k1 T1 I2 he;go_wp2;go_roundg (n-b)
        case measure=>have:=HA.out;omega
        case rel=>exact⟨b,c,_,e,rfl,rfl,HC.out.1,R,HC.out.2,ai _,I3,S2⟩
       ·have Px:¬(b≤(n:Int)):=ae
        have HS:Hid (_∧s<u):=⟨a8,by have:=HU.out;omega⟩;by_cases an:m<n
        ·have a9:m<(n:Int):=ae
         have k0:d.size=n∧a<m∧m<n∧n≤d.size∧Ss.ie (ltOf J) tag a m n d:=by
          obtain⟨e1,M,F,e4,Y⟩:=I.out;have e6:=HU.out;have e7:=a5.out;have e8:=HN.out;have e9:=F.1;have P:=e4.pre (k:=k) (by rw[Ss.vB,←e6];exact M) n ae (ai _) ae;rw[←e7] at P;exact⟨ae,ae,ae,ae,P⟩
         have k1:=HM.out a m n d wr k0.1 S1.out k0.2.1 k0.2.2.1 k0.2.2.2.1 k0.2.2.2.2;clear k0
         have I2:Aside (∀e,Ss.eF (ltOf J) tag a n d e→PermIn 0 n d0 e∧Ss.Bs (ltOf J) tag u 0 n e):=by
          intro e he;obtain⟨e1,M,F,e4,Y⟩:=I.out;have e6:=HU.out;have e8:=HN.out;have e9:=F.1;rw[e6] at e1 M Y;have f:=Ss.xE M Y ae ae he;rw[←e6] at f;exact⟨Su.wG F e8 he.1 (ai _),f⟩
         clear S1 I
         go_wp2_with fail
         first|go_at_call 310|go_at_call 312
         refine k1.mono ?_;rintro ex w2 ⟨rfl,e,he,T1⟩;have S2:Aside (SWK enc Q Z G off e w2):=T1;have I3:Aside _:=I2.out e he;clear k1 T1 I2 he;go_wp2;go_roundg (n-u)
         case measure=>have:=HS.out;omega
         grind
        ·have a9:¬(m<(n:Int)):=ae
         have I3:Aside (PermIn 0 n d0 d∧Ss.Bs (ltOf J) tag u 0 n d):=by
          obtain⟨e1,M,F,e4,Y⟩:=I.out;have e6:=HU.out;have e7:=a5.out;have e8:=HN.out;have e9:=F.1;rw[e6] at e1 M Y;have f:=Ss.F0 M e4 Y ae aa ae;rw[←e6] at f;exact⟨F,f⟩
         clear I;go_wp2;go_roundg (n-u)
         case measure=>have:=HS.out;omega
         grind
     ·have fD:¬(s<(n:Int)):=ae
      have HF:Hid (Ss.eF _ tag 0 n d0 d∧_):=⟨⟨I.out.1,I.out.2.whole ae⟩,S1.out⟩;clear I S1;go_wp2
      go_end0
      exact⟨rfl,d,HF.out⟩
theorem xL(F:Mv P enc Q ins g U J G off Z d0.size)(Y:d0.size<1152921504606846976)(I:Ss.eU tag 0 d0.size d0)cap:
  Calls P V #[.slice (some (G,off)) d0.size cap,.func (.func g) #[] U] Z fun e w'=>e=.returned (.tuple #[])∧∃d',Ss.eF (ltOf J) tag 0 d0.size d0 d'∧SWK enc Q Z G off d' w':=by
 have M:=F9 L T F Y I cap Z (SWK.start T.R.hH);clear T I F;obtain⟨⟨e1,e2,e3,e4,e5,f,⟨t3,a3,z3⟩,⟨t4,a4,z4⟩,Jo,Jp,Jq⟩,L⟩:=L;rcases L with⟨rfl,rfl,rfl,rfl,rfl,rfl,⟨aE,zE,⟨tS,aS,zS⟩,tF,aF,zF⟩,f1,f2,f3,f4,f5⟩|⟨rfl,rfl,rfl,rfl,rfl,rfl,⟨aE,zE,⟨tS,aS,zS⟩,tF,aF,zF⟩,f1,f2,f3,f4,f5⟩
 all_goals
  go_enter f5,nt5
  go_wp2_with fail
  first|go_at_call 300|go_at_call 301
  refine M.mono ?_;rintro ex w2 ⟨rfl,e,he,T1⟩;have S:Hid (_∧_):=⟨he,T1⟩;clear M he T1;go_wp2
  go_end0
  exact⟨rfl,e,S.out⟩
