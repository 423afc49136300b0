import Derived.Test.YtooabooekgphpaaGreatDoorKSUA
import Derived.Deep.DeepCutAuto
set_option linter.all false
open Go.Proofs.Tryz
set_option maxRecDepth 1000000
set_option maxHeartbeats 8000000
namespace Go.Proofs.YtooabooekgphpaaGreatDoor
section
open Go.RowKit Go.Sort Go.Shelf Go.Lib
namespace Su
variable{P:Program}{α:Type}[Inhabited α]{enc:α->List zV}{Q D B E ins O V:Nat}{g:Nat}{U:Array zV}{J:α->α->Int}{G off:Nat}{d0:Array α}{Z:zW}{tag:α->Nat}
 (L:Ly P Q D B E ins O V) (T:Told P enc Q g U J G off d0 Z)
include L T
theorem Ng(cap a m b:Nat)(d:Array α)(w:zW)(hs:d.size=d0.size)(S:SWK enc Q Z G off d w)(hm:a+1<m)(bk:m+1<b)(hb:b<=d.size)(hP:Ss.gC (ltOf J) tag a m b d)
  (ih:∀a' m' b' (d':Array α) (w':zW),b'-a'<b-a->d'.size=d0.size->SWK enc Q Z G off d' w'->a'<m'->m'<b'->b'<=d'.size->Ss.gC (ltOf J) tag a' m' b' d'->qK P enc tag Q E g U J G off cap Z d.size a' m' b' d' w'):
  qK P enc tag Q E g U J G off cap Z d.size a m b d w:=by
 have b0:d.size<4611686018427387904:=by have:=T.sz;omega
 have eg:=T.eg;have HS:=zH hs;have S0:Aside (SWK enc Q Z G off d w):=S;have HT:Aside (Told P enc Q g U J G off d0 Z):=T;have HP:Aside (Ss.gC (ltOf J) tag a m b d):=hP;have IH:Aside _:=ih;have KR:Aside _:=fun st M w S h1 h2 h3=>EP L g U G off cap st m M d0 d Z w T.R hs.symm S h1 h2 h3 b0
 obtain⟨u,hu⟩:∃u,u=m-a:=⟨_,rfl⟩;have wm:IntKind.i64.wrap ((m:Int)-(a:Int))=(u:Int):=by rw[IntKind.wrap_i64];omega
 have wq:((u:Int)==1)=false:=by rw[eI];omega
 obtain⟨v,hv⟩:∃v,v=b-m:=⟨_,rfl⟩;have wn:IntKind.i64.wrap ((b:Int)-(m:Int))=(v:Int):=by rw[IntKind.wrap_i64];omega
 have bq:((v:Int)==1)=false:=by rw[eI];omega
 obtain⟨mid,a5⟩:∃mid,mid=(a+b)/2:=⟨_,rfl⟩;have S9:((a:Int)+(b:Int))/2=(mid:Int):=by omega
 obtain⟨F,ab⟩:∃F,F=mid+m:=⟨_,rfl⟩;have b9:(mid:Int)+(m:Int)=(F:Int):=by omega
 obtain⟨pp,ad⟩:∃pp,pp=F-1:=⟨_,rfl⟩;have bb:(F:Int)-1=(pp:Int):=by omega
 obtain⟨s0,W,h0⟩:∃s0 W:Nat,((m:Int)>(mid:Int)/\(F:Int)-(b:Int)=(s0:Int)/\mid=W)\/(¬(m:Int)>(mid:Int)/\a=s0/\m=W):=by
  by_cases c:mid<m
  ·exact⟨F-b,mid,Or.inl ⟨by omega,by omega,rfl⟩⟩
  ·exact⟨a,m,Or.inr ⟨by omega,rfl,rfl⟩⟩
 have HN:Aside (mid=(a+b)/2/\F=mid+m/\pp=F-1/\(s0=a\/s0+b=F)/\(W=m\/W+m=F)):=⟨a5,ab,ad,by omega,by omega⟩;have bm:F<9223372036854775807:=by omega
 have bn:pp<F:=by omega
 have B0:Aside (a<=s0/\s0<=W/\W<=m/\F<=s0+b/\W+m<=F):=by
  show _/\_;omega
 clear S T hP hs hu hv a5 ab ad ih;obtain⟨⟨e1,e2,e3,e4,e5,b5,⟨t3,a3,z3⟩,⟨t4,a4,z4⟩,He,Hf,Hg⟩,L⟩:=L;rcases L with⟨rfl,rfl,rfl,rfl,rfl,rfl,⟨aE,zE,⟨tS,aS,zS⟩,tF,aF,zF⟩,f1,f2,f3,f4,f5⟩|⟨rfl,rfl,rfl,rfl,rfl,rfl,⟨aE,zE,⟨tS,aS,zS⟩,tF,aF,zF⟩,f1,f2,f3,f4,f5⟩
 all_goals
  go_enter f3,nt3
  go_upto_if 140 with fail
  go_cut [20,21] (fun s r wx=>s=zI s0/\r=zI W/\Aside (SWK enc Q Z G off d wx))
  case first=>
   rcases h0 with⟨c0,c1,c2⟩|⟨c0,c1,c2⟩
   all_goals
    subst c2
    (try subst c1)
    go_wp2_with fail
    go_meet
    exact⟨rfl,rfl,S0⟩
  case rest=>
   obtain⟨a8,a9,S1⟩:=hcut;rw[a8,a9];clear a8 a9 S0 h0
   go_wp2_with fail
   go_loopg [20,21] b (fun kx b6 b7 wr=>∃(st r:Nat),b6=zI st/\b7=zI r/\s0<=st/\st<=r/\r<=W/\r-st<=kx/\Aside (SWK enc Q Z G off d wr)/\Aside ((∀x,s0<=x->x<st->ltOf J d[F-1-x]! d[x]! =false)/\∀x,r<=x->x<W->ltOf J d[F-1-x]! d[x]! =true))
   case atStart=>exact⟨s0,W,rfl,rfl,af _,B0.out.2.1,af _,by have:=B0.out;omega,S1,(⟨fun x h1 h2=>by omega,fun x h1 h2=>by omega⟩:(∀x,s0<=x->x<s0->ltOf J d[F-1-x]! d[x]! =false)/\∀x,W<=x->x<W->ltOf J d[F-1-x]! d[x]! =true)⟩
   case round=>
    clear S1;obtain⟨st,r,rfl,rfl,a7,az,a6,av,S1,I⟩:=hrel;by_cases bi:st<r
    ·have ij:(st:Int)<(r:Int):=by omega
     obtain⟨h,hh⟩:∃h,h=(st+r)/2:=⟨_,rfl⟩;have eh:((st:Int)+(r:Int))/2=(h:Int):=by omega
     have r1:st<=h/\h<r:=by omega
     have HH:=zH r1;obtain⟨t,ht⟩:∃t,t=F-1-h:=⟨_,rfl⟩;have et:(pp:Int)-(h:Int)=(t:Int):=by have:=B0.out;have:=HN.out;omega
     have wt:IntKind.i64.wrap (t:Int)=(t:Int):=by rw[IntKind.wrap_i64];have:=B0.out;have:=HN.out;omega
     have bh:(h:Int)<(d.size:Int):=by have:=B0.out;omega
     have bt:(t:Int)<(d.size:Int):=by have:=B0.out;omega
     have x0:=S1.out.ld HT.out.R HS.out P t (by omega);have y0:=S1.out.ld HT.out.R HS.out P h (by omega);have a1:=S1.out.cmp HT.out.cmp HS.out d[t]! d[h]!
     have HI:Aside (∀q:Int,q=J d[t]! d[h]!->(¬q<0->(∀x,s0<=x->x<h+1->ltOf J d[F-1-x]! d[x]! =false))/\(q<0->∀x,h<=x->x<W->ltOf J d[F-1-x]! d[x]! =true)):=fun q hq=>by
      obtain⟨b1,_,b2,b3,b4⟩:=B0.out;refine⟨fun hl x h1 h2=>?_,fun hl x h1 h2=>?_⟩
      ·exact Ss.M8 HT.out.swo HP.out b1 b2 b3 b4 (c:=h) h1 (by omega) (by omega) (by rw[<-ht];exact aQ (by rw[<-hq];exact hl))
      ·exact Ss.M9 HT.out.swo HP.out b1 b2 b3 b4 (c:=h) (by omega) h1 h2 (by rw[<-ht];exact bj (by rw[<-hq];exact hl))
     generalize d[h]! =Y at x0 y0 a1 HI;generalize d[t]! =X at x0 y0 a1 HI;generalize aq:J X Y=cv at*;clear hh r1 aq ht;by_cases a2:cv<0
     ·have I2:Aside ((∀x,s0<=x->x<st->ltOf J d[F-1-x]! d[x]! =false)/\∀x,h<=x->x<W->ltOf J d[F-1-x]! d[x]! =true):=⟨I.out.1,(HI.out cv rfl).2 a2⟩
      clear HI I
      go_wp2_with fail
      go_quiet_grown (first|(go_at_fn g;refine Calls.grown_of (a1 _ _)))
      have S2:Aside (SWK enc Q Z G off d (grow (wr.drewN nq) osq)):=S1.out.grown nq osq;clear S1 x0 y0 a1;generalize grow (wr.drewN nq) osq=w2 at S2 ⊢;go_wp2;go_roundg (h-st)
      case measure=>have:=HH.out;omega
      case rel=>exact⟨st,h,rfl,rfl,a7,by have:=HH.out;omega,by have:=HH.out;omega,af _,S2,I2⟩
     ·have bc:decide (cv<0)=false:=aQ a2
      have bd:(cv<0)=False:=eq_false a2;have I2:Aside ((∀x,s0<=x->x<h+1->ltOf J d[F-1-x]! d[x]! =false)/\∀x,r<=x->x<W->ltOf J d[F-1-x]! d[x]! =true):=⟨(HI.out cv rfl).1 a2,I.out.2⟩;clear HI I
      go_wp2_with fail
      go_quiet_grown (first|(go_at_fn g;refine Calls.grown_of (a1 _ _)))
      have S2:Aside (SWK enc Q Z G off d (grow (wr.drewN nq) osq)):=S1.out.grown nq osq;clear S1 x0 y0 a1;generalize grow (wr.drewN nq) osq=w2 at S2 ⊢;go_wp2;go_roundg (r-(h+1))
      case measure=>have:=HH.out;omega
      case rel=>exact⟨h+1,r,by go_num,rfl,by have:=HH.out;omega,by have:=HH.out;omega,a6,af _,S2,I2⟩
    ·have ij:¬((st:Int)<(r:Int)):=by omega
     obtain rfl:st=r:=by omega
     obtain⟨M,aa⟩:∃M,M=F-st:=⟨_,rfl⟩;have b8:(F:Int)-(st:Int)=(M:Int):=by have:=B0.out;omega
     have bp:IntKind.i64.wrap ((F:Int)-(st:Int))=(M:Int):=by rw[IntKind.wrap_i64];have:=B0.out;omega
     have HE:Aside (a<=st/\st<=m/\m<=M/\M<=b/\mid=st+(M-m)/\a<mid/\mid<b):=by
      have:=B0.out;have:=HN.out;show _/\_;omega
     have an:Hid (Ss.Found (ltOf J) a m b st M d):=by
      obtain⟨b1,_,b2,b3,b4⟩:=B0.out;rw[aa];exact Ss.J9 HT.out.swo HP.out HN.out.2.2.2.1 HN.out.2.2.2.2 a7 a6 b1 b2 b3 b4 I.out.1 I.out.2
     have au:M<=d.size:=by have:=HE.out;omega
     clear aa I a7 az a6 av;have hR:((st:Int)<(m:Int)/\(m:Int)<(M:Int))\/¬(st:Int)<(m:Int)\/((st:Int)<(m:Int)/\¬(m:Int)<(M:Int)):=by omega
     have hL:((a:Int)<(st:Int)/\(st:Int)<(mid:Int))\/¬(a:Int)<(st:Int)\/((a:Int)<(st:Int)/\¬(st:Int)<(mid:Int)):=by omega
     have hC:((mid:Int)<(M:Int)/\(M:Int)<(b:Int))\/¬(mid:Int)<(M:Int)\/((mid:Int)<(M:Int)/\¬(M:Int)<(b:Int)):=by omega
     have HL:Hid _:=hL;have HC:Hid _:=hC;clear hL hC;have HR:Hid (∀w1,SWK enc Q Z G off d w1->¬(st<m/\m<M)->∃d1,Aside (SWK enc Q Z G off d1 w1)/\Aside (Ss.Rot st m M d d1)):=fun w1 S h=>⟨d,S,by have:=HE.out;exact Ss.Ka (by omega) (by omega) h⟩
     rcases hR with⟨q1,q2⟩|q1|⟨q1,q2⟩
     all_goals
      go_upto_region 41 with((first|go_at_call 264|go_at_call 265);refine(KR.out st M _ S1.out (by omega) (by omega) au).mono ?_;rintro ex wA ⟨rfl,d1,h1,T1⟩;have X1:∃d1,Aside (SWK enc Q Z G off d1 wA)/\Aside (Ss.Rot st m M d d1):=⟨d1,T1,h1⟩)
      (try have X1:=HR.out _ S1.out (by omega))
      clear S1 q1
      (try clear q2)
      (try clear h1 T1)
      obtain⟨d1,SA,RA⟩:=X1
      have a0:Hid (d1.size=d0.size/\Ss.gC (ltOf J) tag a st mid d1/\Ss.gC (ltOf J) tag mid M b d1):=by
       obtain⟨e1,e2,e3,e4,e5,e6,e7⟩:=HE.out;rw[e5];exact⟨RA.out.1.trans HS.out,Ss.qI HP.out RA.out e2 e3 e4,Ss.ow HP.out RA.out e1 e2 e3⟩
      have HB:Hid (∀w1,SWK enc Q Z G off d1 w1->¬(a<st/\st<mid)->∃d2,Aside (SWK enc Q Z G off d2 w1)/\Aside (Ss.eD (ltOf J) tag a mid d1 d2)):=fun w1 S h=>⟨d1,S,by have:=HE.out;exact Ss.zw a0.out.2.1 (by omega) (by omega) h⟩
      have ak:Hid (a<st->st<mid->∀w1,SWK enc Q Z G off d1 w1->qK P enc tag Q _ g U J G off cap Z d.size a st mid d1 w1):=fun p1 p2 w1 S=>IH.out a st mid d1 w1 (by have:=HE.out;omega) a0.out.1 S p1 p2 (by have:=a0.out.1;have:=HS.out;have:=HE.out;omega) a0.out.2.1
      have hL:=HL.out;rcases hL with⟨q1,q2⟩|q1|⟨q1,q2⟩
      all_goals
       go_upto_region 43 with((first|go_at_call 255|go_at_call 257);refine(ak.out (by omega) (by omega) _ SA.out).mono ?_;rintro ex wB ⟨rfl,d2,h2,T2⟩;have X2:∃d2,Aside (SWK enc Q Z G off d2 wB)/\Aside (Ss.eD (ltOf J) tag a mid d1 d2):=⟨d2,T2,h2⟩)
       (try have X2:=HB.out _ SA.out (by omega))
       clear SA q1
       (try clear q2)
       (try clear h2 T2)
       obtain⟨d2,SB,PB⟩:=X2
       have HD:Hid (d2.size=d0.size/\Ss.gC (ltOf J) tag mid M b d2/\∀d3,Ss.eD (ltOf J) tag mid b d2 d3->Ss.eD (ltOf J) tag a b d d3):=by
        obtain⟨e1,e2,e3,e4,e5,e6,e7⟩:=HE.out;exact⟨PB.out.1.1.trans a0.out.1,a0.out.2.2.congr (fun i hi _=>PB.out.1.2.1 i (Or.inr hi)) (by omega) (by omega),fun d3 h3=>Ss.merged HT.out.swo HP.out an.out RA.out e1 e2 e3 e4 hb e5 PB.out h3⟩
       have hC:=HC.out;rcases hC with⟨q1,q2⟩|q1|⟨q1,q2⟩
       all_goals
        go_wp2_with ((first|go_at_call 255|go_at_call 257);refine(IH.out mid M b d2 _ (by have:=HE.out;omega) HD.out.1 SB.out (by omega) (by omega) (by have:=HD.out.1;have:=HS.out;omega) HD.out.2.1).mono ?_;rintro ex wC ⟨rfl,d3,h3,T3⟩;have X3:∃d3,SWK enc Q Z G off d3 wC/\Ss.eD (ltOf J) tag mid b d2 d3:=⟨d3,T3,h3⟩)
        all_goals
         (try have X3:∃d3,SWK enc Q Z G off d3 _/\Ss.eD (ltOf J) tag mid b d2 d3:=⟨d2,SB.out,by have:=HE.out;exact Ss.zw HD.out.2.1 (by omega) (by omega) (by omega)⟩)
         obtain⟨d3,SC,PC⟩:=X3
         go_end0
         exact⟨rfl,d3,HD.out.2.2 d3 PC,SC⟩
end Su
end
section
open Go.RowKit Go.Sort Go.Shelf Go.Lib
namespace Su
variable{P:Program}{α:Type}[Inhabited α]{enc:α->List zV}{Q D B E ins O V:Nat}{g:Nat}{U:Array zV}{J:α->α->Int}{G off:Nat}{d0:Array α}{Z:zW}{tag:α->Nat}
abbrev Ow(P:Program){α:Type}[Inhabited α](enc:α->List zV)(Q ins g:Nat)(U:Array zV)(J:α->α->Int)(G off:Nat)(Z:zW)(n cap:Nat):Prop:=
 ∀(a b:Nat)(d:Array α)(w:zW),d.size=n->SWK enc Q Z G off d w->a<=b->b<=d.size->Calls P ins #[.slice (some ⟨G,off,none⟩) n cap,zI a,zI b,.func (.func g) #[] U] w fun e w'=>e=.returned (.tuple #[])/\SWK enc Q Z G off (Sort.insertionSort (ltOf J) d a b) w'
abbrev Kd(P:Program){α:Type}[Inhabited α](enc:α->List zV)(Q ins g:Nat)(U:Array zV)(J:α->α->Int)(G off:Nat)(Z:zW)(n:Nat):Prop:=∀cap,Ow P enc Q ins g U J G off Z n cap
theorem ER{ρ:Ren}(Lz:SlLaysF0.n20 P ρ)(aE:∀w,(isAgg (ρ.t 24)).run P w=.ok true w)(zE:∀w,(Go.sizeOf (ρ.t 24)).run P w=.ok Q w)(T:Told P enc Q g U J G off d0 Z):Kd P enc Q (ρ.f 20) g U J G off Z d0.size:=by
 intro cap a b d w hs S F hb;have M:(Sort.insertionSort (ltOf J) d a b).size=d.size:=(insertionSort_holds T.swo d a b F hb).1.1;have a0:=T.sz
 have hC:CmpLays P g U enc Q J G off d.size w:=fun m os Y I x y=>by
  obtain⟨n0,W,rfl⟩:=S;rw[sortWorldK_on enc Q Z G off n0 m d Y W os T.R.hblk I];exact T.cmp _ _ Y (by omega) x y
 rw[<-hs];refine(AnyQ.insertionSortCmpFunc Lz Q aE zE enc T.R.hk T.R.h1 J g U G off cap a b d w T.eg hC (S.holds T.R.hblk T.R.hH hs) (S.lt T.R.hblk) F hb (by omega)).mono ?_;rintro e w' ⟨rfl,n,os,rfl⟩;exact⟨rfl,S.on T.R.hblk n _ os M⟩
theorem vM{a b n:Nat}{d e:Array α}(h:PermIn 0 n d0 d)(M:n=d0.size)(I:PermIn a b d e)(F:b<=n):PermIn 0 n d0 e:=
 permIn_trans d0 d e 0 n h (permIn_mono d e a b 0 n (aL _) F (by rw[h.1];omega) I)
theorem nt4:f243.ntmps=63/\f244.ntmps=63:=⟨ntmps243,ntmps244⟩
theorem nt5:f215.ntmps=9/\f217.ntmps=9:=⟨ntmps215,ntmps217⟩
section
variable(L:Ly P Q D B E ins O V)(T:Told P enc Q g U J G off d0 Z)
include L T
theorem A9(cap:Nat):∀(n a m b:Nat)(d:Array α)(w:zW),b-a<=n->d.size=d0.size->SWK enc Q Z G off d w->a<m->m<b->b<=d.size->Ss.gC (ltOf J) tag a m b d->qK P enc tag Q E g U J G off cap Z d0.size a m b d w:=by
 intro n
 induction n with
 |zero=>intro a m b d w hn _ _ h1 Y _ _;omega
 |succ n ih=>
  intro a m b d w hn F S h1 Y M I;rw[<-F];by_cases c1:m=a+1
  ·exact Nf L T cap a m b d w F S c1 Y M I
  ·by_cases c2:b=m+1
   ·exact Kc L T cap a m b d w F S (by omega) c2 M I
   ·exact Ng L T cap a m b d w F S (by omega) (by omega) M I fun a' m' b' d' w' a0 W S' k1 k2 k3 k4=>by
     rw[F];exact ih a' m' b' d' w' (by omega) W S' k1 k2 k3 k4
theorem ES(KI:Kd P enc Q ins g U J G off Z d0.size)(JC:d0.size<1152921504606846976)(ht:Ss.eO tag 0 d0.size d0)(cap:Nat)(w:zW)(S:SWK enc Q Z G off d0 w):
  Calls P O #[.slice (some ⟨G,off,none⟩) d0.size cap,zI d0.size,.func (.func g) #[] U] w fun e w'=>e=.returned (.tuple #[])/\∃d',Ss.eD (ltOf J) tag 0 d0.size d0 d'/\SWK enc Q Z G off d' w':=by
 have a2:=KI cap;have QM:=fun a m b d w hs S h1 h2 hb hP=>A9 (tag:=tag) L T cap (b-a) a m b d w (af _) hs S h1 h2 hb hP
 obtain⟨n,hn⟩:∃n,n=d0.size:=⟨_,rfl⟩;have HI:Aside (Ow P enc Q ins g U J G off Z n cap):=by rw[hn];exact a2
 have HM:Aside (∀(a m b:Nat)(d:Array α)(w:zW),d.size=n->SWK enc Q Z G off d w->a<m->m<b->b<=d.size->Ss.gC (ltOf J) tag a m b d->qK P enc tag Q E g U J G off cap Z n a m b d w):=by rw[hn];exact QM
 have HT:Aside (Told P enc Q g U J G off d0 Z):=T;have HN:=zH hn;have S0:Aside (SWK enc Q Z G off d0 w):=S;have HB:Hid (Ss.eO tag 0 n d0):=by rw[hn];exact ht
 rw[<-hn] at JC ⊢;clear a2 QM T KI S ht hn;obtain⟨⟨e1,M,F,e4,e5,ab,⟨t3,a3,z3⟩,⟨t4,a4,z4⟩,He,Hf,Hg⟩,L⟩:=L;rcases L with⟨rfl,rfl,rfl,rfl,rfl,rfl,⟨aE,zE,⟨tS,aS,zS⟩,tF,aF,zF⟩,f1,f2,f3,f4,f5⟩|⟨rfl,rfl,rfl,rfl,rfl,rfl,⟨aE,zE,⟨tS,aS,zS⟩,tF,aF,zF⟩,f1,f2,f3,f4,f5⟩
 all_goals
  go_enter f4,nt4;go_wp2;go_loopg [7,8] n (fun kx s7 s8 wr=>∃(a b k:Nat)(d:Array α),s7=zI a/\s8=zI b/\a<b/\a<=n/\b<=n+20/\n-a<=kx/\Aside (b=a+20/\a=k*20/\PermIn 0 n d0 d/\Ss.Bl (ltOf J) tag 20 a n d/\Ss.eO tag a n d)/\Aside (SWK enc Q Z G off d wr))
  case atStart=>exact⟨0,20,0,d0,rfl,rfl,by omega,by omega,by omega,by omega,(⟨rfl,rfl,permIn_refl d0 0 n,Ss.Bl.none 20 n (by omega) d0,HB.out⟩:(20=0+20/\0=0*20/\PermIn 0 n d0 d0/\Ss.Bl (ltOf J) tag 20 0 n d0/\Ss.eO tag 0 n d0)),S0⟩
  case round=>
   clear S0 HB;obtain⟨a,b,k,d,rfl,rfl,a0,a1,a6,a7,I,Y⟩:=hrel;by_cases W:b<=n
   ·have Nh:(b:Int)<=(n:Int):=by omega
    have k1:=HI.out a b d wr (I.out.2.2.1.1.trans HN.out.symm) Y.out (by omega) (by rw[I.out.2.2.1.1,<-HN.out];exact W);obtain⟨c,hc⟩:∃c,c=b+20:=⟨_,rfl⟩;have wc:IntKind.i64.wrap ((b:Int)+20)=(c:Int):=by rw[IntKind.wrap_i64];omega
    have I2:Aside (c=b+20/\b=(k+1)*20/\PermIn 0 n d0 (Sort.insertionSort (ltOf J) d a b)/\Ss.Bl (ltOf J) tag 20 b n (Sort.insertionSort (ltOf J) d a b)/\Ss.eO tag b n (Sort.insertionSort (ltOf J) d a b)):=by
     obtain⟨e1,M,F,e4,e5⟩:=I.out;have f:=Ss.EM HT.out.swo M e4 e5 (by omega) (by rw[F.1,<-HN.out];omega);rw[<-e1] at f;exact⟨hc,by omega,Su.vM F HN.out f.1 W,f.2.1,f.2.2⟩
    have HC:Hid (b<c/\c<=n+20):=⟨by omega,by omega⟩;have HA:Hid (a<b):=a0;clear Y I hc
    go_wp2_with fail
    first|go_at_call 230|go_at_call 256
    refine k1.mono ?_;rintro ex w2 ⟨rfl,T1⟩;have S2:Aside (SWK enc Q Z G off (Sort.insertionSort (ltOf J) d a b) w2):=T1;clear k1 T1;go_wp2;go_roundg (n-b)
    case measure=>have:=HA.out;omega
    case rel=>exact⟨b,c,k+1,Sort.insertionSort (ltOf J) d a b,rfl,rfl,HC.out.1,W,HC.out.2,af _,I2,S2⟩
   ·have Nh:¬((b:Int)<=(n:Int)):=by omega
    have k1:=HI.out a n d wr (I.out.2.2.1.1.trans HN.out.symm) Y.out a1 (by rw[I.out.2.2.1.1,<-HN.out];exact af _)
    have I2:Aside (PermIn 0 n d0 (Sort.insertionSort (ltOf J) d a n)/\Ss.Bs (ltOf J) tag 20 0 n (Sort.insertionSort (ltOf J) d a n)):=by
     obtain⟨e1,M,F,e4,e5⟩:=I.out;have f:=Ss.EN HT.out.swo M e4 e5 a1 (by omega) (by rw[F.1,<-HN.out];omega);exact⟨Su.vM F HN.out f.1 (af _),f.2⟩
    clear Y I
    go_wp2_with fail
    first|go_at_call 230|go_at_call 256
    refine k1.mono ?_;rintro ex w2 ⟨rfl,T1⟩;have S2:Aside (SWK enc Q Z G off (Sort.insertionSort (ltOf J) d a n) w2):=T1;clear k1 T1;generalize Sort.insertionSort (ltOf J) d a n=d1 at I2 S2;clear HI a7 Nh W a0 a6 a1;go_wp2;go_loopg [6,7,8] n (fun ky s6 s7 s8 wr=>∃(s:Nat)(d:Array α),s6=zI s/\0<s/\s<=n+n+20/\n-s<=ky/\Aside (PermIn 0 n d0 d/\Ss.Bs (ltOf J) tag s 0 n d)/\Aside (SWK enc Q Z G off d wr))
    case atStart=>exact⟨20,d1,rfl,by omega,by omega,by omega,I2,S2⟩
    case round=>
     clear I2 S2;obtain⟨s,d,rfl,aa,aq,ad,I,Y⟩:=hrel;by_cases a8:s<n
     ·have ij:(s:Int)<(n:Int):=by omega
      obtain⟨u,hu⟩:∃u,u=s+s:=⟨_,rfl⟩;have wu:IntKind.i64.wrap (2*(s:Int))=(u:Int):=by rw[IntKind.wrap_i64];omega
      have au:IntKind.i64.wrap ((s:Int)*2)=(u:Int):=by rw[IntKind.wrap_i64];omega
      have HU:=zH hu;have I2:Aside (u=0+u/\0=0*u/\PermIn 0 n d0 d/\Ss.Bs (ltOf J) tag s 0 n d/\Ss.Bl (ltOf J) tag u 0 n d):=⟨by omega,by omega,I.out.1,I.out.2,Ss.Bl.none u n (by omega) d⟩;have B1:Hid (0<u/\u<=n+u/\0<=n):=⟨by omega,by omega,by omega⟩;have ub:u<=n+n:=by omega
      clear I hu;go_wp2;go_loopg [7,8] n (fun kz s7 s8 wr=>∃(a b k:Nat)(d:Array α),s7=zI a/\s8=zI b/\a<b/\a<=n/\b<=n+u/\n-a<=kz/\Aside (b=a+u/\a=k*u/\PermIn 0 n d0 d/\Ss.Bs (ltOf J) tag s a n d/\Ss.Bl (ltOf J) tag u a n d)/\Aside (SWK enc Q Z G off d wr))
      case atStart=>exact⟨0,u,0,d,rfl,rfl,B1.out.1,B1.out.2.2,B1.out.2.1,by omega,I2,Y⟩
      case round=>
       clear I2 Y B1;obtain⟨a,b,k,d,rfl,rfl,a0,a1,a6,ak,I,Y⟩:=hrel;obtain⟨m,hm⟩:∃m,m=a+s:=⟨_,rfl⟩;have wm:IntKind.i64.wrap ((a:Int)+(s:Int))=(m:Int):=by rw[IntKind.wrap_i64];omega
       have a5:=zH hm;clear hm;by_cases W:b<=n
       ·have Nh:(b:Int)<=(n:Int):=by omega
        have k0:d.size=n/\a<m/\m<b/\b<=d.size/\Ss.gC (ltOf J) tag a m b d:=by
         obtain⟨e1,M,F,e4,e5⟩:=I.out;have e6:=HU.out;have e7:=a5.out;have e8:=HN.out;have e9:=F.1;have P:=e4.pre (k:=k) (by rw[Ss.jk,<-e6];exact M) b (by omega) W (by omega);rw[<-e7] at P;exact⟨by omega,by omega,by omega,by omega,P⟩
        have k1:=HM.out a m b d wr k0.1 Y.out k0.2.1 k0.2.2.1 k0.2.2.2.1 k0.2.2.2.2;clear k0;obtain⟨c,hc⟩:∃c,c=b+u:=⟨_,rfl⟩;have wc:IntKind.i64.wrap ((b:Int)+(u:Int))=(c:Int):=by rw[IntKind.wrap_i64];omega
        have I2:Aside (∀e,Ss.eD (ltOf J) tag a b d e->c=b+u/\b=(k+1)*u/\PermIn 0 n d0 e/\Ss.Bs (ltOf J) tag s b n e/\Ss.Bl (ltOf J) tag u b n e):=by
         intro e he;obtain⟨e1,M,F,e4,e5⟩:=I.out;have e6:=HU.out;have e8:=HN.out;have e9:=F.1;have g1:=e1;have g2:=M;rw[e6] at e1 M e5;have f:=Ss.EK (e:=e) M e4 e5 (by omega) (by omega) (by rw[<-e1];exact he);rw[<-e1,<-e6] at f;exact⟨hc,by rw[eJ,eV,<-g2];exact g1,Su.vM F e8 he.1 W,f.1,f.2⟩
        have HC:Hid (b<c/\c<=n+u):=by have:=HU.out;exact⟨by omega,by omega⟩
        have HA:Hid (a<b):=a0;clear Y I hc
        go_wp2_with fail
        first|go_at_call 255|go_at_call 257
        refine k1.mono ?_;rintro ex w2 ⟨rfl,e,he,T1⟩;have S2:Aside (SWK enc Q Z G off e w2):=T1;have I3:Aside (c=b+u/\b=(k+1)*u/\PermIn 0 n d0 e/\Ss.Bs (ltOf J) tag s b n e/\Ss.Bl (ltOf J) tag u b n e):=I2.out e he;clear k1 T1 I2 he;go_wp2;go_roundg (n-b)
        case measure=>have:=HA.out;omega
        case rel=>exact⟨b,c,k+1,e,rfl,rfl,HC.out.1,W,HC.out.2,af _,I3,S2⟩
       ·have Nh:¬((b:Int)<=(n:Int)):=by omega
        have HS:Hid (s<n/\s<u):=⟨a8,by have:=HU.out;omega⟩;by_cases an:m<n
        ·have a9:(m:Int)<(n:Int):=by omega
         have k0:d.size=n/\a<m/\m<n/\n<=d.size/\Ss.gC (ltOf J) tag a m n d:=by
          obtain⟨e1,M,F,e4,e5⟩:=I.out;have e6:=HU.out;have e7:=a5.out;have e8:=HN.out;have e9:=F.1;have P:=e4.pre (k:=k) (by rw[Ss.jk,<-e6];exact M) n (by omega) (af _) (by omega);rw[<-e7] at P;exact⟨by omega,by omega,by omega,by omega,P⟩
         have k1:=HM.out a m n d wr k0.1 Y.out k0.2.1 k0.2.2.1 k0.2.2.2.1 k0.2.2.2.2;clear k0
         have I2:Aside (∀e,Ss.eD (ltOf J) tag a n d e->PermIn 0 n d0 e/\Ss.Bs (ltOf J) tag u 0 n e):=by
          intro e he;obtain⟨e1,M,F,e4,e5⟩:=I.out;have e6:=HU.out;have e8:=HN.out;have e9:=F.1;rw[e6] at e1 M e5;have f:=Ss.wS (e:=e) M e5 (by omega) (by omega) he;rw[<-e6] at f;exact⟨Su.vM F e8 he.1 (af _),f⟩
         clear Y I
         go_wp2_with fail
         first|go_at_call 255|go_at_call 257
         refine k1.mono ?_;rintro ex w2 ⟨rfl,e,he,T1⟩;have S2:Aside (SWK enc Q Z G off e w2):=T1;have I3:Aside (PermIn 0 n d0 e/\Ss.Bs (ltOf J) tag u 0 n e):=I2.out e he;clear k1 T1 I2 he;go_wp2;go_roundg (n-u)
         case measure=>have:=HS.out;omega
         case rel=>exact⟨u,e,rfl,by have:=HS.out;omega,by have:=HS.out;omega,af _,I3,S2⟩
        ·have a9:¬((m:Int)<(n:Int)):=by omega
         have I3:Aside (PermIn 0 n d0 d/\Ss.Bs (ltOf J) tag u 0 n d):=by
          obtain⟨e1,M,F,e4,e5⟩:=I.out;have e6:=HU.out;have e7:=a5.out;have e8:=HN.out;have e9:=F.1;rw[e6] at e1 M e5;have f:=Ss.EL M e4 e5 (by omega) aa (by omega);rw[<-e6] at f;exact⟨F,f⟩
         clear I;go_wp2;go_roundg (n-u)
         case measure=>have:=HS.out;omega
         case rel=>exact⟨u,d,rfl,by have:=HS.out;omega,by have:=HS.out;omega,af _,I3,Y⟩
     ·have ij:¬((s:Int)<(n:Int)):=by omega
      have HF:Hid (Ss.eD (ltOf J) tag 0 n d0 d/\SWK enc Q Z G off d wr):=⟨⟨I.out.1,I.out.2.whole (by omega)⟩,Y.out⟩;clear I Y;go_wp2
      go_end0
      exact⟨rfl,d,HF.out⟩
theorem wW(I:Kd P enc Q ins g U J G off Z d0.size)(JC:d0.size<1152921504606846976)(S:Ss.eO tag 0 d0.size d0)(cap:Nat):
  Calls P V #[.slice (some ⟨G,off,none⟩) d0.size cap,.func (.func g) #[] U] Z fun e w'=>e=.returned (.tuple #[])/\∃d',Ss.eD (ltOf J) tag 0 d0.size d0 d'/\SWK enc Q Z G off d' w':=by
 have W:=ES L T I JC S cap Z (SWK.start T.R.hH);clear T S I;obtain⟨⟨e1,e2,e3,e4,e5,F,⟨t3,a3,z3⟩,⟨t4,a4,z4⟩,He,Hf,Hg⟩,L⟩:=L;rcases L with⟨rfl,rfl,rfl,rfl,rfl,rfl,⟨aE,zE,⟨tS,aS,zS⟩,tF,aF,zF⟩,f1,f2,f3,f4,f5⟩|⟨rfl,rfl,rfl,rfl,rfl,rfl,⟨aE,zE,⟨tS,aS,zS⟩,tF,aF,zF⟩,f1,f2,f3,f4,f5⟩
 all_goals
  go_enter f5,nt5
  go_wp2_with fail
  first|go_at_call 243|go_at_call 244
  refine W.mono ?_;rintro ex w2 ⟨rfl,e,he,M⟩;have Y:Hid (Ss.eD (ltOf J) tag 0 d0.size d0 e/\SWK enc Q Z G off e w2):=⟨he,M⟩;clear W he M;go_wp2
  go_end0
  exact⟨rfl,e,Y.out⟩
