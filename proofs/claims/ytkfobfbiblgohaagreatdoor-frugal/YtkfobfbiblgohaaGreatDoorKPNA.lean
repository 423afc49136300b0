import Derived.Test.YtkfobfbiblgohaaGreatDoorKPMK
set_option linter.all false
open Go.Proofs.Tryz
set_option maxRecDepth 100000
set_option maxHeartbeats 9000000
namespace Go.Proofs.YtkfobfbiblgohaaGreatDoor
open Go.RowKit
namespace Pn
open Mf Ed
def dR:List Int->Int
 |[]=>0
 |x::r=>if x=0 then dR r else x
theorem JH(a:Int)(w:zW):zC 111 #[zI a] w fun e w'=>e=.returned (.bool false)/\w'=w:=by
 go_enter func111,ntmps111;go_wp2;go_ret;exact⟨by simp,rfl⟩
theorem FR(a:Int)(w:zW):zC 131 #[zI a] w fun e w'=>e=.returned (.bool false)/\w'=w:=by
 go_enter func131,ntmps131;go_wp2;go_ret;exact⟨by simp,rfl⟩
theorem yM(a b:Int)(w:zW):zC 83 #[zI a,zI b] w fun e w'=>e=.returned (zI (Lib.compareInt a b))/\w'=w:=by
 have E:=JH;unfold Lib.compareInt;by_cases F:a<b
 ·rw[aj F]
  go_enter func83,ntmps83
  go_wp2_with (go_at_call 111;refine(E _ _).mono ?_;rintro e w' ⟨rfl,rfl⟩)
  go_ret;exact⟨rfl,rfl⟩
 ·rw[ag F]
  by_cases G:a>b
  ·rw[aj G]
   go_enter func83,ntmps83
   go_wp2_with (go_at_call 111;refine(E _ _).mono ?_;rintro e w' ⟨rfl,rfl⟩)
   go_ret;exact⟨rfl,rfl⟩
  ·rw[ag G]
   go_enter func83,ntmps83
   go_wp2_with (go_at_call 111;refine(E _ _).mono ?_;rintro e w' ⟨rfl,rfl⟩)
   go_ret;exact⟨rfl,rfl⟩
theorem Em(a b:Int)(w:zW):zC 98 #[zI a,zI b] w fun e w'=>e=.returned (zI (Lib.compareInt a b))/\w'=w:=by
 have E:=FR;unfold Lib.compareInt;by_cases F:a<b
 ·rw[aj F]
  go_enter func98,ntmps98
  go_wp2_with (go_at_call 131;refine(E _ _).mono ?_;rintro e w' ⟨rfl,rfl⟩)
  go_ret;exact⟨rfl,rfl⟩
 ·rw[ag F]
  by_cases G:a>b
  ·rw[aj G]
   go_enter func98,ntmps98
   go_wp2_with (go_at_call 131;refine(E _ _).mono ?_;rintro e w' ⟨rfl,rfl⟩)
   go_ret;exact⟨rfl,rfl⟩
  ·rw[ag G]
   go_enter func98,ntmps98
   go_wp2_with (go_at_call 131;refine(E _ _).mono ?_;rintro e w' ⟨rfl,rfl⟩)
   go_ret;exact⟨rfl,rfl⟩
theorem OE{l:List Int}{i:Nat}{x:Int}(h:l[i]?=some x):(x=0->dR (l.drop i)=dR (l.drop (i+1)))/\(x≠0->dR (l.drop i)=x):=by
 obtain⟨E,e⟩:=dB.1 h;rw[dC E,e,dR];exact⟨fun h=>aj h,fun h=>ag h⟩
theorem Mz(b c:Nat)(l:List Int)(w:zW)(hl:l.length<=100)(h:∀j x,l[j]?=some x->w.cell? (tD b j)=some (zI x)):
  zC 82 #[.slice (some (tD b 0)) l.length c] w fun e w'=>e=.returned (zI (dR l))/\w'=w:=by
 have HC:Hid (∀j x,l[j]?=some x->w.cell? (tD b j)=some (zI x)):=h;have H0:Hid (dR (l.drop 0)=dR l):=rfl;clear h;generalize G:dR l=r at*;clear G;generalize hn:l.length=n at*;have I:=zH hn;clear hn;go_enter func82,ntmps82;go_wp2;go_loopg [8] n (fun gg s wr=>∃i:Nat,i<=n/\n-i<=gg/\s=zI i/\wr=w/\Hid (dR (l.drop i)=r))
 case atStart=>exact⟨0,by omega,by omega,rfl,rfl,H0⟩
 case round=>
  obtain⟨i,hi,hg,rfl,rfl,M⟩:=hrel;by_cases E:i<n
  ·have Y:((i:Nat):Int)<(n:Int):=by omega
   have O:l[i]?=some (l[i]'(by rw[I.out];exact E)):=aZ (by rw[I.out];exact E);have c0:=HC.out i _ O;obtain⟨U,V⟩:=OE O;generalize l[i]'(by rw[I.out];exact E)=x at*;by_cases F:x=0
   ·subst F
    have T:Hid (dR (l.drop (i+1))=r):=by
     show dR (l.drop (i+1))=r;rw[<-U rfl];exact M.out
    clear U V O;go_wp2;go_roundg (n-(i+1))
    case measure=>omega
    case rel=>exact⟨i+1,by omega,by omega,by go_num,rfl,T⟩
   ·have G:x=r:=by rw[<-M.out];exact(V F).symm
    have q0:(x==0)=false:=by simp[F]
    subst G;clear U V O M H0;go_wp2;go_ret;exact⟨rfl,rfl⟩
  ·have Y:(((i:Nat):Int)<(n:Int))=False:=by simp;omega
   have G:r=0:=by
    rw[<-M.out,sg (by rw[I.out];omega)]
    rfl
   subst G;go_wp2;go_ret;exact⟨rfl,rfl⟩
def vh(a b:Nat):Int:=Lib.compareInt a b
theorem Cf:Pv.Cmp (fun _=>True) vh:=⟨fun a b _ _=>Pv.nc.anti a b trivial trivial,fun a b _ _ h=>by have:=Pv.nc.zero (a:Int) b trivial trivial h;omega,fun a b c _ _ _ E F=>Pv.nc.trans a b c trivial trivial trivial E F⟩
def tN:Pb->Pb->Int:=Pv.lex vh (Pv.lex dQ dQ)
theorem MA:Pv.Cmp (fun _=>True) tN:=Pv.pT Cf (Pv.pT lY lY)
theorem SL(a b:Pb):dR [Lib.compareInt a.1 b.1,dQ a.2.1 b.2.1,dQ a.2.2 b.2.2]=tN a b:=by
 unfold tN Pv.lex vh;simp only[dR]
 split
 ·split
  ·split
   ·rename_i h;rw[h]
   ·rfl
  ·rfl
 ·rfl
end Pn
namespace Pn
open Mf Ed
theorem or3(b:Nat)(x y z:Int)(W:zW)(h:W.heap[b]?=some (.cells #[zI x,zI y,zI z] 3)):zC 82 #[.slice (some (tD b 0)) 3 3] W fun e w'=>e=.returned (zI (dR [x,y,z]))/\w'=W:=by
 obtain⟨⟨F,_⟩,⟨G,_⟩,⟨I,_⟩⟩:=fd3 h;refine Mz b 3 [x,y,z] W (by simp) (fun j u E=>?_);rcases j with _|_|_|j
 ·injection E with E;rw[<-E];exact F
 ·injection E with E;rw[<-E];exact G
 ·injection E with E;rw[<-E];exact I
 ·simp at E
theorem Ug(W:zW)(x y z:Int):zC 82 #[.slice (some (tD W.heap.size 0)) 3 3] (W.alloc (.cells #[zI x,zI y,zI z] 3)).drew fun e w'=>e=.returned (zI (dR [x,y,z]))/\w'=(W.alloc (.cells #[zI x,zI y,zI z] 3)).drew:=or3 W.heap.size x y z _ (aA W _)
theorem qx(a b:Pb)(w:zW):zC 66 #[.agg #[zI (a.1:Nat),tS a.2.1,tS a.2.2],.agg #[zI (b.1:Nat),tS b.2.1,tS b.2.2]] w fun e w'=>e=.returned (zI (tN a b))/\Dr.Below w.heap.size w w':=by
 rw[<-SL a b];obtain⟨a0,E,F⟩:=a;obtain⟨b0,I,M⟩:=b;show zC 66 #[.agg #[zI (a0:Nat),tS E,tS F],.agg #[zI (b0:Nat),tS I,tS M]] w fun e w'=>e=.returned (zI (dR [Lib.compareInt a0 b0,dQ E I,dQ F M]))/\Dr.Below w.heap.size w w'
 generalize ((a0:Nat):Int)=O;generalize ((b0:Nat):Int)=U;have T:Dr.Below w.heap.size w (w.alloc (.cells #[zI O,tS E,tS F] 95)):=(Dr.Below.refl _ _).alloc (ah _) _;have V:Hid (Dr.Below w.heap.size w ((w.alloc (.cells #[zI O,tS E,tS F] 95)).alloc (.cells #[zI U,tS I,tS M] 95))):=T.alloc T.size _;have Y:Hid (((w.alloc (.cells #[zI O,tS E,tS F] 95)).alloc (.cells #[zI U,tS I,tS M] 95)).heap[w.heap.size]?=some (.cells #[zI O,tS E,tS F] 95)):=(aH _ _ _ (by simp)).trans (aA _ _);have a3:Hid (((w.alloc (.cells #[zI O,tS E,tS F] 95)).alloc (.cells #[zI U,tS I,tS M] 95)).heap[w.heap.size+1]?=some (.cells #[zI U,tS I,tS M] 95)):=eD w _ _;clear T;go_enter func66,ntmps66;go_upto_region 1 with fail;generalize (w.alloc (.cells #[zI O,tS E,tS F] 95)).alloc (.cells #[zI U,tS I,tS M] 95)=W1 at*;have a4:=V.out.size
 have G:Hid (∀W,zB W1 W->W.cell? (tD w.heap.size 0)=some (zI O)/\W.cell? (tD w.heap.size 1)=some (tS E)/\W.cell? (tD w.heap.size 2)=some (tS F)/\W.cell? (tD (w.heap.size+1) 0)=some (zI U)/\W.cell? (tD (w.heap.size+1) 1)=some (tS I)/\W.cell? (tD (w.heap.size+1) 2)=some (tS M)):=fun W hb=>by
  obtain⟨⟨c0,_⟩,⟨c1,_⟩,⟨c2,_⟩⟩:=fd3 ((hb.block _ (af Y.out)).trans Y.out);obtain⟨⟨d0,_⟩,⟨d1,_⟩,⟨d2,_⟩⟩:=fd3 ((hb.block _ (af a3.out)).trans a3.out);exact⟨c0,c1,c2,d0,d1,d2⟩
 obtain⟨p0,p1,p2,p3,p4,p5⟩:=G.out W1 (ae _ _)
 go_region_held3 (fun w'=>w'.cell? (tD w.heap.size 0)=some (zI O)/\w'.cell? (tD w.heap.size 1)=some (tS E)/\w'.cell? (tD w.heap.size 2)=some (tS F)/\w'.cell? (tD (w.heap.size+1) 0)=some (zI U)/\w'.cell? (tD (w.heap.size+1) 1)=some (tS I)/\w'.cell? (tD (w.heap.size+1) 2)=some (tS M))
  (first|exact⟨p0,p1,p2,p3,p4,p5⟩|exact G.out _ ((ae _ _).drew)|exact G.out _ ((ax (ae _ _) _).drew)|exact G.out _ (ax ((ae _ _).drew) _))
  (first
   |(go_at_call 83;refine(yM _ _ _).mono ?_;rintro e w' ⟨rfl,rfl⟩)
   |(go_at_call 84;refine(Tryz.strings_Compare _ _ _).mono ?_;rintro e w' ⟨rfl,rfl⟩)
   |(go_at_call 82;refine(Ug W1 _ _ _).mono ?_;rintro e w' ⟨rfl,rfl⟩))
 all_goals
  go_wp2;go_ret;exact⟨rfl,(V.out.alloc a4 _).drew⟩
end Pn
namespace Pn
open Mf Ed
abbrev Rs:=Nat×Nat×zA×zA
def jI(x:Rs):List zV:=[zI ((x.2.1:Nat):Int),tS x.2.2.1,tS x.2.2.2,zI ((x.1:Nat):Int)]
def pH:Rs->Rs->Int:=Pv.lex vh (Pv.lex vh (Pv.lex dQ dQ))
theorem FT:Pv.Cmp (fun _=>True) pH:=Pv.pT Cf (Pv.pT Cf (Pv.pT lY lY))
theorem SN(a b:Rs):dR [Lib.compareInt a.1 b.1,Lib.compareInt a.2.1 b.2.1,dQ a.2.2.1 b.2.2.1,dQ a.2.2.2 b.2.2.2]=pH a b:=by
 unfold pH Pv.lex vh;simp only[dR]
 split
 ·split
  ·split
   ·split
    ·rename_i h;rw[h]
    ·rfl
   ·rfl
  ·rfl
 ·rfl
theorem MB{W:zW}{r:Nat}{t:TypeId}{E F G I:zV}(h:W.heap[r]?=some (.cells #[E,F,G,I] t)):W.cell? (tD r 0)=some E/\W.cell? (tD r 1)=some F/\W.cell? (tD r 2)=some G/\W.cell? (tD r 3)=some I:=by
 simp only[World.cell?,h];exact⟨rfl,rfl,rfl,rfl⟩
theorem Uh(W:zW)(x y z u:Int):zC 82 #[.slice (some (tD W.heap.size 0)) 4 4] (W.alloc (.cells #[zI x,zI y,zI z,zI u] 3)).drew fun e w'=>e=.returned (zI (dR [x,y,z,u]))/\w'=(W.alloc (.cells #[zI x,zI y,zI z,zI u] 3)).drew:=by
 have h:(W.alloc (.cells #[zI x,zI y,zI z,zI u] 3)).drew.heap[W.heap.size]?=some (.cells #[zI x,zI y,zI z,zI u] 3):=aA W _;obtain⟨F,G,I,M⟩:=MB h;refine Mz W.heap.size 4 [x,y,z,u] _ (by simp) (fun j v E=>?_);rcases j with _|_|_|_|j
 ·injection E with E;rw[<-E];exact F
 ·injection E with E;rw[<-E];exact G
 ·injection E with E;rw[<-E];exact I
 ·injection E with E;rw[<-E];exact M
 ·simp at E
theorem pI(a b:Rs)(w:zW):zC 78 #[.agg (jI a).toArray,.agg (jI b).toArray] w fun e w'=>e=.returned (zI (pH a b))/\Dr.Below w.heap.size w w':=by
 rw[<-SN a b];obtain⟨an,ak,E,F⟩:=a;obtain⟨bn,bk,I,M⟩:=b;show zC 78 #[.agg #[zI ((ak:Nat):Int),tS E,tS F,zI ((an:Nat):Int)],.agg #[zI ((bk:Nat):Int),tS I,tS M,zI ((bn:Nat):Int)]] w fun e w'=>e=.returned (zI (dR [Lib.compareInt an bn,Lib.compareInt ak bk,dQ E I,dQ F M]))/\Dr.Below w.heap.size w w'
 generalize ((an:Nat):Int)=T;generalize ((ak:Nat):Int)=O;generalize ((bn:Nat):Int)=Y;generalize ((bk:Nat):Int)=V;have U:Dr.Below w.heap.size w (w.alloc (.cells #[zI O,tS E,tS F,zI T] 117)):=(Dr.Below.refl _ _).alloc (ah _) _;have a0:Hid (Dr.Below w.heap.size w ((w.alloc (.cells #[zI O,tS E,tS F,zI T] 117)).alloc (.cells #[zI V,tS I,tS M,zI Y] 117))):=U.alloc U.size _;have a1:Hid (((w.alloc (.cells #[zI O,tS E,tS F,zI T] 117)).alloc (.cells #[zI V,tS I,tS M,zI Y] 117)).heap[w.heap.size]?=some (.cells #[zI O,tS E,tS F,zI T] 117)):=(aH _ _ _ (by simp)).trans (aA _ _);have a2:Hid (((w.alloc (.cells #[zI O,tS E,tS F,zI T] 117)).alloc (.cells #[zI V,tS I,tS M,zI Y] 117)).heap[w.heap.size+1]?=some (.cells #[zI V,tS I,tS M,zI Y] 117)):=eD w _ _;clear U;go_enter func78,ntmps78;go_upto_region 1 with fail;generalize ((w.alloc (.cells #[zI O,tS E,tS F,zI T] 117)).alloc (.cells #[zI V,tS I,tS M,zI Y] 117))=W1 at*;have a3:=a0.out.size
 have G:Hid (∀W,zB W1 W->W.cell? (tD w.heap.size 0)=some (zI O)/\W.cell? (tD w.heap.size 1)=some (tS E)/\W.cell? (tD w.heap.size 2)=some (tS F)/\W.cell? (tD w.heap.size 3)=some (zI T)/\W.cell? (tD (w.heap.size+1) 0)=some (zI V)/\W.cell? (tD (w.heap.size+1) 1)=some (tS I)/\W.cell? (tD (w.heap.size+1) 2)=some (tS M)/\W.cell? (tD (w.heap.size+1) 3)=some (zI Y)):=fun W hb=>by
  obtain⟨c0,c1,c2,c3⟩:=MB ((hb.block _ (af a1.out)).trans a1.out);obtain⟨d0,d1,d2,d3⟩:=MB ((hb.block _ (af a2.out)).trans a2.out);exact⟨c0,c1,c2,c3,d0,d1,d2,d3⟩
 obtain⟨p0,p1,p2,p3,p4,p5,p6,p7⟩:=G.out W1 (ae _ _)
 go_region_held3 (fun w'=>w'.cell? (tD w.heap.size 0)=some (zI O)/\w'.cell? (tD w.heap.size 1)=some (tS E)/\w'.cell? (tD w.heap.size 2)=some (tS F)/\w'.cell? (tD w.heap.size 3)=some (zI T)/\w'.cell? (tD (w.heap.size+1) 0)=some (zI V)/\w'.cell? (tD (w.heap.size+1) 1)=some (tS I)/\w'.cell? (tD (w.heap.size+1) 2)=some (tS M)/\w'.cell? (tD (w.heap.size+1) 3)=some (zI Y))
  (first|exact⟨p0,p1,p2,p3,p4,p5,p6,p7⟩|exact G.out _ ((ae _ _).drew)|exact G.out _ ((ax (ae _ _) _).drew)|exact G.out _ (ax ((ae _ _).drew) _))
  (first
   |(go_at_call 83;refine(yM _ _ _).mono ?_;rintro e w' ⟨rfl,rfl⟩)
   |(go_at_call 98;refine(Em _ _ _).mono ?_;rintro e w' ⟨rfl,rfl⟩)
   |(go_at_call 84;refine(Tryz.strings_Compare _ _ _).mono ?_;rintro e w' ⟨rfl,rfl⟩)
   |(go_at_call 82;refine(Uh W1 _ _ _ _).mono ?_;rintro e w' ⟨rfl,rfl⟩))
 all_goals
  go_wp2;go_ret;exact⟨rfl,(a0.out.alloc a3 _).drew⟩
theorem yN(x:Pb):∀v∈aW x,v.oneCell'=true:=fun v E=>by
 simp[aW] at E;rcases E with rfl|rfl|rfl<;>rfl
theorem MC(x:Rs):∀v∈jI x,v.oneCell'=true:=fun v E=>by
 simp[jI] at E;rcases E with rfl|rfl|rfl|rfl<;>rfl
theorem JI:∀args w,(callFunc 66 args).run prog w=.ok (.enter 66 args) w:=fun _ _=>by kernel_rfl
theorem JJ:∀args w,(callFunc 78 args).run prog w=.ok (.enter 78 args) w:=fun _ _=>by kernel_rfl
theorem MD(B e g cap:Nat)(L:List Pb)(w:zW)(hm:Ml w)(F:g≠0)(h:w.ownsRow B e 3 (.slice (some (tD g 0)) L.length cap) L.length (L.flatMap aW))(T:L.length<=4000000000000000000):
  zC 65 #[.slice (some (tD g 0)) L.length cap,.func (.func 66) #[] #[]] w fun G w'=>G=.returned (.tuple #[])/\w'.ownsRow B e 3 (.slice (some (tD g 0)) L.length cap) L.length ((Ss.aP (Go.Proofs.ltOf tN) L).flatMap aW)/\ai (fun b=>b=g) w w':=
 Ss.yz (enc:=aW) (k:=3) (fun _=>rfl) (by decide) MA 65 66
  (fun E off cap d w O I M U=>Tryz.sortFunc_p 3 isAgg95 sizeOf95 aW (fun _=>rfl) yN tN (Pv.oQ id MA) 66 #[] E off cap d w JI O I M U)
  (fun x y W _=>qx x y W) B e g cap L w hm F h T
theorem OG(B e g cap:Nat)(L:List Rs)(w:zW)(hm:Ml w)(F:g≠0)(h:w.ownsRow B e 4 (.slice (some (tD g 0)) L.length cap) L.length (L.flatMap jI))(T:L.length<=4000000000000000000):
  zC 77 #[.slice (some (tD g 0)) L.length cap,.func (.func 78) #[] #[]] w fun G w'=>G=.returned (.tuple #[])/\w'.ownsRow B e 4 (.slice (some (tD g 0)) L.length cap) L.length ((Ss.aP (Go.Proofs.ltOf pH) L).flatMap jI)/\ai (fun b=>b=g) w w':=
 Ss.yz (enc:=jI) (k:=4) (fun _=>rfl) (by decide) FT 77 78
  (fun E off cap d w O I M U=>Tryz.sortFunc_r 4 isAgg117 sizeOf117 jI (fun _=>rfl) MC pH (Pv.oQ id FT) 78 #[] E off cap d w JJ O I M U)
  (fun x y W _=>pI x y W) B e g cap L w hm F h T
