import Derived.Test.YtooabooekgphpaaGreatDoorKPMK
set_option linter.all false
open Go.Proofs.Tryz
set_option maxRecDepth 100000
set_option maxHeartbeats 20000000
namespace Go.Proofs.YtooabooekgphpaaGreatDoor
open Go.RowKit
namespace Pn
open Mf Ed
def dO:List Int->Int
 |[]=>0
 |x::r=>if x=0 then dO r else x
theorem Jg(a:Int)(w:zW):zC 98 #[zI a] w fun e w'=>e=.returned (.bool false)/\w'=w:=by
 go_enter func98,ntmps98;go_wp2;go_ret;exact⟨by simp,rfl⟩
theorem FD(a:Int)(w:zW):zC 99 #[zI a] w fun e w'=>e=.returned (.bool false)/\w'=w:=by
 go_enter func99,ntmps99;go_wp2;go_ret;exact⟨by simp,rfl⟩
theorem yg(a b:Int)(w:zW):zC 71 #[zI a,zI b] w fun e w'=>e=.returned (zI (Lib.compareInt a b))/\w'=w:=by
 have D:=Jg;unfold Lib.compareInt;by_cases E:a<b
 ·rw[aj E]
  go_enter func71,ntmps71
  go_wp2_with (go_at_call 98;refine(D _ _).mono ?_;rintro e w' ⟨rfl,rfl⟩)
  go_ret;exact⟨rfl,rfl⟩
 ·rw[ag E]
  by_cases F:a>b
  ·rw[aj F]
   go_enter func71,ntmps71
   go_wp2_with (go_at_call 98;refine(D _ _).mono ?_;rintro e w' ⟨rfl,rfl⟩)
   go_ret;exact⟨rfl,rfl⟩
  ·rw[ag F]
   go_enter func71,ntmps71
   go_wp2_with (go_at_call 98;refine(D _ _).mono ?_;rintro e w' ⟨rfl,rfl⟩)
   go_ret;exact⟨rfl,rfl⟩
theorem Dz(a b:Int)(w:zW):zC 72 #[zI a,zI b] w fun e w'=>e=.returned (zI (Lib.compareInt a b))/\w'=w:=by
 have D:=FD;unfold Lib.compareInt;by_cases E:a<b
 ·rw[aj E]
  go_enter func72,ntmps72
  go_wp2_with (go_at_call 99;refine(D _ _).mono ?_;rintro e w' ⟨rfl,rfl⟩)
  go_ret;exact⟨rfl,rfl⟩
 ·rw[ag E]
  by_cases F:a>b
  ·rw[aj F]
   go_enter func72,ntmps72
   go_wp2_with (go_at_call 99;refine(D _ _).mono ?_;rintro e w' ⟨rfl,rfl⟩)
   go_ret;exact⟨rfl,rfl⟩
  ·rw[ag F]
   go_enter func72,ntmps72
   go_wp2_with (go_at_call 99;refine(D _ _).mono ?_;rintro e w' ⟨rfl,rfl⟩)
   go_ret;exact⟨rfl,rfl⟩
theorem N6{l:List Int}{i:Nat}{x:Int}(h:l[i]?=some x):(x=0->dO (l.drop i)=dO (l.drop (i+1)))/\(x≠0->dO (l.drop i)=x):=by
 obtain⟨D,e⟩:=dv.1 h;rw[cY D,e,dO];exact⟨fun h=>aj h,fun h=>ag h⟩
theorem LV(b c:Nat)(l:List Int)(w:zW)(hl:l.length<=100)(h:∀j x,l[j]?=some x->w.cell? ⟨b,j,none⟩=some (zI x)):
  zC 70 #[.slice (some ⟨b,0,none⟩) l.length c] w fun e w'=>e=.returned (zI (dO l))/\w'=w:=by
 have Y:=zH h;have V:Hid (dO (l.drop 0)=dO l):=rfl;clear h;generalize F:dO l=r at*;clear F;generalize W:l.length=n at*;have G:=zH W;clear W;go_enter func70,ntmps70;go_wp2;go_loopg [8] n (fun gg s wr=>∃i:Nat,i<=n/\n-i<=gg/\s=zI i/\wr=w/\Hid (dO (l.drop i)=r))
 case atStart=>exact⟨0,by omega,by omega,rfl,rfl,V⟩
 case round=>
  obtain⟨i,hi,hg,rfl,rfl,I⟩:=hrel;by_cases D:i<n
  ·have U:((i:Nat):Int)<(n:Int):=by omega
   have M:l[i]?=some (l[i]'(by rw[G.out];exact D)):=aV (by rw[G.out];exact D);have c0:=Y.out i _ M;obtain⟨S,T⟩:=N6 M;generalize l[i]'(by rw[G.out];exact D)=x at*;by_cases E:x=0
   ·subst E
    have O:Hid (dO (l.drop (i+1))=r):=by
     show dO (l.drop (i+1))=r;rw[<-S rfl];exact I.out
    clear S T M;go_wp2;go_roundg (n-(i+1))
    case measure=>omega
    case rel=>exact⟨i+1,by omega,by omega,by go_num,rfl,O⟩
   ·have F:x=r:=by rw[<-I.out];exact(T E).symm
    have q0:(x==0)=false:=by simp[E]
    subst F;clear S T M I V;go_wp2;go_ret;exact⟨rfl,rfl⟩
  ·have U:(((i:Nat):Int)<(n:Int))=False:=by simp;omega
   have F:r=0:=by
    rw[<-I.out,rh (by rw[G.out];omega)]
    rfl
   subst F;go_wp2;go_ret;exact⟨rfl,rfl⟩
def ng(a b:Nat):Int:=Lib.compareInt a b
theorem sO:Pv.Cmp (fun _=>True) ng:=⟨fun a b _ _=>Pv.mJ.anti a b trivial trivial,fun a b _ _ h=>by have:=Pv.mJ.zero (a:Int) b trivial trivial h;omega,fun a b c _ _ _ D E=>Pv.mJ.trans a b c trivial trivial trivial D E⟩
def cT:Pb->Pb->Int:=Pv.lex ng (Pv.lex aT aT)
theorem nh:Pv.Cmp (fun _=>True) cT:=Pv.oZ sO (Pv.oZ dh dh)
theorem Rt(a b:Pb):dO [Lib.compareInt a.1 b.1,aT a.2.1 b.2.1,aT a.2.2 b.2.2]=cT a b:=by
 unfold cT Pv.lex ng;simp only[dO]
 split
 ·split
  ·split
   ·rename_i h;rw[h]
   ·rfl
  ·rfl
 ·rfl
end Pn
namespace Pn
open Mf Ed
theorem or3(b:Nat)(x y z:Int)(W:zW)(h:W.heap[b]?=some (.cells #[zI x,zI y,zI z] 3)):zC 70 #[.slice (some ⟨b,0,none⟩) 3 3] W fun e w'=>e=.returned (zI (dO [x,y,z]))/\w'=W:=by
 obtain⟨⟨E,_⟩,⟨F,_⟩,⟨G,_⟩⟩:=fd3 h;refine LV b 3 [x,y,z] W (by simp) (fun j u D=>?_);rcases j with _|_|_|j
 ·injection D with D;rw[<-D];exact E
 ·injection D with D;rw[<-D];exact F
 ·injection D with D;rw[<-D];exact G
 ·simp at D
theorem SG(W:zW)(x y z:Int):zC 70 #[.slice (some ⟨W.heap.size,0,none⟩) 3 3] (W.alloc (.cells #[zI x,zI y,zI z] 3)).drew fun e w'=>e=.returned (zI (dO [x,y,z]))/\w'=(W.alloc (.cells #[zI x,zI y,zI z] 3)).drew:=or3 W.heap.size x y z _ (ay W _)
theorem pK(a b:Pb)(w:zW):zC 57 #[.agg #[zI (a.1:Nat),.string a.2.1,.string a.2.2],.agg #[zI (b.1:Nat),.string b.2.1,.string b.2.2]] w fun e w'=>e=.returned (zI (cT a b))/\Dr.Below w.heap.size w w':=by
 rw[<-Rt a b];obtain⟨Y,D,E⟩:=a;obtain⟨b0,G,I⟩:=b;show zC 57 #[.agg #[zI (Y:Nat),.string D,.string E],.agg #[zI (b0:Nat),.string G,.string I]] w fun e w'=>e=.returned (zI (dO [Lib.compareInt Y b0,aT D G,aT E I]))/\Dr.Below w.heap.size w w'
 generalize ((Y:Nat):Int)=M;generalize ((b0:Nat):Int)=S;have O:Dr.Below w.heap.size w (w.alloc (.cells #[zI M,.string D,.string E] 65)):=(Dr.Below.refl _ _).alloc (af _) _;have T:Hid (Dr.Below w.heap.size w ((w.alloc (.cells #[zI M,.string D,.string E] 65)).alloc (.cells #[zI S,.string G,.string I] 65))):=O.alloc O.size _;have U:Hid (((w.alloc (.cells #[zI M,.string D,.string E] 65)).alloc (.cells #[zI S,.string G,.string I] 65)).heap[w.heap.size]?=some (.cells #[zI M,.string D,.string E] 65)):=(aG _ _ _ (by simp)).trans (ay _ _);have V:Hid (((w.alloc (.cells #[zI M,.string D,.string E] 65)).alloc (.cells #[zI S,.string G,.string I] 65)).heap[w.heap.size+1]?=some (.cells #[zI S,.string G,.string I] 65)):=eA w _ _;clear O;go_enter func57,ntmps57;go_upto_region 1 with fail;generalize (w.alloc (.cells #[zI M,.string D,.string E] 65)).alloc (.cells #[zI S,.string G,.string I] 65)=W1 at*;have a3:=T.out.size
 have F:Hid (∀W,zB W1 W->W.cell? ⟨w.heap.size,0,none⟩=some (zI M)/\W.cell? ⟨w.heap.size,1,none⟩=some (.string D)/\W.cell? ⟨w.heap.size,2,none⟩=some (.string E)/\W.cell? ⟨w.heap.size+1,0,none⟩=some (zI S)/\W.cell? ⟨w.heap.size+1,1,none⟩=some (.string G)/\W.cell? ⟨w.heap.size+1,2,none⟩=some (.string I)):=fun W hb=>by
  obtain⟨⟨c0,_⟩,⟨c1,_⟩,⟨c2,_⟩⟩:=fd3 ((hb.block _ (ah U.out)).trans U.out);obtain⟨⟨d0,_⟩,⟨d1,_⟩,⟨d2,_⟩⟩:=fd3 ((hb.block _ (ah V.out)).trans V.out);exact⟨c0,c1,c2,d0,d1,d2⟩
 obtain⟨p0,p1,p2,p3,p4,p5⟩:=F.out W1 (ae _ _)
 go_region_held3 (fun w'=>w'.cell? ⟨w.heap.size,0,none⟩=some (zI M)/\w'.cell? ⟨w.heap.size,1,none⟩=some (.string D)/\w'.cell? ⟨w.heap.size,2,none⟩=some (.string E)/\w'.cell? ⟨w.heap.size+1,0,none⟩=some (zI S)/\w'.cell? ⟨w.heap.size+1,1,none⟩=some (.string G)/\w'.cell? ⟨w.heap.size+1,2,none⟩=some (.string I))
  (first|exact⟨p0,p1,p2,p3,p4,p5⟩|exact F.out _ ((ae _ _).drew)|exact F.out _ ((aB (ae _ _) _).drew)|exact F.out _ (aB ((ae _ _).drew) _))
  (first
   |(go_at_call 71;refine(yg _ _ _).mono ?_;rintro e w' ⟨rfl,rfl⟩)
   |(go_at_call 73;refine(Tryz.strings_Compare _ _ _).mono ?_;rintro e w' ⟨rfl,rfl⟩)
   |(go_at_call 70;refine(SG W1 _ _ _).mono ?_;rintro e w' ⟨rfl,rfl⟩))
 all_goals
  go_wp2;go_ret;exact⟨rfl,(T.out.alloc a3 _).drew⟩
end Pn
namespace Pn
open Mf Ed
abbrev Rs:=Nat×Nat×zA×zA
def iG(x:Rs):List zV:=[zI ((x.2.1:Nat):Int),.string x.2.2.1,.string x.2.2.2,zI ((x.1:Nat):Int)]
def lO:Rs->Rs->Int:=Pv.lex ng (Pv.lex ng (Pv.lex aT aT))
theorem FE:Pv.Cmp (fun _=>True) lO:=Pv.oZ sO (Pv.oZ sO (Pv.oZ dh dh))
theorem Ru(a b:Rs):dO [Lib.compareInt a.1 b.1,Lib.compareInt a.2.1 b.2.1,aT a.2.2.1 b.2.2.1,aT a.2.2.2 b.2.2.2]=lO a b:=by
 unfold lO Pv.lex ng;simp only[dO]
 split
 ·split
  ·split
   ·split
    ·rename_i h;rw[h]
    ·rfl
   ·rfl
  ·rfl
 ·rfl
theorem Jh{W:zW}{r:Nat}{t:TypeId}{D E F G:zV}(h:W.heap[r]?=some (.cells #[D,E,F,G] t)):W.cell? ⟨r,0,none⟩=some D/\W.cell? ⟨r,1,none⟩=some E/\W.cell? ⟨r,2,none⟩=some F/\W.cell? ⟨r,3,none⟩=some G:=by
 simp only[World.cell?,h];exact⟨rfl,rfl,rfl,rfl⟩
theorem SH(W:zW)(x y z u:Int):zC 70 #[.slice (some ⟨W.heap.size,0,none⟩) 4 4] (W.alloc (.cells #[zI x,zI y,zI z,zI u] 3)).drew fun e w'=>e=.returned (zI (dO [x,y,z,u]))/\w'=(W.alloc (.cells #[zI x,zI y,zI z,zI u] 3)).drew:=by
 have h:(W.alloc (.cells #[zI x,zI y,zI z,zI u] 3)).drew.heap[W.heap.size]?=some (.cells #[zI x,zI y,zI z,zI u] 3):=ay W _;obtain⟨E,F,G,I⟩:=Jh h;refine LV W.heap.size 4 [x,y,z,u] _ (by simp) (fun j v D=>?_);rcases j with _|_|_|_|j
 ·injection D with D;rw[<-D];exact E
 ·injection D with D;rw[<-D];exact F
 ·injection D with D;rw[<-D];exact G
 ·injection D with D;rw[<-D];exact I
 ·simp at D
theorem oN(a b:Rs)(w:zW):zC 54 #[.agg (iG a).toArray,.agg (iG b).toArray] w fun e w'=>e=.returned (zI (lO a b))/\Dr.Below w.heap.size w w':=by
 rw[<-Ru a b];obtain⟨an,ak,D,E⟩:=a;obtain⟨bn,bk,G,I⟩:=b;show zC 54 #[.agg #[zI ((ak:Nat):Int),.string D,.string E,zI ((an:Nat):Int)],.agg #[zI ((bk:Nat):Int),.string G,.string I,zI ((bn:Nat):Int)]] w fun e w'=>e=.returned (zI (dO [Lib.compareInt an bn,Lib.compareInt ak bk,aT D G,aT E I]))/\Dr.Below w.heap.size w w'
 generalize ((an:Nat):Int)=O;generalize ((ak:Nat):Int)=M;generalize ((bn:Nat):Int)=U;generalize ((bk:Nat):Int)=T;have S:Dr.Below w.heap.size w (w.alloc (.cells #[zI M,.string D,.string E,zI O] 84)):=(Dr.Below.refl _ _).alloc (af _) _;have V:Hid (Dr.Below w.heap.size w ((w.alloc (.cells #[zI M,.string D,.string E,zI O] 84)).alloc (.cells #[zI T,.string G,.string I,zI U] 84))):=S.alloc S.size _;have Y:Hid (((w.alloc (.cells #[zI M,.string D,.string E,zI O] 84)).alloc (.cells #[zI T,.string G,.string I,zI U] 84)).heap[w.heap.size]?=some (.cells #[zI M,.string D,.string E,zI O] 84)):=(aG _ _ _ (by simp)).trans (ay _ _);have a0:Hid (((w.alloc (.cells #[zI M,.string D,.string E,zI O] 84)).alloc (.cells #[zI T,.string G,.string I,zI U] 84)).heap[w.heap.size+1]?=some (.cells #[zI T,.string G,.string I,zI U] 84)):=eA w _ _;clear S;go_enter func54,ntmps54;go_upto_region 1 with fail;generalize ((w.alloc (.cells #[zI M,.string D,.string E,zI O] 84)).alloc (.cells #[zI T,.string G,.string I,zI U] 84))=W1 at*;have a1:=V.out.size
 have F:Hid (∀W,zB W1 W->W.cell? ⟨w.heap.size,0,none⟩=some (zI M)/\W.cell? ⟨w.heap.size,1,none⟩=some (.string D)/\W.cell? ⟨w.heap.size,2,none⟩=some (.string E)/\W.cell? ⟨w.heap.size,3,none⟩=some (zI O)/\W.cell? ⟨w.heap.size+1,0,none⟩=some (zI T)/\W.cell? ⟨w.heap.size+1,1,none⟩=some (.string G)/\W.cell? ⟨w.heap.size+1,2,none⟩=some (.string I)/\W.cell? ⟨w.heap.size+1,3,none⟩=some (zI U)):=fun W hb=>by
  obtain⟨c0,c1,c2,c3⟩:=Jh ((hb.block _ (ah Y.out)).trans Y.out);obtain⟨d0,d1,d2,d3⟩:=Jh ((hb.block _ (ah a0.out)).trans a0.out);exact⟨c0,c1,c2,c3,d0,d1,d2,d3⟩
 obtain⟨p0,p1,p2,p3,p4,p5,p6,p7⟩:=F.out W1 (ae _ _)
 go_region_held3 (fun w'=>w'.cell? ⟨w.heap.size,0,none⟩=some (zI M)/\w'.cell? ⟨w.heap.size,1,none⟩=some (.string D)/\w'.cell? ⟨w.heap.size,2,none⟩=some (.string E)/\w'.cell? ⟨w.heap.size,3,none⟩=some (zI O)/\w'.cell? ⟨w.heap.size+1,0,none⟩=some (zI T)/\w'.cell? ⟨w.heap.size+1,1,none⟩=some (.string G)/\w'.cell? ⟨w.heap.size+1,2,none⟩=some (.string I)/\w'.cell? ⟨w.heap.size+1,3,none⟩=some (zI U))
  (first|exact⟨p0,p1,p2,p3,p4,p5,p6,p7⟩|exact F.out _ ((ae _ _).drew)|exact F.out _ ((aB (ae _ _) _).drew)|exact F.out _ (aB ((ae _ _).drew) _))
  (first
   |(go_at_call 71;refine(yg _ _ _).mono ?_;rintro e w' ⟨rfl,rfl⟩)
   |(go_at_call 72;refine(Dz _ _ _).mono ?_;rintro e w' ⟨rfl,rfl⟩)
   |(go_at_call 73;refine(Tryz.strings_Compare _ _ _).mono ?_;rintro e w' ⟨rfl,rfl⟩)
   |(go_at_call 70;refine(SH W1 _ _ _ _).mono ?_;rintro e w' ⟨rfl,rfl⟩))
 all_goals
  go_wp2;go_ret;exact⟨rfl,(V.out.alloc a1 _).drew⟩
theorem yh(x:Pb):∀v∈aJ x,v.oneCell'=true:=fun v D=>by
 simp[aJ] at D;rcases D with rfl|rfl|rfl<;>rfl
theorem LW(x:Rs):∀v∈iG x,v.oneCell'=true:=fun v D=>by
 simp[iG] at D;rcases D with rfl|rfl|rfl|rfl<;>rfl
theorem Ji:∀args w,(callFunc 57 args).run prog w=.ok (.enter 57 args) w:=fun _ _=>by kernel_rfl
theorem Jj:∀args w,(callFunc 54 args).run prog w=.ok (.enter 54 args) w:=fun _ _=>by kernel_rfl
theorem LX(B e g cap:Nat)(L:List Pb)(w:zW)(hm:Ml w)(E:g≠0)(h:w.ownsRow B e 3 (.slice (some ⟨g,0,none⟩) L.length cap) L.length (L.flatMap aJ))(O:L.length<=4000000000000000000):
  zC 56 #[.slice (some ⟨g,0,none⟩) L.length cap,.func (.func 57) #[] #[]] w fun F w'=>F=.returned (.tuple #[])/\w'.ownsRow B e 3 (.slice (some ⟨g,0,none⟩) L.length cap) L.length ((Ss.aN (Go.Proofs.ltOf cT) L).flatMap aJ)/\ai (fun b=>b=g) w w':=
 Ss.xV (enc:=aJ) (k:=3) (fun _=>rfl) (by decide) nh 56 57
  (fun D off cap d w M G I S=>Tryz.sortFunc_p 3 isAgg65 sizeOf65 aJ (fun _=>rfl) yh cT (Pv.kF id nh) 57 #[] D off cap d w Ji M G I S)
  (fun x y W _=>pK x y W) B e g cap L w hm E h O
theorem N7(B e g cap:Nat)(L:List Rs)(w:zW)(hm:Ml w)(E:g≠0)(h:w.ownsRow B e 4 (.slice (some ⟨g,0,none⟩) L.length cap) L.length (L.flatMap iG))(O:L.length<=4000000000000000000):
  zC 53 #[.slice (some ⟨g,0,none⟩) L.length cap,.func (.func 54) #[] #[]] w fun F w'=>F=.returned (.tuple #[])/\w'.ownsRow B e 4 (.slice (some ⟨g,0,none⟩) L.length cap) L.length ((Ss.aN (Go.Proofs.ltOf lO) L).flatMap iG)/\ai (fun b=>b=g) w w':=
 Ss.xV (enc:=iG) (k:=4) (fun _=>rfl) (by decide) FE 53 54
  (fun D off cap d w M G I S=>Tryz.sortFunc_r 4 isAgg84 sizeOf84 iG (fun _=>rfl) LW lO (Pv.kF id FE) 54 #[] D off cap d w Jj M G I S)
  (fun x y W _=>oN x y W) B e g cap L w hm E h O
