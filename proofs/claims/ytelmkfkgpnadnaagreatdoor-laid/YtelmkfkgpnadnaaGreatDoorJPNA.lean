import Derived.Test.YtelmkfkgpnadnaaGreatDoorJPMK
import Derived.Test.YtelmkfkgpnadnaaGreatDoorJPME
import Derived.Test.YtelmkfkgpnadnaaGreatDoorJPMA
set_option linter.all false
open Go.Proofs.Tryz
set_option maxRecDepth 100000
set_option maxHeartbeats 4000000
namespace Go.Proofs.YtelmkfkgpnadnaaGreatDoor
open Go.RowKit
namespace Pn
open Mf Ed
def dJ:List Int→Int
 |[]=>0
 |x::r=>if x=0 then dJ r else x
theorem IZ(a:Int)(w:zW):zC 240 #[zI a] w fun e w'=>e=.returned (.bool false)∧w'=w:=by
 go_enter func240,ntmps240;go_wp2;go_ret;exact⟨by simp,rfl⟩
theorem Fq(a:Int)(w:zW):zC 254 #[zI a] w fun e w'=>e=.returned (.bool false)∧w'=w:=by
 go_enter func254,ntmps254;go_wp2;go_ret;exact⟨by simp,rfl⟩
theorem yw(a b:Int)(w:zW):zC 196 #[zI a,zI b] w fun e w'=>e=.returned (zI (Lib.compareInt a b))∧w'=w:=by
 have k1:=IZ;unfold Lib.compareInt;by_cases h1:a<b
 ·rw[ah h1]
  go_enter func196,ntmps196
  go_wp2_with (go_at_call 240;refine(k1 _ _).mono ?_;rintro e w' ⟨rfl,rfl⟩)
  go_ret;exact⟨rfl,rfl⟩
 ·rw[af h1]
  by_cases h2:a>b
  ·rw[ah h2]
   go_enter func196,ntmps196
   go_wp2_with (go_at_call 240;refine(k1 _ _).mono ?_;rintro e w' ⟨rfl,rfl⟩)
   go_ret;exact⟨rfl,rfl⟩
  ·rw[af h2]
   go_enter func196,ntmps196
   go_wp2_with (go_at_call 240;refine(k1 _ _).mono ?_;rintro e w' ⟨rfl,rfl⟩)
   go_ret;exact⟨rfl,rfl⟩
theorem DV(a b:Int)(w:zW):zC 202 #[zI a,zI b] w fun e w'=>e=.returned (zI (Lib.compareInt a b))∧w'=w:=by
 have k1:=Fq;unfold Lib.compareInt;by_cases h1:a<b
 ·rw[ah h1]
  go_enter func202,ntmps202
  go_wp2_with (go_at_call 254;refine(k1 _ _).mono ?_;rintro e w' ⟨rfl,rfl⟩)
  go_ret;exact⟨rfl,rfl⟩
 ·rw[af h1]
  by_cases h2:a>b
  ·rw[ah h2]
   go_enter func202,ntmps202
   go_wp2_with (go_at_call 254;refine(k1 _ _).mono ?_;rintro e w' ⟨rfl,rfl⟩)
   go_ret;exact⟨rfl,rfl⟩
  ·rw[af h2]
   go_enter func202,ntmps202
   go_wp2_with (go_at_call 254;refine(k1 _ _).mono ?_;rintro e w' ⟨rfl,rfl⟩)
   go_ret;exact⟨rfl,rfl⟩
theorem N5{l:List Int}{i:Nat}{x:Int}(h:l[i]?=some x):(x=0→dJ (l.drop i)=dJ (l.drop (i+1)))∧(x≠0→dJ (l.drop i)=x):=by
 obtain⟨hi,e⟩:=cq.1 h;rw[dt hi,e,dJ];exact⟨fun h=>ah h,fun h=>af h⟩
theorem LP(b c:Nat)(l:List Int)(w:zW)(hl:l.length≤100)(h:∀j x,l[j]?=some x→w.cell? ⟨b,j,none⟩=some (zI x)):
  zC 195 #[.slice (some ⟨b,0,none⟩) l.length c] w fun e w'=>e=.returned (zI (dJ l))∧w'=w:=by
 have HC:Hid (∀j x,l[j]?=some x→w.cell? ⟨b,j,none⟩=some (zI x)):=h;have H0:Hid (dJ (l.drop 0)=dJ l):=rfl;clear h;generalize hr:dJ l=r at*;clear hr;generalize hn:l.length=n at*;have HN:Hid (l.length=n):=hn;clear hn;go_enter func195,ntmps195;go_wp2;go_loopg [8] n (fun gg s wr=>∃i:Nat,i≤n∧n-i≤gg∧s=zI i∧wr=w∧Hid (dJ (l.drop i)=r))
 case atStart=>exact⟨0,by omega,by omega,rfl,rfl,H0⟩
 case round=>
  obtain⟨i,hi,hg,rfl,rfl,HR⟩:=hrel;by_cases hin:i<n
  ·have hil:((i:Nat):Int)<(n:Int):=by omega
   have hx:l[i]?=some (l[i]'(by rw[HN.out];exact hin)):=aO (by rw[HN.out];exact hin);have c0:=HC.out i _ hx;obtain⟨h0,h1⟩:=N5 hx;generalize l[i]'(by rw[HN.out];exact hin)=x at*;by_cases hx0:x=0
   ·subst hx0
    have HN2:Hid (dJ (l.drop (i+1))=r):=by
     show dJ (l.drop (i+1))=r;rw[←h0 rfl];exact HR.out
    clear h0 h1 hx;go_wp2;go_roundg (n-(i+1))
    case measure=>omega
    case rel=>exact⟨i+1,by omega,by omega,by go_num,rfl,HN2⟩
   ·have hr:x=r:=by rw[←HR.out];exact(h1 hx0).symm
    have q0:(x==0)=false:=by simp[hx0]
    subst hr;clear h0 h1 hx HR H0;go_wp2;go_ret;exact⟨rfl,rfl⟩
  ·have hil:(((i:Nat):Int)<(n:Int))=False:=by simp;omega
   have hr:r=0:=by
    rw[←HR.out,rO (by rw[HN.out];omega)]
    rfl
   subst hr;go_wp2;go_ret;exact⟨rfl,rfl⟩
def uL(a b:Nat):Int:=Lib.compareInt a b
theorem BQ:Pv.Cmp (fun _=>True) uL:=⟨fun a b _ _=>Pv.mY.anti a b trivial trivial,fun a b _ _ h=>by have:=Pv.mY.zero (a:Int) b trivial trivial h;omega,fun a b c _ _ _ h1 h2=>Pv.mY.trans a b c trivial trivial trivial h1 h2⟩
def qI:Pb→Pb→Int:=Pv.lex uL (Pv.lex dH dH)
theorem LQ:Pv.Cmp (fun _=>True) qI:=Pv.pP BQ (Pv.pP lV lV)
theorem Rh(a b:Pb):dJ [Lib.compareInt a.1 b.1,dH a.2.1 b.2.1,dH a.2.2 b.2.2]=qI a b:=by
 unfold qI Pv.lex uL;simp only[dJ]
 split
 ·split
  ·split
   ·rename_i h;rw[h]
   ·rfl
  ·rfl
 ·rfl
end Pn
namespace Pn
open Mf Ed
theorem or3(b:Nat)(x y z:Int)(W:zW)(h:W.heap[b]?=some (.cells #[zI x,zI y,zI z] 3)):zC 195 #[.slice (some ⟨b,0,none⟩) 3 3] W fun e w'=>e=.returned (zI (dJ [x,y,z]))∧w'=W:=by
 obtain⟨⟨c0,_⟩,⟨c1,_⟩,⟨c2,_⟩⟩:=fd3 h;refine LP b 3 [x,y,z] W (by simp) (fun j u hj=>?_);rcases j with _|_|_|j
 ·injection hj with hj;rw[←hj];exact c0
 ·injection hj with hj;rw[←hj];exact c1
 ·injection hj with hj;rw[←hj];exact c2
 ·simp at hj
theorem SB(W:zW)(x y z:Int):zC 195 #[.slice (some ⟨W.heap.size,0,none⟩) 3 3] (W.alloc (.cells #[zI x,zI y,zI z] 3)).drew fun e w'=>e=.returned (zI (dJ [x,y,z]))∧w'=(W.alloc (.cells #[zI x,zI y,zI z] 3)).drew:=or3 W.heap.size x y z _ (aD W _)
theorem qy(a b:Pb)(w:zW):zC 150 #[.agg #[zI (a.1:Nat),.string a.2.1,.string a.2.2],.agg #[zI (b.1:Nat),.string b.2.1,.string b.2.2]] w fun e w'=>e=.returned (zI (qI a b))∧Dr.Below w.heap.size w w':=by
 rw[←Rh a b];obtain⟨a0,a1,a2⟩:=a;obtain⟨b0,b1,b2⟩:=b;show zC 150 #[.agg #[zI (a0:Nat),.string a1,.string a2],.agg #[zI (b0:Nat),.string b1,.string b2]] w fun e w'=>e=.returned (zI (dJ [Lib.compareInt a0 b0,dH a1 b1,dH a2 b2]))∧Dr.Below w.heap.size w w'
 generalize ((a0:Nat):Int)=x0;generalize ((b0:Nat):Int)=y0;have hb0:Dr.Below w.heap.size w (w.alloc (.cells #[zI x0,.string a1,.string a2] 76)):=(Dr.Below.refl _ _).alloc (ag _) _;have HB1:Hid (Dr.Below w.heap.size w ((w.alloc (.cells #[zI x0,.string a1,.string a2] 76)).alloc (.cells #[zI y0,.string b1,.string b2] 76))):=hb0.alloc hb0.size _;have HX0:Hid (((w.alloc (.cells #[zI x0,.string a1,.string a2] 76)).alloc (.cells #[zI y0,.string b1,.string b2] 76)).heap[w.heap.size]?=some (.cells #[zI x0,.string a1,.string a2] 76)):=(aG _ _ _ (by simp)).trans (aD _ _);have HX1:Hid (((w.alloc (.cells #[zI x0,.string a1,.string a2] 76)).alloc (.cells #[zI y0,.string b1,.string b2] 76)).heap[w.heap.size+1]?=some (.cells #[zI y0,.string b1,.string b2] 76)):=ez w _ _;clear hb0;go_enter func150,ntmps150;go_upto_region 1 with fail;generalize (w.alloc (.cells #[zI x0,.string a1,.string a2] 76)).alloc (.cells #[zI y0,.string b1,.string b2] 76)=W1 at*;have hs1:=HB1.out.size
 have HPd:Hid (∀W,Below W1.heap.size W1 W→W.cell? ⟨w.heap.size,0,none⟩=some (zI x0)∧W.cell? ⟨w.heap.size,1,none⟩=some (.string a1)∧W.cell? ⟨w.heap.size,2,none⟩=some (.string a2)∧W.cell? ⟨w.heap.size+1,0,none⟩=some (zI y0)∧W.cell? ⟨w.heap.size+1,1,none⟩=some (.string b1)∧W.cell? ⟨w.heap.size+1,2,none⟩=some (.string b2)):=fun W hb=>by
  obtain⟨⟨c0,_⟩,⟨c1,_⟩,⟨c2,_⟩⟩:=fd3 ((hb.block _ (ai HX0.out)).trans HX0.out);obtain⟨⟨d0,_⟩,⟨d1,_⟩,⟨d2,_⟩⟩:=fd3 ((hb.block _ (ai HX1.out)).trans HX1.out);exact⟨c0,c1,c2,d0,d1,d2⟩
 obtain⟨p0,p1,p2,p3,p4,p5⟩:=HPd.out W1 (ae _ _)
 go_region_held3 (fun w'=>w'.cell? ⟨w.heap.size,0,none⟩=some (zI x0)∧w'.cell? ⟨w.heap.size,1,none⟩=some (.string a1)∧w'.cell? ⟨w.heap.size,2,none⟩=some (.string a2)∧w'.cell? ⟨w.heap.size+1,0,none⟩=some (zI y0)∧w'.cell? ⟨w.heap.size+1,1,none⟩=some (.string b1)∧w'.cell? ⟨w.heap.size+1,2,none⟩=some (.string b2))
  (first|exact⟨p0,p1,p2,p3,p4,p5⟩|exact HPd.out _ ((ae _ _).drew)|exact HPd.out _ ((aB (ae _ _) _).drew)|exact HPd.out _ (aB ((ae _ _).drew) _))
  (first
   |(go_at_call 196;refine(yw _ _ _).mono ?_;rintro e w' ⟨rfl,rfl⟩)
   |(go_at_call 176;refine(Tryz.strings_Compare _ _ _).mono ?_;rintro e w' ⟨rfl,rfl⟩)
   |(go_at_call 195;refine(SB W1 _ _ _).mono ?_;rintro e w' ⟨rfl,rfl⟩))
 all_goals
  go_wp2;go_ret;exact⟨rfl,(HB1.out.alloc hs1 _).drew⟩
end Pn
namespace Pn
open Mf Ed
abbrev Rs:=Nat×Nat×zA×zA
def iD(x:Rs):List zV:=[zI ((x.2.1:Nat):Int),.string x.2.2.1,.string x.2.2.2,zI ((x.1:Nat):Int)]
def nU:Rs→Rs→Int:=Pv.lex uL (Pv.lex uL (Pv.lex dH dH))
theorem Fs:Pv.Cmp (fun _=>True) nU:=Pv.pP BQ (Pv.pP BQ (Pv.pP lV lV))
theorem Ri(a b:Rs):dJ [Lib.compareInt a.1 b.1,Lib.compareInt a.2.1 b.2.1,dH a.2.2.1 b.2.2.1,dH a.2.2.2 b.2.2.2]=nU a b:=by
 unfold nU Pv.lex uL;simp only[dJ]
 split
 ·split
  ·split
   ·split
    ·rename_i h;rw[h]
    ·rfl
   ·rfl
  ·rfl
 ·rfl
theorem I4{W:zW}{r:Nat}{t:TypeId}{x0 x1 x2 x3:zV}(h:W.heap[r]?=some (.cells #[x0,x1,x2,x3] t)):W.cell? ⟨r,0,none⟩=some x0∧W.cell? ⟨r,1,none⟩=some x1∧W.cell? ⟨r,2,none⟩=some x2∧W.cell? ⟨r,3,none⟩=some x3:=by
 simp only[World.cell?,h];exact⟨rfl,rfl,rfl,rfl⟩
theorem SC(W:zW)(x y z u:Int):zC 195 #[.slice (some ⟨W.heap.size,0,none⟩) 4 4] (W.alloc (.cells #[zI x,zI y,zI z,zI u] 3)).drew fun e w'=>e=.returned (zI (dJ [x,y,z,u]))∧w'=(W.alloc (.cells #[zI x,zI y,zI z,zI u] 3)).drew:=by
 have h:(W.alloc (.cells #[zI x,zI y,zI z,zI u] 3)).drew.heap[W.heap.size]?=some (.cells #[zI x,zI y,zI z,zI u] 3):=aD W _;obtain⟨c0,c1,c2,c3⟩:=I4 h;refine LP W.heap.size 4 [x,y,z,u] _ (by simp) (fun j v hj=>?_);rcases j with _|_|_|_|j
 ·injection hj with hj;rw[←hj];exact c0
 ·injection hj with hj;rw[←hj];exact c1
 ·injection hj with hj;rw[←hj];exact c2
 ·injection hj with hj;rw[←hj];exact c3
 ·simp at hj
theorem pH(a b:Rs)(w:zW):zC 157 #[.agg (iD a).toArray,.agg (iD b).toArray] w fun e w'=>e=.returned (zI (nU a b))∧Dr.Below w.heap.size w w':=by
 rw[←Ri a b];obtain⟨an,ak,xp,xv⟩:=a;obtain⟨bn,bk,yp,yv⟩:=b;show zC 157 #[.agg #[zI ((ak:Nat):Int),.string xp,.string xv,zI ((an:Nat):Int)],.agg #[zI ((bk:Nat):Int),.string yp,.string yv,zI ((bn:Nat):Int)]] w fun e w'=>e=.returned (zI (dJ [Lib.compareInt an bn,Lib.compareInt ak bk,dH xp yp,dH xv yv]))∧Dr.Below w.heap.size w w'
 generalize ((an:Nat):Int)=xn;generalize ((ak:Nat):Int)=xk;generalize ((bn:Nat):Int)=yn;generalize ((bk:Nat):Int)=yk;have hb0:Dr.Below w.heap.size w (w.alloc (.cells #[zI xk,.string xp,.string xv,zI xn] 203)):=(Dr.Below.refl _ _).alloc (ag _) _;have HB1:Hid (Dr.Below w.heap.size w ((w.alloc (.cells #[zI xk,.string xp,.string xv,zI xn] 203)).alloc (.cells #[zI yk,.string yp,.string yv,zI yn] 203))):=hb0.alloc hb0.size _;have HX0:Hid (((w.alloc (.cells #[zI xk,.string xp,.string xv,zI xn] 203)).alloc (.cells #[zI yk,.string yp,.string yv,zI yn] 203)).heap[w.heap.size]?=some (.cells #[zI xk,.string xp,.string xv,zI xn] 203)):=(aG _ _ _ (by simp)).trans (aD _ _);have HX1:Hid (((w.alloc (.cells #[zI xk,.string xp,.string xv,zI xn] 203)).alloc (.cells #[zI yk,.string yp,.string yv,zI yn] 203)).heap[w.heap.size+1]?=some (.cells #[zI yk,.string yp,.string yv,zI yn] 203)):=ez w _ _;clear hb0;go_enter func157,ntmps157;go_upto_region 1 with fail;generalize ((w.alloc (.cells #[zI xk,.string xp,.string xv,zI xn] 203)).alloc (.cells #[zI yk,.string yp,.string yv,zI yn] 203))=W1 at*;have hs1:=HB1.out.size
 have HPd:Hid (∀W,Below W1.heap.size W1 W→W.cell? ⟨w.heap.size,0,none⟩=some (zI xk)∧W.cell? ⟨w.heap.size,1,none⟩=some (.string xp)∧W.cell? ⟨w.heap.size,2,none⟩=some (.string xv)∧W.cell? ⟨w.heap.size,3,none⟩=some (zI xn)∧W.cell? ⟨w.heap.size+1,0,none⟩=some (zI yk)∧W.cell? ⟨w.heap.size+1,1,none⟩=some (.string yp)∧W.cell? ⟨w.heap.size+1,2,none⟩=some (.string yv)∧W.cell? ⟨w.heap.size+1,3,none⟩=some (zI yn)):=fun W hb=>by
  obtain⟨c0,c1,c2,c3⟩:=I4 ((hb.block _ (ai HX0.out)).trans HX0.out);obtain⟨d0,d1,d2,d3⟩:=I4 ((hb.block _ (ai HX1.out)).trans HX1.out);exact⟨c0,c1,c2,c3,d0,d1,d2,d3⟩
 obtain⟨p0,p1,p2,p3,p4,p5,p6,p7⟩:=HPd.out W1 (ae _ _)
 go_region_held3 (fun w'=>w'.cell? ⟨w.heap.size,0,none⟩=some (zI xk)∧w'.cell? ⟨w.heap.size,1,none⟩=some (.string xp)∧w'.cell? ⟨w.heap.size,2,none⟩=some (.string xv)∧w'.cell? ⟨w.heap.size,3,none⟩=some (zI xn)∧w'.cell? ⟨w.heap.size+1,0,none⟩=some (zI yk)∧w'.cell? ⟨w.heap.size+1,1,none⟩=some (.string yp)∧w'.cell? ⟨w.heap.size+1,2,none⟩=some (.string yv)∧w'.cell? ⟨w.heap.size+1,3,none⟩=some (zI yn))
  (first|exact⟨p0,p1,p2,p3,p4,p5,p6,p7⟩|exact HPd.out _ ((ae _ _).drew)|exact HPd.out _ ((aB (ae _ _) _).drew)|exact HPd.out _ (aB ((ae _ _).drew) _))
  (first
   |(go_at_call 196;refine(yw _ _ _).mono ?_;rintro e w' ⟨rfl,rfl⟩)
   |(go_at_call 202;refine(DV _ _ _).mono ?_;rintro e w' ⟨rfl,rfl⟩)
   |(go_at_call 176;refine(Tryz.strings_Compare _ _ _).mono ?_;rintro e w' ⟨rfl,rfl⟩)
   |(go_at_call 195;refine(SC W1 _ _ _ _).mono ?_;rintro e w' ⟨rfl,rfl⟩))
 all_goals
  go_wp2;go_ret;exact⟨rfl,(HB1.out.alloc hs1 _).drew⟩
theorem yx(x:Pb):∀v∈aT x,v.oneCell'=true:=fun v hv=>by
 simp[aT] at hv;rcases hv with rfl|rfl|rfl<;>rfl
theorem LR(x:Rs):∀v∈iD x,v.oneCell'=true:=fun v hv=>by
 simp[iD] at hv;rcases hv with rfl|rfl|rfl|rfl<;>rfl
theorem I5:∀args w,(callFunc 150 args).run prog w=.ok (.enter 150 args) w:=fun _ _=>by kernel_rfl
theorem I6:∀args w,(callFunc 157 args).run prog w=.ok (.enter 157 args) w:=fun _ _=>by kernel_rfl
theorem LS(B e g cap:Nat)(L:List Pb)(w:zW)(hm:Ml w)(hg0:g≠0)(h:w.ownsRow B e 3 (.slice (some ⟨g,0,none⟩) L.length cap) L.length (L.flatMap aT))(hl:L.length≤4000000000000000000):
  zC 149 #[.slice (some ⟨g,0,none⟩) L.length cap,.func (.func 150) #[] #[]] w fun e' w'=>e'=.returned (.tuple #[])∧w'.ownsRow B e 3 (.slice (some ⟨g,0,none⟩) L.length cap) L.length ((Ss.aJ (Go.Proofs.ltOf qI) L).flatMap aT)∧aj (fun b=>b=g) w w':=
 Ss.yj (enc:=aT) (k:=3) (fun _=>rfl) (by decide) LQ 149 150
  (fun blk off cap d w hc hH hb hs=>Tryz.sortFunc_p 3 isAgg76 sizeOf76 aT (fun _=>rfl) yx qI (Pv.ni id LQ) 150 #[] blk off cap d w I5 hc hH hb hs)
  (fun x y W _=>qy x y W) B e g cap L w hm hg0 h hl
theorem N6(B e g cap:Nat)(L:List Rs)(w:zW)(hm:Ml w)(hg0:g≠0)(h:w.ownsRow B e 4 (.slice (some ⟨g,0,none⟩) L.length cap) L.length (L.flatMap iD))(hl:L.length≤4000000000000000000):
  zC 156 #[.slice (some ⟨g,0,none⟩) L.length cap,.func (.func 157) #[] #[]] w fun e' w'=>e'=.returned (.tuple #[])∧w'.ownsRow B e 4 (.slice (some ⟨g,0,none⟩) L.length cap) L.length ((Ss.aJ (Go.Proofs.ltOf nU) L).flatMap iD)∧aj (fun b=>b=g) w w':=
 Ss.yj (enc:=iD) (k:=4) (fun _=>rfl) (by decide) Fs 156 157
  (fun blk off cap d w hc hH hb hs=>Tryz.sortFunc_r 4 isAgg203 sizeOf203 iD (fun _=>rfl) LR nU (Pv.ni id Fs) 157 #[] blk off cap d w I6 hc hH hb hs)
  (fun x y W _=>pH x y W) B e g cap L w hm hg0 h hl
