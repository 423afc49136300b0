import Derived.Test.YtelmkfkgpnadnaaGreatDoorKPMK
import Derived.Test.YtelmkfkgpnadnaaGreatDoorKPME
import Derived.Test.YtelmkfkgpnadnaaGreatDoorKPMA
set_option linter.unusedSimpArgs false
open Go.Proofs.Tryz
set_option maxRecDepth 100000
set_option maxHeartbeats 4000000
namespace Go.Proofs.YtelmkfkgpnadnaaGreatDoor
open Go.RowKit
namespace Pn
open Mf Ed
def dF:List Int→Int
 |[]=>0
 |x::r=>if x=0 then dF r else x
theorem GH(a:Int)(w:World):Calls prog 240 #[.int .i64 a] w fun e w'=>e=.returned (.bool false)∧w'=w:=by
 go_enter func240,ntmps240;go_wp2;go_ret;exact⟨by simp,rfl⟩
theorem DN(a:Int)(w:World):Calls prog 254 #[.int .i64 a] w fun e w'=>e=.returned (.bool false)∧w'=w:=by
 go_enter func254,ntmps254;go_wp2;go_ret;exact⟨by simp,rfl⟩
theorem wT(a b:Int)(w:World):Calls prog 196 #[.int .i64 a,.int .i64 b] w fun e w'=>e=.returned (.int .i64 (Lib.compareInt a b))∧w'=w:=by
 have k1:=GH;unfold Lib.compareInt;by_cases h1:a<b
 ·rw[ai h1]
  go_enter func196,ntmps196
  go_wp2_with (go_at_call 240;refine(k1 _ _).mono ?_;rintro e w' ⟨rfl,rfl⟩)
  go_ret;exact⟨rfl,rfl⟩
 ·rw[af h1]
  by_cases h2:a>b
  ·rw[ai h2]
   go_enter func196,ntmps196
   go_wp2_with (go_at_call 240;refine(k1 _ _).mono ?_;rintro e w' ⟨rfl,rfl⟩)
   go_ret;exact⟨rfl,rfl⟩
  ·rw[af h2]
   go_enter func196,ntmps196
   go_wp2_with (go_at_call 240;refine(k1 _ _).mono ?_;rintro e w' ⟨rfl,rfl⟩)
   go_ret;exact⟨rfl,rfl⟩
theorem Ca(a b:Int)(w:World):Calls prog 202 #[.int .i64 a,.int .i64 b] w fun e w'=>e=.returned (.int .i64 (Lib.compareInt a b))∧w'=w:=by
 have k1:=DN;unfold Lib.compareInt;by_cases h1:a<b
 ·rw[ai h1]
  go_enter func202,ntmps202
  go_wp2_with (go_at_call 254;refine(k1 _ _).mono ?_;rintro e w' ⟨rfl,rfl⟩)
  go_ret;exact⟨rfl,rfl⟩
 ·rw[af h1]
  by_cases h2:a>b
  ·rw[ai h2]
   go_enter func202,ntmps202
   go_wp2_with (go_at_call 254;refine(k1 _ _).mono ?_;rintro e w' ⟨rfl,rfl⟩)
   go_ret;exact⟨rfl,rfl⟩
  ·rw[af h2]
   go_enter func202,ntmps202
   go_wp2_with (go_at_call 254;refine(k1 _ _).mono ?_;rintro e w' ⟨rfl,rfl⟩)
   go_ret;exact⟨rfl,rfl⟩
theorem Ma{l:List Int}{i:Nat}{x:Int}(h:l[i]?=some x):(x=0→dF (l.drop i)=dF (l.drop (i+1)))∧(x≠0→dF (l.drop i)=x):=by
 obtain⟨hi,e⟩:=dw.1 h;rw[di hi,e,dF];exact⟨fun h=>ai h,fun h=>af h⟩
theorem JO(b c:Nat)(l:List Int)(w:World)(hl:l.length≤100)(h:∀j x,l[j]?=some x→w.cell? ⟨b,j,none⟩=some (.int .i64 x)):
  Calls prog 195 #[.slice (some ⟨b,0,none⟩) l.length c] w fun e w'=>e=.returned (.int .i64 (dF l))∧w'=w:=by
 have HC:Hid (∀j x,l[j]?=some x→w.cell? ⟨b,j,none⟩=some (.int .i64 x)):=h;have H0:Hid (dF (l.drop 0)=dF l):=rfl;clear h;generalize hr:dF l=r at*;clear hr;generalize hn:l.length=n at*;have HN:Hid (l.length=n):=hn;clear hn;go_enter func195,ntmps195;go_wp2;go_loopg [8] n (fun gg s wr=>∃i:Nat,i≤n∧n-i≤gg∧s=.int .i64 i∧wr=w∧Hid (dF (l.drop i)=r))
 case atStart=>exact⟨0,by omega,by omega,rfl,rfl,H0⟩
 case round=>
  obtain⟨i,hi,hg,rfl,rfl,HR⟩:=hrel;by_cases hin:i<n
  ·have hil:((i:Nat):Int)<(n:Int):=by omega
   have hx:l[i]?=some (l[i]'(by rw[HN.out];exact hin)):=bg (by rw[HN.out];exact hin);have c0:=HC.out i _ hx;obtain⟨h0,h1⟩:=Ma hx;generalize l[i]'(by rw[HN.out];exact hin)=x at*;by_cases hx0:x=0
   ·subst hx0
    have HN2:Hid (dF (l.drop (i+1))=r):=by
     show dF (l.drop (i+1))=r;rw[←h0 rfl];exact HR.out
    clear h0 h1 hx;go_wp2;go_roundg (n-(i+1))
    case measure=>omega
    case rel=>exact⟨i+1,by omega,by omega,by go_num,rfl,HN2⟩
   ·have hr:x=r:=by rw[←HR.out];exact(h1 hx0).symm
    have q0:(x==0)=false:=by simp[hx0]
    subst hr;clear h0 h1 hx HR H0;go_wp2;go_ret;exact⟨rfl,rfl⟩
  ·have hil:(((i:Nat):Int)<(n:Int))=False:=by simp;omega
   have hr:r=0:=by
    rw[←HR.out,qC (by rw[HN.out];omega)]
    rfl
   subst hr;go_wp2;go_ret;exact⟨rfl,rfl⟩
def tC(a b:Nat):Int:=Lib.compareInt a b
theorem zS:Pv.Cmp (fun _=>True) tC:=⟨fun a b _ _=>Pv.lC.anti a b trivial trivial,fun a b _ _ h=>by have:=Pv.lC.zero (a:Int) b trivial trivial h;omega,fun a b c _ _ _ h1 h2=>Pv.lC.trans a b c trivial trivial trivial h1 h2⟩
def rO:Pb→Pb→Int:=Pv.lex tC (Pv.lex dD dD)
theorem JQ:Pv.Cmp (fun _=>True) rO:=Pv.oI zS (Pv.oI kL kL)
theorem PV(a b:Pb):dF [Lib.compareInt a.1 b.1,dD a.2.1 b.2.1,dD a.2.2 b.2.2]=rO a b:=by
 unfold rO Pv.lex tC;simp only[dF]
 split
 ·split
  ·split
   ·rename_i h;rw[h]
   ·rfl
  ·rfl
 ·rfl
end Pn
namespace Pn
open Mf Ed
theorem or3(b:Nat)(x y z:Int)(W:World)(h:W.heap[b]?=some (.cells #[.int .i64 x,.int .i64 y,.int .i64 z] 3)):Calls prog 195 #[.slice (some ⟨b,0,none⟩) 3 3] W fun e w'=>e=.returned (.int .i64 (dF [x,y,z]))∧w'=W:=by
 obtain⟨⟨c0,_⟩,⟨c1,_⟩,⟨c2,_⟩⟩:=fd3 h;refine JO b 3 [x,y,z] W (by simp) (fun j u hj=>?_);rcases j with _|_|_|j
 ·injection hj with hj;rw[←hj];exact c0
 ·injection hj with hj;rw[←hj];exact c1
 ·injection hj with hj;rw[←hj];exact c2
 ·simp at hj
theorem Ro(W:World)(x y z:Int):Calls prog 195 #[.slice (some ⟨W.heap.size,0,none⟩) 3 3] (W.alloc (.cells #[.int .i64 x,.int .i64 y,.int .i64 z] 3)).drew fun e w'=>e=.returned (.int .i64 (dF [x,y,z]))∧w'=(W.alloc (.cells #[.int .i64 x,.int .i64 y,.int .i64 z] 3)).drew:=or3 W.heap.size x y z _ (aB W _)
theorem pg(a b:Pb)(w:World):Calls prog 150 #[.agg #[.int .i64 (a.1:Nat),.string a.2.1,.string a.2.2],.agg #[.int .i64 (b.1:Nat),.string b.2.1,.string b.2.2]] w fun e w'=>e=.returned (.int .i64 (rO a b))∧Dr.Below w.heap.size w w':=by
 rw[←PV a b];obtain⟨a0,a1,a2⟩:=a;obtain⟨b0,b1,b2⟩:=b;show Calls prog 150 #[.agg #[.int .i64 (a0:Nat),.string a1,.string a2],.agg #[.int .i64 (b0:Nat),.string b1,.string b2]] w fun e w'=>e=.returned (.int .i64 (dF [Lib.compareInt a0 b0,dD a1 b1,dD a2 b2]))∧Dr.Below w.heap.size w w'
 generalize ((a0:Nat):Int)=x0;generalize ((b0:Nat):Int)=y0;have hb0:Dr.Below w.heap.size w (w.alloc (.cells #[.int .i64 x0,.string a1,.string a2] 76)):=(Dr.Below.refl _ _).alloc (ag _) _;have HB1:Hid (Dr.Below w.heap.size w ((w.alloc (.cells #[.int .i64 x0,.string a1,.string a2] 76)).alloc (.cells #[.int .i64 y0,.string b1,.string b2] 76))):=hb0.alloc hb0.size _;have HX0:Hid (((w.alloc (.cells #[.int .i64 x0,.string a1,.string a2] 76)).alloc (.cells #[.int .i64 y0,.string b1,.string b2] 76)).heap[w.heap.size]?=some (.cells #[.int .i64 x0,.string a1,.string a2] 76)):=(aI _ _ _ (by simp)).trans (aB _ _);have HX1:Hid (((w.alloc (.cells #[.int .i64 x0,.string a1,.string a2] 76)).alloc (.cells #[.int .i64 y0,.string b1,.string b2] 76)).heap[w.heap.size+1]?=some (.cells #[.int .i64 y0,.string b1,.string b2] 76)):=dV w _ _;clear hb0;go_enter func150,ntmps150;go_upto_region 1 with fail;generalize (w.alloc (.cells #[.int .i64 x0,.string a1,.string a2] 76)).alloc (.cells #[.int .i64 y0,.string b1,.string b2] 76)=W1 at*;have hs1:=HB1.out.size
 have HPd:Hid (∀W,Below W1.heap.size W1 W→W.cell? ⟨w.heap.size,0,none⟩=some (.int .i64 x0)∧W.cell? ⟨w.heap.size,1,none⟩=some (.string a1)∧W.cell? ⟨w.heap.size,2,none⟩=some (.string a2)∧W.cell? ⟨w.heap.size+1,0,none⟩=some (.int .i64 y0)∧W.cell? ⟨w.heap.size+1,1,none⟩=some (.string b1)∧W.cell? ⟨w.heap.size+1,2,none⟩=some (.string b2)):=fun W hb=>by
  obtain⟨⟨c0,_⟩,⟨c1,_⟩,⟨c2,_⟩⟩:=fd3 ((hb.block _ (ah HX0.out)).trans HX0.out);obtain⟨⟨d0,_⟩,⟨d1,_⟩,⟨d2,_⟩⟩:=fd3 ((hb.block _ (ah HX1.out)).trans HX1.out);exact⟨c0,c1,c2,d0,d1,d2⟩
 obtain⟨p0,p1,p2,p3,p4,p5⟩:=HPd.out W1 (ae _ _)
 go_region_held3 (fun w'=>w'.cell? ⟨w.heap.size,0,none⟩=some (.int .i64 x0)∧w'.cell? ⟨w.heap.size,1,none⟩=some (.string a1)∧w'.cell? ⟨w.heap.size,2,none⟩=some (.string a2)∧w'.cell? ⟨w.heap.size+1,0,none⟩=some (.int .i64 y0)∧w'.cell? ⟨w.heap.size+1,1,none⟩=some (.string b1)∧w'.cell? ⟨w.heap.size+1,2,none⟩=some (.string b2))
  (first|exact⟨p0,p1,p2,p3,p4,p5⟩|exact HPd.out _ ((ae _ _).drew)|exact HPd.out _ ((aA (ae _ _) _).drew)|exact HPd.out _ (aA ((ae _ _).drew) _))
  (first
   |(go_at_call 196;refine(wT _ _ _).mono ?_;rintro e w' ⟨rfl,rfl⟩)
   |(go_at_call 176;refine(Tryz.strings_Compare _ _ _).mono ?_;rintro e w' ⟨rfl,rfl⟩)
   |(go_at_call 195;refine(Ro W1 _ _ _).mono ?_;rintro e w' ⟨rfl,rfl⟩))
 all_goals
  go_wp2;go_ret;exact⟨rfl,(HB1.out.alloc hs1 _).drew⟩
end Pn
namespace Pn
open Mf Ed
abbrev Rs:=Nat×Nat×ByteArray×ByteArray
def ia(x:Rs):List Value:=[.int .i64 ((x.2.1:Nat):Int),.string x.2.2.1,.string x.2.2.2,.int .i64 ((x.1:Nat):Int)]
def mC:Rs→Rs→Int:=Pv.lex tC (Pv.lex tC (Pv.lex dD dD))
theorem DR:Pv.Cmp (fun _=>True) mC:=Pv.oI zS (Pv.oI zS (Pv.oI kL kL))
theorem PW(a b:Rs):dF [Lib.compareInt a.1 b.1,Lib.compareInt a.2.1 b.2.1,dD a.2.2.1 b.2.2.1,dD a.2.2.2 b.2.2.2]=mC a b:=by
 unfold mC Pv.lex tC;simp only[dF]
 split
 ·split
  ·split
   ·split
    ·rename_i h;rw[h]
    ·rfl
   ·rfl
  ·rfl
 ·rfl
theorem GI{W:World}{r:Nat}{t:TypeId}{x0 x1 x2 x3:Value}(h:W.heap[r]?=some (.cells #[x0,x1,x2,x3] t)):W.cell? ⟨r,0,none⟩=some x0∧W.cell? ⟨r,1,none⟩=some x1∧W.cell? ⟨r,2,none⟩=some x2∧W.cell? ⟨r,3,none⟩=some x3:=by
 simp only[World.cell?,h];exact⟨rfl,rfl,rfl,rfl⟩
theorem Rp(W:World)(x y z u:Int):Calls prog 195 #[.slice (some ⟨W.heap.size,0,none⟩) 4 4] (W.alloc (.cells #[.int .i64 x,.int .i64 y,.int .i64 z,.int .i64 u] 3)).drew fun e w'=>e=.returned (.int .i64 (dF [x,y,z,u]))∧w'=(W.alloc (.cells #[.int .i64 x,.int .i64 y,.int .i64 z,.int .i64 u] 3)).drew:=by
 have h:(W.alloc (.cells #[.int .i64 x,.int .i64 y,.int .i64 z,.int .i64 u] 3)).drew.heap[W.heap.size]?=some (.cells #[.int .i64 x,.int .i64 y,.int .i64 z,.int .i64 u] 3):=aB W _;obtain⟨c0,c1,c2,c3⟩:=GI h;refine JO W.heap.size 4 [x,y,z,u] _ (by simp) (fun j v hj=>?_);rcases j with _|_|_|_|j
 ·injection hj with hj;rw[←hj];exact c0
 ·injection hj with hj;rw[←hj];exact c1
 ·injection hj with hj;rw[←hj];exact c2
 ·injection hj with hj;rw[←hj];exact c3
 ·simp at hj
theorem ow(a b:Rs)(w:World):Calls prog 157 #[.agg (ia a).toArray,.agg (ia b).toArray] w fun e w'=>e=.returned (.int .i64 (mC a b))∧Dr.Below w.heap.size w w':=by
 rw[←PW a b];obtain⟨an,ak,xp,xv⟩:=a;obtain⟨bn,bk,yp,yv⟩:=b;show Calls prog 157 #[.agg #[.int .i64 ((ak:Nat):Int),.string xp,.string xv,.int .i64 ((an:Nat):Int)],.agg #[.int .i64 ((bk:Nat):Int),.string yp,.string yv,.int .i64 ((bn:Nat):Int)]] w fun e w'=>e=.returned (.int .i64 (dF [Lib.compareInt an bn,Lib.compareInt ak bk,dD xp yp,dD xv yv]))∧Dr.Below w.heap.size w w'
 generalize ((an:Nat):Int)=xn;generalize ((ak:Nat):Int)=xk;generalize ((bn:Nat):Int)=yn;generalize ((bk:Nat):Int)=yk;have hb0:Dr.Below w.heap.size w (w.alloc (.cells #[.int .i64 xk,.string xp,.string xv,.int .i64 xn] 203)):=(Dr.Below.refl _ _).alloc (ag _) _;have HB1:Hid (Dr.Below w.heap.size w ((w.alloc (.cells #[.int .i64 xk,.string xp,.string xv,.int .i64 xn] 203)).alloc (.cells #[.int .i64 yk,.string yp,.string yv,.int .i64 yn] 203))):=hb0.alloc hb0.size _;have HX0:Hid (((w.alloc (.cells #[.int .i64 xk,.string xp,.string xv,.int .i64 xn] 203)).alloc (.cells #[.int .i64 yk,.string yp,.string yv,.int .i64 yn] 203)).heap[w.heap.size]?=some (.cells #[.int .i64 xk,.string xp,.string xv,.int .i64 xn] 203)):=(aI _ _ _ (by simp)).trans (aB _ _);have HX1:Hid (((w.alloc (.cells #[.int .i64 xk,.string xp,.string xv,.int .i64 xn] 203)).alloc (.cells #[.int .i64 yk,.string yp,.string yv,.int .i64 yn] 203)).heap[w.heap.size+1]?=some (.cells #[.int .i64 yk,.string yp,.string yv,.int .i64 yn] 203)):=dV w _ _;clear hb0;go_enter func157,ntmps157;go_upto_region 1 with fail;generalize ((w.alloc (.cells #[.int .i64 xk,.string xp,.string xv,.int .i64 xn] 203)).alloc (.cells #[.int .i64 yk,.string yp,.string yv,.int .i64 yn] 203))=W1 at*;have hs1:=HB1.out.size
 have HPd:Hid (∀W,Below W1.heap.size W1 W→W.cell? ⟨w.heap.size,0,none⟩=some (.int .i64 xk)∧W.cell? ⟨w.heap.size,1,none⟩=some (.string xp)∧W.cell? ⟨w.heap.size,2,none⟩=some (.string xv)∧W.cell? ⟨w.heap.size,3,none⟩=some (.int .i64 xn)∧W.cell? ⟨w.heap.size+1,0,none⟩=some (.int .i64 yk)∧W.cell? ⟨w.heap.size+1,1,none⟩=some (.string yp)∧W.cell? ⟨w.heap.size+1,2,none⟩=some (.string yv)∧W.cell? ⟨w.heap.size+1,3,none⟩=some (.int .i64 yn)):=fun W hb=>by
  obtain⟨c0,c1,c2,c3⟩:=GI ((hb.block _ (ah HX0.out)).trans HX0.out);obtain⟨d0,d1,d2,d3⟩:=GI ((hb.block _ (ah HX1.out)).trans HX1.out);exact⟨c0,c1,c2,c3,d0,d1,d2,d3⟩
 obtain⟨p0,p1,p2,p3,p4,p5,p6,p7⟩:=HPd.out W1 (ae _ _)
 go_region_held3 (fun w'=>w'.cell? ⟨w.heap.size,0,none⟩=some (.int .i64 xk)∧w'.cell? ⟨w.heap.size,1,none⟩=some (.string xp)∧w'.cell? ⟨w.heap.size,2,none⟩=some (.string xv)∧w'.cell? ⟨w.heap.size,3,none⟩=some (.int .i64 xn)∧w'.cell? ⟨w.heap.size+1,0,none⟩=some (.int .i64 yk)∧w'.cell? ⟨w.heap.size+1,1,none⟩=some (.string yp)∧w'.cell? ⟨w.heap.size+1,2,none⟩=some (.string yv)∧w'.cell? ⟨w.heap.size+1,3,none⟩=some (.int .i64 yn))
  (first|exact⟨p0,p1,p2,p3,p4,p5,p6,p7⟩|exact HPd.out _ ((ae _ _).drew)|exact HPd.out _ ((aA (ae _ _) _).drew)|exact HPd.out _ (aA ((ae _ _).drew) _))
  (first
   |(go_at_call 196;refine(wT _ _ _).mono ?_;rintro e w' ⟨rfl,rfl⟩)
   |(go_at_call 202;refine(Ca _ _ _).mono ?_;rintro e w' ⟨rfl,rfl⟩)
   |(go_at_call 176;refine(Tryz.strings_Compare _ _ _).mono ?_;rintro e w' ⟨rfl,rfl⟩)
   |(go_at_call 195;refine(Rp W1 _ _ _ _).mono ?_;rintro e w' ⟨rfl,rfl⟩))
 all_goals
  go_wp2;go_ret;exact⟨rfl,(HB1.out.alloc hs1 _).drew⟩
theorem wU(x:Pb):∀v∈aU x,v.oneCell'=true:=fun v hv=>by
 simp[aU] at hv;rcases hv with rfl|rfl|rfl<;>rfl
theorem JR(x:Rs):∀v∈ia x,v.oneCell'=true:=fun v hv=>by
 simp[ia] at hv;rcases hv with rfl|rfl|rfl|rfl<;>rfl
theorem GJ:∀args w,(callFunc 150 args).run prog w=.ok (.enter 150 args) w:=fun _ _=>by kernel_rfl
theorem GK:∀args w,(callFunc 157 args).run prog w=.ok (.enter 157 args) w:=fun _ _=>by kernel_rfl
theorem JU(B e g cap:Nat)(L:List Pb)(w:World)(hm:Ml w)(hg0:g≠0)(h:w.ownsRow B e 3 (.slice (some ⟨g,0,none⟩) L.length cap) L.length (L.flatMap aU))(hl:L.length≤4000000000000000000):
  Calls prog 149 #[.slice (some ⟨g,0,none⟩) L.length cap,.func (.func 150) #[] #[]] w fun e' w'=>e'=.returned (.tuple #[])∧w'.ownsRow B e 3 (.slice (some ⟨g,0,none⟩) L.length cap) L.length ((Ss.aK (Go.Proofs.ltOf rO) L).flatMap aU)∧aj (fun b=>b=g) w w':=
 Ss.wK (enc:=aU) (k:=3) (fun _=>rfl) (by decide) JQ 149 150
  (fun blk off cap d w hc hH hb hs=>Tryz.sortFunc_p 3 isAgg76 sizeOf76 aU (fun _=>rfl) wU rO (Pv.lI id JQ) 150 #[] blk off cap d w GJ hc hH hb hs)
  (fun x y W _=>pg x y W) B e g cap L w hm hg0 h hl
theorem Mb(B e g cap:Nat)(L:List Rs)(w:World)(hm:Ml w)(hg0:g≠0)(h:w.ownsRow B e 4 (.slice (some ⟨g,0,none⟩) L.length cap) L.length (L.flatMap ia))(hl:L.length≤4000000000000000000):
  Calls prog 156 #[.slice (some ⟨g,0,none⟩) L.length cap,.func (.func 157) #[] #[]] w fun e' w'=>e'=.returned (.tuple #[])∧w'.ownsRow B e 4 (.slice (some ⟨g,0,none⟩) L.length cap) L.length ((Ss.aK (Go.Proofs.ltOf mC) L).flatMap ia)∧aj (fun b=>b=g) w w':=
 Ss.wK (enc:=ia) (k:=4) (fun _=>rfl) (by decide) DR 156 157
  (fun blk off cap d w hc hH hb hs=>Tryz.sortFunc_r 4 isAgg203 sizeOf203 ia (fun _=>rfl) JR mC (Pv.lI id DR) 157 #[] blk off cap d w GK hc hH hb hs)
  (fun x y W _=>ow x y W) B e g cap L w hm hg0 h hl
