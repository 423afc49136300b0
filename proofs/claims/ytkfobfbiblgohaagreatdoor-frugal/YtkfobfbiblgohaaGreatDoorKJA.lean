import Derived.Test.YtkfobfbiblgohaaGreatDoorKIA
import Derived.DeepKeys4
import Derived.Deep.RegionHeldLaw
import Derived.Deep.AppendLies
set_option linter.all false
open Go.Proofs.Tryz
set_option maxRecDepth 100000
set_option maxHeartbeats 4000000
namespace Go.Proofs.YtkfobfbiblgohaaGreatDoor
open Go.RowKit
section
variable{w w':zW}
def dv(W:zW)(E F:Nat):Prop:=
 W.cell? (tD E 0)=some (.func (.func 190) #[] #[])/\W.cell? (tD E 1)=some (zE)/\W.cell? (tD E 2)=some (zI F)/\W.cell? (tD E 3)=some (zI 0)
theorem dv.below{E I:Nat}(h:dv w E I)(G:zB w w'):dv w' E I:=by
 have F:=aY w _ h.1;exact⟨by rw[G.cell (p:=(tD E 0)) F];exact h.1,by rw[G.cell (p:=(tD E 1)) F];exact h.2.1,by rw[G.cell (p:=(tD E 2)) F];exact h.2.2.1,by rw[G.cell (p:=(tD E 3)) F];exact h.2.2.2⟩
def cT(W:zW)(b E:Nat)(F:zA):Prop:=W.cell? (tD b 0)=some (zI E)/\W.cell? (tD b 1)=some (tS F)
theorem cT.below{b E:Nat}{I:zA}(h:cT w b E I)(G:zB w w'):cT w' b E I:=by
 have F:=aY w _ h.1;exact⟨by rw[G.cell (p:=(tD b 0)) F];exact h.1,by rw[G.cell (p:=(tD b 1)) F];exact h.2⟩
theorem below_drewN{B q:Nat}{a:zW}(h:Below B a w):Below B a (w.drewN q):=⟨h.os,h.tape,h.output,h.size,h.block⟩
theorem ib(W:zW)(E:Nat)(F:zA)(t:TypeId):cT (W.alloc (.cells #[zI E,tS F] t)) W.heap.size E F:=by
 have G:=iU W (.cells #[zI E,tS F] t);exact⟨by simp only[World.cell?,G];rfl,by simp only[World.cell?,G];rfl⟩
theorem CS(I T V n wc k F:Nat)(E:zA)(w:zW)(hn:0<n)(U:dv w I T)(hw:cT w V F E)(hx:(E.toList==[118,101,114,115,105,111,110])=false)(hk:k=2\/k=3):
  zC 207 #[zP I,zI k,.slice (some (tD V 0)) n wc] w fun e w'=>e=.returned (zI (if k=2 then -1 else (F:Int)))/\zB w w':=by
 have a1:(0:Int)<(n:Int):=by omega
 have hc:∀(args:Array zV)(w:zW),(callFunc 190 args).run prog w=.ok (.enter 190 args) w:=fun _ _=>by kernel_rfl
 have kI:∀W,_:=fun W=>zk E W hx
 have Y:=zH U;obtain⟨c0,c1⟩:=hw;clear U;go_enter func207,ntmps207;go_upto_region 2 with fail;have G:Hid (zB w (w.alloc (.cells #[zI F,tS E] 307))):=(ae _ _).alloc (ah _) _;have M:Hid (dv (w.alloc (.cells #[zI F,tS E] 307)) I T):=Y.out.below G.out;have O:=zH (ib w F E 307);clear c0 c1;generalize w.alloc (.cells #[zI F,tS E] 307)=W1 at*;obtain⟨b0,b2,b3,b4⟩:=M.out;obtain⟨b5,b1⟩:=O.out
 go_region_held3 (fun w'=>w'.cell? (tD I 0)=some (.func (.func 190) #[] #[])/\w'.cell? (tD w.heap.size 1)=some (tS E))
   (first|exact⟨b0,b1⟩)
   (first|(go_at_call 190;refine(kI _).mono ?_;rintro e w2 ⟨rfl,rfl⟩))
 all_goals
  rcases hk with rfl|rfl
  ·go_upto_region 6 with fail
   go_quiet (fail);go_wp2;go_ret;exact⟨rfl,below_drewN G.out⟩
  ·go_wp2
   go_ret;exact⟨rfl,G.out.drew⟩
theorem Bq(W:zW):KAt (W.alloc (.cells #[zI 6] 3)) W.heap.size [6]:=by
 have F:=iU W (.cells #[zI 6] 3);refine⟨by simp,fun j E=>?_⟩;have e:j=0:=by simp at E;exact E
 subst e;simp only[World.cell?,F];rfl
def Ny(w:zW)(E n wc k:Nat)(z:Int):Prop:=
 (k=2/\z=-1)\/(k=3/\z=-1)\/(k=9/\z=-1)\/
 (k=4/\∀W p,zB w W->zC 222 #[.slice (some (tD p 0)) 1 1,.slice (some (tD E 0)) n wc] W fun e w'=>e=.returned (zI z)/\zB W w')\/
 ((k=5\/k=6\/k=7)/\n=2/\2<=wc/\∀W p,zB w W->KAt W p [6]->zC 223 #[zI k,.slice (some (tD p 0)) 1 1,.slice (some (tD E 2)) 1 (wc-1)] W fun e w'=>e=.returned (zI z)/\zB W w')
theorem Br(U sp wb n wc k G:Nat)(z:Int)(w:zW)(hn:0<n)(hr:dv w U sp)(hw:cT w wb G ⟨#[118,101,114,115,105,111,110]⟩)(hk:Ny w wb n wc k z):
  zC 207 #[zP U,zI k,.slice (some (tD wb 0)) n wc] w fun e w'=>e=.returned (zI z)/\zB w w':=by
 have HK:Hid (Ny w wb n wc k z):=hk;clear hk;have a3:(0:Int)<(n:Int):=by omega
 have hc:∀(args:Array zV)(w:zW),(callFunc 190 args).run prog w=.ok (.enter 190 args) w:=fun _ _=>by kernel_rfl
 have kI:∀W,_:=fun W=>kD W
 have HR:Hid (dv w U sp):=hr;obtain⟨c0,c1⟩:=hw;clear hr;go_enter func207,ntmps207;go_upto_region 2 with fail;have M:Hid (zB w (w.alloc (.cells #[zI G,tS ⟨#[118,101,114,115,105,111,110]⟩] 307))):=(ae _ _).alloc (ah _) _;have Y:Hid (dv (w.alloc (.cells #[zI G,tS ⟨#[118,101,114,115,105,111,110]⟩] 307)) U sp):=HR.out.below M.out;have a1:Hid (cT (w.alloc (.cells #[zI G,tS ⟨#[118,101,114,115,105,111,110]⟩] 307)) w.heap.size G ⟨#[118,101,114,115,105,111,110]⟩):=ib w G ⟨#[118,101,114,115,105,111,110]⟩ 307;clear c0 c1;generalize w.alloc (.cells #[zI G,tS ⟨#[118,101,114,115,105,111,110]⟩] 307)=W1 at*;obtain⟨b0,b2,b3,b4⟩:=Y.out;obtain⟨b5,b1⟩:=a1.out;have V:∀W,zB W1 W->dv W U sp/\cT W w.heap.size G ⟨#[118,101,114,115,105,111,110]⟩:=fun W I=>⟨Y.out.below I,a1.out.below I⟩
 have T:zB W1 (W1.alloc (.cells #[zI 6] 3)).drew:=(ax (ae _ _) _).drew;have a2:Hid (KAt (W1.alloc (.cells #[zI 6] 3)).drew W1.heap.size [6]):=Bq W1;obtain⟨⟨d0,d2,d3,d4⟩,d5,d1⟩:=V _ T;have E:Hid (zB w (W1.alloc (.cells #[zI 6] 3)).drew):=M.out.trans (T.mono M.out.size);clear V T
 go_region_held3 (fun w'=>w'.cell? (tD U 0)=some (.func (.func 190) #[] #[])/\w'.cell? (tD w.heap.size 1)=some (tS ⟨#[118,101,114,115,105,111,110]⟩))
   (first|exact⟨b0,b1⟩|exact⟨d0,d1⟩)
   (first|(go_at_call 190;refine(kI _).mono ?_;rintro e w2 ⟨rfl,rfl⟩))
 all_goals
  clear b0 b1 b2 b3 b4 b5;generalize (W1.alloc (.cells #[zI 6] 3)).drew=W2 at*;rcases HK.out with⟨rfl,rfl⟩|⟨rfl,rfl⟩|⟨rfl,rfl⟩|⟨rfl,F⟩|⟨hk,rfl,a4,F⟩
  ·go_upto_region 6 with fail
   go_quiet (fail);go_wp2;go_ret;exact⟨rfl,below_drewN E.out⟩
  ·go_wp2
   go_ret;exact⟨rfl,E.out⟩
  ·go_wp2
   go_ret;exact⟨rfl,E.out⟩
  ·have F:=fun p=>F W2 p E.out
   go_wp2_with (go_at_call 222;fail)
   go_at_call 222;refine(F _).mono ?_;rintro e w3 ⟨rfl,I⟩;have O:Hid (zB w w3):=E.out.trans (I.mono E.out.size);clear I F;go_wp2;go_ret;exact⟨rfl,O.out⟩
  ·have F:=F W2 _ E.out a2.out
   rcases hk with rfl|rfl|rfl
   all_goals
    first
     |rw[show((5:Nat):Int)=5 from rfl] at F
     |rw[show((6:Nat):Int)=6 from rfl] at F
     |rw[show((7:Nat):Int)=7 from rfl] at F
    go_wp2_with (go_at_call 223;fail)
    go_at_call 223;refine F.mono ?_;rintro e w3 ⟨rfl,I⟩;have O:Hid (zB w w3):=E.out.trans (I.mono E.out.size);clear I F;go_wp2;go_ret;exact⟨rfl,O.out⟩
end
section
variable{w w':zW}
theorem EW(p k:Nat)(O:zV)(w:zW)(G:k=5\/k=7)(T:w.cell? (tD p 0)=some (zI 6)):
  zC 223 #[zI k,.slice (some (tD p 0)) 1 1,O] w fun e w'=>e=.returned (zI (-1))/\zB w w':=by
 have E:∀q:Nat,(((6:Nat):Int)==(k:Int))=false:=fun _=>by rcases G with rfl|rfl<;>rfl
 have M:((6:Int)==(k:Int))=false:=E 0;clear E;go_enter func223,ntmps223;go_wp2;go_loopg [11] 1 (fun F f wr=>∃j:Nat,j<=1/\1-j<=F/\f=zI j/\wr=w)
 case atStart=>exact⟨0,by omega,by omega,rfl,rfl⟩
 case round=>
  obtain⟨j,V,U,rfl,I⟩:=hrel;subst I;rcases(by omega:j=0\/j=1) with rfl|rfl
  ·go_wp2
   go_roundg 0
   case measure=>omega
   case rel=>exact⟨1,by omega,by omega,rfl,rfl⟩
  ·go_wp2
   go_ret;exact⟨rfl,ae _ _⟩
theorem getD_at{l:List (Nat×zA)}{j:Nat}(h:j<l.length):l.getD j pad=l[j]:=by
 simp[List.getD,aZ h]
def im(l:List (Nat×zA))(k:Nat):Int:=
 if k=4 then (if 2<l.length then ((l.getD 2 pad).1:Int) else if l.length<2 then ((l.getD 0 pad).1:Int)+((l.getD 0 pad).2.size:Int) else -1)
 else if k=6 then (if (Pv.parse (l.getD 1 pad).2.data.toList).isSome then -1 else ((l.getD 1 pad).1:Int))
 else -1
theorem EX{G wc:Nat}{l:List (Nat×zA)}(U:WAt w G 0 l)(E:0<l.length)(hs:∀x∈l,x.1<=4000/\x.2.size<=4000):Ny w G l.length wc 4 (im l 4):=by
 refine oS (oS (oS (oE ⟨rfl,fun W p V=>?_⟩)));have F:=U.below V;unfold im;rw[aj rfl];by_cases M:2<l.length
 ·rw[aj M]
  refine(qA (some (tD p 0)) G 0 1 1 l.length wc ((l.getD 2 pad).1:Int) W (by omega) (by omega) ?_).mono ?_
  ·have h:=(F.2 2 M).1
   rw[getD_at M];exact h
  ·rintro e w' ⟨rfl,rfl⟩
   exact⟨rfl,ae _ _⟩
 ·rw[ag M]
  by_cases O:l.length<2
  ·rw[aj O]
   have T:=hs _ (ez E);have Y:l.getD 0 pad=l[0]:=getD_at E;rw[Y];have I:l.length-1=0:=by omega
   refine(sB (some (tD p 0)) G 0 1 1 l.length wc l[0].1 l[0].2 W (by omega) (by omega) (by omega) T.1 T.2 ?_ ?_).mono ?_
   ·rw[I];exact(F.2 0 E).1
   ·rw[I];exact(F.2 0 E).2
   ·rintro e w' ⟨rfl,h⟩
    exact⟨rfl,h⟩
  ·rw[ag O]
   have I:l.length=1+1:=by omega
   rw[I];refine(qz (some (tD p 0)) (some (tD G 0)) 1 1 wc W (by omega)).mono ?_;rintro e w' ⟨rfl,rfl⟩;exact⟨rfl,ae _ _⟩
theorem oM{M wc k:Nat}{l:List (Nat×zA)}(hm:Ml w)(hW:WAt w M 0 l)(h2:l.length=2)(hc:2<=wc)(I:k=5\/k=6\/k=7):Ny w M l.length wc k (im l k):=by
 refine oS (oS (oS (oS ⟨I,h2,hc,fun W p hb Y=>?_⟩)))
 have E:∀k:Nat,k=5\/k=7->zC 223 #[zI k,.slice (some (tD p 0)) 1 1,.slice (some (tD M 2)) 1 (wc-1)] W fun e w'=>e=.returned (zI (im l k))/\zB W w':=fun k I=>by
  have e:im l k=-1:=by rcases I with rfl|rfl<;>rfl
  rw[e];exact EW p k _ W I (Y.2 0 (by simp))
 rcases I with rfl|rfl|rfl
 ·exact E 5 (oE rfl)
 ·have F:=hW.below hb
  have V:1<l.length:=by omega
  have O:WAt W M 2 [l[1]]:=⟨F.1,fun j U=>by
   have e:j=0:=by simp at U;exact U
   subst e;exact F.2 1 V⟩
  refine(xy ipF 6 p M 2 1 1 1 (wc-1) [6] [l[1]] W (by omega) rfl rfl (by omega) (by omega) Y O ?_).mono ?_
  ·intro j U W' T
   exact sD ipF _ W' ((hm.below hb).below T)
  ·rintro e w' ⟨rfl,h⟩
   refine⟨?_,h⟩;have hg:l.getD 1 pad=l[1]:=getD_at V;unfold im;rw[ag (by decide),aj rfl,hg];have G:Tx.fit ipF 6 l[1].2.data.toList=(Pv.parse l[1].2.data.toList).isSome:=rfl;simp only[aF,bQ,fL,Tx.misfit,G];cases (Pv.parse l[1].2.data.toList).isSome<;>simp[CQ]
 ·exact E 7 (oS rfl)
end
section
variable{w w':zW}
theorem Kh:laidOutB prog=true:=by kernel_rfl
theorem P3:(312:TypeId)<prog.types.size:=gD (by kernel_rfl)
theorem Nz:(match prog.underlying 312 with|some (.array _ _)|some (.struct _)=>true|_=>false)=true:=by kernel_rfl
theorem NA:prog.keyTypeAt 3 312=true:=by kernel_rfl
theorem Ki:prog.keyType 312=true:=by kernel_rfl
theorem NB:prog.types.size=366:=by kernel_rfl
theorem CU:prog.cellsOf 312=3:=by kernel_rfl
theorem P4:prog.cellsOf 9=1:=by kernel_rfl
theorem P5:WideMaps.KeyLaw prog 312:=deep_law_laid Kh (m:=3) (Nat.le_of_ble_eq_true rfl) P3 NA Nz
theorem jm:Maps.Keyed prog 312:=Maps.Keyed.of_law P5
end
section
variable{w w':zW}
theorem xz(d:Nat)(s:zA)(h:s.size<=maxLen):prog.keyLits (d+1) 9 [tS s]=some [.string s.data.toList]:=by
 unfold Program.keyLits;rw[underlying9];show(if s.size<=maxLen then some [Lit.string s.data.toList] else none)=_;rw[aj h]
theorem zU(f p v:zA)(F:f.size<=maxLen)(G:p.size<=maxLen)(I:v.size<=maxLen):∃l,keyOf prog 312 (.agg #[tS f,tS p,tS v])=some l:=by
 have E:prog.keyLits (prog.types.size+1) 312 [tS f,tS p,tS v]=some [.string f.data.toList,.string p.data.toList,.string v.data.toList]:=by
  rw[NB];unfold Program.keyLits;rw[underlying312];simp only[CU,bW,gU];rw[aj ⟨trivial,by kernel_rfl⟩];simp only[List.mapM_cons,List.mapM_nil,P4,List.drop,List.take,xz 365 f F,xz 365 p G,xz 365 v I]
  rfl
 refine⟨.string (keyBytes [.string f.data.toList,.string p.data.toList,.string v.data.toList]),?_⟩;unfold keyOf;rw[underlying312];show(if (prog.keyType 312&&(Value.agg #[tS f,tS p,tS v]).formed prog 312)=true then (prog.keyLits (prog.types.size+1) 312 [tS f,tS p,tS v]).map (fun M=>Lit.string (keyBytes M)) else none)=_;rw[Ki,E];rw[aj (by simp[Value.formed,underlying312,CU])]
 rfl
def kE(v:zA)(l:Lit):Prop:=keyOf prog 312 (.agg #[tS ⟨#[118,101,114,115,105,111,110]⟩,zE,tS v])=some l
theorem sF(v:zA)(E:v.size<=maxLen):∃l,kE v l:=zU _ _ v (by decide) (by decide) E
theorem Bt{v u:zA}{l:Lit}(h:kE v l)(F:kE u l):v=u:=by
 have E:=jm.inj h F;simp only[Value.agg.injEq,Array.mk.injEq,eL,Value.string.injEq,true_and,fE] at E;exact E
def SaidAt(W:zW)(b n:Nat)(E:List zA):Prop:=
 ∃D:DataW Unit,W.ownsMap prog 312 (plainElem prog 3) b n D/\Maps.IsMap D/\∀v l,kE v l->Maps.has D l=E.any (fun x=>decide (x=v))
theorem SaidAt.put{W:zW}{b m:Nat}{O:List zA}{D:DataW Unit}{v:zA}{l:Lit}{d:DataW Unit}(U:Maps.IsMap D)(Y:∀v l,kE v l->Maps.has D l=O.any (fun x=>decide (x=v)))(G:kE v l)
  (V:W.ownsMap prog 312 (plainElem prog 3) b m (D.put l d)) (F:Maps.IsMap (D.put l d)):SaidAt W b m (O++[v]):=by
 refine⟨_,V,F,fun u M I=>?_⟩;rw[List.any_append];by_cases e:M=l
 ·subst e
  have E:=Bt G I;subst E;rw[Maps.has_put_same U (jm.key G)];simp
 ·rw[Maps.has_put_other e,Y u M I]
  have E:v≠u:=fun E=>by
   subst E;have T:some M=some l:=I.symm.trans G;exact e (by injection T)
  simp[E]
end
section
variable{w w':zW}
theorem Kj(w:zW):(zeroValue 3).run prog w=.ok (zI 0) w:=by kernel_rfl
theorem Bu(T sp wb wc V mb mn:Nat)(v:zA)(vs:List zA)(w:zW)(hv:v.size<=2000)(hm:w.cell? (tD T 4)=some (.map (some mb)))(hS:SaidAt w mb mn vs)(h3:w.cell? (tD wb 3)=some (tS v))(hr:dv w T sp)(hw:cT w wb V ⟨#[118,101,114,115,105,111,110]⟩):
  zC 207 #[zP T,zI 8,.slice (some (tD wb 0)) 2 wc] w fun e w'=>e=.returned (zI (if vs.any (fun x=>decide (x=v)) then (V:Int) else -1))/\zB w w':=by
 obtain⟨l,hl⟩:=sF v (by unfold maxLen;omega);obtain⟨D,M,_,a2⟩:=hS;have HD:Hid (Maps.has D l=vs.any (fun x=>decide (x=v))):=a2 v l hl;clear a2;generalize vs.any (fun x=>decide (x=v))=dd at HD ⊢;have HO:Hid (∃es clock,w.heap[mb]?=some (.map es clock)):=by obtain⟨es,cl,h,_⟩:=M;exact⟨es,cl,h⟩
 have aq:mb<w.heap.size:=by
  obtain⟨es,cl,h⟩:=HO.out;exact(ou.1 h).1
 have a6:Hid (∀W,zB w W->W.ownsMap prog 312 (plainElem prog 3) mb mn D):=fun W E=>by
  obtain⟨es,cl,h,ak⟩:=M;exact⟨es,cl,(E.block mb aq).trans h,ak⟩
 have au:=aY w _ hm;have ad:=aY w _ h3;have a1:Hid (∀W,zB w W->W.cell? (tD T 4)=some (.map (some mb))/\W.cell? (tD wb 3)=some (tS v)/\W.cell? (tD wb 1)=some (tS ⟨#[118,101,114,115,105,111,110]⟩)):=fun W E=>⟨by rw[E.cell (p:=(tD T 4)) au];exact hm,by rw[E.cell (p:=(tD wb 3)) ad];exact h3,by rw[E.cell (p:=(tD wb 1)) ad];exact hw.2⟩
 have HL:Hid (kE v l):=hl;clear hm h3 M hl HO;have hc:∀(args:Array zV)(w:zW),(callFunc 190 args).run prog w=.ok (.enter 190 args) w:=fun _ _=>by kernel_rfl
 have kI:∀W,_:=fun W=>kD W
 have HR:Hid (dv w T sp):=hr;obtain⟨c0,c1⟩:=hw;clear hr;go_enter func207,ntmps207;go_upto_region 2 with fail;have a3:Hid (zB w (w.alloc (.cells #[zI V,tS ⟨#[118,101,114,115,105,111,110]⟩] 307))):=(ae _ _).alloc (ah _) _;have a7:Hid (dv (w.alloc (.cells #[zI V,tS ⟨#[118,101,114,115,105,111,110]⟩] 307)) T sp):=HR.out.below a3.out;have a8:Hid (cT (w.alloc (.cells #[zI V,tS ⟨#[118,101,114,115,105,111,110]⟩] 307)) w.heap.size V ⟨#[118,101,114,115,105,111,110]⟩):=ib w V ⟨#[118,101,114,115,105,111,110]⟩ 307;clear c0 c1;generalize w.alloc (.cells #[zI V,tS ⟨#[118,101,114,115,105,111,110]⟩] 307)=W1 at*;obtain⟨b0,b2,b3,b4⟩:=a7.out;obtain⟨b5,b1⟩:=a8.out;have a5:∀W,zB W1 W->dv W T sp/\cT W w.heap.size V ⟨#[118,101,114,115,105,111,110]⟩:=fun W E=>⟨a7.out.below E,a8.out.below E⟩
 have G:zB W1 (W1.alloc (.cells #[zI 6] 3)).drew:=(ax (ae _ _) _).drew;have an:Hid (KAt (W1.alloc (.cells #[zI 6] 3)).drew W1.heap.size [6]):=Bq W1;obtain⟨⟨d0,d2,d3,d4⟩,d5,d1⟩:=a5 _ G;have a4:Hid (zB w (W1.alloc (.cells #[zI 6] 3)).drew):=a3.out.trans (G.mono a3.out.size);clear a5 G
 go_region_held3 (fun w'=>w'.cell? (tD T 0)=some (.func (.func 190) #[] #[])/\w'.cell? (tD w.heap.size 1)=some (tS ⟨#[118,101,114,115,105,111,110]⟩))
   (first|exact⟨b0,b1⟩|exact⟨d0,d1⟩)
   (first|(go_at_call 190;refine(kI _).mono ?_;rintro e w2 ⟨rfl,rfl⟩))
 all_goals
  clear b0 b1 b2 b3 b4 b5;obtain⟨e4,e5,e6⟩:=a1.out _ a4.out;have az:Below (W1.alloc (.cells #[zI 6] 3)).drew.heap.size (W1.alloc (.cells #[zI 6] 3)).drew (W1.alloc (.cells #[zI 6] 3)).drew:=ae _ _;generalize (W1.alloc (.cells #[zI 6] 3)).drew=U at*;go_upto_region 16 with fail;have Y:Hid (∀W,zB U W->zB w W):=fun W E=>a4.out.trans (E.mono a4.out.size)
  have ks:∀W,zB U W->zC 224 #[.slice (some (tD W1.heap.size 0)) 1 1,.slice (some (tD wb 0)) 2 wc] W fun e w'=>e=.returned (.agg #[tS ⟨#[118,101,114,115,105,111,110]⟩,zE,tS v,zE])/\zB W w':=fun W E=>by
   obtain⟨f4,f5,f6⟩:=a1.out W (Y.out W E);have ab:=an.out.below E;exact lf W1.heap.size wb 0 2 wc _ v W (by omega) (by omega) ab.1 (aY W _ f5) (ab.2 0 (by simp)) f6 f5
  have kc:∀W,zC 225 #[.agg #[tS ⟨#[118,101,114,115,105,111,110]⟩,zE,tS v,zE]] W fun e w'=>e=.returned (.agg #[tS ⟨#[118,101,114,115,105,111,110]⟩,zE,tS v])/\zB W w':=fun W=>oL _ _ v _ W (by kernel_rfl)
  have sy:∀W,zB U W->W.ownsMap prog 312 (plainElem prog 3) mb mn D:=fun W E=>a6.out W (Y.out W E)
  have CV:∀W,zB U W->∃c:Int,(Instr.lookup 258 (.map (some mb)) (.agg #[tS ⟨#[118,101,114,115,105,111,110]⟩,zE,tS v]) true).run prog W=.ok (.tuple #[zI c,.bool (Maps.has D l)]) W:=fun W E=>by
   obtain⟨v0,ps,O,av⟩:=(sy W E).look_ok jm underlying258 (Kj W) (plainElem_int underlying3 (by decide)) HL.out;obtain⟨c,rfl,_,_⟩:=plainElem_int_inv underlying3 av;exact⟨c,O⟩
  have F:∀W,zB U W->W.cell? (tD T 4)=some (.map (some mb)):=fun W E=>(a1.out W (Y.out W E)).1
  clear a1 e5 e6 kI a6 sy
  go_region_held3 (fun w'=>w'.cell? (tD T 4)=some (.map (some mb)))
    (first|exact e4|exact F _ I|exact F _ G|exact F _ ((ae _ _).drew))
    (first
     |(go_at_call 224;refine(ks _ ((ae _ _).drew)).mono ?_;rintro e w3 ⟨rfl,a9⟩;have G:zB U w3:=(ae U.heap.size U).drew.trans a9;clear a9)
     |(go_at_call 225;refine(kc _).mono ?_;rintro e w4 ⟨rfl,aa⟩;have I:zB U w4:=G.trans (aa.mono G.size);obtain⟨cL,O⟩:=CV _ I;clear aa))
  all_goals
   have d6:w4.cell? (tD w.heap.size 0)=some (zI V):=by
    rw[I.cell (p:=(tD w.heap.size 0)) (aY U _ d5)];exact d5
   have HE:Hid (zB w w4):=Y.out _ I;clear CV F ks kc d0 d1 d2 d3 d4 d5 O G I e4;rw[HD.out];clear HD;cases dd
   ·go_wp2
    go_ret;exact⟨rfl,HE.out⟩
   ·go_wp2
    go_ret;exact⟨rfl,HE.out⟩
end
section
variable{w w':zW}
abbrev eO:zA:=⟨#[118,101,114,115,105,111,110]⟩
def cu(E:List zA):List zV:=E.flatMap fun v=>[tS eO,zE,tS v,zE]
theorem mU(E:List zA)(v:zA):cu (E++[v])=cu E++[tS eO,zE,tS v,zE]:=by simp[cu]
theorem Gc:∃i,prog.info? 265=some i/\i.zero=some (.agg #[tS ByteArray.empty,tS ByteArray.empty,tS ByteArray.empty,tS ByteArray.empty])/\i.size=4/\i.bytes=64:=by
 have h:(prog.info? 265).map (fun i=>(i.zero,i.size,i.bytes))=some (some (.agg #[tS ByteArray.empty,tS ByteArray.empty,tS ByteArray.empty,tS ByteArray.empty]),4,64):=by kernel_rfl
 rw[qP] at h;obtain⟨i,F,E⟩:=h;simp only[iT] at E;exact⟨i,F,E.1,E.2.1,E.2.2⟩
def Fld(W:zW)(b o:Nat)(v:zV):Prop:=W.cell? (tD b o)=some v/\W.frozen? (tD b o)=false
theorem Fld.of_block{W W':zW}{b o:Nat}{v:zV}(h:Fld W b o v)(e:W'.heap[b]?=W.heap[b]?):Fld W' b o v:=
 ⟨by rw[bg (w:=W) (a:=(tD b o)) e];exact h.1,by rw[gy (w:=W) (a:=(tD b o)) e];exact h.2⟩
structure Rd(W:World)(rp mb B sp:Nat)(sv:zV)(vs us:List zA):Prop where
 rd:dv W rp sp
 f2:W.frozen? (tD rp 2)=false
 fm:W.cell? (tD rp 4)=some (.map (some mb))
 fs:Fld W rp 5 sv
 lt:rp<B/\mb<B/\B<=W.heap.size/\rp≠mb
 own:W.ownsRow B 265 4 sv vs.length (cu vs)
 said:SaidAt W mb us.length us
theorem SaidAt.of_block{W W':zW}{b n:Nat}{F:List zA}(h:SaidAt W b n F)(e:W'.heap[b]?=W.heap[b]?):SaidAt W' b n F:=by
 obtain⟨D,⟨G,cl,I,E⟩,M⟩:=h;exact⟨D,⟨G,cl,e.trans I,E⟩,M⟩
theorem dv.of_block{W W':zW}{E F:Nat}(h:dv W E F)(e:W'.heap[E]?=W.heap[E]?):dv W' E F:=
 ⟨by rw[bg (w:=W) (a:=(tD E 0)) e];exact h.1,by rw[bg (w:=W) (a:=(tD E 1)) e];exact h.2.1,by rw[bg (w:=W) (a:=(tD E 2)) e];exact h.2.2.1,by rw[bg (w:=W) (a:=(tD E 3)) e];exact h.2.2.2⟩
theorem Rd.of_block{W W':zW}{E mb B I:Nat}{G:zV}{O M:List zA}(h:Rd W E mb B I G O M)(V:W.heap.size<=W'.heap.size)(F:W'.heap[E]?=W.heap[E]?)(T:W'.heap[mb]?=W.heap[mb]?)(U:∀b,G.ownBlock=some b->W'.heap[b]?=W.heap[b]?):Rd W' E mb B I G O M:=
 ⟨h.rd.of_block F,by rw[gy (w:=W) (a:=(tD E 2)) F];exact h.f2,by rw[bg (w:=W) (a:=(tD E 4)) F];exact h.fm,h.fs.of_block F,⟨h.lt.1,h.lt.2.1,aN h.lt.2.2.1 V,h.lt.2.2.2⟩,ar h.own U,h.said.of_block T⟩
theorem Rd.grown{W W':zW}{E mb B sp:Nat}{M G:zV}{O us:List zA}{v:zA}(h:Rd W E mb B sp M O us)(V:W.grownBy W' M.ownBlock)(ho:W'.ownsRow B 265 4 G (O.length+1) (cu O++[tS eO,zE,tS v,zE])):Rd (W'.setCell (tD E 5) G) E mb B sp G (O++[v]) us:=by
 have a0:E<W.heap.size:=bP h.lt.1 h.lt.2.2.1;have Y:mb<W.heap.size:=bP h.lt.2.1 h.lt.2.2.1;have n1:some E≠M.ownBlock:=fun e=>by have h1:=(h.own.lt E e.symm).1;have:=h.lt.1;omega
 have n2:some mb≠M.ownBlock:=fun e=>by have h1:=(h.own.lt mb e.symm).1;have:=h.lt.2.1;omega
 have I:=V.block E a0 n1;have T:=V.block mb Y n2;have r:=h.rd.of_block I;have c4:W'.cell? (tD E 4)=some (.map (some mb)):=by rw[bg (w:=W) (a:=(tD E 4)) I];exact h.fm
 have f5:=h.fs.of_block I;have U:W'.frozen? (tD E 2)=false:=by rw[gy (w:=W) (a:=(tD E 2)) I];exact h.f2
 have F:∀j,j≠5->((tD E 5):Addr)≠(tD E j):=fun j hj e=>by injection e with _ e;exact hj e.symm
 have CW:(W'.setCell (tD E 5) G).heap.size=W'.heap.size:=by simp[World.setCell]
 refine⟨⟨?_,?_,?_,?_⟩,?_,?_,⟨iC _ _ _ f5.1,?_⟩,⟨h.lt.1,h.lt.2.1,?_,h.lt.2.2.2⟩,?_,?_⟩
 ·rw[cH _ _ _ _ (F 0 (by decide))];exact r.1
 ·rw[cH _ _ _ _ (F 1 (by decide))];exact r.2.1
 ·rw[cH _ _ _ _ (F 2 (by decide))];exact r.2.2.1
 ·rw[cH _ _ _ _ (F 3 (by decide))];exact r.2.2.2
 ·rw[dX];exact U
 ·rw[cH _ _ _ _ (F 4 (by decide))];exact c4
 ·rw[dX];exact f5.2
 ·rw[CW];exact aN h.lt.2.2.1 V.size
 ·rw[mU,aU]
  exact ar ho (fun b e=>aL _ _ _ _ (fun T=>by have h1:=(ho.lt b e).1;have h2:=h.lt.1;have e3:b=E:=T;omega))
 ·exact(h.said.of_block T).of_block (aL _ _ _ _ (fun e=>h.lt.2.2.2 e.symm))
end
section
variable{w w':zW}
structure Fr(X:Nat->Prop)(w w':World):Prop where
 os:w'.os=w.os
 tape:w'.tape=w.tape
 output:w'.output=w.output
 size:w.heap.size<=w'.heap.size
 block:∀b,b<w.heap.size->¬X b->w'.heap[b]?=w.heap[b]?
theorem Fr.trans{X:Nat->Prop}{a b c:zW}(h:Fr X a b)(E:Fr X b c):Fr X a c:=
 ⟨E.os.trans h.os,E.tape.trans h.tape,E.output.trans h.output,aN h.size E.size,fun k F G=>(E.block k (bP F h.size) G).trans (h.block k F G)⟩
theorem Fr.of_below{X:Nat->Prop}{a b:zW}(h:zB a b):Fr X a b:=⟨h.os,h.tape,h.output,h.size,fun k E _=>h.block k E⟩
theorem Fr.sG{X:Nat->Prop}{a b:zW}{row:Option Nat}(h:a.grownBy b row)(G:∀k,row=some k->X k):Fr X a b:=
 ⟨h.os,h.tape,h.output,h.size,fun k E F=>h.block k E (fun e=>F (G k e.symm))⟩
theorem Fr.qZ{X:Nat->Prop}(a:zW)(b o:Nat)(v:zV)(G:X b):Fr X a (a.setCell (tD b o) v):=
 ⟨rfl,rfl,rfl,by simp[World.setCell],fun k _ F=>aL _ _ _ _ (fun e=>F (by have E:k=b:=e;rw[E];exact G))⟩
def Mine(E mb:Nat)(F:zV)(b:Nat):Prop:=b=E\/b=mb\/F.ownBlock=some b
theorem rf{W:zW}{mb E:Nat}{F:List zA}{v:zA}(a0:E<=4000)(hu:F.length<=2001)(hv:v.size<=2000)(Y:SaidAt W mb F.length F):
  ∃G,(Instr.mapUpdate 258 (.map (some mb)) (.agg #[tS eO,zE,tS v]) (zI E)).run prog W=.ok () G/\SaidAt G mb (F.length+1) (F++[v])/\W.grownBy G (some mb):=by
 obtain⟨l,O⟩:=sF v (by unfold maxLen;omega);obtain⟨D,ho,M,hh⟩:=Y
 have I:(Lit.int .i64 (E:Int)).wf=true:=by
  have e:wrap64 (E:Int)=(E:Int):=by
   first
    |(unfold wrap64;omega)
    |(simp[wrap64];omega)
  have h:=wrap64_wf (E:Int);rw[e] at h;exact h
 obtain⟨G,T,U,V⟩:=ho.update jm underlying258 (by unfold maxLen;omega) O (plainElem_int underlying3 I);exact⟨G,T,SaidAt.put M hh O U (M.put _ _),V⟩
theorem Rd.put{W W':zW}{F mb B T:Nat}{O:zV}{U us E:List zA}(h:Rd W F mb B T O U us)(I:W.grownBy W' (some mb))(hs:SaidAt W' mb E.length E):Rd W' F mb B T O U E:=by
 have M:F<W.heap.size:=bP h.lt.1 h.lt.2.2.1;have G:=I.block F M (fun e=>h.lt.2.2.2 (by injection e))
 have V:∀b,O.ownBlock=some b->W'.heap[b]?=W.heap[b]?:=fun b e=>I.block b (h.own.lt b e).2 (fun Y=>by
  have h1:=(h.own.lt b e).1;have h2:=h.lt.2.1;injection Y with e4;omega)
 exact⟨h.rd.of_block G,by rw[gy (w:=W) (a:=(tD F 2)) G];exact h.f2,by rw[bg (w:=W) (a:=(tD F 4)) G];exact h.fm,h.fs.of_block G,⟨h.lt.1,h.lt.2.1,aN h.lt.2.2.1 I.size,h.lt.2.2.2⟩,ar h.own V,hs⟩
theorem xA(F sp wb wc a0 mb B ln:Nat)(Y:zV)(G:List zA)(v:zA)(w:zW)(hv:v.size<=2000)(hn:G.length<=2001)(bt:ln<=4000)(hr:Rd w F mb B sp Y G G)(hw:cT w wb a0 eO)(h3:w.cell? (tD wb 3)=some (tS v)):
  zC 208 #[zP F,zI ln,.slice (some (tD wb 0)) 2 wc] w fun e w'=>∃bn,e=.returned (.tuple #[])/\Rd w' F mb B sp bn (G++[v]) (G++[v])/\Fr (Mine F mb Y) w w'/\(∀b,bn.ownBlock=some b->Y.ownBlock=some b\/w.heap.size<=b):=by
 have hc:∀(args:Array zV)(w:zW),(callFunc 190 args).run prog w=.ok (.enter 190 args) w:=fun _ _=>by kernel_rfl
 have kI:∀W,_:=fun W=>kD W
 obtain⟨i2,b9,bb,bc,bd⟩:=Gc;have HJ:Hid (prog.info? 265=some i2/\i2.zero=some (.agg #[tS ByteArray.empty,tS ByteArray.empty,tS ByteArray.empty,tS ByteArray.empty])/\i2.size=4/\i2.bytes=64):=⟨b9,bb,bc,bd⟩;clear b9 bb bc bd;have T:=zH hr;obtain⟨b0,b2,b3,b4⟩:=hr.rd;obtain⟨c0,c1⟩:=hw;have a7:=aY w _ h3;have V:Hid (zB w (w.alloc (.cells #[zI 6] 3)).drew):=(ax (ae _ _) _).drew;have ab:Hid (KAt (w.alloc (.cells #[zI 6] 3)).drew w.heap.size [6]):=Bq w
 have ks:zC 224 #[.slice (some (tD w.heap.size 0)) 1 1,.slice (some (tD wb 0)) 2 wc] (w.alloc (.cells #[zI 6] 3)).drew fun e w'=>e=.returned (.agg #[tS eO,zE,tS v,zE])/\Below (w.alloc (.cells #[zI 6] 3)).drew.heap.size (w.alloc (.cells #[zI 6] 3)).drew w':=
  lf w.heap.size wb 0 2 wc eO v _ (by omega) (by omega) ab.out.1 (bP a7 V.out.size) (ab.out.2 0 (by simp)) (by rw[V.out.cell (p:=(tD wb (0+1))) a7];exact c1) (by rw[V.out.cell (p:=(tD wb (0+3))) a7];exact h3)
 have HC:Hid ((w.alloc (.cells #[zI 6] 3)).drew.cell? (tD F 0)=some (.func (.func 190) #[] #[])/\(w.alloc (.cells #[zI 6] 3)).drew.cell? (tD wb 1)=some (tS eO)):=⟨(T.out.rd.below V.out).1,by rw[V.out.cell (p:=(tD wb 1)) a7];exact c1⟩;clear hr h3 ab;go_enter func208,ntmps208;go_upto_region 0 with fail
 go_region_held3 (fun w'=>w'.cell? (tD F 0)=some (.func (.func 190) #[] #[])/\w'.cell? (tD wb 1)=some (tS ⟨#[118,101,114,115,105,111,110]⟩))
   (first|exact⟨b0,c1⟩|exact HC.out)
   (first|(go_at_call 190;refine(kI _).mono ?_;rintro e w2 ⟨rfl,rfl⟩))
 all_goals
  clear b0 b2 b3 b4 c0 c1 kI HC;generalize (w.alloc (.cells #[zI 6] 3)).drew=W2 at*
  go_wp2_with (go_at_call 224;fail)
  go_at_call 224;refine ks.mono ?_;rintro e U ⟨rfl,b5⟩;have aa:=zH (V.out.trans (b5.mono V.out.size));clear b5 ks V;go_upto_region 2 with fail;have O:Hid (zB w (U.alloc (.cells #[tS eO,zE,tS v,zE] 265))):=ax aa.out _;have a3:Hid (∀j u,[Value.string eO,zE,tS v,zE][j]?=some u->(U.alloc (.cells #[tS eO,zE,tS v,zE] 265)).cell? (((tD U.heap.size 0):Addr).add j)=some u):=fun j u hj=>jf U _ _ _ _ 265 j u hj
  have x0:(U.alloc (.cells #[tS eO,zE,tS v,zE] 265)).cell? (tD U.heap.size 0)=some (tS eO):=a3.out 0 _ rfl;have x1:(U.alloc (.cells #[tS eO,zE,tS v,zE] 265)).cell? (tD U.heap.size 1)=some (zE):=a3.out 1 _ rfl;have x2:(U.alloc (.cells #[tS eO,zE,tS v,zE] 265)).cell? (tD U.heap.size 2)=some (tS v):=a3.out 2 _ rfl;have x3:(U.alloc (.cells #[tS eO,zE,tS v,zE] 265)).cell? (tD U.heap.size 3)=some (zE):=a3.out 3 _ rfl;have a4:Hid (w.heap.size<=U.heap.size/\U.heap.size<(U.alloc (.cells #[tS eO,zE,tS v,zE] 265)).heap.size):=⟨aa.out.size,by simp⟩;generalize U.heap.size=I at*;generalize U.alloc (.cells #[tS eO,zE,tS v,zE] 265)=M at*;clear a3 aa;have a5:Fld M F 5 Y:=T.out.fs.of_block (O.out.block F (aY w _ T.out.fs.1));have ak:Fld (M.alloc (.cells #[tS eO,zE,tS v,zE] 265)).drew F 5 Y:=a5.of_block (aH _ _ _ (aY M _ a5.1))
  have bi:(M.alloc (.cells #[tS eO,zE,tS v,zE] 265)).drew.ownsRow B 265 4 Y G.length (cu G):=ar (ar T.out.own (fun b e=>O.out.block b (T.out.own.lt b e).2)) (fun b e=>aH _ _ _ (bP (T.out.own.lt b e).2 O.out.size));have bf:∀j u,[Value.string eO,zE,tS v,zE][j]?=some u->(M.alloc (.cells #[tS eO,zE,tS v,zE] 265)).drew.cell? (((tD M.heap.size 0):Addr).add j)=some u:=fun j u hj=>jf M _ _ _ _ 265 j u hj
  have ad:Hid (some F≠Y.ownBlock):=fun e=>by have h:=(T.out.own.lt F e.symm).1;have:=T.out.lt.1;omega
  have a1:=zH ak;have c1:M.cell? (tD F 5)=some Y:=a5.1;have bs:(M.alloc (.cells #[tS eO,zE,tS v,zE] 265)).cell? (tD F 5)=some Y:=ak.1;have bu:B<=M.heap.size:=aN T.out.lt.2.2.1 O.out.size;clear a5 ak
  have av:Hid (Rd (M.alloc (.cells #[tS eO,zE,tS v,zE] 265)) F mb B sp Y G G):=by
   have h1:Rd M F mb B sp Y G G:=T.out.of_block O.out.size (O.out.block F (bP T.out.lt.1 T.out.lt.2.2.1)) (O.out.block mb (bP T.out.lt.2.1 T.out.lt.2.2.1)) (fun b e=>O.out.block b (T.out.own.lt b e).2);exact h1.of_block (by simp) (aH _ _ _ (bP h1.lt.1 h1.lt.2.2.1)) (aH _ _ _ (bP h1.lt.2.1 h1.lt.2.2.1)) (fun b e=>aH _ _ _ (h1.own.lt b e).2)
  have az:Hid (∀b,Y.ownBlock=some b->b<w.heap.size):=fun b e=>(T.out.own.lt b e).2
  have aq:=zH T.out.lt;obtain⟨sa,sc,rfl⟩:=aC T.out.own
  go_region_law
   (first|(refine step_append_lies _ rfl (.tmp 28) (.tmp 30) 259 rfl B 265 i2 (.agg #[tS ByteArray.empty,tS ByteArray.empty,tS ByteArray.empty,tS ByteArray.empty]) 4 64 underlying259 HJ.out.1 HJ.out.2.1 HJ.out.2.2.1 HJ.out.2.2.2 rfl (by decide) _ G.length _ rfl bi (tD M.heap.size 0) 1 1 [tS eO,zE,tS v,zE] rfl rfl bf (fun u hu=>by simp at hu;rcases hu with rfl|rfl|rfl|rfl<;>rfl) (by decide) (by unfold maxLen;omega) (by omega) (by show B<=(M.alloc _).heap.size;simp;omega) _ rfl ?_;intro g cap w5 a9 E b1 sH;have c3:w5.cell? (tD F 5)=some (.slice sa G.length sc):=(a1.out.of_block (E.block F (aY _ _ a1.out.1) ad.out)).1;have f3:w5.frozen? (tD F 5)=false:=(a1.out.of_block (E.block F (aY _ _ a1.out.1) ad.out)).2))
  all_goals
   have a2:Hid (Rd (w5.setCell (tD F 5) (.slice (some (tD g 0)) (G.length+1) cap)) F mb B sp (.slice (some (tD g 0)) (G.length+1) cap) (G++[v]) G):=av.out.grown ⟨E.os,E.tape,E.output,E.size,E.block⟩ a9
   have an:Hid (Fr (Mine F mb (.slice sa G.length sc)) w (w5.setCell (tD F 5) (.slice (some (tD g 0)) (G.length+1) cap))):=by
    have f1:Fr (Mine F mb (.slice sa G.length sc)) w M:=Fr.of_below O.out;have f2:=f1.trans (Fr.of_below (ax (ae M.heap.size M) (.cells #[tS eO,zE,tS v,zE] 265)));have f3:=f2.trans (Fr.sG (b:=w5) ⟨E.os,E.tape,E.output,E.size,E.block⟩ (fun k e=>oS (oS e)));exact f3.trans (Fr.qZ w5 F 5 _ (oE rfl))
   have bp:Hid (∀b,(Value.slice (some (tD g 0)) (G.length+1) cap).ownBlock=some b->(Value.slice sa G.length sc).ownBlock=some b\/w.heap.size<=b):=fun b e=>by
    have e1:g=b:=by simpa[Value.ownBlock] using e
    rcases b1 with h|h
    ·exact oE (by rw[<-e1];exact h)
    ·have h1:=O.out.size
     have h2:g=M.heap.size+1:=by rw[h];simp
     exact oS (by omega)
   have b7:(w5.setCell (tD F 5) (.slice (some (tD g 0)) (G.length+1) cap)).heap[I]?=M.heap[I]?:=by
    have h1:=a4.out;have h2:=aq.out;rw[aL _ _ _ _ (fun e=>by have e3:I=F:=e;omega)];rw[E.block I (by simp;omega) (fun e=>by have:=az.out I e.symm;omega)];exact aH _ _ _ h1.2
   have HY:Hid (∀W:zW,W.heap[I]?=(w5.setCell (tD F 5) (.slice (some (tD g 0)) (G.length+1) cap)).heap[I]?->W.cell? (tD I 0)=some (tS eO)/\W.cell? (tD I 1)=some (zE)/\W.cell? (tD I 2)=some (tS v)/\W.cell? (tD I 3)=some (zE)):=fun W e=>by
    rw[b7] at e;exact⟨by rw[bg (w:=M) (a:=(tD I 0)) e];exact x0,by rw[bg (w:=M) (a:=(tD I 1)) e];exact x1,by rw[bg (w:=M) (a:=(tD I 2)) e];exact x2,by rw[bg (w:=M) (a:=(tD I 3)) e];exact x3⟩
   have Kk:I<(w5.setCell (tD F 5) (.slice (some (tD g 0)) (G.length+1) cap)).heap.size:=by
    have h1:M.heap.size+1<=w5.heap.size:=by have:=E.size;simpa using this
    have h2:=a4.out.2;simp[World.setCell];omega
   have a8:Hid (I<(w5.setCell (tD F 5) (.slice (some (tD g 0)) (G.length+1) cap)).heap.size/\I≠mb):=⟨Kk,by have:=aq.out;have:=a4.out;omega⟩;clear b7 Kk x0 x1 x2 x3 c1 bs c3 f3 a9 E b1 sH bf bi a1 ad av T az O a4;go_upto_region 3 with fail;generalize w5.setCell (tD F 5) (.slice (some (tD g 0)) (G.length+1) cap)=W5 at*;have c4:W5.cell? (tD F 4)=some (.map (some mb)):=a2.out.fm;obtain⟨y0,y1,y2,y3⟩:=HY.out W5 rfl;have kc:∀W,zC 225 #[.agg #[tS eO,zE,tS v,zE]] W fun e w'=>e=.returned (.agg #[tS eO,zE,tS v])/\zB W w':=fun W=>oL _ _ v _ W (by kernel_rfl)
   have bm:∀W,zB W5 W->∃w7,(Instr.mapUpdate 258 (.map (some mb)) (.agg #[tS eO,zE,tS v]) (zI ln)).run prog W=.ok () w7/\Hid (Rd w7 F mb B sp (.slice (some (tD g 0)) (G.length+1) cap) (G++[v]) (G++[v]))/\Hid (Fr (Mine F mb (.slice sa G.length sc)) w w7)/\w7.heap[I]?=W5.heap[I]?:=fun W hb=>by
    have l:=a2.out.lt;have e1:=hb.block F (by omega);have e2:=hb.block mb (by omega);have r6:=a2.out.of_block hb.size e1 e2 (fun b e=>hb.block b (a2.out.own.lt b e).2);obtain⟨w7,h1,h2,h3⟩:=rf bt hn hv r6.said;refine⟨w7,h1,r6.put h3 (by rw[aU];exact h2),(an.out.trans (Fr.of_below hb)).trans (Fr.sG h3 (fun k e=>oS (oE (by injection e with e;exact e.symm)))),?_⟩;have h4:=a8.out;rw[h3.block I (bP h4.1 hb.size) (fun e=>h4.2 (by injection e))];exact hb.block I h4.1
   go_region_held3 (fun w'=>w'.cell? (tD F 4)=some (.map (some mb))/\w'.cell? (tD I 0)=some (tS eO)/\w'.cell? (tD I 1)=some (zE)/\w'.cell? (tD I 2)=some (tS v)/\w'.cell? (tD I 3)=some (zE))
    (first|exact⟨c4,y0,y1,y2,y3⟩|exact⟨au.out.fm,HY.out _ EY⟩|exact⟨b8,HY.out _ Kl⟩)
    (first|(go_at_call 225;refine(kc _).mono ?_;rintro e w6 ⟨rfl,b6⟩;have a6:zB W5 w6:=(ae W5.heap.size W5).drew.trans b6;have Kl:w6.heap[I]?=W5.heap[I]?:=a6.block I a8.out.1;have b8:w6.cell? (tD F 4)=some (.map (some mb)):=(a6.cell (p:=(tD F 4)) (aY W5 _ c4)).trans c4;obtain⟨w7,bk,au,bq,EY⟩:=bm w6 a6;clear b6))
   all_goals
    obtain⟨z0,z1,z2,z3⟩:=HY.out _ EY;clear an bm kc bk y0 y1 y2 y3 c4 b8 a6 Kl EY HY a2;go_wp2;exact ia (v:=.tuple #[]) (by simp[results,results208,go_sem]) rfl ⟨_,rfl,au.out,bq.out,bp.out⟩
