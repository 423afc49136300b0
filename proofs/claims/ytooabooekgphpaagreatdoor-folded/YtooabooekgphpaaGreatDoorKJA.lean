import Derived.Test.YtooabooekgphpaaGreatDoorKIA
import Derived.DeepKeys4
import Derived.Deep.RegionHeldLaw
import Derived.Deep.AppendLies
set_option linter.all false
open Go.Proofs.Tryz
set_option maxRecDepth 100000
set_option maxHeartbeats 4000000
namespace Go.Proofs.YtooabooekgphpaaGreatDoor
open Go.RowKit
section
variable{w w':zW}
def dt(W:zW)(D E:Nat):Prop:=
 W.cell? ⟨D,0,none⟩=some (.func (.func 179) #[] #[])/\W.cell? ⟨D,1,none⟩=some (zE)/\W.cell? ⟨D,2,none⟩=some (zI E)/\W.cell? ⟨D,3,none⟩=some (zI 0)
theorem dt.below{D G:Nat}(h:dt w D G)(F:zB w w'):dt w' D G:=by
 have E:=aY w _ h.1;exact⟨by rw[F.cell (p:=⟨D,0,none⟩) E];exact h.1,by rw[F.cell (p:=⟨D,1,none⟩) E];exact h.2.1,by rw[F.cell (p:=⟨D,2,none⟩) E];exact h.2.2.1,by rw[F.cell (p:=⟨D,3,none⟩) E];exact h.2.2.2⟩
def cF(W:zW)(b D:Nat)(E:zA):Prop:=W.cell? ⟨b,0,none⟩=some (zI D)/\W.cell? ⟨b,1,none⟩=some (.string E)
theorem cF.below{b D:Nat}{G:zA}(h:cF w b D G)(F:zB w w'):cF w' b D G:=by
 have E:=aY w _ h.1;exact⟨by rw[F.cell (p:=⟨b,0,none⟩) E];exact h.1,by rw[F.cell (p:=⟨b,1,none⟩) E];exact h.2⟩
theorem below_drewN{B q:Nat}{a:zW}(h:Below B a w):Below B a (w.drewN q):=⟨h.os,h.tape,h.output,h.size,h.block⟩
theorem gN(W:zW)(D:Nat)(E:zA)(t:TypeId):cF (W.alloc (.cells #[zI D,.string E] t)) W.heap.size D E:=by
 have F:=iQ W (.cells #[zI D,.string E] t);exact⟨by simp only[World.cell?,F];rfl,by simp only[World.cell?,F];rfl⟩
theorem Cg(G O T n wc k E:Nat)(D:zA)(w:zW)(hn:0<n)(S:dt w G O)(hw:cF w T E D)(hx:(D.toList==[118,101,114,115,105,111,110])=false)(hk:k=2\/k=3):
  zC 196 #[zP G,zI k,.slice (some ⟨T,0,none⟩) n wc] w fun e w'=>e=.returned (zI (if k=2 then -1 else (E:Int)))/\zB w w':=by
 have a1:(0:Int)<(n:Int):=by omega
 have hc:∀(args:Array zV)(w:zW),(callFunc 179 args).run prog w=.ok (.enter 179 args) w:=fun _ _=>by kernel_rfl
 have kI:∀W,_:=fun W=>yJ D W hx
 have U:=zH S;obtain⟨c0,c1⟩:=hw;clear S;go_enter func196,ntmps196;go_upto_region 2 with fail;have F:Hid (zB w (w.alloc (.cells #[zI E,.string D] 298))):=(ae _ _).alloc (af _) _;have I:Hid (dt (w.alloc (.cells #[zI E,.string D] 298)) G O):=U.out.below F.out;have M:=zH (gN w E D 298);clear c0 c1;generalize w.alloc (.cells #[zI E,.string D] 298)=W1 at*;obtain⟨V,b2,b3,b4⟩:=I.out;obtain⟨b5,Y⟩:=M.out
 go_region_held3 (fun w'=>w'.cell? ⟨G,0,none⟩=some (.func (.func 179) #[] #[])/\w'.cell? ⟨w.heap.size,1,none⟩=some (.string D))
   (first|exact⟨V,Y⟩)
   (first|(go_at_call 179;refine(kI _).mono ?_;rintro e w2 ⟨rfl,rfl⟩))
 all_goals
  rcases hk with rfl|rfl
  ·go_upto_region 6 with fail
   go_quiet (fail);go_wp2;go_ret;exact⟨rfl,below_drewN F.out⟩
  ·go_wp2
   go_ret;exact⟨rfl,F.out.drew⟩
theorem AR(W:zW):KAt (W.alloc (.cells #[zI 6] 3)) W.heap.size [6]:=by
 have E:=iQ W (.cells #[zI 6] 3);refine⟨by simp,fun j D=>?_⟩;have e:j=0:=by simp at D;exact D
 subst e;simp only[World.cell?,E];rfl
def MY(w:zW)(D n wc k:Nat)(z:Int):Prop:=
 (k=2/\z=-1)\/(k=3/\z=-1)\/(k=9/\z=-1)\/
 (k=4/\∀W p,zB w W->zC 211 #[.slice (some ⟨p,0,none⟩) 1 1,.slice (some ⟨D,0,none⟩) n wc] W fun e w'=>e=.returned (zI z)/\zB W w')\/
 ((k=5\/k=6\/k=7)/\n=2/\2<=wc/\∀W p,zB w W->KAt W p [6]->zC 212 #[zI k,.slice (some ⟨p,0,none⟩) 1 1,.slice (some ⟨D,2,none⟩) 1 (wc-1)] W fun e w'=>e=.returned (zI z)/\zB W w')
theorem AU(S sp wb n wc k F:Nat)(z:Int)(w:zW)(hn:0<n)(hr:dt w S sp)(hw:cF w wb F ⟨#[118,101,114,115,105,111,110]⟩)(Y:MY w wb n wc k z):
  zC 196 #[zP S,zI k,.slice (some ⟨wb,0,none⟩) n wc] w fun e w'=>e=.returned (zI z)/\zB w w':=by
 have HK:Hid (MY w wb n wc k z):=Y;clear Y;have a2:(0:Int)<(n:Int):=by omega
 have hc:∀(args:Array zV)(w:zW),(callFunc 179 args).run prog w=.ok (.enter 179 args) w:=fun _ _=>by kernel_rfl
 have kI:∀W,_:=fun W=>kq W
 have HR:Hid (dt w S sp):=hr;obtain⟨c0,c1⟩:=hw;clear hr;go_enter func196,ntmps196;go_upto_region 2 with fail;have I:Hid (zB w (w.alloc (.cells #[zI F,.string ⟨#[118,101,114,115,105,111,110]⟩] 298))):=(ae _ _).alloc (af _) _;have U:Hid (dt (w.alloc (.cells #[zI F,.string ⟨#[118,101,114,115,105,111,110]⟩] 298)) S sp):=HR.out.below I.out;have V:Hid (cF (w.alloc (.cells #[zI F,.string ⟨#[118,101,114,115,105,111,110]⟩] 298)) w.heap.size F ⟨#[118,101,114,115,105,111,110]⟩):=gN w F ⟨#[118,101,114,115,105,111,110]⟩ 298;clear c0 c1;generalize w.alloc (.cells #[zI F,.string ⟨#[118,101,114,115,105,111,110]⟩] 298)=W1 at*;obtain⟨b0,b2,b3,b4⟩:=U.out;obtain⟨b5,b1⟩:=V.out;have T:∀W,zB W1 W->dt W S sp/\cF W w.heap.size F ⟨#[118,101,114,115,105,111,110]⟩:=fun W G=>⟨U.out.below G,V.out.below G⟩
 have O:zB W1 (W1.alloc (.cells #[zI 6] 3)).drew:=(aB (ae _ _) _).drew;have a1:Hid (KAt (W1.alloc (.cells #[zI 6] 3)).drew W1.heap.size [6]):=AR W1;obtain⟨⟨d0,d2,d3,d4⟩,d5,d1⟩:=T _ O;have D:Hid (zB w (W1.alloc (.cells #[zI 6] 3)).drew):=I.out.trans (O.mono I.out.size);clear T O
 go_region_held3 (fun w'=>w'.cell? ⟨S,0,none⟩=some (.func (.func 179) #[] #[])/\w'.cell? ⟨w.heap.size,1,none⟩=some (.string ⟨#[118,101,114,115,105,111,110]⟩))
   (first|exact⟨b0,b1⟩|exact⟨d0,d1⟩)
   (first|(go_at_call 179;refine(kI _).mono ?_;rintro e w2 ⟨rfl,rfl⟩))
 all_goals
  clear b0 b1 b2 b3 b4 b5;generalize (W1.alloc (.cells #[zI 6] 3)).drew=W2 at*;rcases HK.out with⟨rfl,rfl⟩|⟨rfl,rfl⟩|⟨rfl,rfl⟩|⟨rfl,E⟩|⟨Y,rfl,a3,E⟩
  ·go_upto_region 6 with fail
   go_quiet (fail);go_wp2;go_ret;exact⟨rfl,below_drewN D.out⟩
  ·go_wp2
   go_ret;exact⟨rfl,D.out⟩
  ·go_wp2
   go_ret;exact⟨rfl,D.out⟩
  ·have E:=fun p=>E W2 p D.out
   go_wp2_with (go_at_call 211;fail)
   go_at_call 211;refine(E _).mono ?_;rintro e w3 ⟨rfl,G⟩;have M:Hid (zB w w3):=D.out.trans (G.mono D.out.size);clear G E;go_wp2;go_ret;exact⟨rfl,M.out⟩
  ·have E:=E W2 _ D.out a1.out
   rcases Y with rfl|rfl|rfl
   all_goals
    first
     |rw[show((5:Nat):Int)=5 from rfl] at E
     |rw[show((6:Nat):Int)=6 from rfl] at E
     |rw[show((7:Nat):Int)=7 from rfl] at E
    go_wp2_with (go_at_call 212;fail)
    go_at_call 212;refine E.mono ?_;rintro e w3 ⟨rfl,G⟩;have M:Hid (zB w w3):=D.out.trans (G.mono D.out.size);clear G E;go_wp2;go_ret;exact⟨rfl,M.out⟩
end
section
variable{w w':zW}
theorem EB(p k:Nat)(M:zV)(w:zW)(F:k=5\/k=7)(O:w.cell? ⟨p,0,none⟩=some (zI 6)):
  zC 212 #[zI k,.slice (some ⟨p,0,none⟩) 1 1,M] w fun e w'=>e=.returned (zI (-1))/\zB w w':=by
 have D:∀q:Nat,(((6:Nat):Int)==(k:Int))=false:=fun _=>by rcases F with rfl|rfl<;>rfl
 have I:((6:Int)==(k:Int))=false:=D 0;clear D;go_enter func212,ntmps212;go_wp2;go_loopg [11] 1 (fun E f wr=>∃j:Nat,j<=1/\1-j<=E/\f=zI j/\wr=w)
 case atStart=>exact⟨0,by omega,by omega,rfl,rfl⟩
 case round=>
  obtain⟨j,T,S,rfl,G⟩:=hrel;subst G;rcases(by omega:j=0\/j=1) with rfl|rfl
  ·go_wp2
   go_roundg 0
   case measure=>omega
   case rel=>exact⟨1,by omega,by omega,rfl,rfl⟩
  ·go_wp2
   go_ret;exact⟨rfl,ae _ _⟩
theorem getD_at{l:List (Nat×zA)}{j:Nat}(h:j<l.length):l.getD j pad=l[j]:=by
 simp[List.getD,aV h]
def ia(l:List (Nat×zA))(k:Nat):Int:=
 if k=4 then (if 2<l.length then ((l.getD 2 pad).1:Int) else if l.length<2 then ((l.getD 0 pad).1:Int)+((l.getD 0 pad).2.size:Int) else -1)
 else if k=6 then (if (Pv.parse (l.getD 1 pad).2.data.toList).isSome then -1 else ((l.getD 1 pad).1:Int))
 else -1
theorem EC{F wc:Nat}{l:List (Nat×zA)}(S:WAt w F 0 l)(D:0<l.length)(V:∀x∈l,x.1<=4000/\x.2.size<=4000):MY w F l.length wc 4 (ia l 4):=by
 refine Or.inr (Or.inr (Or.inr (Or.inl ⟨rfl,fun W p T=>?_⟩)));have E:=S.below T;unfold ia;rw[aj rfl];by_cases I:2<l.length
 ·rw[aj I]
  refine(pN (some ⟨p,0,none⟩) F 0 1 1 l.length wc ((l.getD 2 pad).1:Int) W (by omega) (by omega) ?_).mono ?_
  ·have h:=(E.2 2 I).1
   rw[getD_at I];exact h
  ·rintro e w' ⟨rfl,rfl⟩
   exact⟨rfl,ae _ _⟩
 ·rw[ag I]
  by_cases M:l.length<2
  ·rw[aj M]
   have O:=V _ (dP D);have U:l.getD 0 pad=l[0]:=getD_at D;rw[U];have G:l.length-1=0:=by omega
   refine(rG (some ⟨p,0,none⟩) F 0 1 1 l.length wc l[0].1 l[0].2 W (by omega) (by omega) (by omega) O.1 O.2 ?_ ?_).mono ?_
   ·rw[G];exact(E.2 0 D).1
   ·rw[G];exact(E.2 0 D).2
   ·rintro e w' ⟨rfl,h⟩
    exact⟨rfl,h⟩
  ·rw[ag M]
   have G:l.length=1+1:=by omega
   rw[G];refine(pM (some ⟨p,0,none⟩) (some ⟨F,0,none⟩) 1 1 wc W (by omega)).mono ?_;rintro e w' ⟨rfl,rfl⟩;exact⟨rfl,ae _ _⟩
theorem oo{I wc k:Nat}{l:List (Nat×zA)}(hm:Ml w)(hW:WAt w I 0 l)(Y:l.length=2)(hc:2<=wc)(G:k=5\/k=6\/k=7):MY w I l.length wc k (ia l k):=by
 refine Or.inr (Or.inr (Or.inr (Or.inr ⟨G,Y,hc,fun W p V U=>?_⟩)))
 have D:∀k:Nat,k=5\/k=7->zC 212 #[zI k,.slice (some ⟨p,0,none⟩) 1 1,.slice (some ⟨I,2,none⟩) 1 (wc-1)] W fun e w'=>e=.returned (zI (ia l k))/\zB W w':=fun k G=>by
  have e:ia l k=-1:=by rcases G with rfl|rfl<;>rfl
  rw[e];exact EB p k _ W G (U.2 0 (by simp))
 rcases G with rfl|rfl|rfl
 ·exact D 5 (Or.inl rfl)
 ·have E:=hW.below V
  have T:1<l.length:=by omega
  have M:WAt W I 2 [l[1]]:=⟨E.1,fun j S=>by
   have e:j=0:=by simp at S;exact S
   subst e;exact E.2 1 T⟩
  refine(wG ipF 6 p I 2 1 1 1 (wc-1) [6] [l[1]] W (by omega) rfl rfl (by omega) (by omega) U M ?_).mono ?_
  ·intro j S W' O
   exact rH ipF _ W' ((hm.below V).below O)
  ·rintro e w' ⟨rfl,h⟩
   refine⟨?_,h⟩;have hg:l.getD 1 pad=l[1]:=getD_at T;unfold ia;rw[ag (by decide),aj rfl,hg];have F:Tx.fit ipF 6 l[1].2.data.toList=(Pv.parse l[1].2.data.toList).isSome:=rfl;simp only[aD,bD,fY,Tx.misfit,F];cases (Pv.parse l[1].2.data.toList).isSome<;>simp[Ce]
 ·exact D 7 (Or.inr rfl)
end
section
variable{w w':zW}
theorem JN:laidOutB prog=true:=by kernel_rfl
theorem OW:(303:TypeId)<prog.types.size:=gJ (by kernel_rfl)
theorem MZ:(match prog.underlying 303 with|some (.array _ _)|some (.struct _)=>true|_=>false)=true:=by kernel_rfl
theorem M0:prog.keyTypeAt 3 303=true:=by kernel_rfl
theorem JO:prog.keyType 303=true:=by kernel_rfl
theorem M1:prog.types.size=357:=by kernel_rfl
theorem Ci:prog.cellsOf 303=3:=by kernel_rfl
theorem OY:prog.cellsOf 9=1:=by kernel_rfl
theorem OZ:WideMaps.KeyLaw prog 303:=deep_law_laid JN (m:=3) (Nat.le_of_ble_eq_true rfl) OW M0 MZ
theorem jh:Maps.Keyed prog 303:=Maps.Keyed.of_law OZ
end
section
variable{w w':zW}
theorem wH(d:Nat)(s:zA)(h:s.size<=maxLen):prog.keyLits (d+1) 9 [.string s]=some [.string s.data.toList]:=by
 unfold Program.keyLits;rw[underlying9];show(if s.size<=maxLen then some [Lit.string s.data.toList] else none)=_;rw[aj h]
theorem zl(f p v:zA)(E:f.size<=maxLen)(F:p.size<=maxLen)(G:v.size<=maxLen):∃l,keyOf prog 303 (.agg #[.string f,.string p,.string v])=some l:=by
 have D:prog.keyLits (prog.types.size+1) 303 [.string f,.string p,.string v]=some [.string f.data.toList,.string p.data.toList,.string v.data.toList]:=by
  rw[M1];unfold Program.keyLits;rw[underlying303];simp only[Ci,bN,jT];rw[aj ⟨trivial,by kernel_rfl⟩];simp only[List.mapM_cons,List.mapM_nil,OY,List.drop,List.take,wH 356 f E,wH 356 p F,wH 356 v G]
  rfl
 refine⟨.string (keyBytes [.string f.data.toList,.string p.data.toList,.string v.data.toList]),?_⟩;unfold keyOf;rw[underlying303];show(if (prog.keyType 303&&(Value.agg #[.string f,.string p,.string v]).formed prog 303)=true then (prog.keyLits (prog.types.size+1) 303 [.string f,.string p,.string v]).map (fun I=>Lit.string (keyBytes I)) else none)=_;rw[JO,D];rw[aj (by simp[Value.formed,underlying303,Ci])]
 rfl
def ku(v:zA)(l:Lit):Prop:=keyOf prog 303 (.agg #[.string ⟨#[118,101,114,115,105,111,110]⟩,zE,.string v])=some l
theorem rI(v:zA)(D:v.size<=maxLen):∃l,ku v l:=zl _ _ v (by decide) (by decide) D
theorem AV{v u:zA}{l:Lit}(h:ku v l)(E:ku u l):v=u:=by
 have D:=jh.inj h E;simp only[Value.agg.injEq,Array.mk.injEq,eH,Value.string.injEq,true_and,fe] at D;exact D
def SaidAt(W:zW)(b n:Nat)(E:List zA):Prop:=
 ∃D:DataW Unit,W.ownsMap prog 303 (plainElem prog 3) b n D/\Maps.IsMap D/\∀v l,ku v l->Maps.has D l=E.any (fun x=>decide (x=v))
theorem SaidAt.put{W:zW}{b m:Nat}{O:List zA}{D:DataW Unit}{v:zA}{l:Lit}{d:DataW Unit}(T:Maps.IsMap D)(V:∀v l,ku v l->Maps.has D l=O.any (fun x=>decide (x=v)))(G:ku v l)
  (U:W.ownsMap prog 303 (plainElem prog 3) b m (D.put l d)) (F:Maps.IsMap (D.put l d)):SaidAt W b m (O++[v]):=by
 refine⟨_,U,F,fun u M I=>?_⟩;rw[List.any_append];by_cases e:M=l
 ·subst e
  have E:=AV G I;subst E;rw[Maps.has_put_same T (jh.key G)];simp
 ·rw[Maps.has_put_other e,V u M I]
  have E:v≠u:=fun E=>by
   subst E;have S:some M=some l:=I.symm.trans G;exact e (by injection S)
  simp[E]
end
section
variable{w w':zW}
theorem JQ(w:zW):(zeroValue 3).run prog w=.ok (zI 0) w:=by kernel_rfl
theorem AW(S sp wb wc U mb mn:Nat)(v:zA)(vs:List zA)(w:zW)(hv:v.size<=2000)(hm:w.cell? ⟨S,4,none⟩=some (.map (some mb)))(hS:SaidAt w mb mn vs)(h3:w.cell? ⟨wb,3,none⟩=some (.string v))(hr:dt w S sp)(hw:cF w wb U ⟨#[118,101,114,115,105,111,110]⟩):
  zC 196 #[zP S,zI 8,.slice (some ⟨wb,0,none⟩) 2 wc] w fun e w'=>e=.returned (zI (if vs.any (fun x=>decide (x=v)) then (U:Int) else -1))/\zB w w':=by
 obtain⟨l,hl⟩:=rI v (by unfold maxLen;omega);obtain⟨D,M,_,a1⟩:=hS;have HD:Hid (Maps.has D l=vs.any (fun x=>decide (x=v))):=a1 v l hl;clear a1;generalize vs.any (fun x=>decide (x=v))=dd at HD ⊢;have HO:Hid (∃es clock,w.heap[mb]?=some (.map es clock)):=by obtain⟨es,cl,h,_⟩:=M;exact⟨es,cl,h⟩
 have ak:mb<w.heap.size:=by
  obtain⟨es,cl,h⟩:=HO.out;exact(nG.1 h).1
 have a5:Hid (∀W,zB w W->W.ownsMap prog 303 (plainElem prog 3) mb mn D):=fun W E=>by
  obtain⟨es,cl,h,rest⟩:=M;exact⟨es,cl,(E.block mb ak).trans h,rest⟩
 have an:=aY w _ hm;have ab:=aY w _ h3;have Y:Hid (∀W,zB w W->W.cell? ⟨S,4,none⟩=some (.map (some mb))/\W.cell? ⟨wb,3,none⟩=some (.string v)/\W.cell? ⟨wb,1,none⟩=some (.string ⟨#[118,101,114,115,105,111,110]⟩)):=fun W E=>⟨by rw[E.cell (p:=⟨S,4,none⟩) an];exact hm,by rw[E.cell (p:=⟨wb,3,none⟩) ab];exact h3,by rw[E.cell (p:=⟨wb,1,none⟩) ab];exact hw.2⟩
 have HL:Hid (ku v l):=hl;clear hm h3 M hl HO;have hc:∀(args:Array zV)(w:zW),(callFunc 179 args).run prog w=.ok (.enter 179 args) w:=fun _ _=>by kernel_rfl
 have kI:∀W,_:=fun W=>kq W
 have HR:Hid (dt w S sp):=hr;obtain⟨c0,c1⟩:=hw;clear hr;go_enter func196,ntmps196;go_upto_region 2 with fail;have a2:Hid (zB w (w.alloc (.cells #[zI U,.string ⟨#[118,101,114,115,105,111,110]⟩] 298))):=(ae _ _).alloc (af _) _;have a6:Hid (dt (w.alloc (.cells #[zI U,.string ⟨#[118,101,114,115,105,111,110]⟩] 298)) S sp):=HR.out.below a2.out;have a7:Hid (cF (w.alloc (.cells #[zI U,.string ⟨#[118,101,114,115,105,111,110]⟩] 298)) w.heap.size U ⟨#[118,101,114,115,105,111,110]⟩):=gN w U ⟨#[118,101,114,115,105,111,110]⟩ 298;clear c0 c1;generalize w.alloc (.cells #[zI U,.string ⟨#[118,101,114,115,105,111,110]⟩] 298)=W1 at*;obtain⟨b0,b2,b3,b4⟩:=a6.out;obtain⟨b5,b1⟩:=a7.out;have a4:∀W,zB W1 W->dt W S sp/\cF W w.heap.size U ⟨#[118,101,114,115,105,111,110]⟩:=fun W E=>⟨a6.out.below E,a7.out.below E⟩
 have G:zB W1 (W1.alloc (.cells #[zI 6] 3)).drew:=(aB (ae _ _) _).drew;have ad:Hid (KAt (W1.alloc (.cells #[zI 6] 3)).drew W1.heap.size [6]):=AR W1;obtain⟨⟨d0,d2,d3,d4⟩,d5,d1⟩:=a4 _ G;have a3:Hid (zB w (W1.alloc (.cells #[zI 6] 3)).drew):=a2.out.trans (G.mono a2.out.size);clear a4 G
 go_region_held3 (fun w'=>w'.cell? ⟨S,0,none⟩=some (.func (.func 179) #[] #[])/\w'.cell? ⟨w.heap.size,1,none⟩=some (.string ⟨#[118,101,114,115,105,111,110]⟩))
   (first|exact⟨b0,b1⟩|exact⟨d0,d1⟩)
   (first|(go_at_call 179;refine(kI _).mono ?_;rintro e w2 ⟨rfl,rfl⟩))
 all_goals
  clear b0 b1 b2 b3 b4 b5;obtain⟨e4,e5,e6⟩:=Y.out _ a3.out;have au:Below (W1.alloc (.cells #[zI 6] 3)).drew.heap.size (W1.alloc (.cells #[zI 6] 3)).drew (W1.alloc (.cells #[zI 6] 3)).drew:=ae _ _;generalize (W1.alloc (.cells #[zI 6] 3)).drew=T at*;go_upto_region 16 with fail;have V:Hid (∀W,zB T W->zB w W):=fun W E=>a3.out.trans (E.mono a3.out.size)
  have ks:∀W,zB T W->zC 213 #[.slice (some ⟨W1.heap.size,0,none⟩) 1 1,.slice (some ⟨wb,0,none⟩) 2 wc] W fun e w'=>e=.returned (.agg #[.string ⟨#[118,101,114,115,105,111,110]⟩,zE,.string v,zE])/\zB W w':=fun W E=>by
   obtain⟨f4,f5,f6⟩:=Y.out W (V.out W E);have aa:=ad.out.below E;exact kV W1.heap.size wb 0 2 wc _ v W (by omega) (by omega) aa.1 (aY W _ f5) (aa.2 0 (by simp)) f6 f5
  have kc:∀W,zC 214 #[.agg #[.string ⟨#[118,101,114,115,105,111,110]⟩,zE,.string v,zE]] W fun e w'=>e=.returned (.agg #[.string ⟨#[118,101,114,115,105,111,110]⟩,zE,.string v])/\zB W w':=fun W=>oh _ _ v _ W (by kernel_rfl)
  have rE:∀W,zB T W->W.ownsMap prog 303 (plainElem prog 3) mb mn D:=fun W E=>a5.out W (V.out W E)
  have Cj:∀W,zB T W->∃c:Int,(Instr.lookup 248 (.map (some mb)) (.agg #[.string ⟨#[118,101,114,115,105,111,110]⟩,zE,.string v]) true).run prog W=.ok (.tuple #[zI c,.bool (Maps.has D l)]) W:=fun W E=>by
   obtain⟨v0,ps,O,aq⟩:=(rE W E).look_ok jh underlying248 (JQ W) (plainElem_int underlying3 (by decide)) HL.out;obtain⟨c,rfl,_,_⟩:=plainElem_int_inv underlying3 aq;exact⟨c,O⟩
  have F:∀W,zB T W->W.cell? ⟨S,4,none⟩=some (.map (some mb)):=fun W E=>(Y.out W (V.out W E)).1
  clear Y e5 e6 kI a5 rE
  go_region_held3 (fun w'=>w'.cell? ⟨S,4,none⟩=some (.map (some mb)))
    (first|exact e4|exact F _ I|exact F _ G|exact F _ ((ae _ _).drew))
    (first
     |(go_at_call 213;refine(ks _ ((ae _ _).drew)).mono ?_;rintro e w3 ⟨rfl,a8⟩;have G:zB T w3:=(ae T.heap.size T).drew.trans a8;clear a8)
     |(go_at_call 214;refine(kc _).mono ?_;rintro e w4 ⟨rfl,a9⟩;have I:zB T w4:=G.trans (a9.mono G.size);obtain⟨cL,O⟩:=Cj _ I;clear a9))
  all_goals
   have d6:w4.cell? ⟨w.heap.size,0,none⟩=some (zI U):=by
    rw[I.cell (p:=⟨w.heap.size,0,none⟩) (aY T _ d5)];exact d5
   have HE:Hid (zB w w4):=V.out _ I;clear Cj F ks kc d0 d1 d2 d3 d4 d5 O G I e4;rw[HD.out];clear HD;cases dd
   ·go_wp2
    go_ret;exact⟨rfl,HE.out⟩
   ·go_wp2
    go_ret;exact⟨rfl,HE.out⟩
end
section
variable{w w':zW}
abbrev eK:zA:=⟨#[118,101,114,115,105,111,110]⟩
def bP(D:List zA):List zV:=D.flatMap fun v=>[.string eK,zE,.string v,zE]
theorem mE(D:List zA)(v:zA):bP (D++[v])=bP D++[.string eK,zE,.string v,zE]:=by simp[bP]
theorem FZ:∃i,prog.info? 255=some i/\i.zero=some (.agg #[.string ByteArray.empty,.string ByteArray.empty,.string ByteArray.empty,.string ByteArray.empty])/\i.size=4/\i.bytes=64:=by
 have h:(prog.info? 255).map (fun i=>(i.zero,i.size,i.bytes))=some (some (.agg #[.string ByteArray.empty,.string ByteArray.empty,.string ByteArray.empty,.string ByteArray.empty]),4,64):=by kernel_rfl
 rw[ql] at h;obtain⟨i,E,D⟩:=h;simp only[iP] at D;exact⟨i,E,D.1,D.2.1,D.2.2⟩
def Fld(W:zW)(b o:Nat)(v:zV):Prop:=W.cell? ⟨b,o,none⟩=some v/\W.frozen? ⟨b,o,none⟩=false
theorem Fld.of_block{W W':zW}{b o:Nat}{v:zV}(h:Fld W b o v)(e:W'.heap[b]?=W.heap[b]?):Fld W' b o v:=
 ⟨by rw[aZ (w:=W) (a:=⟨b,o,none⟩) e];exact h.1,by rw[gh (w:=W) (a:=⟨b,o,none⟩) e];exact h.2⟩
structure Rd(W:World)(rp mb B sp:Nat)(sv:zV)(vs us:List zA):Prop where
 rd:dt W rp sp
 f2:W.frozen? ⟨rp,2,none⟩=false
 fm:W.cell? ⟨rp,4,none⟩=some (.map (some mb))
 fs:Fld W rp 5 sv
 lt:rp<B/\mb<B/\B<=W.heap.size/\rp≠mb
 own:W.ownsRow B 255 4 sv vs.length (bP vs)
 said:SaidAt W mb us.length us
theorem SaidAt.of_block{W W':zW}{b n:Nat}{E:List zA}(h:SaidAt W b n E)(e:W'.heap[b]?=W.heap[b]?):SaidAt W' b n E:=by
 obtain⟨D,⟨F,cl,G,rest⟩,I⟩:=h;exact⟨D,⟨F,cl,e.trans G,rest⟩,I⟩
theorem dt.of_block{W W':zW}{D E:Nat}(h:dt W D E)(e:W'.heap[D]?=W.heap[D]?):dt W' D E:=
 ⟨by rw[aZ (w:=W) (a:=⟨D,0,none⟩) e];exact h.1,by rw[aZ (w:=W) (a:=⟨D,1,none⟩) e];exact h.2.1,by rw[aZ (w:=W) (a:=⟨D,2,none⟩) e];exact h.2.2.1,by rw[aZ (w:=W) (a:=⟨D,3,none⟩) e];exact h.2.2.2⟩
theorem Rd.of_block{W W':zW}{D mb B G:Nat}{F:zV}{M I:List zA}(h:Rd W D mb B G F M I)(T:W.heap.size<=W'.heap.size)(E:W'.heap[D]?=W.heap[D]?)(O:W'.heap[mb]?=W.heap[mb]?)(S:∀b,F.ownBlock=some b->W'.heap[b]?=W.heap[b]?):Rd W' D mb B G F M I:=
 ⟨h.rd.of_block E,by rw[gh (w:=W) (a:=⟨D,2,none⟩) E];exact h.f2,by rw[aZ (w:=W) (a:=⟨D,4,none⟩) E];exact h.fm,h.fs.of_block E,⟨h.lt.1,h.lt.2.1,aO h.lt.2.2.1 T,h.lt.2.2.2⟩,ar h.own S,h.said.of_block O⟩
theorem Rd.grown{W W':zW}{D mb B sp:Nat}{I F:zV}{M us:List zA}{v:zA}(h:Rd W D mb B sp I M us)(T:W.grownBy W' I.ownBlock)(ho:W'.ownsRow B 255 4 F (M.length+1) (bP M++[.string eK,zE,.string v,zE])):Rd (W'.setCell ⟨D,5,none⟩ F) D mb B sp F (M++[v]) us:=by
 have V:D<W.heap.size:=bE h.lt.1 h.lt.2.2.1;have U:mb<W.heap.size:=bE h.lt.2.1 h.lt.2.2.1;have n1:some D≠I.ownBlock:=fun e=>by have Y:=(h.own.lt D e.symm).1;have:=h.lt.1;omega
 have n2:some mb≠I.ownBlock:=fun e=>by have Y:=(h.own.lt mb e.symm).1;have:=h.lt.2.1;omega
 have G:=T.block D V n1;have O:=T.block mb U n2;have r:=h.rd.of_block G;have c4:W'.cell? ⟨D,4,none⟩=some (.map (some mb)):=by rw[aZ (w:=W) (a:=⟨D,4,none⟩) G];exact h.fm
 have f5:=h.fs.of_block G;have S:W'.frozen? ⟨D,2,none⟩=false:=by rw[gh (w:=W) (a:=⟨D,2,none⟩) G];exact h.f2
 have E:∀j,j≠5->(⟨D,5,none⟩:Addr)≠⟨D,j,none⟩:=fun j hj e=>by injection e with _ e;exact hj e.symm
 have Ck:(W'.setCell ⟨D,5,none⟩ F).heap.size=W'.heap.size:=by simp[World.setCell]
 refine⟨⟨?_,?_,?_,?_⟩,?_,?_,⟨iu _ _ _ f5.1,?_⟩,⟨h.lt.1,h.lt.2.1,?_,h.lt.2.2.2⟩,?_,?_⟩
 ·rw[bX _ _ _ _ (E 0 (by decide))];exact r.1
 ·rw[bX _ _ _ _ (E 1 (by decide))];exact r.2.1
 ·rw[bX _ _ _ _ (E 2 (by decide))];exact r.2.2.1
 ·rw[bX _ _ _ _ (E 3 (by decide))];exact r.2.2.2
 ·rw[dV];exact S
 ·rw[bX _ _ _ _ (E 4 (by decide))];exact c4
 ·rw[dV];exact f5.2
 ·rw[Ck];exact aO h.lt.2.2.1 T.size
 ·rw[mE,aW]
  exact ar ho (fun b e=>aM _ _ _ _ (fun O=>by have Y:=(ho.lt b e).1;have h2:=h.lt.1;have e3:b=D:=O;omega))
 ·exact(h.said.of_block O).of_block (aM _ _ _ _ (fun e=>h.lt.2.2.2 e.symm))
end
section
variable{w w':zW}
structure Fr(X:Nat->Prop)(w w':World):Prop where
 os:w'.os=w.os
 tape:w'.tape=w.tape
 output:w'.output=w.output
 size:w.heap.size<=w'.heap.size
 block:∀b,b<w.heap.size->¬X b->w'.heap[b]?=w.heap[b]?
theorem Fr.trans{X:Nat->Prop}{a b c:zW}(h:Fr X a b)(D:Fr X b c):Fr X a c:=
 ⟨D.os.trans h.os,D.tape.trans h.tape,D.output.trans h.output,aO h.size D.size,fun k E F=>(D.block k (bE E h.size) F).trans (h.block k E F)⟩
theorem Fr.of_below{X:Nat->Prop}{a b:zW}(h:zB a b):Fr X a b:=⟨h.os,h.tape,h.output,h.size,fun k D _=>h.block k D⟩
theorem Fr.rJ{X:Nat->Prop}{a b:zW}{row:Option Nat}(h:a.grownBy b row)(F:∀k,row=some k->X k):Fr X a b:=
 ⟨h.os,h.tape,h.output,h.size,fun k D E=>h.block k D (fun e=>E (F k e.symm))⟩
theorem Fr.qC{X:Nat->Prop}(a:zW)(b o:Nat)(v:zV)(F:X b):Fr X a (a.setCell ⟨b,o,none⟩ v):=
 ⟨rfl,rfl,rfl,by simp[World.setCell],fun k _ E=>aM _ _ _ _ (fun e=>E (by have D:k=b:=e;rw[D];exact F))⟩
def Mine(D mb:Nat)(E:zV)(b:Nat):Prop:=b=D\/b=mb\/E.ownBlock=some b
theorem qD{W:zW}{mb E:Nat}{F:List zA}{v:zA}(a0:E<=4000)(hu:F.length<=2001)(hv:v.size<=2000)(V:SaidAt W mb F.length F):
  ∃G,(Instr.mapUpdate 248 (.map (some mb)) (.agg #[.string eK,zE,.string v]) (zI E)).run prog W=.ok () G/\SaidAt G mb (F.length+1) (F++[v])/\W.grownBy G (some mb):=by
 obtain⟨l,O⟩:=rI v (by unfold maxLen;omega);obtain⟨D,ho,M,Y⟩:=V
 have I:(Lit.int .i64 (E:Int)).wf=true:=by
  have e:wrap64 (E:Int)=(E:Int):=by
   first
    |(unfold wrap64;omega)
    |(simp[wrap64];omega)
  have h:=wrap64_wf (E:Int);rw[e] at h;exact h
 obtain⟨G,S,T,U⟩:=ho.update jh underlying248 (by unfold maxLen;omega) O (plainElem_int underlying3 I);exact⟨G,S,SaidAt.put M Y O T (M.put _ _),U⟩
theorem Rd.put{W W':zW}{E mb B O:Nat}{M:zV}{S Y D:List zA}(h:Rd W E mb B O M S Y)(G:W.grownBy W' (some mb))(V:SaidAt W' mb D.length D):Rd W' E mb B O M S D:=by
 have I:E<W.heap.size:=bE h.lt.1 h.lt.2.2.1;have F:=G.block E I (fun e=>h.lt.2.2.2 (by injection e))
 have T:∀b,M.ownBlock=some b->W'.heap[b]?=W.heap[b]?:=fun b e=>G.block b (h.own.lt b e).2 (fun U=>by
  have h1:=(h.own.lt b e).1;have h2:=h.lt.2.1;injection U with e4;omega)
 exact⟨h.rd.of_block F,by rw[gh (w:=W) (a:=⟨E,2,none⟩) F];exact h.f2,by rw[aZ (w:=W) (a:=⟨E,4,none⟩) F];exact h.fm,h.fs.of_block F,⟨h.lt.1,h.lt.2.1,aO h.lt.2.2.1 G.size,h.lt.2.2.2⟩,ar h.own T,V⟩
theorem wI(E sp wb wc a0 mb B ln:Nat)(U:zV)(F:List zA)(v:zA)(w:zW)(hv:v.size<=2000)(hn:F.length<=2001)(bs:ln<=4000)(hr:Rd w E mb B sp U F F)(hw:cF w wb a0 eK)(h3:w.cell? ⟨wb,3,none⟩=some (.string v)):
  zC 197 #[zP E,zI ln,.slice (some ⟨wb,0,none⟩) 2 wc] w fun e w'=>∃bn,e=.returned (.tuple #[])/\Rd w' E mb B sp bn (F++[v]) (F++[v])/\Fr (Mine E mb U) w w'/\(∀b,bn.ownBlock=some b->U.ownBlock=some b\/w.heap.size<=b):=by
 have hc:∀(args:Array zV)(w:zW),(callFunc 179 args).run prog w=.ok (.enter 179 args) w:=fun _ _=>by kernel_rfl
 have kI:∀W,_:=fun W=>kq W
 obtain⟨i2,b9,bb,bc,bd⟩:=FZ;have HJ:Hid (prog.info? 255=some i2/\i2.zero=some (.agg #[.string ByteArray.empty,.string ByteArray.empty,.string ByteArray.empty,.string ByteArray.empty])/\i2.size=4/\i2.bytes=64):=⟨b9,bb,bc,bd⟩;clear b9 bb bc bd;have O:=zH hr;obtain⟨b0,b2,b3,b4⟩:=hr.rd;obtain⟨c0,c1⟩:=hw;have a7:=aY w _ h3;have T:Hid (zB w (w.alloc (.cells #[zI 6] 3)).drew):=(aB (ae _ _) _).drew;have ab:Hid (KAt (w.alloc (.cells #[zI 6] 3)).drew w.heap.size [6]):=AR w
 have ks:zC 213 #[.slice (some ⟨w.heap.size,0,none⟩) 1 1,.slice (some ⟨wb,0,none⟩) 2 wc] (w.alloc (.cells #[zI 6] 3)).drew fun e w'=>e=.returned (.agg #[.string eK,zE,.string v,zE])/\Below (w.alloc (.cells #[zI 6] 3)).drew.heap.size (w.alloc (.cells #[zI 6] 3)).drew w':=
  kV w.heap.size wb 0 2 wc eK v _ (by omega) (by omega) ab.out.1 (bE a7 T.out.size) (ab.out.2 0 (by simp)) (by rw[T.out.cell (p:=⟨wb,0+1,none⟩) a7];exact c1) (by rw[T.out.cell (p:=⟨wb,0+3,none⟩) a7];exact h3)
 have HC:Hid ((w.alloc (.cells #[zI 6] 3)).drew.cell? ⟨E,0,none⟩=some (.func (.func 179) #[] #[])/\(w.alloc (.cells #[zI 6] 3)).drew.cell? ⟨wb,1,none⟩=some (.string eK)):=⟨(O.out.rd.below T.out).1,by rw[T.out.cell (p:=⟨wb,1,none⟩) a7];exact c1⟩;clear hr h3 ab;go_enter func197,ntmps197;go_upto_region 0 with fail
 go_region_held3 (fun w'=>w'.cell? ⟨E,0,none⟩=some (.func (.func 179) #[] #[])/\w'.cell? ⟨wb,1,none⟩=some (.string ⟨#[118,101,114,115,105,111,110]⟩))
   (first|exact⟨b0,c1⟩|exact HC.out)
   (first|(go_at_call 179;refine(kI _).mono ?_;rintro e w2 ⟨rfl,rfl⟩))
 all_goals
  clear b0 b2 b3 b4 c0 c1 kI HC;generalize (w.alloc (.cells #[zI 6] 3)).drew=W2 at*
  go_wp2_with (go_at_call 213;fail)
  go_at_call 213;refine ks.mono ?_;rintro e S ⟨rfl,b5⟩;have aa:=zH (T.out.trans (b5.mono T.out.size));clear b5 ks T;go_upto_region 2 with fail;have M:Hid (zB w (S.alloc (.cells #[.string eK,zE,.string v,zE] 255))):=aB aa.out _;have a3:Hid (∀j u,[Value.string eK,zE,.string v,zE][j]?=some u->(S.alloc (.cells #[.string eK,zE,.string v,zE] 255)).cell? ((⟨S.heap.size,0,none⟩:Addr).add j)=some u):=fun j u hj=>iZ S _ _ _ _ 255 j u hj
  have x0:(S.alloc (.cells #[.string eK,zE,.string v,zE] 255)).cell? ⟨S.heap.size,0,none⟩=some (.string eK):=a3.out 0 _ rfl;have x1:(S.alloc (.cells #[.string eK,zE,.string v,zE] 255)).cell? ⟨S.heap.size,1,none⟩=some (zE):=a3.out 1 _ rfl;have x2:(S.alloc (.cells #[.string eK,zE,.string v,zE] 255)).cell? ⟨S.heap.size,2,none⟩=some (.string v):=a3.out 2 _ rfl;have x3:(S.alloc (.cells #[.string eK,zE,.string v,zE] 255)).cell? ⟨S.heap.size,3,none⟩=some (zE):=a3.out 3 _ rfl;have a4:Hid (w.heap.size<=S.heap.size/\S.heap.size<(S.alloc (.cells #[.string eK,zE,.string v,zE] 255)).heap.size):=⟨aa.out.size,by simp⟩;generalize S.heap.size=G at*;generalize S.alloc (.cells #[.string eK,zE,.string v,zE] 255)=I at*;clear a3 aa;have a5:Fld I E 5 U:=O.out.fs.of_block (M.out.block E (aY w _ O.out.fs.1));have ak:Fld (I.alloc (.cells #[.string eK,zE,.string v,zE] 255)).drew E 5 U:=a5.of_block (aG _ _ _ (aY I _ a5.1))
  have bi:(I.alloc (.cells #[.string eK,zE,.string v,zE] 255)).drew.ownsRow B 255 4 U F.length (bP F):=ar (ar O.out.own (fun b e=>M.out.block b (O.out.own.lt b e).2)) (fun b e=>aG _ _ _ (bE (O.out.own.lt b e).2 M.out.size));have bh:∀j u,[Value.string eK,zE,.string v,zE][j]?=some u->(I.alloc (.cells #[.string eK,zE,.string v,zE] 255)).drew.cell? ((⟨I.heap.size,0,none⟩:Addr).add j)=some u:=fun j u hj=>iZ I _ _ _ _ 255 j u hj
  have ad:Hid (some E≠U.ownBlock):=fun e=>by have h:=(O.out.own.lt E e.symm).1;have:=O.out.lt.1;omega
  have a1:=zH ak;have c1:I.cell? ⟨E,5,none⟩=some U:=a5.1;have br:(I.alloc (.cells #[.string eK,zE,.string v,zE] 255)).cell? ⟨E,5,none⟩=some U:=ak.1;have bt:B<=I.heap.size:=aO O.out.lt.2.2.1 M.out.size;clear a5 ak
  have av:Hid (Rd (I.alloc (.cells #[.string eK,zE,.string v,zE] 255)) E mb B sp U F F):=by
   have V:Rd I E mb B sp U F F:=O.out.of_block M.out.size (M.out.block E (bE O.out.lt.1 O.out.lt.2.2.1)) (M.out.block mb (bE O.out.lt.2.1 O.out.lt.2.2.1)) (fun b e=>M.out.block b (O.out.own.lt b e).2);exact V.of_block (by simp) (aG _ _ _ (bE V.lt.1 V.lt.2.2.1)) (aG _ _ _ (bE V.lt.2.1 V.lt.2.2.1)) (fun b e=>aG _ _ _ (V.own.lt b e).2)
  have az:Hid (∀b,U.ownBlock=some b->b<w.heap.size):=fun b e=>(O.out.own.lt b e).2
  have aq:=zH O.out.lt;obtain⟨sa,sc,rfl⟩:=ax O.out.own
  go_region_law
   (first|(refine step_append_lies _ rfl (.tmp 28) (.tmp 30) 249 rfl B 255 i2 (.agg #[.string ByteArray.empty,.string ByteArray.empty,.string ByteArray.empty,.string ByteArray.empty]) 4 64 underlying249 HJ.out.1 HJ.out.2.1 HJ.out.2.2.1 HJ.out.2.2.2 rfl (by decide) _ F.length _ rfl bi ⟨I.heap.size,0,none⟩ 1 1 [.string eK,zE,.string v,zE] rfl rfl bh (fun u hu=>by simp at hu;rcases hu with rfl|rfl|rfl|rfl<;>rfl) (by decide) (by unfold maxLen;omega) (by omega) (by show B<=(I.alloc _).heap.size;simp;omega) _ rfl ?_;intro g cap Y a9 D b1 vB;have c3:Y.cell? ⟨E,5,none⟩=some (.slice sa F.length sc):=(a1.out.of_block (D.block E (aY _ _ a1.out.1) ad.out)).1;have f3:Y.frozen? ⟨E,5,none⟩=false:=(a1.out.of_block (D.block E (aY _ _ a1.out.1) ad.out)).2))
  all_goals
   have a2:Hid (Rd (Y.setCell ⟨E,5,none⟩ (.slice (some ⟨g,0,none⟩) (F.length+1) cap)) E mb B sp (.slice (some ⟨g,0,none⟩) (F.length+1) cap) (F++[v]) F):=av.out.grown ⟨D.os,D.tape,D.output,D.size,D.block⟩ a9
   have an:Hid (Fr (Mine E mb (.slice sa F.length sc)) w (Y.setCell ⟨E,5,none⟩ (.slice (some ⟨g,0,none⟩) (F.length+1) cap))):=by
    have f1:Fr (Mine E mb (.slice sa F.length sc)) w I:=Fr.of_below M.out;have f2:=f1.trans (Fr.of_below (aB (ae I.heap.size I) (.cells #[.string eK,zE,.string v,zE] 255)));have f3:=f2.trans (Fr.rJ (b:=Y) ⟨D.os,D.tape,D.output,D.size,D.block⟩ (fun k e=>Or.inr (Or.inr e)));exact f3.trans (Fr.qC Y E 5 _ (Or.inl rfl))
   have bp:Hid (∀b,(Value.slice (some ⟨g,0,none⟩) (F.length+1) cap).ownBlock=some b->(Value.slice sa F.length sc).ownBlock=some b\/w.heap.size<=b):=fun b e=>by
    have e1:g=b:=by simpa[Value.ownBlock] using e
    rcases b1 with h|h
    ·exact Or.inl (by rw[<-e1];exact h)
    ·have V:=M.out.size
     have h2:g=I.heap.size+1:=by rw[h];simp
     exact Or.inr (by omega)
   have b7:(Y.setCell ⟨E,5,none⟩ (.slice (some ⟨g,0,none⟩) (F.length+1) cap)).heap[G]?=I.heap[G]?:=by
    have V:=a4.out;have h2:=aq.out;rw[aM _ _ _ _ (fun e=>by have e3:G=E:=e;omega)];rw[D.block G (by simp;omega) (fun e=>by have:=az.out G e.symm;omega)];exact aG _ _ _ V.2
   have HY:Hid (∀W:zW,W.heap[G]?=(Y.setCell ⟨E,5,none⟩ (.slice (some ⟨g,0,none⟩) (F.length+1) cap)).heap[G]?->W.cell? ⟨G,0,none⟩=some (.string eK)/\W.cell? ⟨G,1,none⟩=some (zE)/\W.cell? ⟨G,2,none⟩=some (.string v)/\W.cell? ⟨G,3,none⟩=some (zE)):=fun W e=>by
    rw[b7] at e;exact⟨by rw[aZ (w:=I) (a:=⟨G,0,none⟩) e];exact x0,by rw[aZ (w:=I) (a:=⟨G,1,none⟩) e];exact x1,by rw[aZ (w:=I) (a:=⟨G,2,none⟩) e];exact x2,by rw[aZ (w:=I) (a:=⟨G,3,none⟩) e];exact x3⟩
   have JR:G<(Y.setCell ⟨E,5,none⟩ (.slice (some ⟨g,0,none⟩) (F.length+1) cap)).heap.size:=by
    have V:I.heap.size+1<=Y.heap.size:=by have:=D.size;simpa using this
    have h2:=a4.out.2;simp[World.setCell];omega
   have a8:Hid (G<(Y.setCell ⟨E,5,none⟩ (.slice (some ⟨g,0,none⟩) (F.length+1) cap)).heap.size/\G≠mb):=⟨JR,by have:=aq.out;have:=a4.out;omega⟩;clear b7 JR x0 x1 x2 x3 c1 br c3 f3 a9 D b1 vB bh bi a1 ad av O az M a4;go_upto_region 3 with fail;generalize Y.setCell ⟨E,5,none⟩ (.slice (some ⟨g,0,none⟩) (F.length+1) cap)=W5 at*;have c4:W5.cell? ⟨E,4,none⟩=some (.map (some mb)):=a2.out.fm;obtain⟨y0,y1,y2,y3⟩:=HY.out W5 rfl;have kc:∀W,zC 214 #[.agg #[.string eK,zE,.string v,zE]] W fun e w'=>e=.returned (.agg #[.string eK,zE,.string v])/\zB W w':=fun W=>oh _ _ v _ W (by kernel_rfl)
   have bm:∀W,zB W5 W->∃w7,(Instr.mapUpdate 248 (.map (some mb)) (.agg #[.string eK,zE,.string v]) (zI ln)).run prog W=.ok () w7/\Hid (Rd w7 E mb B sp (.slice (some ⟨g,0,none⟩) (F.length+1) cap) (F++[v]) (F++[v]))/\Hid (Fr (Mine E mb (.slice sa F.length sc)) w w7)/\w7.heap[G]?=W5.heap[G]?:=fun W hb=>by
    have l:=a2.out.lt;have e1:=hb.block E (by omega);have e2:=hb.block mb (by omega);have r6:=a2.out.of_block hb.size e1 e2 (fun b e=>hb.block b (a2.out.own.lt b e).2);obtain⟨w7,V,h2,h3⟩:=qD bs hn hv r6.said;refine⟨w7,V,r6.put h3 (by rw[aW];exact h2),(an.out.trans (Fr.of_below hb)).trans (Fr.rJ h3 (fun k e=>Or.inr (Or.inl (by injection e with e;exact e.symm)))),?_⟩;have h4:=a8.out;rw[h3.block G (bE h4.1 hb.size) (fun e=>h4.2 (by injection e))];exact hb.block G h4.1
   go_region_held3 (fun w'=>w'.cell? ⟨E,4,none⟩=some (.map (some mb))/\w'.cell? ⟨G,0,none⟩=some (.string eK)/\w'.cell? ⟨G,1,none⟩=some (zE)/\w'.cell? ⟨G,2,none⟩=some (.string v)/\w'.cell? ⟨G,3,none⟩=some (zE))
    (first|exact⟨c4,y0,y1,y2,y3⟩|exact⟨au.out.fm,HY.out _ ED⟩|exact⟨b8,HY.out _ JU⟩)
    (first|(go_at_call 214;refine(kc _).mono ?_;rintro e w6 ⟨rfl,b6⟩;have a6:zB W5 w6:=(ae W5.heap.size W5).drew.trans b6;have JU:w6.heap[G]?=W5.heap[G]?:=a6.block G a8.out.1;have b8:w6.cell? ⟨E,4,none⟩=some (.map (some mb)):=(a6.cell (p:=⟨E,4,none⟩) (aY W5 _ c4)).trans c4;obtain⟨w7,bk,au,bq,ED⟩:=bm w6 a6;clear b6))
   all_goals
    obtain⟨z0,z1,z2,z3⟩:=HY.out _ ED;clear an bm kc bk y0 y1 y2 y3 c4 b8 a6 JU ED HY a2;go_wp2;exact gB (v:=.tuple #[]) (by simp[results,results197,go_sem]) rfl ⟨_,rfl,au.out,bq.out,bp.out⟩
