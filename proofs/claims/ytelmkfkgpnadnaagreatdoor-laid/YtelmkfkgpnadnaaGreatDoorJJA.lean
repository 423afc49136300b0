import Derived.Test.YtelmkfkgpnadnaaGreatDoorJFA
import Derived.Test.YtelmkfkgpnadnaaGreatDoorJIA
import Derived.Maps.OwnSet
import Derived.DeepKeys4
import Derived.Deep.RegionHeldLaw
import Derived.Deep.RegionLaw
import Derived.Deep.AppendLies
set_option linter.all false
open Go.Proofs.Tryz
set_option maxRecDepth 100000
set_option maxHeartbeats 4000000
namespace Go.Proofs.YtelmkfkgpnadnaaGreatDoor
open Go.RowKit
section
variable{w w':zW}
def dm(W:zW)(rp sp:Nat):Prop:=
 W.cell? ⟨rp,0,none⟩=some (.func (.func 165) #[] #[])∧W.cell? ⟨rp,1,none⟩=some (zE)∧W.cell? ⟨rp,2,none⟩=some (zI sp)∧W.cell? ⟨rp,3,none⟩=some (zI 0)
theorem dm.below{rp sp:Nat}(h:dm w rp sp)(hb:zB w w'):dm w' rp sp:=by
 have h1:=aU w _ h.1;exact⟨by rw[hb.cell (p:=⟨rp,0,none⟩) h1];exact h.1,by rw[hb.cell (p:=⟨rp,1,none⟩) h1];exact h.2.1,by rw[hb.cell (p:=⟨rp,2,none⟩) h1];exact h.2.2.1,by rw[hb.cell (p:=⟨rp,3,none⟩) h1];exact h.2.2.2⟩
def cQ(W:zW)(b a0:Nat)(x0:zA):Prop:=W.cell? ⟨b,0,none⟩=some (zI a0)∧W.cell? ⟨b,1,none⟩=some (.string x0)
theorem cQ.below{b a0:Nat}{x0:zA}(h:cQ w b a0 x0)(hb:zB w w'):cQ w' b a0 x0:=by
 have h1:=aU w _ h.1;exact⟨by rw[hb.cell (p:=⟨b,0,none⟩) h1];exact h.1,by rw[hb.cell (p:=⟨b,1,none⟩) h1];exact h.2⟩
theorem below_drewN{B q:Nat}{a:zW}(h:Below B a w):Below B a (w.drewN q):=⟨h.os,h.tape,h.output,h.size,h.block⟩
theorem gQ(W:zW)(a0:Nat)(x0:zA)(t:TypeId):cQ (W.alloc (.cells #[zI a0,.string x0] t)) W.heap.size a0 x0:=by
 have b0:=iJ W (.cells #[zI a0,.string x0] t);exact⟨by simp only[World.cell?,b0];rfl,by simp only[World.cell?,b0];rfl⟩
theorem Cz(rp sp wb n wc k a0:Nat)(x0:zA)(w:zW)(hn:0<n)(hr:dm w rp sp)(hw:cQ w wb a0 x0)(hx:(x0.toList==[118,101,114,115,105,111,110])=false)(hk:k=2∨k=3):
  zC 124 #[zP rp,zI k,.slice (some ⟨wb,0,none⟩) n wc] w fun e w'=>e=.returned (zI (if k=2 then -1 else (a0:Int)))∧zB w w':=by
 have hnI:(0:Int)<(n:Int):=by omega
 have hc:∀(args:Array zV)(w:zW),(callFunc 165 args).run prog w=.ok (.enter 165 args) w:=fun _ _=>by kernel_rfl
 have kI:∀W,_:=fun W=>yT x0 W hx
 have HR:Hid (dm w rp sp):=hr;obtain⟨c0,c1⟩:=hw;clear hr;go_enter func124,ntmps124;go_upto_region 2 with fail;have HB1:Hid (zB w (w.alloc (.cells #[zI a0,.string x0] 274))):=(ae _ _).alloc (ag _) _;have HR1:Hid (dm (w.alloc (.cells #[zI a0,.string x0] 274)) rp sp):=HR.out.below HB1.out;have HX1:Hid (cQ (w.alloc (.cells #[zI a0,.string x0] 274)) w.heap.size a0 x0):=gQ w a0 x0 274;clear c0 c1;generalize w.alloc (.cells #[zI a0,.string x0] 274)=W1 at*;obtain⟨b0,b2,b3,b4⟩:=HR1.out;obtain⟨b5,b1⟩:=HX1.out
 go_region_held3 (fun w'=>w'.cell? ⟨rp,0,none⟩=some (.func (.func 165) #[] #[])∧w'.cell? ⟨w.heap.size,1,none⟩=some (.string x0))
   (first|exact⟨b0,b1⟩)
   (first|(go_at_call 165;refine(kI _).mono ?_;rintro e w2 ⟨rfl,rfl⟩))
 all_goals
  rcases hk with rfl|rfl
  ·go_upto_region 6 with fail
   go_quiet (fail);go_wp2;go_ret;exact⟨rfl,below_drewN HB1.out⟩
  ·go_wp2
   go_ret;exact⟨rfl,HB1.out.drew⟩
theorem Bc(W:zW):KAt (W.alloc (.cells #[zI 6] 3)) W.heap.size [6]:=by
 have b0:=iJ W (.cells #[zI 6] 3);refine⟨by simp,fun j hj=>?_⟩;have e:j=0:=by simp at hj;exact hj
 subst e;simp only[World.cell?,b0];rfl
def Na(w:zW)(wb n wc k:Nat)(z:Int):Prop:=
 (k=2∧z=-1)∨(k=3∧z=-1)∨(k=9∧z=-1)∨
 (k=4∧∀W p,zB w W→zC 171 #[.slice (some ⟨p,0,none⟩) 1 1,.slice (some ⟨wb,0,none⟩) n wc] W fun e w'=>e=.returned (zI z)∧zB W w')∨
 ((k=5∨k=6∨k=7)∧n=2∧2≤wc∧∀W p,zB w W→KAt W p [6]→zC 172 #[zI k,.slice (some ⟨p,0,none⟩) 1 1,.slice (some ⟨wb,2,none⟩) 1 (wc-1)] W fun e w'=>e=.returned (zI z)∧zB W w')
theorem Bd(rp sp wb n wc k a0:Nat)(z:Int)(w:zW)(hn:0<n)(hr:dm w rp sp)(hw:cQ w wb a0 ⟨#[118,101,114,115,105,111,110]⟩)(hk:Na w wb n wc k z):
  zC 124 #[zP rp,zI k,.slice (some ⟨wb,0,none⟩) n wc] w fun e w'=>e=.returned (zI z)∧zB w w':=by
 have HK:Hid (Na w wb n wc k z):=hk;clear hk;have hnI:(0:Int)<(n:Int):=by omega
 have hc:∀(args:Array zV)(w:zW),(callFunc 165 args).run prog w=.ok (.enter 165 args) w:=fun _ _=>by kernel_rfl
 have kI:∀W,_:=fun W=>jY W
 have HR:Hid (dm w rp sp):=hr;obtain⟨c0,c1⟩:=hw;clear hr;go_enter func124,ntmps124;go_upto_region 2 with fail;have HB1:Hid (zB w (w.alloc (.cells #[zI a0,.string ⟨#[118,101,114,115,105,111,110]⟩] 274))):=(ae _ _).alloc (ag _) _;have HR1:Hid (dm (w.alloc (.cells #[zI a0,.string ⟨#[118,101,114,115,105,111,110]⟩] 274)) rp sp):=HR.out.below HB1.out;have HX1:Hid (cQ (w.alloc (.cells #[zI a0,.string ⟨#[118,101,114,115,105,111,110]⟩] 274)) w.heap.size a0 ⟨#[118,101,114,115,105,111,110]⟩):=gQ w a0 ⟨#[118,101,114,115,105,111,110]⟩ 274;clear c0 c1;generalize w.alloc (.cells #[zI a0,.string ⟨#[118,101,114,115,105,111,110]⟩] 274)=W1 at*;obtain⟨b0,b2,b3,b4⟩:=HR1.out;obtain⟨b5,b1⟩:=HX1.out;have HA1:∀W,zB W1 W→dm W rp sp∧cQ W w.heap.size a0 ⟨#[118,101,114,115,105,111,110]⟩:=fun W hb=>⟨HR1.out.below hb,HX1.out.below hb⟩
 have hbA:zB W1 (W1.alloc (.cells #[zI 6] 3)).drew:=(aB (ae _ _) _).drew;have HKA:Hid (KAt (W1.alloc (.cells #[zI 6] 3)).drew W1.heap.size [6]):=Bc W1;obtain⟨⟨d0,d2,d3,d4⟩,d5,d1⟩:=HA1 _ hbA;have HBA:Hid (zB w (W1.alloc (.cells #[zI 6] 3)).drew):=HB1.out.trans (hbA.mono HB1.out.size);clear HA1 hbA
 go_region_held3 (fun w'=>w'.cell? ⟨rp,0,none⟩=some (.func (.func 165) #[] #[])∧w'.cell? ⟨w.heap.size,1,none⟩=some (.string ⟨#[118,101,114,115,105,111,110]⟩))
   (first|exact⟨b0,b1⟩|exact⟨d0,d1⟩)
   (first|(go_at_call 165;refine(kI _).mono ?_;rintro e w2 ⟨rfl,rfl⟩))
 all_goals
  clear b0 b1 b2 b3 b4 b5;generalize (W1.alloc (.cells #[zI 6] 3)).drew=W2 at*;rcases HK.out with⟨rfl,rfl⟩|⟨rfl,rfl⟩|⟨rfl,rfl⟩|⟨rfl,km⟩|⟨hk,rfl,hwc,km⟩
  ·go_upto_region 6 with fail
   go_quiet (fail);go_wp2;go_ret;exact⟨rfl,below_drewN HBA.out⟩
  ·go_wp2
   go_ret;exact⟨rfl,HBA.out⟩
  ·go_wp2
   go_ret;exact⟨rfl,HBA.out⟩
  ·have km:=fun p=>km W2 p HBA.out
   go_wp2_with (go_at_call 171;fail)
   go_at_call 171;refine(km _).mono ?_;rintro e w3 ⟨rfl,hb⟩;have HB3:Hid (zB w w3):=HBA.out.trans (hb.mono HBA.out.size);clear hb km;go_wp2;go_ret;exact⟨rfl,HB3.out⟩
  ·have km:=km W2 _ HBA.out HKA.out
   rcases hk with rfl|rfl|rfl
   all_goals
    first
     |rw[show((5:Nat):Int)=5 from rfl] at km
     |rw[show((6:Nat):Int)=6 from rfl] at km
     |rw[show((7:Nat):Int)=7 from rfl] at km
    go_wp2_with (go_at_call 172;fail)
    go_at_call 172;refine km.mono ?_;rintro e w3 ⟨rfl,hb⟩;have HB3:Hid (zB w w3):=HBA.out.trans (hb.mono HBA.out.size);clear hb km;go_wp2;go_ret;exact⟨rfl,HB3.out⟩
end
section
variable{w w':zW}
theorem EA(p k:Nat)(wv:zV)(w:zW)(hk:k=5∨k=7)(hP:w.cell? ⟨p,0,none⟩=some (zI 6)):
  zC 172 #[zI k,.slice (some ⟨p,0,none⟩) 1 1,wv] w fun e w'=>e=.returned (zI (-1))∧zB w w':=by
 have hz:∀q:Nat,(((6:Nat):Int)==(k:Int))=false:=fun _=>by rcases hk with rfl|rfl<;>rfl
 have hz1:((6:Int)==(k:Int))=false:=hz 0;clear hz;go_enter func172,ntmps172;go_wp2;go_loopg [11] 1 (fun gg f wr=>∃j:Nat,j≤1∧1-j≤gg∧f=zI j∧wr=w)
 case atStart=>exact⟨0,by omega,by omega,rfl,rfl⟩
 case round=>
  obtain⟨j,hj,hg,rfl,hw⟩:=hrel;subst hw;rcases(by omega:j=0∨j=1) with rfl|rfl
  ·go_wp2
   go_roundg 0
   case measure=>omega
   case rel=>exact⟨1,by omega,by omega,rfl,rfl⟩
  ·go_wp2
   go_ret;exact⟨rfl,ae _ _⟩
theorem getD_at{l:List (Nat×zA)}{j:Nat}(h:j<l.length):l.getD j pad=l[j]:=by
 simp[List.getD,aO h]
def ib(l:List (Nat×zA))(k:Nat):Int:=
 if k=4 then (if 2<l.length then ((l.getD 2 pad).1:Int) else if l.length<2 then ((l.getD 0 pad).1:Int)+((l.getD 0 pad).2.size:Int) else -1)
 else if k=6 then (if (Pv.parse (l.getD 1 pad).2.data.toList).isSome then -1 else ((l.getD 1 pad).1:Int))
 else -1
theorem EB{wb wc:Nat}{l:List (Nat×zA)}(hW:WAt w wb 0 l)(hne:0<l.length)(hs:∀x∈l,x.1≤4000∧x.2.size≤4000):Na w wb l.length wc 4 (ib l 4):=by
 refine Or.inr (Or.inr (Or.inr (Or.inl ⟨rfl,fun W p hb=>?_⟩)));have hW':=hW.below hb;unfold ib;rw[ah rfl];by_cases h2:2<l.length
 ·rw[ah h2]
  refine(qB (some ⟨p,0,none⟩) wb 0 1 1 l.length wc ((l.getD 2 pad).1:Int) W (by omega) (by omega) ?_).mono ?_
  ·have h:=(hW'.2 2 h2).1
   rw[getD_at h2];exact h
  ·rintro e w' ⟨rfl,rfl⟩
   exact⟨rfl,ae _ _⟩
 ·rw[af h2]
  by_cases h1:l.length<2
  ·rw[ah h1]
   have hx:=hs _ (bL hne);have hg:l.getD 0 pad=l[0]:=getD_at hne;rw[hg];have h0:l.length-1=0:=by omega
   refine(sj (some ⟨p,0,none⟩) wb 0 1 1 l.length wc l[0].1 l[0].2 W (by omega) (by omega) (by omega) hx.1 hx.2 ?_ ?_).mono ?_
   ·rw[h0];exact(hW'.2 0 hne).1
   ·rw[h0];exact(hW'.2 0 hne).2
   ·rintro e w' ⟨rfl,h⟩
    exact⟨rfl,h⟩
  ·rw[af h1]
   have h0:l.length=1+1:=by omega
   rw[h0];refine(qA (some ⟨p,0,none⟩) (some ⟨wb,0,none⟩) 1 1 wc W (by omega)).mono ?_;rintro e w' ⟨rfl,rfl⟩;exact⟨rfl,ae _ _⟩
theorem oU{wb wc k:Nat}{l:List (Nat×zA)}(hm:Ml w)(hW:WAt w wb 0 l)(h2:l.length=2)(hc:2≤wc)(hk:k=5∨k=6∨k=7):Na w wb l.length wc k (ib l k):=by
 refine Or.inr (Or.inr (Or.inr (Or.inr ⟨hk,h2,hc,fun W p hb hP=>?_⟩)))
 have hoff:∀k:Nat,k=5∨k=7→zC 172 #[zI k,.slice (some ⟨p,0,none⟩) 1 1,.slice (some ⟨wb,2,none⟩) 1 (wc-1)] W fun e w'=>e=.returned (zI (ib l k))∧zB W w':=fun k hk=>by
  have e:ib l k=-1:=by rcases hk with rfl|rfl<;>rfl
  rw[e];exact EA p k _ W hk (hP.2 0 (by simp))
 rcases hk with rfl|rfl|rfl
 ·exact hoff 5 (Or.inl rfl)
 ·have hW':=hW.below hb
  have h1:1<l.length:=by omega
  have hW1:WAt W wb 2 [l[1]]:=⟨hW'.1,fun j hj=>by
   have e:j=0:=by simp at hj;exact hj
   subst e;exact hW'.2 1 h1⟩
  refine(xg ipF 6 p wb 2 1 1 1 (wc-1) [6] [l[1]] W (by omega) rfl rfl (by omega) (by omega) hP hW1 ?_).mono ?_
  ·intro j hj W' hb'
   exact sr ipF _ W' ((hm.below hb).below hb')
  ·rintro e w' ⟨rfl,h⟩
   refine⟨?_,h⟩;have hg:l.getD 1 pad=l[1]:=getD_at h1;unfold ib;rw[af (by decide),ah rfl,hg];have hfit:Tx.fit ipF 6 l[1].2.data.toList=(Pv.parse l[1].2.data.toList).isSome:=rfl;simp only[aC,bH,fQ,Tx.misfit,hfit];cases (Pv.parse l[1].2.data.toList).isSome<;>simp[Cx]
 ·exact hoff 7 (Or.inr rfl)
end
section
variable{w w':zW}
theorem JW:laidOutB prog=true:=by kernel_rfl
theorem O8:(280:TypeId)<prog.types.size:=gH (by kernel_rfl)
theorem Nb:(match prog.underlying 280 with|some (.array _ _)|some (.struct _)=>true|_=>false)=true:=by kernel_rfl
theorem Nc:prog.keyTypeAt 3 280=true:=by kernel_rfl
theorem JX:prog.keyType 280=true:=by kernel_rfl
theorem Nf:prog.types.size=466:=by kernel_rfl
theorem CB:prog.cellsOf 280=3:=by kernel_rfl
theorem O9:prog.cellsOf 9=1:=by kernel_rfl
theorem Pd:WideMaps.KeyLaw prog 280:=deep_law_laid JW (m:=3) (Nat.le_of_ble_eq_true rfl) O8 Nc Nb
theorem jc:Maps.Keyed prog 280:=Maps.Keyed.of_law Pd
end
section
variable{w w':zW}
theorem xh(d:Nat)(s:zA)(h:s.size≤maxLen):prog.keyLits (d+1) 9 [.string s]=some [.string s.data.toList]:=by
 unfold Program.keyLits;rw[underlying9];show(if s.size≤maxLen then some [Lit.string s.data.toList] else none)=_;rw[ah h]
theorem zD(f p v:zA)(hf:f.size≤maxLen)(hp:p.size≤maxLen)(hv:v.size≤maxLen):∃l,keyOf prog 280 (.agg #[.string f,.string p,.string v])=some l:=by
 have h1:prog.keyLits (prog.types.size+1) 280 [.string f,.string p,.string v]=some [.string f.data.toList,.string p.data.toList,.string v.data.toList]:=by
  rw[Nf];unfold Program.keyLits;rw[underlying280];simp only[CB,bX,jm];rw[ah ⟨trivial,by kernel_rfl⟩];simp only[List.mapM_cons,List.mapM_nil,O9,List.drop,List.take,xh 465 f hf,xh 465 p hp,xh 465 v hv]
  rfl
 refine⟨.string (keyBytes [.string f.data.toList,.string p.data.toList,.string v.data.toList]),?_⟩;unfold keyOf;rw[underlying280];show(if (prog.keyType 280&&(Value.agg #[.string f,.string p,.string v]).formed prog 280)=true then (prog.keyLits (prog.types.size+1) 280 [.string f,.string p,.string v]).map (fun ls=>Lit.string (keyBytes ls)) else none)=_;rw[JX,h1];rw[ah (by simp[Value.formed,underlying280,CB])]
 rfl
def jZ(v:zA)(l:Lit):Prop:=keyOf prog 280 (.agg #[.string ⟨#[118,101,114,115,105,111,110]⟩,zE,.string v])=some l
theorem su(v:zA)(hv:v.size≤maxLen):∃l,jZ v l:=zD _ _ v (by decide) (by decide) hv
theorem Be{v u:zA}{l:Lit}(h:jZ v l)(h':jZ u l):v=u:=by
 have h2:=jc.inj h h';simp only[Value.agg.injEq,Array.mk.injEq,eG,Value.string.injEq,true_and,fS] at h2;exact h2
def SaidAt(W:zW)(b n:Nat)(vs:List zA):Prop:=
 ∃D:DataW Unit,W.ownsMap prog 280 (plainElem prog 3) b n D∧Maps.IsMap D∧∀v l,jZ v l→Maps.has D l=vs.any (fun x=>decide (x=v))
theorem SaidAt.put{W:zW}{b m:Nat}{vs:List zA}{D:DataW Unit}{v:zA}{l:Lit}{d:DataW Unit}(hD:Maps.IsMap D)(hs:∀v l,jZ v l→Maps.has D l=vs.any (fun x=>decide (x=v)))(hk:jZ v l)
  (ho:W.ownsMap prog 280 (plainElem prog 3) b m (D.put l d)) (hD':Maps.IsMap (D.put l d)):SaidAt W b m (vs++[v]):=by
 refine⟨_,ho,hD',fun u l' hu=>?_⟩;rw[List.any_append];by_cases e:l'=l
 ·subst e
  have e2:=Be hk hu;subst e2;rw[Maps.has_put_same hD (jc.key hk)];simp
 ·rw[Maps.has_put_other e,hs u l' hu]
  have e2:v≠u:=fun e2=>by
   subst e2;have h3:some l'=some l:=hu.symm.trans hk;exact e (by injection h3)
  simp[e2]
end
section
variable{w w':zW}
theorem JY(w:zW):(zeroValue 3).run prog w=.ok (zI 0) w:=by kernel_rfl
theorem Bf(rp sp wb wc a0 mb mn:Nat)(v:zA)(vs:List zA)(w:zW)(hv:v.size≤2000)(hm:w.cell? ⟨rp,4,none⟩=some (.map (some mb)))(hS:SaidAt w mb mn vs)(h3:w.cell? ⟨wb,3,none⟩=some (.string v))(hr:dm w rp sp)(hw:cQ w wb a0 ⟨#[118,101,114,115,105,111,110]⟩):
  zC 124 #[zP rp,zI 8,.slice (some ⟨wb,0,none⟩) 2 wc] w fun e w'=>e=.returned (zI (if vs.any (fun x=>decide (x=v)) then (a0:Int) else -1))∧zB w w':=by
 obtain⟨l,hl⟩:=su v (by unfold maxLen;omega);obtain⟨D,hown,_,hhas⟩:=hS;have HD:Hid (Maps.has D l=vs.any (fun x=>decide (x=v))):=hhas v l hl;clear hhas;generalize vs.any (fun x=>decide (x=v))=dd at HD ⊢;have HO:Hid (∃es clock,w.heap[mb]?=some (.map es clock)):=by obtain⟨es,cl,h,_⟩:=hown;exact⟨es,cl,h⟩
 have hmb:mb<w.heap.size:=by
  obtain⟨es,cl,h⟩:=HO.out;exact(oq.1 h).1
 have HOw:Hid (∀W,zB w W→W.ownsMap prog 280 (plainElem prog 3) mb mn D):=fun W hb=>by
  obtain⟨es,cl,h,rest⟩:=hown;exact⟨es,cl,(hb.block mb hmb).trans h,rest⟩
 have hrl:=aU w _ hm;have hwl:=aU w _ h3;have HM4:Hid (∀W,zB w W→W.cell? ⟨rp,4,none⟩=some (.map (some mb))∧W.cell? ⟨wb,3,none⟩=some (.string v)∧W.cell? ⟨wb,1,none⟩=some (.string ⟨#[118,101,114,115,105,111,110]⟩)):=fun W hb=>⟨by rw[hb.cell (p:=⟨rp,4,none⟩) hrl];exact hm,by rw[hb.cell (p:=⟨wb,3,none⟩) hwl];exact h3,by rw[hb.cell (p:=⟨wb,1,none⟩) hwl];exact hw.2⟩
 have HL:Hid (jZ v l):=hl;clear hm h3 hown hl HO;have hc:∀(args:Array zV)(w:zW),(callFunc 165 args).run prog w=.ok (.enter 165 args) w:=fun _ _=>by kernel_rfl
 have kI:∀W,_:=fun W=>jY W
 have HR:Hid (dm w rp sp):=hr;obtain⟨c0,c1⟩:=hw;clear hr;go_enter func124,ntmps124;go_upto_region 2 with fail;have HB1:Hid (zB w (w.alloc (.cells #[zI a0,.string ⟨#[118,101,114,115,105,111,110]⟩] 274))):=(ae _ _).alloc (ag _) _;have HR1:Hid (dm (w.alloc (.cells #[zI a0,.string ⟨#[118,101,114,115,105,111,110]⟩] 274)) rp sp):=HR.out.below HB1.out;have HX1:Hid (cQ (w.alloc (.cells #[zI a0,.string ⟨#[118,101,114,115,105,111,110]⟩] 274)) w.heap.size a0 ⟨#[118,101,114,115,105,111,110]⟩):=gQ w a0 ⟨#[118,101,114,115,105,111,110]⟩ 274;clear c0 c1;generalize w.alloc (.cells #[zI a0,.string ⟨#[118,101,114,115,105,111,110]⟩] 274)=W1 at*;obtain⟨b0,b2,b3,b4⟩:=HR1.out;obtain⟨b5,b1⟩:=HX1.out;have HA1:∀W,zB W1 W→dm W rp sp∧cQ W w.heap.size a0 ⟨#[118,101,114,115,105,111,110]⟩:=fun W hb=>⟨HR1.out.below hb,HX1.out.below hb⟩
 have hbA:zB W1 (W1.alloc (.cells #[zI 6] 3)).drew:=(aB (ae _ _) _).drew;have HKA:Hid (KAt (W1.alloc (.cells #[zI 6] 3)).drew W1.heap.size [6]):=Bc W1;obtain⟨⟨d0,d2,d3,d4⟩,d5,d1⟩:=HA1 _ hbA;have HBA:Hid (zB w (W1.alloc (.cells #[zI 6] 3)).drew):=HB1.out.trans (hbA.mono HB1.out.size);clear HA1 hbA
 go_region_held3 (fun w'=>w'.cell? ⟨rp,0,none⟩=some (.func (.func 165) #[] #[])∧w'.cell? ⟨w.heap.size,1,none⟩=some (.string ⟨#[118,101,114,115,105,111,110]⟩))
   (first|exact⟨b0,b1⟩|exact⟨d0,d1⟩)
   (first|(go_at_call 165;refine(kI _).mono ?_;rintro e w2 ⟨rfl,rfl⟩))
 all_goals
  clear b0 b1 b2 b3 b4 b5;obtain⟨e4,e5,e6⟩:=HM4.out _ HBA.out;have hsz:Below (W1.alloc (.cells #[zI 6] 3)).drew.heap.size (W1.alloc (.cells #[zI 6] 3)).drew (W1.alloc (.cells #[zI 6] 3)).drew:=ae _ _;generalize (W1.alloc (.cells #[zI 6] 3)).drew=W2 at*;go_upto_region 16 with fail;have HBd:Hid (∀W,zB W2 W→zB w W):=fun W hb=>HBA.out.trans (hb.mono HBA.out.size)
  have ks:∀W,zB W2 W→zC 173 #[.slice (some ⟨W1.heap.size,0,none⟩) 1 1,.slice (some ⟨wb,0,none⟩) 2 wc] W fun e w'=>e=.returned (.agg #[.string ⟨#[118,101,114,115,105,111,110]⟩,zE,.string v,zE])∧zB W w':=fun W hb=>by
   obtain⟨f4,f5,f6⟩:=HM4.out W (HBd.out W hb);have hka:=HKA.out.below hb;exact kW W1.heap.size wb 0 2 wc _ v W (by omega) (by omega) hka.1 (aU W _ f5) (hka.2 0 (by simp)) f6 f5
  have kc:∀W,zC 174 #[.agg #[.string ⟨#[118,101,114,115,105,111,110]⟩,zE,.string v,zE]] W fun e w'=>e=.returned (.agg #[.string ⟨#[118,101,114,115,105,111,110]⟩,zE,.string v])∧zB W w':=fun W=>oT _ _ v _ W (by kernel_rfl)
  have sf:∀W,zB W2 W→W.ownsMap prog 280 (plainElem prog 3) mb mn D:=fun W hb=>HOw.out W (HBd.out W hb)
  have CC:∀W,zB W2 W→∃c:Int,(Instr.lookup 148 (.map (some mb)) (.agg #[.string ⟨#[118,101,114,115,105,111,110]⟩,zE,.string v]) true).run prog W=.ok (.tuple #[zI c,.bool (Maps.has D l)]) W:=fun W hb=>by
   obtain⟨v0,ps,hrun,hv0⟩:=(sf W hb).look_ok jc underlying148 (JY W) (plainElem_int underlying3 (by decide)) HL.out;obtain⟨c,rfl,_,_⟩:=plainElem_int_inv underlying3 hv0;exact⟨c,hrun⟩
  have hcell:∀W,zB W2 W→W.cell? ⟨rp,4,none⟩=some (.map (some mb)):=fun W hb=>(HM4.out W (HBd.out W hb)).1
  clear HM4 e5 e6 kI HOw sf
  go_region_held3 (fun w'=>w'.cell? ⟨rp,4,none⟩=some (.map (some mb)))
    (first|exact e4|exact hcell _ hbB|exact hcell _ hbA|exact hcell _ ((ae _ _).drew))
    (first
     |(go_at_call 173;refine(ks _ ((ae _ _).drew)).mono ?_;rintro e w3 ⟨rfl,hb3⟩;have hbA:zB W2 w3:=(ae W2.heap.size W2).drew.trans hb3;clear hb3)
     |(go_at_call 174;refine(kc _).mono ?_;rintro e w4 ⟨rfl,hb4⟩;have hbB:zB W2 w4:=hbA.trans (hb4.mono hbA.size);obtain⟨cL,hrun⟩:=CC _ hbB;clear hb4))
  all_goals
   have d6:w4.cell? ⟨w.heap.size,0,none⟩=some (zI a0):=by
    rw[hbB.cell (p:=⟨w.heap.size,0,none⟩) (aU W2 _ d5)];exact d5
   have HE:Hid (zB w w4):=HBd.out _ hbB;clear CC hcell ks kc d0 d1 d2 d3 d4 d5 hrun hbA hbB e4;rw[HD.out];clear HD;cases dd
   ·go_wp2
    go_ret;exact⟨rfl,HE.out⟩
   ·go_wp2
    go_ret;exact⟨rfl,HE.out⟩
end
section
variable{w w':zW}
abbrev eJ:zA:=⟨#[118,101,114,115,105,111,110]⟩
def bU(vs:List zA):List zV:=vs.flatMap fun v=>[.string eJ,zE,.string v,zE]
theorem nA(vs:List zA)(v:zA):bU (vs++[v])=bU vs++[.string eJ,zE,.string v,zE]:=by simp[bU]
theorem FX:∃i,prog.info? 155=some i∧i.zero=some (.agg #[.string ByteArray.empty,.string ByteArray.empty,.string ByteArray.empty,.string ByteArray.empty])∧i.size=4∧i.bytes=64:=by
 have h:(prog.info? 155).map (fun i=>(i.zero,i.size,i.bytes))=some (some (.agg #[.string ByteArray.empty,.string ByteArray.empty,.string ByteArray.empty,.string ByteArray.empty]),4,64):=by kernel_rfl
 rw[qN] at h;obtain⟨i,h1,h2⟩:=h;simp only[iH] at h2;exact⟨i,h1,h2.1,h2.2.1,h2.2.2⟩
def Fld(W:zW)(b o:Nat)(v:zV):Prop:=W.cell? ⟨b,o,none⟩=some v∧W.frozen? ⟨b,o,none⟩=false
theorem Fld.of_block{W W':zW}{b o:Nat}{v:zV}(h:Fld W b o v)(e:W'.heap[b]?=W.heap[b]?):Fld W' b o v:=
 ⟨by rw[aW (w:=W) (a:=⟨b,o,none⟩) e];exact h.1,by rw[gf (w:=W) (a:=⟨b,o,none⟩) e];exact h.2⟩
structure Rd(W:World)(rp mb B sp:Nat)(sv:zV)(vs us:List zA):Prop where
 rd:dm W rp sp
 f2:W.frozen? ⟨rp,2,none⟩=false
 fm:W.cell? ⟨rp,4,none⟩=some (.map (some mb))
 fs:Fld W rp 5 sv
 lt:rp<B∧mb<B∧B≤W.heap.size∧rp≠mb
 own:W.ownsRow B 155 4 sv vs.length (bU vs)
 said:SaidAt W mb us.length us
theorem SaidAt.of_block{W W':zW}{b n:Nat}{vs:List zA}(h:SaidAt W b n vs)(e:W'.heap[b]?=W.heap[b]?):SaidAt W' b n vs:=by
 obtain⟨D,⟨es,cl,h1,rest⟩,h2⟩:=h;exact⟨D,⟨es,cl,e.trans h1,rest⟩,h2⟩
theorem dm.of_block{W W':zW}{rp sp:Nat}(h:dm W rp sp)(e:W'.heap[rp]?=W.heap[rp]?):dm W' rp sp:=
 ⟨by rw[aW (w:=W) (a:=⟨rp,0,none⟩) e];exact h.1,by rw[aW (w:=W) (a:=⟨rp,1,none⟩) e];exact h.2.1,by rw[aW (w:=W) (a:=⟨rp,2,none⟩) e];exact h.2.2.1,by rw[aW (w:=W) (a:=⟨rp,3,none⟩) e];exact h.2.2.2⟩
theorem Rd.of_block{W W':zW}{rp mb B sp:Nat}{sv:zV}{vs us:List zA}(h:Rd W rp mb B sp sv vs us)(hs:W.heap.size≤W'.heap.size)(e1:W'.heap[rp]?=W.heap[rp]?)(e2:W'.heap[mb]?=W.heap[mb]?)(e3:∀b,sv.ownBlock=some b→W'.heap[b]?=W.heap[b]?):Rd W' rp mb B sp sv vs us:=
 ⟨h.rd.of_block e1,by rw[gf (w:=W) (a:=⟨rp,2,none⟩) e1];exact h.f2,by rw[aW (w:=W) (a:=⟨rp,4,none⟩) e1];exact h.fm,h.fs.of_block e1,⟨h.lt.1,h.lt.2.1,aP h.lt.2.2.1 hs,h.lt.2.2.2⟩,ar h.own e3,h.said.of_block e2⟩
theorem Rd.grown{W W':zW}{rp mb B sp:Nat}{sv sv':zV}{vs us:List zA}{v:zA}(h:Rd W rp mb B sp sv vs us)(hg:W.grownBy W' sv.ownBlock)(ho:W'.ownsRow B 155 4 sv' (vs.length+1) (bU vs++[.string eJ,zE,.string v,zE])):Rd (W'.setCell ⟨rp,5,none⟩ sv') rp mb B sp sv' (vs++[v]) us:=by
 have hrl:rp<W.heap.size:=bI h.lt.1 h.lt.2.2.1;have hml:mb<W.heap.size:=bI h.lt.2.1 h.lt.2.2.1;have n1:some rp≠sv.ownBlock:=fun e=>by have h1:=(h.own.lt rp e.symm).1;have:=h.lt.1;omega
 have n2:some mb≠sv.ownBlock:=fun e=>by have h1:=(h.own.lt mb e.symm).1;have:=h.lt.2.1;omega
 have e1:=hg.block rp hrl n1;have e2:=hg.block mb hml n2;have r:=h.rd.of_block e1;have c4:W'.cell? ⟨rp,4,none⟩=some (.map (some mb)):=by rw[aW (w:=W) (a:=⟨rp,4,none⟩) e1];exact h.fm
 have f5:=h.fs.of_block e1;have hf2:W'.frozen? ⟨rp,2,none⟩=false:=by rw[gf (w:=W) (a:=⟨rp,2,none⟩) e1];exact h.f2
 have hne:∀j,j≠5→(⟨rp,5,none⟩:Addr)≠⟨rp,j,none⟩:=fun j hj e=>by injection e with _ e;exact hj e.symm
 have CF:(W'.setCell ⟨rp,5,none⟩ sv').heap.size=W'.heap.size:=by simp[World.setCell]
 refine⟨⟨?_,?_,?_,?_⟩,?_,?_,⟨ik _ _ _ f5.1,?_⟩,⟨h.lt.1,h.lt.2.1,?_,h.lt.2.2.2⟩,?_,?_⟩
 ·rw[cB _ _ _ _ (hne 0 (by decide))];exact r.1
 ·rw[cB _ _ _ _ (hne 1 (by decide))];exact r.2.1
 ·rw[cB _ _ _ _ (hne 2 (by decide))];exact r.2.2.1
 ·rw[cB _ _ _ _ (hne 3 (by decide))];exact r.2.2.2
 ·rw[dT];exact hf2
 ·rw[cB _ _ _ _ (hne 4 (by decide))];exact c4
 ·rw[dT];exact f5.2
 ·rw[CF];exact aP h.lt.2.2.1 hg.size
 ·rw[nA,bg]
  exact ar ho (fun b e=>aL _ _ _ _ (fun e2=>by have h1:=(ho.lt b e).1;have h2:=h.lt.1;have e3:b=rp:=e2;omega))
 ·exact(h.said.of_block e2).of_block (aL _ _ _ _ (fun e=>h.lt.2.2.2 e.symm))
end
section
variable{w w':zW}
structure Fr(X:Nat→Prop)(w w':World):Prop where
 os:w'.os=w.os
 tape:w'.tape=w.tape
 output:w'.output=w.output
 size:w.heap.size≤w'.heap.size
 block:∀b,b<w.heap.size→¬X b→w'.heap[b]?=w.heap[b]?
theorem Fr.trans{X:Nat→Prop}{a b c:zW}(h:Fr X a b)(h':Fr X b c):Fr X a c:=
 ⟨h'.os.trans h.os,h'.tape.trans h.tape,h'.output.trans h.output,aP h.size h'.size,fun k hk hx=>(h'.block k (bI hk h.size) hx).trans (h.block k hk hx)⟩
theorem Fr.of_below{X:Nat→Prop}{a b:zW}(h:zB a b):Fr X a b:=⟨h.os,h.tape,h.output,h.size,fun k hk _=>h.block k hk⟩
theorem Fr.sw{X:Nat→Prop}{a b:zW}{row:Option Nat}(h:a.grownBy b row)(hx:∀k,row=some k→X k):Fr X a b:=
 ⟨h.os,h.tape,h.output,h.size,fun k hk hn=>h.block k hk (fun e=>hn (hx k e.symm))⟩
theorem Fr.qZ{X:Nat→Prop}(a:zW)(b o:Nat)(v:zV)(hx:X b):Fr X a (a.setCell ⟨b,o,none⟩ v):=
 ⟨rfl,rfl,rfl,by simp[World.setCell],fun k _ hn=>aL _ _ _ _ (fun e=>hn (by have e3:k=b:=e;rw[e3];exact hx))⟩
def Mine(rp mb:Nat)(sv:zV)(b:Nat):Prop:=b=rp∨b=mb∨sv.ownBlock=some b
theorem rf{W:zW}{mb ln:Nat}{us:List zA}{v:zA}(hln:ln≤4000)(hu:us.length≤2001)(hv:v.size≤2000)(hS:SaidAt W mb us.length us):
  ∃w7,(Instr.mapUpdate 148 (.map (some mb)) (.agg #[.string eJ,zE,.string v]) (zI ln)).run prog W=.ok () w7∧SaidAt w7 mb (us.length+1) (us++[v])∧W.grownBy w7 (some mb):=by
 obtain⟨l,hl⟩:=su v (by unfold maxLen;omega);obtain⟨D,ho,hD,hh⟩:=hS
 have hwf:(Lit.int .i64 (ln:Int)).wf=true:=by
  have e:wrap64 (ln:Int)=(ln:Int):=by
   first
    |(unfold wrap64;omega)
    |(simp[wrap64];omega)
  have h:=wrap64_wf (ln:Int);rw[e] at h;exact h
 obtain⟨w7,h1,h2,h3⟩:=ho.update jc underlying148 (by unfold maxLen;omega) hl (plainElem_int underlying3 hwf);exact⟨w7,h1,SaidAt.put hD hh hl h2 (hD.put _ _),h3⟩
theorem Rd.put{W W':zW}{rp mb B sp:Nat}{sv:zV}{vs us us':List zA}(h:Rd W rp mb B sp sv vs us)(hg:W.grownBy W' (some mb))(hs:SaidAt W' mb us'.length us'):Rd W' rp mb B sp sv vs us':=by
 have hrl:rp<W.heap.size:=bI h.lt.1 h.lt.2.2.1;have e1:=hg.block rp hrl (fun e=>h.lt.2.2.2 (by injection e))
 have e2:∀b,sv.ownBlock=some b→W'.heap[b]?=W.heap[b]?:=fun b e=>hg.block b (h.own.lt b e).2 (fun e3=>by
  have h1:=(h.own.lt b e).1;have h2:=h.lt.2.1;injection e3 with e4;omega)
 exact⟨h.rd.of_block e1,by rw[gf (w:=W) (a:=⟨rp,2,none⟩) e1];exact h.f2,by rw[aW (w:=W) (a:=⟨rp,4,none⟩) e1];exact h.fm,h.fs.of_block e1,⟨h.lt.1,h.lt.2.1,aP h.lt.2.2.1 hg.size,h.lt.2.2.2⟩,ar h.own e2,hs⟩
theorem xj(rp sp wb wc a0 mb B ln:Nat)(sv:zV)(vs:List zA)(v:zA)(w:zW)(hv:v.size≤2000)(hn:vs.length≤2001)(hln:ln≤4000)(hr:Rd w rp mb B sp sv vs vs)(hw:cQ w wb a0 eJ)(h3:w.cell? ⟨wb,3,none⟩=some (.string v)):
  zC 125 #[zP rp,zI ln,.slice (some ⟨wb,0,none⟩) 2 wc] w fun e w'=>∃sv',e=.returned (.tuple #[])∧Rd w' rp mb B sp sv' (vs++[v]) (vs++[v])∧Fr (Mine rp mb sv) w w'∧(∀b,sv'.ownBlock=some b→sv.ownBlock=some b∨w.heap.size≤b):=by
 have hc:∀(args:Array zV)(w:zW),(callFunc 165 args).run prog w=.ok (.enter 165 args) w:=fun _ _=>by kernel_rfl
 have kI:∀W,_:=fun W=>jY W
 obtain⟨i2,hi1,hi2,hi3,hi4⟩:=FX;have HJ:Hid (prog.info? 155=some i2∧i2.zero=some (.agg #[.string ByteArray.empty,.string ByteArray.empty,.string ByteArray.empty,.string ByteArray.empty])∧i2.size=4∧i2.bytes=64):=⟨hi1,hi2,hi3,hi4⟩;clear hi1 hi2 hi3 hi4;have HR:Hid (Rd w rp mb B sp sv vs vs):=hr;obtain⟨b0,b2,b3,b4⟩:=hr.rd;obtain⟨c0,c1⟩:=hw;have hwl:=aU w _ h3;have HB2:Hid (zB w (w.alloc (.cells #[zI 6] 3)).drew):=(aB (ae _ _) _).drew;have HKA:Hid (KAt (w.alloc (.cells #[zI 6] 3)).drew w.heap.size [6]):=Bc w
 have ks:zC 173 #[.slice (some ⟨w.heap.size,0,none⟩) 1 1,.slice (some ⟨wb,0,none⟩) 2 wc] (w.alloc (.cells #[zI 6] 3)).drew fun e w'=>e=.returned (.agg #[.string eJ,zE,.string v,zE])∧Below (w.alloc (.cells #[zI 6] 3)).drew.heap.size (w.alloc (.cells #[zI 6] 3)).drew w':=
  kW w.heap.size wb 0 2 wc eJ v _ (by omega) (by omega) HKA.out.1 (bI hwl HB2.out.size) (HKA.out.2 0 (by simp)) (by rw[HB2.out.cell (p:=⟨wb,0+1,none⟩) hwl];exact c1) (by rw[HB2.out.cell (p:=⟨wb,0+3,none⟩) hwl];exact h3)
 have HC:Hid ((w.alloc (.cells #[zI 6] 3)).drew.cell? ⟨rp,0,none⟩=some (.func (.func 165) #[] #[])∧(w.alloc (.cells #[zI 6] 3)).drew.cell? ⟨wb,1,none⟩=some (.string eJ)):=⟨(HR.out.rd.below HB2.out).1,by rw[HB2.out.cell (p:=⟨wb,1,none⟩) hwl];exact c1⟩;clear hr h3 HKA;go_enter func125,ntmps125;go_upto_region 0 with fail
 go_region_held3 (fun w'=>w'.cell? ⟨rp,0,none⟩=some (.func (.func 165) #[] #[])∧w'.cell? ⟨wb,1,none⟩=some (.string ⟨#[118,101,114,115,105,111,110]⟩))
   (first|exact⟨b0,c1⟩|exact HC.out)
   (first|(go_at_call 165;refine(kI _).mono ?_;rintro e w2 ⟨rfl,rfl⟩))
 all_goals
  clear b0 b2 b3 b4 c0 c1 kI HC;generalize (w.alloc (.cells #[zI 6] 3)).drew=W2 at*
  go_wp2_with (go_at_call 173;fail)
  go_at_call 173;refine ks.mono ?_;rintro e w3 ⟨rfl,hb3⟩;have HB3:Hid (zB w w3):=HB2.out.trans (hb3.mono HB2.out.size);clear hb3 ks HB2;go_upto_region 2 with fail;have HB4:Hid (zB w (w3.alloc (.cells #[.string eJ,zE,.string v,zE] 155))):=aB HB3.out _;have HX4:Hid (∀j u,[Value.string eJ,zE,.string v,zE][j]?=some u→(w3.alloc (.cells #[.string eJ,zE,.string v,zE] 155)).cell? ((⟨w3.heap.size,0,none⟩:Addr).add j)=some u):=fun j u hj=>iT w3 _ _ _ _ 155 j u hj
  have x0:(w3.alloc (.cells #[.string eJ,zE,.string v,zE] 155)).cell? ⟨w3.heap.size,0,none⟩=some (.string eJ):=HX4.out 0 _ rfl;have x1:(w3.alloc (.cells #[.string eJ,zE,.string v,zE] 155)).cell? ⟨w3.heap.size,1,none⟩=some (zE):=HX4.out 1 _ rfl;have x2:(w3.alloc (.cells #[.string eJ,zE,.string v,zE] 155)).cell? ⟨w3.heap.size,2,none⟩=some (.string v):=HX4.out 2 _ rfl;have x3:(w3.alloc (.cells #[.string eJ,zE,.string v,zE] 155)).cell? ⟨w3.heap.size,3,none⟩=some (zE):=HX4.out 3 _ rfl;have HBX:Hid (w.heap.size≤w3.heap.size∧w3.heap.size<(w3.alloc (.cells #[.string eJ,zE,.string v,zE] 155)).heap.size):=⟨HB3.out.size,by simp⟩;generalize w3.heap.size=bx at*;generalize w3.alloc (.cells #[.string eJ,zE,.string v,zE] 155)=W3 at*;clear HX4 HB3;have hF3:Fld W3 rp 5 sv:=HR.out.fs.of_block (HB4.out.block rp (aU w _ HR.out.fs.1));have hF4:Fld (W3.alloc (.cells #[.string eJ,zE,.string v,zE] 155)).drew rp 5 sv:=hF3.of_block (aG _ _ _ (aU W3 _ hF3.1))
  have hoe:(W3.alloc (.cells #[.string eJ,zE,.string v,zE] 155)).drew.ownsRow B 155 4 sv vs.length (bU vs):=ar (ar HR.out.own (fun b e=>HB4.out.block b (HR.out.own.lt b e).2)) (fun b e=>aG _ _ _ (bI (HR.out.own.lt b e).2 HB4.out.size));have hnw:∀j u,[Value.string eJ,zE,.string v,zE][j]?=some u→(W3.alloc (.cells #[.string eJ,zE,.string v,zE] 155)).drew.cell? ((⟨W3.heap.size,0,none⟩:Addr).add j)=some u:=fun j u hj=>iT W3 _ _ _ _ 155 j u hj
  have HNE:Hid (some rp≠sv.ownBlock):=fun e=>by have h:=(HR.out.own.lt rp e.symm).1;have:=HR.out.lt.1;omega
  have HF4:Hid (Fld (W3.alloc (.cells #[.string eJ,zE,.string v,zE] 155)).drew rp 5 sv):=hF4;have c1:W3.cell? ⟨rp,5,none⟩=some sv:=hF3.1;have c1b:(W3.alloc (.cells #[.string eJ,zE,.string v,zE] 155)).cell? ⟨rp,5,none⟩=some sv:=hF4.1;have hBs:B≤W3.heap.size:=aP HR.out.lt.2.2.1 HB4.out.size;clear hF3 hF4
  have HRa:Hid (Rd (W3.alloc (.cells #[.string eJ,zE,.string v,zE] 155)) rp mb B sp sv vs vs):=by
   have h1:Rd W3 rp mb B sp sv vs vs:=HR.out.of_block HB4.out.size (HB4.out.block rp (bI HR.out.lt.1 HR.out.lt.2.2.1)) (HB4.out.block mb (bI HR.out.lt.2.1 HR.out.lt.2.2.1)) (fun b e=>HB4.out.block b (HR.out.own.lt b e).2);exact h1.of_block (by simp) (aG _ _ _ (bI h1.lt.1 h1.lt.2.2.1)) (aG _ _ _ (bI h1.lt.2.1 h1.lt.2.2.1)) (fun b e=>aG _ _ _ (h1.own.lt b e).2)
  have HSB:Hid (∀b,sv.ownBlock=some b→b<w.heap.size):=fun b e=>(HR.out.own.lt b e).2
  have HLT:Hid (rp<B∧mb<B∧B≤w.heap.size∧rp≠mb):=HR.out.lt;obtain⟨sa,sc,rfl⟩:=ay HR.out.own
  go_region_law
   (first|(refine step_append_lies _ rfl (.tmp 28) (.tmp 30) 149 rfl B 155 i2 (.agg #[.string ByteArray.empty,.string ByteArray.empty,.string ByteArray.empty,.string ByteArray.empty]) 4 64 underlying149 HJ.out.1 HJ.out.2.1 HJ.out.2.2.1 HJ.out.2.2.2 rfl (by decide) _ vs.length _ rfl hoe ⟨W3.heap.size,0,none⟩ 1 1 [.string eJ,zE,.string v,zE] rfl rfl hnw (fun u hu=>by simp at hu;rcases hu with rfl|rfl|rfl|rfl<;>rfl) (by decide) (by unfold maxLen;omega) (by omega) (by show B≤(W3.alloc _).heap.size;simp;omega) _ rfl ?_;intro g cap w5 hown hgrow hat Bg;have c3:w5.cell? ⟨rp,5,none⟩=some (.slice sa vs.length sc):=(HF4.out.of_block (hgrow.block rp (aU _ _ HF4.out.1) HNE.out)).1;have f3:w5.frozen? ⟨rp,5,none⟩=false:=(HF4.out.of_block (hgrow.block rp (aU _ _ HF4.out.1) HNE.out)).2))
  all_goals
   have HR5:Hid (Rd (w5.setCell ⟨rp,5,none⟩ (.slice (some ⟨g,0,none⟩) (vs.length+1) cap)) rp mb B sp (.slice (some ⟨g,0,none⟩) (vs.length+1) cap) (vs++[v]) vs):=HRa.out.grown ⟨hgrow.os,hgrow.tape,hgrow.output,hgrow.size,hgrow.block⟩ hown
   have HFr:Hid (Fr (Mine rp mb (.slice sa vs.length sc)) w (w5.setCell ⟨rp,5,none⟩ (.slice (some ⟨g,0,none⟩) (vs.length+1) cap))):=by
    have f1:Fr (Mine rp mb (.slice sa vs.length sc)) w W3:=Fr.of_below HB4.out;have f2:=f1.trans (Fr.of_below (aB (ae W3.heap.size W3) (.cells #[.string eJ,zE,.string v,zE] 155)));have f3:=f2.trans (Fr.sw (b:=w5) ⟨hgrow.os,hgrow.tape,hgrow.output,hgrow.size,hgrow.block⟩ (fun k e=>Or.inr (Or.inr e)));exact f3.trans (Fr.qZ w5 rp 5 _ (Or.inl rfl))
   have HAt:Hid (∀b,(Value.slice (some ⟨g,0,none⟩) (vs.length+1) cap).ownBlock=some b→(Value.slice sa vs.length sc).ownBlock=some b∨w.heap.size≤b):=fun b e=>by
    have e1:g=b:=by simpa[Value.ownBlock] using e
    rcases hat with h|h
    ·exact Or.inl (by rw[←e1];exact h)
    ·have h1:=HB4.out.size
     have h2:g=W3.heap.size+1:=by rw[h];simp
     exact Or.inr (by omega)
   have hbb:(w5.setCell ⟨rp,5,none⟩ (.slice (some ⟨g,0,none⟩) (vs.length+1) cap)).heap[bx]?=W3.heap[bx]?:=by
    have h1:=HBX.out;have h2:=HLT.out;rw[aL _ _ _ _ (fun e=>by have e3:bx=rp:=e;omega)];rw[hgrow.block bx (by simp;omega) (fun e=>by have:=HSB.out bx e.symm;omega)];exact aG _ _ _ h1.2
   have HY:Hid (∀W:zW,W.heap[bx]?=(w5.setCell ⟨rp,5,none⟩ (.slice (some ⟨g,0,none⟩) (vs.length+1) cap)).heap[bx]?→W.cell? ⟨bx,0,none⟩=some (.string eJ)∧W.cell? ⟨bx,1,none⟩=some (zE)∧W.cell? ⟨bx,2,none⟩=some (.string v)∧W.cell? ⟨bx,3,none⟩=some (zE)):=fun W e=>by
    rw[hbb] at e;exact⟨by rw[aW (w:=W3) (a:=⟨bx,0,none⟩) e];exact x0,by rw[aW (w:=W3) (a:=⟨bx,1,none⟩) e];exact x1,by rw[aW (w:=W3) (a:=⟨bx,2,none⟩) e];exact x2,by rw[aW (w:=W3) (a:=⟨bx,3,none⟩) e];exact x3⟩
   have JZ:bx<(w5.setCell ⟨rp,5,none⟩ (.slice (some ⟨g,0,none⟩) (vs.length+1) cap)).heap.size:=by
    have h1:W3.heap.size+1≤w5.heap.size:=by have:=hgrow.size;simpa using this
    have h2:=HBX.out.2;simp[World.setCell];omega
   have HBX5:Hid (bx<(w5.setCell ⟨rp,5,none⟩ (.slice (some ⟨g,0,none⟩) (vs.length+1) cap)).heap.size∧bx≠mb):=⟨JZ,by have:=HLT.out;have:=HBX.out;omega⟩;clear hbb JZ x0 x1 x2 x3 c1 c1b c3 f3 hown hgrow hat Bg hnw hoe HF4 HNE HRa HR HSB HB4 HBX;go_upto_region 3 with fail;generalize w5.setCell ⟨rp,5,none⟩ (.slice (some ⟨g,0,none⟩) (vs.length+1) cap)=W5 at*;have c4:W5.cell? ⟨rp,4,none⟩=some (.map (some mb)):=HR5.out.fm;obtain⟨y0,y1,y2,y3⟩:=HY.out W5 rfl;have kc:∀W,zC 174 #[.agg #[.string eJ,zE,.string v,zE]] W fun e w'=>e=.returned (.agg #[.string eJ,zE,.string v])∧zB W w':=fun W=>oT _ _ v _ W (by kernel_rfl)
   have kst:∀W,zB W5 W→∃w7,(Instr.mapUpdate 148 (.map (some mb)) (.agg #[.string eJ,zE,.string v]) (zI ln)).run prog W=.ok () w7∧Hid (Rd w7 rp mb B sp (.slice (some ⟨g,0,none⟩) (vs.length+1) cap) (vs++[v]) (vs++[v]))∧Hid (Fr (Mine rp mb (.slice sa vs.length sc)) w w7)∧w7.heap[bx]?=W5.heap[bx]?:=fun W hb=>by
    have l:=HR5.out.lt;have e1:=hb.block rp (by omega);have e2:=hb.block mb (by omega);have r6:=HR5.out.of_block hb.size e1 e2 (fun b e=>hb.block b (HR5.out.own.lt b e).2);obtain⟨w7,h1,h2,h3⟩:=rf hln hn hv r6.said;refine⟨w7,h1,r6.put h3 (by rw[bg];exact h2),(HFr.out.trans (Fr.of_below hb)).trans (Fr.sw h3 (fun k e=>Or.inr (Or.inl (by injection e with e;exact e.symm)))),?_⟩;have h4:=HBX5.out;rw[h3.block bx (bI h4.1 hb.size) (fun e=>h4.2 (by injection e))];exact hb.block bx h4.1
   go_region_held3 (fun w'=>w'.cell? ⟨rp,4,none⟩=some (.map (some mb))∧w'.cell? ⟨bx,0,none⟩=some (.string eJ)∧w'.cell? ⟨bx,1,none⟩=some (zE)∧w'.cell? ⟨bx,2,none⟩=some (.string v)∧w'.cell? ⟨bx,3,none⟩=some (zE))
    (first|exact⟨c4,y0,y1,y2,y3⟩|exact⟨HR7.out.fm,HY.out _ EC⟩|exact⟨hc6,HY.out _ J0⟩)
    (first|(go_at_call 174;refine(kc _).mono ?_;rintro e w6 ⟨rfl,hb6⟩;have hbB:zB W5 w6:=(ae W5.heap.size W5).drew.trans hb6;have J0:w6.heap[bx]?=W5.heap[bx]?:=hbB.block bx HBX5.out.1;have hc6:w6.cell? ⟨rp,4,none⟩=some (.map (some mb)):=(hbB.cell (p:=⟨rp,4,none⟩) (aU W5 _ c4)).trans c4;obtain⟨w7,hrun,HR7,HF7,EC⟩:=kst w6 hbB;clear hb6))
   all_goals
    obtain⟨z0,z1,z2,z3⟩:=HY.out _ EC;clear HFr kst kc hrun y0 y1 y2 y3 c4 hc6 hbB J0 EC HY HR5;go_wp2;exact im (v:=.tuple #[]) (by simp[results,results125,go_sem]) rfl ⟨_,rfl,HR7.out,HF7.out,HAt.out⟩
