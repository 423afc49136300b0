import Derived.Test.YtelmkfkgpnadnaaGreatDoorKFA
import Derived.Test.YtelmkfkgpnadnaaGreatDoorKIA
import Derived.Maps.OwnSet
import Derived.DeepKeys4
import Derived.Deep.RegionHeldLaw
import Derived.Deep.RegionLaw
import Derived.Deep.AppendLies
set_option linter.unusedSimpArgs false
open Go.Proofs.Tryz
set_option maxRecDepth 100000
set_option maxHeartbeats 4000000
namespace Go.Proofs.YtelmkfkgpnadnaaGreatDoor
open Go.RowKit
section
variable{w w':World}
def cQ(W:World)(rp sp:Nat):Prop:=
 W.cell? ⟨rp,0,none⟩=some (.func (.func 165) #[] #[])∧W.cell? ⟨rp,1,none⟩=some (.string ⟨#[]⟩)∧W.cell? ⟨rp,2,none⟩=some (.int .i64 sp)∧W.cell? ⟨rp,3,none⟩=some (.int .i64 0)
theorem cQ.below{rp sp:Nat}(h:cQ w rp sp)(hb:Below w.heap.size w w'):cQ w' rp sp:=by
 have h1:=aT w _ h.1;exact⟨by rw[hb.cell (p:=⟨rp,0,none⟩) h1];exact h.1,by rw[hb.cell (p:=⟨rp,1,none⟩) h1];exact h.2.1,by rw[hb.cell (p:=⟨rp,2,none⟩) h1];exact h.2.2.1,by rw[hb.cell (p:=⟨rp,3,none⟩) h1];exact h.2.2.2⟩
def cB(W:World)(b a0:Nat)(x0:ByteArray):Prop:=W.cell? ⟨b,0,none⟩=some (.int .i64 a0)∧W.cell? ⟨b,1,none⟩=some (.string x0)
theorem cB.below{b a0:Nat}{x0:ByteArray}(h:cB w b a0 x0)(hb:Below w.heap.size w w'):cB w' b a0 x0:=by
 have h1:=aT w _ h.1;exact⟨by rw[hb.cell (p:=⟨b,0,none⟩) h1];exact h.1,by rw[hb.cell (p:=⟨b,1,none⟩) h1];exact h.2⟩
theorem below_drewN{B q:Nat}{a:World}(h:Below B a w):Below B a (w.drewN q):=⟨h.os,h.tape,h.output,h.size,h.block⟩
theorem gj(W:World)(a0:Nat)(x0:ByteArray)(t:TypeId):cB (W.alloc (.cells #[.int .i64 a0,.string x0] t)) W.heap.size a0 x0:=by
 have b0:=iq W (.cells #[.int .i64 a0,.string x0] t);exact⟨by simp only[World.cell?,b0];rfl,by simp only[World.cell?,b0];rfl⟩
theorem Aw(rp sp wb n wc k a0:Nat)(x0:ByteArray)(w:World)(hn:0<n)(hr:cQ w rp sp)(hw:cB w wb a0 x0)(hx:(x0.toList==[118,101,114,115,105,111,110])=false)(hk:k=2∨k=3):
  Calls prog 124 #[.pointer (some ⟨rp,0,none⟩),.int .i64 k,.slice (some ⟨wb,0,none⟩) n wc] w fun e w'=>e=.returned (.int .i64 (if k=2 then -1 else (a0:Int)))∧Below w.heap.size w w':=by
 have hnI:(0:Int)<(n:Int):=by omega
 have hc:∀(args:Array Value)(w:World),(callFunc 165 args).run prog w=.ok (.enter 165 args) w:=fun _ _=>by kernel_rfl
 have kI:∀W,_:=fun W=>xz x0 W hx
 have HR:Hid (cQ w rp sp):=hr;obtain⟨c0,c1⟩:=hw;clear hr;go_enter func124,ntmps124;go_upto_region 2 with fail;have HB1:Hid (Below w.heap.size w (w.alloc (.cells #[.int .i64 a0,.string x0] 274))):=(ae _ _).alloc (ag _) _;have HR1:Hid (cQ (w.alloc (.cells #[.int .i64 a0,.string x0] 274)) rp sp):=HR.out.below HB1.out;have HX1:Hid (cB (w.alloc (.cells #[.int .i64 a0,.string x0] 274)) w.heap.size a0 x0):=gj w a0 x0 274;clear c0 c1;generalize w.alloc (.cells #[.int .i64 a0,.string x0] 274)=W1 at*;obtain⟨b0,b2,b3,b4⟩:=HR1.out;obtain⟨b5,b1⟩:=HX1.out
 go_region_held3 (fun w'=>w'.cell? ⟨rp,0,none⟩=some (.func (.func 165) #[] #[])∧w'.cell? ⟨w.heap.size,1,none⟩=some (.string x0))
   (first|exact⟨b0,b1⟩)
   (first|(go_at_call 165;refine(kI _).mono ?_;rintro e w2 ⟨rfl,rfl⟩))
 all_goals
  rcases hk with rfl|rfl
  ·go_upto_region 6 with fail
   go_quiet (fail);go_wp2;go_ret;exact⟨rfl,below_drewN HB1.out⟩
  ·go_wp2
   go_ret;exact⟨rfl,HB1.out.drew⟩
theorem zg(W:World):KAt (W.alloc (.cells #[.int .i64 6] 3)) W.heap.size [6]:=by
 have b0:=iq W (.cells #[.int .i64 6] 3);refine⟨by simp,fun j hj=>?_⟩;have e:j=0:=by simp at hj;exact hj
 subst e;simp only[World.cell?,b0];rfl
def KU(w:World)(wb n wc k:Nat)(z:Int):Prop:=
 (k=2∧z=-1)∨(k=3∧z=-1)∨(k=9∧z=-1)∨
 (k=4∧∀W p,Below w.heap.size w W→Calls prog 171 #[.slice (some ⟨p,0,none⟩) 1 1,.slice (some ⟨wb,0,none⟩) n wc] W fun e w'=>e=.returned (.int .i64 z)∧Below W.heap.size W w')∨
 ((k=5∨k=6∨k=7)∧n=2∧2≤wc∧∀W p,Below w.heap.size w W→KAt W p [6]→Calls prog 172 #[.int .i64 k,.slice (some ⟨p,0,none⟩) 1 1,.slice (some ⟨wb,2,none⟩) 1 (wc-1)] W fun e w'=>e=.returned (.int .i64 z)∧Below W.heap.size W w')
theorem zh(rp sp wb n wc k a0:Nat)(z:Int)(w:World)(hn:0<n)(hr:cQ w rp sp)(hw:cB w wb a0 ⟨#[118,101,114,115,105,111,110]⟩)(hk:KU w wb n wc k z):
  Calls prog 124 #[.pointer (some ⟨rp,0,none⟩),.int .i64 k,.slice (some ⟨wb,0,none⟩) n wc] w fun e w'=>e=.returned (.int .i64 z)∧Below w.heap.size w w':=by
 have HK:Hid (KU w wb n wc k z):=hk;clear hk;have hnI:(0:Int)<(n:Int):=by omega
 have hc:∀(args:Array Value)(w:World),(callFunc 165 args).run prog w=.ok (.enter 165 args) w:=fun _ _=>by kernel_rfl
 have kI:∀W,_:=fun W=>jz W
 have HR:Hid (cQ w rp sp):=hr;obtain⟨c0,c1⟩:=hw;clear hr;go_enter func124,ntmps124;go_upto_region 2 with fail;have HB1:Hid (Below w.heap.size w (w.alloc (.cells #[.int .i64 a0,.string ⟨#[118,101,114,115,105,111,110]⟩] 274))):=(ae _ _).alloc (ag _) _;have HR1:Hid (cQ (w.alloc (.cells #[.int .i64 a0,.string ⟨#[118,101,114,115,105,111,110]⟩] 274)) rp sp):=HR.out.below HB1.out;have HX1:Hid (cB (w.alloc (.cells #[.int .i64 a0,.string ⟨#[118,101,114,115,105,111,110]⟩] 274)) w.heap.size a0 ⟨#[118,101,114,115,105,111,110]⟩):=gj w a0 ⟨#[118,101,114,115,105,111,110]⟩ 274;clear c0 c1;generalize w.alloc (.cells #[.int .i64 a0,.string ⟨#[118,101,114,115,105,111,110]⟩] 274)=W1 at*;obtain⟨b0,b2,b3,b4⟩:=HR1.out;obtain⟨b5,b1⟩:=HX1.out;have HA1:∀W,Below W1.heap.size W1 W→cQ W rp sp∧cB W w.heap.size a0 ⟨#[118,101,114,115,105,111,110]⟩:=fun W hb=>⟨HR1.out.below hb,HX1.out.below hb⟩
 have hbA:Below W1.heap.size W1 (W1.alloc (.cells #[.int .i64 6] 3)).drew:=(aA (ae _ _) _).drew;have HKA:Hid (KAt (W1.alloc (.cells #[.int .i64 6] 3)).drew W1.heap.size [6]):=zg W1;obtain⟨⟨d0,d2,d3,d4⟩,d5,d1⟩:=HA1 _ hbA;have HBA:Hid (Below w.heap.size w (W1.alloc (.cells #[.int .i64 6] 3)).drew):=HB1.out.trans (hbA.mono HB1.out.size);clear HA1 hbA
 go_region_held3 (fun w'=>w'.cell? ⟨rp,0,none⟩=some (.func (.func 165) #[] #[])∧w'.cell? ⟨w.heap.size,1,none⟩=some (.string ⟨#[118,101,114,115,105,111,110]⟩))
   (first|exact⟨b0,b1⟩|exact⟨d0,d1⟩)
   (first|(go_at_call 165;refine(kI _).mono ?_;rintro e w2 ⟨rfl,rfl⟩))
 all_goals
  clear b0 b1 b2 b3 b4 b5;generalize (W1.alloc (.cells #[.int .i64 6] 3)).drew=W2 at*;rcases HK.out with⟨rfl,rfl⟩|⟨rfl,rfl⟩|⟨rfl,rfl⟩|⟨rfl,km⟩|⟨hk,rfl,hwc,km⟩
  ·go_upto_region 6 with fail
   go_quiet (fail);go_wp2;go_ret;exact⟨rfl,below_drewN HBA.out⟩
  ·go_wp2
   go_ret;exact⟨rfl,HBA.out⟩
  ·go_wp2
   go_ret;exact⟨rfl,HBA.out⟩
  ·have km:=fun p=>km W2 p HBA.out
   go_wp2_with (go_at_call 171;fail)
   go_at_call 171;refine(km _).mono ?_;rintro e w3 ⟨rfl,hb⟩;have HB3:Hid (Below w.heap.size w w3):=HBA.out.trans (hb.mono HBA.out.size);clear hb km;go_wp2;go_ret;exact⟨rfl,HB3.out⟩
  ·have km:=km W2 _ HBA.out HKA.out
   rcases hk with rfl|rfl|rfl
   all_goals
    first
     |rw[show((5:Nat):Int)=5 from rfl] at km
     |rw[show((6:Nat):Int)=6 from rfl] at km
     |rw[show((7:Nat):Int)=7 from rfl] at km
    go_wp2_with (go_at_call 172;fail)
    go_at_call 172;refine km.mono ?_;rintro e w3 ⟨rfl,hb⟩;have HB3:Hid (Below w.heap.size w w3):=HBA.out.trans (hb.mono HBA.out.size);clear hb km;go_wp2;go_ret;exact⟨rfl,HB3.out⟩
end
section
variable{w w':World}
theorem CQ(p k:Nat)(wv:Value)(w:World)(hk:k=5∨k=7)(hP:w.cell? ⟨p,0,none⟩=some (.int .i64 6)):
  Calls prog 172 #[.int .i64 k,.slice (some ⟨p,0,none⟩) 1 1,wv] w fun e w'=>e=.returned (.int .i64 (-1))∧Below w.heap.size w w':=by
 have hz:∀q:Nat,(((6:Nat):Int)==(k:Int))=false:=fun _=>by rcases hk with rfl|rfl<;>rfl
 have hz1:((6:Int)==(k:Int))=false:=hz 0;clear hz;go_enter func172,ntmps172;go_wp2;go_loopg [11] 1 (fun gg f wr=>∃j:Nat,j≤1∧1-j≤gg∧f=.int .i64 j∧wr=w)
 case atStart=>exact⟨0,by omega,by omega,rfl,rfl⟩
 case round=>
  obtain⟨j,hj,hg,rfl,hw⟩:=hrel;subst hw;rcases(by omega:j=0∨j=1) with rfl|rfl
  ·go_wp2
   go_roundg 0
   case measure=>omega
   case rel=>exact⟨1,by omega,by omega,rfl,rfl⟩
  ·go_wp2
   go_ret;exact⟨rfl,ae _ _⟩
theorem getD_at{l:List (Nat×ByteArray)}{j:Nat}(h:j<l.length):l.getD j pad=l[j]:=by
 simp[List.getD,bg h]
def gG(l:List (Nat×ByteArray))(k:Nat):Int:=
 if k=4 then (if 2<l.length then ((l.getD 2 pad).1:Int) else if l.length<2 then ((l.getD 0 pad).1:Int)+((l.getD 0 pad).2.size:Int) else -1)
 else if k=6 then (if (Pv.parse (l.getD 1 pad).2.data.toList).isSome then -1 else ((l.getD 1 pad).1:Int))
 else -1
theorem CR{wb wc:Nat}{l:List (Nat×ByteArray)}(hW:WAt w wb 0 l)(hne:0<l.length)(hs:∀x∈l,x.1≤4000∧x.2.size≤4000):KU w wb l.length wc 4 (gG l 4):=by
 refine Or.inr (Or.inr (Or.inr (Or.inl ⟨rfl,fun W p hb=>?_⟩)));have hW':=hW.below hb;unfold gG;rw[ai rfl];by_cases h2:2<l.length
 ·rw[ai h2]
  refine(px (some ⟨p,0,none⟩) wb 0 1 1 l.length wc ((l.getD 2 pad).1:Int) W (by omega) (by omega) ?_).mono ?_
  ·have h:=(hW'.2 2 h2).1
   rw[getD_at h2];exact h
  ·rintro e w' ⟨rfl,rfl⟩
   exact⟨rfl,ae _ _⟩
 ·rw[af h2]
  by_cases h1:l.length<2
  ·rw[ai h1]
   have hx:=hs _ (cH hne);have hg:l.getD 0 pad=l[0]:=getD_at hne;rw[hg];have h0:l.length-1=0:=by omega
   refine(qQ (some ⟨p,0,none⟩) wb 0 1 1 l.length wc l[0].1 l[0].2 W (by omega) (by omega) (by omega) hx.1 hx.2 ?_ ?_).mono ?_
   ·rw[h0];exact(hW'.2 0 hne).1
   ·rw[h0];exact(hW'.2 0 hne).2
   ·rintro e w' ⟨rfl,h⟩
    exact⟨rfl,h⟩
  ·rw[af h1]
   have h0:l.length=1+1:=by omega
   rw[h0];refine(po (some ⟨p,0,none⟩) (some ⟨wb,0,none⟩) 1 1 wc W (by omega)).mono ?_;rintro e w' ⟨rfl,rfl⟩;exact⟨rfl,ae _ _⟩
theorem nI{wb wc k:Nat}{l:List (Nat×ByteArray)}(hm:Ml w)(hW:WAt w wb 0 l)(h2:l.length=2)(hc:2≤wc)(hk:k=5∨k=6∨k=7):KU w wb l.length wc k (gG l k):=by
 refine Or.inr (Or.inr (Or.inr (Or.inr ⟨hk,h2,hc,fun W p hb hP=>?_⟩)))
 have hoff:∀k:Nat,k=5∨k=7→Calls prog 172 #[.int .i64 k,.slice (some ⟨p,0,none⟩) 1 1,.slice (some ⟨wb,2,none⟩) 1 (wc-1)] W fun e w'=>e=.returned (.int .i64 (gG l k))∧Below W.heap.size W w':=fun k hk=>by
  have e:gG l k=-1:=by rcases hk with rfl|rfl<;>rfl
  rw[e];exact CQ p k _ W hk (hP.2 0 (by simp))
 rcases hk with rfl|rfl|rfl
 ·exact hoff 5 (Or.inl rfl)
 ·have hW':=hW.below hb
  have h1:1<l.length:=by omega
  have hW1:WAt W wb 2 [l[1]]:=⟨hW'.1,fun j hj=>by
   have e:j=0:=by simp at hj;exact hj
   subst e;exact hW'.2 1 h1⟩
  refine(vp ipF 6 p wb 2 1 1 1 (wc-1) [6] [l[1]] W (by omega) rfl rfl (by omega) (by omega) hP hW1 ?_).mono ?_
  ·intro j hj W' hb'
   exact qR ipF _ W' ((hm.below hb).below hb')
  ·rintro e w' ⟨rfl,h⟩
   refine⟨?_,h⟩;have hg:l.getD 1 pad=l[1]:=getD_at h1;unfold gG;rw[af (by decide),ai rfl,hg];have hfit:Tx.fit ipF 6 l[1].2.data.toList=(Pv.parse l[1].2.data.toList).isSome:=rfl;simp only[aC,bG,ft,Tx.misfit,hfit];cases (Pv.parse l[1].2.data.toList).isSome<;>simp[Au]
 ·exact hoff 7 (Or.inr rfl)
end
section
variable{w w':World}
theorem Hn:laidOutB prog=true:=by kernel_rfl
theorem Nq:(280:TypeId)<prog.types.size:=ik (by kernel_rfl)
theorem KV:(match prog.underlying 280 with|some (.array _ _)|some (.struct _)=>true|_=>false)=true:=by kernel_rfl
theorem KW:prog.keyTypeAt 3 280=true:=by kernel_rfl
theorem Ho:prog.keyType 280=true:=by kernel_rfl
theorem KY:prog.types.size=466:=by kernel_rfl
theorem Ax:prog.cellsOf 280=3:=by kernel_rfl
theorem Nr:prog.cellsOf 9=1:=by kernel_rfl
theorem Ns:WideMaps.KeyLaw prog 280:=deep_law_laid Hn (m:=3) (Nat.le_of_ble_eq_true rfl) Nq KW KV
theorem iJ:Maps.Keyed prog 280:=Maps.Keyed.of_law Ns
end
section
variable{w w':World}
theorem vq(d:Nat)(s:ByteArray)(h:s.size≤maxLen):prog.keyLits (d+1) 9 [.string s]=some [.string s.data.toList]:=by
 unfold Program.keyLits;rw[underlying9];show(if s.size≤maxLen then some [Lit.string s.data.toList] else none)=_;rw[ai h]
theorem x7(f p v:ByteArray)(hf:f.size≤maxLen)(hp:p.size≤maxLen)(hv:v.size≤maxLen):∃l,keyOf prog 280 (.agg #[.string f,.string p,.string v])=some l:=by
 have h1:prog.keyLits (prog.types.size+1) 280 [.string f,.string p,.string v]=some [.string f.data.toList,.string p.data.toList,.string v.data.toList]:=by
  rw[KY];unfold Program.keyLits;rw[underlying280];simp only[Ax,bS,il];rw[ai ⟨trivial,by kernel_rfl⟩];simp only[List.mapM_cons,List.mapM_nil,Nr,List.drop,List.take,vq 465 f hf,vq 465 p hp,vq 465 v hv]
  rfl
 refine⟨.string (keyBytes [.string f.data.toList,.string p.data.toList,.string v.data.toList]),?_⟩;unfold keyOf;rw[underlying280];show(if (prog.keyType 280&&(Value.agg #[.string f,.string p,.string v]).formed prog 280)=true then (prog.keyLits (prog.types.size+1) 280 [.string f,.string p,.string v]).map (fun ls=>Lit.string (keyBytes ls)) else none)=_;rw[Ho,h1];rw[ai (by simp[Value.formed,underlying280,Ax])]
 rfl
def jA(v:ByteArray)(l:Lit):Prop:=keyOf prog 280 (.agg #[.string ⟨#[118,101,114,115,105,111,110]⟩,.string ⟨#[]⟩,.string v])=some l
theorem qT(v:ByteArray)(hv:v.size≤maxLen):∃l,jA v l:=x7 _ _ v (by decide) (by decide) hv
theorem zj{v u:ByteArray}{l:Lit}(h:jA v l)(h':jA u l):v=u:=by
 have h2:=iJ.inj h h';simp only[Value.agg.injEq,Array.mk.injEq,eE,Value.string.injEq,true_and,fy] at h2;exact h2
def SaidAt(W:World)(b n:Nat)(vs:List ByteArray):Prop:=
 ∃D:DataW Unit,W.ownsMap prog 280 (plainElem prog 3) b n D∧Maps.IsMap D∧∀v l,jA v l→Maps.has D l=vs.any (fun x=>decide (x=v))
theorem SaidAt.put{W:World}{b m:Nat}{vs:List ByteArray}{D:DataW Unit}{v:ByteArray}{l:Lit}{d:DataW Unit}(hD:Maps.IsMap D)(hs:∀v l,jA v l→Maps.has D l=vs.any (fun x=>decide (x=v)))(hk:jA v l)
  (ho:W.ownsMap prog 280 (plainElem prog 3) b m (D.put l d)) (hD':Maps.IsMap (D.put l d)):SaidAt W b m (vs++[v]):=by
 refine⟨_,ho,hD',fun u l' hu=>?_⟩;rw[List.any_append];by_cases e:l'=l
 ·subst e
  have e2:=zj hk hu;subst e2;rw[Maps.has_put_same hD (iJ.key hk)];simp
 ·rw[Maps.has_put_other e,hs u l' hu]
  have e2:v≠u:=fun e2=>by
   subst e2;have h3:some l'=some l:=hu.symm.trans hk;exact e (by injection h3)
  simp[e2]
end
section
variable{w w':World}
theorem Hp(w:World):(zeroValue 3).run prog w=.ok (.int .i64 0) w:=by kernel_rfl
theorem zk(rp sp wb wc a0 mb mn:Nat)(v:ByteArray)(vs:List ByteArray)(w:World)(hv:v.size≤2000)(hm:w.cell? ⟨rp,4,none⟩=some (.map (some mb)))(hS:SaidAt w mb mn vs)(h3:w.cell? ⟨wb,3,none⟩=some (.string v))(hr:cQ w rp sp)(hw:cB w wb a0 ⟨#[118,101,114,115,105,111,110]⟩):
  Calls prog 124 #[.pointer (some ⟨rp,0,none⟩),.int .i64 8,.slice (some ⟨wb,0,none⟩) 2 wc] w fun e w'=>e=.returned (.int .i64 (if vs.any (fun x=>decide (x=v)) then (a0:Int) else -1))∧Below w.heap.size w w':=by
 obtain⟨l,hl⟩:=qT v (by unfold maxLen;omega);obtain⟨D,hown,_,hhas⟩:=hS;have HD:Hid (Maps.has D l=vs.any (fun x=>decide (x=v))):=hhas v l hl;clear hhas;generalize vs.any (fun x=>decide (x=v))=dd at HD ⊢;have HO:Hid (∃es clock,w.heap[mb]?=some (.map es clock)):=by obtain⟨es,cl,h,_⟩:=hown;exact⟨es,cl,h⟩
 have hmb:mb<w.heap.size:=by
  obtain⟨es,cl,h⟩:=HO.out;exact(mK.1 h).1
 have HOw:Hid (∀W,Below w.heap.size w W→W.ownsMap prog 280 (plainElem prog 3) mb mn D):=fun W hb=>by
  obtain⟨es,cl,h,rest⟩:=hown;exact⟨es,cl,(hb.block mb hmb).trans h,rest⟩
 have hrl:=aT w _ hm;have hwl:=aT w _ h3;have HM4:Hid (∀W,Below w.heap.size w W→W.cell? ⟨rp,4,none⟩=some (.map (some mb))∧W.cell? ⟨wb,3,none⟩=some (.string v)∧W.cell? ⟨wb,1,none⟩=some (.string ⟨#[118,101,114,115,105,111,110]⟩)):=fun W hb=>⟨by rw[hb.cell (p:=⟨rp,4,none⟩) hrl];exact hm,by rw[hb.cell (p:=⟨wb,3,none⟩) hwl];exact h3,by rw[hb.cell (p:=⟨wb,1,none⟩) hwl];exact hw.2⟩
 have HL:Hid (jA v l):=hl;clear hm h3 hown hl HO;have hc:∀(args:Array Value)(w:World),(callFunc 165 args).run prog w=.ok (.enter 165 args) w:=fun _ _=>by kernel_rfl
 have kI:∀W,_:=fun W=>jz W
 have HR:Hid (cQ w rp sp):=hr;obtain⟨c0,c1⟩:=hw;clear hr;go_enter func124,ntmps124;go_upto_region 2 with fail;have HB1:Hid (Below w.heap.size w (w.alloc (.cells #[.int .i64 a0,.string ⟨#[118,101,114,115,105,111,110]⟩] 274))):=(ae _ _).alloc (ag _) _;have HR1:Hid (cQ (w.alloc (.cells #[.int .i64 a0,.string ⟨#[118,101,114,115,105,111,110]⟩] 274)) rp sp):=HR.out.below HB1.out;have HX1:Hid (cB (w.alloc (.cells #[.int .i64 a0,.string ⟨#[118,101,114,115,105,111,110]⟩] 274)) w.heap.size a0 ⟨#[118,101,114,115,105,111,110]⟩):=gj w a0 ⟨#[118,101,114,115,105,111,110]⟩ 274;clear c0 c1;generalize w.alloc (.cells #[.int .i64 a0,.string ⟨#[118,101,114,115,105,111,110]⟩] 274)=W1 at*;obtain⟨b0,b2,b3,b4⟩:=HR1.out;obtain⟨b5,b1⟩:=HX1.out;have HA1:∀W,Below W1.heap.size W1 W→cQ W rp sp∧cB W w.heap.size a0 ⟨#[118,101,114,115,105,111,110]⟩:=fun W hb=>⟨HR1.out.below hb,HX1.out.below hb⟩
 have hbA:Below W1.heap.size W1 (W1.alloc (.cells #[.int .i64 6] 3)).drew:=(aA (ae _ _) _).drew;have HKA:Hid (KAt (W1.alloc (.cells #[.int .i64 6] 3)).drew W1.heap.size [6]):=zg W1;obtain⟨⟨d0,d2,d3,d4⟩,d5,d1⟩:=HA1 _ hbA;have HBA:Hid (Below w.heap.size w (W1.alloc (.cells #[.int .i64 6] 3)).drew):=HB1.out.trans (hbA.mono HB1.out.size);clear HA1 hbA
 go_region_held3 (fun w'=>w'.cell? ⟨rp,0,none⟩=some (.func (.func 165) #[] #[])∧w'.cell? ⟨w.heap.size,1,none⟩=some (.string ⟨#[118,101,114,115,105,111,110]⟩))
   (first|exact⟨b0,b1⟩|exact⟨d0,d1⟩)
   (first|(go_at_call 165;refine(kI _).mono ?_;rintro e w2 ⟨rfl,rfl⟩))
 all_goals
  clear b0 b1 b2 b3 b4 b5;obtain⟨e4,e5,e6⟩:=HM4.out _ HBA.out;have hsz:Below (W1.alloc (.cells #[.int .i64 6] 3)).drew.heap.size (W1.alloc (.cells #[.int .i64 6] 3)).drew (W1.alloc (.cells #[.int .i64 6] 3)).drew:=ae _ _;generalize (W1.alloc (.cells #[.int .i64 6] 3)).drew=W2 at*;go_upto_region 16 with fail;have HBd:Hid (∀W,Below W2.heap.size W2 W→Below w.heap.size w W):=fun W hb=>HBA.out.trans (hb.mono HBA.out.size)
  have ks:∀W,Below W2.heap.size W2 W→Calls prog 173 #[.slice (some ⟨W1.heap.size,0,none⟩) 1 1,.slice (some ⟨wb,0,none⟩) 2 wc] W fun e w'=>e=.returned (.agg #[.string ⟨#[118,101,114,115,105,111,110]⟩,.string ⟨#[]⟩,.string v,.string ⟨#[]⟩])∧Below W.heap.size W w':=fun W hb=>by
   obtain⟨f4,f5,f6⟩:=HM4.out W (HBd.out W hb);have hka:=HKA.out.below hb;exact jO W1.heap.size wb 0 2 wc _ v W (by omega) (by omega) hka.1 (aT W _ f5) (hka.2 0 (by simp)) f6 f5
  have kc:∀W,Calls prog 174 #[.agg #[.string ⟨#[118,101,114,115,105,111,110]⟩,.string ⟨#[]⟩,.string v,.string ⟨#[]⟩]] W fun e w'=>e=.returned (.agg #[.string ⟨#[118,101,114,115,105,111,110]⟩,.string ⟨#[]⟩,.string v])∧Below W.heap.size W w':=fun W=>nH _ _ v _ W (by kernel_rfl)
  have qN:∀W,Below W2.heap.size W2 W→W.ownsMap prog 280 (plainElem prog 3) mb mn D:=fun W hb=>HOw.out W (HBd.out W hb)
  have Ay:∀W,Below W2.heap.size W2 W→∃c:Int,(Instr.lookup 148 (.map (some mb)) (.agg #[.string ⟨#[118,101,114,115,105,111,110]⟩,.string ⟨#[]⟩,.string v]) true).run prog W=.ok (.tuple #[.int .i64 c,.bool (Maps.has D l)]) W:=fun W hb=>by
   obtain⟨v0,ps,hrun,hv0⟩:=(qN W hb).look_ok iJ underlying148 (Hp W) (plainElem_int underlying3 (by decide)) HL.out;obtain⟨c,rfl,_,_⟩:=plainElem_int_inv underlying3 hv0;exact⟨c,hrun⟩
  have hcell:∀W,Below W2.heap.size W2 W→W.cell? ⟨rp,4,none⟩=some (.map (some mb)):=fun W hb=>(HM4.out W (HBd.out W hb)).1
  clear HM4 e5 e6 kI HOw qN
  go_region_held3 (fun w'=>w'.cell? ⟨rp,4,none⟩=some (.map (some mb)))
    (first|exact e4|exact hcell _ hbB|exact hcell _ hbA|exact hcell _ ((ae _ _).drew))
    (first
     |(go_at_call 173;refine(ks _ ((ae _ _).drew)).mono ?_;rintro e w3 ⟨rfl,hb3⟩;have hbA:Below W2.heap.size W2 w3:=(ae W2.heap.size W2).drew.trans hb3;clear hb3)
     |(go_at_call 174;refine(kc _).mono ?_;rintro e w4 ⟨rfl,hb4⟩;have hbB:Below W2.heap.size W2 w4:=hbA.trans (hb4.mono hbA.size);obtain⟨cL,hrun⟩:=Ay _ hbB;clear hb4))
  all_goals
   have d6:w4.cell? ⟨w.heap.size,0,none⟩=some (.int .i64 a0):=by
    rw[hbB.cell (p:=⟨w.heap.size,0,none⟩) (aT W2 _ d5)];exact d5
   have HE:Hid (Below w.heap.size w w4):=HBd.out _ hbB;clear Ay hcell ks kc d0 d1 d2 d3 d4 d5 hrun hbA hbB e4;rw[HD.out];clear HD;cases dd
   ·go_wp2
    go_ret;exact⟨rfl,HE.out⟩
   ·go_wp2
    go_ret;exact⟨rfl,HE.out⟩
end
section
variable{w w':World}
abbrev ee:ByteArray:=⟨#[118,101,114,115,105,111,110]⟩
def bP(vs:List ByteArray):List Value:=vs.flatMap fun v=>[.string ee,.string ⟨#[]⟩,.string v,.string ⟨#[]⟩]
theorem lQ(vs:List ByteArray)(v:ByteArray):bP (vs++[v])=bP vs++[.string ee,.string ⟨#[]⟩,.string v,.string ⟨#[]⟩]:=by simp[bP]
theorem Ej:∃i,prog.info? 155=some i∧i.zero=some (.agg #[.string ByteArray.empty,.string ByteArray.empty,.string ByteArray.empty,.string ByteArray.empty])∧i.size=4∧i.bytes=64:=by
 have h:(prog.info? 155).map (fun i=>(i.zero,i.size,i.bytes))=some (some (.agg #[.string ByteArray.empty,.string ByteArray.empty,.string ByteArray.empty,.string ByteArray.empty]),4,64):=by kernel_rfl
 rw[pI] at h;obtain⟨i,h1,h2⟩:=h;simp only[im] at h2;exact⟨i,h1,h2.1,h2.2.1,h2.2.2⟩
def Fld(W:World)(b o:Nat)(v:Value):Prop:=W.cell? ⟨b,o,none⟩=some v∧W.frozen? ⟨b,o,none⟩=false
theorem Fld.of_block{W W':World}{b o:Nat}{v:Value}(h:Fld W b o v)(e:W'.heap[b]?=W.heap[b]?):Fld W' b o v:=
 ⟨by rw[aV (w:=W) (a:=⟨b,o,none⟩) e];exact h.1,by rw[fE (w:=W) (a:=⟨b,o,none⟩) e];exact h.2⟩
structure Rd(W:World)(rp mb B sp:Nat)(sv:Value)(vs us:List ByteArray):Prop where
 rd:cQ W rp sp
 f2:W.frozen? ⟨rp,2,none⟩=false
 fm:W.cell? ⟨rp,4,none⟩=some (.map (some mb))
 fs:Fld W rp 5 sv
 lt:rp<B∧mb<B∧B≤W.heap.size∧rp≠mb
 own:W.ownsRow B 155 4 sv vs.length (bP vs)
 said:SaidAt W mb us.length us
theorem SaidAt.of_block{W W':World}{b n:Nat}{vs:List ByteArray}(h:SaidAt W b n vs)(e:W'.heap[b]?=W.heap[b]?):SaidAt W' b n vs:=by
 obtain⟨D,⟨es,cl,h1,rest⟩,h2⟩:=h;exact⟨D,⟨es,cl,e.trans h1,rest⟩,h2⟩
theorem cQ.of_block{W W':World}{rp sp:Nat}(h:cQ W rp sp)(e:W'.heap[rp]?=W.heap[rp]?):cQ W' rp sp:=
 ⟨by rw[aV (w:=W) (a:=⟨rp,0,none⟩) e];exact h.1,by rw[aV (w:=W) (a:=⟨rp,1,none⟩) e];exact h.2.1,by rw[aV (w:=W) (a:=⟨rp,2,none⟩) e];exact h.2.2.1,by rw[aV (w:=W) (a:=⟨rp,3,none⟩) e];exact h.2.2.2⟩
theorem Rd.of_block{W W':World}{rp mb B sp:Nat}{sv:Value}{vs us:List ByteArray}(h:Rd W rp mb B sp sv vs us)(hs:W.heap.size≤W'.heap.size)(e1:W'.heap[rp]?=W.heap[rp]?)(e2:W'.heap[mb]?=W.heap[mb]?)(e3:∀b,sv.ownBlock=some b→W'.heap[b]?=W.heap[b]?):Rd W' rp mb B sp sv vs us:=
 ⟨h.rd.of_block e1,by rw[fE (w:=W) (a:=⟨rp,2,none⟩) e1];exact h.f2,by rw[aV (w:=W) (a:=⟨rp,4,none⟩) e1];exact h.fm,h.fs.of_block e1,⟨h.lt.1,h.lt.2.1,aO h.lt.2.2.1 hs,h.lt.2.2.2⟩,ar h.own e3,h.said.of_block e2⟩
theorem Rd.grown{W W':World}{rp mb B sp:Nat}{sv sv':Value}{vs us:List ByteArray}{v:ByteArray}(h:Rd W rp mb B sp sv vs us)(hg:W.grownBy W' sv.ownBlock)(ho:W'.ownsRow B 155 4 sv' (vs.length+1) (bP vs++[.string ee,.string ⟨#[]⟩,.string v,.string ⟨#[]⟩])):Rd (W'.setCell ⟨rp,5,none⟩ sv') rp mb B sp sv' (vs++[v]) us:=by
 have hrl:rp<W.heap.size:=bH h.lt.1 h.lt.2.2.1;have hml:mb<W.heap.size:=bH h.lt.2.1 h.lt.2.2.1;have n1:some rp≠sv.ownBlock:=fun e=>by have h1:=(h.own.lt rp e.symm).1;have:=h.lt.1;omega
 have n2:some mb≠sv.ownBlock:=fun e=>by have h1:=(h.own.lt mb e.symm).1;have:=h.lt.2.1;omega
 have e1:=hg.block rp hrl n1;have e2:=hg.block mb hml n2;have r:=h.rd.of_block e1;have c4:W'.cell? ⟨rp,4,none⟩=some (.map (some mb)):=by rw[aV (w:=W) (a:=⟨rp,4,none⟩) e1];exact h.fm
 have f5:=h.fs.of_block e1;have hf2:W'.frozen? ⟨rp,2,none⟩=false:=by rw[fE (w:=W) (a:=⟨rp,2,none⟩) e1];exact h.f2
 have hne:∀j,j≠5→(⟨rp,5,none⟩:Addr)≠⟨rp,j,none⟩:=fun j hj e=>by injection e with _ e;exact hj e.symm
 have Az:(W'.setCell ⟨rp,5,none⟩ sv').heap.size=W'.heap.size:=by simp[World.setCell]
 refine⟨⟨?_,?_,?_,?_⟩,?_,?_,⟨gM _ _ _ f5.1,?_⟩,⟨h.lt.1,h.lt.2.1,?_,h.lt.2.2.2⟩,?_,?_⟩
 ·rw[cg _ _ _ _ (hne 0 (by decide))];exact r.1
 ·rw[cg _ _ _ _ (hne 1 (by decide))];exact r.2.1
 ·rw[cg _ _ _ _ (hne 2 (by decide))];exact r.2.2.1
 ·rw[cg _ _ _ _ (hne 3 (by decide))];exact r.2.2.2
 ·rw[dO];exact hf2
 ·rw[cg _ _ _ _ (hne 4 (by decide))];exact c4
 ·rw[dO];exact f5.2
 ·rw[Az];exact aO h.lt.2.2.1 hg.size
 ·rw[lQ,aW]
  exact ar ho (fun b e=>aM _ _ _ _ (fun e2=>by have h1:=(ho.lt b e).1;have h2:=h.lt.1;have e3:b=rp:=e2;omega))
 ·exact(h.said.of_block e2).of_block (aM _ _ _ _ (fun e=>h.lt.2.2.2 e.symm))
end
section
variable{w w':World}
structure Fr(X:Nat→Prop)(w w':World):Prop where
 os:w'.os=w.os
 tape:w'.tape=w.tape
 output:w'.output=w.output
 size:w.heap.size≤w'.heap.size
 block:∀b,b<w.heap.size→¬X b→w'.heap[b]?=w.heap[b]?
theorem Fr.trans{X:Nat→Prop}{a b c:World}(h:Fr X a b)(h':Fr X b c):Fr X a c:=
 ⟨h'.os.trans h.os,h'.tape.trans h.tape,h'.output.trans h.output,aO h.size h'.size,fun k hk hx=>(h'.block k (bH hk h.size) hx).trans (h.block k hk hx)⟩
theorem Fr.of_below{X:Nat→Prop}{a b:World}(h:Below a.heap.size a b):Fr X a b:=⟨h.os,h.tape,h.output,h.size,fun k hk _=>h.block k hk⟩
theorem Fr.qU{X:Nat→Prop}{a b:World}{row:Option Nat}(h:a.grownBy b row)(hx:∀k,row=some k→X k):Fr X a b:=
 ⟨h.os,h.tape,h.output,h.size,fun k hk hn=>h.block k hk (fun e=>hn (hx k e.symm))⟩
theorem Fr.pV{X:Nat→Prop}(a:World)(b o:Nat)(v:Value)(hx:X b):Fr X a (a.setCell ⟨b,o,none⟩ v):=
 ⟨rfl,rfl,rfl,by simp[World.setCell],fun k _ hn=>aM _ _ _ _ (fun e=>hn (by have e3:k=b:=e;rw[e3];exact hx))⟩
def Mine(rp mb:Nat)(sv:Value)(b:Nat):Prop:=b=rp∨b=mb∨sv.ownBlock=some b
theorem pX{W:World}{mb ln:Nat}{us:List ByteArray}{v:ByteArray}(hln:ln≤4000)(hu:us.length≤2001)(hv:v.size≤2000)(hS:SaidAt W mb us.length us):
  ∃w7,(Instr.mapUpdate 148 (.map (some mb)) (.agg #[.string ee,.string ⟨#[]⟩,.string v]) (.int .i64 ln)).run prog W=.ok () w7∧SaidAt w7 mb (us.length+1) (us++[v])∧W.grownBy w7 (some mb):=by
 obtain⟨l,hl⟩:=qT v (by unfold maxLen;omega);obtain⟨D,ho,hD,hh⟩:=hS
 have hwf:(Lit.int .i64 (ln:Int)).wf=true:=by
  have e:wrap64 (ln:Int)=(ln:Int):=by
   first
    |(unfold wrap64;omega)
    |(simp[wrap64];omega)
  have h:=wrap64_wf (ln:Int);rw[e] at h;exact h
 obtain⟨w7,h1,h2,h3⟩:=ho.update iJ underlying148 (by unfold maxLen;omega) hl (plainElem_int underlying3 hwf);exact⟨w7,h1,SaidAt.put hD hh hl h2 (hD.put _ _),h3⟩
theorem Rd.put{W W':World}{rp mb B sp:Nat}{sv:Value}{vs us us':List ByteArray}(h:Rd W rp mb B sp sv vs us)(hg:W.grownBy W' (some mb))(hs:SaidAt W' mb us'.length us'):Rd W' rp mb B sp sv vs us':=by
 have hrl:rp<W.heap.size:=bH h.lt.1 h.lt.2.2.1;have e1:=hg.block rp hrl (fun e=>h.lt.2.2.2 (by injection e))
 have e2:∀b,sv.ownBlock=some b→W'.heap[b]?=W.heap[b]?:=fun b e=>hg.block b (h.own.lt b e).2 (fun e3=>by
  have h1:=(h.own.lt b e).1;have h2:=h.lt.2.1;injection e3 with e4;omega)
 exact⟨h.rd.of_block e1,by rw[fE (w:=W) (a:=⟨rp,2,none⟩) e1];exact h.f2,by rw[aV (w:=W) (a:=⟨rp,4,none⟩) e1];exact h.fm,h.fs.of_block e1,⟨h.lt.1,h.lt.2.1,aO h.lt.2.2.1 hg.size,h.lt.2.2.2⟩,ar h.own e2,hs⟩
theorem vr(rp sp wb wc a0 mb B ln:Nat)(sv:Value)(vs:List ByteArray)(v:ByteArray)(w:World)(hv:v.size≤2000)(hn:vs.length≤2001)(hln:ln≤4000)(hr:Rd w rp mb B sp sv vs vs)(hw:cB w wb a0 ee)(h3:w.cell? ⟨wb,3,none⟩=some (.string v)):
  Calls prog 125 #[.pointer (some ⟨rp,0,none⟩),.int .i64 ln,.slice (some ⟨wb,0,none⟩) 2 wc] w fun e w'=>∃sv',e=.returned (.tuple #[])∧Rd w' rp mb B sp sv' (vs++[v]) (vs++[v])∧Fr (Mine rp mb sv) w w'∧(∀b,sv'.ownBlock=some b→sv.ownBlock=some b∨w.heap.size≤b):=by
 have hc:∀(args:Array Value)(w:World),(callFunc 165 args).run prog w=.ok (.enter 165 args) w:=fun _ _=>by kernel_rfl
 have kI:∀W,_:=fun W=>jz W
 obtain⟨i2,hi1,hi2,hi3,hi4⟩:=Ej;have HJ:Hid (prog.info? 155=some i2∧i2.zero=some (.agg #[.string ByteArray.empty,.string ByteArray.empty,.string ByteArray.empty,.string ByteArray.empty])∧i2.size=4∧i2.bytes=64):=⟨hi1,hi2,hi3,hi4⟩;clear hi1 hi2 hi3 hi4;have HR:Hid (Rd w rp mb B sp sv vs vs):=hr;obtain⟨b0,b2,b3,b4⟩:=hr.rd;obtain⟨c0,c1⟩:=hw;have hwl:=aT w _ h3;have HB2:Hid (Below w.heap.size w (w.alloc (.cells #[.int .i64 6] 3)).drew):=(aA (ae _ _) _).drew;have HKA:Hid (KAt (w.alloc (.cells #[.int .i64 6] 3)).drew w.heap.size [6]):=zg w
 have ks:Calls prog 173 #[.slice (some ⟨w.heap.size,0,none⟩) 1 1,.slice (some ⟨wb,0,none⟩) 2 wc] (w.alloc (.cells #[.int .i64 6] 3)).drew fun e w'=>e=.returned (.agg #[.string ee,.string ⟨#[]⟩,.string v,.string ⟨#[]⟩])∧Below (w.alloc (.cells #[.int .i64 6] 3)).drew.heap.size (w.alloc (.cells #[.int .i64 6] 3)).drew w':=
  jO w.heap.size wb 0 2 wc ee v _ (by omega) (by omega) HKA.out.1 (bH hwl HB2.out.size) (HKA.out.2 0 (by simp)) (by rw[HB2.out.cell (p:=⟨wb,0+1,none⟩) hwl];exact c1) (by rw[HB2.out.cell (p:=⟨wb,0+3,none⟩) hwl];exact h3)
 have HC:Hid ((w.alloc (.cells #[.int .i64 6] 3)).drew.cell? ⟨rp,0,none⟩=some (.func (.func 165) #[] #[])∧(w.alloc (.cells #[.int .i64 6] 3)).drew.cell? ⟨wb,1,none⟩=some (.string ee)):=⟨(HR.out.rd.below HB2.out).1,by rw[HB2.out.cell (p:=⟨wb,1,none⟩) hwl];exact c1⟩;clear hr h3 HKA;go_enter func125,ntmps125;go_upto_region 0 with fail
 go_region_held3 (fun w'=>w'.cell? ⟨rp,0,none⟩=some (.func (.func 165) #[] #[])∧w'.cell? ⟨wb,1,none⟩=some (.string ⟨#[118,101,114,115,105,111,110]⟩))
   (first|exact⟨b0,c1⟩|exact HC.out)
   (first|(go_at_call 165;refine(kI _).mono ?_;rintro e w2 ⟨rfl,rfl⟩))
 all_goals
  clear b0 b2 b3 b4 c0 c1 kI HC;generalize (w.alloc (.cells #[.int .i64 6] 3)).drew=W2 at*
  go_wp2_with (go_at_call 173;fail)
  go_at_call 173;refine ks.mono ?_;rintro e w3 ⟨rfl,hb3⟩;have HB3:Hid (Below w.heap.size w w3):=HB2.out.trans (hb3.mono HB2.out.size);clear hb3 ks HB2;go_upto_region 2 with fail;have HB4:Hid (Below w.heap.size w (w3.alloc (.cells #[.string ee,.string ⟨#[]⟩,.string v,.string ⟨#[]⟩] 155))):=aA HB3.out _;have HX4:Hid (∀j u,[Value.string ee,.string ⟨#[]⟩,.string v,.string ⟨#[]⟩][j]?=some u→(w3.alloc (.cells #[.string ee,.string ⟨#[]⟩,.string v,.string ⟨#[]⟩] 155)).cell? ((⟨w3.heap.size,0,none⟩:Addr).add j)=some u):=fun j u hj=>iB w3 _ _ _ _ 155 j u hj
  have x0:(w3.alloc (.cells #[.string ee,.string ⟨#[]⟩,.string v,.string ⟨#[]⟩] 155)).cell? ⟨w3.heap.size,0,none⟩=some (.string ee):=HX4.out 0 _ rfl;have x1:(w3.alloc (.cells #[.string ee,.string ⟨#[]⟩,.string v,.string ⟨#[]⟩] 155)).cell? ⟨w3.heap.size,1,none⟩=some (.string ⟨#[]⟩):=HX4.out 1 _ rfl;have x2:(w3.alloc (.cells #[.string ee,.string ⟨#[]⟩,.string v,.string ⟨#[]⟩] 155)).cell? ⟨w3.heap.size,2,none⟩=some (.string v):=HX4.out 2 _ rfl;have x3:(w3.alloc (.cells #[.string ee,.string ⟨#[]⟩,.string v,.string ⟨#[]⟩] 155)).cell? ⟨w3.heap.size,3,none⟩=some (.string ⟨#[]⟩):=HX4.out 3 _ rfl;have HBX:Hid (w.heap.size≤w3.heap.size∧w3.heap.size<(w3.alloc (.cells #[.string ee,.string ⟨#[]⟩,.string v,.string ⟨#[]⟩] 155)).heap.size):=⟨HB3.out.size,by simp⟩;generalize w3.heap.size=bx at*;generalize w3.alloc (.cells #[.string ee,.string ⟨#[]⟩,.string v,.string ⟨#[]⟩] 155)=W3 at*;clear HX4 HB3;have hF3:Fld W3 rp 5 sv:=HR.out.fs.of_block (HB4.out.block rp (aT w _ HR.out.fs.1));have hF4:Fld (W3.alloc (.cells #[.string ee,.string ⟨#[]⟩,.string v,.string ⟨#[]⟩] 155)).drew rp 5 sv:=hF3.of_block (aI _ _ _ (aT W3 _ hF3.1))
  have hoe:(W3.alloc (.cells #[.string ee,.string ⟨#[]⟩,.string v,.string ⟨#[]⟩] 155)).drew.ownsRow B 155 4 sv vs.length (bP vs):=ar (ar HR.out.own (fun b e=>HB4.out.block b (HR.out.own.lt b e).2)) (fun b e=>aI _ _ _ (bH (HR.out.own.lt b e).2 HB4.out.size));have hnw:∀j u,[Value.string ee,.string ⟨#[]⟩,.string v,.string ⟨#[]⟩][j]?=some u→(W3.alloc (.cells #[.string ee,.string ⟨#[]⟩,.string v,.string ⟨#[]⟩] 155)).drew.cell? ((⟨W3.heap.size,0,none⟩:Addr).add j)=some u:=fun j u hj=>iB W3 _ _ _ _ 155 j u hj
  have HNE:Hid (some rp≠sv.ownBlock):=fun e=>by have h:=(HR.out.own.lt rp e.symm).1;have:=HR.out.lt.1;omega
  have HF4:Hid (Fld (W3.alloc (.cells #[.string ee,.string ⟨#[]⟩,.string v,.string ⟨#[]⟩] 155)).drew rp 5 sv):=hF4;have c1:W3.cell? ⟨rp,5,none⟩=some sv:=hF3.1;have c1b:(W3.alloc (.cells #[.string ee,.string ⟨#[]⟩,.string v,.string ⟨#[]⟩] 155)).cell? ⟨rp,5,none⟩=some sv:=hF4.1;have hBs:B≤W3.heap.size:=aO HR.out.lt.2.2.1 HB4.out.size;clear hF3 hF4
  have HRa:Hid (Rd (W3.alloc (.cells #[.string ee,.string ⟨#[]⟩,.string v,.string ⟨#[]⟩] 155)) rp mb B sp sv vs vs):=by
   have h1:Rd W3 rp mb B sp sv vs vs:=HR.out.of_block HB4.out.size (HB4.out.block rp (bH HR.out.lt.1 HR.out.lt.2.2.1)) (HB4.out.block mb (bH HR.out.lt.2.1 HR.out.lt.2.2.1)) (fun b e=>HB4.out.block b (HR.out.own.lt b e).2);exact h1.of_block (by simp) (aI _ _ _ (bH h1.lt.1 h1.lt.2.2.1)) (aI _ _ _ (bH h1.lt.2.1 h1.lt.2.2.1)) (fun b e=>aI _ _ _ (h1.own.lt b e).2)
  have HSB:Hid (∀b,sv.ownBlock=some b→b<w.heap.size):=fun b e=>(HR.out.own.lt b e).2
  have HLT:Hid (rp<B∧mb<B∧B≤w.heap.size∧rp≠mb):=HR.out.lt;obtain⟨sa,sc,rfl⟩:=ax HR.out.own
  go_region_law
   (first|(refine step_append_lies _ rfl (.tmp 28) (.tmp 30) 149 rfl B 155 i2 (.agg #[.string ByteArray.empty,.string ByteArray.empty,.string ByteArray.empty,.string ByteArray.empty]) 4 64 underlying149 HJ.out.1 HJ.out.2.1 HJ.out.2.2.1 HJ.out.2.2.2 rfl (by decide) _ vs.length _ rfl hoe ⟨W3.heap.size,0,none⟩ 1 1 [.string ee,.string ⟨#[]⟩,.string v,.string ⟨#[]⟩] rfl rfl hnw (fun u hu=>by simp at hu;rcases hu with rfl|rfl|rfl|rfl<;>rfl) (by decide) (by unfold maxLen;omega) (by omega) (by show B≤(W3.alloc _).heap.size;simp;omega) _ rfl ?_;intro g cap w5 hown hgrow hat zl;have c3:w5.cell? ⟨rp,5,none⟩=some (.slice sa vs.length sc):=(HF4.out.of_block (hgrow.block rp (aT _ _ HF4.out.1) HNE.out)).1;have f3:w5.frozen? ⟨rp,5,none⟩=false:=(HF4.out.of_block (hgrow.block rp (aT _ _ HF4.out.1) HNE.out)).2))
  all_goals
   have HR5:Hid (Rd (w5.setCell ⟨rp,5,none⟩ (.slice (some ⟨g,0,none⟩) (vs.length+1) cap)) rp mb B sp (.slice (some ⟨g,0,none⟩) (vs.length+1) cap) (vs++[v]) vs):=HRa.out.grown ⟨hgrow.os,hgrow.tape,hgrow.output,hgrow.size,hgrow.block⟩ hown
   have HFr:Hid (Fr (Mine rp mb (.slice sa vs.length sc)) w (w5.setCell ⟨rp,5,none⟩ (.slice (some ⟨g,0,none⟩) (vs.length+1) cap))):=by
    have f1:Fr (Mine rp mb (.slice sa vs.length sc)) w W3:=Fr.of_below HB4.out;have f2:=f1.trans (Fr.of_below (aA (ae W3.heap.size W3) (.cells #[.string ee,.string ⟨#[]⟩,.string v,.string ⟨#[]⟩] 155)));have f3:=f2.trans (Fr.qU (b:=w5) ⟨hgrow.os,hgrow.tape,hgrow.output,hgrow.size,hgrow.block⟩ (fun k e=>Or.inr (Or.inr e)));exact f3.trans (Fr.pV w5 rp 5 _ (Or.inl rfl))
   have HAt:Hid (∀b,(Value.slice (some ⟨g,0,none⟩) (vs.length+1) cap).ownBlock=some b→(Value.slice sa vs.length sc).ownBlock=some b∨w.heap.size≤b):=fun b e=>by
    have e1:g=b:=by simpa[Value.ownBlock] using e
    rcases hat with h|h
    ·exact Or.inl (by rw[←e1];exact h)
    ·have h1:=HB4.out.size
     have h2:g=W3.heap.size+1:=by rw[h];simp
     exact Or.inr (by omega)
   have hbb:(w5.setCell ⟨rp,5,none⟩ (.slice (some ⟨g,0,none⟩) (vs.length+1) cap)).heap[bx]?=W3.heap[bx]?:=by
    have h1:=HBX.out;have h2:=HLT.out;rw[aM _ _ _ _ (fun e=>by have e3:bx=rp:=e;omega)];rw[hgrow.block bx (by simp;omega) (fun e=>by have:=HSB.out bx e.symm;omega)];exact aI _ _ _ h1.2
   have HY:Hid (∀W:World,W.heap[bx]?=(w5.setCell ⟨rp,5,none⟩ (.slice (some ⟨g,0,none⟩) (vs.length+1) cap)).heap[bx]?→W.cell? ⟨bx,0,none⟩=some (.string ee)∧W.cell? ⟨bx,1,none⟩=some (.string ⟨#[]⟩)∧W.cell? ⟨bx,2,none⟩=some (.string v)∧W.cell? ⟨bx,3,none⟩=some (.string ⟨#[]⟩)):=fun W e=>by
    rw[hbb] at e;exact⟨by rw[aV (w:=W3) (a:=⟨bx,0,none⟩) e];exact x0,by rw[aV (w:=W3) (a:=⟨bx,1,none⟩) e];exact x1,by rw[aV (w:=W3) (a:=⟨bx,2,none⟩) e];exact x2,by rw[aV (w:=W3) (a:=⟨bx,3,none⟩) e];exact x3⟩
   have Hq:bx<(w5.setCell ⟨rp,5,none⟩ (.slice (some ⟨g,0,none⟩) (vs.length+1) cap)).heap.size:=by
    have h1:W3.heap.size+1≤w5.heap.size:=by have:=hgrow.size;simpa using this
    have h2:=HBX.out.2;simp[World.setCell];omega
   have Hr:Hid (bx<(w5.setCell ⟨rp,5,none⟩ (.slice (some ⟨g,0,none⟩) (vs.length+1) cap)).heap.size∧bx≠mb):=⟨Hq,by have:=HLT.out;have:=HBX.out;omega⟩;clear hbb Hq x0 x1 x2 x3 c1 c1b c3 f3 hown hgrow hat zl hnw hoe HF4 HNE HRa HR HSB HB4 HBX;go_upto_region 3 with fail;generalize w5.setCell ⟨rp,5,none⟩ (.slice (some ⟨g,0,none⟩) (vs.length+1) cap)=W5 at*;have c4:W5.cell? ⟨rp,4,none⟩=some (.map (some mb)):=HR5.out.fm;obtain⟨y0,y1,y2,y3⟩:=HY.out W5 rfl;have kc:∀W,Calls prog 174 #[.agg #[.string ee,.string ⟨#[]⟩,.string v,.string ⟨#[]⟩]] W fun e w'=>e=.returned (.agg #[.string ee,.string ⟨#[]⟩,.string v])∧Below W.heap.size W w':=fun W=>nH _ _ v _ W (by kernel_rfl)
   have kst:∀W,Below W5.heap.size W5 W→∃w7,(Instr.mapUpdate 148 (.map (some mb)) (.agg #[.string ee,.string ⟨#[]⟩,.string v]) (.int .i64 ln)).run prog W=.ok () w7∧Hid (Rd w7 rp mb B sp (.slice (some ⟨g,0,none⟩) (vs.length+1) cap) (vs++[v]) (vs++[v]))∧Hid (Fr (Mine rp mb (.slice sa vs.length sc)) w w7)∧w7.heap[bx]?=W5.heap[bx]?:=fun W hb=>by
    have l:=HR5.out.lt;have e1:=hb.block rp (by omega);have e2:=hb.block mb (by omega);have r6:=HR5.out.of_block hb.size e1 e2 (fun b e=>hb.block b (HR5.out.own.lt b e).2);obtain⟨w7,h1,h2,h3⟩:=pX hln hn hv r6.said;refine⟨w7,h1,r6.put h3 (by rw[aW];exact h2),(HFr.out.trans (Fr.of_below hb)).trans (Fr.qU h3 (fun k e=>Or.inr (Or.inl (by injection e with e;exact e.symm)))),?_⟩;have h4:=Hr.out;rw[h3.block bx (bH h4.1 hb.size) (fun e=>h4.2 (by injection e))];exact hb.block bx h4.1
   go_region_held3 (fun w'=>w'.cell? ⟨rp,4,none⟩=some (.map (some mb))∧w'.cell? ⟨bx,0,none⟩=some (.string ee)∧w'.cell? ⟨bx,1,none⟩=some (.string ⟨#[]⟩)∧w'.cell? ⟨bx,2,none⟩=some (.string v)∧w'.cell? ⟨bx,3,none⟩=some (.string ⟨#[]⟩))
    (first|exact⟨c4,y0,y1,y2,y3⟩|exact⟨HR7.out.fm,HY.out _ CS⟩|exact⟨hc6,HY.out _ Hs⟩)
    (first|(go_at_call 174;refine(kc _).mono ?_;rintro e w6 ⟨rfl,hb6⟩;have hbB:Below W5.heap.size W5 w6:=(ae W5.heap.size W5).drew.trans hb6;have Hs:w6.heap[bx]?=W5.heap[bx]?:=hbB.block bx Hr.out.1;have hc6:w6.cell? ⟨rp,4,none⟩=some (.map (some mb)):=(hbB.cell (p:=⟨rp,4,none⟩) (aT W5 _ c4)).trans c4;obtain⟨w7,hrun,HR7,HF7,CS⟩:=kst w6 hbB;clear hb6))
   all_goals
    obtain⟨z0,z1,z2,z3⟩:=HY.out _ CS;clear HFr kst kc hrun y0 y1 y2 y3 c4 hc6 hbB Hs CS HY HR5;go_wp2;exact gO (v:=.tuple #[]) (by simp[results,results125,go_sem]) rfl ⟨_,rfl,HR7.out,HF7.out,HAt.out⟩
