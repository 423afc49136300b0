import Derived.Test.YtelmkfkgpnadnaaGreatDoorKLK5
import Derived.Test.YtelmkfkgpnadnaaGreatDoorKPNC
set_option linter.all false
open Go.Proofs.Tryz
set_option maxRecDepth 100000
set_option maxHeartbeats 4000000
namespace Go.Proofs.YtelmkfkgpnadnaaGreatDoor
open Go.RowKit
namespace Lk
open Mf Ed Rn
open Pn (aD e0 jT ah fh mg Bn Rc fj dB RdA)
def bF(f:Nat→Bool):Array Value:=#[.bool (f 0),.bool (f 1),.bool (f 2),.bool (f 3),.bool (f 4),.bool (f 5),.bool (f 6),.bool (f 7),.bool (f 8),.bool (f 9),.bool (f 10),.bool (f 11),.bool (f 12),.bool (f 13),.bool (f 14),.bool (f 15),.bool (f 16),.bool (f 17),.bool (f 18),.bool (f 19),.bool (f 20),.bool (f 21),.bool (f 22),.bool (f 23),.bool (f 24),.bool (f 25),.bool (f 26),.bool (f 27)]
def MV(f:Nat→Bool)(p:Nat)(x:Bool)(q:Nat):Bool:=if q=p then x else f q
theorem Qg{p:Nat}(h:p<28):p=0∨p=1∨p=2∨p=3∨p=4∨p=5∨p=6∨p=7∨p=8∨p=9∨p=10∨p=11∨p=12∨p=13∨p=14∨p=15∨p=16∨p=17∨p=18∨p=19∨p=20∨p=21∨p=22∨p=23∨p=24∨p=25∨p=26∨p=27:=by omega
theorem MW{W:World}{b:Nat}{t:TypeId}{f:Nat→Bool}(h:W.heap[b]?=some (.cells (bF f) t)){p:Nat}(hp:p<28):W.cell? ⟨b,p,none⟩=some (.bool (f p))∧W.frozen? ⟨b,p,none⟩=false:=by
 refine⟨?_,?_⟩
 ·simp only[World.cell?,h]
  rcases Qg hp with e|e|e|e|e|e|e|e|e|e|e|e|e|e|e|e|e|e|e|e|e|e|e|e|e|e|e|e<;>rw[e]<;>rfl
 ·simp only[World.frozen?,h];simp
theorem Qh{W:World}{b:Nat}{t:TypeId}{f:Nat→Bool}(h:W.heap[b]?=some (.cells (bF f) t)){p:Nat}(hp:p<28)(x:Bool):(W.setCell ⟨b,p,none⟩ (.bool x)).heap[b]?=some (.cells (bF (MV f p x)) t):=by
 have h1:=bU W b p _ _ (.bool x) h;rw[h1];refine bZ (fun c=>some (Obj.cells c t)) ?_;rcases Qg hp with e|e|e|e|e|e|e|e|e|e|e|e|e|e|e|e|e|e|e|e|e|e|e|e|e|e|e|e<;>rw[e]<;>rfl
theorem xQ{f g:Nat→Bool}(h:∀q,q<28→f q=g q):bF f=bF g:=by
 unfold bF;rw[h 0 (by decide),h 1 (by decide),h 2 (by decide),h 3 (by decide),h 4 (by decide),h 5 (by decide),h 6 (by decide),h 7 (by decide),h 8 (by decide),h 9 (by decide),h 10 (by decide),h 11 (by decide),h 12 (by decide),h 13 (by decide),h 14 (by decide),h 15 (by decide),h 16 (by decide),h 17 (by decide),h 18 (by decide),h 19 (by decide),h 20 (by decide),h 21 (by decide),h 22 (by decide),h 23 (by decide),h 24 (by decide),h 25 (by decide),h 26 (by decide),h 27 (by decide)]
structure Bf(wc:Nat→List Nat)(Q ml:List Nat)(i:Nat):Prop where
 q:∀x∈Q,x<28∧Rc wc x
 m:∀x∈ml,x<28∧Rc wc x∧∀y∈wc x,y∈Q
 nd:ml.Nodup
 d:∀j,j<i→∀x,Q[j]?=some x→x∈ml
 t:∀y∈wc 28,y∈Q
 len:Q.length≤7+7*ml.length
variable{wc:Nat→List Nat}{Q ml:List Nat}{i:Nat}
theorem Bf.Qi(h:Bf wc Q ml i):ml.length≤28:=few 28 ml h.nd (fun x hx=>(h.m x hx).1)
theorem Bf.skip(h:Bf wc Q ml i){c:Nat}(hc:Q[i]?=some c)(hm:c∈ml):Bf wc Q ml (i+1):=
 ⟨h.q,h.m,h.nd,fun j hj x hx=>by
  by_cases e:j=i
  ·rw[e,hc] at hx;injection hx with hx;rw[←hx];exact hm
  ·exact h.d j (by omega) x hx,h.t,h.len⟩
theorem Bf.mark(h:Bf wc Q ml i){c:Nat}(hc:Q[i]?=some c)(hm:c∉ml)(W:List Nat)(hW:∀y,y∈W↔y∈wc c)(hl:W.length≤7)(h28:∀y∈W,y<28):Bf wc (Q++W) (ml++[c]) (i+1):=by
 have hcq:=h.q c (jm hc);have hil:=(dw.1 hc).1;refine⟨fun x hx=>?_,fun x hx=>?_,?_,fun j hj x hx=>?_,fun y hy=>fp _ (h.t y hy),?_⟩
 ·rcases bC.1 hx with hx|hx
  ·exact h.q x hx
  ·exact⟨h28 x hx,.step hcq.2 ((hW x).1 hx)⟩
 ·rcases bC.1 hx with hx|hx
  ·exact⟨(h.m x hx).1,(h.m x hx).2.1,fun y hy=>fp _ ((h.m x hx).2.2 y hy)⟩
  ·rw[bL.1 hx]
   exact⟨hcq.1,hcq.2,fun y hy=>mP _ ((hW y).2 hy)⟩
 ·exact oG.2 ⟨h.nd,by simp,fun a ha b hb e=>by rw[bL.1 hb] at e;rw[e] at ha;exact hm ha⟩
 ·rw[r8 (by omega)] at hx
  by_cases e:j=i
  ·rw[e,hc] at hx;injection hx with hx;rw[←hx];exact mP _ (bL.2 rfl)
  ·exact fp _ (h.d j (by omega) x hx)
 ·have:=h.len
  rw[aW,aW];simp only[bS,il];omega
theorem Bf.done(h:Bf wc Q ml i)(hi:Q.length≤i)(c:Nat)(hc:c<28):c∈ml↔Rc wc c:=by
 refine⟨fun hm=>(h.m c hm).2.1,fun hr=>?_⟩
 have key:∀x,Rc wc x→x=28∨x∈ml:=fun x hx=>by
  have inq:∀y,y∈Q→y∈ml:=fun y hy=>by
   obtain⟨j,hj,e⟩:=List.mem_iff_getElem.1 hy;exact h.d j (by omega) y (by rw[bg hj,e])
  induction hx with
  |root=>exact Or.inl rfl
  |step _ hx ih=>
   rcases ih with ih|ih
   ·rw[ih] at hx;exact Or.inr (inq _ (h.t _ hx))
   ·exact Or.inr (inq _ ((h.m _ ih).2.2 _ hx))
 rcases key c hr with e|e
 ·omega
 ·exact e
end Lk
namespace Lk
open Mf Ed Rn
open Pn (aD e0 jT ah fh mg Bn Rc fj dB RdA dA)
theorem oV{its:List It}(h:dR its):its.map mR=(its.map fh).map aD:=by
 rw[j7];exact oB (fun x hx=>(Bn (h.ok x hx)).symm)
structure Rs(w:World)(rv:Value)(Q ml:List Nat)(wr:World):Prop where
 b:Below w.heap.size w wr
 h0:wr.heap[w.heap.size]?=some (.cells (bF (fun _=>false)) 65)
 h1:wr.heap[w.heap.size+1]?=some (.cells (bF (fun j=>decide (j∈ml))) 65)
 row:wr.ownsRow (w.heap.size+2) 29 2 rv Q.length (mcs (Q.map aD))
variable{w wr W:World}{rv:Value}{Q ml:List Nat}
theorem Rs.below(h:Rs w rv Q ml wr)(hb:Below wr.heap.size wr W):Rs w rv Q ml W:=
 ⟨h.b.trans (hb.mono h.b.size),(hb.block _ (ah h.h0)).trans h.h0,(hb.block _ (ah h.h1)).trans h.h1,own_below h.row hb⟩
theorem Rs.mark(h:Rs w rv Q ml wr){c:Nat}(hc:c<28):Rs w rv Q (ml++[c]) (wr.setCell ⟨w.heap.size+1,c,none⟩ (.bool true)):=by
 have hT:aj (fun b=>b=w.heap.size+1) wr (wr.setCell ⟨w.heap.size+1,c,none⟩ (.bool true)):=(aj.refl (fun b=>b=w.heap.size+1) wr).set (a:=⟨w.heap.size+1,c,none⟩) (fun _=>rfl) _;refine⟨Pn.aP h.b hT (fun b e=>by omega),(hT.block _ (ah h.h0) (by omega)).trans h.h0,?_,ar h.row (fun b e=>hT.block b (h.row.lt b e).2 (by have:=(h.row.lt b e).1;omega))⟩;rw[Qh h.h1 hc,xQ (fun q _=>?_)];unfold MV;by_cases e:q=c
 ·rw[ai e,e];simp
 ·rw[af e];simp[e]
theorem Rs.more(h:Rs w rv Q ml wr){rv':Value}{Q':List Nat}(hT:aj (fun b=>rv.ownBlock=some b) wr W)(ho:W.ownsRow (w.heap.size+2) 29 2 rv' Q'.length (mcs (Q'.map aD))):Rs w rv' Q' ml W:=
 ⟨Pn.aP h.b hT (fun b e=>by have:=(h.row.lt b e).1;omega),(hT.block _ (ah h.h0) (fun e=>by have:=(h.row.lt _ e).1;omega)).trans h.h0,(hT.block _ (ah h.h1) (fun e=>by have:=(h.row.lt _ e).1;omega)).trans h.h1,ho⟩
theorem Kd{W:World}{b:Nat}{c:Array Value}{t:TypeId}(h:W.heap[b]?=some (.cells c t))(c':Array Value):(W.setRow b c').heap[b]?=some (.cells c' t):=by
 simp only[World.setRow,mQ,h];simp
theorem Ke(W:World)(b:Nat)(c':Array Value):aj (fun x=>x=b) W (W.setRow b c'):=
 ⟨rfl,rfl,rfl,by simp[World.setRow],fun k _ hk=>by simp only[World.setRow,mQ];rw[af (fun e=>hk e.symm)]⟩
theorem pT(x:Mo):∀u∈Sm.mc x,u.oneCell'=true:=fun u hu=>by
 simp only[Sm.mc,aY,cW,or_false] at hu;rcases hu with rfl|rfl<;>rfl
theorem Cw(tv rv:Value)(T:List Int)(LL:List (List Int))(hT:T.length≤9223372036854775807)(w:World)(ht:RdI w tv T)(hr:rR w rv LL):
  Calls prog 31 #[tv,rv] w fun e w'=>∃f:Nat→Bool,e=.returned (.agg (bF f))∧(∀c,c<28→(f c=true↔Rc (fj (aG T T.length) (bj LL)) c))∧Below w.heap.size w w':=by
 obtain⟨i2,hi1,hi2,hi3,hi4⟩:=u6;have HI:Hid (prog.info? 29=some i2∧i2.zero=some (.agg #[.string ⟨#[]⟩,.string ⟨#[]⟩])∧i2.size=2∧i2.bytes=32):=⟨hi1,hi2,hi3,hi4⟩;clear hi1 hi2 hi3 hi4;have HR:Hid (RdI w tv T∧rR w rv LL):=⟨ht,hr⟩;have xP:Hid (dR (aG T T.length)):=fM T _ (ag _);have HQ:Hid _:=Pn.zV w (.cells (bF (fun _=>false)) 65) (.cells (bF (fun _=>false)) 65)
 have HW:Hid (∀c,(dB (aG T T.length) (bj LL) c).map fh=fj (aG T T.length) (bj LL) c∧dR (dB (aG T T.length) (bj LL) c)):=fun c=>⟨rfl,by
  unfold dB
  split
  ·exact xP.out
  ·exact gi _ _ _⟩
 have HL:Hid (∀c,∀y∈fj (aG T T.length) (bj LL) c,y<28):=fun c y hy=>by
  obtain⟨x,hx,rfl⟩:=bB.1 hy;exact mg ((HW.out c).2.ok x hx)
 have k14:=gV tv T ((w.alloc (.cells (bF (fun _=>false)) 65)).alloc (.cells (bF (fun _=>false)) 65)) hT (ht.below HQ.out.1);clear ht hr hT;go_enter func31,ntmps31
 go_wp2_with (go_at_call 14;refine k14.mono ?_;rintro e w3 ⟨lv,rfl,ho3,hb3⟩)
 have hsz:((w.alloc (.cells (bF (fun _=>false)) 65)).alloc (.cells (bF (fun _=>false)) 65)).heap.size=w.heap.size+2:=by simp
 have H3:Hid (Rs w lv (fj (aG T T.length) (bj LL) 28) [] w3∧Bf (fj (aG T T.length) (bj LL)) (fj (aG T T.length) (bj LL) 28) [] 0):=by
  have e28:dB (aG T T.length) (bj LL) 28=aG T T.length:=ai rfl;refine⟨⟨HQ.out.1.trans (hb3.mono HQ.out.1.size),(hb3.block _ (ah HQ.out.2.1)).trans HQ.out.2.1,(hb3.block _ (ah HQ.out.2.2)).trans HQ.out.2.2,?_⟩,⟨fun x hx=>⟨HL.out 28 x hx,.step .root hx⟩,fun x hx=>absurd hx cW,by simp,fun j hj=>absurd hj (dG _),fun y hy=>hy,?_⟩⟩
  ·rw[←(HW.out 28).1,←oV (HW.out 28).2,e28,bz,←hsz]
   exact ho3
  ·rw[←(HW.out 28).1,bz,e28]
   have:=xP.out.len;simp only[il];omega
 clear k14 ho3 hb3 HQ hsz;generalize hwc:fj (aG T T.length) (bj LL)=wc at*;have HWc:Hid (fj (aG T T.length) (bj LL)=wc):=hwc;clear hwc;go_loopg [6,7] 203 (fun gg qv iv wr=>∃(i:Nat)(Q ml:List Nat),203-i≤gg∧i≤Q.length∧iv=.int .i64 i∧Hid (Rs w qv Q ml wr∧Bf wc Q ml i))
 case atStart=>exact⟨0,_,[],by omega,aL _,rfl,H3⟩
 case round=>
  obtain⟨i,Q,ml,hg,hi,rfl,HS⟩:=hrel;obtain⟨qa,qc,rfl⟩:=ax HS.out.1.row;have hlen:=HS.out.2.len;have SF:=HS.out.2.Qi;by_cases hlt:i<Q.length
  ·have fQ:(i:Int)<(Q.length:Int):=by omega
   obtain⟨c,hcq⟩:∃c,Q[i]?=some c:=⟨_,bg hlt⟩;have HC:Hid (Q[i]?=some c):=hcq;have zZ:c<28:=(HS.out.2.q c (jm hcq)).1;have hp7:c/4<7:=by omega
   have hv4:c%4<4:=by omega
   have em:aD c=(ba (pW (c/4)),ba (vW (c%4))):=af (by omega)
   have HCe:Hid (∃b o,qa=some ⟨b,o,none⟩∧∀W,Below wr.heap.size wr W→W.cell? ⟨b,o+i*2,none⟩=some (.string (ba (pW (c/4))))∧W.cell? ⟨b,o+i*2+1,none⟩=some (.string (ba (vW (c%4))))):=by
    have hrd:=qA HS.out.1.row (bz _).symm
    have e1:(Q.map aD)[i]! =aD c:=by
     rw[bD _ i (by rw[bz];exact hlt),nh];rw[bg hlt] at hcq;injection hcq with hcq;rw[hcq]
    obtain⟨b,o,cc,eg,_,_⟩:=kE hrd (ae _ _) i (by rw[bz];exact hlt);injection eg with eg1 _ _;refine⟨b,o,eg1,fun W hW=>?_⟩;obtain⟨b2,o2,cc2,eg2,y0,y1⟩:=kE hrd hW i (by rw[bz];exact hlt);injection eg2 with rZ _ _;rw[eg1] at rZ;injection rZ with rZ;injection rZ with e2 e3 _;rw[e1,←e2,←e3,em] at y0 y1;exact⟨y0,y1⟩
   obtain⟨b,o,rfl,hcell⟩:=HCe.out;have HCl:Hid (∀W,Below wr.heap.size wr W→W.cell? ⟨b,o+i*2,none⟩=some (.string (ba (pW (c/4))))∧W.cell? ⟨b,o+i*2+1,none⟩=some (.string (ba (vW (c%4))))):=hcell;obtain⟨x0,x1⟩:=hcell wr (ae _ _);have k35:=qx _ _ wr (IA hp7);have k61:=fun W=>sV _ _ W (IB hv4)
   have Qj:c=c/4*4+c%4:=by omega
   have HG:Hid (∀W,Below wr.heap.size wr W→(W.cell? ⟨w.heap.size+1,c/4*4+c%4,none⟩=some (.bool (decide (c∈ml)))∧W.frozen? ⟨w.heap.size+1,c/4*4+c%4,none⟩=false)∧Rs w (.slice (some ⟨b,o,none⟩) Q.length qc) Q (ml++[c]) (W.setCell ⟨w.heap.size+1,c/4*4+c%4,none⟩ (.bool true))):=fun W hW=>by
    rw[←Qj];exact⟨MW (HS.out.1.below hW).h1 zZ,(HS.out.1.below hW).mark zZ⟩
   have k59:Hid (∀W,Below w.heap.size w W→Calls prog 59 #[rv,.int .i64 ((c/4:Nat):Int),.int .i64 ((c%4:Nat):Int)] W fun e w'=>∃lv,e=.returned lv∧RdA (fun _=>False) Sm.mc w' lv ((wc c).map aD)∧(wc c).length≤7∧Below W.heap.size W w'):=fun W hW=>by
    refine(jk rv LL (c/4) (c%4) hp7 hv4 W (HR.out.2.below hW)).mono (fun e w' ⟨lv,g1,g2,g3⟩=>⟨lv,g1,?_,?_,g3⟩)
    ·have e1:dB (aG T T.length) (bj LL) c=bj LL (c/4) (c%4):=af (by omega)
     have e2:(wc c).map aD=(bj LL (c/4) (c%4)).map mR:=by rw[←HWc.out,←(show(dB (aG T T.length) (bj LL) c).map fh=fj (aG T T.length) (bj LL) c from rfl),e1];exact(oV (gi LL _ _)).symm
     rw[e2];refine RdA.own (B:=W.heap.size) (e:=29) (s:=2) (xs:=mcs ((bj LL (c/4) (c%4)).map mR)) ?_ rfl (fun _=>rfl) (fun _ e=>e.elim);rw[bz];exact g2
    ·have e1:dB (aG T T.length) (bj LL) c=bj LL (c/4) (c%4):=af (by omega)
     rw[←HWc.out];show((dB (aG T T.length) (bj LL) c).map fh).length≤7;rw[bz,e1];exact(gi LL _ _).len
   have HBm:Hid ((c∈ml→Bf wc Q ml (i+1))∧(c∉ml→(wc c).length≤7→Bf wc (Q++wc c) (ml++[c]) (i+1))):=⟨fun h=>HS.out.2.skip HC.out h,fun h h7=>HS.out.2.mark HC.out h (wc c) (fun _=>Iff.rfl) h7 (fun y hy=>HL.out c y hy)⟩;have Qf:((c/4:Nat):Int)<7:=by omega
   have SG:((c%4:Nat):Int)<4:=by omega
   clear HCe hcell hcq em Qj HC zZ;generalize ba (pW (c/4))=X1 at*;generalize ba (vW (c%4))=X2 at*;generalize c/4=p at*;generalize c%4=v at*;by_cases hm:c∈ml
   ·have HB2:Hid (Bf wc Q ml (i+1)):=HBm.out.1 hm
    have hd:decide (c∈ml)=true:=cY hm;simp only[hd] at HG;clear HBm hm hd k59
    go_wp2_with (first|(go_at_call 35;refine k35.mono ?_;rintro e w1 ⟨rfl,hb1⟩;obtain⟨_,x1'⟩:=HCl.out w1 hb1;obtain⟨⟨g1,g2⟩,_⟩:=HG.out w1 hb1)|(go_at_call 61;refine(k61 _).mono ?_;rintro e w2 ⟨rfl,rfl⟩))
    go_roundg (203-(i+1))
    case measure=>omega
    case rel=>exact⟨i+1,Q,ml,by omega,by omega,by go_num,HS.out.1.below hb1,HB2.out⟩
   ·have HB2:Hid ((wc c).length≤7→Bf wc (Q++wc c) (ml++[c]) (i+1)):=HBm.out.2 hm
    have hd:decide (c∈ml)=false:=bI hm;simp only[hd] at HG;clear HBm hm hd
    go_wp2_with (first|(go_at_call 35;refine k35.mono ?_;rintro e w1 ⟨rfl,hb1⟩;obtain⟨_,x1'⟩:=HCl.out w1 hb1;obtain⟨⟨g1,g2⟩,g3⟩:=HG.out w1 hb1;have HG3:Hid _:=g3;clear g3)|(go_at_call 61;refine(k61 _).mono ?_;rintro e w2 ⟨rfl,rfl⟩))
    refine(k59.out _ HG3.out.b).mono ?_;rintro e w4 ⟨lw,rfl,hrd,h7,hb4⟩;have HS4:Hid (Rs w (.slice (some ⟨b,o,none⟩) Q.length qc) Q (ml++[c]) w4):=HG3.out.below hb4;have HB3:Hid (Bf wc (Q++wc c) (ml++[c]) (i+1)):=HB2.out h7;have HRd:Hid (RdA (fun _=>False) Sm.mc w4 lw ((wc c).map aD)):=hrd;have hml:((wc c).map aD).length=(wc c).length:=bz _;obtain⟨la,lc,rfl⟩:=hrd.len;rw[hml] at HRd ⊢;have HML:Hid (((wc c).map aD).length=(wc c).length):=hml;have hws:w.heap.size+2≤w4.heap.size:=by have:=ah HS4.out.h1;omega
    clear hrd hb4 k59 HB2 HG3 hml k35 k61 x0 x1 x1' g1 g2;generalize hqq:mcs (Q.map aD)=XX at*;have HXX:Hid (mcs (Q.map aD)=XX):=hqq;have HO:Hid (w4.ownsRow (w.heap.size+2) 29 2 (.slice (some ⟨b,o,none⟩) Q.length qc) Q.length XX):=by rw[←hqq];exact HS4.out.row
    clear hqq
    go_wp2_with (at_builtin;refine dA (A:=fun _=>False) (enc:=Sm.mc) _ rfl _ _ 23 rfl (w.heap.size+2) 29 i2 (.agg #[.string ⟨#[]⟩,.string ⟨#[]⟩]) 2 32 underlying23 HI.out.1 HI.out.2.1 HI.out.2.2.1 HI.out.2.2.2 rfl (by decide) (.slice (some ⟨b,o,none⟩) Q.length qc) Q.length XX rfl HO.out (.slice la (wc c).length lc) ((wc c).map aD) rfl HRd.out (fun _=>rfl) pT ?_ ?_ ?_ ?_)
    all_goals first
     |(show Q.length+((wc c).map aD).length≤maxLen;rw[HML.out];unfold maxLen;omega)
     |(show(Q.length+((wc c).map aD).length)*32≤140737488355328;rw[HML.out];omega)
     |(show w.heap.size+2≤w4.heap.size;omega)
     |skip
    intro v9 w9 hown hgrow _
    have HN9:Hid (Rs w v9 (Q++wc c) (ml++[c]) w9):=by
     have hT:aj (fun bb=>(Value.slice (some ⟨b,o,none⟩) Q.length qc).ownBlock=some bb) w4 w9:=(aj.refl _ _).grown hgrow (fun bb _ e=>e);refine HS4.out.more hT ?_;rw[aW,eu,show mcs (Q.map aD++(wc c).map aD)=mcs (Q.map aD)++mcs ((wc c).map aD) from pL,HXX.out];exact hown
    obtain⟨va,vc,rfl⟩:=ax HN9.out.row;clear hown hgrow;go_wp2;go_roundg (203-(i+1))
    case measure=>omega
    case rel=>exact⟨i+1,Q++wc c,ml++[c],by omega,by rw[aW];omega,by go_num,HN9.out,HB3.out⟩
  ·have fQ:¬(i:Int)<(Q.length:Int):=by omega
   have HD:Hid (∀c,c<28→(decide (c∈ml)=true↔Rc wc c)):=fun c hc=>by rw[decide_eq_true_iff];exact HS.out.2.done (by omega) c hc
   obtain⟨f,hf⟩:∃f:Nat→Bool,(fun j=>decide (j∈ml))=f:=⟨_,rfl⟩;have HD2:Hid (∀c,c<28→(f c=true↔Rc (fj (aG T T.length) (bj LL)) c)):=fun c hc=>by rw[HWc.out,←hf];exact HD.out c hc
   have HH:Hid (wr.heap[w.heap.size]?=some (.cells (bF (fun _=>false)) 65)∧Below w.heap.size w wr∧wr.heap[w.heap.size+1]?=some (.cells (bF f) 65)):=⟨HS.out.1.h0,HS.out.1.b,by rw[←hf];exact HS.out.1.h1⟩;clear hf HS HD;have HO1:Hid ((bF f).all (·.oneCell')=true):=by show(bF f).all (·.oneCell')=true;simp[bF,Value.oneCell']
   go_upto_region 12 with fail
   go_wp2_with (first
    |refine wpList_load_row rfl 65 _ rfl (w.heap.size+1) rfl 65 (bF f) (0,0) _ HH.out.2.2 underlying65 rfl (by kernel_rfl) ?_
    |refine wpList_store_row rfl 65 _ _ rfl w.heap.size (bF f) rfl rfl 65 (bF (fun _=>false)) HH.out.1 (by kernel_rfl) rfl HO1.out ?_)
   refine aJ (bJ results31 _ _ w.heap.size 65 _ (0,0) _ rfl (Kd HH.out.1 (bF f)) underlying65 rfl (by kernel_rfl)) rfl ?_;exact⟨f,rfl,HD2.out,Pn.aP HH.out.2.1 (Ke wr w.heap.size (bF f)) (fun b e=>by omega)⟩
end Lk
namespace Lk
open Mf Ed Rn
open Pn (aD e0 jT ah fh mg Bn Rc fj dB RdA dA)
structure Mu(wc:Nat→List Nat)(S:Nat→Int):Prop where
 top:∀y∈wc 28,((y%4:Nat):Int)≤S (y/4)
 sel:∀p,p<7→S p=-1∨∃v:Nat,v<4∧S p=v∧∀y∈wc (p*4+v),((y%4:Nat):Int)≤S (y/4)
structure Su(w:World)(S:Nat→Int)(rv:Value)(Q:List Nat)(wr:World):Prop where
 b:Below w.heap.size w wr
 h0:wr.heap[w.heap.size]?=some (.cells (aQ S) 60)
 row:wr.ownsRow (w.heap.size+1) 29 2 rv Q.length (mcs (Q.map aD))
variable{w wr W:World}{rv:Value}{Q:List Nat}{S:Nat→Int}
theorem Su.below(h:Su w S rv Q wr)(hb:Below wr.heap.size wr W):Su w S rv Q W:=
 ⟨h.b.trans (hb.mono h.b.size),(hb.block _ (ah h.h0)).trans h.h0,own_below h.row hb⟩
theorem Su.more(h:Su w S rv Q wr){rv':Value}{Q':List Nat}(hT:aj (fun b=>rv.ownBlock=some b) wr W)(ho:W.ownsRow (w.heap.size+1) 29 2 rv' Q'.length (mcs (Q'.map aD))):Su w S rv' Q' W:=
 ⟨Pn.aP h.b hT (fun b e=>by have:=(h.row.lt b e).1;omega),(hT.block _ (ah h.h0) (fun e=>by have:=(h.row.lt _ e).1;omega)).trans h.h0,ho⟩
theorem OE{B n:Nat}{a:Option Addr}{c:Nat}(h:wr.ownsRow B 29 2 (.slice a n c) Q.length (mcs (Q.map aD))){i x:Nat}(hx:Q[i]?=some x):∃b o,a=some ⟨b,o,none⟩∧∀W,Below wr.heap.size wr W→W.cell? ⟨b,o+i*2,none⟩=some (.string (aD x).1)∧W.cell? ⟨b,o+i*2+1,none⟩=some (.string (aD x).2):=by
 have hlt:=(dw.1 hx).1;have hrd:=qA h (bz _).symm
 have e1:(Q.map aD)[i]! =aD x:=by
  rw[bD _ i (by rw[bz];exact hlt),nh];rw[bg hlt] at hx;injection hx with hx;rw[hx]
 obtain⟨b,o,cc,eg,_,_⟩:=kE hrd (ae _ _) i (by rw[bz];exact hlt);injection eg with eg1 _ _;refine⟨b,o,eg1,fun W hW=>?_⟩;obtain⟨b2,o2,cc2,eg2,y0,y1⟩:=kE hrd hW i (by rw[bz];exact hlt);injection eg2 with rZ _ _;rw[eg1] at rZ;injection rZ with rZ;injection rZ with e2 e3 _;rw[e1,←e2,←e3] at y0 y1;exact⟨y0,y1⟩
theorem Kf{T:List Int}{LL:List (List Int)}{rv:Value}(p v:Nat)(hp:p<7)(hv:v<4)(W:World)(h:rR W rv LL):
  Calls prog 59 #[rv,.int .i64 (p:Int),.int .i64 (v:Int)] W fun e w'=>∃lv,e=.returned lv∧RdA (fun _=>False) Sm.mc w' lv ((fj (aG T T.length) (bj LL) (p*4+v)).map aD)∧(fj (aG T T.length) (bj LL) (p*4+v)).length≤7∧Below W.heap.size W w':=by
 have e1:dB (aG T T.length) (bj LL) (p*4+v)=bj LL p v:=by
  unfold dB;rw[af (by omega),show(p*4+v)/4=p by omega,show(p*4+v)%4=v by omega]
 have e2:fj (aG T T.length) (bj LL) (p*4+v)=(bj LL p v).map fh:=by
  show(dB (aG T T.length) (bj LL) (p*4+v)).map fh=_;rw[e1]
 refine(jk rv LL p v hp hv W h).mono (fun e w' ⟨lv,g1,g2,g3⟩=>⟨lv,g1,?_,?_,g3⟩)
 ·rw[e2,←oV (gi LL p v)]
  refine RdA.own (B:=W.heap.size) (e:=29) (s:=2) (xs:=mcs ((bj LL p v).map mR)) ?_ rfl (fun _=>rfl) (fun _ e=>e.elim);rw[bz];exact g2
 ·rw[e2,bz]
  exact(gi LL _ _).len
theorem Qk(T:List Int)(LL:List (List Int))(c y:Nat)(hy:y∈fj (aG T T.length) (bj LL) c):y<28:=by
 obtain⟨x,hx,rfl⟩:=bB.1 hy
 have:dR (dB (aG T T.length) (bj LL) c):=by
  unfold dB
  split
  ·exact fM T _ (ag _)
  ·exact gi _ _ _
 exact mg (this.ok x hx)
theorem GV(S:Nat→Int)(tv rv:Value)(T:List Int)(LL:List (List Int))(hT:T.length≤9223372036854775807)(w:World)(ht:RdI w tv T)(hr:rR w rv LL)(hS:Mu (fj (aG T T.length) (bj LL)) S):
  Calls prog 30 #[.agg (aQ S),tv,rv] w fun e w'=>e=.returned (.bool true)∧Below w.heap.size w w':=by
 obtain⟨i2,hi1,hi2,hi3,hi4⟩:=u6;have HI:Hid (prog.info? 29=some i2∧i2.zero=some (.agg #[.string ⟨#[]⟩,.string ⟨#[]⟩])∧i2.size=2∧i2.bytes=32):=⟨hi1,hi2,hi3,hi4⟩;clear hi1 hi2 hi3 hi4;have HR:Hid (rR w rv LL):=hr;have xP:Hid (dR (aG T T.length)):=fM T _ (ag _);have HB1:Hid (Below w.heap.size w (w.alloc (.cells (aQ S) 60))∧(w.alloc (.cells (aQ S) 60)).heap[w.heap.size]?=some (.cells (aQ S) 60)):=⟨(ae _ _).alloc (ag _) _,aB _ _⟩;have k14:=gV tv T (w.alloc (.cells (aQ S) 60)) hT (ht.below HB1.out.1);have K59:Hid (∀p v,p<7→v<4→∀W,Below w.heap.size w W→_):=fun p v hp hv W hW=>Kf (T:=T) p v hp hv W (hr.below hW)
 have HL:Hid (∀c y,y∈fj (aG T T.length) (bj LL) c→y<28):=Qk T LL;have HS:Hid (Mu (fj (aG T T.length) (bj LL)) S):=hS;have H28:Hid (fj (aG T T.length) (bj LL) 28=(aG T T.length).map fh):=rfl;clear ht hr hT hS;generalize hwc:fj (aG T T.length) (bj LL)=wc at*;clear hwc;unfold aQ at k14 HB1 ⊢;go_enter func30,ntmps30
 go_wp2_with (go_at_call 14;refine k14.mono ?_;rintro e w3 ⟨lv,rfl,ho3,hb3⟩)
 have H3:Hid (Su w S lv (wc 28) w3∧(∀y∈wc 28,y<28∧((y%4:Nat):Int)≤S (y/4))∧(wc 28).length≤7+7*0):=by
  refine⟨⟨HB1.out.1.trans (hb3.mono HB1.out.1.size),(hb3.block _ (ah HB1.out.2)).trans HB1.out.2,?_⟩,fun y hy=>⟨HL.out 28 y hy,HS.out.top y hy⟩,?_⟩
  ·rw[H28.out,←oV xP.out,bz]
   have:(w.alloc (Obj.cells #[Value.int IntKind.i64 (S 0),Value.int IntKind.i64 (S 1),Value.int IntKind.i64 (S 2),Value.int IntKind.i64 (S 3),Value.int IntKind.i64 (S 4),Value.int IntKind.i64 (S 5),Value.int IntKind.i64 (S 6)] 60)).heap.size=w.heap.size+1:=by simp
   rw[←this];exact ho3
  ·rw[H28.out,bz]
   exact xP.out.len
 clear k14 ho3 hb3 HB1;go_loopg [7,8] 7 (fun gg qv pv wr=>∃(p:Nat)(Q:List Nat),p≤7∧7-p≤gg∧pv=.int .i64 p∧Hid (Su w S qv Q wr∧(∀y∈Q,y<28∧((y%4:Nat):Int)≤S (y/4))∧Q.length≤7+7*p))
 case atStart=>exact⟨0,_,by omega,by omega,rfl,H3⟩
 case round=>
  obtain⟨p,Q,hp,hg,rfl,HQ⟩:=hrel;obtain⟨qa,qc,rfl⟩:=ax HQ.out.1.row;have hlen:=HQ.out.2.2;by_cases hlt:p<7
  ·have fQ:(p:Int)<7:=by omega
   obtain⟨x0,_⟩:=rX HQ.out.1.h0 hlt;rcases HS.out.sel p hlt with hs|⟨v,hv,hs,hy⟩
   ·rw[hs] at x0
    go_wp2;go_roundg (7-(p+1))
    case measure=>omega
    case rel=>exact⟨p+1,Q,by omega,by omega,by go_num,HQ.out.1,HQ.out.2.1,by omega⟩
   ·rw[hs] at x0
    have HY:Hid (∀y∈wc (p*4+v),((y%4:Nat):Int)≤S (y/4)):=hy;have k59:=K59.out p v hlt hv wr HQ.out.1.b;have hv0:(0:Int)≤(v:Int):=by omega
    clear hs hy
    go_wp2_with (go_at_call 59;fail)
    refine k59.mono ?_;rintro e w4 ⟨lw,rfl,hrd,h7,hb4⟩;have HS4:Hid (Su w S (.slice qa Q.length qc) Q w4):=HQ.out.1.below hb4;have HRd:Hid (RdA (fun _=>False) Sm.mc w4 lw ((wc (p*4+v)).map aD)):=hrd;have hml:((wc (p*4+v)).map aD).length=(wc (p*4+v)).length:=bz _;obtain⟨la,lc,rfl⟩:=hrd.len;rw[hml] at HRd ⊢;have HML:Hid (((wc (p*4+v)).map aD).length=(wc (p*4+v)).length):=hml;have hws:w.heap.size+1≤w4.heap.size:=by have:=ah HS4.out.h0;omega
    clear hrd hb4 k59 hml x0;generalize hqq:mcs (Q.map aD)=XX at*;have HXX:Hid (mcs (Q.map aD)=XX):=hqq;have HO:Hid (w4.ownsRow (w.heap.size+1) 29 2 (.slice qa Q.length qc) Q.length XX):=by rw[←hqq];exact HS4.out.row
    clear hqq;have HLc:Hid (∀y∈wc (p*4+v),y<28):=fun y hy=>HL.out _ y hy
    generalize wc (p*4+v)=Wn at*
    go_wp2_with (at_builtin;refine dA (A:=fun _=>False) (enc:=Sm.mc) _ rfl _ _ 23 rfl (w.heap.size+1) 29 i2 (.agg #[.string ⟨#[]⟩,.string ⟨#[]⟩]) 2 32 underlying23 HI.out.1 HI.out.2.1 HI.out.2.2.1 HI.out.2.2.2 rfl (by decide) (.slice qa Q.length qc) Q.length XX rfl HO.out (.slice la Wn.length lc) (Wn.map aD) rfl HRd.out (fun _=>rfl) pT ?_ ?_ ?_ ?_)
    all_goals first
     |(show Q.length+(Wn.map aD).length≤maxLen;rw[HML.out];unfold maxLen;omega)
     |(show(Q.length+(Wn.map aD).length)*32≤140737488355328;rw[HML.out];omega)
     |(show w.heap.size+1≤w4.heap.size;omega)
     |skip
    intro v9 w9 hown hgrow _
    have HN9:Hid (Su w S v9 (Q++Wn) w9):=by
     have hT:aj (fun bb=>(Value.slice qa Q.length qc).ownBlock=some bb) w4 w9:=(aj.refl _ _).grown hgrow (fun bb _ e=>e);refine HS4.out.more hT ?_;rw[aW,eu,show mcs (Q.map aD++Wn.map aD)=mcs (Q.map aD)++mcs (Wn.map aD) from pL,HXX.out];exact hown
    obtain⟨va,vc,rfl⟩:=ax HN9.out.row;clear hown hgrow;go_wp2;go_roundg (7-(p+1))
    case measure=>omega
    case rel=>exact⟨p+1,Q++Wn,by omega,by omega,by go_num,HN9.out,fun y hy=>(bC.1 hy).elim (HQ.out.2.1 y) (fun hy=>⟨HLc.out y hy,HY.out y hy⟩),by rw[aW];omega⟩
  ·have fQ:¬(p:Int)<7:=by omega
   have SH:Q.length≤56:=by omega
   go_wp2;go_loopg [10] Q.length (fun gg iv wr=>∃(i:Nat),i≤Q.length∧Q.length-i≤gg∧iv=.int .i64 i∧Hid (Su w S (.slice qa Q.length qc) Q wr))
   case atStart=>exact⟨0,by omega,by omega,rfl,HQ.out.1⟩
   case round=>
    obtain⟨i,hi,hgi,rfl,HU⟩:=hrel;by_cases hli:i<Q.length
    ·have RH:(i:Int)<(Q.length:Int):=by omega
     obtain⟨c,hc⟩:∃c,Q[i]?=some c:=⟨_,bg hli⟩;obtain⟨zZ,hle⟩:=HQ.out.2.1 c (jm hc);obtain⟨b,o,e1,hcell⟩:=OE HU.out.row hc;have em:aD c=(ba (pW (c/4)),ba (vW (c%4))):=af (by omega);rw[em] at hcell;have HCl:Hid (∀W,Below wr.heap.size wr W→W.cell? ⟨b,o+i*2,none⟩=some (.string (ba (pW (c/4))))∧W.cell? ⟨b,o+i*2+1,none⟩=some (.string (ba (vW (c%4))))):=hcell;obtain⟨x0,x1⟩:=hcell wr (ae _ _);have hp7:c/4<7:=by omega
     have hv4:c%4<4:=by omega
     have k35:=qx _ _ wr (IA hp7);have k61:=fun W=>sV _ _ W (IB hv4)
     have HG:Hid (∀W,Below wr.heap.size wr W→W.cell? ⟨w.heap.size,c/4,none⟩=some (.int .i64 (S (c/4)))):=fun W hW=>(rX (HU.out.below hW).h0 hp7).1
     have Qf:((c/4:Nat):Int)<7:=by omega
     have hcmp:¬S (c/4)<((c%4:Nat):Int):=by omega
     clear hcell em hc zZ hle;subst e1;generalize ba (pW (c/4))=X1 at*;generalize ba (vW (c%4))=X2 at*;generalize S (c/4)=sv at*;generalize c/4=pp at*;generalize c%4=vv at*
     go_wp2_with (first|(go_at_call 35;refine k35.mono ?_;rintro e w5 ⟨rfl,hb5⟩;obtain⟨_,x1'⟩:=HCl.out w5 hb5;have g1:=HG.out w5 hb5)|(go_at_call 61;refine(k61 _).mono ?_;rintro e w6 ⟨rfl,rfl⟩))
     go_roundg (Q.length-(i+1))
     case measure=>omega
     case rel=>exact⟨i+1,by omega,by omega,by go_num,HU.out.below hb5⟩
    ·have RH:¬(i:Int)<(Q.length:Int):=by omega
     go_wp2;go_ret;exact⟨rfl,HU.out.b⟩
end Lk
namespace Lk
open Mf Ed Rn
open Pn (aD e0 fh Rc fj dB Whl upd ay Shf)
structure tG(wc:Nat→List Nat)(cds:List Nat):Prop where
 up:cds.Pairwise fun a b=>a/4<b/4
 mem:∀c,c∈cds↔Rc wc c∧∀c',Rc wc c'→c'/4=c/4→c'≤c
 le:∀c,Rc wc c→c≤28
variable{wc wc2:Nat→List Nat}{cds qB:List Nat}
theorem tG.bl(h:tG wc cds):Bl cds:=
 ⟨h.up,fun c hc=>h.le c ((h.mem c).1 hc).1,(h.mem 28).2 ⟨.root,fun c' h' _=>h.le c' h'⟩⟩
theorem xl{p:Nat}(h:∀c∈cds,c/4≠p):fC cds p=-1:=by
 unfold fC;rw[mW.2 (fun c hc=>by simpa using h c hc)]
theorem r5(h:tG wc cds){c:Nat}(hc:c∈cds):fC cds (c/4)=((c%4:Nat):Int):=by
 unfold fC;cases hf:cds.find? (fun x=>x/4==c/4) with
 |none=>have:=mW.1 hf c hc;simp at this
 |some x=>
  have hx:=List.mem_of_find?_eq_some hf;have hxe:x/4=c/4:=by simpa using List.find?_some hf
  have h1:=((h.mem x).1 hx).2 c ((h.mem c).1 hc).1 hxe.symm;have h2:=((h.mem c).1 hc).2 x ((h.mem x).1 hx).1 hxe;have:x=c:=by omega
  simp[this]
theorem OG(l:List Nat)(p:Nat):-1≤fC l p:=by
 unfold fC
 split<;>omega
theorem EU(h:tG wc cds){y:Nat}(hy:Rc wc y):∃c∈cds,c/4=y/4∧y≤c:=by
 have key:∀n y,y/4*4+4-y≤n→Rc wc y→∃c∈cds,c/4=y/4∧y≤c:=fun n=>by
  induction n with
  |zero=>intro y hn _;omega
  |succ n ih=>
   intro y hn hy;by_cases hm:∀c',Rc wc c'→c'/4=y/4→c'≤y
   ·exact⟨y,(h.mem y).2 ⟨hy,hm⟩,rfl,ag _⟩
   ·have hm:∃c',Rc wc c'∧c'/4=y/4∧y<c':=by
     refine sf (fun k=>hm (fun c' h1 h2=>?_));rcases Nat.lt_or_ge y c' with h3|h3
     ·exact absurd ⟨c',h1,h2,h3⟩ k
     ·exact h3
    obtain⟨c',h1,h2,h3⟩:=hm;obtain⟨c,q1,q2,q3⟩:=ih c' (by omega) h1;exact⟨c,q1,by omega,by omega⟩
 exact key _ y (ag _) hy
theorem xm(h:tG wc cds){y:Nat}(hy:Rc wc y):((y%4:Nat):Int)≤fC cds (y/4):=by
 obtain⟨c,q1,q2,q3⟩:=EU h hy;rw[←q2,r5 h q1];omega
theorem tG.RI(h:tG wc cds):Mu wc (fC cds):=by
 refine⟨fun y hy=>xm h (.step .root hy),fun p hp=>?_⟩;by_cases hc:∃c∈cds,c/4=p
 ·obtain⟨c,h1,h2⟩:=hc
  refine Or.inr ⟨c%4,by omega,by rw[←h2];exact r5 h h1,fun y hy=>?_⟩;rw[show p*4+c%4=c by omega] at hy;exact xm h (.step ((h.mem c).1 h1).1 hy)
 ·exact Or.inl (xl (fun c h1 h2=>hc ⟨c,h1,h2⟩))
def jG(f:Nat→Bool)(p:Nat):Nat→Int
 |0=>-1
 |v+1=>if f (p*4+v)=true then ((v:Nat):Int) else jG f p v
theorem GX(h:tG wc cds){f:Nat→Bool}(hf:∀c,c<28→(f c=true↔Rc wc c)){p:Nat}(hp:p<7):fC cds p=jG f p 4:=by
 have low:∀v,v≤4→(∀u,u<v→f (p*4+u)=false)→jG f p v=-1:=fun v=>by
  induction v with
  |zero=>intro _ _;rfl
  |succ v ih=>
   intro hv hu;unfold jG;rw[af (by rw[hu v (by omega)];decide)];exact ih (by omega) (fun u h=>hu u (by omega))
 by_cases hc:∃c∈cds,c/4=p
 ·obtain⟨c,h1,h2⟩:=hc
  have hm:=(h.mem c).1 h1;have e:fC cds p=((c%4:Nat):Int):=by rw[←h2];exact r5 h h1
  rw[e]
  have key:∀v,c%4<v→v≤4→jG f p v=((c%4:Nat):Int):=fun v=>by
   induction v with
   |zero=>intro h0;omega
   |succ v ih=>
    intro h0 h4;unfold jG;by_cases ev:v=c%4
    ·rw[ai ((hf (p*4+v) (by omega)).2 (by rw[show p*4+v=c by omega];exact hm.1)),ev]
    ·rw[af (fun k=>by
      have:=hm.2 _ ((hf (p*4+v) (by omega)).1 k) (by omega);omega)]
     exact ih (by omega) (by omega)
  exact(key 4 (by omega) (ag _)).symm
 ·rw[xl (fun c h1 h2=>hc ⟨c,h1,h2⟩)]
  refine(low 4 (ag _) (fun u hu=>?_)).symm;cases hb:f (p*4+u) with
  |false=>rfl
  |true=>
   obtain⟨c,q1,q2,_⟩:=EU h ((hf (p*4+u) (by omega)).1 hb);exact absurd ⟨c,q1,by omega⟩ hc
theorem Mv(hw:∀c y,y∈wc c→y∈wc2 c){c:Nat}(h:Rc wc c):Rc wc2 c:=by
 induction h with
 |root=>exact .root
 |step _ hx ih=>exact .step ih (hw _ _ hx)
theorem Kg(h:tG wc cds)(h2:tG wc2 qB)(hw:∀c y,y∈wc c→y∈wc2 c)(p:Nat):fC cds p≤fC qB p:=by
 by_cases hc:∃c∈cds,c/4=p
 ·obtain⟨c,h1,e⟩:=hc
  rw[←e,r5 h h1];exact xm h2 (Mv hw ((h.mem c).1 h1).1)
 ·rw[xl (fun c h1 h2=>hc ⟨c,h1,h2⟩)]
  exact OG _ _
theorem Mw(l:List It)(x y:It)(h:y∈l):y∈jC l x:=by
 unfold jC
 split
 ·exact h
 ·exact fp _ h
theorem Cx:∀(M:List Int)(l:List It)(y:It),y∈l→y∈M.foldl (fun a c=>jC a (pC c)) l
 |[],_,_,h=>h
 |x::r,l,y,h=>Cx r (jC l (pC x)) y (Mw l _ y h)
theorem My(T M:List Int)(y:It)(h:y∈aG T T.length):y∈aG (T++M) (T++M).length:=by
 unfold aG at h ⊢;rw[ng] at h ⊢;rw[lx];exact Cx M _ y h
theorem OH(T M:List Int)(R:Nat→Nat→List It)(c y:Nat)(h:y∈fj (aG T T.length) R c):y∈fj (aG (T++M) (T++M).length) R c:=by
 unfold fj dB at h ⊢;by_cases e:c=28
 ·rw[ai e] at h ⊢
  obtain⟨x,hx,rfl⟩:=bB.1 h;exact bB.2 ⟨x,My T M x hx,rfl⟩
 ·rw[af e] at h ⊢
  exact h
theorem xo{s:Shf}{top:List It}{R:Nat→Nat→List It}(h:Whl s top R):∃cds:List Nat,Pn.val s ⟨3,Pn.e0,Pn.e0⟩=.list (cds.map aD) []∧tG (fj top R) cds:=by
 obtain⟨cds,h1,h2,h3⟩:=Pn.Df h;exact⟨cds,h1,h2,h3,fun c hc=>hc.le (Pn.EA h)⟩
theorem Cy{s:Shf}{top uI:List It}{R:Nat→Nat→List It}(h:Whl s top R)(h2:dR uI):Whl (upd s (0,ba [114],Pn.e0) (some (ba (ey [114] uI)))) uI R:=by
 refine⟨by rw[bK (eh (by decide))];exact h.root,upd_same _ _ _,fun p hp=>by rw[bK (eh (by decide))];exact h.idx p hp,fun p hp v hv=>?_,h2,h.rok⟩;rw[bK (fun e=>?_)]
 ·exact h.man p hp v hv
 ·have:=bZ List.length (iW (bZ (fun q=>q.2.1) e))
  rw[nW p hp] at this;simp at this
