import Derived.Test.YtelmkfkgpnadnaaGreatDoorJJA
import Derived.WalkMore
set_option linter.all false
open Go.Proofs.Tryz
set_option maxRecDepth 100000
set_option maxHeartbeats 4000000
namespace Go.Proofs.YtelmkfkgpnadnaaGreatDoor
open Go.RowKit
section
variable{w w':zW}
def fU(l:List (Nat×zA))(dup:Bool)(k:Nat):Int:=
 if (l.getD 0 pad).2=eJ then (if k=8 then (if dup then ((l.getD 0 pad).1:Int) else -1) else ib l k) else (if k=2 then -1 else ((l.getD 0 pad).1:Int))
theorem uk(x:zA):x=eJ↔x.data.toList=Tx.wV:=by
 constructor
 ·intro h;rw[h];rfl
 ·intro h
  cases x with
  |mk d=>
   have:d=(Tx.wV).toArray:=by rw[←h]
   rw[this];rfl
theorem Bi(lead dup many:Bool)(ws:List (Nat×List UInt8)):
  Tx.slip true ipF lead dup many ws=match Tx.own true ipF ws with
   |some x=>some x
   |none=>if dup then some ((Tx.hd ws).1,8) else if (Tx.hd ws).2=Tx.wR∧many=true then some ((Tx.hd ws).1,9) else none:=by
 unfold Tx.slip;rw[af (by simp)]
 rfl
theorem Pg{ws:List (Nat×List UInt8)}(h:(Tx.hd ws).2≠Tx.wV):Tx.own true ipF ws=some ((Tx.hd ws).1,3):=by
 unfold Tx.own Tx.shape;simp only[dK,af h]
theorem Nh{ws:List (Nat×List UInt8)}(h:(Tx.hd ws).2=Tx.wV):Tx.own true ipF ws=if 2<ws.length then some ((ws.getD 2 (0,[])).1,4) else if ws.length<2 then some (Tx.fin ws,4) else match Tx.misfit ipF 6 [6] ws.tail with
  |some a=>some (a,6)
  |none=>none:=by
 have h5:∀t,Tx.misfit ipF 5 [6] t=none:=fun t=>by cases t<;>simp[Tx.misfit]
 have h7:∀t,Tx.misfit ipF 7 [6] t=none:=fun t=>by cases t<;>simp[Tx.misfit]
 unfold Tx.own Tx.shape;simp only[dK,h,h5,h7,bX,jm]
 rfl
theorem CP(x:Nat×zA)(r:List (Nat×zA)):Tx.hd (aC (x::r))=(x.1,x.2.data.toList):=rfl
theorem G5(l:List (Nat×zA))(hne:l≠[])(lead dup many:Bool):
  (Tx.slip true ipF lead dup many (aC l)=none∧(∀k,2≤k→k≤9→fU l dup k=-1)∧l.length=2∧(l.getD 0 pad).2=eJ∧(Pv.parse (l.getD 1 pad).2.data.toList).isSome=true∧dup=false)∨
  (∃a k:Nat,Tx.slip true ipF lead dup many (aC l)=some (a,k)∧2≤k∧k≤9∧fU l dup k=(a:Int)∧∀j,2≤j→j<k→fU l dup j=-1):=by
 cases l with
 |nil=>exact absurd rfl hne
 |cons x r=>
  have hg0:(x::r).getD 0 pad=x:=rfl;by_cases hV:x.2=eJ
  ·have hV':(Tx.hd (aC (x::r))).2=Tx.wV:=by rw[CP];exact(uk _).1 hV
   have hR:¬((Tx.hd (aC (x::r))).2=Tx.wR∧many=true):=by rw[hV'];intro h;exact absurd h.1 (by decide)
   have hla:∀k,fU (x::r) dup k=if k=8 then (if dup then (x.1:Int) else -1) else ib (x::r) k:=fun k=>by unfold fU;rw[hg0,ah hV]
   have hoff:∀k,k≠4→k≠6→ib (x::r) k=-1:=fun k h4 h6=>by unfold ib;rw[af h4,af h6]
   rw[Bi,Nh hV'];cases r with
   |nil=>
    right
    refine⟨x.1+x.2.size,4,?_,by omega,by omega,?_,?_⟩
    ·have:Tx.fin (aC [x])=x.1+x.2.size:=by
      show x.1+x.2.data.toList.length=_;rw[←bT]
     rw[this];rfl
    ·rw[hla];simp[ib]
    ·intro j h2 hj;rw[hla,af (by omega),hoff j (by omega) (by omega)]
   |cons y t=>
    cases t with
    |nil=>
     have hm:Tx.misfit ipF 6 [6] (aC [x,y]).tail=if (Pv.parse y.2.data.toList).isSome=false then some y.1 else none:=by
      show(if (6:Nat)=6∧Tx.fit ipF 6 y.2.data.toList=false then some y.1 else Tx.misfit ipF 6 [] [])=_;have hf:Tx.fit ipF 6 y.2.data.toList=(Pv.parse y.2.data.toList).isSome:=rfl;rw[hf];simp[Tx.misfit]
     have hlen:(aC [x,y]).length=2:=rfl;rw[hm,hlen,af (by omega),af (by omega)];have h4:ib [x,y] 4=-1:=by simp[ib]
     cases hp:(Pv.parse y.2.data.toList).isSome with
     |false=>
      right
      refine⟨y.1,6,rfl,by omega,by omega,?_,?_⟩
      ·rw[hla];simp[ib,hp]
      ·intro j h2 hj
       rw[hla,af (by omega)];by_cases e:j=4
       ·rw[e];exact h4
       ·exact hoff j e (by omega)
     |true=>
      have h6:ib [x,y] 6=-1:=by simp[ib,hp]
      simp only[Bool.true_eq_false,fC];cases dup with
      |false=>
       left
       rw[af (by decide),af hR];refine⟨rfl,?_,rfl,hV,hp,rfl⟩;intro k _ _;rw[hla];by_cases e8:k=8
       ·rw[ah e8];rfl
       ·rw[af e8]
        by_cases e4:k=4
        ·rw[e4];exact h4
        ·by_cases e6:k=6
         ·rw[e6];exact h6
         ·exact hoff k e4 e6
      |true=>
       right
       refine⟨x.1,8,rfl,by omega,by omega,?_,?_⟩
       ·rw[hla];simp
       ·intro j h2 hj
        rw[hla,af (by omega)];by_cases e4:j=4
        ·rw[e4];exact h4
        ·by_cases e6:j=6
         ·rw[e6];exact h6
         ·exact hoff j e4 e6
    |cons z u=>
     right
     refine⟨z.1,4,?_,by omega,by omega,?_,?_⟩
     ·rw[ah (by simp[aC])];rfl
     ·rw[hla];simp[ib]
     ·intro j h2 hj;rw[hla,af (by omega),hoff j (by omega) (by omega)]
  ·have hV':(Tx.hd (aC (x::r))).2≠Tx.wV:=by rw[CP];exact fun h=>hV ((uk _).2 h)
   right
   refine⟨x.1,3,?_,by omega,by omega,?_,?_⟩
   ·rw[Bi,Pg hV'];rfl
   ·unfold fU;rw[hg0,af hV];rfl
   ·intro j h2 hj
    have:j=2:=by omega
    subst this;unfold fU;rw[hg0,af hV];rfl
end
section
variable{w w':zW}
theorem G6{l:List (Nat×zA)}(h:ib l 4=-1):l.length=2:=by
 unfold ib at h;rw[ah rfl] at h
 split at h
 ·omega
 ·split at h
  ·omega
  ·omega
def gy(us:List zA)(l:List (Nat×zA)):Bool:=us.any fun x=>decide (x=(l.getD 1 pad).2)
theorem CQ(rp sp wb wc mb B k:Nat)(sv:zV)(vs us:List zA)(l:List (Nat×zA))(w:zW)(hm:Ml w)(hr:Rd w rp mb B sp sv vs us)(hW:WAt w wb 0 l)(hne:l≠[])(hc:l.length≤wc)
  (hz:∀x∈l,x.1≤4000∧x.2.size≤2000) (h2:2≤k) (h9:k≤9) (lM:∀j,2≤j→j<k→fU l (gy us l) j=-1):
  zC 124 #[zP rp,zI k,.slice (some ⟨wb,0,none⟩) l.length wc] w fun e w'=>e=.returned (zI (fU l (gy us l) k))∧zB w w':=by
 have hn:0<l.length:=gp.2 hne;have hg0:l.getD 0 pad=l[0]:=getD_at hn
 have hb0:cQ w wb l[0].1 l[0].2:=by
  have h:=hW.2 0 hn;exact⟨by simpa using h.1,by simpa using h.2⟩
 by_cases hV:(l.getD 0 pad).2=eJ
 ·have hla:∀k,fU l (gy us l) k=if k=8 then (if gy us l then ((l.getD 0 pad).1:Int) else -1) else ib l k:=fun k=>by unfold fU;rw[ah hV]
  have hbv:cQ w wb l[0].1 ⟨#[118,101,114,115,105,111,110]⟩:=by
   rw[hg0] at hV;rw[hV] at hb0;exact hb0
  have h4:4<k→l.length=2:=fun h=>G6 (by
   have:=lM 4 (by omega) h;rw[hla,af (by decide)] at this;exact this)
  by_cases e8:k=8
  ·subst e8
   have hl2:=h4 (by omega);have h1:1<l.length:=by omega
   have hg1:l.getD 1 pad=l[1]:=getD_at h1
   have hc3:w.cell? ⟨wb,3,none⟩=some (.string l[1].2):=by
    have h:=(hW.2 1 h1).2;simpa using h
   have k8:=Bf rp sp wb wc l[0].1 mb us.length l[1].2 us w (hz _ (bL h1)).2 hr.fm hr.said hc3 hr.rd hbv;rw[hla,ah rfl,hl2];unfold gy;rw[hg0,hg1];exact k8
  ·rw[hla,af e8]
   have hs:∀x∈l,x.1≤4000∧x.2.size≤4000:=fun x hx=>⟨(hz x hx).1,by have:=(hz x hx).2;omega⟩
   refine Bd rp sp wb l.length wc k l[0].1 _ w hn hr.rd hbv ?_;rcases(by omega:k=2∨k=3∨k=4∨k=5∨k=6∨k=7∨k=9) with rfl|rfl|rfl|rfl|rfl|rfl|rfl
   ·exact Or.inl ⟨rfl,rfl⟩
   ·exact Or.inr (Or.inl ⟨rfl,rfl⟩)
   ·exact EB hW hn hs
   ·exact oU hm hW (h4 (by omega)) (by have:=h4 (by omega);omega) (by omega)
   ·exact oU hm hW (h4 (by omega)) (by have:=h4 (by omega);omega) (by omega)
   ·exact oU hm hW (h4 (by omega)) (by have:=h4 (by omega);omega) (by omega)
   ·exact Or.inr (Or.inr (Or.inl ⟨rfl,rfl⟩))
 ·have hla:∀k,fU l (gy us l) k=if k=2 then -1 else ((l.getD 0 pad).1:Int):=fun k=>by unfold fU;rw[af hV]
  have hk3:k=2∨k=3:=by
   apply mN;intro h;have:=lM 3 (by omega) (by omega);rw[hla,af (by decide)] at this;omega
  have hx:(l[0].2.toList==[118,101,114,115,105,111,110])=false:=by
   rw[hg0] at hV;rw[eH];intro h;exact hV ((uk _).2 (by rw[←dV];exact h))
  rw[hla,hg0];exact Cz rp sp wb l.length wc k l[0].1 l[0].2 w hn hr.rd hb0 hx hk3
end
section
variable{w w':zW}
namespace Tx
theorem FZ:∀(t:List UInt8)(i:Nat),(∀x∈toks i none t,x.1+x.2.length≤i+t.length)∧∀a u,a+u.length≤i→∀x∈toks i (some (a,u)) t,x.1+x.2.length≤i+t.length
 |[],i=>⟨by intro x hx;simp[toks] at hx,by
  intro a u h x hx;simp[toks] at hx;rw[hx];show a+u.length≤_;omega⟩
 |c::t,i=>by
  have ih:=FZ t (i+1);refine⟨fun x hx=>?_,fun a u h x hx=>?_⟩
  ·rw[toks] at hx
   simp only[bX]
   split at hx
   ·have:=ih.2 i [c] (by simp) x hx;omega
   ·have:=ih.1 x hx;omega
  ·rw[toks] at hx
   simp only[bX]
   split at hx
   ·have:=ih.2 a (u++[c]) (by simp;omega) x hx;omega
   ·rcases aV.1 hx with e|e
    ·rw[e];show a+u.length≤_;omega
    ·have:=ih.1 x e;omega
theorem J6{line:List UInt8}{x:Nat×List UInt8}(h:x∈words line):x.1+x.2.length≤line.length:=by
 have h1:=(FZ (Pv.eM 35 line).1 0).1 x h;have h2:=(Dr.cutc_len 35 line).1;omega
end Tx
theorem CR{acc:List (Nat×zA)}{s:zA}(h:aC acc=Tx.words s.data.toList):∀x∈acc,x.1≤s.size∧x.2.size≤s.size:=by
 intro x hx;have hm:(x.1,x.2.data.toList)∈Tx.words s.data.toList:=by rw[←h];exact List.mem_map_of_mem (f:=fun x:Nat×zA=>(x.1,x.2.data.toList)) hx
 have h1:x.1+x.2.data.toList.length≤s.data.toList.length:=Tx.J6 hm;rw[←bT,←bT] at h1;omega
theorem xr(s:zA)(w:zW)(h:Ml w)(hs:s.size≤4000):
  zC 123 #[.string s] w fun e w'=>∃v acc,e=.returned v∧aC acc=Tx.words s.data.toList∧w'.ownsRow w.heap.size 274 2 v acc.length (gK acc)∧zB w w':=by
 have e35:(⟨#[35]⟩:zA).data.toList=[35]:=rfl;obtain⟨m,hm⟩:=h;have kc:=Tryz.strings_Cut s ⟨#[35]⟩ m w (by omega) hm;rw[e35,Pv.Ca 35 s.data.toList] at kc
 have hle:(Pv.eM 35 s.data.toList).1.length≤s.size:=by
  have:=bW List.length (Pv.tO 35 s.data.toList);rw[bg] at this;rw[bT];omega
 have k:=Cr s ⟨(Pv.eM 35 s.data.toList).1.toArray⟩ w (by show(Pv.eM 35 s.data.toList).1.toArray.size≤4000;simp;omega) (kc.mono (by
  rintro e w' ⟨rfl,n,rfl⟩;exact⟨_,_,rfl,⟨rfl,rfl,rfl,ag _,fun _ _=>rfl⟩⟩))
 simpa[Tx.words] using k
theorem uY(s:zA)(hs:s.size<4294967281):∃l:List zA,l.map (·.data.toList)=Pv.spl 10 s.data.toList∧(∀x∈l,x.size≤s.size)∧
  ∀w:zW,Ml w→zC 122 #[.string s,.string ⟨#[10]⟩] w fun e w'=>e=.returned (.slice (some ⟨w.heap.size,0,none⟩) l.length l.length)∧w'=w.alloc (.cells (l.map Value.string).toArray 9):=by
 have h1:1≤(⟨#[10]⟩:zA).size:=by decide
 refine⟨Lib.splitB ⟨#[10]⟩ 0 (Lib.countB s ⟨#[10]⟩) s,Pv.mV s ⟨#[10]⟩ 10 rfl,?_,?_⟩
 ·intro x hx
  have hm:x.data.toList∈Pv.spl 10 s.data.toList:=by
   rw[←Pv.mV s ⟨#[10]⟩ 10 rfl];exact List.mem_map_of_mem hx
  have:=Dr.spl_len 10 _ _ hm;rw[←bT,←bT] at this;exact this
 ·rintro w ⟨m,hm⟩
  have k:=Tryz.strings_Split s ⟨#[10]⟩ m w hs hm h1;rw[Lib.splitB_all ⟨#[10]⟩ h1 0 _ s rfl];exact k
theorem xt:∀(l:List (Nat×zA))(j:Nat)(h:j<l.length),(gK l)[j*2]?=some (zI l[j].1)∧(gK l)[j*2+1]?=some (.string l[j].2)
 |x::r,0,_=>⟨rfl,rfl⟩
 |x::r,j+1,h=>by
  have e:gK (x::r)=zI x.1::.string x.2::gK r:=rfl;have ih:=xt r j (by simpa using h);rw[e];refine⟨?_,?_⟩
  ·rw[show(j+1)*2=j*2+1+1 by omega];simpa using ih.1
  ·rw[show(j+1)*2+1=j*2+1+1+1 by omega];simpa using ih.2
theorem F0{B g c:Nat}{acc:List (Nat×zA)}(h:w.ownsRow B 274 2 (.slice (some ⟨g,0,none⟩) acc.length c) acc.length (gK acc)):WAt w g 0 acc∧acc.length≤c:=by
 refine⟨⟨(h.lt g rfl).2,fun j hj=>?_⟩,?_⟩
 ·have hg:=xt acc j hj
  exact⟨by rw[dX,h.cellAt _ (by omega)];exact hg.1,by rw[dX,h.cellAt _ (by omega)];exact hg.2⟩
 ·rcases h.2 with hn'|⟨g',cap,cur,hv,_,_,hle,_⟩
  ·simp at hn'
  ·injection hv with _ _ e3
   rw[e3];exact hle
theorem CS(good:List OLn)(l:OLn)(hne:l.2≠[])(hg:∀g∈good,sg g)(lead many:Bool):
  Tx.slip true ipF lead ((eI good).any fun x=>Tx.again (aC l.2) x.2) many (aC l.2)=Tx.slip true ipF lead (gy (good.map bZ) l.2) many (aC l.2):=by
 rw[Ev ipF lead many good l hne hg,Bi];cases ho:Tx.own true ipF (aC l.2) with
 |some x=>rfl
 |none=>
  have hl:=Ct hne ho;have hd2:(Tx.hd (aC l.2)).2=Tx.wV:=FT hl
  have hd1:(Tx.hd (aC l.2)).1=(l.2.getD 0 pad).1:=by
   obtain⟨n,ws⟩:=l
   match ws,hl.1 with
   |[a,b],_=>rfl
  have e:gy (good.map bZ) l.2=good.any (fun g=>(g.2.getD 1 pad).2.toList==(l.2.getD 1 pad).2.toList):=by
   unfold gy;rw[List.any_map]
   congr 1
   funext g
   show decide (bZ g=(l.2.getD 1 pad).2)=_;unfold bZ;rw[eu];simp only[iI,beq_iff_eq,dV];exact⟨fun h=>by rw[h],fun h=>jA (mQ.1 h)⟩
  simp only[e,hd1];have hw:¬((Tx.hd (aC l.2)).2=Tx.wR∧many=true):=by rw[hd2];intro h;exact absurd h.1 (by decide)
  rw[af hw]
structure Rs(W0:World)(rp mb:Nat)(sv lv:zV)(vs:List zA)(au:List (Nat×Nat×Nat))(sp:Nat)(wr:World):Prop where
 rd:Rd wr rp mb W0.heap.size sp sv vs vs
 os:wr.ownsRow W0.heap.size 45 3 lv au.length (dF au)
 ne:∀b,sv.ownBlock=some b→lv.ownBlock≠some b
 fr:Fr (fun b=>b=rp∨b=mb) W0 wr
variable{W0 wr:zW}{rp mb sp:Nat}{sv lv sv' lv':zV}{vs:List zA}{au:List (Nat×Nat×Nat)}
theorem Rs.below(h:Rs W0 rp mb sv lv vs au sp wr)(hb:zB wr w'):Rs W0 rp mb sv lv vs au sp w':=
 ⟨h.rd.of_block hb.size (hb.block rp (bI h.rd.lt.1 h.rd.lt.2.2.1)) (hb.block mb (bI h.rd.lt.2.1 h.rd.lt.2.2.1)) (fun b e=>hb.block b (h.rd.own.lt b e).2),
  ar h.os (fun b e=>hb.block b (h.os.lt b e).2),h.ne,h.fr.trans (Fr.of_below hb)⟩
theorem Rs.ml(h:Rs W0 rp mb sv lv vs au sp wr)(hm:Ml W0)(h0:rp≠0∧mb≠0):Ml wr:=by
 obtain⟨m,e⟩:=hm;have hl:=aU W0 _ e;refine⟨m,?_⟩;rw[aW (w:=W0) (a:=⟨0,0,none⟩) (h.fr.block 0 hl (fun e=>by rcases e with e|e;exact h0.1 e.symm;exact h0.2 e.symm))];exact e
theorem Rs.old(h:Rs W0 rp mb sv lv vs au sp wr){b o:Nat}{v:zV}(hc:W0.cell? ⟨b,o,none⟩=some v)(h0:b≠rp∧b≠mb):wr.cell? ⟨b,o,none⟩=some v:=by
 have hl:=aU W0 _ hc;rw[aW (w:=W0) (a:=⟨b,o,none⟩) (h.fr.block b hl (fun e=>by rcases e with e|e;exact h0.1 e;exact h0.2 e))];exact hc
theorem Rs.speak(h:Rs W0 rp mb sv lv vs au sp wr):Rs W0 rp mb sv lv vs au (sp+1) (wr.setCell ⟨rp,2,none⟩ (zI ((sp+1:Nat):Int))):=by
 have hne:∀j,j≠2→(⟨rp,2,none⟩:Addr)≠⟨rp,j,none⟩:=fun j hj e=>by injection e with _ e;exact hj e.symm
 have hk:∀k,k≠rp→(wr.setCell ⟨rp,2,none⟩ (zI ((sp+1:Nat):Int))).heap[k]?=wr.heap[k]?:=fun k hk=>aL _ _ _ _ hk
 have hsz:(wr.setCell ⟨rp,2,none⟩ (zI ((sp+1:Nat):Int))).heap.size=wr.heap.size:=by simp[World.setCell]
 have r:=h.rd;refine⟨⟨⟨?_,?_,?_,?_⟩,?_,?_,⟨?_,?_⟩,⟨r.lt.1,r.lt.2.1,?_,r.lt.2.2.2⟩,?_,?_⟩,?_,h.ne,?_⟩
 ·rw[cB _ _ _ _ (hne 0 (by decide))];exact r.rd.1
 ·rw[cB _ _ _ _ (hne 1 (by decide))];exact r.rd.2.1
 ·exact ik _ _ _ r.rd.2.2.1
 ·rw[cB _ _ _ _ (hne 3 (by decide))];exact r.rd.2.2.2
 ·rw[dT];exact r.f2
 ·rw[cB _ _ _ _ (hne 4 (by decide))];exact r.fm
 ·rw[cB _ _ _ _ (hne 5 (by decide))];exact r.fs.1
 ·rw[dT];exact r.fs.2
 ·rw[hsz];exact r.lt.2.2.1
 ·exact ar r.own (fun b e=>hk b (fun e2=>by have h1:=(r.own.lt b e).1;have h2:=r.lt.1;omega))
 ·exact r.said.of_block (hk mb (fun e=>r.lt.2.2.2 e.symm))
 ·exact ar h.os (fun b e=>hk b (fun e2=>by have h1:=(h.os.lt b e).1;have h2:=r.lt.1;omega))
 ·exact h.fr.trans (Fr.qZ wr rp 2 _ (Or.inl rfl))
theorem Rs.slip(h:Rs W0 rp mb sv lv vs au sp wr)(o:Obj)(x:Nat×Nat×Nat)(hown:w'.ownsRow W0.heap.size 45 3 lv' (au.length+1) (dF au++[zI x.1,zI x.2.1,zI x.2.2]))(hg:(wr.alloc o).grownBy w' lv.ownBlock)(hat:lv'.ownBlock=lv.ownBlock∨lv'.ownBlock=some (wr.alloc o).heap.size):
  Rs W0 rp mb sv lv' vs (au++[x]) sp w':=by
 have hal:(wr.alloc o).heap.size=wr.heap.size+1:=by simp
 have hs':wr.heap.size+1≤w'.heap.size:=by rw[←hal];exact hg.size
 have hk:∀k,k<wr.heap.size→lv.ownBlock≠some k→w'.heap[k]?=wr.heap[k]?:=fun k hk h1=>by
  rw[hg.block k (by omega) (fun e=>h1 e.symm),aG _ _ _ hk]
 have hlv:∀k,lv.ownBlock=some k→W0.heap.size≤k:=fun k e=>(h.os.lt k e).1
 have hB:=h.rd.lt.2.2.1;refine⟨h.rd.of_block (by omega) (hk rp (bI h.rd.lt.1 hB) (fun e=>by have:=hlv rp e;have:=h.rd.lt.1;omega)) (hk mb (bI h.rd.lt.2.1 hB) (fun e=>by have:=hlv mb e;have:=h.rd.lt.2.1;omega)) (fun b e=>hk b (h.rd.own.lt b e).2 (h.ne b e)),?_,?_,?_⟩
 ·rw[uX,bg];exact hown
 ·intro b e e2
  rcases hat with e3|e3
  ·rw[e3] at e2;exact h.ne b e e2
  ·rw[e3] at e2
   injection e2 with e2;have:=(h.rd.own.lt b e).2;omega
 ·refine⟨hg.os.trans h.fr.os,hg.tape.trans h.fr.tape,hg.output.trans h.fr.output,aP h.fr.size (by omega),fun k hk1 hx=>?_⟩
  rw[hk k (bI hk1 hB) (fun e=>by have:=hlv k e;omega)];exact h.fr.block k hk1 hx
theorem Rs.keep{v:zA}(h:Rs W0 rp mb sv lv vs au sp wr)(hr:Rd w' rp mb W0.heap.size sp sv' (vs++[v]) (vs++[v]))(hf:Fr (Mine rp mb sv) wr w')(hat:∀b,sv'.ownBlock=some b→sv.ownBlock=some b∨wr.heap.size≤b):
  Rs W0 rp mb sv' lv (vs++[v]) au sp w':=by
 have hB:=h.rd.lt.2.2.1;have hl:=h.rd.lt;refine⟨hr,?_,?_,?_⟩
 ·refine ar h.os (fun b e=>hf.block b (h.os.lt b e).2 ?_)
  rintro(e2|e2|e2)
  ·have:=(h.os.lt b e).1;omega
  ·have:=(h.os.lt b e).1;omega
  ·exact h.ne b e2 e
 ·intro b e e2
  rcases hat b e with e3|e3
  ·exact h.ne b e3 e2
  ·have:=(h.os.lt b e2).2;omega
 ·refine⟨hf.os.trans h.fr.os,hf.tape.trans h.fr.tape,hf.output.trans h.fr.output,aP h.fr.size hf.size,fun k hk1 hx=>?_⟩
  rw[hf.block k (bI hk1 hB) ?_]
  ·exact h.fr.block k hk1 hx
  ·rintro(e2|e2|e2)
   ·exact hx (Or.inl e2)
   ·exact hx (Or.inr e2)
   ·have:=(h.rd.own.lt k e2).1;omega
end
section
variable{w w':zW}
theorem zH(s:zA)(rp:Nat)(w:zW)(hs:2000<s.size):
  zC 86 #[zP rp,.string s] w fun e w'=>∃sv,e=.returned (.tuple #[zN,sv])∧w'.ownsRow w.heap.size 45 3 sv 1 (dF [(0,0,1)])∧zB w w':=by
 have hsI:((s.size:Int)>2000):=by omega
 go_enter func86,ntmps86;go_wp2
 go_step3
 go_wp2
 (try rw[fD])
 go_ret2;exact⟨_,rfl,A9 w 0 0 1,(ae _ _).alloc (ag _) _⟩
def rdF(f:Nat):zV:=if f=0 then .func (.func 165) #[] #[] else if f=1 then zE else if f=2 then zI 0 else if f=3 then zI 0 else if f=4 then .map none else zN
theorem xu(w:zW)(o:Obj):(w.alloc o).heap[w.heap.size]?=some o:=iJ w o
theorem xo(W:zW):SaidAt (W.alloc (.map #[] 0)) W.heap.size 0 []:=by
 refine⟨.map [],World.ownsMap_made W prog 280 (plainElem prog 3),?_,fun v l _=>?_⟩
 ·exact Maps.isMap_empty
 ·rfl
theorem xw{rp:Nat}(hv:gu w rp 6 rdF)(hrl:rp<w.heap.size)(o:Obj):Rs (((w.setCell ⟨rp,4,none⟩ (.map (some w.heap.size))).alloc (.map #[] 0)).alloc o) rp w.heap.size (zN) (zN) [] [] 0 (((w.setCell ⟨rp,4,none⟩ (.map (some w.heap.size))).alloc (.map #[] 0)).alloc o):=by
 have h2:=hv.set (p:=4) (by omega) (.map (some w.heap.size));have hsz0:(w.setCell ⟨rp,4,none⟩ (.map (some w.heap.size))).heap.size=w.heap.size:=by simp[World.setCell]
 have hsz:((w.setCell ⟨rp,4,none⟩ (.map (some w.heap.size))).alloc (.map #[] 0)).heap.size=w.heap.size+1:=by rw[kQ,hsz0]
 have h3:=(h2.of_block (w':=(w.setCell ⟨rp,4,none⟩ (.map (some w.heap.size))).alloc (.map #[] 0)) (aG _ _ _ (by omega))).of_block (w':=((w.setCell ⟨rp,4,none⟩ (.map (some w.heap.size))).alloc (.map #[] 0)).alloc o) (aG _ _ _ (by omega))
 have hs:SaidAt (((w.setCell ⟨rp,4,none⟩ (.map (some w.heap.size))).alloc (.map #[] 0)).alloc o) w.heap.size 0 []:=by
  have h:=xo (w.setCell ⟨rp,4,none⟩ (.map (some w.heap.size)));rw[hsz0] at h;exact h.of_block (aG _ _ _ (by omega))
 have hz2:(((w.setCell ⟨rp,4,none⟩ (.map (some w.heap.size))).alloc (.map #[] 0)).alloc o).heap.size=w.heap.size+2:=by rw[kQ,hsz]
 exact⟨⟨⟨h3.at' 0 (by omega),h3.at' 1 (by omega),h3.at' 2 (by omega),h3.at' 3 (by omega)⟩,h3.fr 2 (by omega),h3.at' 4 (by omega),⟨h3.at' 5 (by omega),h3.fr 5 (by omega)⟩,⟨by omega,by omega,ag _,by omega⟩,ew _ _ _ _,hs⟩,ew _ _ _ _,fun b e=>(by simp[Value.ownBlock] at e),⟨rfl,rfl,rfl,ag _,fun _ _ _=>rfl⟩⟩
def Left(R:Tx.Got)(l:List zA)(k:Nat)(good:List OLn)(au:List (Nat×Nat×Nat))(sp:Nat):Prop:=
 (Tx.spoken (k+1) ((l.drop k).map (·.data.toList))).foldl (Tx.bw true ipF 20) ⟨eI good,au,sp,0⟩=R∧(∀g∈good,sg g)∧good.length≤k∧au.length≤k
variable{R:Tx.Got}{l:List zA}{k sp:Nat}{good:List OLn}{au:List (Nat×Nat×Nat)}
theorem Left.blank(h:Left R l k good au sp)(hk:k<l.length)(hw:Tx.words l[k].data.toList=[]):Left R l (k+1) good au sp:=by
 have h1:=h.1;rw[dt hk,bH,Tx.spoken,ah hw] at h1;exact⟨h1,h.2.1,by have:=h.2.2.1;omega,by have:=h.2.2.2;omega⟩
theorem Left.line(h:Left R l k good au sp)(hk:k<l.length){acc:List (Nat×zA)}(hw:aC acc=Tx.words l[k].data.toList)(hne:acc≠[]):
  (Tx.spoken (k+1+1) ((l.drop (k+1)).map (·.data.toList))).foldl (Tx.bw true ipF 20) (Tx.bw true ipF 20 ⟨eI good,au,sp,0⟩ (k+1,aC acc))=R:=by
 have h1:=h.1
 have Ph:Tx.words l[k].data.toList≠[]:=by
  rw[←hw];intro e;exact hne (by cases acc with|nil=>rfl|cons a r=>simp[aC] at e)
 rw[dt hk,bH,Tx.spoken,af Ph,lG,←hw] at h1;exact h1
theorem Left.slip(h:Left R l k good au sp)(hk:k<l.length){acc:List (Nat×zA)}(hw:aC acc=Tx.words l[k].data.toList)(hne:acc≠[]){a q:Nat}
  (hs:Tx.slip true ipF (sp==0) (gy (good.map bZ) acc) ((0:Nat)==20) (aC acc)=some (a,q)):Left R l (k+1) good (au++[(k+1,a,q)]) (sp+1):=by
 have h1:=h.line hk hw hne;have hd:=CS good (k+1,acc) hne h.2.1 (sp==0) ((0:Nat)==20);rw[GM (l:=(k+1,acc)) (hd.trans hs)] at h1;exact⟨h1,h.2.1,by have:=h.2.2.1;omega,by rw[bg];have:=h.2.2.2;simp;omega⟩
theorem Left.kept(h:Left R l k good au sp)(hk:k<l.length){acc:List (Nat×zA)}(hw:aC acc=Tx.words l[k].data.toList)(hne:acc≠[])(hT:sg (k+1,acc))
  (hs:Tx.slip true ipF (sp==0) (gy (good.map bZ) acc) ((0:Nat)==20) (aC acc)=none):Left R l (k+1) (good++[(k+1,acc)]) au (sp+1):=by
 have h1:=h.line hk hw hne;have hd:=CS good (k+1,acc) hne h.2.1 (sp==0) ((0:Nat)==20);rw[GN (l:=(k+1,acc)) (hd.trans hs) (by rw[FT hT];decide)] at h1;refine⟨h1,fun g hg=>?_,by rw[bg];have:=h.2.2.1;simp;omega,by have:=h.2.2.2;omega⟩;rcases bJ.1 hg with e|e
 ·exact h.2.1 g e
 ·rw[bQ.1 e];exact hT
theorem Ni:bV=eJ:=rfl
theorem oW(s:zA)(rp:Nat)(w:zW)(hs:s.size≤2000)(hm:Ml w)(h0:rp≠0)(hv:gu w rp 6 rdF):
  zC 86 #[zP rp,.string s] w fun e w'=>∃(good:List OLn)(au:List (Nat×Nat×Nat))(m:Nat)(rv lv:zV),e=.returned (.tuple #[rv,lv])∧(Tx.spoken 1 (Pv.spl 10 s.data.toList)).foldl (Tx.bw true ipF 20) nY=⟨eI good,au,m,0⟩∧(∀g∈good,sg g)∧good.length≤2001∧au.length≤2001∧Fr (fun b=>b=rp) w w'∧
   ((au≠[]∧rv=zN∧w'.ownsRow w.heap.size 45 3 lv au.length (dF au))∨(au=[]∧lv=zN∧w'.ownsRow w.heap.size 155 4 rv good.length (bU (good.map bZ)))):=by
 have hsI:((s.size:Int)≤2000):=by omega
 obtain⟨i9,hi1,hi2,hi3,hi4⟩:=JQ;have HI:Hid (prog.info? 45=some i9∧i9.zero=some (.agg #[zI 0,zI 0,zI 0])∧i9.size=3∧i9.bytes=24):=⟨hi1,hi2,hi3,hi4⟩;clear hi1 hi2 hi3 hi4;obtain⟨l,hl,hz,ks⟩:=uY s (by omega)
 have hll:l.length≤2001:=by
  have h1:=bW List.length hl;have h2:=Dr.spl_len_count 10 s.data.toList;rw[bE] at h1;rw[←bT] at h2;omega
 have hrl:rp<w.heap.size:=aU w ⟨rp,0,none⟩ (hv.at' 0 (by omega));have HST:Hid (∀o,Rs (((w.setCell ⟨rp,4,none⟩ (.map (some w.heap.size))).alloc (.map #[] 0)).alloc o) rp w.heap.size (zN) (zN) [] [] 0 (((w.setCell ⟨rp,4,none⟩ (.map (some w.heap.size))).alloc (.map #[] 0)).alloc o)):=fun o=>xw hv hrl o
 have c4:(w.alloc (.map #[] 0)).cell? ⟨rp,4,none⟩=some (.map none):=by rw[World.cell?_alloc_lt _ _ _ hrl];exact hv.at' 4 (by omega)
 have f4:(w.alloc (.map #[] 0)).frozen? ⟨rp,4,none⟩=false:=by
  rw[gf (w:=w) (a:=⟨rp,4,none⟩) (aG _ _ _ hrl)];exact hv.fr 4 (by omega)
 have hmk:=run_makeMap (P:=prog) 148 w
 have EF:Ml ((w.setCell ⟨rp,4,none⟩ (.map (some w.heap.size))).alloc (.map #[] 0)):=by
  obtain⟨m,e⟩:=hm;refine⟨m,?_⟩;have hlt:=aU w _ e;rw[World.cell?_alloc_lt _ _ _ (by simp[World.setCell];exact hlt),cB _ _ _ _ (fun e=>h0 (by injection e))];exact e
 have ks:=ks _ EF;have HR:Hid (Left ((Tx.spoken 1 (Pv.spl 10 s.data.toList)).foldl (Tx.bw true ipF 20) nY) l 0 [] [] 0):=⟨by rw[List.drop_zero,hl];rfl,fun g hg=>(by cases hg),ag _,ag _⟩;generalize (Tx.spoken 1 (Pv.spl 10 s.data.toList)).foldl (Tx.bw true ipF 20) nY=R at*;have HML:Hid (Ml ((w.setCell ⟨rp,4,none⟩ (.map (some w.heap.size))).alloc (.map #[] 0))):=EF;have HZ:Hid (∀x∈l,x.size≤2000):=fun x hx=>by have:=hz x hx;omega
 have HRL:Hid (rp<w.heap.size∧rp≠0):=⟨hrl,h0⟩;clear hv EF hm hl hz;go_enter func86,ntmps86;go_wp2
 go_step3
 go_wp2_with fail
 go_step3
 go_wp2_with (go_at_call 122;fail)
 go_at_call 122;refine ks.mono ?_;rintro e w1 ⟨rfl,hw1⟩
 have HS0:Hid (Rs w1 rp w.heap.size (zN) (zN) [] [] 0 w1):=by
  show Rs w1 rp w.heap.size _ _ [] [] 0 w1;rw[hw1];exact HST.out _
 have Bj:((w.setCell ⟨rp,4,none⟩ (.map (some w.heap.size))).alloc (.map #[] 0)).heap.size=w.heap.size+1:=by rw[kQ];simp[World.setCell]
 have HML1:Hid (Ml w1):=by
  show Ml w1;rw[hw1];exact HML.out.below ((ae _ _).alloc (ag _) _)
 have HLC:Hid (∀k (hk:k<l.length),w1.cell? ⟨w.heap.size+1,k,none⟩=some (.string l[k])):=fun k hk=>by
  rw[hw1];have h:=xu ((w.setCell ⟨rp,4,none⟩ (.map (some w.heap.size))).alloc (.map #[] 0)) (.cells (l.map Value.string).toArray 9);rw[Bj] at h;unfold World.cell?;simp only[h];simp[hk]
 have HFW:Hid (Fr (fun b=>b=rp) w w1):=by
  show Fr _ w w1;rw[hw1];exact((Fr.qZ (X:=fun b=>b=rp) w rp 4 _ rfl).trans (Fr.of_below ((ae _ _).alloc (ag _) _))).trans (Fr.of_below ((ae _ _).alloc (ag _) _))
 have HSZ:Hid (w.heap.size+1<w1.heap.size∧rp≠w.heap.size+1):=⟨by rw[hw1,kQ,Bj];omega,by have:=HRL.out.1;omega⟩;rw[Bj];clear ks HST HML hw1 Bj c4 f4 hmk;have HM0:Hid (w.heap.size≠0∧w.heap.size≠w.heap.size+1):=⟨by have:=HRL.out.1;omega,by omega⟩;have HWB:Hid (∀b,w1.heap.size≤b→w.heap.size≤b):=fun b hb=>by have:=HSZ.out.1;omega
 generalize w.heap.size+1=lb at*;go_wp2;go_loopg [6,24] l.length (fun gg lv kv wr=>∃(k:Nat)(good:List OLn)(au:List (Nat×Nat×Nat))(sp:Nat)(sv lv0:zV),lv0=lv∧k≤l.length∧l.length-k≤gg∧kv=zI k∧sp≤k∧Hid (Rs w1 rp w.heap.size sv lv (good.map bZ) au sp wr)∧Hid (Left R l k good au sp))
 case atStart=>exact⟨0,[],[],0,_,_,rfl,by omega,by omega,rfl,by omega,HS0,HR⟩
 case round=>
  clear HS0 HR;obtain⟨k,good,au,sp,sv,lv0,Pj,hk,hgk,rfl,R3,HS,HL⟩:=hrel;subst Pj;by_cases hlt:k<l.length
  ·have gN:(k:Int)<(l.length:Int):=by omega
   have hlk:wr.cell? ⟨lb,k,none⟩=some (.string l[k]):=HS.out.old (HLC.out k hlt) ⟨fun e=>HSZ.out.2 e.symm,fun e=>HM0.out.2 e.symm⟩;have kwo:=xr l[k] wr (HS.out.ml HML1.out ⟨HRL.out.2,HM0.out.1⟩) (by have:=HZ.out l[k] (bL hlt);omega)
   go_wp2_with (go_at_call 123;fail)
   go_at_call 123;refine kwo.mono ?_;rintro e w2 ⟨v,acc,rfl,hacc,hown,hb2⟩;clear kwo hlk;have HS2:Hid (Rs w1 rp w.heap.size sv lv0 (good.map bZ) au sp w2):=HS.out.below hb2;have HAC:Hid (aC acc=Tx.words l[k].data.toList):=hacc;have HRB:Hid (rp<wr.heap.size):=bI HS.out.rd.lt.1 HS.out.rd.lt.2.2.1;by_cases he:acc=[]
   ·have HLn:Hid (Left R l (k+1) good au sp):=HL.out.blank hlt (by rw[←hacc,he];rfl)
    obtain⟨va,vc,rfl⟩:=ay hown;subst he;clear hown hb2 hacc HL HS HAC;go_wp2;go_roundg (l.length-(k+1))
    case measure=>omega
    case rel=>exact⟨k+1,good,au,sp,sv,lv0,rfl,by omega,by omega,by go_num,by omega,HS2,HLn⟩
   ·have hn:0<acc.length:=gp.2 he
    obtain⟨g,vc,rfl⟩:=dL hown hn;have hWA:=F0 hown;have hgb:=(hown.lt g rfl).1;have hnI:¬((acc.length:Int)=0):=by omega
    have hnq:((acc.length:Int)==0)=false:=by rw[eH];omega
    have hc2:w2.cell? ⟨rp,2,none⟩=some (zI sp):=HS2.out.rd.rd.2.2.1;have hf2:w2.frozen? ⟨rp,2,none⟩=false:=HS2.out.rd.f2;have HS3:Hid (Rs w1 rp w.heap.size sv lv0 (good.map bZ) au (sp+1) (w2.setCell ⟨rp,2,none⟩ (zI ((sp:Int)+1)))):=HS2.out.speak
    have HW3:Hid (WAt (w2.setCell ⟨rp,2,none⟩ (zI ((sp:Int)+1))) g 0 acc∧acc.length≤vc):=by
     have hne:g≠rp:=by have:=HRB.out;omega
     have hk2:(w2.setCell ⟨rp,2,none⟩ (zI ((sp:Int)+1))).heap[g]?=w2.heap[g]?:=aL _ _ _ _ hne;exact⟨⟨by simp[World.setCell];exact hWA.1.1,fun j hj=>⟨by rw[aW (w:=w2) (a:=⟨g,0+j*2,none⟩) hk2];exact(hWA.1.2 j hj).1,by rw[aW (w:=w2) (a:=⟨g,0+j*2+1,none⟩) hk2];exact(hWA.1.2 j hj).2⟩⟩,hWA.2⟩
    have e2:IntKind.i64.wrap ((sp:Int)+1)=(sp:Int)+1:=by simp[IntKind.wrap,IntKind.bits,IntKind.signed];omega
    have HZA:Hid (∀x∈acc,x.1≤4000∧x.2.size≤2000):=fun x hx=>by
     have h1:=CR hacc x hx;have h2:=HZ.out l[k] (bL hlt);omega
    have HNE:Hid (acc≠[]):=he;clear hown hb2 hacc hWA hgb he HS2 HS
    go_wp2_with fail
    clear hc2 hf2 e2 hnI hnq;generalize w2.setCell ⟨rp,2,none⟩ (zI ((sp:Int)+1))=W3 at*;have HLS:=G5 acc HNE.out (sp==0) (gy (good.map bZ) acc) ((0:Nat)==20)
    have HLI:Hid ((Tx.slip true ipF (sp==0) (gy (good.map bZ) acc) ((0:Nat)==20) (aC acc)=none∧(∀k,2≤k→k≤9→fU acc (gy (good.map bZ) acc) k=-1)∧acc.length=2∧(acc.getD 0 pad).2=eJ∧(Pv.parse (acc.getD 1 pad).2.data.toList).isSome=true∧gy (good.map bZ) acc=false)∨
      (∃a k:Nat,Tx.slip true ipF (sp==0) (gy (good.map bZ) acc) ((0:Nat)==20) (aC acc)=some (a,k)∧2≤k∧k≤9∧fU acc (gy (good.map bZ) acc) k=(a:Int)∧∀j,2≤j→j<k→fU acc (gy (good.map bZ) acc) j=-1)):=HLS
    clear HLS;generalize hat:fU acc (gy (good.map bZ) acc)=AT at*;have HAT:Hid (fU acc (gy (good.map bZ) acc)=AT):=hat;clear hat;go_loopg [6,10] 8 (fun gg l6 kv wx=>∃j:Nat,lv0=l6∧2≤j∧j≤10∧10-j≤gg∧kv=zI j∧Hid (∀i,2≤i→i<j→AT i=-1)∧zB W3 wx)
    case atStart=>exact⟨2,rfl,by omega,by omega,by omega,rfl,fun i h1 h2=>(by omega),ae _ _⟩
    case round=>
     obtain⟨j,h6,hj2,R4,hgj,rfl,HLow,hbx⟩:=hrel;subst h6;have HSx:Hid (Rs w1 rp w.heap.size sv lv0 (good.map bZ) au (sp+1) wr):=HS3.out.below hbx;by_cases hj9:j≤9
     ·have kk:=CQ rp (sp+1) g vc w.heap.size w1.heap.size j sv _ _ acc wr (HSx.out.ml HML1.out ⟨HRL.out.2,HM0.out.1⟩) HSx.out.rd (HW3.out.1.below hbx) HNE.out HW3.out.2 HZA.out hj2 hj9 (by rw[HAT.out];exact HLow.out)
      rw[HAT.out] at kk;have Pk:(j:Int)≤9:=by omega
      by_cases hr:AT j=-1
      ·rw[hr] at kk
       have J7:Hid (∀i,2≤i→i<j+1→AT i=-1):=fun i h1 h2=>by
        by_cases e:i=j
        ·rw[e];exact hr
        ·exact HLow.out i h1 (by omega)
       clear hr HSx
       go_wp2_with (go_at_call 124;fail)
       go_at_call 124;refine kk.mono ?_;rintro e w4 ⟨rfl,hb4⟩;have hb5:zB W3 w4:=hbx.trans (hb4.mono hbx.size);clear kk hb4;go_wp2;go_roundg (10-(j+1))
       case measure=>omega
       case rel=>exact⟨j+1,rfl,by omega,by omega,by omega,by go_num,J7,hb5⟩
      ·obtain⟨a,hsl,haj⟩:∃a:Nat,Tx.slip true ipF (sp==0) (gy (good.map bZ) acc) ((0:Nat)==20) (aC acc)=some (a,j)∧AT j=(a:Int):=by
        rcases HLI.out with⟨_,h,_⟩|⟨a,q,h1,h2,h3,h4,h5⟩
        ·exact absurd (h j hj2 hj9) hr
        ·have e:q=j:=by
          rcases Nat.lt_trichotomy q j with e|e|e
          ·have:=HLow.out q h2 e;rw[h4] at this;omega
          ·exact e
          ·exact absurd (h5 j hj2 e) hr
         subst e;exact⟨a,h1,h4⟩
       rw[haj] at kk;have HLn:Hid (Left R l (k+1) good (au++[(k+1,a,j)]) (sp+1)):=HL.out.slip hlt HAC.out HNE.out hsl;have haI:((a:Int)==-1)=false:=by rw[eH];omega
       have haN:¬((a:Int)=-1):=by omega
       have R5:au.length≤2001:=by have:=HL.out.2.2.2;omega
       clear hr haj hsl
       go_wp2_with (go_at_call 124;fail)
       go_at_call 124;refine kk.mono ?_;rintro e w4 ⟨rfl,hb4⟩;have HS4:Hid (Rs w1 rp w.heap.size sv lv0 (good.map bZ) au (sp+1) w4):=HSx.out.below hb4;clear kk hb4 HSx hbx;have hBs:=HS4.out.rd.lt.2.2.1
       go_wp2_with (at_builtin;refine dU _ rfl _ _ 38 rfl w1.heap.size 45 i9 (.agg #[zI 0,zI 0,zI 0]) 3 24 underlying38 HI.out.1 HI.out.2.1 HI.out.2.2.1 HI.out.2.2.2 rfl (by decide) _ _ _ rfl (HS4.out.os.alloc _) ⟨w4.heap.size,0,none⟩ 1 1 [zI (k+1),zI a,zI j] rfl rfl ?_ ?_ ?_ ?_ ?_ ?_)
       all_goals first
        |exact fg _ _ _ _ _
        |(show ∀u∈[Value.int .i64 ((k:Int)+1),Value.int .i64 a,Value.int .i64 j],u.oneCell'=true;intro u hu;simp at hu;rcases hu with rfl|rfl|rfl<;>rfl)
        |(show au.length+1≤maxLen;unfold maxLen;omega)
        |(show(au.length+1)*24≤140737488355328;omega)
        |(show w1.heap.size≤(w4.alloc _).heap.size;simp;omega)
        |skip
       intro lv1 w5 hown' hgrow _ hloc
       have HS5:Hid (Rs w1 rp w.heap.size sv lv1 (good.map bZ) (au++[(k+1,a,j)]) (sp+1) w5):=HS4.out.slip _ (k+1,a,j) hown' hgrow (by
        rcases hloc with e|e
        ·exact Or.inl e
        ·exact Or.inr (by rw[e];simp))
       clear hown' hgrow hloc HS4;go_wp2;go_roundg (l.length-(k+1))
       case measure=>omega
       case rel=>exact⟨k+1,good,au++[(k+1,a,j)],sp+1,sv,lv1,rfl,by omega,by omega,by go_num,by omega,HS5,HLn⟩
     ·have Pk:¬((j:Int)≤9):=by omega
      have hje:j=10:=by omega
      obtain⟨hsl,h2,hbv,hp,hdu⟩:Tx.slip true ipF (sp==0) (gy (good.map bZ) acc) ((0:Nat)==20) (aC acc)=none∧acc.length=2∧(acc.getD 0 pad).2=eJ∧(Pv.parse (acc.getD 1 pad).2.data.toList).isSome=true∧gy (good.map bZ) acc=false:=by
       rcases HLI.out with⟨h1,_,h3,h4,h5,h6⟩|⟨a,q,_,h2,h3,h4,_⟩
       ·exact⟨h1,h3,h4,h5,h6⟩
       ·have:=HLow.out q h2 (by omega)
        rw[h4] at this;omega
      have hT:sg (k+1,acc):=⟨h2,by rw[Ni];exact hbv,hp⟩;have HLn:Hid (Left R l (k+1) (good++[(k+1,acc)]) au (sp+1)):=HL.out.kept hlt HAC.out HNE.out hT hsl;have h1':1<acc.length:=by omega
      have EG:=HW3.out.1.below hbx
      have QD:cQ wr g (acc.getD 0 pad).1 eJ:=by
       have h:=EG.2 0 (by omega);have hg0:acc.getD 0 pad=acc[0]:=getD_at (by omega);rw[hg0] at hbv ⊢;exact⟨by simpa using h.1,by rw[←hbv];simpa using h.2⟩
      have hc3:wr.cell? ⟨g,3,none⟩=some (.string (acc.getD 1 pad).2):=by
       have h:=(EG.2 1 h1').2;rw[getD_at h1'];simpa using h
      have hv2:(acc.getD 1 pad).2.size≤2000:=by rw[getD_at h1'];exact(HZA.out _ (bL h1')).2
      have hgl:=HL.out.2.2.1;have kt:=xj rp (sp+1) g vc (acc.getD 0 pad).1 w.heap.size w1.heap.size (k+1) sv (good.map bZ) (acc.getD 1 pad).2 wr hv2 (by rw[bE];omega) (by omega) HSx.out.rd QD hc3
      have HWd:Hid (good.map bZ++[(acc.getD 1 pad).2]=(good++[(k+1,acc)]).map bZ):=by
       show _=_;rw[eQ];rfl
      rw[HWd.out] at kt;rw[h2];clear hT hsl hbv hp hdu QD hc3 hv2 EG HLI HAT
      go_wp2_with (go_at_call 125;fail)
      go_at_call 125;refine kt.mono ?_;rintro e w4 ⟨sv2,rfl,hrd,hfr,hat⟩
      have HS5:Hid (Rs w1 rp w.heap.size sv2 lv0 ((good++[(k+1,acc)]).map bZ) au (sp+1) w4):=by
       show Rs w1 rp w.heap.size sv2 lv0 _ au (sp+1) w4;rw[←HWd.out] at hrd ⊢;exact HSx.out.keep hrd hfr hat
      clear hrd hfr hat kt HSx;go_wp2;go_roundg (l.length-(k+1))
      case measure=>omega
      case rel=>exact⟨k+1,good++[(k+1,acc)],au,sp+1,sv2,lv0,rfl,by omega,by omega,by go_num,by omega,HS5,HLn⟩
  ·have hke:k=l.length:=by omega
   have gN:¬((k:Int)<(l.length:Int)):=by omega
   have hLd:=HL.out
   have CU:(⟨eI good,au,sp,0⟩:Tx.Got)=R:=by
    have h:=hLd.1;rw[hke,List.drop_length] at h;exact h
   have hc1:wr.cell? ⟨rp,1,none⟩=some (zE):=HS.out.rd.rd.2.1;have hc2:wr.cell? ⟨rp,2,none⟩=some (zI sp):=HS.out.rd.rd.2.2.1;have hc5:wr.cell? ⟨rp,5,none⟩=some sv:=HS.out.rd.fs.1
   have HF:Hid (Fr (fun b=>b=rp) w wr):=by
    have h1:=HFW.out;have h2:=HS.out.fr;refine⟨h2.os.trans h1.os,h2.tape.trans h1.tape,h2.output.trans h1.output,aP h1.size h2.size,fun b hb hn=>?_⟩;rw[h2.block b (bI hb h1.size) (fun e=>by rcases e with e|e;exact hn e;omega)];exact h1.block b hb hn
   have HO:Hid (wr.ownsRow w.heap.size 45 3 lv0 au.length (dF au)∧wr.ownsRow w.heap.size 155 4 sv good.length (bU (good.map bZ))):=by
    have h1:=HS.out.os;have h2:=HS.out.rd.own;rw[bE] at h2;refine⟨⟨h1.1,?_⟩,⟨h2.1,?_⟩⟩
    ·rcases h1.2 with hn|⟨g,cap,cur,hv,hg,rest⟩
     ·exact .inl hn
     ·exact .inr ⟨g,cap,cur,hv,HWB.out g hg,rest⟩
    ·rcases h2.2 with hn|⟨g,cap,cur,hv,hg,rest⟩
     ·exact .inl hn
     ·exact .inr ⟨g,cap,cur,hv,HWB.out g hg,rest⟩
   have HFin:Hid (R=⟨eI good,au,sp,0⟩∧(∀g∈good,sg g)∧good.length≤2001∧au.length≤2001):=⟨CU.symm,hLd.2.1,by have:=hLd.2.2.1;omega,by have:=hLd.2.2.2;omega⟩;clear CU hLd HL HS hke;obtain⟨la,lc,rfl⟩:=ay HO.out.1;by_cases hsl:au=[]
   ·subst hsl
    have hq0:¬((([]:List (Nat×Nat×Nat)).length:Int)>0):=by simp
    go_wp2
    (try rw[fD])
    go_ret2;exact⟨good,[],sp,_,_,rfl,HFin.out.1,HFin.out.2.1,HFin.out.2.2.1,HFin.out.2.2.2,HF.out,Or.inr ⟨rfl,rfl,HO.out.2⟩⟩
   ·have hq0:(0:Int)<(au.length:Int):=by have:=gp.2 hsl;omega
    have HSL:Hid (au≠[]):=hsl;clear hsl;go_wp2
    (try rw[fD])
    go_ret2;exact⟨good,au,sp,_,_,rfl,HFin.out.1,HFin.out.2.1,HFin.out.2.2.1,HFin.out.2.2.2,HF.out,Or.inl ⟨HSL.out,rfl,HO.out.1⟩⟩
