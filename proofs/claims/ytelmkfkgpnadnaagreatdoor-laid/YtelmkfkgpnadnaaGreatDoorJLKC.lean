import Derived.Test.YtelmkfkgpnadnaaGreatDoorJLK5
import Derived.Test.YtelmkfkgpnadnaaGreatDoorJPNC
import Derived.Deep.WholeRow
set_option linter.all false
namespace Go.Proofs.YtelmkfkgpnadnaaGreatDoor
open Go.RowKit
namespace Lk
open Mf Ed Rn
open Pn (aA e0 gi ai fP lh xS Rc eh eL RdA)
def Ru(f:Nat→Bool)(p:Nat)(x:Bool)(q:Nat):Bool:=if q=p then x else f q
variable{wc:Nat→List Nat}{Q ml:List Nat}{i:Nat}
end Lk
namespace Lk
open Mf Ed Rn
open Pn (aA e0 gi ai fP lh xS Rc eh eL RdA fy)
theorem AE{its:List It}(h:eK its):its.map mR=(its.map fP).map aA:=by
 rw[ij];exact kO (fun x hx=>(xS (h.ok x hx)).symm)
variable{w wr W:zW}{rv:zV}{Q ml:List Nat}
theorem Mn{W:zW}{b:Nat}{c:Array zV}{t:TypeId}(h:W.heap[b]?=some (.cells c t))(c':Array zV):(W.setRow b c').heap[b]?=some (.cells c' t):=by
 simp only[World.setRow,ox,h];simp
theorem Mr(W:zW)(b:Nat)(c':Array zV):aj (fun x=>x=b) W (W.setRow b c'):=
 ⟨rfl,rfl,rfl,by simp[World.setRow],fun k _ hk=>by simp only[World.setRow,ox];rw[af (fun e=>hk e.symm)]⟩
end Lk
namespace Lk
open Mf Ed Rn
open Pn (aA e0 gi ai fP lh xS Rc eh eL RdA fy)
variable{w wr W:zW}{rv:zV}{Q:List Nat}{S:Nat→Int}
theorem Ms{B n:Nat}{a:Option Addr}{c:Nat}(h:wr.ownsRow B 29 2 (.slice a n c) Q.length (mcs (Q.map aA))){i x:Nat}(hx:Q[i]?=some x):∃b o,a=some ⟨b,o,none⟩∧∀W,zB wr W→W.cell? ⟨b,o+i*2,none⟩=some (.string (aA x).1)∧W.cell? ⟨b,o+i*2+1,none⟩=some (.string (aA x).2):=by
 have hlt:=(cq.1 hx).1;have hrd:=BV h (bE _).symm
 have e1:(Q.map aA)[i]! =aA x:=by
  rw[bC _ i (by rw[bE];exact hlt),jR];rw[aO hlt] at hx;injection hx with hx;rw[hx]
 obtain⟨b,o,cc,eg,_,_⟩:=pz hrd (ae _ _) i (by rw[bE];exact hlt);injection eg with eg1 _ _;refine⟨b,o,eg1,fun W hW=>?_⟩;obtain⟨b2,o2,cc2,eg2,y0,y1⟩:=pz hrd hW i (by rw[bE];exact hlt);injection eg2 with BZ _ _;rw[eg1] at BZ;injection BZ with BZ;injection BZ with e2 e3 _;rw[e1,←e2,←e3] at y0 y1;exact⟨y0,y1⟩
theorem OD(T:List Int)(LL:List (List Int))(c y:Nat)(hy:y∈eh (aN T T.length) (bN LL) c):y<28:=by
 obtain⟨x,hx,rfl⟩:=bD.1 hy
 have:eK (eL (aN T T.length) (bN LL) c):=by
  unfold eL
  split
  ·exact iL T _ (ag _)
  ·exact kG _ _ _
 exact lh (this.ok x hx)
end Lk
namespace Lk
open Mf Ed Rn
open Pn (aA e0 fP Rc eh eL Whl upd ax Shf)
structure jH(wc:Nat→List Nat)(cds:List Nat):Prop where
 up:cds.Pairwise fun a b=>a/4<b/4
 mem:∀c,c∈cds↔Rc wc c∧∀c',Rc wc c'→c'/4=c/4→c'≤c
 le:∀c,Rc wc c→c≤28
variable{wc wc2:Nat→List Nat}{cds TI:List Nat}
theorem jH.bl(h:jH wc cds):Bl cds:=
 ⟨h.up,fun c hc=>h.le c ((h.mem c).1 hc).1,(h.mem 28).2 ⟨.root,fun c' h' _=>h.le c' h'⟩⟩
theorem Ei{p:Nat}(h:∀c∈cds,c/4≠p):eB cds p=-1:=by
 unfold eB;rw[lH.2 (fun c hc=>by simpa using h c hc)]
theorem tC(h:jH wc cds){c:Nat}(hc:c∈cds):eB cds (c/4)=((c%4:Nat):Int):=by
 unfold eB;cases hf:cds.find? (fun x=>x/4==c/4) with
 |none=>have:=lH.1 hf c hc;simp at this
 |some x=>
  have hx:=List.mem_of_find?_eq_some hf;have hxe:x/4=c/4:=by simpa using List.find?_some hf
  have h1:=((h.mem x).1 hx).2 c ((h.mem c).1 hc).1 hxe.symm;have h2:=((h.mem c).1 hc).2 x ((h.mem x).1 hx).1 hxe;have:x=c:=by omega
  simp[this]
theorem Qm(l:List Nat)(p:Nat):-1≤eB l p:=by
 unfold eB
 split<;>omega
theorem B0(h:jH wc cds){y:Nat}(hy:Rc wc y):∃c∈cds,c/4=y/4∧y≤c:=by
 have key:∀n y,y/4*4+4-y≤n→Rc wc y→∃c∈cds,c/4=y/4∧y≤c:=fun n=>by
  induction n with
  |zero=>intro y hn _;omega
  |succ n ih=>
   intro y hn hy;by_cases hm:∀c',Rc wc c'→c'/4=y/4→c'≤y
   ·exact⟨y,(h.mem y).2 ⟨hy,hm⟩,rfl,ag _⟩
   ·have hm:∃c',Rc wc c'∧c'/4=y/4∧y<c':=by
     refine mN (fun k=>hm (fun c' h1 h2=>?_));rcases Nat.lt_or_ge y c' with h3|h3
     ·exact absurd ⟨c',h1,h2,h3⟩ k
     ·exact h3
    obtain⟨c',h1,h2,h3⟩:=hm;obtain⟨c,q1,q2,q3⟩:=ih c' (by omega) h1;exact⟨c,q1,by omega,by omega⟩
 exact key _ y (ag _) hy
theorem Mt(h:jH wc cds){y:Nat}(hy:Rc wc y):((y%4:Nat):Int)≤eB cds (y/4):=by
 obtain⟨c,q1,q2,q3⟩:=B0 h hy;rw[←q2,tC h q1];omega
theorem FE{s:Shf}{top:List It}{R:Nat→Nat→List It}(h:Whl s top R):∃cds:List Nat,Pn.val s ⟨3,e0,e0⟩=.list (cds.map aA) []∧jH (eh top R) cds:=by
 obtain⟨cds,h1,h2,h3⟩:=Pn.EW h;exact⟨cds,h1,h2,h3,fun c hc=>hc.le (Pn.xT h)⟩
end Lk
namespace Lk
open Mf Ed Rn
open Pn (aA e0 ai fP Rc eh eL Whl upd kF ax Shf EgW Qj tq eO RdA fy rL)
def Rx(x:Int):List zV:=[zI x]
def RdX{α:Type}(enc:α→List zV)(w:zW)(v:zV)(L:List α):Prop:=
 (v=zN∧L=[])∨∃(ad:Addr)(c:Nat),v=.slice (some ad) L.length c∧∀j u,(L.flatMap enc)[j]?=some u→w.cell? (ad.add j)=some u
abbrev z7:Array zV:=bo (fun _=>0)
theorem SJ(f:Nat→Int):(bo f).all (·.oneCell')=true:=by simp[bo,Value.oneCell']
