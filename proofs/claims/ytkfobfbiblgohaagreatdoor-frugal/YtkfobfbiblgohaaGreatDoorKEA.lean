import Derived.Test.YtkfobfbiblgohaaGreatDoorKQA
set_option linter.all false
open Go.Proofs.Tryz
set_option maxRecDepth 100000
set_option maxHeartbeats 1000000
namespace Go.Proofs.YtkfobfbiblgohaaGreatDoor
open Go.RowKit
section
variable{w w':zW}
def bH(p v:zA):Int:=if Pv.aG p.data.toList=false then 2 else if v.size≠0/\(Pv.parse v.data.toList).isSome=false then 3 else 0
theorem EZ{v:zV}{E:List zA}(h:kR w v E):∃F n k,v=.slice F n k:=by
 rcases h with⟨_,h⟩|⟨b,c,h,_⟩
 ·exact⟨_,_,_,h⟩
 ·exact⟨_,_,_,h⟩
theorem ry(v:zA):(v.toList==[])=decide (v.size=0):=by
 rw[fc,cr];cases v.data.toList<;>simp
theorem nQ(p v:zA)(w:zW)(hm:Ml w)(hp:p.size<4294967281):
  zC 61 #[tS p,tS v] w fun e w'=>e=.returned (zI (bH p v))/\zB w w':=by
 have k1:=jo p w hm hp
 have U:∀W,zB w W->zC 76 #[tS v] W fun e w'=>∃(i0 i1 i2:Int)(Y:Option Addr)(n k:Nat),e=.returned (.tuple #[.agg #[zI i0,zI i1,zI i2,.slice Y n k],.bool (Pv.parse v.data.toList).isSome])/\zB W w':=fun W hb=>by
  cases hv:Pv.parse v.data.toList with
  |none=>
   refine(parseVersion_none v W (hm.below hb) hv).mono ?_;rintro e w' ⟨rfl,h⟩;exact⟨_,_,_,_,_,_,rfl,h⟩
  |some y=>
   obtain⟨_,_,_,_,_,_,_,k⟩:=parseVersion_some v W (hm.below hb) y hv;refine k.mono ?_;rintro e w' ⟨sl,rfl,h,hs⟩;obtain⟨Y,n,k,rfl⟩:=EZ hs;exact⟨_,_,_,_,_,_,rfl,h⟩
 have F:Hid (bH p v=if Pv.aG p.data.toList=false then 2 else if v.size≠0/\(Pv.parse v.data.toList).isSome=false then 3 else 0):=rfl;have he:=ry v;clear hm;generalize bH p v=r at*;generalize Pv.aG p.data.toList=a at*;generalize (Pv.parse v.data.toList).isSome=b at*;go_enter func61,ntmps61
 go_wp2_with (go_at_call 56;fail)
 go_at_call 56;refine k1.mono ?_;rintro e1 w1 ⟨rfl,E⟩;clear k1;have U:=U w1 E;cases a
 ·have M:Hid (2=r):=by rw[F.out];rfl
  clear F he U;go_wp2;go_ret;exact⟨ft M.out,E⟩
 ·go_wp2_with (go_at_call 76;fail)
  go_at_call 76;refine U.mono ?_;rintro e2 w2 ⟨i0,i1,i2,Y,nn,kk,rfl,T⟩;have O:=zH (E.trans (T.mono E.size));clear U E T;by_cases V:v.size=0
  ·have M:Hid (0=r):=by show 0=r;rw[F.out,ag (by decide),ag (fun h=>h.1 V)]
   rw[bB V] at he;clear F;cases b
   all_goals
    go_wp2;go_ret;exact⟨ft M.out,O.out.alloc O.out.size _⟩
  ·rw[bD V] at he
   cases b
   ·have M:Hid (3=r):=by show 3=r;rw[F.out,ag (by decide),aj ⟨V,rfl⟩]
    clear F;go_wp2;go_ret;exact⟨ft M.out,O.out.alloc O.out.size _⟩
   ·have M:Hid (0=r):=by show 0=r;rw[F.out,ag (by decide),ag (fun h=>absurd h.2 (by decide))]
    clear F;go_wp2;go_ret;exact⟨ft M.out,O.out.alloc O.out.size _⟩
end
namespace Ed
variable{w w':zW}
structure Tt where
 path:zA
 ver:zA
 s:zA
def hit(p v:zA)(x:Tt):Bool:=x.path.toList==p.toList&&x.ver.toList==v.toList
end Ed
namespace Ed
variable{w w':zW}
def Fd(W:zW)(b o:Nat)(u:zV):Prop:=W.cell? (tD b o)=some u/\W.frozen? (tD b o)=false
theorem Fd.of_block{W W':zW}{b o:Nat}{u:zV}(h:Fd W b o u)(e:W'.heap[b]?=W.heap[b]?):Fd W' b o u:=
 ⟨by rw[bg (w:=W) (a:=(tD b o)) e];exact h.1,by rw[gy (w:=W) (a:=(tD b o)) e];exact h.2⟩
theorem Fd.set{W:zW}{b o o':Nat}{u v:zV}(h:Fd W b o u)(E:o≠o'):Fd (W.setCell (tD b o') v) b o u:=
 ⟨by rw[cH _ _ _ _ (fun e=>E (by injection e with _ e;exact e.symm))];exact h.1,by rw[dX];exact h.2⟩
theorem Fd.lt{W:zW}{b o:Nat}{u:zV}(h:Fd W b o u):b<W.heap.size:=aY W _ h.1
def cK(l:List Tt)(t:Tt)(most:Nat):List Tt×Int×Nat:=
 match l.findIdx? (hit t.path t.ver) with
 |none=>if most<=l.length then (l,4,0) else (l++[t],0,1)
 |some i=>if ((l.getD i t).s.toList==t.s.toList)=true then (l,0,0) else (l.modify i (fun x=>{x with s:=t.s}),0,1)
end Ed
namespace Ed
variable{w w':zW}
variable{B I G:Nat}{mv J:zV}{ms ix:List Tt}{root:zA}
def lW(l:List Tt)(t:Tt)(most:Nat)(err:Int):List Tt×Int×Nat:=if err=0 then cK l t most else (l,err,0)
end Ed
namespace Ed
variable{w w':zW}{B I G:Nat}{mv J:zV}{ms ix:List Tt}{root:zA}
def dE(l:List Tt)(p v:zA)(err:Int):List Tt×Nat:=
 if err=0 then (match l.findIdx? (hit p v) with|some i=>(l.eraseIdx i,1)|none=>(l,0)) else (l,0)
def iD(p:zA):Int:=if p.size≠0/\Pv.aG p.data.toList=false then 2 else 0
def rootOf(root p:zA):zA×Nat:=if iD p=0 then (if (p.toList==root.toList)=true then (root,0) else (p,1)) else (root,0)
