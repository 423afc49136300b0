import Derived.Test.YtelmkfkgpnadnaaGreatDoorJQA
import Derived.Test.YtelmkfkgpnadnaaGreatDoorJFA
import Derived.Test.YtelmkfkgpnadnaaGreatDoorJPure
import Derived.Test.YtelmkfkgpnadnaaGreatDoorJDB
import Derived.Test.YtelmkfkgpnadnaaGreatDoorJWA
import Derived.Deep.LoopGhost
set_option linter.all false
open Go.Proofs.Tryz
set_option maxRecDepth 100000
set_option maxHeartbeats 1000000
namespace Go.Proofs.YtelmkfkgpnadnaaGreatDoor
open Go.RowKit
section
variable{w w':zW}
def dC(p v:zA):Int:=if Pv.aH p.data.toList=false then 2 else if v.size≠0∧(Pv.parse v.data.toList).isSome=false then 3 else 0
theorem EN{v:zV}{ids:List zA}(h:kL w v ids):∃ad n k,v=.slice ad n k:=by
 rcases h with⟨_,h⟩|⟨b,c,h,_⟩
 ·exact⟨_,_,_,h⟩
 ·exact⟨_,_,_,h⟩
theorem rD(v:zA):(v.toList==[])=decide (v.size=0):=by
 rw[dV,bT];cases v.data.toList<;>simp
theorem vX(p v:zA)(w:zW)(hm:Ml w)(hp:p.size<4294967281):
  zC 109 #[.string p,.string v] w fun e w'=>e=.returned (zI (dC p v))∧zB w w':=by
 have k1:=kX p w hm hp
 have k2:∀W,zB w W→zC 153 #[.string v] W fun e w'=>∃(i0 i1 i2:Int)(ad:Option Addr)(n k:Nat),e=.returned (.tuple #[.agg #[zI i0,zI i1,zI i2,.slice ad n k],.bool (Pv.parse v.data.toList).isSome])∧zB W w':=fun W hb=>by
  cases hv:Pv.parse v.data.toList with
  |none=>
   refine(parseVersion_none v W (hm.below hb) hv).mono ?_;rintro e w' ⟨rfl,h⟩;exact⟨_,_,_,_,_,_,rfl,h⟩
  |some y=>
   obtain⟨_,_,_,_,_,_,_,k⟩:=parseVersion_some v W (hm.below hb) y hv;refine k.mono ?_;rintro e w' ⟨sl,rfl,h,hs⟩;obtain⟨ad,n,k,rfl⟩:=EN hs;exact⟨_,_,_,_,_,_,rfl,h⟩
 have HN:Hid (dC p v=if Pv.aH p.data.toList=false then 2 else if v.size≠0∧(Pv.parse v.data.toList).isSome=false then 3 else 0):=rfl;have he:=rD v;clear hm;generalize dC p v=r at*;generalize Pv.aH p.data.toList=a at*;generalize (Pv.parse v.data.toList).isSome=b at*;go_enter func109,ntmps109
 go_wp2_with (go_at_call 147;fail)
 go_at_call 147;refine k1.mono ?_;rintro e1 w1 ⟨rfl,hb1⟩;clear k1;have k2:=k2 w1 hb1;cases a
 ·have HF:Hid (2=r):=by rw[HN.out];rfl
  clear HN he k2;go_wp2;go_ret;exact⟨gh HF.out,hb1⟩
 ·go_wp2_with (go_at_call 153;fail)
  go_at_call 153;refine k2.mono ?_;rintro e2 w2 ⟨i0,i1,i2,ad,nn,kk,rfl,hb2⟩;have HB:Hid (zB w w2):=hb1.trans (hb2.mono hb1.size);clear k2 hb1 hb2;by_cases h0:v.size=0
  ·have HF:Hid (0=r):=by show 0=r;rw[HN.out,af (by decide),af (fun h=>h.1 h0)]
   rw[cT h0] at he;clear HN;cases b
   all_goals
    go_wp2;go_ret;exact⟨gh HF.out,HB.out.alloc HB.out.size _⟩
  ·rw[bK h0] at he
   cases b
   ·have HF:Hid (3=r):=by show 3=r;rw[HN.out,af (by decide),ah ⟨h0,rfl⟩]
    clear HN;go_wp2;go_ret;exact⟨gh HF.out,HB.out.alloc HB.out.size _⟩
   ·have HF:Hid (0=r):=by show 0=r;rw[HN.out,af (by decide),af (fun h=>absurd h.2 (by decide))]
    clear HN;go_wp2;go_ret;exact⟨gh HF.out,HB.out.alloc HB.out.size _⟩
end
namespace Ed
variable{w w':zW}
structure Tt where
 path:zA
 ver:zA
 s:zA
def hit(p v:zA)(x:Tt):Bool:=x.path.toList==p.toList&&x.ver.toList==v.toList
end Ed
namespace Ed
variable{w w':zW}
def Fd(W:zW)(b o:Nat)(u:zV):Prop:=W.cell? ⟨b,o,none⟩=some u∧W.frozen? ⟨b,o,none⟩=false
theorem Fd.of_block{W W':zW}{b o:Nat}{u:zV}(h:Fd W b o u)(e:W'.heap[b]?=W.heap[b]?):Fd W' b o u:=
 ⟨by rw[aW (w:=W) (a:=⟨b,o,none⟩) e];exact h.1,by rw[gf (w:=W) (a:=⟨b,o,none⟩) e];exact h.2⟩
theorem Fd.set{W:zW}{b o o':Nat}{u v:zV}(h:Fd W b o u)(hne:o≠o'):Fd (W.setCell ⟨b,o',none⟩ v) b o u:=
 ⟨by rw[cB _ _ _ _ (fun e=>hne (by injection e with _ e;exact e.symm))];exact h.1,by rw[dT];exact h.2⟩
theorem Fd.lt{W:zW}{b o:Nat}{u:zV}(h:Fd W b o u):b<W.heap.size:=aU W _ h.1
def cC(l:List Tt)(t:Tt)(most:Nat):List Tt×Int×Nat:=
 match l.findIdx? (hit t.path t.ver) with
 |none=>if most≤l.length then (l,4,0) else (l++[t],0,1)
 |some i=>if ((l.getD i t).s.toList==t.s.toList)=true then (l,0,0) else (l.modify i (fun x=>{x with s:=t.s}),0,1)
end Ed
namespace Ed
variable{w w':zW}
variable{B eb rev:Nat}{mv iv:zV}{ms ix:List Tt}{root:zA}
def mo(l:List Tt)(t:Tt)(most:Nat)(err:Int):List Tt×Int×Nat:=if err=0 then cC l t most else (l,err,0)
end Ed
namespace Ed
variable{w w':zW}{B eb rev:Nat}{mv iv:zV}{ms ix:List Tt}{root:zA}
def iu(p:zA):Int:=if p.size≠0∧Pv.aH p.data.toList=false then 2 else 0
def rootOf(root p:zA):zA×Nat:=if iu p=0 then (if (p.toList==root.toList)=true then (root,0) else (p,1)) else (root,0)
