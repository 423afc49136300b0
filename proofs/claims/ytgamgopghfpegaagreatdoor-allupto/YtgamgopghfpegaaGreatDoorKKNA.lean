import Derived.Test.YtgamgopghfpegaaGreatDoorKPME
import Derived.StillTail
set_option linter.all false
open Go.Proofs.Tryz
set_option maxRecDepth 100000
namespace Go.Proofs.YtgamgopghfpegaaGreatDoor
section
open Go.RowKit
namespace Pn
open Mf Ed
structure Knd(Y t sz:Nat){α:Type}(enc:α→List zV):Prop where
 un:prog.underlying Y=some (.slice t)
 io:∃i z b,prog.info? t=some i∧i.zero=some z∧i.size=sz∧i.bytes=b∧z.cells.size=sz∧b≤64
 ps:0<sz
 ln:∀x,(enc x).length=sz
 on:∀x,∀u∈enc x,u.oneCell'=true
theorem kM:Knd 55 68 2 Sm.mc:=by
 obtain⟨i,h⟩:=Bm.eD 68 (.agg #[zE,zE]) 2 32 aB;exact⟨underlying55,⟨i,_,_,h.1,h.2.1,h.2.2.1,h.2.2.2,rfl,aA⟩,aA,fun _=>rfl,fun x u f=>by simp[Sm.mc] at f;rcases f with rfl|rfl<;>rfl⟩
theorem kP:Knd 56 72 3 aZ:=by
 obtain⟨i,h⟩:=Bm.eD 72 (.agg #[.int .i64 0,zE,zE]) 3 40 aB;exact⟨underlying56,⟨i,_,_,h.1,h.2.1,h.2.2.1,h.2.2.2,rfl,aA⟩,aA,fun _=>rfl,fun x u f=>by simp[aZ] at f;rcases f with rfl|rfl|rfl<;>rfl⟩
theorem kS:Knd 57 9 1 dU:=by
 obtain⟨i,h⟩:=Bm.eD 9 (zE) 1 16 aB;exact⟨underlying57,⟨i,_,_,h.1,h.2.1,h.2.2.1,h.2.2.2,rfl,aA⟩,aA,fun _=>rfl,fun x u f=>by simp[dU] at f;rw[f];rfl⟩
variable{w w' W G:zW}{v J u:zV}{n k:Nat}{xs:List zV}
abbrev Nr(W:zW)(v J:zV):Prop:=∀b,J.ownBlock=some b→v.ownBlock=some b∨W.heap.size≤b
abbrev Ow(v:zV)(b:Nat):Prop:=v.ownBlock=some b
def Ro{α:Type}(t sz:Nat)(enc:α→List zV)(n:Nat)(W:zW)(v:zV)(Z:List α):Prop:=W.ownsRow n t sz v Z.length (Z.flatMap enc)
variable{α:Type}{enc:α→List zV}{Y t sz:Nat}{Z:List α}
theorem Ro.nil:Ro t sz enc n W (zN) []:=iM _ _ _ _
theorem Ro.lt(h:Ro t sz enc n W v Z):∀b,Ow v b→n≤b∧b<W:=World.ownsRow.lt h
theorem Ro.block(h:Ro t sz enc n W v Z)(f:∀b,Ow v b→G.heap[b]?=W.heap[b]?):Ro t sz enc n G v Z:=ar h f
theorem Ro.below(h:Ro t sz enc n W v Z)(f:Below W W G):Ro t sz enc n G v Z:=h.block fun b e=>f.block b (h.lt b e).2
theorem Ro.rd{A}(K:Knd Y t sz enc)(h:Ro t sz enc n W v Z)(f:∀b,A b→b<n):RdA A enc W v Z:=RdA.own h rfl K.ln f
theorem Ro.len(h:Ro t sz enc n W v Z):∃a c,v=.slice a Z c:=aC h
theorem app1(K:Knd Y t sz enc)x{I}{rest}{o}{a}{Q}(E:o.guard=none)s y
  (ho:o.op=.call {callee:=.builtin .append,args:=#[s,y],argTypes:=#[Y,Y]}) (hs:a.eval s=v) {g:Nat} (hy:a.eval y=.slice (some (g,0)) 1 1) (D:g=W)
  (h:Ro t sz enc n W v Z) (hl:Z.length≤100000000) (hn:n≤W)
  (k:∀J G,Ro t sz enc n G J (Z++[x])→aj (Ow v) W G→Nr W v J→wpList prog I Q rest (a.put o.dst J) G):
  wpList prog I Q (o::rest) a (W.alloc (.cells (enc x).toArray t)):=by
 subst D;obtain⟨i,z,b,M,O,R,S,T,U⟩:=K.io;have h:W.ownsRow n t sz v _ _:=h;refine bO _ E s y Y ho n t i z sz b K.un M O R S T K.ps v _ _ hs (h.alloc _) _ 1 1 _ hy (by rw[K.ln,eE]) (fun j u V=>?_) (K.on x) (by unfold maxLen;omega) ?_ aJ fun J G F D _ f=>?_
 ·have q:=dL W (enc x).toArray t (j:=j) (u:=u) (by simpa using V)
  rw[show(_:Addr).add j=(W,j) by cases j<;>simp[Addr.add]];exact q.1
 ·have:(Z+1)*b≤_:=Nat.mul_le_mul_left _ U
  omega
 ·refine k J G ?_ (((aj.refl _ _).alloc _).grown D (fun b _ e=>e)) (fun b e=>?_)
  ·unfold Ro
   grind
  ·rcases f with q|q
   ·grind
   ·right
    rw[q] at e;have:W+1=b:=by simpa using e
    omega
theorem Ro.other(E:Ro t sz enc n W u Z)(f:∀b,Ow u b→¬Ow v b)(M:aj (Ow v) W G)(D:Nr W v J):Ro t sz enc n G u Z∧∀b,Ow u b→¬Ow J b:=
 ⟨E.block fun b e=>M.block b (E.lt b e).2 (f b e),fun b e F=>by
  rcases D b F with q|q
  ·exact f b e q
  ·have:=(E.lt b e).2;omega⟩
end Pn
end
section
variable{P:Program}{I:Array Oper}{w:zW}
theorem ku{Q:Act→Prop}:∀(l:List Oper)(a:Act),wpQuiet P I (fun w'=>w'=w) Q l a→wpStill P I w Q l a
 |[],_,h=>h
 |o::l,a,h=>by
  unfold wpQuiet at h;unfold wpStill
  split
  ·rename_i E
   rw[ay E] at h;obtain⟨v,M,O⟩:=h;have D:=M w rfl;have F:=ku l _ O;unfold Oper.quietAt at D;unfold Oper.still
   revert D
   generalize (execOp a.eval o).run P w=r;intro D
   match r,D with
   | .ok (.value u) w',D=>exact⟨D.1,by rw[D.2];exact F⟩
   | .ok .skip w',D=>exact⟨D.1,by rw[←D.2];exact F⟩
   | .ok (.enter f args) w',D=>exact⟨D.1,v,D.2,F⟩
  ·rename_i E
   rw[au E] at h;exact ku l _ h
theorem pd{id}{Q}{a}{l:List Oper}n(hm:P.follows .mixedOrders=true)(D:Region.lexTailB .any l.toArray n=true)
  (h:wpQuiet P l.toArray (fun w'=>w'=w.drew) (fun f=>wpList P l.toArray Q (l.drop n) f w.drew) (l.take n) a):(Code.region id l.toArray true).wp P Q a w:=
 wp_region_still_tail n hm D (ku _ _ h)
