import Derived.Test.YtkfobfbiblgohaaGreatDoorKED
import Derived.Test.YtkfobfbiblgohaaGreatDoorKRWA
set_option linter.all false
open Go.Proofs.Tryz
set_option maxRecDepth 100000
set_option maxHeartbeats 4000000
namespace Go.Proofs.YtkfobfbiblgohaaGreatDoor
open Go.RowKit
namespace Pn
open Mf Ed
variable{w w':zW}{A:Nat->Prop}
def RdA{α:Type}(A:Nat->Prop)(enc:α->List zV)(w:zW)(v:zV)(L:List α):Prop:=
 (v=zN/\L=[])\/∃b off c,v=.slice (some (tD b off)) L.length c/\(¬A b/\L.length<=c/\c<=maxLen/\b<w.heap.size)/\∀j u,(L.flatMap enc)[j]?=some u->w.cell? (tD b (off+j))=some u
theorem RdA.turn{α:Type}{enc:α->List zV}{v:zV}{L:List α}(h:RdA A enc w v L)(M:ai A w w'):RdA A enc w' v L:=by
 rcases h with h|⟨b,off,c,h,E,O⟩
 ·exact oE h
 ·refine oS ⟨b,off,c,h,⟨E.1,E.2.1,E.2.2.1,bP E.2.2.2 M.size⟩,fun j u T=>?_⟩
  have F:=O j u T;rw[M.cell (a:=(tD b (off+j))) (aY _ _ F) E.1];exact F
theorem RdA.more{α:Type}{enc:α->List zV}{A2:Nat->Prop}{v:zV}{L:List α}(h:RdA A enc w v L)(F:∀b,b<w.heap.size->A2 b->A b):RdA A2 enc w v L:=by
 rcases h with h|⟨b,off,c,h,E,M⟩
 ·exact oE h
 ·exact oS ⟨b,off,c,h,⟨fun e=>E.1 (F b E.2.2.2 e),E.2⟩,M⟩
theorem RdA.below{α:Type}{enc:α->List zV}{v:zV}{L:List α}(h:RdA A enc w v L)(E:Below w.heap.size w w'):RdA A enc w' v L:=h.turn (ai.of_below E)
theorem RdA.len{α:Type}{enc:α->List zV}{v:zV}{L:List α}(h:RdA A enc w v L):∃a c,v=.slice a L.length c:=by
 rcases h with⟨h,E⟩|⟨b,off,c,h,_,_⟩
 ·exact⟨none,0,by rw[h,E];rfl⟩
 ·exact⟨_,_,h⟩
theorem RdA.room{α:Type}{enc:α->List zV}{a:Option Addr}{n c:Nat}{L:List α}(h:RdA A enc w (.slice a n c) L):L.length<=c/\c<=maxLen:=by
 rcases h with⟨h,E⟩|⟨b,off,O,h,⟨_,F,M,_⟩,_⟩
 ·injection h with _ _ e;subst e;rw[E];exact⟨ah _,aJ _⟩
 ·injection h with _ _ e;subst e;exact⟨F,M⟩
theorem RdA.nil{α:Type}(enc:α->List zV):RdA A enc w (zN) ([]:List α):=oE ⟨rfl,rfl⟩
theorem RdA.own{α:Type}{enc:α->List zV}{v:zV}{L:List α}{B e s:Nat}{xs:List zV}(h:w.ownsRow B e s v L.length xs)(hx:xs=L.flatMap enc)(hl:∀x,(enc x).length=s)(hA:∀b,A b->b<B):RdA A enc w v L:=by
 rcases h.2 with⟨F,E⟩|⟨g,c,T,F,E⟩
 ·exact oE ⟨F,qJ E⟩
 ·subst F
  refine oS ⟨g,0,c,rfl,⟨fun hg=>?_,E.2.2.1,E.2.2.2.1,(h.lt g rfl).2⟩,fun j u O=>?_⟩
  ·have:=hA g hg
   have:=(h.lt g rfl).1;omega
  ·have M:j<L.length*s:=by
    have:=(dB.1 O).1;rw[Ss.fe hl] at this;exact this
   rw[dJ,h.cellAt j M,hx];exact O
def gf(s:zA):List zV:=[tS s]
def aW(p:Pb):List zV:=[zI p.1,tS p.2.1,tS p.2.2]
abbrev qv(q:Qn):zV:=.agg #[zI q.kind,tS q.path,tS q.ver]
def qu:Tie->zV
 | .rd p none=>.iface 192 (.agg #[zI p.1,tS p.2.1,tS p.2.2,tS e0,.bool false])
 | .rd p (some s)=>.iface 192 (.agg #[zI p.1,tS p.2.1,tS p.2.2,tS s,.bool true])
 | .ask q=>.iface 115 (qv q)
def zx(t:Tie):List zV:=[qu t]
def fW(A:Nat->Prop)(w:zW)(v:zV):Fi->Prop
 | .man E m=>∃F O M,v=.iface 216 (.agg #[zI E,tS m.p,F,O,M])/\RdA A Sm.mc w F m.R/\RdA A Sm.mc w O m.X/\RdA A Sw.mc w M m.S
 | .idx E vs=>∃u,v=.iface 219 (.agg #[zI E,u])/\RdA A gf w u vs
 | .wants ms ps=>∃a b,v=.iface 221 (.agg #[a,b])/\RdA A Sm.mc w a ms/\RdA A aW w b ps
 | .list ms ps=>∃a b,v=.iface 86 (.agg #[a,b])/\RdA A Sm.mc w a ms/\RdA A aW w b ps
 | .ord T ps=>∃a b,v=.iface 89 (.agg #[a,b])/\RdA A gf w a T/\RdA A aW w b ps
theorem fW.turn{v:zV}:∀{f:Fi},fW A w v f->ai A w w'->fW A w' v f
 | .man _ _,⟨T,xv,sv,h,F,M,O⟩,E=>⟨T,xv,sv,h,F.turn E,M.turn E,O.turn E⟩
 | .idx _ _,⟨u,h,F⟩,E=>⟨u,h,F.turn E⟩
 | .wants _ _,⟨a,b,h,F,M⟩,E=>⟨a,b,h,F.turn E,M.turn E⟩
 | .list _ _,⟨a,b,h,F,M⟩,E=>⟨a,b,h,F.turn E,M.turn E⟩
 | .ord _ _,⟨a,b,h,F,M⟩,E=>⟨a,b,h,F.turn E,M.turn E⟩
theorem fW.more{A2:Nat->Prop}{v:zV}:∀{f:Fi},fW A w v f->(∀b,b<w.heap.size->A2 b->A b)->fW A2 w v f
 | .man _ _,⟨T,xv,sv,h,F,M,O⟩,E=>⟨T,xv,sv,h,F.more E,M.more E,O.more E⟩
 | .idx _ _,⟨u,h,F⟩,E=>⟨u,h,F.more E⟩
 | .wants _ _,⟨a,b,h,F,M⟩,E=>⟨a,b,h,F.more E,M.more E⟩
 | .list _ _,⟨a,b,h,F,M⟩,E=>⟨a,b,h,F.more E,M.more E⟩
 | .ord _ _,⟨a,b,h,F,M⟩,E=>⟨a,b,h,F.more E,M.more E⟩
def iL(A:Nat->Prop)(w:zW)(v:zV)(k:Kp):Prop:=
 ∃E J,v=.agg #[E,J,zI k.changed,zI k.checked]/\fW A w E k.f/\RdA A zx w J k.ties
theorem iL.turn{v:zV}{k:Kp}(h:iL A w v k)(E:ai A w w'):iL A w' v k:=by
 obtain⟨F,J,e,M,O⟩:=h;exact⟨F,J,e,M.turn E,O.turn E⟩
theorem iL.more{A2:Nat->Prop}{v:zV}{k:Kp}(h:iL A w v k)(E:∀b,b<w.heap.size->A2 b->A b):iL A2 w v k:=by
 obtain⟨F,J,e,M,O⟩:=h;exact⟨F,J,e,M.more E,O.more E⟩
def eh(A:Nat->Prop)(w:zW):List (zV×zV)->List Kp->Prop
 |[],[]=>True
 |x::L,k::D=>x.1=qv k.q/\iL A w x.2 k/\eh A w L D
 |_,_=>False
theorem eh.turn:∀{L:List (zV×zV)} {D:List Kp},eh A w L D->ai A w w'->eh A w' L D
 |[],[],_,_=>trivial
 |_::_,_::_,⟨h,F,M⟩,E=>⟨h,F.turn E,M.turn E⟩
 |[],_::_,h,_=>h.elim
 |_::_,[],h,_=>h.elim
theorem eh.more{A2:Nat->Prop}:∀{L:List (zV×zV)} {D:List Kp},eh A w L D->(∀b,b<w.heap.size->A2 b->A b)->eh A2 w L D
 |[],[],_,_=>trivial
 |_::_,_::_,⟨h,F,M⟩,E=>⟨h,F.more E,M.more E⟩
 |[],_::_,h,_=>h.elim
 |_::_,[],h,_=>h.elim
theorem eh.len:∀{L:List (zV×zV)} {D:List Kp},eh A w L D->L.length=D.length
 |[],[],_=>rfl
 |_::_,_::_,⟨_,_,h⟩=>by rw[bW,bW,h.len]
 |[],_::_,h=>h.elim
 |_::_,[],h=>h.elim
structure eY(A:Nat->Prop)(w:World)(Q Y fb:Nat)(cap:Int)(cs:List Int)(D:List Kp):Prop where
 f0:Ed.Fd w Q 0 (zP Y)
 f1:Ed.Fd w Q 1 (zI cap)
 f2:Ed.Fd w Q 2 (.map (some fb))
 cn:∀j c,cs[j]?=some c->Ed.Fd w Q (3+j) (zI c)
 map:∃L,Mp.MapAt prog 115 w fb L/\eh A w L D
 ne:Q≠fb
 hd:A Q
 hf:A fb
end Pn
namespace Pn
open Mf Ed
variable{w w':zW}{A:Nat->Prop}{Y mb V:Nat}{L:List (zV×zV)}
abbrev plV(p:Plc):zV:=.agg #[zI (p.1:Int),tS p.2.1,tS p.2.2]
def tu(L:List (zV×zV))(s:Shf):Prop:=∀p:Plc,match s p with
 |some t=>(plV p,Ed.txt t)∈L
 |none=>∀x∈L,x.1≠plV p
def bU:Option zA->zA
 |none=>e0
 |some s=>s
abbrev txV(t:Option zA):zV:=.agg #[tS (bU t),.bool t.isSome]
structure POk(p:Plc):Prop where
 k:p.1<=4
 hp:p.2.1.size<=281474976710656
 hv:p.2.2.size<=281474976710656
theorem DR(k:Nat)(h:k<=4):(Lit.int .i64 (k:Int)).wf=true:=by
 rcases(by omega:k=0\/k=1\/k=2\/k=3\/k=4) with rfl|rfl|rfl|rfl|rfl<;>rfl
theorem POk.key{p:Plc}(h:POk p):∃l,keyOf prog 100 (plV p)=some l:=sK _ _ _ (DR _ h.k) (by have:=h.hp;unfold maxLen;omega) (by have:=h.hv;unfold maxLen;omega)
theorem N4{s:Shf}(O:tu L s){p:Plc}(M:POk p)(W:zW)(F:sL W mb L):(Instr.lookup 108 (.map (some mb)) (plV p) false).run prog W=.ok (txV (s p)) W:=by
 obtain⟨T,E⟩:=M.key;have h:=O p;cases e:s p with
 |none=>rw[e] at h;exact F.look_none false gY underlying108 (mY W) E h
 |some t=>rw[e] at h;exact F.look_some false gY underlying108 (mY W) E h
theorem Lf(s:Shf)(p:Plc)(w:zW)(h:aD w Y mb V L)(hs:tu L s)(hp:POk p):
  zC 132 #[zP Y,plV p] w fun e w'=>e=.returned (txV (s p))/\Below w.heap.size w w':=by
 have qC:=fun W hW=>N4 (mb:=mb) hs hp W hW
 have HS:Hid (aD w Y mb V L):=h;clear h hs hp;obtain⟨pk,M,pv⟩:=p;generalize s (pk,M,pv)=t at*;have HL:Hid (∀W,sL W mb L->(Instr.lookup 108 (.map (some mb)) (.agg #[zI (pk:Int),tS M,tS pv]) false).run prog W=.ok (.agg #[tS (bU t),.bool t.isSome]) W):=qC;clear qC;show zC 132 #[zP Y,.agg #[zI (pk:Int),tS M,tS pv]] w fun e w'=>e=.returned (.agg #[tS (bU t),.bool t.isSome])/\Below w.heap.size w w'
 generalize bU t=E at*;generalize t.isSome=th at*;generalize (pk:Int)=k at*;go_enter func132,ntmps132;go_upto_region 1 with fail;have F:Below w.heap.size w (w.alloc (.cells #[zI k,tS M,tS pv] 100)):=(ae _ _).alloc (ah _) _;have T:Below w.heap.size w ((w.alloc (.cells #[zI k,tS M,tS pv] 100)).alloc (.cells #[zE,.bool false] 129)):=F.alloc F.size _;have O:Hid (aD ((w.alloc (.cells #[zI k,tS M,tS pv] 100)).alloc (.cells #[zE,.bool false] 129)) Y mb V L):=HS.out.below T;have c0:=O.out.f0.1;have l1:=HL.out _ O.out.map;have l2:=HL.out ((w.alloc (.cells #[zI k,tS M,tS pv] 100)).alloc (.cells #[zE,.bool false] 129)).drew O.out.map;have HB:Hid (Below w.heap.size w ((w.alloc (.cells #[zI k,tS M,tS pv] 100)).alloc (.cells #[tS E,.bool th] 129)).drew):=(F.alloc F.size _).drew;clear F T;have HH:Hid (((w.alloc (.cells #[zI k,tS M,tS pv] 100)).alloc (.cells #[tS E,.bool th] 129)).drew.heap[w.heap.size+1]?=some (.cells #[tS E,.bool th] 129)):=eD w _ _
 go_region
 go_wp2;refine aI (bG results132 _ _ (w.heap.size+1) 129 _ (0,0) _ rfl HH.out underlying129 rfl (by kernel_rfl)) rfl ?_;exact⟨rfl,HB.out⟩
end Pn
namespace Pn
open Mf Ed
variable{w w' W U Z:zW}{A:Nat->Prop}{Y mb V:Nat}{L:List (zV×zV)}
structure dA(B:Nat)(w:World)(G Q:Nat)(J:zV)(I:List Tie):Prop where
 t0:Ed.Fd w G 0 (zP Q)
 t1:Ed.Fd w G 1 J
 row:w.ownsRow B 190 1 J I.length (I.map qu)
 ne:J.ownBlock≠some G
 hb:B<=G
variable{B G Q:Nat}{J:zV}{I:List Tie}
theorem dA.of_block(h:dA B w G Q J I)(E:w'.heap[G]?=w.heap[G]?)(F:∀b,J.ownBlock=some b->w'.heap[b]?=w.heap[b]?):dA B w' G Q J I:=
 ⟨h.t0.of_block E,h.t1.of_block E,ar h.row F,h.ne,h.hb⟩
theorem dA.turn{p:Nat->Prop}(h:dA B w G Q J I)(F:ai p w w')(E:∀b,p b->b<B):dA B w' G Q J I:=
 h.of_block (F.block G h.t0.lt (fun e=>by have:=E _ e;have:=h.hb;omega)) (fun b e=>F.block b (h.row.lt b e).2 (fun M=>by have:=E _ M;have:=(h.row.lt b e).1;omega))
theorem dA.below(h:dA B w G Q J I)(E:Below w.heap.size w w'):dA B w' G Q J I:=
 h.of_block (E.block G h.t0.lt) (fun b e=>E.block b (h.row.lt b e).2)
abbrev Own(G:Nat)(J:zV)(b:Nat):Prop:=b=G\/J.ownBlock=some b
theorem dA.grow{g cap:Nat}{t:Tie}(h:dA B W G Q J I)(hg:W.grownBy Z J.ownBlock)(F:Z.ownsRow B 190 1 (.slice (some (tD g 0)) (I.length+1) cap) (I.length+1) (I.map qu++[qu t]))(O:J.ownBlock=some g\/W.heap.size<=g):
  dA B (Z.setCell (tD G 1) (.slice (some (tD g 0)) (I.length+1) cap)) G Q (.slice (some (tD g 0)) (I.length+1) cap) (I++[t])/\ai (Own G J) W (Z.setCell (tD G 1) (.slice (some (tD g 0)) (I.length+1) cap)):=by
 have E:g≠G:=fun e=>by
  rcases O with h1|h1
  ·exact h.ne (by rw[h1,e])
  ·have:=h.t0.lt;omega
 have T:Z.heap[G]?=W.heap[G]?:=hg.block G h.t0.lt (fun e=>h.ne e.symm);have f0:=h.t0.of_block T;have f1:=h.t1.of_block T;refine⟨⟨f0.set (by decide),⟨iC _ _ _ f1.1,by rw[dX];exact f1.2⟩,?_,?_,h.hb⟩,((ai.refl (Own G J) W).grown hg (fun k _ e=>oS e)).set (a:=(tD G 1)) (fun _=>oE rfl) _⟩
 ·rw[aU,eK]
  refine ar F (fun b e=>aL _ _ _ _ (fun e2=>?_));have M:g=b:=by simpa[Value.ownBlock] using e
  exact E (M.trans e2)
 ·intro e
  have M:g=G:=by simpa[Value.ownBlock] using e
  exact E M
theorem gM{W:zW}{r:Nat}{t:TypeId}{x y:zV}(h:W.heap[r]?=some (.cells #[x,y] t))(a b:zV):((W.setCell (tD r 0) a).setCell (tD r 1) b).heap[r]?=some (.cells #[a,b] t):=by
 have E:=bo _ _ 0 _ _ a h;exact bo _ _ 1 _ _ b E
theorem fd2{W:zW}{r:Nat}{t:TypeId}{x y:zV}(h:W.heap[r]?=some (.cells #[x,y] t)):(W.cell? (tD r 0)=some x/\W.frozen? (tD r 0)=false)/\(W.cell? (tD r 1)=some y/\W.frozen? (tD r 1)=false):=by
 simp only[World.cell?,World.frozen?,h];exact⟨⟨rfl,rfl⟩,⟨rfl,rfl⟩⟩
theorem pC{b o:Nat}{u:zV}(h:Ed.Fd W b o u)(v:zV):Ed.Fd (W.setCell (tD b o) v) b o v:=⟨iC _ _ _ h.1,by rw[dX];exact h.2⟩
theorem GJ(W:zW)(v:zV)(t:TypeId):∀j u,[v][j]?=some u->(W.alloc (.cells #[v] t)).cell? (((tD W.heap.size 0):Addr).add j)=some u:=cell_one_new W v t
theorem Lg(t:Tie):(qu t).oneCell'=true:=by
 cases t with
 |rd p t=>cases t<;>rfl
 |ask q=>rfl
theorem GK(p:Plc)(t:Option zA):qu (.rd p t)=.iface 192 (.agg #[zI p.1,tS p.2.1,tS p.2.2,tS (bU t),.bool t.isSome]):=by
 cases t<;>rfl
theorem pd(s:Shf)(p:Plc)(w:zW)(h:aD w Y mb V L)(hs:tu L s)(hp:POk p)(hT:dA B w G Q J I)(hd:w.cell? (tD Q 0)=some (zP Y))(bu:I.length<=100000)(hB:B<=w.heap.size):
  zC 152 #[zP G,plV p] w fun e w'=>∃a5,e=.returned (txV (s p))/\dA B w' G Q a5 (I++[.rd p (s p)])/\ai (Own G J) w w'/\(∀b,a5.ownBlock=some b->J.ownBlock=some b\/w.heap.size<=b):=by
 obtain⟨i3,b7,b8,b9,bb⟩:=Bm.gu 190 .nilIface 1 16 (by kernel_rfl);have HI:Hid (prog.info? 190=some i3/\i3.zero=some .nilIface/\i3.size=1/\i3.bytes=16):=⟨b7,b8,b9,bb⟩;clear b7 b8 b9 bb;have KA:Hid (∀W,Below w.heap.size w W->zC 132 #[zP Y,plV p] W fun e w'=>e=.returned (txV (s p))/\Below W.heap.size W w'):=fun W hb=>Lf s p W (h.below hb) hs hp
 have HT:Hid (dA B w G Q J I):=hT;have HD:Hid (w.cell? (tD Q 0)=some (zP Y)):=hd;have HV:Hid (qu (.rd p (s p))=.iface 192 (.agg #[zI p.1,tS p.2.1,tS p.2.2,tS (bU (s p)),.bool (s p).isSome])):=GK _ _;have bq:Hid ((qu (.rd p (s p))).oneCell'=true):=Lg _;clear h hs hp hT hd;obtain⟨pk,F,pv⟩:=p;generalize s (pk,F,pv)=t at*;show zC 152 #[zP G,.agg #[zI (pk:Int),tS F,tS pv]] w fun e w'=>∃a5,e=.returned (.agg #[tS (bU t),.bool t.isSome])/\dA B w' G Q a5 (I++[.rd (pk,F,pv) t])/\ai (Own G J) w w'/\(∀b,a5.ownBlock=some b->J.ownBlock=some b\/w.heap.size<=b)
 have KB:Hid (∀W,Below w.heap.size w W->zC 132 #[zP Y,.agg #[zI (pk:Int),tS F,tS pv]] W fun e w'=>e=.returned (.agg #[tS (bU t),.bool t.isSome])/\Below W.heap.size W w'):=KA;have HW:Hid (qu (.rd (pk,F,pv) t)=.iface 192 (.agg #[zI (pk:Int),tS F,tS pv,tS (bU t),.bool t.isSome])):=HV;clear KA HV;generalize Tie.rd (pk,F,pv) t=tie at*;generalize bU t=O at*;generalize t.isSome=th at*;generalize (pk:Int)=k at*;go_enter func152,ntmps152;go_upto_region 1 with fail;have av:Below w.heap.size w (w.alloc (.cells #[zI k,tS F,tS pv] 100)):=(ae _ _).alloc (ah _) _;have a0:Hid (Below w.heap.size w ((w.alloc (.cells #[zI k,tS F,tS pv] 100)).alloc (.cells #[zE,.bool false] 129))):=av.alloc av.size _;have aq:Hid (fR ((w.alloc (.cells #[zI k,tS F,tS pv] 100)).alloc (.cells #[zE,.bool false] 129)) w.heap.size k F pv):=(fR.new w k F pv).below ((ae _ _).alloc (ah _) _);have b2:Hid (((w.alloc (.cells #[zI k,tS F,tS pv] 100)).alloc (.cells #[zE,.bool false] 129)).heap[w.heap.size+1]?=some (.cells #[zE,.bool false] 129)):=eD w _ _
 have ad:Hid (((w.alloc (.cells #[zI k,tS F,tS pv] 100)).alloc (.cells #[zE,.bool false] 129)).cell? (tD Q 0)=some (zP Y)):=by
  show World.cell? _ _=_;rw[a0.out.cell (p:=(tD Q 0)) (aY _ _ HD.out)];exact HD.out
 have an:Hid (dA B ((w.alloc (.cells #[zI k,tS F,tS pv] 100)).alloc (.cells #[zE,.bool false] 129)) G Q J I):=HT.out.below a0.out;have KC:Hid (∀W,Below ((w.alloc (.cells #[zI k,tS F,tS pv] 100)).alloc (.cells #[zE,.bool false] 129)).heap.size ((w.alloc (.cells #[zI k,tS F,tS pv] 100)).alloc (.cells #[zE,.bool false] 129)) W->zC 132 #[zP Y,.agg #[zI k,tS F,tS pv]] W fun e w'=>e=.returned (.agg #[tS O,.bool th])/\Below W.heap.size W w'):=fun W hb=>KB.out W (a0.out.trans (hb.mono a0.out.size))
 clear av KB HD;have bi:w.heap.size+1<((w.alloc (.cells #[zI k,tS F,tS pv] 100)).alloc (.cells #[zE,.bool false] 129)).heap.size:=by simp
 have a6:Hid (w.heap.size+1<((w.alloc (.cells #[zI k,tS F,tS pv] 100)).alloc (.cells #[zE,.bool false] 129)).heap.size):=bi;clear bi;generalize (w.alloc (.cells #[zI k,tS F,tS pv] 100)).alloc (.cells #[zE,.bool false] 129)=W1 at*;generalize a9:w.heap.size=M at*
 go_cut [5] (fun xp wx=>∃xb,xp=zP xb/\Hid (Below W1.heap.size W1 wx/\W1.heap.size<=xb/\Ed.Fd wx xb 0 (tS O)/\Ed.Fd wx xb 1 (.bool th)))
 case first=>
  have a3:Hid (∀W,Below W1.heap.size W1 W->W.cell? (tD G 0)=some (zP Q)/\W.cell? (tD Q 0)=some (zP Y)/\W.cell? (tD M 0)=some (zI k)/\W.cell? (tD M 1)=some (tS F)/\W.cell? (tD M 2)=some (tS pv)):=fun W hb=>by
   have h1:=aq.out.below hb;exact⟨(an.out.below hb).t0.1,by rw[hb.cell (p:=(tD Q 0)) (aY _ _ ad.out)];exact ad.out,h1.1.1,h1.2.1.1,h1.2.2.1⟩
  obtain⟨p0,p1,p2,p3,p4⟩:=a3.out _ (ae _ _)
  go_region_held3 (fun w'=>w'.cell? (tD G 0)=some (zP Q)/\w'.cell? (tD Q 0)=some (zP Y)/\w'.cell? (tD M 0)=some (zI k)/\w'.cell? (tD M 1)=some (tS F)/\w'.cell? (tD M 2)=some (tS pv))
   (first|exact⟨p0,p1,p2,p3,p4⟩|exact a3.out _ ((ae _ _).drew)|exact a3.out _ (ax ((ae _ _).drew) _)|exact a3.out _ a2|exact a3.out _ (ax a2 _)|exact a3.out _ ((a2.setCell (by simp) _).setCell (by simp) _))
   (first|(go_at_call 132;refine(KC.out _ ((ae _ _).drew)).mono ?_;rintro e w3 ⟨rfl,Fx⟩;have a2:Below W1.heap.size W1 w3:=((ae W1.heap.size W1).drew).trans Fx;clear Fx)|(go_at_call 132;refine(KC.out _ (ax ((ae _ _).drew) _)).mono ?_;rintro e w3 ⟨rfl,Fx⟩;have a2:Below W1.heap.size W1 w3:=(ax ((ae W1.heap.size W1).drew) _).trans (Fx.mono (by simp));have az:Ed.Fd w3 W1.heap.size 0 (zE):=(eu W1.drew #[zE,.bool false] 129 (j:=0) rfl).of_block (Fx.block _ (by simp));have b0:Ed.Fd w3 W1.heap.size 1 (.bool false):=(eu W1.drew #[zE,.bool false] 129 (j:=1) rfl).of_block (Fx.block _ (by simp));have z0:=az.1;have z1:=b0.1;have y0:=az.2;have y1:=b0.2;clear Fx))
  all_goals
   go_wp2_with fail
   go_meet
   first
    |exact⟨w3.heap.size,rfl,ax a2 _,a2.size,eu w3 _ 129 rfl,eu w3 _ 129 rfl⟩
    |exact⟨W1.heap.size,rfl,(a2.setCell (ah _) _).setCell (ah _) _,ah _,(pC az _).set (by decide),pC (b0.set (by decide)) _⟩
 case rest=>
  obtain⟨xb,h5,HC⟩:=hcut;rw[h5];clear h5;have a4:Hid (dA B wc G Q J I):=an.out.below HC.out.1
  have b3:Hid (wc.heap[M+1]?=some (.cells #[zE,.bool false] 129)):=by
   show wc.heap[M+1]?=_;rw[HC.out.1.block _ a6.out];exact b2.out
  have ab:Hid (Below w.heap.size w wc):=by
   show Below w.heap.size w wc;rw[a9];exact a0.out.trans (HC.out.1.mono (by have:=a0.out.size;omega))
  obtain⟨⟨x0,_⟩,⟨x1,_⟩,⟨x2,_⟩⟩:=aq.out.below HC.out.1;obtain⟨_,bv,⟨x3,_⟩,⟨x4,_⟩⟩:=HC.out;have bp:M+1<wc.heap.size:=by have:=HC.out.1.size;have:=a6.out;omega
  have bk:xb<wc.heap.size:=aY _ _ x3;clear b2 an aq ad KC a0;generalize a8:wc.alloc (.cells #[.iface 192 (.agg #[zI k,tS F,tS pv,tS O,.bool th])] 190)=U;have b6:Below wc.heap.size wc U:=by rw[<-a8];exact(ae _ _).alloc (ah _) _
  have b5:Hid (dA B U G Q J I):=a4.out.below b6;have T:Hid (dA B U.drew G Q J I):=a4.out.below b6.drew;have c1:wc.cell? (tD G 1)=some J:=a4.out.t1.1;have bn:U.cell? (tD G 1)=some J:=b5.out.t1.1;have bf:U.drew.ownsRow B 190 1 J I.length (I.map qu):=T.out.row;have bd:∀j u,[Value.iface 192 (.agg #[zI k,tS F,tS pv,tS O,.bool th])][j]?=some u->U.drew.cell? (((tD wc.heap.size 0):Addr).add j)=some u:=by rw[<-a8];exact GJ wc _ 190
  have bt:U.heap.size=wc.heap.size+1:=by rw[<-a8];simp
  have bs:B<=wc.heap.size:=by have:=ab.out.size;omega
  have a1:Hid (G<M/\(∀b,J.ownBlock=some b->b<M)/\M+1<xb+1/\M+1<W1.heap.size):=⟨by rw[<-a9];exact HT.out.t0.lt,fun b e=>by rw[<-a9];exact(HT.out.row.lt b e).2,by have:=a6.out;omega,a6.out⟩;obtain⟨sa,sc,rfl⟩:=aC a4.out.row;subst a8;go_upto_region 2 with fail
  go_region_law
   (first|(refine step_append_lies _ rfl (.tmp 19) (.tmp 24) 82 rfl B 190 i3 .nilIface 1 16 underlying82 HI.out.1 HI.out.2.1 HI.out.2.2.1 HI.out.2.2.2 rfl (by decide) _ I.length _ rfl bf (tD wc.heap.size 0) 1 1 [.iface 192 (.agg #[zI k,tS F,tS pv,tS O,.bool th])] rfl rfl bd (fun u hu=>by simp at hu;subst hu;rfl) (by decide) (by unfold maxLen;omega) (by omega) (by show B<=(wc.alloc _).heap.size;simp;omega) _ rfl ?_;intro g cap Z aa E au sH;have c3:Z.cell? (tD G 1)=some (.slice sa I.length sc):=(T.out.t1.of_block (E.block G T.out.t1.lt (fun e=>T.out.ne e.symm))).1;have f3:Z.frozen? (tD G 1)=false:=(T.out.t1.of_block (E.block G T.out.t1.lt (fun e=>T.out.ne e.symm))).2))
  all_goals
   have hG:=T.out.grow (t:=tie) ⟨E.os,E.tape,E.output,E.size,E.block⟩ (by rw[HW.out];exact aa) (by
    rcases au with h|h
    ·exact oE h
    ·right;rw[h];exact ah _)
   have bm:Hid (dA B (Z.setCell (tD G 1) (.slice (some (tD g 0)) (I.length+1) cap)) G Q (.slice (some (tD g 0)) (I.length+1) cap) (I++[tie])):=hG.1;have a7:Hid (ai (Own G (.slice sa I.length sc)) wc (Z.setCell (tD G 1) (.slice (some (tD g 0)) (I.length+1) cap))):=(ai.of_below (((ae wc.heap.size wc).alloc (ah _) _).drew)).trans hG.2 (fun _ _ h=>h) (fun _ _ h=>h)
   have b1:Hid (∀b,(Value.slice (some (tD g 0)) (I.length+1) cap).ownBlock=some b->(Value.slice sa I.length sc).ownBlock=some b\/wc.heap.size<=b):=fun b e=>by
    have e1:g=b:=by simpa[Value.ownBlock] using e
    rcases au with h|h
    ·exact oE (by rw[<-e1];exact h)
    ·right
     have h2:g=(wc.alloc (.cells #[.iface 192 (.agg #[zI k,tS F,tS pv,tS O,.bool th])] 190)).heap.size:=h;rw[<-e1,h2];simp
   have ak:Hid (∀b,M<=b->¬Own G (.slice sa I.length sc) b):=fun b hb h=>by
    rcases h with h|h
    ·have:=a1.out.1;omega
    ·have:=a1.out.2.1 b h;omega
   have b4:Hid ((Z.setCell (tD G 1) (.slice (some (tD g 0)) (I.length+1) cap)).heap[M+1]?=some (.cells #[zE,.bool false] 129)):=(a7.out.block (M+1) bp (ak.out _ (by omega))).trans b3.out
   have y3:(Z.setCell (tD G 1) (.slice (some (tD g 0)) (I.length+1) cap)).cell? (tD xb 0)=some (tS O):=by
    rw[a7.out.cell (a:=(tD xb 0)) bk (ak.out xb (by have:=a1.out.2.2.1;omega))];exact x3
   have y4:(Z.setCell (tD G 1) (.slice (some (tD g 0)) (I.length+1) cap)).cell? (tD xb 1)=some (.bool th):=by
    rw[a7.out.cell (a:=(tD xb 1)) bk (ak.out xb (by have:=a1.out.2.2.1;omega))];exact x4
   obtain⟨⟨r0,f0⟩,⟨r1,f1⟩⟩:=fd2 b4.out;clear hG aa E au sH c3 f3 bf bd c1 bn x0 x1 x2 x3 x4 b5 T a4 b3;generalize Z.setCell (tD G 1) (.slice (some (tD g 0)) (I.length+1) cap)=W6 at*;go_wp2;refine aI (bG results152 _ _ (M+1) 129 _ (0,0) _ rfl (gM b4.out _ _) underlying129 rfl (by kernel_rfl)) rfl ?_;refine⟨_,rfl,bm.out.of_block ?_ ?_,?_,?_⟩
   ·rw[aL _ _ _ _ (by have:=a1.out.1;show G≠M+1;omega),aL _ _ _ _ (by have:=a1.out.1;show G≠M+1;omega)]
   ·intro b e
    have bc:b≠M+1:=fun e2=>by
     rcases b1.out b e with h|h
     ·have:=a1.out.2.1 b h;omega
     ·omega
    rw[aL _ _ _ _ bc,aL _ _ _ _ bc]
   ·have h1:ai (Own G (.slice sa I.length sc)) w W6:=(ai.of_below ab.out).trans a7.out (fun _ _ h=>h) (fun _ _ h=>h)
    exact(h1.set (a:=(tD (M+1) 0)) (fun h=>by have h2:M+1<w.heap.size:=h;omega) _).set (a:=(tD (M+1) 1)) (fun h=>by have h2:M+1<w.heap.size:=h;omega) _
   ·intro b e
    rcases b1.out b e with h|h
    ·exact oE h
    ·right;have:=ab.out.size;omega
end Pn
namespace Pn
open Mf Ed
variable{w w' W U Z:zW}{A:Nat->Prop}
theorem gW{W:zW}{r:Nat}{t:TypeId}{T x1 x2 x3 x4:zV}(h:W.heap[r]?=some (.cells #[T,x1,x2,x3,x4] t))(a b c d e:zV):(((((W.setCell (tD r 0) a).setCell (tD r 1) b).setCell (tD r 2) c).setCell (tD r 3) d).setCell (tD r 4) e).heap[r]?=some (.cells #[a,b,c,d,e] t):=by
 have E:=bo _ _ 0 _ _ a h;have F:=bo _ _ 1 _ _ b E;have M:=bo _ _ 2 _ _ c F;have O:=bo _ _ 3 _ _ d M;exact bo _ _ 4 _ _ e O
theorem fd5{W:zW}{r:Nat}{t:TypeId}{E F M O T:zV}(h:W.heap[r]?=some (.cells #[E,F,M,O,T] t)):(W.cell? (tD r 0)=some E/\W.frozen? (tD r 0)=false)/\(W.cell? (tD r 1)=some F/\W.frozen? (tD r 1)=false)/\(W.cell? (tD r 2)=some M/\W.frozen? (tD r 2)=false)/\(W.cell? (tD r 3)=some O/\W.frozen? (tD r 3)=false)/\(W.cell? (tD r 4)=some T/\W.frozen? (tD r 4)=false):=by
 simp only[World.cell?,World.frozen?,h];exact⟨⟨rfl,rfl⟩,⟨rfl,rfl⟩,⟨rfl,rfl⟩,⟨rfl,rfl⟩,⟨rfl,rfl⟩⟩
theorem DT{b:Nat}{v0 v1 v2 E:zV}{t:TypeId}(h:W.heap[b]?=some (.cells #[v0,v1,v2,E] t)):
  W.cell? (tD b 0)=some v0/\W.cell? (tD b 1)=some v1/\W.cell? (tD b 2)=some v2/\W.cell? (tD b 3)=some E:=by
 simp only[World.cell?,h];exact⟨rfl,rfl,rfl,rfl⟩
theorem af{b:Nat}{o:Obj}(h:W.heap[b]?=some o):b<W.heap.size:=(ou.1 h).1
theorem gX:∀x:Mo,(Sm.mc x).length=2:=fun _=>rfl
theorem tx:∀x:So,(Sw.mc x).length=3:=fun _=>rfl
theorem tC{s:zA}(h:bO s=[]):cY (some s)=.man 0 ⟨(bK s).p,reqs (bK s).R,sR (bK s).X,sS (bK s).S⟩:=aj h
theorem N5{s:zA}(h:bO s≠[]):cY (some s)=.man 3 ⟨e0,[],[],[]⟩:=ag h
theorem Av(E:Nat):fW A w (.iface 216 (.agg #[zI E,tS e0,zN,zN,zN])) (.man E ⟨e0,[],[],[]⟩):=⟨_,_,_,rfl,RdA.nil _,RdA.nil _,RdA.nil _⟩
theorem uR(t:Option zA)(w:zW)(hm:Ml w)(hA:∀b,A b->b<w.heap.size)(a7:∀s,t=some s->(dV s).good.length<=19):
  zC 151 #[txV t] w fun e w'=>∃v,e=.returned v/\fW A w' (.iface 216 v) (cY t)/\Below w.heap.size w w':=by
 have T:Below w.heap.size w (w.alloc (.cells #[tS (bU t),.bool t.isSome] 129)):=(ae _ _).alloc (ah _) _;have HB:Hid (Below w.heap.size w ((w.alloc (.cells #[tS (bU t),.bool t.isSome] 129)).alloc (.cells #[zI 0,zE,zN,zN,zN] 216))):=T.alloc T.size _;have HR:Hid (((w.alloc (.cells #[tS (bU t),.bool t.isSome] 129)).alloc (.cells #[zI 0,zE,zN,zN,zN] 216)).heap[w.heap.size+1]?=some (.cells #[zI 0,zE,zN,zN,zN] 216)):=eD w _ _;have HS:Hid (w.heap.size+1<((w.alloc (.cells #[tS (bU t),.bool t.isSome] 129)).alloc (.cells #[zI 0,zE,zN,zN,zN] 216)).heap.size):=by show _<_;simp
 have O:Hid (∀o,Below w.heap.size w ((w.alloc (.cells #[tS (bU t),.bool t.isSome] 129)).alloc o)):=fun o=>T.alloc T.size o
 clear T;cases t with
 |none=>
  clear a7;go_enter func151,ntmps151;go_wp2;refine aI (bG results151 _ _ (w.heap.size+1) 216 _ (0,0) _ rfl (eD w _ _) underlying216 rfl (by kernel_rfl)) rfl ?_;exact⟨_,rfl,Av 2,O.out _⟩
 |some s=>
  have kt:=sW s ((w.alloc (.cells #[tS s,.bool true] 129)).alloc (.cells #[zI 0,zE,zN,zN,zN] 216)) (hm.below HB.out) (a7 s rfl);have ab:Hid (∀b,A b->b<w.heap.size):=hA;clear hm hA O a7;show zC 151 #[.agg #[tS s,.bool true]] w _;go_enter func151,ntmps151
  go_wp2_with (go_at_call 166;fail)
  have a2:Hid (Below w.heap.size w ((w.alloc (.cells #[tS s,.bool true] 129)).alloc (.cells #[zI 0,zE,zN,zN,zN] 216))):=HB;have aa:Hid (((w.alloc (.cells #[tS s,.bool true] 129)).alloc (.cells #[zI 0,zE,zN,zN,zN] 216)).heap[w.heap.size+1]?=some (.cells #[zI 0,zE,zN,zN,zN] 216)):=HR;have a3:Hid (w.heap.size+1<((w.alloc (.cells #[tS s,.bool true] 129)).alloc (.cells #[zI 0,zE,zN,zN,zN] 216)).heap.size):=HS;clear HB HR HS;generalize (w.alloc (.cells #[tS s,.bool true] 129)).alloc (.cells #[zI 0,zE,zN,zN,zN] 216)=W1 at*;go_at_call 166;refine kt.mono ?_;rintro e M ⟨p,rv,xv,sv,lv,rfl,ho,hb,_⟩;have HO:Hid (Dn W1.heap.size s M p rv xv sv lv):=ho;have O:Hid (Below w.heap.size w M):=a2.out.trans (hb.mono a2.out.size)
  have a5:Hid (M.heap[w.heap.size+1]?=some (.cells #[zI 0,zE,zN,zN,zN] 216)):=by
   show M.heap[w.heap.size+1]?=_;rw[hb.block _ a3.out];exact aa.out
  have a4:Hid (∀b,A b->b<W1.heap.size):=fun b h=>by have:=ab.out b h;have:=a2.out.size;omega
  obtain⟨ra,rc,e1⟩:=aC ho.re;obtain⟨xa,xc,e2⟩:=aC ho.xe;obtain⟨sa,sc,e3⟩:=aC ho.se;obtain⟨la,lc,e4⟩:=aC ho.le;subst e1;subst e2;subst e3;subst e4;clear ho hb kt a2 aa;have ad:Hid (w.heap.size+1<M.heap.size):=af a5.out;have a1:Hid (Below M.heap.size M (M.alloc (.cells #[tS p,.slice ra (bK s).R.length rc,.slice xa (bK s).X.length xc,.slice sa (bK s).S.length sc] 214))):=(ae _ _).alloc (ah _) _;have a9:Hid ((M.alloc (.cells #[tS p,.slice ra (bK s).R.length rc,.slice xa (bK s).X.length xc,.slice sa (bK s).S.length sc] 214)).heap[M.heap.size]?=some (.cells #[tS p,.slice ra (bK s).R.length rc,.slice xa (bK s).X.length xc,.slice sa (bK s).S.length sc] 214)):=aA _ _;go_upto_region 4 with fail
  have a6:Hid ((M.alloc (.cells #[tS p,.slice ra (bK s).R.length rc,.slice xa (bK s).X.length xc,.slice sa (bK s).S.length sc] 214)).heap[w.heap.size+1]?=some (.cells #[zI 0,zE,zN,zN,zN] 216)):=by
   exact(a1.out.block _ ad.out).trans a5.out
  have a8:Hid (Below w.heap.size w (M.alloc (.cells #[tS p,.slice ra (bK s).R.length rc,.slice xa (bK s).X.length xc,.slice sa (bK s).S.length sc] 214))):=O.out.trans (a1.out.mono O.out.size);have E:Hid (Dn W1.heap.size s (M.alloc (.cells #[tS p,.slice ra (bK s).R.length rc,.slice xa (bK s).X.length xc,.slice sa (bK s).S.length sc] 214)) p (.slice ra (bK s).R.length rc) (.slice xa (bK s).X.length xc) (.slice sa (bK s).S.length sc) (.slice la (bO s).length lc)):=HO.out.below a1.out;obtain⟨⟨c0,f0⟩,⟨c1,f1⟩,⟨c2,f2⟩,⟨c3,f3⟩,⟨c4,f4⟩⟩:=fd5 a6.out;have d:=DT a9.out;obtain⟨d0,d1,d2,d3⟩:=d;clear a1 a9 HO O a5;generalize M.alloc (.cells #[tS p,.slice ra (bK s).R.length rc,.slice xa (bK s).X.length xc,.slice sa (bK s).S.length sc] 214)=U at*;generalize M.heap.size=gb at*;by_cases F:bO s=[]
  ·have h0:((0:Int)<((bO s).length:Int))=False:=by rw[F];simp
   have HE:Hid (cY (some s)=.man 0 ⟨(bK s).p,reqs (bK s).R,sR (bK s).X,sS (bK s).S⟩):=tC F;have QP:(bO s).length=0:=by rw[F];rfl
   have HF:Hid (∀W:zW,(∀b,w.heap.size+1<b->W.heap[b]?=U.heap[b]?)->fW A W (.iface 216 (.agg #[zI 0,tS p,.slice ra (bK s).R.length rc,.slice xa (bK s).X.length xc,.slice sa (bK s).S.length sc])) (cY (some s))):=fun W hW=>by
    rw[HE.out,E.out.pe];refine⟨_,_,_,rfl,?_,?_,?_⟩
    ·exact RdA.own (B:=W1.heap.size) (by rw[show(reqs (bK s).R).length=(bK s).R.length from Ss.cG _];exact ar E.out.re (fun b e=>hW b (by have:=(E.out.re.lt b e).1;have:=a3.out;omega))) rfl gX a4.out
    ·exact RdA.own (B:=W1.heap.size) (by rw[show(sR (bK s).X).length=(bK s).X.length from Ss.cG _];exact ar E.out.xe (fun b e=>hW b (by have:=(E.out.xe.lt b e).1;have:=a3.out;omega))) rfl gX a4.out
    ·exact RdA.own (B:=W1.heap.size) (by rw[show(sS (bK s).S).length=(bK s).S.length from Ss.cG _];exact ar E.out.se (fun b e=>hW b (by have:=(E.out.se.lt b e).1;have:=a3.out;omega))) rfl tx a4.out
   clear F;generalize (bO s).length=ns at*;subst QP;go_wp2;refine aI (bG results151 _ _ (w.heap.size+1) 216 _ (0,0) _ rfl (gW a6.out _ _ _ _ _) underlying216 rfl (by kernel_rfl)) rfl ?_;refine⟨_,rfl,HF.out _ (fun b hb=>?_),((((a8.out.setCell (cE _) _).setCell (cE _) _).setCell (cE _) _).setCell (cE _) _).setCell (cE _) _⟩;have a0:b≠w.heap.size+1:=by omega
   rw[aL _ _ _ _ a0,aL _ _ _ _ a0,aL _ _ _ _ a0,aL _ _ _ _ a0,aL _ _ _ _ a0]
  ·have HE:Hid (cY (some s)=.man 3 ⟨e0,[],[],[]⟩):=N5 F
   have h0:(0:Int)<((bO s).length:Int):=by have:=gC.2 F;omega
   clear F;generalize (bO s).length=ns at*;go_wp2;refine aI (bG results151 _ _ (w.heap.size+1) 216 _ (0,0) _ rfl (gW a6.out _ _ _ _ _) underlying216 rfl (by kernel_rfl)) rfl ?_;refine⟨_,rfl,by rw[HE.out];exact Av 3,((((a8.out.setCell (cE _) _).setCell (cE _) _).setCell (cE _) _).setCell (cE _) _).setCell (cE _) _⟩
end Pn
namespace Pn
open Mf Ed
variable{w w' W U Z:zW}{A:Nat->Prop}
theorem Lh{s:zA}(h:di s=[]):idxOf (some s)=.idx 0 (eP s):=aj h
theorem N6{s:zA}(h:di s≠[]):idxOf (some s)=.idx 6 []:=ag h
theorem Aw(E:Nat):fW A w (.iface 219 (.agg #[zI E,zN])) (.idx E []):=⟨_,rfl,RdA.nil _⟩
theorem vN:∀l:List zA,oK l=l.flatMap gf
 |[]=>rfl
 |x::l=>by
  have E:=vN l;unfold oK at E ⊢;rw[bQ,jF,E];rfl
theorem tE:∀x:zA,(gf x).length=1:=fun _=>rfl
theorem zy(t:Option zA)(w:zW)(hm:Ml w)(hA:∀b,A b->b<w.heap.size):
  zC 153 #[txV t] w fun e w'=>∃v,e=.returned v/\fW A w' (.iface 219 v) (idxOf t)/\Below w.heap.size w w':=by
 have M:Below w.heap.size w (w.alloc (.cells #[tS (bU t),.bool t.isSome] 129)):=(ae _ _).alloc (ah _) _;have HB:Hid (Below w.heap.size w ((w.alloc (.cells #[tS (bU t),.bool t.isSome] 129)).alloc (.cells #[zI 0,zN] 219))):=M.alloc M.size _;have HR:Hid (((w.alloc (.cells #[tS (bU t),.bool t.isSome] 129)).alloc (.cells #[zI 0,zN] 219)).heap[w.heap.size+1]?=some (.cells #[zI 0,zN] 219)):=eD w _ _;have HS:Hid (w.heap.size+1<((w.alloc (.cells #[tS (bU t),.bool t.isSome] 129)).alloc (.cells #[zI 0,zN] 219)).heap.size):=by show _<_;simp
 have F:Hid (∀o,Below w.heap.size w ((w.alloc (.cells #[tS (bU t),.bool t.isSome] 129)).alloc o)):=fun o=>M.alloc M.size o
 clear M;cases t with
 |none=>
  go_enter func153,ntmps153;go_wp2;refine aI (bG results153 _ _ (w.heap.size+1) 219 _ (0,0) _ rfl (eD w _ _) underlying219 rfl (by kernel_rfl)) rfl ?_;exact⟨_,rfl,Aw 5,F.out _⟩
 |some s=>
  have kt:=xU s ((w.alloc (.cells #[tS s,.bool true] 129)).alloc (.cells #[zI 0,zN] 219)) (hm.below HB.out);have a6:Hid (∀b,A b->b<w.heap.size):=hA;clear hm hA F;show zC 153 #[.agg #[tS s,.bool true]] w _;go_enter func153,ntmps153
  go_wp2_with (go_at_call 167;fail)
  have O:Hid (Below w.heap.size w ((w.alloc (.cells #[tS s,.bool true] 129)).alloc (.cells #[zI 0,zN] 219))):=HB;have a1:Hid (((w.alloc (.cells #[tS s,.bool true] 129)).alloc (.cells #[zI 0,zN] 219)).heap[w.heap.size+1]?=some (.cells #[zI 0,zN] 219)):=HR;have a2:Hid (w.heap.size+1<((w.alloc (.cells #[tS s,.bool true] 129)).alloc (.cells #[zI 0,zN] 219)).heap.size):=HS;clear HB HR HS;generalize (w.alloc (.cells #[tS s,.bool true] 129)).alloc (.cells #[zI 0,zN] 219)=W1 at*;go_at_call 167;refine kt.mono ?_;rintro e w2 ⟨ov,sv,rfl,ho,hb⟩;obtain⟨_,_,_,_,a0,a4⟩:=ho;have HO:Hid (w2.ownsRow W1.heap.size 9 1 ov (eP s).length (oK (eP s))):=a0;have F:Hid (Below w.heap.size w w2):=O.out.trans (hb.mono O.out.size);have T:Hid (w2.heap[w.heap.size+1]?=some (.cells #[zI 0,zN] 219)):=(hb.block _ a2.out).trans a1.out;have a5:Hid (∀b,A b->b<W1.heap.size):=fun b h=>by have:=a6.out b h;have:=O.out.size;omega
  obtain⟨oa,oc,e1⟩:=aC a0;obtain⟨la,lc,e4⟩:=aC a4;subst e1;subst e4;obtain⟨⟨c0,f0⟩,⟨c1,f1⟩⟩:=fd2 T.out;clear a0 a4 hb kt O a1;by_cases E:di s=[]
  ·have h0:((0:Int)<((di s).length:Int))=False:=by rw[E];simp
   have HE:Hid (idxOf (some s)=.idx 0 (eP s)):=Lh E;have QP:(di s).length=0:=by rw[E];rfl
   have HF:Hid (∀W:zW,(∀b,w.heap.size+1<b->W.heap[b]?=w2.heap[b]?)->fW A W (.iface 219 (.agg #[zI 0,.slice oa (eP s).length oc])) (idxOf (some s))):=fun W hW=>by
    rw[HE.out];refine⟨_,rfl,?_⟩;exact RdA.own (B:=W1.heap.size) (ar HO.out (fun b e=>hW b (by have:=(HO.out.lt b e).1;have:=a2.out;omega))) (by show oK _=_;exact vN _) tE a5.out
   clear E;generalize (di s).length=ns at*;subst QP;go_wp2;refine aI (bG results153 _ _ (w.heap.size+1) 219 _ (0,0) _ rfl (gM T.out _ _) underlying219 rfl (by kernel_rfl)) rfl ?_;refine⟨_,rfl,HF.out _ (fun b hb=>?_),(F.out.setCell (cE _) _).setCell (cE _) _⟩;have a3:b≠w.heap.size+1:=by omega
   rw[aL _ _ _ _ a3,aL _ _ _ _ a3]
  ·have HE:Hid (idxOf (some s)=.idx 6 []):=N6 E
   have h0:(0:Int)<((di s).length:Int):=by have:=gC.2 E;omega
   clear E;generalize (di s).length=ns at*;go_wp2;refine aI (bG results153 _ _ (w.heap.size+1) 219 _ (0,0) _ rfl (gM T.out _ _) underlying219 rfl (by kernel_rfl)) rfl ?_;refine⟨_,rfl,by rw[HE.out];exact Aw 6,(F.out.setCell (cE _) _).setCell (cE _) _⟩
