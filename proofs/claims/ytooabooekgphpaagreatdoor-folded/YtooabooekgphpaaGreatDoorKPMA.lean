import Derived.Test.YtooabooekgphpaaGreatDoorKPLA
import Derived.Test.YtooabooekgphpaaGreatDoorKED
import Derived.Test.YtooabooekgphpaaGreatDoorKRWA
set_option linter.all false
open Go.Proofs.Tryz
set_option maxRecDepth 100000
set_option maxHeartbeats 4000000
namespace Go.Proofs.YtooabooekgphpaaGreatDoor
open Go.RowKit
namespace Pn
open Mf Ed
variable{w w':zW}{A:Nat->Prop}
def RdA{α:Type}(A:Nat->Prop)(enc:α->List zV)(w:zW)(v:zV)(L:List α):Prop:=
 (v=zN/\L=[])\/∃b off c,v=.slice (some ⟨b,off,none⟩) L.length c/\(¬A b/\L.length<=c/\c<=maxLen/\b<w.heap.size)/\∀j u,(L.flatMap enc)[j]?=some u->w.cell? ⟨b,off+j,none⟩=some u
theorem RdA.turn{α:Type}{enc:α->List zV}{v:zV}{L:List α}(h:RdA A enc w v L)(F:ai A w w'):RdA A enc w' v L:=by
 rcases h with h|⟨b,off,c,h,D,M⟩
 ·exact Or.inl h
 ·refine Or.inr ⟨b,off,c,h,⟨D.1,D.2.1,D.2.2.1,bE D.2.2.2 F.size⟩,fun j u O=>?_⟩
  have E:=M j u O;rw[F.cell (a:=⟨b,off+j,none⟩) (aY _ _ E) D.1];exact E
theorem RdA.more{α:Type}{enc:α->List zV}{A2:Nat->Prop}{v:zV}{L:List α}(h:RdA A enc w v L)(E:∀b,b<w.heap.size->A2 b->A b):RdA A2 enc w v L:=by
 rcases h with h|⟨b,off,c,h,D,F⟩
 ·exact Or.inl h
 ·exact Or.inr ⟨b,off,c,h,⟨fun e=>D.1 (E b D.2.2.2 e),D.2⟩,F⟩
theorem RdA.below{α:Type}{enc:α->List zV}{v:zV}{L:List α}(h:RdA A enc w v L)(D:Below w.heap.size w w'):RdA A enc w' v L:=h.turn (ai.of_below D)
theorem RdA.len{α:Type}{enc:α->List zV}{v:zV}{L:List α}(h:RdA A enc w v L):∃a c,v=.slice a L.length c:=by
 rcases h with⟨h,D⟩|⟨b,off,c,h,_,_⟩
 ·exact⟨none,0,by rw[h,D];rfl⟩
 ·exact⟨_,_,h⟩
theorem RdA.room{α:Type}{enc:α->List zV}{a:Option Addr}{n c:Nat}{L:List α}(h:RdA A enc w (.slice a n c) L):L.length<=c/\c<=maxLen:=by
 rcases h with⟨h,D⟩|⟨b,off,M,h,⟨_,E,F,_⟩,_⟩
 ·injection h with _ _ e;subst e;rw[D];exact⟨af _,aL _⟩
 ·injection h with _ _ e;subst e;exact⟨E,F⟩
theorem RdA.nil{α:Type}(enc:α->List zV):RdA A enc w (zN) ([]:List α):=Or.inl ⟨rfl,rfl⟩
theorem RdA.own{α:Type}{enc:α->List zV}{v:zV}{L:List α}{B e s:Nat}{xs:List zV}(h:w.ownsRow B e s v L.length xs)(hx:xs=L.flatMap enc)(hl:∀x,(enc x).length=s)(S:∀b,A b->b<B):RdA A enc w v L:=by
 rcases h.2 with⟨E,D⟩|⟨g,c,O,E,D⟩
 ·exact Or.inl ⟨E,qf D⟩
 ·subst E
  refine Or.inr ⟨g,0,c,rfl,⟨fun T=>?_,D.2.2.1,D.2.2.2.1,(h.lt g rfl).2⟩,fun j u M=>?_⟩
  ·have:=S g T
   have:=(h.lt g rfl).1;omega
  ·have F:j<L.length*s:=by
    have:=(dv.1 M).1;rw[Ss.fA hl] at this;exact this
   rw[cZ,h.cellAt j F,hx];exact M
def dB(s:zA):List zV:=[.string s]
def aJ(p:Pb):List zV:=[zI p.1,.string p.2.1,.string p.2.2]
abbrev qv(q:Qn):zV:=.agg #[zI q.kind,.string q.path,.string q.ver]
def pJ:Tie->zV
 | .rd p none=>.iface 187 (.agg #[zI p.1,.string p.2.1,.string p.2.2,.string e0,.bool false])
 | .rd p (some s)=>.iface 187 (.agg #[zI p.1,.string p.2.1,.string p.2.2,.string s,.bool true])
 | .ask q=>.iface 82 (qv q)
def yS(t:Tie):List zV:=[pJ t]
def fP(A:Nat->Prop)(w:zW)(v:zV):Fi->Prop
 | .man D m=>∃E M F,v=.iface 208 (.agg #[zI D,.string m.p,E,M,F])/\RdA A Sm.mc w E m.R/\RdA A Sm.mc w M m.X/\RdA A Sw.mc w F m.S
 | .idx D T=>∃u,v=.iface 211 (.agg #[zI D,u])/\RdA A dB w u T
 | .wants ms ps=>∃a b,v=.iface 213 (.agg #[a,b])/\RdA A Sm.mc w a ms/\RdA A aJ w b ps
 | .list ms ps=>∃a b,v=.iface 89 (.agg #[a,b])/\RdA A Sm.mc w a ms/\RdA A aJ w b ps
 | .ord O ps=>∃a b,v=.iface 92 (.agg #[a,b])/\RdA A dB w a O/\RdA A aJ w b ps
theorem fP.turn{v:zV}:∀{f:Fi},fP A w v f->ai A w w'->fP A w' v f
 | .man _ _,⟨O,T,S,h,E,F,M⟩,D=>⟨O,T,S,h,E.turn D,F.turn D,M.turn D⟩
 | .idx _ _,⟨u,h,E⟩,D=>⟨u,h,E.turn D⟩
 | .wants _ _,⟨a,b,h,E,F⟩,D=>⟨a,b,h,E.turn D,F.turn D⟩
 | .list _ _,⟨a,b,h,E,F⟩,D=>⟨a,b,h,E.turn D,F.turn D⟩
 | .ord _ _,⟨a,b,h,E,F⟩,D=>⟨a,b,h,E.turn D,F.turn D⟩
theorem fP.more{A2:Nat->Prop}{v:zV}:∀{f:Fi},fP A w v f->(∀b,b<w.heap.size->A2 b->A b)->fP A2 w v f
 | .man _ _,⟨O,T,S,h,E,F,M⟩,D=>⟨O,T,S,h,E.more D,F.more D,M.more D⟩
 | .idx _ _,⟨u,h,E⟩,D=>⟨u,h,E.more D⟩
 | .wants _ _,⟨a,b,h,E,F⟩,D=>⟨a,b,h,E.more D,F.more D⟩
 | .list _ _,⟨a,b,h,E,F⟩,D=>⟨a,b,h,E.more D,F.more D⟩
 | .ord _ _,⟨a,b,h,E,F⟩,D=>⟨a,b,h,E.more D,F.more D⟩
def iD(A:Nat->Prop)(w:zW)(v:zV)(k:Kp):Prop:=
 ∃D J,v=.agg #[D,J,zI k.changed,zI k.checked]/\fP A w D k.f/\RdA A yS w J k.ties
theorem iD.turn{v:zV}{k:Kp}(h:iD A w v k)(D:ai A w w'):iD A w' v k:=by
 obtain⟨E,J,e,F,M⟩:=h;exact⟨E,J,e,F.turn D,M.turn D⟩
theorem iD.more{A2:Nat->Prop}{v:zV}{k:Kp}(h:iD A w v k)(D:∀b,b<w.heap.size->A2 b->A b):iD A2 w v k:=by
 obtain⟨E,J,e,F,M⟩:=h;exact⟨E,J,e,F.more D,M.more D⟩
def dT(A:Nat->Prop)(w:zW):List (zV×zV)->List Kp->Prop
 |[],[]=>True
 |x::L,k::D=>x.1=qv k.q/\iD A w x.2 k/\dT A w L D
 |_,_=>False
theorem dT.turn:∀{L:List (zV×zV)} {D:List Kp},dT A w L D->ai A w w'->dT A w' L D
 |[],[],_,_=>trivial
 |_::_,_::_,⟨h,F,M⟩,E=>⟨h,F.turn E,M.turn E⟩
 |[],_::_,h,_=>h.elim
 |_::_,[],h,_=>h.elim
theorem dT.more{A2:Nat->Prop}:∀{L:List (zV×zV)} {D:List Kp},dT A w L D->(∀b,b<w.heap.size->A2 b->A b)->dT A2 w L D
 |[],[],_,_=>trivial
 |_::_,_::_,⟨h,F,M⟩,E=>⟨h,F.more E,M.more E⟩
 |[],_::_,h,_=>h.elim
 |_::_,[],h,_=>h.elim
theorem dT.len:∀{L:List (zV×zV)} {D:List Kp},dT A w L D->L.length=D.length
 |[],[],_=>rfl
 |_::_,_::_,⟨_,_,h⟩=>by rw[bN,bN,h.len]
 |[],_::_,h=>h.elim
 |_::_,[],h=>h.elim
structure cP(A:Nat->Prop)(w:World)(Q Y fb:Nat)(cap:Int)(cs:List Int)(D:List Kp):Prop where
 f0:Ed.Fd w Q 0 (zP Y)
 f1:Ed.Fd w Q 1 (zI cap)
 f2:Ed.Fd w Q 2 (.map (some fb))
 cn:∀j c,cs[j]?=some c->Ed.Fd w Q (3+j) (zI c)
 map:∃L,Mp.MapAt prog 82 w fb L/\dT A w L D
 ne:Q≠fb
 hd:A Q
 hf:A fb
end Pn
namespace Pn
open Mf Ed
variable{w w':zW}{A:Nat->Prop}{Y mb V:Nat}{L:List (zV×zV)}
abbrev plV(p:Plc):zV:=.agg #[zI (p.1:Int),.string p.2.1,.string p.2.2]
def sB(L:List (zV×zV))(s:Shf):Prop:=∀p:Plc,match s p with
 |some t=>(plV p,Ed.txt t)∈L
 |none=>∀x∈L,x.1≠plV p
def bF:Option zA->zA
 |none=>e0
 |some s=>s
abbrev txV(t:Option zA):zV:=.agg #[.string (bF t),.bool t.isSome]
structure POk(p:Plc):Prop where
 k:p.1<=4
 hp:p.2.1.size<=281474976710656
 hv:p.2.2.size<=281474976710656
theorem C9(k:Nat)(h:k<=4):(Lit.int .i64 (k:Int)).wf=true:=by
 rcases(by omega:k=0\/k=1\/k=2\/k=3\/k=4) with rfl|rfl|rfl|rfl|rfl<;>rfl
theorem POk.key{p:Plc}(h:POk p):∃l,keyOf prog 103 (plV p)=some l:=rM _ _ _ (C9 _ h.k) (by have:=h.hp;unfold maxLen;omega) (by have:=h.hv;unfold maxLen;omega)
theorem Nv{s:Shf}(M:sB L s){p:Plc}(F:POk p)(W:zW)(E:rN W mb L):(Instr.lookup 69 (.map (some mb)) (plV p) false).run prog W=.ok (txV (s p)) W:=by
 obtain⟨O,D⟩:=F.key;have h:=M p;cases e:s p with
 |none=>rw[e] at h;exact E.look_none false gM underlying69 (mH W) D h
 |some t=>rw[e] at h;exact E.look_some false gM underlying69 (mH W) D h
theorem Kw(s:Shf)(p:Plc)(w:zW)(h:aC w Y mb V L)(hs:sB L s)(hp:POk p):
  zC 127 #[zP Y,plV p] w fun e w'=>e=.returned (txV (s p))/\Below w.heap.size w w':=by
 have pP:=fun W hW=>Nv (mb:=mb) hs hp W hW
 have HS:Hid (aC w Y mb V L):=h;clear h hs hp;obtain⟨pk,F,pv⟩:=p;generalize s (pk,F,pv)=t at*;have T:Hid (∀W,rN W mb L->(Instr.lookup 69 (.map (some mb)) (.agg #[zI (pk:Int),.string F,.string pv]) false).run prog W=.ok (.agg #[.string (bF t),.bool t.isSome]) W):=pP;clear pP;show zC 127 #[zP Y,.agg #[zI (pk:Int),.string F,.string pv]] w fun e w'=>e=.returned (.agg #[.string (bF t),.bool t.isSome])/\Below w.heap.size w w'
 generalize bF t=D at*;generalize t.isSome=S at*;generalize (pk:Int)=k at*;go_enter func127,ntmps127;go_upto_region 1 with fail;have E:Below w.heap.size w (w.alloc (.cells #[zI k,.string F,.string pv] 103)):=(ae _ _).alloc (af _) _;have O:Below w.heap.size w ((w.alloc (.cells #[zI k,.string F,.string pv] 103)).alloc (.cells #[zE,.bool false] 123)):=E.alloc E.size _;have M:Hid (aC ((w.alloc (.cells #[zI k,.string F,.string pv] 103)).alloc (.cells #[zE,.bool false] 123)) Y mb V L):=HS.out.below O;have c0:=M.out.f0.1;have l1:=T.out _ M.out.map;have l2:=T.out ((w.alloc (.cells #[zI k,.string F,.string pv] 103)).alloc (.cells #[zE,.bool false] 123)).drew M.out.map;have HB:Hid (Below w.heap.size w ((w.alloc (.cells #[zI k,.string F,.string pv] 103)).alloc (.cells #[.string D,.bool S] 123)).drew):=(E.alloc E.size _).drew;clear E O;have HH:Hid (((w.alloc (.cells #[zI k,.string F,.string pv] 103)).alloc (.cells #[.string D,.bool S] 123)).drew.heap[w.heap.size+1]?=some (.cells #[.string D,.bool S] 123)):=eA w _ _
 go_region
 go_wp2;refine aI (bG results127 _ _ (w.heap.size+1) 123 _ (0,0) _ rfl HH.out underlying123 rfl (by kernel_rfl)) rfl ?_;exact⟨rfl,HB.out⟩
end Pn
namespace Pn
open Mf Ed
variable{w w' W U Z:zW}{A:Nat->Prop}{Y mb V:Nat}{L:List (zV×zV)}
structure dA(B:Nat)(w:World)(G Q:Nat)(J:zV)(I:List Tie):Prop where
 t0:Ed.Fd w G 0 (zP Q)
 t1:Ed.Fd w G 1 J
 row:w.ownsRow B 185 1 J I.length (I.map pJ)
 ne:J.ownBlock≠some G
 hb:B<=G
variable{B G Q:Nat}{J:zV}{I:List Tie}
theorem dA.of_block(h:dA B w G Q J I)(D:w'.heap[G]?=w.heap[G]?)(E:∀b,J.ownBlock=some b->w'.heap[b]?=w.heap[b]?):dA B w' G Q J I:=
 ⟨h.t0.of_block D,h.t1.of_block D,ar h.row E,h.ne,h.hb⟩
theorem dA.turn{p:Nat->Prop}(h:dA B w G Q J I)(E:ai p w w')(D:∀b,p b->b<B):dA B w' G Q J I:=
 h.of_block (E.block G h.t0.lt (fun e=>by have:=D _ e;have:=h.hb;omega)) (fun b e=>E.block b (h.row.lt b e).2 (fun F=>by have:=D _ F;have:=(h.row.lt b e).1;omega))
theorem dA.below(h:dA B w G Q J I)(D:Below w.heap.size w w'):dA B w' G Q J I:=
 h.of_block (D.block G h.t0.lt) (fun b e=>D.block b (h.row.lt b e).2)
abbrev Own(G:Nat)(J:zV)(b:Nat):Prop:=b=G\/J.ownBlock=some b
theorem dA.grow{g cap:Nat}{t:Tie}(h:dA B W G Q J I)(T:W.grownBy Z J.ownBlock)(E:Z.ownsRow B 185 1 (.slice (some ⟨g,0,none⟩) (I.length+1) cap) (I.length+1) (I.map pJ++[pJ t]))(M:J.ownBlock=some g\/W.heap.size<=g):
  dA B (Z.setCell ⟨G,1,none⟩ (.slice (some ⟨g,0,none⟩) (I.length+1) cap)) G Q (.slice (some ⟨g,0,none⟩) (I.length+1) cap) (I++[t])/\ai (Own G J) W (Z.setCell ⟨G,1,none⟩ (.slice (some ⟨g,0,none⟩) (I.length+1) cap)):=by
 have D:g≠G:=fun e=>by
  rcases M with S|S
  ·exact h.ne (by rw[S,e])
  ·have:=h.t0.lt;omega
 have O:Z.heap[G]?=W.heap[G]?:=T.block G h.t0.lt (fun e=>h.ne e.symm);have f0:=h.t0.of_block O;have f1:=h.t1.of_block O;refine⟨⟨f0.set (by decide),⟨iu _ _ _ f1.1,by rw[dV];exact f1.2⟩,?_,?_,h.hb⟩,((ai.refl (Own G J) W).grown T (fun k _ e=>Or.inr e)).set (a:=⟨G,1,none⟩) (fun _=>Or.inl rfl) _⟩
 ·rw[aW,eZ]
  refine ar E (fun b e=>aM _ _ _ _ (fun e2=>?_));have F:g=b:=by simpa[Value.ownBlock] using e
  exact D (F.trans e2)
 ·intro e
  have F:g=G:=by simpa[Value.ownBlock] using e
  exact D F
theorem gA{W:zW}{r:Nat}{t:TypeId}{x y:zV}(h:W.heap[r]?=some (.cells #[x,y] t))(a b:zV):((W.setCell ⟨r,0,none⟩ a).setCell ⟨r,1,none⟩ b).heap[r]?=some (.cells #[a,b] t):=by
 have D:=aU _ _ 0 _ _ a h;exact aU _ _ 1 _ _ b D
theorem fd2{W:zW}{r:Nat}{t:TypeId}{x y:zV}(h:W.heap[r]?=some (.cells #[x,y] t)):(W.cell? ⟨r,0,none⟩=some x/\W.frozen? ⟨r,0,none⟩=false)/\(W.cell? ⟨r,1,none⟩=some y/\W.frozen? ⟨r,1,none⟩=false):=by
 simp only[World.cell?,World.frozen?,h];exact⟨⟨rfl,rfl⟩,⟨rfl,rfl⟩⟩
theorem oI{b o:Nat}{u:zV}(h:Ed.Fd W b o u)(v:zV):Ed.Fd (W.setCell ⟨b,o,none⟩ v) b o v:=⟨iu _ _ _ h.1,by rw[dV];exact h.2⟩
theorem Gh(W:zW)(v:zV)(t:TypeId):∀j u,[v][j]?=some u->(W.alloc (.cells #[v] t)).cell? ((⟨W.heap.size,0,none⟩:Addr).add j)=some u:=cell_one_new W v t
theorem Ky(t:Tie):(pJ t).oneCell'=true:=by
 cases t with
 |rd p t=>cases t<;>rfl
 |ask q=>rfl
theorem Gi(p:Plc)(t:Option zA):pJ (.rd p t)=.iface 187 (.agg #[zI p.1,.string p.2.1,.string p.2.2,.string (bF t),.bool t.isSome]):=by
 cases t<;>rfl
theorem oz(s:Shf)(p:Plc)(w:zW)(h:aC w Y mb V L)(hs:sB L s)(hp:POk p)(hT:dA B w G Q J I)(hd:w.cell? ⟨Q,0,none⟩=some (zP Y))(br:I.length<=100000)(hB:B<=w.heap.size):
  zC 142 #[zP G,plV p] w fun e w'=>∃a3,e=.returned (txV (s p))/\dA B w' G Q a3 (I++[.rd p (s p)])/\ai (Own G J) w w'/\(∀b,a3.ownBlock=some b->J.ownBlock=some b\/w.heap.size<=b):=by
 obtain⟨i3,b5,b6,b7,b8⟩:=Bm.fB 185 .nilIface 1 16 (by kernel_rfl);have HI:Hid (prog.info? 185=some i3/\i3.zero=some .nilIface/\i3.size=1/\i3.bytes=16):=⟨b5,b6,b7,b8⟩;clear b5 b6 b7 b8;have KA:Hid (∀W,Below w.heap.size w W->zC 127 #[zP Y,plV p] W fun e w'=>e=.returned (txV (s p))/\Below W.heap.size W w'):=fun W hb=>Kw s p W (h.below hb) hs hp
 have HT:Hid (dA B w G Q J I):=hT;have HD:Hid (w.cell? ⟨Q,0,none⟩=some (zP Y)):=hd;have HV:Hid (pJ (.rd p (s p))=.iface 187 (.agg #[zI p.1,.string p.2.1,.string p.2.2,.string (bF (s p)),.bool (s p).isSome])):=Gi _ _;have bn:Hid ((pJ (.rd p (s p))).oneCell'=true):=Ky _;clear h hs hp hT hd;obtain⟨pk,E,pv⟩:=p;generalize s (pk,E,pv)=t at*;show zC 142 #[zP G,.agg #[zI (pk:Int),.string E,.string pv]] w fun e w'=>∃a3,e=.returned (.agg #[.string (bF t),.bool t.isSome])/\dA B w' G Q a3 (I++[.rd (pk,E,pv) t])/\ai (Own G J) w w'/\(∀b,a3.ownBlock=some b->J.ownBlock=some b\/w.heap.size<=b)
 have KB:Hid (∀W,Below w.heap.size w W->zC 127 #[zP Y,.agg #[zI (pk:Int),.string E,.string pv]] W fun e w'=>e=.returned (.agg #[.string (bF t),.bool t.isSome])/\Below W.heap.size W w'):=KA;have HW:Hid (pJ (.rd (pk,E,pv) t)=.iface 187 (.agg #[zI (pk:Int),.string E,.string pv,.string (bF t),.bool t.isSome])):=HV;clear KA HV;generalize Tie.rd (pk,E,pv) t=tie at*;generalize bF t=M at*;generalize t.isSome=th at*;generalize (pk:Int)=k at*;go_enter func142,ntmps142;go_upto_region 1 with fail;have aq:Below w.heap.size w (w.alloc (.cells #[zI k,.string E,.string pv] 103)):=(ae _ _).alloc (af _) _;have S:Hid (Below w.heap.size w ((w.alloc (.cells #[zI k,.string E,.string pv] 103)).alloc (.cells #[zE,.bool false] 123))):=aq.alloc aq.size _;have ak:Hid (fL ((w.alloc (.cells #[zI k,.string E,.string pv] 103)).alloc (.cells #[zE,.bool false] 123)) w.heap.size k E pv):=(fL.new w k E pv).below ((ae _ _).alloc (af _) _);have b0:Hid (((w.alloc (.cells #[zI k,.string E,.string pv] 103)).alloc (.cells #[zE,.bool false] 123)).heap[w.heap.size+1]?=some (.cells #[zE,.bool false] 123)):=eA w _ _
 have aa:Hid (((w.alloc (.cells #[zI k,.string E,.string pv] 103)).alloc (.cells #[zE,.bool false] 123)).cell? ⟨Q,0,none⟩=some (zP Y)):=by
  show World.cell? _ _=_;rw[S.out.cell (p:=⟨Q,0,none⟩) (aY _ _ HD.out)];exact HD.out
 have ad:Hid (dA B ((w.alloc (.cells #[zI k,.string E,.string pv] 103)).alloc (.cells #[zE,.bool false] 123)) G Q J I):=HT.out.below S.out;have KC:Hid (∀W,Below ((w.alloc (.cells #[zI k,.string E,.string pv] 103)).alloc (.cells #[zE,.bool false] 123)).heap.size ((w.alloc (.cells #[zI k,.string E,.string pv] 103)).alloc (.cells #[zE,.bool false] 123)) W->zC 127 #[zP Y,.agg #[zI k,.string E,.string pv]] W fun e w'=>e=.returned (.agg #[.string M,.bool th])/\Below W.heap.size W w'):=fun W hb=>KB.out W (S.out.trans (hb.mono S.out.size))
 clear aq KB HD;have bd:w.heap.size+1<((w.alloc (.cells #[zI k,.string E,.string pv] 103)).alloc (.cells #[zE,.bool false] 123)).heap.size:=by simp
 have a4:Hid (w.heap.size+1<((w.alloc (.cells #[zI k,.string E,.string pv] 103)).alloc (.cells #[zE,.bool false] 123)).heap.size):=bd;clear bd;generalize (w.alloc (.cells #[zI k,.string E,.string pv] 103)).alloc (.cells #[zE,.bool false] 123)=W1 at*;generalize a7:w.heap.size=F at*
 go_cut [5] (fun xp wx=>∃xb,xp=zP xb/\Hid (Below W1.heap.size W1 wx/\W1.heap.size<=xb/\Ed.Fd wx xb 0 (.string M)/\Ed.Fd wx xb 1 (.bool th)))
 case first=>
  have a1:Hid (∀W,Below W1.heap.size W1 W->W.cell? ⟨G,0,none⟩=some (zP Q)/\W.cell? ⟨Q,0,none⟩=some (zP Y)/\W.cell? ⟨F,0,none⟩=some (zI k)/\W.cell? ⟨F,1,none⟩=some (.string E)/\W.cell? ⟨F,2,none⟩=some (.string pv)):=fun W hb=>by
   have h1:=ak.out.below hb;exact⟨(ad.out.below hb).t0.1,by rw[hb.cell (p:=⟨Q,0,none⟩) (aY _ _ aa.out)];exact aa.out,h1.1.1,h1.2.1.1,h1.2.2.1⟩
  obtain⟨p0,p1,p2,p3,p4⟩:=a1.out _ (ae _ _)
  go_region_held3 (fun w'=>w'.cell? ⟨G,0,none⟩=some (zP Q)/\w'.cell? ⟨Q,0,none⟩=some (zP Y)/\w'.cell? ⟨F,0,none⟩=some (zI k)/\w'.cell? ⟨F,1,none⟩=some (.string E)/\w'.cell? ⟨F,2,none⟩=some (.string pv))
   (first|exact⟨p0,p1,p2,p3,p4⟩|exact a1.out _ ((ae _ _).drew)|exact a1.out _ (aB ((ae _ _).drew) _)|exact a1.out _ a0|exact a1.out _ (aB a0 _)|exact a1.out _ ((a0.setCell (by simp) _).setCell (by simp) _))
   (first|(go_at_call 127;refine(KC.out _ ((ae _ _).drew)).mono ?_;rintro e w3 ⟨rfl,E9⟩;have a0:Below W1.heap.size W1 w3:=((ae W1.heap.size W1).drew).trans E9;clear E9)|(go_at_call 127;refine(KC.out _ (aB ((ae _ _).drew) _)).mono ?_;rintro e w3 ⟨rfl,E9⟩;have a0:Below W1.heap.size W1 w3:=(aB ((ae W1.heap.size W1).drew) _).trans (E9.mono (by simp));have au:Ed.Fd w3 W1.heap.size 0 (zE):=(dy W1.drew #[zE,.bool false] 123 (j:=0) rfl).of_block (E9.block _ (by simp));have av:Ed.Fd w3 W1.heap.size 1 (.bool false):=(dy W1.drew #[zE,.bool false] 123 (j:=1) rfl).of_block (E9.block _ (by simp));have z0:=au.1;have z1:=av.1;have y0:=au.2;have y1:=av.2;clear E9))
  all_goals
   go_wp2_with fail
   go_meet
   first
    |exact⟨w3.heap.size,rfl,aB a0 _,a0.size,dy w3 _ 123 rfl,dy w3 _ 123 rfl⟩
    |exact⟨W1.heap.size,rfl,(a0.setCell (af _) _).setCell (af _) _,af _,(oI au _).set (by decide),oI (av.set (by decide)) _⟩
 case rest=>
  obtain⟨xb,h5,HC⟩:=hcut;rw[h5];clear h5;have a2:Hid (dA B wc G Q J I):=ad.out.below HC.out.1
  have b1:Hid (wc.heap[F+1]?=some (.cells #[zE,.bool false] 123)):=by
   show wc.heap[F+1]?=_;rw[HC.out.1.block _ a4.out];exact b0.out
  have a9:Hid (Below w.heap.size w wc):=by
   show Below w.heap.size w wc;rw[a7];exact S.out.trans (HC.out.1.mono (by have:=S.out.size;omega))
  obtain⟨⟨x0,_⟩,⟨x1,_⟩,⟨x2,_⟩⟩:=ak.out.below HC.out.1;obtain⟨_,bs,⟨x3,_⟩,⟨x4,_⟩⟩:=HC.out;have bm:F+1<wc.heap.size:=by have:=HC.out.1.size;have:=a4.out;omega
  have bh:xb<wc.heap.size:=aY _ _ x3;clear b0 ad ak aa KC S;generalize a6:wc.alloc (.cells #[.iface 187 (.agg #[zI k,.string E,.string pv,.string M,.bool th])] 185)=U;have b4:Below wc.heap.size wc U:=by rw[<-a6];exact(ae _ _).alloc (af _) _
  have b3:Hid (dA B U G Q J I):=a2.out.below b4;have O:Hid (dA B U.drew G Q J I):=a2.out.below b4.drew;have c1:wc.cell? ⟨G,1,none⟩=some J:=a2.out.t1.1;have bk:U.cell? ⟨G,1,none⟩=some J:=b3.out.t1.1;have bc:U.drew.ownsRow B 185 1 J I.length (I.map pJ):=O.out.row;have bb:∀j u,[Value.iface 187 (.agg #[zI k,.string E,.string pv,.string M,.bool th])][j]?=some u->U.drew.cell? ((⟨wc.heap.size,0,none⟩:Addr).add j)=some u:=by rw[<-a6];exact Gh wc _ 185
  have bq:U.heap.size=wc.heap.size+1:=by rw[<-a6];simp
  have bp:B<=wc.heap.size:=by have:=a9.out.size;omega
  have T:Hid (G<F/\(∀b,J.ownBlock=some b->b<F)/\F+1<xb+1/\F+1<W1.heap.size):=⟨by rw[<-a7];exact HT.out.t0.lt,fun b e=>by rw[<-a7];exact(HT.out.row.lt b e).2,by have:=a4.out;omega,a4.out⟩;obtain⟨sa,sc,rfl⟩:=ax a2.out.row;subst a6;go_upto_region 2 with fail
  go_region_law
   (first|(refine step_append_lies _ rfl (.tmp 19) (.tmp 24) 85 rfl B 185 i3 .nilIface 1 16 underlying85 HI.out.1 HI.out.2.1 HI.out.2.2.1 HI.out.2.2.2 rfl (by decide) _ I.length _ rfl bc ⟨wc.heap.size,0,none⟩ 1 1 [.iface 187 (.agg #[zI k,.string E,.string pv,.string M,.bool th])] rfl rfl bb (fun u hu=>by simp at hu;subst hu;rfl) (by decide) (by unfold maxLen;omega) (by omega) (by show B<=(wc.alloc _).heap.size;simp;omega) _ rfl ?_;intro g cap Z a8 D an vB;have c3:Z.cell? ⟨G,1,none⟩=some (.slice sa I.length sc):=(O.out.t1.of_block (D.block G O.out.t1.lt (fun e=>O.out.ne e.symm))).1;have f3:Z.frozen? ⟨G,1,none⟩=false:=(O.out.t1.of_block (D.block G O.out.t1.lt (fun e=>O.out.ne e.symm))).2))
  all_goals
   have hG:=O.out.grow (t:=tie) ⟨D.os,D.tape,D.output,D.size,D.block⟩ (by rw[HW.out];exact a8) (by
    rcases an with h|h
    ·exact Or.inl h
    ·right;rw[h];exact af _)
   have bi:Hid (dA B (Z.setCell ⟨G,1,none⟩ (.slice (some ⟨g,0,none⟩) (I.length+1) cap)) G Q (.slice (some ⟨g,0,none⟩) (I.length+1) cap) (I++[tie])):=hG.1;have a5:Hid (ai (Own G (.slice sa I.length sc)) wc (Z.setCell ⟨G,1,none⟩ (.slice (some ⟨g,0,none⟩) (I.length+1) cap))):=(ai.of_below (((ae wc.heap.size wc).alloc (af _) _).drew)).trans hG.2 (fun _ _ h=>h) (fun _ _ h=>h)
   have az:Hid (∀b,(Value.slice (some ⟨g,0,none⟩) (I.length+1) cap).ownBlock=some b->(Value.slice sa I.length sc).ownBlock=some b\/wc.heap.size<=b):=fun b e=>by
    have e1:g=b:=by simpa[Value.ownBlock] using e
    rcases an with h|h
    ·exact Or.inl (by rw[<-e1];exact h)
    ·right
     have h2:g=(wc.alloc (.cells #[.iface 187 (.agg #[zI k,.string E,.string pv,.string M,.bool th])] 185)).heap.size:=h;rw[<-e1,h2];simp
   have ab:Hid (∀b,F<=b->¬Own G (.slice sa I.length sc) b):=fun b hb h=>by
    rcases h with h|h
    ·have:=T.out.1;omega
    ·have:=T.out.2.1 b h;omega
   have b2:Hid ((Z.setCell ⟨G,1,none⟩ (.slice (some ⟨g,0,none⟩) (I.length+1) cap)).heap[F+1]?=some (.cells #[zE,.bool false] 123)):=(a5.out.block (F+1) bm (ab.out _ (by omega))).trans b1.out
   have y3:(Z.setCell ⟨G,1,none⟩ (.slice (some ⟨g,0,none⟩) (I.length+1) cap)).cell? ⟨xb,0,none⟩=some (.string M):=by
    rw[a5.out.cell (a:=⟨xb,0,none⟩) bh (ab.out xb (by have:=T.out.2.2.1;omega))];exact x3
   have y4:(Z.setCell ⟨G,1,none⟩ (.slice (some ⟨g,0,none⟩) (I.length+1) cap)).cell? ⟨xb,1,none⟩=some (.bool th):=by
    rw[a5.out.cell (a:=⟨xb,1,none⟩) bh (ab.out xb (by have:=T.out.2.2.1;omega))];exact x4
   obtain⟨⟨r0,f0⟩,⟨r1,f1⟩⟩:=fd2 b2.out;clear hG a8 D an vB c3 f3 bc bb c1 bk x0 x1 x2 x3 x4 b3 O a2 b1;generalize Z.setCell ⟨G,1,none⟩ (.slice (some ⟨g,0,none⟩) (I.length+1) cap)=W6 at*;go_wp2;refine aI (bG results142 _ _ (F+1) 123 _ (0,0) _ rfl (gA b2.out _ _) underlying123 rfl (by kernel_rfl)) rfl ?_;refine⟨_,rfl,bi.out.of_block ?_ ?_,?_,?_⟩
   ·rw[aM _ _ _ _ (by have:=T.out.1;show G≠F+1;omega),aM _ _ _ _ (by have:=T.out.1;show G≠F+1;omega)]
   ·intro b e
    have b9:b≠F+1:=fun e2=>by
     rcases az.out b e with h|h
     ·have:=T.out.2.1 b h;omega
     ·omega
    rw[aM _ _ _ _ b9,aM _ _ _ _ b9]
   ·have h1:ai (Own G (.slice sa I.length sc)) w W6:=(ai.of_below (by have:=a9.out;first|exact this|(rw[a7] at this ⊢;exact this))).trans a5.out (fun _ _ h=>h) (fun _ _ h=>h)
    exact(h1.set (a:=⟨F+1,0,none⟩) (fun h=>by have h2:F+1<w.heap.size:=h;omega) _).set (a:=⟨F+1,1,none⟩) (fun h=>by have h2:F+1<w.heap.size:=h;omega) _
   ·intro b e
    rcases az.out b e with h|h
    ·exact Or.inl h
    ·right;have:=a9.out.size;omega
end Pn
namespace Pn
open Mf Ed
variable{w w' W U Z:zW}{A:Nat->Prop}
theorem Fa{W:zW}{r:Nat}{t:TypeId}{O S T x3 x4:zV}(h:W.heap[r]?=some (.cells #[O,S,T,x3,x4] t))(a b c d e:zV):(((((W.setCell ⟨r,0,none⟩ a).setCell ⟨r,1,none⟩ b).setCell ⟨r,2,none⟩ c).setCell ⟨r,3,none⟩ d).setCell ⟨r,4,none⟩ e).heap[r]?=some (.cells #[a,b,c,d,e] t):=by
 have D:=aU _ _ 0 _ _ a h;have E:=aU _ _ 1 _ _ b D;have F:=aU _ _ 2 _ _ c E;have M:=aU _ _ 3 _ _ d F;exact aU _ _ 4 _ _ e M
theorem fd5{W:zW}{r:Nat}{t:TypeId}{D E F M O:zV}(h:W.heap[r]?=some (.cells #[D,E,F,M,O] t)):(W.cell? ⟨r,0,none⟩=some D/\W.frozen? ⟨r,0,none⟩=false)/\(W.cell? ⟨r,1,none⟩=some E/\W.frozen? ⟨r,1,none⟩=false)/\(W.cell? ⟨r,2,none⟩=some F/\W.frozen? ⟨r,2,none⟩=false)/\(W.cell? ⟨r,3,none⟩=some M/\W.frozen? ⟨r,3,none⟩=false)/\(W.cell? ⟨r,4,none⟩=some O/\W.frozen? ⟨r,4,none⟩=false):=by
 simp only[World.cell?,World.frozen?,h];exact⟨⟨rfl,rfl⟩,⟨rfl,rfl⟩,⟨rfl,rfl⟩,⟨rfl,rfl⟩,⟨rfl,rfl⟩⟩
theorem Da{b:Nat}{v0 v1 v2 D:zV}{t:TypeId}(h:W.heap[b]?=some (.cells #[v0,v1,v2,D] t)):
  W.cell? ⟨b,0,none⟩=some v0/\W.cell? ⟨b,1,none⟩=some v1/\W.cell? ⟨b,2,none⟩=some v2/\W.cell? ⟨b,3,none⟩=some D:=by
 simp only[World.cell?,h];exact⟨rfl,rfl,rfl,rfl⟩
theorem ah{b:Nat}{o:Obj}(h:W.heap[b]?=some o):b<W.heap.size:=(nG.1 h).1
theorem fC:∀x:Mo,(Sm.mc x).length=2:=fun _=>rfl
theorem sD:∀x:So,(Sw.mc x).length=3:=fun _=>rfl
theorem sF{s:zA}(h:bg s=[]):eN (some s)=.man 0 ⟨(bw s).p,reqs (bw s).R,vF (bw s).X,xj (bw s).S⟩:=aj h
theorem Nw{s:zA}(h:bg s≠[]):eN (some s)=.man 3 ⟨e0,[],[],[]⟩:=ag h
theorem zX(D:Nat):fP A w (.iface 208 (.agg #[zI D,.string e0,zN,zN,zN])) (.man D ⟨e0,[],[],[]⟩):=⟨_,_,_,rfl,RdA.nil _,RdA.nil _,RdA.nil _⟩
theorem ui(t:Option zA)(w:zW)(hm:Ml w)(hA:∀b,A b->b<w.heap.size):
  zC 141 #[txV t] w fun e w'=>∃v,e=.returned v/\fP A w' (.iface 208 v) (eN t)/\Below w.heap.size w w':=by
 have O:Below w.heap.size w (w.alloc (.cells #[.string (bF t),.bool t.isSome] 123)):=(ae _ _).alloc (af _) _;have HB:Hid (Below w.heap.size w ((w.alloc (.cells #[.string (bF t),.bool t.isSome] 123)).alloc (.cells #[zI 0,zE,zN,zN,zN] 208))):=O.alloc O.size _;have HR:Hid (((w.alloc (.cells #[.string (bF t),.bool t.isSome] 123)).alloc (.cells #[zI 0,zE,zN,zN,zN] 208)).heap[w.heap.size+1]?=some (.cells #[zI 0,zE,zN,zN,zN] 208)):=eA w _ _;have HS:Hid (w.heap.size+1<((w.alloc (.cells #[.string (bF t),.bool t.isSome] 123)).alloc (.cells #[zI 0,zE,zN,zN,zN] 208)).heap.size):=by show _<_;simp
 have M:Hid (∀o,Below w.heap.size w ((w.alloc (.cells #[.string (bF t),.bool t.isSome] 123)).alloc o)):=fun o=>O.alloc O.size o
 clear O;cases t with
 |none=>
  go_enter func141,ntmps141;go_wp2;refine aI (bG results141 _ _ (w.heap.size+1) 208 _ (0,0) _ rfl (eA w _ _) underlying208 rfl (by kernel_rfl)) rfl ?_;exact⟨_,rfl,zX 2,M.out _⟩
 |some s=>
  have kt:=rZ s ((w.alloc (.cells #[.string s,.bool true] 123)).alloc (.cells #[zI 0,zE,zN,zN,zN] 208)) (hm.below HB.out);have a9:Hid (∀b,A b->b<w.heap.size):=hA;clear hm hA M;show zC 141 #[.agg #[.string s,.bool true]] w _;go_enter func141,ntmps141
  go_wp2_with (go_at_call 155;fail)
  have a1:Hid (Below w.heap.size w ((w.alloc (.cells #[.string s,.bool true] 123)).alloc (.cells #[zI 0,zE,zN,zN,zN] 208))):=HB;have a8:Hid (((w.alloc (.cells #[.string s,.bool true] 123)).alloc (.cells #[zI 0,zE,zN,zN,zN] 208)).heap[w.heap.size+1]?=some (.cells #[zI 0,zE,zN,zN,zN] 208)):=HR;have a2:Hid (w.heap.size+1<((w.alloc (.cells #[.string s,.bool true] 123)).alloc (.cells #[zI 0,zE,zN,zN,zN] 208)).heap.size):=HS;clear HB HR HS;generalize (w.alloc (.cells #[.string s,.bool true] 123)).alloc (.cells #[zI 0,zE,zN,zN,zN] 208)=W1 at*;go_at_call 155;refine kt.mono ?_;rintro e F ⟨p,rv,xv,sv,lv,rfl,ho,hb,_⟩;have HO:Hid (CW W1.heap.size s F p rv xv sv lv):=ho;have M:Hid (Below w.heap.size w F):=a1.out.trans (hb.mono a1.out.size)
  have a4:Hid (F.heap[w.heap.size+1]?=some (.cells #[zI 0,zE,zN,zN,zN] 208)):=by
   show F.heap[w.heap.size+1]?=_;rw[hb.block _ a2.out];exact a8.out
  have a3:Hid (∀b,A b->b<W1.heap.size):=fun b h=>by have:=a9.out b h;have:=a1.out.size;omega
  obtain⟨ra,rc,e1⟩:=ax ho.re;obtain⟨xa,xc,e2⟩:=ax ho.xe;obtain⟨sa,sc,e3⟩:=ax ho.se;obtain⟨la,lc,e4⟩:=ax ho.le;subst e1;subst e2;subst e3;subst e4;clear ho hb kt a1 a8;have aa:Hid (w.heap.size+1<F.heap.size):=ah a4.out;have a0:Hid (Below F.heap.size F (F.alloc (.cells #[.string p,.slice ra (bw s).R.length rc,.slice xa (bw s).X.length xc,.slice sa (bw s).S.length sc] 206))):=(ae _ _).alloc (af _) _;have a7:Hid ((F.alloc (.cells #[.string p,.slice ra (bw s).R.length rc,.slice xa (bw s).X.length xc,.slice sa (bw s).S.length sc] 206)).heap[F.heap.size]?=some (.cells #[.string p,.slice ra (bw s).R.length rc,.slice xa (bw s).X.length xc,.slice sa (bw s).S.length sc] 206)):=ay _ _;go_upto_region 4 with fail
  have a5:Hid ((F.alloc (.cells #[.string p,.slice ra (bw s).R.length rc,.slice xa (bw s).X.length xc,.slice sa (bw s).S.length sc] 206)).heap[w.heap.size+1]?=some (.cells #[zI 0,zE,zN,zN,zN] 208)):=by
   exact(a0.out.block _ aa.out).trans a4.out
  have a6:Hid (Below w.heap.size w (F.alloc (.cells #[.string p,.slice ra (bw s).R.length rc,.slice xa (bw s).X.length xc,.slice sa (bw s).S.length sc] 206))):=M.out.trans (a0.out.mono M.out.size);have D:Hid (CW W1.heap.size s (F.alloc (.cells #[.string p,.slice ra (bw s).R.length rc,.slice xa (bw s).X.length xc,.slice sa (bw s).S.length sc] 206)) p (.slice ra (bw s).R.length rc) (.slice xa (bw s).X.length xc) (.slice sa (bw s).S.length sc) (.slice la (bg s).length lc)):=HO.out.below a0.out;obtain⟨⟨c0,f0⟩,⟨c1,f1⟩,⟨c2,f2⟩,⟨c3,f3⟩,⟨c4,f4⟩⟩:=fd5 a5.out;have d:=Da a7.out;obtain⟨d0,d1,d2,d3⟩:=d;clear a0 a7 HO M a4;generalize F.alloc (.cells #[.string p,.slice ra (bw s).R.length rc,.slice xa (bw s).X.length xc,.slice sa (bw s).S.length sc] 206)=U at*;generalize F.heap.size=gb at*;by_cases E:bg s=[]
  ·have h0:((0:Int)<((bg s).length:Int))=False:=by rw[E];simp
   have HE:Hid (eN (some s)=.man 0 ⟨(bw s).p,reqs (bw s).R,vF (bw s).X,xj (bw s).S⟩):=sF E;have P5:(bg s).length=0:=by rw[E];rfl
   have HF:Hid (∀W:zW,(∀b,w.heap.size+1<b->W.heap[b]?=U.heap[b]?)->fP A W (.iface 208 (.agg #[zI 0,.string p,.slice ra (bw s).R.length rc,.slice xa (bw s).X.length xc,.slice sa (bw s).S.length sc])) (eN (some s))):=fun W hW=>by
    rw[HE.out,D.out.pe];refine⟨_,_,_,rfl,?_,?_,?_⟩
    ·exact RdA.own (B:=W1.heap.size) (by rw[show(reqs (bw s).R).length=(bw s).R.length from Ss.cu _];exact ar D.out.re (fun b e=>hW b (by have:=(D.out.re.lt b e).1;have:=a2.out;omega))) rfl fC a3.out
    ·exact RdA.own (B:=W1.heap.size) (by rw[show(vF (bw s).X).length=(bw s).X.length from Ss.cu _];exact ar D.out.xe (fun b e=>hW b (by have:=(D.out.xe.lt b e).1;have:=a2.out;omega))) rfl fC a3.out
    ·exact RdA.own (B:=W1.heap.size) (by rw[show(xj (bw s).S).length=(bw s).S.length from Ss.cu _];exact ar D.out.se (fun b e=>hW b (by have:=(D.out.se.lt b e).1;have:=a2.out;omega))) rfl sD a3.out
   clear E;generalize (bg s).length=ns at*;subst P5;go_wp2;refine aI (bG results141 _ _ (w.heap.size+1) 208 _ (0,0) _ rfl (Fa a5.out _ _ _ _ _) underlying208 rfl (by kernel_rfl)) rfl ?_;refine⟨_,rfl,HF.out _ (fun b hb=>?_),((((a6.out.setCell (bS _) _).setCell (bS _) _).setCell (bS _) _).setCell (bS _) _).setCell (bS _) _⟩;have T:b≠w.heap.size+1:=by omega
   rw[aM _ _ _ _ T,aM _ _ _ _ T,aM _ _ _ _ T,aM _ _ _ _ T,aM _ _ _ _ T]
  ·have HE:Hid (eN (some s)=.man 3 ⟨e0,[],[],[]⟩):=Nw E
   have h0:(0:Int)<((bg s).length:Int):=by have:=gH.2 E;omega
   clear E;generalize (bg s).length=ns at*;go_wp2;refine aI (bG results141 _ _ (w.heap.size+1) 208 _ (0,0) _ rfl (Fa a5.out _ _ _ _ _) underlying208 rfl (by kernel_rfl)) rfl ?_;refine⟨_,rfl,by rw[HE.out];exact zX 3,((((a6.out.setCell (bS _) _).setCell (bS _) _).setCell (bS _) _).setCell (bS _) _).setCell (bS _) _⟩
end Pn
namespace Pn
open Mf Ed
variable{w w' W U Z:zW}{A:Nat->Prop}
theorem Kz{s:zA}(h:dM s=[]):idxOf (some s)=.idx 0 (fM s):=aj h
theorem Nx{s:zA}(h:dM s≠[]):idxOf (some s)=.idx 6 []:=ag h
theorem zY(D:Nat):fP A w (.iface 211 (.agg #[zI D,zN])) (.idx D []):=⟨_,rfl,RdA.nil _⟩
theorem uU:∀l:List zA,od l=l.flatMap dB
 |[]=>rfl
 |x::l=>by
  have D:=uU l;unfold od at D ⊢;rw[bD,jv,D];rfl
theorem pT:∀x:zA,(dB x).length=1:=fun _=>rfl
theorem yT(t:Option zA)(w:zW)(hm:Ml w)(hA:∀b,A b->b<w.heap.size):
  zC 143 #[txV t] w fun e w'=>∃v,e=.returned v/\fP A w' (.iface 211 v) (idxOf t)/\Below w.heap.size w w':=by
 have F:Below w.heap.size w (w.alloc (.cells #[.string (bF t),.bool t.isSome] 123)):=(ae _ _).alloc (af _) _;have HB:Hid (Below w.heap.size w ((w.alloc (.cells #[.string (bF t),.bool t.isSome] 123)).alloc (.cells #[zI 0,zN] 211))):=F.alloc F.size _;have HR:Hid (((w.alloc (.cells #[.string (bF t),.bool t.isSome] 123)).alloc (.cells #[zI 0,zN] 211)).heap[w.heap.size+1]?=some (.cells #[zI 0,zN] 211)):=eA w _ _;have HS:Hid (w.heap.size+1<((w.alloc (.cells #[.string (bF t),.bool t.isSome] 123)).alloc (.cells #[zI 0,zN] 211)).heap.size):=by show _<_;simp
 have E:Hid (∀o,Below w.heap.size w ((w.alloc (.cells #[.string (bF t),.bool t.isSome] 123)).alloc o)):=fun o=>F.alloc F.size o
 clear F;cases t with
 |none=>
  go_enter func143,ntmps143;go_wp2;refine aI (bG results143 _ _ (w.heap.size+1) 211 _ (0,0) _ rfl (eA w _ _) underlying211 rfl (by kernel_rfl)) rfl ?_;exact⟨_,rfl,zY 5,E.out _⟩
 |some s=>
  have kt:=xw s ((w.alloc (.cells #[.string s,.bool true] 123)).alloc (.cells #[zI 0,zN] 211)) (hm.below HB.out);have a4:Hid (∀b,A b->b<w.heap.size):=hA;clear hm hA E;show zC 143 #[.agg #[.string s,.bool true]] w _;go_enter func143,ntmps143
  go_wp2_with (go_at_call 156;fail)
  have M:Hid (Below w.heap.size w ((w.alloc (.cells #[.string s,.bool true] 123)).alloc (.cells #[zI 0,zN] 211))):=HB;have T:Hid (((w.alloc (.cells #[.string s,.bool true] 123)).alloc (.cells #[zI 0,zN] 211)).heap[w.heap.size+1]?=some (.cells #[zI 0,zN] 211)):=HR;have a0:Hid (w.heap.size+1<((w.alloc (.cells #[.string s,.bool true] 123)).alloc (.cells #[zI 0,zN] 211)).heap.size):=HS;clear HB HR HS;generalize (w.alloc (.cells #[.string s,.bool true] 123)).alloc (.cells #[zI 0,zN] 211)=W1 at*;go_at_call 156;refine kt.mono ?_;rintro e w2 ⟨ov,sv,rfl,ho,hb⟩;obtain⟨_,_,_,_,S,a2⟩:=ho;have HO:Hid (w2.ownsRow W1.heap.size 9 1 ov (fM s).length (od (fM s))):=S;have E:Hid (Below w.heap.size w w2):=M.out.trans (hb.mono M.out.size);have O:Hid (w2.heap[w.heap.size+1]?=some (.cells #[zI 0,zN] 211)):=(hb.block _ a0.out).trans T.out;have a3:Hid (∀b,A b->b<W1.heap.size):=fun b h=>by have:=a4.out b h;have:=M.out.size;omega
  obtain⟨oa,oc,e1⟩:=ax S;obtain⟨la,lc,e4⟩:=ax a2;subst e1;subst e4;obtain⟨⟨c0,f0⟩,⟨c1,f1⟩⟩:=fd2 O.out;clear S a2 hb kt M T;by_cases D:dM s=[]
  ·have h0:((0:Int)<((dM s).length:Int))=False:=by rw[D];simp
   have HE:Hid (idxOf (some s)=.idx 0 (fM s)):=Kz D;have P5:(dM s).length=0:=by rw[D];rfl
   have HF:Hid (∀W:zW,(∀b,w.heap.size+1<b->W.heap[b]?=w2.heap[b]?)->fP A W (.iface 211 (.agg #[zI 0,.slice oa (fM s).length oc])) (idxOf (some s))):=fun W hW=>by
    rw[HE.out];refine⟨_,rfl,?_⟩;exact RdA.own (B:=W1.heap.size) (ar HO.out (fun b e=>hW b (by have:=(HO.out.lt b e).1;have:=a0.out;omega))) (by show od _=_;exact uU _) pT a3.out
   clear D;generalize (dM s).length=ns at*;subst P5;go_wp2;refine aI (bG results143 _ _ (w.heap.size+1) 211 _ (0,0) _ rfl (gA O.out _ _) underlying211 rfl (by kernel_rfl)) rfl ?_;refine⟨_,rfl,HF.out _ (fun b hb=>?_),(E.out.setCell (bS _) _).setCell (bS _) _⟩;have a1:b≠w.heap.size+1:=by omega
   rw[aM _ _ _ _ a1,aM _ _ _ _ a1]
  ·have HE:Hid (idxOf (some s)=.idx 6 []):=Nx D
   have h0:(0:Int)<((dM s).length:Int):=by have:=gH.2 D;omega
   clear D;generalize (dM s).length=ns at*;go_wp2;refine aI (bG results143 _ _ (w.heap.size+1) 211 _ (0,0) _ rfl (gA O.out _ _) underlying211 rfl (by kernel_rfl)) rfl ?_;refine⟨_,rfl,by rw[HE.out];exact zY 6,(E.out.setCell (bS _) _).setCell (bS _) _⟩
