import Derived.Test.YtelmkfkgpnadnaaGreatDoorJPLA
import Derived.Test.YtelmkfkgpnadnaaGreatDoorJED
import Derived.Test.YtelmkfkgpnadnaaGreatDoorJRWA
import Derived.Deep.RegionHeldLaw
import Derived.Deep.RegionLaw
import Derived.Deep.RegionHeld3
import Derived.Deep.AppendLies
import Derived.Deep.DeepCutAuto
set_option linter.all false
open Go.Proofs.Tryz
set_option maxRecDepth 100000
set_option maxHeartbeats 4000000
namespace Go.Proofs.YtelmkfkgpnadnaaGreatDoor
open Go.RowKit
namespace Pn
open Mf Ed
variable{w w':zW}{A:Nat→Prop}
def RdA{α:Type}(A:Nat→Prop)(enc:α→List zV)(w:zW)(v:zV)(L:List α):Prop:=
 (v=zN∧L=[])∨∃b off c,v=.slice (some ⟨b,off,none⟩) L.length c∧(¬A b∧L.length≤c∧c≤maxLen∧b<w.heap.size)∧∀j u,(L.flatMap enc)[j]?=some u→w.cell? ⟨b,off+j,none⟩=some u
theorem RdA.turn{α:Type}{enc:α→List zV}{v:zV}{L:List α}(h:RdA A enc w v L)(ht:aj A w w'):RdA A enc w' v L:=by
 rcases h with h|⟨b,off,c,h,hA,hc⟩
 ·exact Or.inl h
 ·refine Or.inr ⟨b,off,c,h,⟨hA.1,hA.2.1,hA.2.2.1,bI hA.2.2.2 ht.size⟩,fun j u hj=>?_⟩
  have h0:=hc j u hj;rw[ht.cell (a:=⟨b,off+j,none⟩) (aU _ _ h0) hA.1];exact h0
theorem RdA.more{α:Type}{enc:α→List zV}{A2:Nat→Prop}{v:zV}{L:List α}(h:RdA A enc w v L)(hA:∀b,b<w.heap.size→A2 b→A b):RdA A2 enc w v L:=by
 rcases h with h|⟨b,off,c,h,h1,hc⟩
 ·exact Or.inl h
 ·exact Or.inr ⟨b,off,c,h,⟨fun e=>h1.1 (hA b h1.2.2.2 e),h1.2⟩,hc⟩
theorem RdA.below{α:Type}{enc:α→List zV}{v:zV}{L:List α}(h:RdA A enc w v L)(hb:Below w.heap.size w w'):RdA A enc w' v L:=h.turn (aj.of_below hb)
theorem RdA.len{α:Type}{enc:α→List zV}{v:zV}{L:List α}(h:RdA A enc w v L):∃a c,v=.slice a L.length c:=by
 rcases h with⟨h,h0⟩|⟨b,off,c,h,_,_⟩
 ·exact⟨none,0,by rw[h,h0];rfl⟩
 ·exact⟨_,_,h⟩
theorem RdA.room{α:Type}{enc:α→List zV}{a:Option Addr}{n c:Nat}{L:List α}(h:RdA A enc w (.slice a n c) L):L.length≤c∧c≤maxLen:=by
 rcases h with⟨h,h0⟩|⟨b,off,c',h,⟨_,h1,h2,_⟩,_⟩
 ·injection h with _ _ e;subst e;rw[h0];exact⟨ag _,aK _⟩
 ·injection h with _ _ e;subst e;exact⟨h1,h2⟩
theorem RdA.nil{α:Type}(enc:α→List zV):RdA A enc w (zN) ([]:List α):=Or.inl ⟨rfl,rfl⟩
theorem RdA.own{α:Type}{enc:α→List zV}{v:zV}{L:List α}{B e s:Nat}{xs:List zV}(h:w.ownsRow B e s v L.length xs)(hx:xs=L.flatMap enc)(hl:∀x,(enc x).length=s)(hA:∀b,A b→b<B):RdA A enc w v L:=by
 rcases h.2 with⟨h1,h2⟩|⟨g,c,cur,h1,h2⟩
 ·exact Or.inl ⟨h1,qL h2⟩
 ·subst h1
  refine Or.inr ⟨g,0,c,rfl,⟨fun hg=>?_,h2.2.2.1,h2.2.2.2.1,(h.lt g rfl).2⟩,fun j u hj=>?_⟩
  ·have:=hA g hg
   have:=(h.lt g rfl).1;omega
  ·have hj2:j<L.length*s:=by
    have:=(cq.1 hj).1;rw[Ss.fe hl] at this;exact this
   rw[dX,h.cellAt j hj2,hx];exact hj
def fW(s:zA):List zV:=[.string s]
def aT(p:Pb):List zV:=[zI p.1,.string p.2.1,.string p.2.2]
abbrev qv(q:Qn):zV:=.agg #[zI q.kind,.string q.path,.string q.ver]
def qx:Tie→zV
 | .rd p none=>.iface 369 (.agg #[zI p.1,.string p.2.1,.string p.2.2,.string e0,.bool false])
 | .rd p (some s)=>.iface 369 (.agg #[zI p.1,.string p.2.1,.string p.2.2,.string s,.bool true])
 | .ask q=>.iface 201 (qv q)
def yZ(t:Tie):List zV:=[qx t]
def fK(A:Nat→Prop)(w:zW)(v:zV):Fi→Prop
 | .man pr m=>∃rv xv sv,v=.iface 386 (.agg #[zI pr,.string m.p,rv,xv,sv])∧RdA A Sm.mc w rv m.R∧RdA A Sm.mc w xv m.X∧RdA A Sw.mc w sv m.S
 | .idx pr vs=>∃u,v=.iface 389 (.agg #[zI pr,u])∧RdA A fW w u vs
 | .wants ms ps=>∃a b,v=.iface 391 (.agg #[a,b])∧RdA A Sm.mc w a ms∧RdA A aT w b ps
 | .list ms ps=>∃a b,v=.iface 176 (.agg #[a,b])∧RdA A Sm.mc w a ms∧RdA A aT w b ps
 | .ord ns ps=>∃a b,v=.iface 179 (.agg #[a,b])∧RdA A fW w a ns∧RdA A aT w b ps
theorem fK.turn{v:zV}:∀{f:Fi},fK A w v f→aj A w w'→fK A w' v f
 | .man _ _,⟨rv,xv,sv,h,h1,h2,h3⟩,ht=>⟨rv,xv,sv,h,h1.turn ht,h2.turn ht,h3.turn ht⟩
 | .idx _ _,⟨u,h,h1⟩,ht=>⟨u,h,h1.turn ht⟩
 | .wants _ _,⟨a,b,h,h1,h2⟩,ht=>⟨a,b,h,h1.turn ht,h2.turn ht⟩
 | .list _ _,⟨a,b,h,h1,h2⟩,ht=>⟨a,b,h,h1.turn ht,h2.turn ht⟩
 | .ord _ _,⟨a,b,h,h1,h2⟩,ht=>⟨a,b,h,h1.turn ht,h2.turn ht⟩
theorem fK.more{A2:Nat→Prop}{v:zV}:∀{f:Fi},fK A w v f→(∀b,b<w.heap.size→A2 b→A b)→fK A2 w v f
 | .man _ _,⟨rv,xv,sv,h,h1,h2,h3⟩,ht=>⟨rv,xv,sv,h,h1.more ht,h2.more ht,h3.more ht⟩
 | .idx _ _,⟨u,h,h1⟩,ht=>⟨u,h,h1.more ht⟩
 | .wants _ _,⟨a,b,h,h1,h2⟩,ht=>⟨a,b,h,h1.more ht,h2.more ht⟩
 | .list _ _,⟨a,b,h,h1,h2⟩,ht=>⟨a,b,h,h1.more ht,h2.more ht⟩
 | .ord _ _,⟨a,b,h,h1,h2⟩,ht=>⟨a,b,h,h1.more ht,h2.more ht⟩
def iB(A:Nat→Prop)(w:zW)(v:zV)(k:Kp):Prop:=
 ∃fv tv,v=.agg #[fv,tv,zI k.changed,zI k.checked]∧fK A w fv k.f∧RdA A yZ w tv k.ties
theorem iB.turn{v:zV}{k:Kp}(h:iB A w v k)(ht:aj A w w'):iB A w' v k:=by
 obtain⟨fv,tv,e,h1,h2⟩:=h;exact⟨fv,tv,e,h1.turn ht,h2.turn ht⟩
theorem iB.more{A2:Nat→Prop}{v:zV}{k:Kp}(h:iB A w v k)(hA:∀b,b<w.heap.size→A2 b→A b):iB A2 w v k:=by
 obtain⟨fv,tv,e,h1,h2⟩:=h;exact⟨fv,tv,e,h1.more hA,h2.more hA⟩
def dP(A:Nat→Prop)(w:zW):List (zV×zV)→List Kp→Prop
 |[],[]=>True
 |x::L,k::D=>x.1=qv k.q∧iB A w x.2 k∧dP A w L D
 |_,_=>False
theorem dP.turn:∀{L:List (zV×zV)} {D:List Kp},dP A w L D→aj A w w'→dP A w' L D
 |[],[],_,_=>trivial
 |_::_,_::_,⟨h,h1,h2⟩,ht=>⟨h,h1.turn ht,h2.turn ht⟩
 |[],_::_,h,_=>h.elim
 |_::_,[],h,_=>h.elim
theorem dP.more{A2:Nat→Prop}:∀{L:List (zV×zV)} {D:List Kp},dP A w L D→(∀b,b<w.heap.size→A2 b→A b)→dP A2 w L D
 |[],[],_,_=>trivial
 |_::_,_::_,⟨h,h1,h2⟩,ht=>⟨h,h1.more ht,h2.more ht⟩
 |[],_::_,h,_=>h.elim
 |_::_,[],h,_=>h.elim
theorem dP.len:∀{L:List (zV×zV)} {D:List Kp},dP A w L D→L.length=D.length
 |[],[],_=>rfl
 |_::_,_::_,⟨_,_,h⟩=>by rw[bX,bX,h.len]
 |[],_::_,h=>h.elim
 |_::_,[],h=>h.elim
structure dG(A:Nat→Prop)(w:World)(db sb fb:Nat)(cap:Int)(cs:List Int)(D:List Kp):Prop where
 f0:Ed.Fd w db 0 (zP sb)
 f1:Ed.Fd w db 1 (zI cap)
 f2:Ed.Fd w db 2 (.map (some fb))
 cn:∀j c,cs[j]?=some c→Ed.Fd w db (3+j) (zI c)
 map:∃L,Mp.MapAt prog 201 w fb L∧dP A w L D
 ne:db≠fb
 hd:A db
 hf:A fb
end Pn
namespace Pn
open Mf Ed
variable{w w':zW}{A:Nat→Prop}{sb mb rev:Nat}{L:List (zV×zV)}
abbrev plV(p:Plc):zV:=.agg #[zI (p.1:Int),.string p.2.1,.string p.2.2]
def sR(L:List (zV×zV))(s:Shf):Prop:=∀p:Plc,match s p with
 |some t=>(plV p,Ed.txt t)∈L
 |none=>∀x∈L,x.1≠plV p
def bF:Option zA→zA
 |none=>e0
 |some s=>s
abbrev txV(t:Option zA):zV:=.agg #[.string (bF t),.bool t.isSome]
structure POk(p:Plc):Prop where
 k:p.1≤4
 hp:p.2.1.size≤281474976710656
 hv:p.2.2.size≤281474976710656
theorem Dj(k:Nat)(h:k≤4):(Lit.int .i64 (k:Int)).wf=true:=by
 rcases(by omega:k=0∨k=1∨k=2∨k=3∨k=4) with rfl|rfl|rfl|rfl|rfl<;>rfl
theorem POk.key{p:Plc}(h:POk p):∃l,keyOf prog 188 (plV p)=some l:=sL _ _ _ (Dj _ h.k) (by have:=h.hp;unfold maxLen;omega) (by have:=h.hv;unfold maxLen;omega)
theorem Nw{s:Shf}(hs:sR L s){p:Plc}(hp:POk p)(W:zW)(hW:sM W mb L):(Instr.lookup 189 (.map (some mb)) (plV p) false).run prog W=.ok (txV (s p)) W:=by
 obtain⟨kl,hkey⟩:=hp.key;have h:=hs p;cases e:s p with
 |none=>rw[e] at h;exact hW.look_none false gP underlying189 (nE W) hkey h
 |some t=>rw[e] at h;exact hW.look_some false gP underlying189 (nE W) hkey h
theorem Ky(s:Shf)(p:Plc)(w:zW)(h:aF w sb mb rev L)(hs:sR L s)(hp:POk p):
  zC 282 #[zP sb,plV p] w fun e w'=>e=.returned (txV (s p))∧Below w.heap.size w w':=by
 have qD:=fun W hW=>Nw (mb:=mb) hs hp W hW
 have HS:Hid (aF w sb mb rev L):=h;clear h hs hp;obtain⟨pk,pp,pv⟩:=p;generalize s (pk,pp,pv)=t at*;have HL:Hid (∀W,sM W mb L→(Instr.lookup 189 (.map (some mb)) (.agg #[zI (pk:Int),.string pp,.string pv]) false).run prog W=.ok (.agg #[.string (bF t),.bool t.isSome]) W):=qD;clear qD;show zC 282 #[zP sb,.agg #[zI (pk:Int),.string pp,.string pv]] w fun e w'=>e=.returned (.agg #[.string (bF t),.bool t.isSome])∧Below w.heap.size w w'
 generalize bF t=body at*;generalize t.isSome=th at*;generalize (pk:Int)=k at*;go_enter func282,ntmps282;go_upto_region 1 with fail;have hb1:Below w.heap.size w (w.alloc (.cells #[zI k,.string pp,.string pv] 188)):=(ae _ _).alloc (ag _) _;have hb2:Below w.heap.size w ((w.alloc (.cells #[zI k,.string pp,.string pv] 188)).alloc (.cells #[zE,.bool false] 255)):=hb1.alloc hb1.size _;have HS2:Hid (aF ((w.alloc (.cells #[zI k,.string pp,.string pv] 188)).alloc (.cells #[zE,.bool false] 255)) sb mb rev L):=HS.out.below hb2;have c0:=HS2.out.f0.1;have l1:=HL.out _ HS2.out.map;have l2:=HL.out ((w.alloc (.cells #[zI k,.string pp,.string pv] 188)).alloc (.cells #[zE,.bool false] 255)).drew HS2.out.map;have HB:Hid (Below w.heap.size w ((w.alloc (.cells #[zI k,.string pp,.string pv] 188)).alloc (.cells #[.string body,.bool th] 255)).drew):=(hb1.alloc hb1.size _).drew;clear hb1 hb2;have HH:Hid (((w.alloc (.cells #[zI k,.string pp,.string pv] 188)).alloc (.cells #[.string body,.bool th] 255)).drew.heap[w.heap.size+1]?=some (.cells #[.string body,.bool th] 255)):=ez w _ _
 go_region
 go_wp2;refine aI (bM results282 _ _ (w.heap.size+1) 255 _ (0,0) _ rfl HH.out underlying255 rfl (by kernel_rfl)) rfl ?_;exact⟨rfl,HB.out⟩
end Pn
namespace Pn
open Mf Ed
variable{w w' W W2 w5:zW}{A:Nat→Prop}{sb mb rev:Nat}{L:List (zV×zV)}
structure dy(B:Nat)(w:World)(tb db:Nat)(tv:zV)(ts:List Tie):Prop where
 t0:Ed.Fd w tb 0 (zP db)
 t1:Ed.Fd w tb 1 tv
 row:w.ownsRow B 367 1 tv ts.length (ts.map qx)
 ne:tv.ownBlock≠some tb
 hb:B≤tb
variable{B tb db:Nat}{tv:zV}{ts:List Tie}
theorem dy.of_block(h:dy B w tb db tv ts)(e1:w'.heap[tb]?=w.heap[tb]?)(e2:∀b,tv.ownBlock=some b→w'.heap[b]?=w.heap[b]?):dy B w' tb db tv ts:=
 ⟨h.t0.of_block e1,h.t1.of_block e1,ar h.row e2,h.ne,h.hb⟩
theorem dy.turn{p:Nat→Prop}(h:dy B w tb db tv ts)(ht:aj p w w')(hp:∀b,p b→b<B):dy B w' tb db tv ts:=
 h.of_block (ht.block tb h.t0.lt (fun e=>by have:=hp _ e;have:=h.hb;omega)) (fun b e=>ht.block b (h.row.lt b e).2 (fun e2=>by have:=hp _ e2;have:=(h.row.lt b e).1;omega))
theorem dy.below(h:dy B w tb db tv ts)(hb:Below w.heap.size w w'):dy B w' tb db tv ts:=
 h.of_block (hb.block tb h.t0.lt) (fun b e=>hb.block b (h.row.lt b e).2)
abbrev Own(tb:Nat)(tv:zV)(b:Nat):Prop:=b=tb∨tv.ownBlock=some b
theorem dy.grow{g cap:Nat}{t:Tie}(h:dy B W tb db tv ts)(hg:W.grownBy w5 tv.ownBlock)(hown:w5.ownsRow B 367 1 (.slice (some ⟨g,0,none⟩) (ts.length+1) cap) (ts.length+1) (ts.map qx++[qx t]))(hat:tv.ownBlock=some g∨W.heap.size≤g):
  dy B (w5.setCell ⟨tb,1,none⟩ (.slice (some ⟨g,0,none⟩) (ts.length+1) cap)) tb db (.slice (some ⟨g,0,none⟩) (ts.length+1) cap) (ts++[t])∧aj (Own tb tv) W (w5.setCell ⟨tb,1,none⟩ (.slice (some ⟨g,0,none⟩) (ts.length+1) cap)):=by
 have hne:g≠tb:=fun e=>by
  rcases hat with h1|h1
  ·exact h.ne (by rw[h1,e])
  ·have:=h.t0.lt;omega
 have e5:w5.heap[tb]?=W.heap[tb]?:=hg.block tb h.t0.lt (fun e=>h.ne e.symm);have f0:=h.t0.of_block e5;have f1:=h.t1.of_block e5;refine⟨⟨f0.set (by decide),⟨ik _ _ _ f1.1,by rw[dT];exact f1.2⟩,?_,?_,h.hb⟩,((aj.refl (Own tb tv) W).grown hg (fun k _ e=>Or.inr e)).set (a:=⟨tb,1,none⟩) (fun _=>Or.inl rfl) _⟩
 ·rw[bg,eQ]
  refine ar hown (fun b e=>aL _ _ _ _ (fun e2=>?_));have e1:g=b:=by simpa[Value.ownBlock] using e
  exact hne (e1.trans e2)
 ·intro e
  have e1:g=tb:=by simpa[Value.ownBlock] using e
  exact hne e1
theorem gA{W:zW}{r:Nat}{t:TypeId}{x y:zV}(h:W.heap[r]?=some (.cells #[x,y] t))(a b:zV):((W.setCell ⟨r,0,none⟩ a).setCell ⟨r,1,none⟩ b).heap[r]?=some (.cells #[a,b] t):=by
 have h1:=cg _ _ 0 _ _ a h;exact cg _ _ 1 _ _ b h1
theorem fd2{W:zW}{r:Nat}{t:TypeId}{x y:zV}(h:W.heap[r]?=some (.cells #[x,y] t)):(W.cell? ⟨r,0,none⟩=some x∧W.frozen? ⟨r,0,none⟩=false)∧(W.cell? ⟨r,1,none⟩=some y∧W.frozen? ⟨r,1,none⟩=false):=by
 simp only[World.cell?,World.frozen?,h];exact⟨⟨rfl,rfl⟩,⟨rfl,rfl⟩⟩
theorem pB{b o:Nat}{u:zV}(h:Ed.Fd W b o u)(v:zV):Ed.Fd (W.setCell ⟨b,o,none⟩ v) b o v:=⟨ik _ _ _ h.1,by rw[dT];exact h.2⟩
theorem Gg(W:zW)(v:zV)(t:TypeId):∀j u,[v][j]?=some u→(W.alloc (.cells #[v] t)).cell? ((⟨W.heap.size,0,none⟩:Addr).add j)=some u:=cell_one_new W v t
theorem Kz(t:Tie):(qx t).oneCell'=true:=by
 cases t with
 |rd p t=>cases t<;>rfl
 |ask q=>rfl
theorem Gh(p:Plc)(t:Option zA):qx (.rd p t)=.iface 369 (.agg #[zI p.1,.string p.2.1,.string p.2.2,.string (bF t),.bool t.isSome]):=by
 cases t<;>rfl
theorem oW(s:Shf)(p:Plc)(w:zW)(h:aF w sb mb rev L)(hs:sR L s)(hp:POk p)(hT:dy B w tb db tv ts)(hd:w.cell? ⟨db,0,none⟩=some (zP sb))(hts:ts.length≤100000)(hB:B≤w.heap.size):
  zC 308 #[zP tb,plV p] w fun e w'=>∃tv',e=.returned (txV (s p))∧dy B w' tb db tv' (ts++[.rd p (s p)])∧aj (Own tb tv) w w'∧(∀b,tv'.ownBlock=some b→tv.ownBlock=some b∨w.heap.size≤b):=by
 obtain⟨i3,hi1,hi2,hi3,hi4⟩:=Bm.gM 367 .nilIface 1 16 (by kernel_rfl);have HI:Hid (prog.info? 367=some i3∧i3.zero=some .nilIface∧i3.size=1∧i3.bytes=16):=⟨hi1,hi2,hi3,hi4⟩;clear hi1 hi2 hi3 hi4;have KA:Hid (∀W,Below w.heap.size w W→zC 282 #[zP sb,plV p] W fun e w'=>e=.returned (txV (s p))∧Below W.heap.size W w'):=fun W hb=>Ky s p W (h.below hb) hs hp
 have HT:Hid (dy B w tb db tv ts):=hT;have HD:Hid (w.cell? ⟨db,0,none⟩=some (zP sb)):=hd;have HV:Hid (qx (.rd p (s p))=.iface 369 (.agg #[zI p.1,.string p.2.1,.string p.2.2,.string (bF (s p)),.bool (s p).isSome])):=Gh _ _;have HV1:Hid ((qx (.rd p (s p))).oneCell'=true):=Kz _;clear h hs hp hT hd;obtain⟨pk,pp,pv⟩:=p;generalize s (pk,pp,pv)=t at*;show zC 308 #[zP tb,.agg #[zI (pk:Int),.string pp,.string pv]] w fun e w'=>∃tv',e=.returned (.agg #[.string (bF t),.bool t.isSome])∧dy B w' tb db tv' (ts++[.rd (pk,pp,pv) t])∧aj (Own tb tv) w w'∧(∀b,tv'.ownBlock=some b→tv.ownBlock=some b∨w.heap.size≤b)
 have KB:Hid (∀W,Below w.heap.size w W→zC 282 #[zP sb,.agg #[zI (pk:Int),.string pp,.string pv]] W fun e w'=>e=.returned (.agg #[.string (bF t),.bool t.isSome])∧Below W.heap.size W w'):=KA;have HW:Hid (qx (.rd (pk,pp,pv) t)=.iface 369 (.agg #[zI (pk:Int),.string pp,.string pv,.string (bF t),.bool t.isSome])):=HV;clear KA HV;generalize Tie.rd (pk,pp,pv) t=tie at*;generalize bF t=body at*;generalize t.isSome=th at*;generalize (pk:Int)=k at*;go_enter func308,ntmps308;go_upto_region 1 with fail;have hb1:Below w.heap.size w (w.alloc (.cells #[zI k,.string pp,.string pv] 188)):=(ae _ _).alloc (ag _) _;have HB1:Hid (Below w.heap.size w ((w.alloc (.cells #[zI k,.string pp,.string pv] 188)).alloc (.cells #[zE,.bool false] 255))):=hb1.alloc hb1.size _;have HX1:Hid (fI ((w.alloc (.cells #[zI k,.string pp,.string pv] 188)).alloc (.cells #[zE,.bool false] 255)) w.heap.size k pp pv):=(fI.new w k pp pv).below ((ae _ _).alloc (ag _) _);have HR1:Hid (((w.alloc (.cells #[zI k,.string pp,.string pv] 188)).alloc (.cells #[zE,.bool false] 255)).heap[w.heap.size+1]?=some (.cells #[zE,.bool false] 255)):=ez w _ _
 have HD1:Hid (((w.alloc (.cells #[zI k,.string pp,.string pv] 188)).alloc (.cells #[zE,.bool false] 255)).cell? ⟨db,0,none⟩=some (zP sb)):=by
  show World.cell? _ _=_;rw[HB1.out.cell (p:=⟨db,0,none⟩) (aU _ _ HD.out)];exact HD.out
 have HT1:Hid (dy B ((w.alloc (.cells #[zI k,.string pp,.string pv] 188)).alloc (.cells #[zE,.bool false] 255)) tb db tv ts):=HT.out.below HB1.out;have KC:Hid (∀W,Below ((w.alloc (.cells #[zI k,.string pp,.string pv] 188)).alloc (.cells #[zE,.bool false] 255)).heap.size ((w.alloc (.cells #[zI k,.string pp,.string pv] 188)).alloc (.cells #[zE,.bool false] 255)) W→zC 282 #[zP sb,.agg #[zI k,.string pp,.string pv]] W fun e w'=>e=.returned (.agg #[.string body,.bool th])∧Below W.heap.size W w'):=fun W hb=>KB.out W (HB1.out.trans (hb.mono HB1.out.size))
 clear hb1 KB HD;have hrz:w.heap.size+1<((w.alloc (.cells #[zI k,.string pp,.string pv] 188)).alloc (.cells #[zE,.bool false] 255)).heap.size:=by simp
 have HRZ:Hid (w.heap.size+1<((w.alloc (.cells #[zI k,.string pp,.string pv] 188)).alloc (.cells #[zE,.bool false] 255)).heap.size):=hrz;clear hrz;generalize (w.alloc (.cells #[zI k,.string pp,.string pv] 188)).alloc (.cells #[zE,.bool false] 255)=W1 at*;generalize hbx:w.heap.size=bx at*
 go_cut [5] (fun xp wx=>∃xb,xp=zP xb∧Hid (Below W1.heap.size W1 wx∧W1.heap.size≤xb∧Ed.Fd wx xb 0 (.string body)∧Ed.Fd wx xb 1 (.bool th)))
 case first=>
  have HPd:Hid (∀W,Below W1.heap.size W1 W→W.cell? ⟨tb,0,none⟩=some (zP db)∧W.cell? ⟨db,0,none⟩=some (zP sb)∧W.cell? ⟨bx,0,none⟩=some (zI k)∧W.cell? ⟨bx,1,none⟩=some (.string pp)∧W.cell? ⟨bx,2,none⟩=some (.string pv)):=fun W hb=>by
   have h1:=HX1.out.below hb;exact⟨(HT1.out.below hb).t0.1,by rw[hb.cell (p:=⟨db,0,none⟩) (aU _ _ HD1.out)];exact HD1.out,h1.1.1,h1.2.1.1,h1.2.2.1⟩
  obtain⟨p0,p1,p2,p3,p4⟩:=HPd.out _ (ae _ _)
  go_region_held3 (fun w'=>w'.cell? ⟨tb,0,none⟩=some (zP db)∧w'.cell? ⟨db,0,none⟩=some (zP sb)∧w'.cell? ⟨bx,0,none⟩=some (zI k)∧w'.cell? ⟨bx,1,none⟩=some (.string pp)∧w'.cell? ⟨bx,2,none⟩=some (.string pv))
   (first|exact⟨p0,p1,p2,p3,p4⟩|exact HPd.out _ ((ae _ _).drew)|exact HPd.out _ (aB ((ae _ _).drew) _)|exact HPd.out _ hbB|exact HPd.out _ (aB hbB _)|exact HPd.out _ ((hbB.setCell (by simp) _).setCell (by simp) _))
   (first|(go_at_call 282;refine(KC.out _ ((ae _ _).drew)).mono ?_;rintro e w3 ⟨rfl,EY⟩;have hbB:Below W1.heap.size W1 w3:=((ae W1.heap.size W1).drew).trans EY;clear EY)|(go_at_call 282;refine(KC.out _ (aB ((ae _ _).drew) _)).mono ?_;rintro e w3 ⟨rfl,EY⟩;have hbB:Below W1.heap.size W1 w3:=(aB ((ae W1.heap.size W1).drew) _).trans (EY.mono (by simp));have hv0:Ed.Fd w3 W1.heap.size 0 (zE):=(fO W1.drew #[zE,.bool false] 255 (j:=0) rfl).of_block (EY.block _ (by simp));have hv1:Ed.Fd w3 W1.heap.size 1 (.bool false):=(fO W1.drew #[zE,.bool false] 255 (j:=1) rfl).of_block (EY.block _ (by simp));have z0:=hv0.1;have z1:=hv1.1;have y0:=hv0.2;have y1:=hv1.2;clear EY))
  all_goals
   go_wp2_with fail
   go_meet
   first
    |exact⟨w3.heap.size,rfl,aB hbB _,hbB.size,fO w3 _ 255 rfl,fO w3 _ 255 rfl⟩
    |exact⟨W1.heap.size,rfl,(hbB.setCell (ag _) _).setCell (ag _) _,ag _,(pB hv0 _).set (by decide),pB (hv1.set (by decide)) _⟩
 case rest=>
  obtain⟨xb,h5,HC⟩:=hcut;rw[h5];clear h5;have HTc:Hid (dy B wc tb db tv ts):=HT1.out.below HC.out.1
  have HRc:Hid (wc.heap[bx+1]?=some (.cells #[zE,.bool false] 255)):=by
   show wc.heap[bx+1]?=_;rw[HC.out.1.block _ HRZ.out];exact HR1.out
  have HBc:Hid (Below w.heap.size w wc):=by
   show Below w.heap.size w wc;rw[hbx];exact HB1.out.trans (HC.out.1.mono (by have:=HB1.out.size;omega))
  obtain⟨⟨x0,_⟩,⟨x1,_⟩,⟨x2,_⟩⟩:=HX1.out.below HC.out.1;obtain⟨_,hxb,⟨x3,_⟩,⟨x4,_⟩⟩:=HC.out;have hbc:bx+1<wc.heap.size:=by have:=HC.out.1.size;have:=HRZ.out;omega
  have hxl:xb<wc.heap.size:=aU _ _ x3;clear HR1 HT1 HX1 HD1 KC HB1;generalize hW2:wc.alloc (.cells #[.iface 369 (.agg #[zI k,.string pp,.string pv,.string body,.bool th])] 367)=W2;have hb2:Below wc.heap.size wc W2:=by rw[←hW2];exact(ae _ _).alloc (ag _) _
  have HT2:Hid (dy B W2 tb db tv ts):=HTc.out.below hb2;have HT3:Hid (dy B W2.drew tb db tv ts):=HTc.out.below hb2.drew;have c1:wc.cell? ⟨tb,1,none⟩=some tv:=HTc.out.t1.1;have c1b:W2.cell? ⟨tb,1,none⟩=some tv:=HT2.out.t1.1;have hoe:W2.drew.ownsRow B 367 1 tv ts.length (ts.map qx):=HT3.out.row;have hnw:∀j u,[Value.iface 369 (.agg #[zI k,.string pp,.string pv,.string body,.bool th])][j]?=some u→W2.drew.cell? ((⟨wc.heap.size,0,none⟩:Addr).add j)=some u:=by rw[←hW2];exact Gg wc _ 367
  have hsz:W2.heap.size=wc.heap.size+1:=by rw[←hW2];simp
  have hBs:B≤wc.heap.size:=by have:=HBc.out.size;omega
  have HLt:Hid (tb<bx∧(∀b,tv.ownBlock=some b→b<bx)∧bx+1<xb+1∧bx+1<W1.heap.size):=⟨by rw[←hbx];exact HT.out.t0.lt,fun b e=>by rw[←hbx];exact(HT.out.row.lt b e).2,by have:=HRZ.out;omega,HRZ.out⟩;obtain⟨sa,sc,rfl⟩:=ay HTc.out.row;subst hW2;go_upto_region 2 with fail
  go_region_law
   (first|(refine step_append_lies _ rfl (.tmp 19) (.tmp 24) 172 rfl B 367 i3 .nilIface 1 16 underlying172 HI.out.1 HI.out.2.1 HI.out.2.2.1 HI.out.2.2.2 rfl (by decide) _ ts.length _ rfl hoe ⟨wc.heap.size,0,none⟩ 1 1 [.iface 369 (.agg #[zI k,.string pp,.string pv,.string body,.bool th])] rfl rfl hnw (fun u hu=>by simp at hu;subst hu;rfl) (by decide) (by unfold maxLen;omega) (by omega) (by show B≤(wc.alloc _).heap.size;simp;omega) _ rfl ?_;intro g cap w5 hown hgrow hat Bg;have c3:w5.cell? ⟨tb,1,none⟩=some (.slice sa ts.length sc):=(HT3.out.t1.of_block (hgrow.block tb HT3.out.t1.lt (fun e=>HT3.out.ne e.symm))).1;have f3:w5.frozen? ⟨tb,1,none⟩=false:=(HT3.out.t1.of_block (hgrow.block tb HT3.out.t1.lt (fun e=>HT3.out.ne e.symm))).2))
  all_goals
   have hG:=HT3.out.grow (t:=tie) ⟨hgrow.os,hgrow.tape,hgrow.output,hgrow.size,hgrow.block⟩ (by rw[HW.out];exact hown) (by
    rcases hat with h|h
    ·exact Or.inl h
    ·right;rw[h];exact ag _)
   have HTn:Hid (dy B (w5.setCell ⟨tb,1,none⟩ (.slice (some ⟨g,0,none⟩) (ts.length+1) cap)) tb db (.slice (some ⟨g,0,none⟩) (ts.length+1) cap) (ts++[tie])):=hG.1;have HTu:Hid (aj (Own tb (.slice sa ts.length sc)) wc (w5.setCell ⟨tb,1,none⟩ (.slice (some ⟨g,0,none⟩) (ts.length+1) cap))):=(aj.of_below (((ae wc.heap.size wc).alloc (ag _) _).drew)).trans hG.2 (fun _ _ h=>h) (fun _ _ h=>h)
   have HAt:Hid (∀b,(Value.slice (some ⟨g,0,none⟩) (ts.length+1) cap).ownBlock=some b→(Value.slice sa ts.length sc).ownBlock=some b∨wc.heap.size≤b):=fun b e=>by
    have e1:g=b:=by simpa[Value.ownBlock] using e
    rcases hat with h|h
    ·exact Or.inl (by rw[←e1];exact h)
    ·right
     have h2:g=(wc.alloc (.cells #[.iface 369 (.agg #[zI k,.string pp,.string pv,.string body,.bool th])] 367)).heap.size:=h;rw[←e1,h2];simp
   have HNo:Hid (∀b,bx≤b→¬Own tb (.slice sa ts.length sc) b):=fun b hb h=>by
    rcases h with h|h
    ·have:=HLt.out.1;omega
    ·have:=HLt.out.2.1 b h;omega
   have HRn:Hid ((w5.setCell ⟨tb,1,none⟩ (.slice (some ⟨g,0,none⟩) (ts.length+1) cap)).heap[bx+1]?=some (.cells #[zE,.bool false] 255)):=(HTu.out.block (bx+1) hbc (HNo.out _ (by omega))).trans HRc.out
   have y3:(w5.setCell ⟨tb,1,none⟩ (.slice (some ⟨g,0,none⟩) (ts.length+1) cap)).cell? ⟨xb,0,none⟩=some (.string body):=by
    rw[HTu.out.cell (a:=⟨xb,0,none⟩) hxl (HNo.out xb (by have:=HLt.out.2.2.1;omega))];exact x3
   have y4:(w5.setCell ⟨tb,1,none⟩ (.slice (some ⟨g,0,none⟩) (ts.length+1) cap)).cell? ⟨xb,1,none⟩=some (.bool th):=by
    rw[HTu.out.cell (a:=⟨xb,1,none⟩) hxl (HNo.out xb (by have:=HLt.out.2.2.1;omega))];exact x4
   obtain⟨⟨r0,f0⟩,⟨r1,f1⟩⟩:=fd2 HRn.out;clear hG hown hgrow hat Bg c3 f3 hoe hnw c1 c1b x0 x1 x2 x3 x4 HT2 HT3 HTc HRc;generalize w5.setCell ⟨tb,1,none⟩ (.slice (some ⟨g,0,none⟩) (ts.length+1) cap)=W6 at*;go_wp2;refine aI (bM results308 _ _ (bx+1) 255 _ (0,0) _ rfl (gA HRn.out _ _) underlying255 rfl (by kernel_rfl)) rfl ?_;refine⟨_,rfl,HTn.out.of_block ?_ ?_,?_,?_⟩
   ·rw[aL _ _ _ _ (by have:=HLt.out.1;show tb≠bx+1;omega),aL _ _ _ _ (by have:=HLt.out.1;show tb≠bx+1;omega)]
   ·intro b e
    have hne:b≠bx+1:=fun e2=>by
     rcases HAt.out b e with h|h
     ·have:=HLt.out.2.1 b h;omega
     ·omega
    rw[aL _ _ _ _ hne,aL _ _ _ _ hne]
   ·have h1:aj (Own tb (.slice sa ts.length sc)) w W6:=(aj.of_below (by have:=HBc.out;show Below w.heap.size w wc;rw[hbx] at this ⊢;exact this)).trans HTu.out (fun _ _ h=>h) (fun _ _ h=>h)
    exact(h1.set (a:=⟨bx+1,0,none⟩) (fun h=>by have h2:bx+1<w.heap.size:=h;omega) _).set (a:=⟨bx+1,1,none⟩) (fun h=>by have h2:bx+1<w.heap.size:=h;omega) _
   ·intro b e
    rcases HAt.out b e with h|h
    ·exact Or.inl h
    ·right;have:=HBc.out.size;omega
end Pn
namespace Pn
open Mf Ed
variable{w w' W W2 w5:zW}{A:Nat→Prop}
theorem EZ{W:zW}{r:Nat}{t:TypeId}{x0 x1 x2 x3 x4:zV}(h:W.heap[r]?=some (.cells #[x0,x1,x2,x3,x4] t))(a b c d e:zV):(((((W.setCell ⟨r,0,none⟩ a).setCell ⟨r,1,none⟩ b).setCell ⟨r,2,none⟩ c).setCell ⟨r,3,none⟩ d).setCell ⟨r,4,none⟩ e).heap[r]?=some (.cells #[a,b,c,d,e] t):=by
 have h1:=cg _ _ 0 _ _ a h;have h2:=cg _ _ 1 _ _ b h1;have h3:=cg _ _ 2 _ _ c h2;have h4:=cg _ _ 3 _ _ d h3;exact cg _ _ 4 _ _ e h4
theorem fd5{W:zW}{r:Nat}{t:TypeId}{x0 x1 x2 x3 x4:zV}(h:W.heap[r]?=some (.cells #[x0,x1,x2,x3,x4] t)):(W.cell? ⟨r,0,none⟩=some x0∧W.frozen? ⟨r,0,none⟩=false)∧(W.cell? ⟨r,1,none⟩=some x1∧W.frozen? ⟨r,1,none⟩=false)∧(W.cell? ⟨r,2,none⟩=some x2∧W.frozen? ⟨r,2,none⟩=false)∧(W.cell? ⟨r,3,none⟩=some x3∧W.frozen? ⟨r,3,none⟩=false)∧(W.cell? ⟨r,4,none⟩=some x4∧W.frozen? ⟨r,4,none⟩=false):=by
 simp only[World.cell?,World.frozen?,h];exact⟨⟨rfl,rfl⟩,⟨rfl,rfl⟩,⟨rfl,rfl⟩,⟨rfl,rfl⟩,⟨rfl,rfl⟩⟩
theorem Dk{b:Nat}{v0 v1 v2 v3:zV}{t:TypeId}(h:W.heap[b]?=some (.cells #[v0,v1,v2,v3] t)):
  W.cell? ⟨b,0,none⟩=some v0∧W.cell? ⟨b,1,none⟩=some v1∧W.cell? ⟨b,2,none⟩=some v2∧W.cell? ⟨b,3,none⟩=some v3:=by
 simp only[World.cell?,h];exact⟨rfl,rfl,rfl,rfl⟩
theorem ai{b:Nat}{o:Obj}(h:W.heap[b]?=some o):b<W.heap.size:=(oq.1 h).1
theorem kz:∀x:Mo,(Sm.mc x).length=2:=fun _=>rfl
theorem sS:∀x:So,(Sw.mc x).length=3:=fun _=>rfl
theorem sT{s:zA}(h:br s=[]):dW (some s)=.man 0 ⟨(bB s).p,reqs (bB s).R,vT (bB s).X,xf (bB s).S⟩:=ah h
theorem Nx{s:zA}(h:br s≠[]):dW (some s)=.man 3 ⟨e0,[],[],[]⟩:=af h
theorem Ac(pr:Nat):fK A w (.iface 386 (.agg #[zI pr,.string e0,zN,zN,zN])) (.man pr ⟨e0,[],[],[]⟩):=⟨_,_,_,rfl,RdA.nil _,RdA.nil _,RdA.nil _⟩
theorem uC(t:Option zA)(w:zW)(hm:Ml w)(hA:∀b,A b→b<w.heap.size)(hfw:∀s,t=some s→(fV s).good.length≤19):
  zC 307 #[txV t] w fun e w'=>∃v,e=.returned v∧fK A w' (.iface 386 v) (dW t)∧Below w.heap.size w w':=by
 have hb1:Below w.heap.size w (w.alloc (.cells #[.string (bF t),.bool t.isSome] 255)):=(ae _ _).alloc (ag _) _;have HB:Hid (Below w.heap.size w ((w.alloc (.cells #[.string (bF t),.bool t.isSome] 255)).alloc (.cells #[zI 0,zE,zN,zN,zN] 386))):=hb1.alloc hb1.size _;have HR:Hid (((w.alloc (.cells #[.string (bF t),.bool t.isSome] 255)).alloc (.cells #[zI 0,zE,zN,zN,zN] 386)).heap[w.heap.size+1]?=some (.cells #[zI 0,zE,zN,zN,zN] 386)):=ez w _ _;have HS:Hid (w.heap.size+1<((w.alloc (.cells #[.string (bF t),.bool t.isSome] 255)).alloc (.cells #[zI 0,zE,zN,zN,zN] 386)).heap.size):=by show _<_;simp
 have HB2:Hid (∀o,Below w.heap.size w ((w.alloc (.cells #[.string (bF t),.bool t.isSome] 255)).alloc o)):=fun o=>hb1.alloc hb1.size o
 clear hb1;cases t with
 |none=>
  clear hfw;go_enter func307,ntmps307;go_wp2;refine aI (bM results307 _ _ (w.heap.size+1) 386 _ (0,0) _ rfl (ez w _ _) underlying386 rfl (by kernel_rfl)) rfl ?_;exact⟨_,rfl,Ac 2,HB2.out _⟩
 |some s=>
  have kt:=sF s ((w.alloc (.cells #[.string s,.bool true] 255)).alloc (.cells #[zI 0,zE,zN,zN,zN] 386)) (hm.below HB.out) (hfw s rfl);have HAm:Hid (∀b,A b→b<w.heap.size):=hA;clear hm hA HB2 hfw;show zC 307 #[.agg #[.string s,.bool true]] w _;go_enter func307,ntmps307
  go_wp2_with (go_at_call 50;fail)
  have HBs:Hid (Below w.heap.size w ((w.alloc (.cells #[.string s,.bool true] 255)).alloc (.cells #[zI 0,zE,zN,zN,zN] 386))):=HB;have HRs:Hid (((w.alloc (.cells #[.string s,.bool true] 255)).alloc (.cells #[zI 0,zE,zN,zN,zN] 386)).heap[w.heap.size+1]?=some (.cells #[zI 0,zE,zN,zN,zN] 386)):=HR;have HSs:Hid (w.heap.size+1<((w.alloc (.cells #[.string s,.bool true] 255)).alloc (.cells #[zI 0,zE,zN,zN,zN] 386)).heap.size):=HS;clear HB HR HS;generalize (w.alloc (.cells #[.string s,.bool true] 255)).alloc (.cells #[zI 0,zE,zN,zN,zN] 386)=W1 at*;go_at_call 50;refine kt.mono ?_;rintro e w2 ⟨p,rv,xv,sv,lv,rfl,ho,hb,_⟩;have HO:Hid (CV W1.heap.size s w2 p rv xv sv lv):=ho;have HB2:Hid (Below w.heap.size w w2):=HBs.out.trans (hb.mono HBs.out.size)
  have HR2:Hid (w2.heap[w.heap.size+1]?=some (.cells #[zI 0,zE,zN,zN,zN] 386)):=by
   show w2.heap[w.heap.size+1]?=_;rw[hb.block _ HSs.out];exact HRs.out
  have HA2:Hid (∀b,A b→b<W1.heap.size):=fun b h=>by have:=HAm.out b h;have:=HBs.out.size;omega
  obtain⟨ra,rc,e1⟩:=ay ho.re;obtain⟨xa,xc,e2⟩:=ay ho.xe;obtain⟨sa,sc,e3⟩:=ay ho.se;obtain⟨la,lc,e4⟩:=ay ho.le;subst e1;subst e2;subst e3;subst e4;clear ho hb kt HBs HRs;have HSz:Hid (w.heap.size+1<w2.heap.size):=ai HR2.out;have HB3:Hid (Below w2.heap.size w2 (w2.alloc (.cells #[.string p,.slice ra (bB s).R.length rc,.slice xa (bB s).X.length xc,.slice sa (bB s).S.length sc] 26))):=(ae _ _).alloc (ag _) _;have HN3:Hid ((w2.alloc (.cells #[.string p,.slice ra (bB s).R.length rc,.slice xa (bB s).X.length xc,.slice sa (bB s).S.length sc] 26)).heap[w2.heap.size]?=some (.cells #[.string p,.slice ra (bB s).R.length rc,.slice xa (bB s).X.length xc,.slice sa (bB s).S.length sc] 26)):=aD _ _;go_upto_region 4 with fail
  have HRn:Hid ((w2.alloc (.cells #[.string p,.slice ra (bB s).R.length rc,.slice xa (bB s).X.length xc,.slice sa (bB s).S.length sc] 26)).heap[w.heap.size+1]?=some (.cells #[zI 0,zE,zN,zN,zN] 386)):=by
   exact(HB3.out.block _ HSz.out).trans HR2.out
  have HBn:Hid (Below w.heap.size w (w2.alloc (.cells #[.string p,.slice ra (bB s).R.length rc,.slice xa (bB s).X.length xc,.slice sa (bB s).S.length sc] 26))):=HB2.out.trans (HB3.out.mono HB2.out.size);have HOn:Hid (CV W1.heap.size s (w2.alloc (.cells #[.string p,.slice ra (bB s).R.length rc,.slice xa (bB s).X.length xc,.slice sa (bB s).S.length sc] 26)) p (.slice ra (bB s).R.length rc) (.slice xa (bB s).X.length xc) (.slice sa (bB s).S.length sc) (.slice la (br s).length lc)):=HO.out.below HB3.out;obtain⟨⟨c0,f0⟩,⟨c1,f1⟩,⟨c2,f2⟩,⟨c3,f3⟩,⟨c4,f4⟩⟩:=fd5 HRn.out;have d:=Dk HN3.out;obtain⟨d0,d1,d2,d3⟩:=d;clear HB3 HN3 HO HB2 HR2;generalize w2.alloc (.cells #[.string p,.slice ra (bB s).R.length rc,.slice xa (bB s).X.length xc,.slice sa (bB s).S.length sc] 26)=W2 at*;generalize w2.heap.size=gb at*;by_cases hsl:br s=[]
  ·have h0:((0:Int)<((br s).length:Int))=False:=by rw[hsl];simp
   have HE:Hid (dW (some s)=.man 0 ⟨(bB s).p,reqs (bB s).R,vT (bB s).X,xf (bB s).S⟩):=sT hsl;have PW:(br s).length=0:=by rw[hsl];rfl
   have HF:Hid (∀W:zW,(∀b,w.heap.size+1<b→W.heap[b]?=W2.heap[b]?)→fK A W (.iface 386 (.agg #[zI 0,.string p,.slice ra (bB s).R.length rc,.slice xa (bB s).X.length xc,.slice sa (bB s).S.length sc])) (dW (some s))):=fun W hW=>by
    rw[HE.out,HOn.out.pe];refine⟨_,_,_,rfl,?_,?_,?_⟩
    ·exact RdA.own (B:=W1.heap.size) (by rw[show(reqs (bB s).R).length=(bB s).R.length from Ss.df _];exact ar HOn.out.re (fun b e=>hW b (by have:=(HOn.out.re.lt b e).1;have:=HSs.out;omega))) rfl kz HA2.out
    ·exact RdA.own (B:=W1.heap.size) (by rw[show(vT (bB s).X).length=(bB s).X.length from Ss.df _];exact ar HOn.out.xe (fun b e=>hW b (by have:=(HOn.out.xe.lt b e).1;have:=HSs.out;omega))) rfl kz HA2.out
    ·exact RdA.own (B:=W1.heap.size) (by rw[show(xf (bB s).S).length=(bB s).S.length from Ss.df _];exact ar HOn.out.se (fun b e=>hW b (by have:=(HOn.out.se.lt b e).1;have:=HSs.out;omega))) rfl sS HA2.out
   clear hsl;generalize (br s).length=ns at*;subst PW;go_wp2;refine aI (bM results307 _ _ (w.heap.size+1) 386 _ (0,0) _ rfl (EZ HRn.out _ _ _ _ _) underlying386 rfl (by kernel_rfl)) rfl ?_;refine⟨_,rfl,HF.out _ (fun b hb=>?_),((((HBn.out.setCell (cr _) _).setCell (cr _) _).setCell (cr _) _).setCell (cr _) _).setCell (cr _) _⟩;have hne:b≠w.heap.size+1:=by omega
   rw[aL _ _ _ _ hne,aL _ _ _ _ hne,aL _ _ _ _ hne,aL _ _ _ _ hne,aL _ _ _ _ hne]
  ·have HE:Hid (dW (some s)=.man 3 ⟨e0,[],[],[]⟩):=Nx hsl
   have h0:(0:Int)<((br s).length:Int):=by have:=gp.2 hsl;omega
   clear hsl;generalize (br s).length=ns at*;go_wp2;refine aI (bM results307 _ _ (w.heap.size+1) 386 _ (0,0) _ rfl (EZ HRn.out _ _ _ _ _) underlying386 rfl (by kernel_rfl)) rfl ?_;refine⟨_,rfl,by rw[HE.out];exact Ac 3,((((HBn.out.setCell (cr _) _).setCell (cr _) _).setCell (cr _) _).setCell (cr _) _).setCell (cr _) _⟩
end Pn
namespace Pn
open Mf Ed
variable{w w' W W2 w5:zW}{A:Nat→Prop}
theorem KE{s:zA}(h:dB s=[]):idxOf (some s)=.idx 0 (fh s):=ah h
theorem Ny{s:zA}(h:dB s≠[]):idxOf (some s)=.idx 6 []:=af h
theorem Ad(pr:Nat):fK A w (.iface 389 (.agg #[zI pr,zN])) (.idx pr []):=⟨_,rfl,RdA.nil _⟩
theorem vu:∀l:List zA,oL l=l.flatMap fW
 |[]=>rfl
 |x::l=>by
  have ih:=vu l;unfold oL at ih ⊢;rw[bH,ig,ih];rfl
theorem Dl:∀x:zA,(fW x).length=1:=fun _=>rfl
theorem ze(t:Option zA)(w:zW)(hm:Ml w)(hA:∀b,A b→b<w.heap.size):
  zC 309 #[txV t] w fun e w'=>∃v,e=.returned v∧fK A w' (.iface 389 v) (idxOf t)∧Below w.heap.size w w':=by
 have hb1:Below w.heap.size w (w.alloc (.cells #[.string (bF t),.bool t.isSome] 255)):=(ae _ _).alloc (ag _) _;have HB:Hid (Below w.heap.size w ((w.alloc (.cells #[.string (bF t),.bool t.isSome] 255)).alloc (.cells #[zI 0,zN] 389))):=hb1.alloc hb1.size _;have HR:Hid (((w.alloc (.cells #[.string (bF t),.bool t.isSome] 255)).alloc (.cells #[zI 0,zN] 389)).heap[w.heap.size+1]?=some (.cells #[zI 0,zN] 389)):=ez w _ _;have HS:Hid (w.heap.size+1<((w.alloc (.cells #[.string (bF t),.bool t.isSome] 255)).alloc (.cells #[zI 0,zN] 389)).heap.size):=by show _<_;simp
 have HB2:Hid (∀o,Below w.heap.size w ((w.alloc (.cells #[.string (bF t),.bool t.isSome] 255)).alloc o)):=fun o=>hb1.alloc hb1.size o
 clear hb1;cases t with
 |none=>
  go_enter func309,ntmps309;go_wp2;refine aI (bM results309 _ _ (w.heap.size+1) 389 _ (0,0) _ rfl (ez w _ _) underlying389 rfl (by kernel_rfl)) rfl ?_;exact⟨_,rfl,Ad 5,HB2.out _⟩
 |some s=>
  have kt:=xA s ((w.alloc (.cells #[.string s,.bool true] 255)).alloc (.cells #[zI 0,zN] 389)) (hm.below HB.out);have HAm:Hid (∀b,A b→b<w.heap.size):=hA;clear hm hA HB2;show zC 309 #[.agg #[.string s,.bool true]] w _;go_enter func309,ntmps309
  go_wp2_with (go_at_call 121;fail)
  have HBs:Hid (Below w.heap.size w ((w.alloc (.cells #[.string s,.bool true] 255)).alloc (.cells #[zI 0,zN] 389))):=HB;have HRs:Hid (((w.alloc (.cells #[.string s,.bool true] 255)).alloc (.cells #[zI 0,zN] 389)).heap[w.heap.size+1]?=some (.cells #[zI 0,zN] 389)):=HR;have HSs:Hid (w.heap.size+1<((w.alloc (.cells #[.string s,.bool true] 255)).alloc (.cells #[zI 0,zN] 389)).heap.size):=HS;clear HB HR HS;generalize (w.alloc (.cells #[.string s,.bool true] 255)).alloc (.cells #[zI 0,zN] 389)=W1 at*;go_at_call 121;refine kt.mono ?_;rintro e w2 ⟨ov,sv,rfl,ho,hb⟩;obtain⟨_,_,_,_,ho1,ho2⟩:=ho;have HO:Hid (w2.ownsRow W1.heap.size 9 1 ov (fh s).length (oL (fh s))):=ho1;have HB2:Hid (Below w.heap.size w w2):=HBs.out.trans (hb.mono HBs.out.size);have HR2:Hid (w2.heap[w.heap.size+1]?=some (.cells #[zI 0,zN] 389)):=(hb.block _ HSs.out).trans HRs.out;have HA2:Hid (∀b,A b→b<W1.heap.size):=fun b h=>by have:=HAm.out b h;have:=HBs.out.size;omega
  obtain⟨oa,oc,e1⟩:=ay ho1;obtain⟨la,lc,e4⟩:=ay ho2;subst e1;subst e4;obtain⟨⟨c0,f0⟩,⟨c1,f1⟩⟩:=fd2 HR2.out;clear ho1 ho2 hb kt HBs HRs;by_cases hsl:dB s=[]
  ·have h0:((0:Int)<((dB s).length:Int))=False:=by rw[hsl];simp
   have HE:Hid (idxOf (some s)=.idx 0 (fh s)):=KE hsl;have PW:(dB s).length=0:=by rw[hsl];rfl
   have HF:Hid (∀W:zW,(∀b,w.heap.size+1<b→W.heap[b]?=w2.heap[b]?)→fK A W (.iface 389 (.agg #[zI 0,.slice oa (fh s).length oc])) (idxOf (some s))):=fun W hW=>by
    rw[HE.out];refine⟨_,rfl,?_⟩;exact RdA.own (B:=W1.heap.size) (ar HO.out (fun b e=>hW b (by have:=(HO.out.lt b e).1;have:=HSs.out;omega))) (by show oL _=_;exact vu _) Dl HA2.out
   clear hsl;generalize (dB s).length=ns at*;subst PW;go_wp2;refine aI (bM results309 _ _ (w.heap.size+1) 389 _ (0,0) _ rfl (gA HR2.out _ _) underlying389 rfl (by kernel_rfl)) rfl ?_;refine⟨_,rfl,HF.out _ (fun b hb=>?_),(HB2.out.setCell (cr _) _).setCell (cr _) _⟩;have hne:b≠w.heap.size+1:=by omega
   rw[aL _ _ _ _ hne,aL _ _ _ _ hne]
  ·have HE:Hid (idxOf (some s)=.idx 6 []):=Ny hsl
   have h0:(0:Int)<((dB s).length:Int):=by have:=gp.2 hsl;omega
   clear hsl;generalize (dB s).length=ns at*;go_wp2;refine aI (bM results309 _ _ (w.heap.size+1) 389 _ (0,0) _ rfl (gA HR2.out _ _) underlying389 rfl (by kernel_rfl)) rfl ?_;refine⟨_,rfl,by rw[HE.out];exact Ad 6,(HB2.out.setCell (cr _) _).setCell (cr _) _⟩
