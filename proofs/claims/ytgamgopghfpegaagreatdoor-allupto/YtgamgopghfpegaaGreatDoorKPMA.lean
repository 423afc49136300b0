import Derived.Test.YtgamgopghfpegaaGreatDoorKPLA
import Derived.Test.YtgamgopghfpegaaGreatDoorKED
set_option linter.all false
open Go.Proofs.Tryz
set_option maxRecDepth 100000
set_option maxHeartbeats 4000000
namespace Go.Proofs.YtgamgopghfpegaaGreatDoor
open Go.RowKit
namespace Pn
open Mf Ed
variable{w w':zW}{A:Nat→Prop}
def RdA{α:Type}(A:Nat→Prop)(enc:α→List zV)(w:zW)(v:zV)(L:List α):Prop:=
 (v=zN∧L=[])∨∃b off c,v=.slice (some ⟨b,off,none⟩) L.length c∧(¬A b∧L.length≤c∧c≤maxLen∧b<w.heap.size)∧∀j u,(L.flatMap enc)[j]?=some u→w.cell? ⟨b,off+j,none⟩=some u
theorem RdA.turn{α}{enc}{v}{L:List α}(h:RdA A enc w v L)(R:aj A w w'):RdA A enc w' v L:=by
 rcases h with h|⟨b,off,c,h,f,S⟩
 ·exact Or.inl h
 ·refine Or.inr ⟨b,off,c,h,⟨f.1,f.2.1,f.2.2.1,bU f.2.2.2 R.size⟩,fun j u hj=>?_⟩
  have D:=S j u hj;rw[R.cell (cr _ _ D) f.1];exact D
theorem RdA.more{α}{enc}{A2}{v}{L:List α}(h:RdA A enc w v L)(D:∀b,b<w.heap.size→A2 b→A b):RdA A2 enc w v L:=by
 rcases h with h|⟨b,off,c,h,f,R⟩
 ·exact Or.inl h
 ·exact Or.inr ⟨b,off,c,h,⟨fun e=>f.1 (D b f.2.2.2 e),f.2⟩,R⟩
theorem RdA.below{α}{enc}{v}{L:List α}(h:RdA A enc w v L)(f:Below w w w'):RdA A enc w' v L:=h.turn (aj.of_below f)
theorem RdA.len{α}{enc}{v}{L:List α}(h:RdA A enc w v L):∃a c,v=.slice a L c:=by
 rcases h with⟨h,f⟩|⟨b,off,c,h,_,_⟩
 ·grind
 grind
theorem RdA.room{α}{enc}{a}{n c}{L:List α}(h:RdA A enc w (.slice a n c) L):L≤c∧c≤maxLen:=by
 rcases h with⟨h,D⟩|⟨b,off,f,h,⟨_,R,S,_⟩,_⟩
 ·grind
 grind
theorem RdA.nil{α}enc:RdA A enc w (zN) ([]:List α):=Or.inl ⟨rfl,rfl⟩
theorem RdA.own{α}{enc}{v}{L:List α}{B e s:Nat}{xs}(h:w.ownsRow B e s v L xs)(hx:xs=L.flatMap enc)(hl:∀x,(enc x)=s)(hA:∀b,A b→b<B):RdA A enc w v L:=by
 rcases h.2 with⟨D,f⟩|⟨g,c,a0,D,f⟩
 ·exact Or.inl ⟨D,lD f⟩
 ·subst D
  refine Or.inr ⟨g,0,c,rfl,⟨fun hg=>?_,f.2.2.1,f.2.2.2.1,(h.lt g rfl).2⟩,fun j u S=>?_⟩
  ·grind
  ·have R:j<L*s:=by
    have:=(dh.1 S).1;rw[Ss.gp hl] at this;exact this
   rw[dQ,h.cellAt j R,hx];exact S
def dU(s:zA):List zV:=[.string s]
def aZ(p:Pb):List zV:=[.int .i64 p.1,.string p.2.1,.string p.2.2]
abbrev qv(q:Qn):zV:=.agg #[.int .i64 q.kind,.string q.path,.string q.ver]
def sN:Tie→zV
 | .rd p none=>.iface 266 (.agg #[.int .i64 p.1,.string p.2.1,.string p.2.2,.string e0,.bool false])
 | .rd p (some s)=>.iface 266 (.agg #[.int .i64 p.1,.string p.2.1,.string p.2.2,.string s,.bool true])
 | .ask q=>.iface 128 (qv q)
def MQ(t:Tie):List zV:=[sN t]
def iC(A:Nat→Prop)(w:zW)(v:zV):Fi→Prop
 | .man pr m=>∃rv xv sv,v=.iface 294 (.agg #[.int .i64 pr,.string m.p,rv,xv,sv])∧RdA A Sm.mc w rv m.R∧RdA A Sm.mc w xv m.X∧RdA A Sw.mc w sv m.S
 | .idx pr vs=>∃u,v=.iface 297 (.agg #[.int .i64 pr,u])∧RdA A dU w u vs
 | .wants D f=>∃a b,v=.iface 299 (.agg #[a,b])∧RdA A Sm.mc w a D∧RdA A aZ w b f
 | .list D f=>∃a b,v=.iface 149 (.agg #[a,b])∧RdA A Sm.mc w a D∧RdA A aZ w b f
 | .ord ns f=>∃a b,v=.iface 152 (.agg #[a,b])∧RdA A dU w a ns∧RdA A aZ w b f
theorem iC.turn{v:zV}:∀{f:Fi},iC A w v f→aj A w w'→iC A w' v f
 | .man _ _,⟨rv,xv,sv,h,R,S,h3⟩,D=>⟨rv,xv,sv,h,R.turn D,S.turn D,h3.turn D⟩
 | .idx _ _,⟨u,h,R⟩,D=>⟨u,h,R.turn D⟩
 | .wants _ _,⟨a,b,h,R,S⟩,D=>⟨a,b,h,R.turn D,S.turn D⟩
 | .list _ _,⟨a,b,h,R,S⟩,D=>⟨a,b,h,R.turn D,S.turn D⟩
 | .ord _ _,⟨a,b,h,R,S⟩,D=>⟨a,b,h,R.turn D,S.turn D⟩
theorem iC.more{A2:Nat→Prop}{v:zV}:∀{f:Fi},iC A w v f→(∀b,b<w.heap.size→A2 b→A b)→iC A2 w v f
 | .man _ _,⟨rv,xv,sv,h,R,S,h3⟩,D=>⟨rv,xv,sv,h,R.more D,S.more D,h3.more D⟩
 | .idx _ _,⟨u,h,R⟩,D=>⟨u,h,R.more D⟩
 | .wants _ _,⟨a,b,h,R,S⟩,D=>⟨a,b,h,R.more D,S.more D⟩
 | .list _ _,⟨a,b,h,R,S⟩,D=>⟨a,b,h,R.more D,S.more D⟩
 | .ord _ _,⟨a,b,h,R,S⟩,D=>⟨a,b,h,R.more D,S.more D⟩
def jI(A:Nat→Prop)(w:zW)(v:zV)(k:Kp):Prop:=
 ∃D I,v=.agg #[D,I,.int .i64 k.changed,.int .i64 k.checked]∧iC A w D k.f∧RdA A MQ w I k.ties
theorem jI.turn{v}{k}(h:jI A w v k)(f:aj A w w'):jI A w' v k:=by
 obtain⟨D,I,e,R,S⟩:=h;exact⟨D,I,e,R.turn f,S.turn f⟩
theorem jI.more{A2}{v}{k}(h:jI A w v k)(f:∀b,b<w.heap.size→A2 b→A b):jI A2 w v k:=by
 obtain⟨D,I,e,R,S⟩:=h;exact⟨D,I,e,R.more f,S.more f⟩
def ee(A:Nat→Prop)(w:zW):List (zV×zV)→List Kp→Prop
 |[],[]=>True
 |x::L,k::D=>x.1=qv k.q∧jI A w x.2 k∧ee A w L D
 |_,_=>False
theorem ee.turn:∀{L:List (zV×zV)} {D:List Kp},ee A w L D→aj A w w'→ee A w' L D
 |[],[],_,_=>trivial
 |_::_,_::_,⟨h,R,S⟩,f=>⟨h,R.turn f,S.turn f⟩
 |[],_::_,h,_=>h.elim
 |_::_,[],h,_=>h.elim
theorem ee.more{A2:Nat→Prop}:∀{L:List (zV×zV)} {D:List Kp},ee A w L D→(∀b,b<w.heap.size→A2 b→A b)→ee A2 w L D
 |[],[],_,_=>trivial
 |_::_,_::_,⟨h,R,S⟩,f=>⟨h,R.more f,S.more f⟩
 |[],_::_,h,_=>h.elim
 |_::_,[],h,_=>h.elim
theorem ee.len:∀{L:List (zV×zV)} {D:List Kp},ee A w L D→L.length=D.length
 |[],[],_=>rfl
 |_::_,_::_,⟨_,_,h⟩=>by rw[dF,dF,h.len]
 |[],_::_,h=>h.elim
 |_::_,[],h=>h.elim
structure dB(A:Nat→Prop)(w:World)(Q Y fb:Nat)(cap:Int)(cs:List Int)(D:List Kp):Prop where
 f0:Ed.Fd w Q 0 (.pointer (some ⟨Y,0,none⟩))
 f1:Ed.Fd w Q 1 (.int .i64 cap)
 f2:Ed.Fd w Q 2 (.map (some fb))
 cn:∀j c,cs[j]?=some c→Ed.Fd w Q (3+j) (.int .i64 c)
 map:∃L,Mp.MapAt prog 128 w fb L∧ee A w L D
 ne:Q≠fb
 hd:A Q
 hf:A fb
end Pn
namespace Pn
open Mf Ed
variable{w w':zW}{A:Nat→Prop}{Y mb V:Nat}{L:List (zV×zV)}
abbrev plV(p:Plc):zV:=.agg #[.int .i64 (p.1:Int),.string p.2.1,.string p.2.2]
def sO(L:List (zV×zV))(s:Shf):Prop:=∀p:Plc,match s p with
 |some t=>(plV p,Ed.txt t)∈L
 |none=>∀x∈L,x.1≠plV p
def df:Option zA→zA
 |none=>e0
 |some s=>s
abbrev txV(t:Option zA):zV:=.agg #[.string (df t),.bool t.isSome]
structure POk(p:Plc):Prop where
 k:p.1≤4
 hp:p.2.1.size≤281474976710656
 hv:p.2.2.size≤281474976710656
theorem Ea(k:Nat)(h:k≤4):(Lit.int .i64 (k:Int)).wf=true:=by
 rcases(by omega:k=0∨k=1∨k=2∨k=3∨k=4) with rfl|rfl|rfl|rfl|rfl<;>rfl
theorem POk.key{p}(h:POk p):∃l,keyOf prog 110 (plV p)=some l:=rX _ _ _ (Ea _ h.k) (by have:=h.hp;unfold maxLen;omega) (by have:=h.hv;unfold maxLen;omega)
theorem PG{s}(S:sO L s){p}(R:POk p)W(D:BO W mb L):(Instr.lookup 99 (.map (mb)) (plV p) false).run prog W=.ok (txV (s p)) W:=by
 obtain⟨kl,f⟩:=R.key;have h:=S p;cases e:s p with
 |none=>rw[e] at h;exact D.look_none false gP underlying99 (nh W) f h
 |some t=>rw[e] at h;exact D.look_some false gP underlying99 (nh W) f h
theorem MR s p w(h:aW w Y mb V L)(hs:sO L s)(hp:POk p):
  zC 186 #[.pointer (some (Y,0)),plV p] w fun e w'=>e=(txV (s p))∧Below w w w':=by
 have qu:=fun W hW=>PG (mb:=mb) hs hp W hW
 have HS:=zH h;clear h hs hp;obtain⟨pk,pp,pv⟩:=p;generalize s (pk,pp,pv)=t at*;have HL:Hid (∀W,_→(Instr.lookup 99 _ (.agg #[pk,pp,pv]) false).run _ W=.ok (.agg _) W):=qu;clear qu;show zC 186 #[.pointer (some ⟨Y,0,none⟩),.agg #[.int .i64 (pk:Int),.string pp,.string pv]] w fun e w'=>e=.returned (.agg #[.string (df t),.bool t.isSome])∧Below w.heap.size w w'
 generalize df t=D at*;generalize t.isSome=th at*;generalize (pk:Int)=k at*;go_enter func186,ntmps186;go_upto_region 1 with fail;have f:Below w.heap.size w (w.alloc (.cells #[k,pp,pv] 110)):=(af _ _).alloc (ai _) _;have S:Below w.heap.size w ((w.alloc _).alloc (.cells #[zE,false] 137)):=f.alloc f.size _;have R:=zH (HS.out.below S);have c0:=R.out.f0.1;have l1:=HL.out _ R.out.map;have l2:=HL.out ((w.alloc _).alloc _).drew R.out.map;have HB:Hid (Below w.heap.size w ((w.alloc _).alloc (.cells #[D,th] 137)).drew):=(f.alloc f.size _).drew;clear f S;have HH:Hid (((w.alloc (.cells #[k,pp,pv] 110)).alloc (.cells #[D,th] 137)).drew.heap[_]?=_):=dX w _ _
 go_region
 go_wp2;refine aL (bz results186 _ _ _ 137 _ _ _ rfl HH.out underlying137 rfl aB) rfl ?_;exact⟨rfl,HB.out⟩
end Pn
namespace Bm
variable{w w':zW}
variable{rT M:TypeId}{N:Nat}{el:List zV}{w0 wr:zW}{ob k m i:Nat}{F:Nat→zV}{T v:zV}{xs ys:List zV}{E:Int→List zV}{q:Int}
variable{O v0 gv:zV}{w1:zW}{j mj:Nat}
theorem eD t(z:zV)n b(h:(prog.info? t).map (fun i=>(i.zero,i.size,i.bytes))=(some z,n,b)):∃i,prog.info? t=some i∧i.zero=z∧i.size=n∧i.bytes=b:=by
 simp_all
end Bm
namespace Pn
open Mf Ed
variable{w w' W U Z:zW}{A:Nat→Prop}{Y mb V:Nat}{L:List (zV×zV)}
structure fp(B:Nat)(w:World)(G Q:Nat)(I:zV)(J:List Tie):Prop where
 t0:Ed.Fd w G 0 (.pointer (some ⟨Q,0,none⟩))
 t1:Ed.Fd w G 1 I
 row:w.ownsRow B 264 1 I J.length (J.map sN)
 ne:I.ownBlock≠some G
 hb:B≤G
variable{B G Q:Nat}{I:zV}{J:List Tie}
theorem fp.of_block(h:fp B w G Q I J)(f:w'.heap[G]?=w.heap[G]?)(D:∀b,I.ownBlock=some b→w'.heap[b]?=w.heap[b]?):fp B w' G Q I J:=
 ⟨h.t0.of_block f,h.t1.of_block f,ar h.row D,h.ne,h.hb⟩
theorem fp.turn{p}(h:fp B w G Q I J)(D:aj p w w')(f:∀b,p b→b<B):fp B w' G Q I J:=
 h.of_block (D.block G h.t0.lt (fun e=>by have:=f _ e;have:=h.hb;omega)) (fun b e=>D.block b (h.row.lt b e).2 (fun R=>by have:=f _ R;have:=(h.row.lt b e).1;omega))
theorem fp.below(h:fp B w G Q I J)(f:Below w w w'):fp B w' G Q I J:=
 h.of_block (f.block G h.t0.lt) (fun b e=>f.block b (h.row.lt b e).2)
abbrev Own(G:Nat)(I:zV)(b:Nat):Prop:=b=G∨I.ownBlock=some b
theorem fp.grow{g cap:Nat}{t}(h:fp B W G Q I J)(hg:W.grownBy Z I.ownBlock)(f:Z.ownsRow B 264 1 (.slice (some (g,0)) (J+1) cap) (J+1) (J.map sN++[sN t]))(D:I.ownBlock=g∨W≤g):
  fp B (Z.setCell (G,1) (.slice (some (g,0)) (J+1) cap)) G Q (.slice (some (g,0)) (J+1) cap) (J++[t])∧aj (Own G I) W (Z.setCell (G,1) (.slice (some (g,0)) (J+1) cap)):=by
 have R:g≠G:=fun e=>by
  rcases D with h1|h1
  ·exact h.ne (by rw[h1,e])
  ·have:=h.t0.lt;omega
 have e5:=hg.block G h.t0.lt (fun e=>h.ne e.symm);have f0:=h.t0.of_block e5;have f1:=h.t1.of_block e5;refine⟨⟨f0.set aA,⟨kU _ _ _ f1.1,by rw[mN];exact f1.2⟩,?_,?_,h.hb⟩,((aj.refl (Own G I) W).grown hg (fun k _ e=>Or.inr e)).set (fun _=>Or.inl rfl) _⟩
 ·rw[bj,eY]
  refine ar f (fun b e=>aM _ _ _ _ (fun e2=>?_));have S:g=b:=by simpa[Value.ownBlock] using e
  grind
 ·intro e
  have S:g=G:=by simpa[Value.ownBlock] using e
  exact R S
theorem gz{W:zW}{r:Nat}{t}{x y}(h:W.heap[r]?=some (.cells #[x,y] t))a b:((W.setCell (r,0) a).setCell (r,1) b).heap[r]?=some (.cells #[a,b] t):=by
 have f:=bl _ _ 0 _ _ a h;exact bl _ _ 1 _ _ b f
theorem fd2{W:zW}{r:Nat}{t}{x y}(h:W.heap[r]?=some (.cells #[x,y] t)):(W.cell? (r,0)=x∧W.frozen? (r,0)=false)∧(W.cell? (r,1)=y∧W.frozen? (r,1)=false):=by
 simp only[World.cell?,World.frozen?,h];simp
theorem iq{b o}{u}(h:Ed.Fd W b o u)v:Ed.Fd (W.setCell (b,o) v) b o v:=⟨kU _ _ _ h.1,by rw[mN];exact h.2⟩
theorem Hs(W:zW)v t:∀j u,[v][j]?=some u→(W.alloc (.cells #[v] t)).cell? (((W,0):Addr).add j)=some u:=cell_one_new W v t
theorem MS t:(sN t).oneCell'=true:=by
 cases t with
 |rd p t=>cases t<;>rfl
 |ask q=>rfl
theorem Ht p t:sN (.rd p t)=.iface 266 (.agg #[p.1,p.2.1,p.2.2,(df t),t.isSome]):=by
 cases t<;>rfl
theorem sG s p w(h:aW w Y mb V L)(hs:sO L s)(hp:POk p)(hT:fp B w G Q I J)(hd:w.cell? (Q,0)=some (.pointer (some (Y,0))))(c2:J.length≤100000)(hB:B≤w):
  zC 205 #[.pointer (some (G,0)),plV p] w fun e w'=>∃a5,e=(txV (s p))∧fp B w' G Q a5 (J++[.rd p (s p)])∧aj (Own G I) w w'∧(∀b,a5.ownBlock=some b→I.ownBlock=b∨w≤b):=by
 obtain⟨i3,b8,b9,ba,bb⟩:=Bm.eD 264 .nilIface 1 16 aB;have HI:Hid (_∧_∧_∧_):=⟨b8,b9,ba,bb⟩;clear b8 b9 ba bb;have KA:=zH (fun W hb=>MR s p W (h.below hb) hs hp);have HT:=zH hT;have HD:=zH hd;have HV:Hid (sN (.rd p (s p))=_):=Ht _ _;have bt:Hid ((sN (.rd p (s p))).oneCell'=true):=MS _;clear h hs hp hT hd;obtain⟨pk,R,pv⟩:=p;generalize s (pk,R,pv)=t at*;show zC 205 #[.pointer (some ⟨G,0,none⟩),.agg #[.int .i64 (pk:Int),.string R,.string pv]] w fun e w'=>∃a5,e=.returned (.agg #[.string (df t),.bool t.isSome])∧fp B w' G Q a5 (J++[.rd (pk,R,pv) t])∧aj (Own G I) w w'∧(∀b,a5.ownBlock=some b→I.ownBlock=some b∨w.heap.size≤b)
 have KB:Hid (∀W,_→Calls _ 186 #[_,.agg #[pk,R,pv]] W fun e w'=>e=.returned (.agg _)∧_):=KA;have HW:Hid (sN _=.iface 266 (.agg #[pk,R,pv,_,_])):=HV;clear KA HV;generalize Tie.rd (pk,R,pv) t=bs at*;generalize df t=a2 at*;generalize t.isSome=th at*;generalize (pk:Int)=k at*;go_enter func205,ntmps205;go_upto_region 1 with fail;have av:Below w.heap.size w (w.alloc (.cells #[k,R,pv] 110)):=(af _ _).alloc (ai _) _;have S:Hid (Below w.heap.size w ((w.alloc _).alloc (.cells #[zE,false] 137))):=av.alloc av.size _;have an:Hid (jX ((w.alloc _).alloc (.cells #[zE,false] 137)) _ k R pv):=(jX.new w k R pv).below ((af _ _).alloc (ai _) _);have b3:Hid (((w.alloc (.cells #[k,R,pv] 110)).alloc (.cells #[zE,false] 137)).heap[_]?=_):=dX w _ _
 have ab:Hid (((w.alloc (.cells #[k,R,pv] 110)).alloc (.cells #[zE,false] 137)).cell? (Q,0)=some (.pointer (some (Y,0)))):=by
  show World.cell? _ _=_;rw[S.out.cell (cr _ _ HD.out)];exact HD.out
 have ak:=zH (HT.out.below S.out);have KC:Hid (∀W,Below _ _ W→_):=fun W hb=>KB.out W (S.out.trans (hb.mono S.out.size))
 clear av KB HD;have bi:w+1<((w.alloc (.cells #[k,R,pv] 110)).alloc (.cells #[zE,false] 137)).heap.size:=ah;have a6:=zH bi;clear bi;generalize (w.alloc (.cells #[.int .i64 k,.string R,.string pv] 110)).alloc (.cells #[zE,.bool false] 137)=W1 at*;generalize a9:w.heap.size=bx at*
 go_cut [5] (fun xp wx=>∃xb,xp=.pointer (some ⟨xb,0,none⟩)∧Hid (Below W1.heap.size W1 wx∧W1.heap.size≤xb∧Ed.Fd wx xb 0 (.string a2)∧Ed.Fd wx xb 1 (.bool th)))
 case first=>
  have a3:Hid (∀W,Below W1.heap.size W1 W→W.cell? (G,0)=some (.pointer (some (Q,0)))∧W.cell? (Q,0)=some (.pointer (some ⟨Y,0,none⟩))∧W.cell? ⟨bx,0,none⟩=some (.int .i64 k)∧W.cell? ⟨bx,1,none⟩=some (.string R)∧W.cell? ⟨bx,2,none⟩=some (.string pv)):=fun W hb=>by
   have h1:=an.out.below hb;exact⟨(ak.out.below hb).t0.1,by rw[hb.cell (cr _ _ ab.out)];exact ab.out,h1.1.1,h1.2.1.1,h1.2.2.1⟩
  obtain⟨p0,p1,p2,p3,p4⟩:=a3.out _ (af _ _)
  go_region_held3 (fun w'=>w'.cell? (G,0)=some (.pointer (some (Q,0)))∧w'.cell? (Q,0)=some (.pointer (some ⟨Y,0,none⟩))∧w'.cell? ⟨bx,0,none⟩=some (.int .i64 k)∧w'.cell? ⟨bx,1,none⟩=some (.string R)∧w'.cell? ⟨bx,2,none⟩=pv)
   (first|exact⟨p0,p1,p2,p3,p4⟩|exact a3.out _ ((af _ _).drew)|exact a3.out _ (aD ((af _ _).drew) _)|exact a3.out _ a1|exact a3.out _ (aD a1 _)|exact a3.out _ ((a1.setCell ah _).setCell ah _))
   (first|(go_at_call 186;refine(KC.out _ ((af _ _).drew)).mono ?_;rintro e w3 ⟨rfl,sP⟩;have a1:=((af W1 W1).drew).trans sP;clear sP)|(go_at_call 186;refine(KC.out _ (aD ((af _ _).drew) _)).mono ?_;rintro e w3 ⟨rfl,sP⟩;have a1:=(aD ((af _ W1).drew) _).trans (sP.mono ah);have az:Ed.Fd w3 W1 0 (.string _):=(dL _ _ 137 rfl).of_block (sP.block _ ah);have b0:Ed.Fd w3 W1 1 (false):=(dL _ _ 137 rfl).of_block (sP.block _ ah);have z0:=az.1;have z1:=b0.1;have y0:=az.2;have y1:=b0.2;clear sP))
  all_goals
   go_wp2_with fail
   go_meet
   first
    |exact⟨_,rfl,aD a1 _,a1.size,dL w3 _ 137 rfl,dL w3 _ 137 rfl⟩
    |exact⟨_,rfl,(a1.setCell (ai _) _).setCell (ai _) _,ai _,(iq az _).set aA,iq (b0.set aA) _⟩
 case rest=>
  obtain⟨xb,h5,HC⟩:=hcut;rw[h5];clear h5;have a4:=zH (ak.out.below HC.out.1)
  have b4:Hid (wc.heap[bx+1]?=some (.cells #[zE,false] 137)):=by
   show wc.heap[bx+1]?=_;rw[HC.out.1.block _ a6.out];exact b3.out
  have b2:Hid (Below w.heap.size w wc):=by
   show Below w.heap.size w wc;rw[a9];exact S.out.trans (HC.out.1.mono (by have:=S.out.size;omega))
  obtain⟨⟨x0,_⟩,⟨x1,_⟩,⟨x2,_⟩⟩:=an.out.below HC.out.1;obtain⟨_,c4,⟨x3,_⟩,⟨x4,_⟩⟩:=HC.out;have bq:bx+1<wc:=by have:=HC.out.1.size;have:=a6.out;omega
  have bk:xb<_:=cr _ _ x3;clear b3 ak an ab KC S;generalize a8:wc.alloc (.cells #[.iface 266 (.agg #[.int .i64 k,.string R,.string pv,.string a2,.bool th])] 264)=U;have b7:Below wc.heap.size wc U:=by rw[←a8];exact(af _ _).alloc (ai _) _
  have b6:=zH (a4.out.below b7);have D:=zH (a4.out.below b7.drew);have c1:=a4.out.t1.1;have bn:=b6.out.t1.1;have bh:=D.out.row;have bd:∀j u,[Value.iface 266 (.agg #[k,R,pv,a2,th])][j]?=some u→U.drew.cell? (((wc,0):Addr).add j)=some u:=by rw[←a8];exact Hs wc _ 264
  have c0:U=wc.heap.size+1:=by rw[←a8];simp
  have bv:B≤wc:=by have:=b2.out.size;omega
  have a0:Hid (G<bx∧(∀b,I.ownBlock=some b→b<bx)∧bx+1<xb+1∧_):=⟨by rw[←a9];exact HT.out.t0.lt,fun b e=>by rw[←a9];exact(HT.out.row.lt b e).2,by have:=a6.out;omega,a6.out⟩;obtain⟨sa,sc,rfl⟩:=aC a4.out.row;subst a8;go_upto_region 2 with fail
  go_region_law
   (first|(refine step_append_lies _ rfl (.tmp 19) _ 145 rfl B 264 i3 _ 1 16 underlying145 HI.out.1 HI.out.2.1 HI.out.2.2.1 HI.out.2.2.2 rfl aA _ _ _ rfl bh _ 1 1 _ rfl rfl bd (fun u hu=>by simp at hu;subst hu;rfl) aA (by unfold maxLen;omega) ae (by show B≤(wc.alloc _).heap.size;simp;omega) _ rfl ?_;intro g cap Z aa f aq Gc;have c3:=(D.out.t1.of_block (f.block G D.out.t1.lt (fun e=>D.out.ne e.symm))).1;have f3:=(D.out.t1.of_block (f.block G D.out.t1.lt (fun e=>D.out.ne e.symm))).2))
  all_goals
   have hG:=D.out.grow (t:=bs) ⟨f.os,f.tape,f.output,f.size,f.block⟩ (by rw[HW.out];exact aa) (by
    rcases aq with h|h
    ·exact Or.inl h
    omega)
   have bm:=zH hG.1;have a7:=zH ((aj.of_below (((af _ wc).alloc (ai _) _).drew)).trans hG.2 (fun _ _ h=>h) (fun _ _ h=>h))
   have b1:Hid (∀b,(Value.slice (some (g,0)) (J+1) cap).ownBlock=some b→(Value.slice sa J sc).ownBlock=b∨wc≤b):=fun b e=>by
    have e1:g=b:=by simpa[Value.ownBlock] using e
    rcases aq with h|h
    ·exact Or.inl (by rw[←e1];exact h)
    ·right
     have h2:g=(wc.alloc (.cells #[.iface 266 _] 264)):=h;omega
   have ad:Hid (∀b,bx≤b→¬Own G (.slice sa J sc) b):=fun b hb h=>by
    rcases h with h|h
    ·have:=a0.out.1;omega
    ·have:=a0.out.2.1 b h;omega
   have b5:=zH ((a7.out.block _ bq (ad.out _ ae)).trans b4.out)
   have y3:(Z.setCell (G,1) (.slice (some (g,0)) (J+1) cap)).cell? ⟨xb,0,none⟩=some (.string a2):=by
    rw[a7.out.cell bk (ad.out xb (by have:=a0.out.2.2.1;omega))];exact x3
   have y4:(Z.setCell (G,1) (.slice (some (g,0)) (J+1) cap)).cell? ⟨xb,1,none⟩=some (.bool th):=by
    rw[a7.out.cell bk (ad.out xb (by have:=a0.out.2.2.1;omega))];exact x4
   obtain⟨⟨r0,f0⟩,⟨r1,f1⟩⟩:=fd2 b5.out;clear hG aa f aq Gc c3 f3 bh bd c1 bn x0 x1 x2 x3 x4 b6 D a4 b4;generalize Z.setCell ⟨G,1,none⟩ (.slice (some ⟨g,0,none⟩) (J.length+1) cap)=W6 at*;go_wp2;refine aL (bz results205 _ _ _ 137 _ _ _ rfl (gz b5.out _ _) underlying137 rfl aB) rfl ?_;refine⟨_,rfl,bm.out.of_block ?_ ?_,?_,?_⟩
   ·rw[aM _ _ _ _ (by have:=a0.out.1;grind),aM _ _ _ _ (by have:=a0.out.1;grind)]
   ·intro b e
    have bc:b≠bx+1:=fun e2=>by
     rcases b1.out b e with h|h
     ·have:=a0.out.2.1 b h;omega
     ·omega
    rw[aM _ _ _ _ bc,aM _ _ _ _ bc]
   ·have h1:=(aj.of_below (by have:=b2.out;first|exact this|(rw[a9] at this ⊢;exact this))).trans a7.out (fun _ _ h=>h) (fun _ _ h=>h)
    exact(h1.set (fun h=>ax) _).set (fun h=>ax) _
   ·intro b e
    rcases b1.out b e with h|h
    ·exact Or.inl h
    omega
end Pn
namespace Pn
open Mf Ed
variable{w w' W U Z:zW}{A:Nat→Prop}
theorem Gh{W:zW}{r:Nat}{t}{x0 x1 x2 x3 x4}(h:W.heap[r]?=some (.cells #[x0,x1,x2,x3,x4] t))a b c d e:(((((W.setCell (r,0) a).setCell (r,1) b).setCell (r,2) c).setCell (r,3) d).setCell (r,4) e).heap[r]?=some (.cells #[a,b,c,d,e] t):=by
 have f:=bl _ _ 0 _ _ a h;have D:=bl _ _ 1 _ _ b f;have R:=bl _ _ 2 _ _ c D;have S:=bl _ _ 3 _ _ d R;exact bl _ _ 4 _ _ e S
theorem fd5{W:zW}{r:Nat}{t}{f D R S x4}(h:W.heap[r]?=some (.cells #[f,D,R,S,x4] t)):(W.cell? (r,0)=f∧W.frozen? (r,0)=false)∧(W.cell? (r,1)=D∧W.frozen? (r,1)=false)∧(W.cell? (r,2)=R∧W.frozen? (r,2)=false)∧(W.cell? (r,3)=S∧W.frozen? (r,3)=false)∧(W.cell? (r,4)=x4∧W.frozen? (r,4)=false):=by
 simp only[World.cell?,World.frozen?,h];simp
theorem Eb{b:Nat}{v0 v1 v2 f}{t}(h:W.heap[b]?=some (.cells #[v0,v1,v2,f] t)):
  W.cell? (b,0)=v0∧W.cell? (b,1)=v1∧W.cell? (b,2)=v2∧W.cell? (b,3)=f:=by
 simp only[World.cell?,h];simp
theorem ag{b:Nat}{o:Obj}(h:W.heap[b]?=o):b<W:=(wL.1 h).1
theorem jB:∀x,(Sm.mc x).length=2:=fun _=>rfl
theorem Ec:∀x,(Sw.mc x).length=3:=fun _=>rfl
theorem sQ{s}(h:bf s=[]):fg (s)=.man 0 ⟨(bB s).p,reqs (bB s).R,gu (bB s).X,fL (bB s).S⟩:=ay h
theorem PH{s}(h:bf s≠[]):fg (s)=.man 3 ⟨e0,[],[],[]⟩:=au h
theorem AO(f:Nat):iC A w (.iface 294 (.agg #[f,e0,zN,zN,zN])) (.man f ⟨e0,[],[],[]⟩):=⟨_,_,_,rfl,RdA.nil _,RdA.nil _,RdA.nil _⟩
theorem uN t w(hm:Ml w)(hA:∀b,A b→b<w):
  zC 204 #[txV t] w fun e w'=>∃v,e=.returned v∧iC A w' (.iface 294 v) (fg t)∧Below w w w':=by
 have a1:Below w.heap.size w (w.alloc (.cells #[(df t),t.isSome] 137)):=(af _ _).alloc (ai _) _;have HB:Hid (Below w.heap.size w ((w.alloc _).alloc (.cells #[.int .i64 0,zE,zN,zN,zN] 294))):=a1.alloc a1.size _;have HR:Hid (((w.alloc (.cells #[(df t),t.isSome] 137)).alloc (.cells #[.int .i64 0,zE,zN,zN,zN] 294)).heap[_]?=_):=dX w _ _;have HS:Hid (w+1<((w.alloc (.cells #[(df t),t.isSome] 137)).alloc (.cells #[.int .i64 0,zE,zN,zN,zN] 294)).heap.size):=by show _<_;simp
 have a0:=zH (fun o=>a1.alloc a1.size o);clear a1;cases t with
 |none=>
  go_enter func204,ntmps204;go_wp2;refine aL (bz results204 _ _ _ 294 _ _ _ rfl (dX w _ _) underlying294 rfl aB) rfl ?_;exact⟨_,rfl,AO 2,a0.out _⟩
 |some s=>
  have kt:=sI s ((w.alloc (.cells #[s,true] 137)).alloc _) (hm.below HB.out);have ad:=zH hA;clear hm hA a0;show zC 204 #[.agg #[.string s,.bool true]] w _;go_enter func204,ntmps204
  go_wp2_with (go_at_call 214;fail)
  have a4:Hid (Below w.heap.size w ((w.alloc (.cells #[s,true] 137)).alloc _)):=HB;have ab:Hid (((w.alloc (.cells #[s,true] 137)).alloc _).heap[_]?=_):=HR;have a5:Hid (_<((w.alloc (.cells #[s,true] 137)).alloc _).heap.size):=HS;clear HB HR HS;generalize (w.alloc (.cells #[.string s,.bool true] 137)).alloc (.cells #[.int .i64 0,zE,zN,zN,zN] 294)=W1 at*;go_at_call 214;refine kt.mono ?_;rintro e w2 ⟨p,rv,xv,sv,T,rfl,ho,hb,_⟩;have HO:=zH ho;have a0:=zH (a4.out.trans (hb.mono a4.out.size))
  have a7:Hid (w2.heap[w.heap.size+1]?=some (.cells #[.int .i64 0,zE,zN,zN,zN] 294)):=by
   show w2.heap[w.heap.size+1]?=_;rw[hb.block _ a5.out];exact ab.out
  have a6:Hid (∀b,A b→b<W1):=fun b h=>by have:=ad.out b h;have:=a4.out.size;omega
  obtain⟨ra,rc,e1⟩:=aC ho.re;obtain⟨xa,xc,e2⟩:=aC ho.xe;obtain⟨sa,sc,e3⟩:=aC ho.se;obtain⟨la,lc,e4⟩:=aC ho.le;subst e1;subst e2;subst e3;subst e4;clear ho hb kt a4 ab;have ak:=zH (ag a7.out);have a3:Hid (Below w2.heap.size w2 (w2.alloc (.cells #[p,.slice ra (bB s).R rc,.slice xa (bB s).X xc,.slice sa (bB s).S sc] 195))):=(af _ _).alloc (ai _) _;have aa:Hid ((w2.alloc (.cells #[p,.slice ra (bB s).R rc,.slice xa (bB s).X xc,.slice sa (bB s).S sc] 195)).heap[_]?=_):=aI _ _;go_upto_region 4 with fail
  have a8:Hid ((w2.alloc (.cells #[p,.slice ra (bB s).R rc,.slice xa (bB s).X xc,.slice sa (bB s).S sc] 195)).heap[w.heap.size+1]?=some (.cells #[.int .i64 0,zE,zN,zN,zN] 294)):=by
   exact(a3.out.block _ ak.out).trans a7.out
  have a9:=zH (a0.out.trans (a3.out.mono a0.out.size));have f:=zH (HO.out.below a3.out);obtain⟨⟨c0,f0⟩,⟨c1,f1⟩,⟨c2,f2⟩,⟨c3,f3⟩,⟨c4,f4⟩⟩:=fd5 a8.out;have d:=Eb aa.out;obtain⟨d0,d1,d2,d3⟩:=d;clear a3 aa HO a0 a7;generalize w2.alloc _=U at*;generalize w2.heap.size=gb at*;by_cases D:bf s=[]
  ·have h0:((0)<((bf s):Int))=False:=by rw[D];simp
   have HE:=zH (sQ D);have Sq:(bf s).length=0:=by rw[D];rfl
   have HF:Hid (∀W:zW,(∀b,w.heap.size+1<b→W.heap[b]?=U.heap[b]?)→iC A W (.iface 294 (.agg #[.int .i64 0,p,.slice ra (bB s).R rc,.slice xa (bB s).X xc,.slice sa (bB s).S sc])) (fg (s))):=fun W hW=>by
    rw[HE.out,f.out.pe];refine⟨_,_,_,rfl,?_,?_,?_⟩
    ·exact RdA.own (B:=W1.heap.size) (by rw[show _=_ from Ss.aY _];exact ar f.out.re (fun b e=>hW b (by have:=(f.out.re.lt b e).1;have:=a5.out;omega))) rfl jB a6.out
    ·exact RdA.own (B:=W1.heap.size) (by rw[show _=_ from Ss.aY _];exact ar f.out.xe (fun b e=>hW b (by have:=(f.out.xe.lt b e).1;have:=a5.out;omega))) rfl jB a6.out
    ·exact RdA.own (B:=W1.heap.size) (by rw[show _=_ from Ss.aY _];exact ar f.out.se (fun b e=>hW b (by have:=(f.out.se.lt b e).1;have:=a5.out;omega))) rfl Ec a6.out
   clear D;generalize (bf s).length=ns at*;subst Sq;go_wp2;refine aL (bz results204 _ _ _ 294 _ _ _ rfl (Gh a8.out _ _ _ _ _) underlying294 rfl aB) rfl ?_;refine⟨_,rfl,HF.out _ (fun b hb=>?_),((((a9.out.setCell (bW _) _).setCell (bW _) _).setCell (bW _) _).setCell (bW _) _).setCell (bW _) _⟩;have a2:b≠w+1:=ae;rw[aM _ _ _ _ a2,aM _ _ _ _ a2,aM _ _ _ _ a2,aM _ _ _ _ a2,aM _ _ _ _ a2]
  ·have HE:=zH (PH D)
   have h0:(0)<((bf s):Int):=by have:=eB.2 D;omega
   clear D;generalize (bf s).length=ns at*;go_wp2;refine aL (bz results204 _ _ _ 294 _ _ _ rfl (Gh a8.out _ _ _ _ _) underlying294 rfl aB) rfl ?_;refine⟨_,rfl,by rw[HE.out];exact AO 3,((((a9.out.setCell (bW _) _).setCell (bW _) _).setCell (bW _) _).setCell (bW _) _).setCell (bW _) _⟩
end Pn
namespace Pn
open Mf Ed
variable{w w' W U Z:zW}{A:Nat→Prop}
theorem MU{s}(h:cC s=[]):idxOf (s)=.idx 0 (fc s):=ay h
theorem PI{s}(h:cC s≠[]):idxOf (s)=.idx 6 []:=au h
theorem AP(f:Nat):iC A w (.iface 297 (.agg #[f,zN])) (.idx f []):=⟨_,rfl,RdA.nil _⟩
theorem oZ:∀l:List zA,ig l=l.flatMap dU
 |[]=>rfl
 |x::l=>by
  have f:=oZ l;unfold ig at f ⊢;rw[eA,od,f];rfl
theorem Ee:∀x,(dU x).length=1:=fun _=>rfl
theorem zL t w(hm:Ml w)(hA:∀b,A b→b<w):
  zC 206 #[txV t] w fun e w'=>∃v,e=.returned v∧iC A w' (.iface 297 v) (idxOf t)∧Below w w w':=by
 have R:Below w.heap.size w (w.alloc (.cells #[(df t),t.isSome] 137)):=(af _ _).alloc (ai _) _;have HB:Hid (Below w.heap.size w ((w.alloc _).alloc (.cells #[.int .i64 0,zN] 297))):=R.alloc R.size _;have HR:Hid (((w.alloc (.cells #[(df t),t.isSome] 137)).alloc (.cells #[.int .i64 0,zN] 297)).heap[_]?=_):=dX w _ _;have HS:Hid (w+1<((w.alloc (.cells #[(df t),t.isSome] 137)).alloc (.cells #[.int .i64 0,zN] 297)).heap.size):=by show _<_;simp
 have D:=zH (fun o=>R.alloc R.size o);clear R;cases t with
 |none=>
  go_enter func206,ntmps206;go_wp2;refine aL (bz results206 _ _ _ 297 _ _ _ rfl (dX w _ _) underlying297 rfl aB) rfl ?_;exact⟨_,rfl,AP 5,D.out _⟩
 |some s=>
  have kt:=xU s ((w.alloc (.cells #[s,true] 137)).alloc _) (hm.below HB.out);have a7:=zH hA;clear hm hA D;show zC 206 #[.agg #[.string s,.bool true]] w _;go_enter func206,ntmps206
  go_wp2_with (go_at_call 215;fail)
  have S:Hid (Below w.heap.size w ((w.alloc (.cells #[s,true] 137)).alloc _)):=HB;have a2:Hid (((w.alloc (.cells #[s,true] 137)).alloc _).heap[_]?=_):=HR;have a3:Hid (_<((w.alloc (.cells #[s,true] 137)).alloc _).heap.size):=HS;clear HB HR HS;generalize (w.alloc (.cells #[.string s,.bool true] 137)).alloc (.cells #[.int .i64 0,zN] 297)=W1 at*;go_at_call 215;refine kt.mono ?_;rintro e w2 ⟨ov,sv,rfl,ho,hb⟩;obtain⟨_,_,_,_,a1,a5⟩:=ho;have HO:=zH a1;have D:=zH (S.out.trans (hb.mono S.out.size));have a0:=zH ((hb.block _ a3.out).trans a2.out);have a6:Hid (∀b,A b→b<W1):=fun b h=>by have:=a7.out b h;have:=S.out.size;omega
  obtain⟨oa,oc,e1⟩:=aC a1;obtain⟨la,lc,e4⟩:=aC a5;subst e1;subst e4;obtain⟨⟨c0,f0⟩,⟨c1,f1⟩⟩:=fd2 a0.out;clear a1 a5 hb kt S a2;by_cases f:cC s=[]
  ·have h0:((0)<((cC s):Int))=False:=by rw[f];simp
   have HE:=zH (MU f);have Sq:(cC s).length=0:=by rw[f];rfl
   have HF:Hid (∀W:zW,(∀b,w.heap.size+1<b→W.heap[b]?=w2.heap[b]?)→iC A W (.iface 297 (.agg #[.int .i64 0,.slice oa (fc s) oc])) (idxOf (s))):=fun W hW=>by
    rw[HE.out];refine⟨_,rfl,?_⟩;exact RdA.own (ar HO.out (fun b e=>hW b (by have:=(HO.out.lt b e).1;have:=a3.out;omega))) (by show ig _=_;exact oZ _) Ee a6.out
   clear f;generalize (cC s).length=ns at*;subst Sq;go_wp2;refine aL (bz results206 _ _ _ 297 _ _ _ rfl (gz a0.out _ _) underlying297 rfl aB) rfl ?_;refine⟨_,rfl,HF.out _ (fun b hb=>?_),(D.out.setCell (bW _) _).setCell (bW _) _⟩;have a4:b≠w+1:=ae;rw[aM _ _ _ _ a4,aM _ _ _ _ a4]
  ·have HE:=zH (PI f)
   have h0:(0)<((cC s):Int):=by have:=eB.2 f;omega
   clear f;generalize (cC s).length=ns at*;go_wp2;refine aL (bz results206 _ _ _ 297 _ _ _ rfl (gz a0.out _ _) underlying297 rfl aB) rfl ?_;refine⟨_,rfl,by rw[HE.out];exact AP 6,(D.out.setCell (bW _) _).setCell (bW _) _⟩
