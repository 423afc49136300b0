import Derived.Test.YtgamgopghfpegaaGreatDoorKCB
import Derived.Test.YtgamgopghfpegaaGreatDoorKXA
set_option linter.all false
open Go.Proofs.Tryz
set_option maxRecDepth 100000
set_option maxHeartbeats 4000000
namespace Go.Proofs.YtgamgopghfpegaaGreatDoor
open Go.RowKit
namespace Mf
variable{w w' Y W Z:zW}{G:Nat}{V:Nat→zV}{n:Nat→Nat}{L:Nat→List zV}
theorem results_cell_tmp{P:Program}{fn}{p q:Tmp}{ty}(h:fn.results=#[.cell p ty,.tmp q])(f:Array zV)w(g:Nat)t D fr(d:TypeDesc)v
  (T:f.getD p undef=.pointer (some (g,0))) (U:f.getD q undef=v) (M:w.heap[g]?=some (.cells D t fr))
  (hu:P.underlying ty=d) (hd:(match d with | .struct _ | .array _ _=>true|_=>false)=true) (O:(P.info? ty).map (·.size)=D.size):
  (results fn f).run P w=.ok (.tuple #[.agg D,v]) w:=by
 have E:f[p]?.getD undef=.pointer (some (g,0)):=by simpa using T
 have F:f[q]?.getD undef=v:=by simpa using U
 simp[results,h,E,F,asAddr,run_loadVar_row w g t ty D fr d M hu hd O]
abbrev ty(i:Nat):TypeId:=if i=3 then 199 else 68
abbrev sz(i:Nat):Nat:=if i=3 then 3 else 2
structure Mk(Y:World)(G:Nat)(V:Nat→zV)(n:Nat→Nat)(L:Nat→List zV)(W:World):Prop where
 b:zB Y W
 lt:Y.heap.size≤G∧G<W.heap.size
 box:dt W G 4 V
 own:∀i,1≤i→i≤3→W.ownsRow (G+1) (ty i) (sz i) (V i) (n i) (L i)
 ne:∀i j,1≤i→i≤3→1≤j→j≤3→i≠j→∀b,(V i).ownBlock=some b→(V j).ownBlock≠some b
theorem Mk.below(h:Mk Y G V n L W)(f:Below W W Z):Mk Y G V n L Z:=
 ⟨h.b.trans (f.mono h.b.size),⟨h.lt.1,bU h.lt.2 f.size⟩,h.box.of_block (f.block _ h.lt.2),fun i D E=>ar (h.own i D E) (fun b e=>f.block b ((h.own i D E).lt b e).2),h.ne⟩
theorem jh{e s m:Nat}{v}{xs}(h:w.ownsRow (G+1) e s v m xs)(f:v.ownBlock=G):False:=by
 have:=(h.lt G f).1;omega
def upd{α:Type}(V:Nat→α)(i:Nat)(v:α)(j:Nat):α:=if j=i then v else V j
theorem Mk.put(h:Mk Y G V n L W)i(h1:1≤i)(h3:i≤3){T}{m}{xs}(M:w'.ownsRow (G+1) (ty i) (sz i) T m xs)(F:aj (fun b=>(V i).ownBlock=b) W w')(U:∀b,T.ownBlock=some b→(V i).ownBlock=b∨W≤b):
  Mk Y G (upd V i T) (upd n i m) (upd L i xs) (w'.setCell (G,i) T):=by
 have O:∀k,k≠G→(w'.setCell (G,i) T).heap[k]?=_:=fun k O=>aM _ _ _ _ O
 have a2:(w'.setCell (G,i) T)=w'.heap.size:=by simp[World.setCell]
 have a0:=fun e=>jh (h.own i h1 h3) e
 refine⟨?_,⟨h.lt.1,by rw[a2];exact bU h.lt.2 F.size⟩,?_,fun j j1 j3=>?_,fun a c a1 a3 c1 c3 D b e=>?_⟩
 ·refine(⟨F.os.trans h.b.os,F.tape.trans h.b.tape,F.output.trans h.b.output,aP h.b.size F.size,fun k O=>?_⟩:zB Y w').setCell h.lt.1 _
  rw[F.block k (bU O h.b.size) (fun e=>by have:=((h.own i h1 h3).lt k e).1;have:=h.lt.1;omega)];exact h.b.block k O
 ·exact((h.box.of_block (F.block G h.lt.2 a0)).set ae T).ext (fun j _=>rfl)
 ·unfold upd
  by_cases e:j=i
  ·subst e
   simp only[ay];exact ar M (fun b e=>O b (fun f=>by subst f;exact jh M e))
  ·simp only[au e]
   refine ar (h.own j j1 j3) (fun b f=>?_);rw[O b (fun E=>by subst E;exact jh (h.own j j1 j3) f)];exact F.block b ((h.own j j1 j3).lt b f).2 (fun E=>h.ne j i j1 j3 h1 h3 e b f E)
 ·unfold upd at e ⊢
  by_cases ea:a=i
  ·subst ea
   simp only[ay] at e;rw[au (fun h=>D h.symm)];rcases U b e with f|f
   ·exact h.ne a c a1 a3 c1 c3 D b f
   ·intro E
    have:=((h.own c c1 c3).lt b E).2;omega
  ·rw[au ea] at e
   by_cases ec:c=i
   ·subst ec
    simp only[ay];intro f;rcases U b f with E|E
    ·exact h.ne a c a1 a3 c1 c3 D b e E
    ·have:=((h.own a a1 a3).lt b e).2
     omega
   ·rw[au ec]
    exact h.ne a c a1 a3 c1 c3 D b e
theorem Mk.path(h:Mk Y G V n L W)v:Mk Y G (upd V 0 v) n L (W.setCell (G,0) v):=by
 have D:∀k,k≠G→(W.setCell (G,0) v).heap[k]?=_:=fun k D=>aM _ _ _ _ D
 have E:(W.setCell (G,0) v)=W.heap.size:=by simp[World.setCell]
 have F:∀i,1≤i→upd V 0 v i=V i:=fun i hi=>au ae
 refine⟨h.b.setCell h.lt.1 _,⟨h.lt.1,by rw[E];exact h.lt.2⟩,(h.box.set ae v).ext (fun j _=>rfl),fun j M U=>?_,fun a c O a3 T c3 f b e=>?_⟩
 ·rw[F j M]
  exact ar (h.own j M U) (fun b e=>D b (fun e2=>by subst e2;exact jh (h.own j M U) e))
 ·rw[F c T]
  rw[F a O] at e;exact h.ne a c O a3 T c3 f b e
theorem Mk.start Y:Mk Y Y (fun f=>if f=0 then zE else zN) (fun _=>0) (fun _=>[]) (Y.alloc (.cells #[zE,zN,zN,zN] 195)):=by
 have D:=aI Y (.cells #[zE,zN,zN,zN] 195);refine⟨(af _ _).alloc (ai _) _,⟨ai _,ah⟩,⟨fun j E=>?_,fun j E=>?_⟩,fun i M O=>?_,fun a c F _ _ _ _ b e=>?_⟩
 ·rcases(by omega:j=0∨j=1∨j=2∨j=3) with rfl|rfl|rfl|rfl<;>simp only[World.cell?,D]<;>rfl
 ·simp
 ·simp only[au (by omega:¬i=0)]
  exact bP _ _ _ _
 ·simp only[au (by omega:¬a=0)] at e
  simp[Value.ownBlock] at e
def mv(p:zA)(I Q J:zV)(i:Nat):zV:=if i=0 then .string p else if i=1 then I else if i=2 then Q else J
def mn(R X:List Mo)(S:List So)(i:Nat):Nat:=if i=1 then R.length else if i=2 then X.length else S.length
def mL(R X:List Mo)(S:List So)(i:Nat):List zV:=if i=1 then mcs R else if i=2 then mcs X else scs S
theorem Mk.ext{O}{T}{M}(h:Mk Y G V n L W)(f:∀i,i<4→V i=O i)(hn:∀i,1≤i→i≤3→n i=T i)(U:∀i,1≤i→i≤3→L i=M i):Mk Y G O T M W:=
 ⟨h.b,h.lt,h.box.ext f,fun i D E=>by rw[←f i ae,←hn i D E,←U i D E];exact h.own i D E,fun i j i1 i3 j1 j3 F b e=>by rw[←f j ae];rw[←f i ae] at e;exact h.ne i j i1 i3 j1 j3 F b e⟩
abbrev Mq(Y:zW)(G:Nat)(p:zA)(I Q J:zV)(R X:List Mo)(S:List So)(W:zW):Prop:=Mk Y G (mv p I Q J) (mn R X S) (mL R X S) W
variable{p:zA}{I Q J:zV}{R X R' X':List Mo}{S S':List So}
theorem Mq.start Y:Mq Y Y ⟨#[]⟩ (zN) (zN) (zN) [] [] [] (Y.alloc (.cells #[zE,zN,zN,zN] 195)):=
 (Mk.start Y).ext (fun i E=>by rcases(by omega:i=0∨i=1∨i=2∨i=3) with rfl|rfl|rfl|rfl<;>rfl) (fun i f D=>by rcases(by omega:i=1∨i=2∨i=3) with rfl|rfl|rfl<;>rfl) (fun i f D=>by rcases(by omega:i=1∨i=2∨i=3) with rfl|rfl|rfl<;>rfl)
theorem Mq.path(h:Mq Y G p I Q J R X S W)f:Mq Y G f I Q J R X S (W.setCell (G,0) (f)):=
 (Mk.path h (.string f)).ext (fun i F=>by rcases(by omega:i=0∨i=1∨i=2∨i=3) with rfl|rfl|rfl|rfl<;>rfl) (fun i D E=>rfl) (fun i D E=>rfl)
theorem Mq.req(h:Mq Y G p I Q J R X S W){D}(f:w'.ownsRow (G+1) 68 2 D R' (mcs R'))(O:aj (fun b=>I.ownBlock=b) W w')(E:∀b,D.ownBlock=some b→I.ownBlock=b∨W≤b):Mq Y G p D Q J R' X S (w'.setCell (G,1) D):=
 (Mk.put h 1 ae ae (m:=R'.length) (xs:=mcs R') f O E).ext (fun i T=>by rcases(by omega:i=0∨i=1∨i=2∨i=3) with rfl|rfl|rfl|rfl<;>rfl) (fun i F M=>by rcases(by omega:i=1∨i=2∨i=3) with rfl|rfl|rfl<;>rfl) (fun i F M=>by rcases(by omega:i=1∨i=2∨i=3) with rfl|rfl|rfl<;>rfl)
theorem Mq.exc(h:Mq Y G p I Q J R X S W){D}(f:w'.ownsRow (G+1) 68 2 D X' (mcs X'))(O:aj (fun b=>Q.ownBlock=b) W w')(E:∀b,D.ownBlock=some b→Q.ownBlock=b∨W≤b):Mq Y G p I D J R X' S (w'.setCell (G,2) D):=
 (Mk.put h 2 ae ae (m:=X'.length) (xs:=mcs X') f O E).ext (fun i T=>by rcases(by omega:i=0∨i=1∨i=2∨i=3) with rfl|rfl|rfl|rfl<;>rfl) (fun i F M=>by rcases(by omega:i=1∨i=2∨i=3) with rfl|rfl|rfl<;>rfl) (fun i F M=>by rcases(by omega:i=1∨i=2∨i=3) with rfl|rfl|rfl<;>rfl)
theorem Mq.rep(h:Mq Y G p I Q J R X S W){D}(f:w'.ownsRow (G+1) 199 3 D S' (scs S'))(O:aj (fun b=>J.ownBlock=b) W w')(E:∀b,D.ownBlock=some b→J.ownBlock=b∨W≤b):Mq Y G p I Q D R X S' (w'.setCell (G,3) D):=
 (Mk.put h 3 ae ae (m:=S'.length) (xs:=scs S') f O E).ext (fun i T=>by rcases(by omega:i=0∨i=1∨i=2∨i=3) with rfl|rfl|rfl|rfl<;>rfl) (fun i F M=>by rcases(by omega:i=1∨i=2∨i=3) with rfl|rfl|rfl<;>rfl) (fun i F M=>by rcases(by omega:i=1∨i=2∨i=3) with rfl|rfl|rfl<;>rfl)
theorem Mq.r(h:Mq Y G p I Q J R X S W):W.ownsRow (G+1) 68 2 I R (mcs R):=h.own 1 ae ae
theorem Mq.x(h:Mq Y G p I Q J R X S W):W.ownsRow (G+1) 68 2 Q X (mcs X):=h.own 2 ae ae
theorem Mq.s(h:Mq Y G p I Q J R X S W):W.ownsRow (G+1) 199 3 J S (scs S):=h.own 3 ae ae
theorem Mq.cells(h:Mq Y G p I Q J R X S W):(W.cell? (G,0)=(p)∧W.cell? (G,1)=I∧W.cell? (G,2)=Q∧W.cell? (G,3)=J)∧(W.frozen? (G,0)=false∧W.frozen? (G,1)=false∧W.frozen? (G,2)=false∧W.frozen? (G,3)=false):=
 ⟨⟨h.box.at' 0 ae,h.box.at' 1 ae,h.box.at' 2 ae,h.box.at' 3 ae⟩,h.box.fr 0 ae,h.box.fr 1 ae,h.box.fr 2 ae,h.box.fr 3 ae⟩
structure Mx where
 p:zA
 R:List Mo
 X:List Mo
 S:List So
end Mf
namespace Mf
variable{w w':zW}
def Wd4(f:zA):Prop:=f=qU∨f=uu∨f=Dp∨f=FP
theorem MO{l}{D}(h:Ok false l D):Wd4 (wd l 0):=by
 rcases eu h.sh with⟨f,_⟩|⟨_,⟨e,_⟩|⟨e|e,_⟩|⟨e,_⟩⟩
 ·cases f
 ·exact Or.inl ((ba_eq _ _).2 e)
 ·exact Or.inr (Or.inl ((ba_eq _ _).2 e))
 ·exact Or.inr (Or.inr (Or.inl ((ba_eq _ _).2 e)))
 ·exact Or.inr (Or.inr (Or.inr ((ba_eq _ _).2 e)))
def fe(m:Mx)(s:Sm4):Mx:=
 if s.1=qU then ⟨s.2.1,m.R,m.X,m.S⟩ else if s.1=uu then ⟨m.p,m.R++[(s.2.1,s.2.2.1)],m.X,m.S⟩ else if s.1=Dp then ⟨m.p,m.R,m.X++[(s.2.1,s.2.2.1)],m.S⟩ else if s.1=FP then ⟨m.p,m.R,m.X,m.S++[(s.2.1,s.2.2.1,s.2.2.2)]⟩ else m
def bE(L:List Sm4):Mx:=L.foldl fe ⟨⟨#[]⟩,[],[],[]⟩
theorem uJ L s:bE (L++[s])=fe (bE L) s:=by simp[bE,qK]
theorem oQ L:(bE L).R≤L.length∧(bE L).X≤L.length∧(bE L).S≤L.length:=by
 have gen:∀(L:List Sm4)(m:Mx),(L.foldl fe m).R≤m.R+L.length∧(L.foldl fe m).X≤m.X+L.length∧(L.foldl fe m).S.length≤m.S+L.length:=by
  intro L
  induction L with
  |nil=>intro m;simp
  |cons s L f=>
   intro m;have h:=f (fe m s)
   have D:(fe m s).R≤m.R.length+1∧(fe m s).X≤m.X.length+1∧(fe m s).S≤m.S.length+1:=by
    unfold fe
    split
    ·simp
    ·split
     ·simp
     ·split
      ·simp
      grind
   simp only[jO,dF];omega
 have:=gen L ⟨⟨#[]⟩,[],[],[]⟩;simpa[bE] using this
theorem AF{B}{v}{L:List Mo}(h:w.ownsRow B 68 2 v L (mcs L)):Sm.Rd w v L:=by
 rcases h.2 with⟨f,M⟩|⟨g,c,F,f,_⟩
 ·exact Or.inl ⟨f,lD M⟩
 ·subst f
  refine Or.inr ⟨g,0,c,rfl,fun j u E=>?_⟩
  have D:j<L*2:=by
   have:=(dh.1 E).1;rw[Sm.rf] at this;exact this
  rw[dQ,h.cellAt j D];exact E
theorem Jv{B}{v}{L:List So}(h:w.ownsRow B 199 3 v L (scs L)):Sw.Rd w v L:=by
 rcases h.2 with⟨f,M⟩|⟨g,c,F,f,_⟩
 ·exact Or.inl ⟨f,lD M⟩
 ·subst f
  refine Or.inr ⟨g,0,c,rfl,fun j u E=>?_⟩
  have D:j<L*3:=by
   have:=(dh.1 E).1;rw[Sw.rf] at this;exact this
  rw[dQ,h.cellAt j D];exact E
abbrev zM:Array zV:=#[zE,zN,zN,zN]
end Mf
namespace Mf
variable{w w':zW}
theorem oT{W:zW}{r:Nat}(h:W.heap[r]?=some (.cells zM 195))a b c d:((((W.setCell (r,0) a).setCell (r,1) b).setCell (r,2) c).setCell (r,3) d).heap[r]?=some (.cells #[a,b,c,d] 195):=by
 have f:=bl _ _ 0 _ _ a h;have D:=bl _ _ 1 _ _ b f;have E:=bl _ _ 2 _ _ c D;exact bl _ _ 3 _ _ d E
theorem gy{W}{r:Nat}(D:Below w w W)(f:w≤r)a b c d:Below w w ((((W.setCell (r,0) a).setCell (r,1) b).setCell (r,2) c).setCell (r,3) d):=(((D.setCell f _).setCell f _).setCell f _).setCell f _
theorem gR{W:zW}{r B e s n:Nat}{v}{l}(h:W.ownsRow B e s v n l)(f:r<B)a b c d:((((W.setCell (r,0) a).setCell (r,1) b).setCell (r,2) c).setCell (r,3) d).ownsRow B e s v n l:=cG (cG (cG (cG h _ f) _ f) _ f) _ f
theorem sH(s:zA)(w:zW)(hs:s.size≤2000)(hm:Ml w):
  zC 214 #[.string s] w fun e w'=>∃(good:List OLn)(aG:List (Nat×Nat×Nat))(m q:Nat)(p:zA)(I Q J lv:zV),e=.returned (.tuple #[.agg #[.string p,I,Q,J],lv])∧(Tx.spoken 1 (Pv.spl 10 s.data.toList)).foldl (Tx.bK false Pv.aK 20) qf=⟨dr good,aG,m,q⟩∧(∀g∈good,∃ks,Ok false g.2 ks)∧good.length≤2001∧aG.length≤2001∧zB w w'∧
   ((fN false m aG≠[]∧(p=⟨#[]⟩∧I=zN∧Q=zN∧J=zN)∧w'.ownsRow w.heap.size 273 3 lv (fN false m aG).length (cy (fN false m aG)))∨
    (fN false m aG=[]∧lv=zN∧p=(bE (good.map fun g=>cQ false g.2)).p∧w'.ownsRow w.heap.size 68 2 I (bE (good.map fun g=>cQ false g.2)).R.length (mcs (reqs (bE (good.map fun g=>cQ false g.2)).R))∧w'.ownsRow w.heap.size 68 2 Q (bE (good.map fun g=>cQ false g.2)).X.length (mcs (gu (bE (good.map fun g=>cQ false g.2)).X))∧w'.ownsRow w.heap.size 199 3 J (bE (good.map fun g=>cQ false g.2)).S.length (scs (fL (bE (good.map fun g=>cQ false g.2)).S))∧Apart I Q J)):=by
 obtain⟨i2,b2,b3,b4,b5⟩:=BZ;have HJ:Hid (prog.info? 68=some i2∧i2.zero=some (.agg #[zE,zE])∧i2.size=2∧i2.bytes=32):=⟨b2,b3,b4,b5⟩;clear b2 b3 b4 b5;obtain⟨i3,b2,b3,b4,b5⟩:=Sw.Ce;have b8:Hid (prog.info? 199=some i3∧i3.zero=some (.agg #[zE,zE,zE])∧i3.size=3∧i3.bytes=48):=⟨b2,b3,b4,b5⟩;clear b2 b3 b4 b5;generalize hR:(Tx.spoken 1 (Pv.spl 10 s.data.toList)).foldl (Tx.bK false Pv.aK 20) qf=R;have HM:=zH hm;clear hm;have cm:∀(W:zW)(a:Addr),(store a (.func (.func 231) #[] #[])).run prog W=stored prog W a (.func (.func 231) #[] #[]) .plain:=fun W a=>run_store prog W a _ _ rfl
 have b7:Hid (zB w (w.alloc (.cells zM 195))∧(w.alloc (.cells zM 195)).heap[w.heap.size]?=some (.cells zM 195)∧(w.alloc (.cells zM 195)).heap.size=w.heap.size+1):=⟨(af _ _).alloc (ai _) _,aI _ _,ah⟩;go_enter func214,ntmps214
 go_wp2_with (go_at_call 232;fail)
 have kr:=sG false s (w.alloc (.cells zM 195)).heap.size ((w.alloc (.cells zM 195)).alloc (.cells #[.func (.func 231) #[] #[],.string qU,.int .i64 0,.int .i64 0,.map none,zN] 325)) hs (HM.out.below (b7.out.1.alloc ah _)) ah (fdn _ _);rw[hR] at kr;clear hR;have an:Hid (zB w ((w.alloc (.cells zM 195)).alloc (.cells #[.func (.func 231) #[] #[],.string qU,.int .i64 0,.int .i64 0,.map none,zN] 325))∧((w.alloc (.cells zM 195)).alloc (.cells #[.func (.func 231) #[] #[],.string qU,.int .i64 0,.int .i64 0,.map none,zN] 325)).heap[w.heap.size]?=some (.cells zM 195)∧((w.alloc (.cells zM 195)).alloc (.cells #[.func (.func 231) #[] #[],.string qU,.int .i64 0,.int .i64 0,.map none,zN] 325)).heap.size=w.heap.size+2):=⟨b7.out.1.alloc ah _,heap_alloc2_old _ _ _,ah⟩;rw[b7.out.2.2] at kr;generalize (w.alloc (.cells zM 195)).alloc (.cells #[.func (.func 231) #[] #[],.string qU,.int .i64 0,.int .i64 0,.map none,zN] 325)=W1 at*;go_at_call 232;refine kr.mono ?_;rintro e E ⟨good,aG,m,q,I,lv,rfl,hD,hT,cf,ck,a6,hx⟩;clear kr cm
 have b0:Hid (zB w E∧E.heap[w.heap.size]?=some (.cells zM 195)∧w.heap.size+2≤E.heap.size):=by
  have h1:=an.out.1;refine⟨⟨a6.os.trans h1.os,a6.tape.trans h1.tape,a6.output.trans h1.output,aP h1.size a6.size,fun b hb=>?_⟩,?_,?_⟩
  ·rw[a6.block b (bU hb h1.size) ae];exact h1.block b hb
  ·rw[a6.block w.heap.size (by rw[an.out.2.2];omega) ae];exact an.out.2.1
  ·rw[←an.out.2.2];exact a6.size
 have HD:Hid (R=⟨dr good,aG,m,q⟩∧(∀g∈good,∃ks,Ok false g.2 ks)∧good.length≤2001∧aG.length≤2001):=⟨hD,hT,cf,ck⟩;have cs:=an.out.2.2;clear hD hT a6 an b7;rcases hx with⟨bn,rfl,a7⟩|⟨c2,rfl,a7⟩
 ·obtain⟨la,lc,rfl⟩:=aC a7
  have hq:(0:Int)<((fN false m aG).length:Int):=by have:=eB.2 bn;omega
  have HO:Hid (fN false m aG≠[]∧E.ownsRow (w.heap.size+2) 273 3 (.slice la (fN false m aG).length lc) (fN false m aG).length (cy (fN false m aG))):=⟨bn,ax⟩;have HW:=zH (fun a b c d=>oT b0.out.2.1 a b c d);obtain⟨⟨g0,g1,g2,g3⟩,f0,f1,f2,f3⟩:=Dr.cells4 b0.out.2.1;clear bn a7;generalize c3:(fN false m aG).length=fl at*;have c9:=zH c3;clear c3;go_wp2;refine aL (results_cell_tmp results214 _ _ w.heap.size 195 _ (0,0) _ _ rfl rfl (HW.out _ _ _ _) underlying195 rfl aB) rfl ?_;exact⟨good,aG,m,q,_,_,_,_,_,rfl,HD.out.1,HD.out.2.1,HD.out.2.2.1,HD.out.2.2.2,gy b0.out.1 (ai _) _ _ _ _,Or.inl ⟨HO.out.1,⟨rfl,rfl,rfl,rfl⟩,by rw[c9.out];exact cF (B:=w.heap.size+2) (gR (r:=w.heap.size) (B:=w.heap.size+2) HO.out.2 ae _ _ _ _) ae⟩⟩
 ·have HO:=zH a7
  clear a7;obtain⟨ra,rc,rfl⟩:=aC HO.out;have c8:=zH c2
  have ca:Hid (∀j (h:j<(good.map fun g=>cQ false g.2).length),Wd4 (good.map fun g=>cQ false g.2)[j].1):=fun j h=>by
   have hj:j<good.length:=by simpa using h
   obtain⟨ks,hk⟩:=HD.out.2.1 good[j] (dH hj);simp only[qJ];exact MO hk
  clear c2;have cn:(good.map fun g=>cQ false g.2).length=good.length:=dM ..;generalize c0:(good.map fun g=>cQ false g.2)=L at*;have cb:=zH c0;clear c0;have bt:=zH (Mq.start E);go_wp2;go_loopg [23] good.length (fun gg kv wr=>∃(k:Nat)(I Q J:zV),k≤good.length∧good.length-k≤gg∧kv=.int .i64 k∧Hid (Mq E E.heap.size (bE (L.take k)).p I Q J (bE (L.take k)).R (bE (L.take k)).X (bE (L.take k)).S wr))
  case atStart=>exact⟨0,_,_,_,ae,ae,rfl,bt⟩
  case round=>
   clear bt;obtain⟨k,I,Q,J,hk,cx,rfl,T⟩:=hrel;by_cases da:k<good.length
   ·have fD:(k:Int)<(good.length:Int):=ae
    have bb:k<L.length:=ae;obtain⟨g,c,c4⟩:=bo HO.out ae;have Sn:ra=some ⟨g,0,none⟩:=by injection c4
    subst Sn;clear c4;obtain⟨a0,a1,a2,a3⟩:=oP L k bb;have vV:=(HO.out.lt g rfl).2;have b1:=T.out.b;have d0:wr.cell? ⟨g,k*4,none⟩=some (.string L[k].1):=by rw[b1.cell (p:=⟨g,k*4,none⟩) vV,HO.out.cellAt (k*4) ae];exact a0
    have d1:wr.cell? ⟨g,k*4+1,none⟩=some (.string L[k].2.1):=by rw[b1.cell (p:=⟨g,k*4+1,none⟩) vV,HO.out.cellAt (k*4+1) ae];exact a1
    have d2:wr.cell? ⟨g,k*4+2,none⟩=some (.string L[k].2.2.1):=by rw[b1.cell (p:=⟨g,k*4+2,none⟩) vV,HO.out.cellAt (k*4+2) ae];exact a2
    have d3:wr.cell? ⟨g,k*4+3,none⟩=some (.string L[k].2.2.2):=by rw[b1.cell (p:=⟨g,k*4+3,none⟩) vV,HO.out.cellAt (k*4+3) ae];exact a3
    have c5:=ca.out k bb;have b6:=oQ (L.take k);have cj:(L.take k).length≤2001:=by rw[jy];omega
    have HN:Hid (bE (L.take (k+1))=fe (bE (L.take k)) L[k]):=by
     show _=_;rw[←List.take_append_getElem bb,uJ]
    have cv:=T.out.lt.2;generalize bE (L.take k)=M at*;obtain⟨mp,mR,mX,mS⟩:=M;simp only at T HN b6;have cp:mR.length≤2001:=ae;have ct:mX.length≤2001:=ae;have cq:mS.length≤2001:=ae;generalize hx:L[k]=x at*;clear hx;obtain⟨f,p,v,b⟩:=x;simp only at d0 d1 d2 d3 c5 HN;clear a0 a1 a2 a3 b1 b6 cj bb;have F:Hid (Mq E E.heap.size mp I Q J mR mX mS (wr.alloc (.cells #[.string f,.string p,.string v,.string b] 329))):=Mk.below T.out ((af _ _).alloc (ai _) _);obtain⟨⟨e0,e1,e2,e3⟩,f0,f1,f2,f3⟩:=F.out.cells;obtain⟨a8,a9,rfl⟩:=aC T.out.r;obtain⟨ad,ak,rfl⟩:=aC T.out.x;obtain⟨aa,ab,rfl⟩:=aC T.out.s;have az:(wr.alloc (.cells #[.string f,.string p,.string v,.string b] 329)).heap.size=wr.heap.size+1:=ah;rcases c5 with rfl|rfl|rfl|rfl
    ·have bh:Hid (Mq E E.heap.size (bE (L.take (k+1))).p (.slice a8 mR.length a9) (.slice ad mX.length ak) (.slice aa mS.length ab) (bE (L.take (k+1))).R (bE (L.take (k+1))).X (bE (L.take (k+1))).S ((wr.setCell ⟨E.heap.size,0,none⟩ (.string p)).alloc (.cells #[.string qU,.string p,.string v,.string b] 329))):=by
      show Mq _ _ _ _ _ _ _ _ _ _;rw[HN.out];exact Mk.below (Mq.path T.out p) ((af _ _).alloc (ai _) _)
     clear T F HN;go_wp2;go_roundg (good.length-(k+1))
     case measure=>omega
     grind
    focus
     have av:∀j u,[Value.string p,.string v][j]?=some u→((wr.alloc (.cells #[.string uu,.string p,.string v,.string b] 329)).alloc (.cells #[.string p,.string v] 68)).cell? ((⟨wr.heap.size+1,0,none⟩:Addr).add j)=some u:=fun j u hj=>by
      have h:=cell_two_new (wr.alloc (.cells #[.string uu,.string p,.string v,.string b] 329)) 68 (.string p) (.string v) j u hj;rw[az] at h;exact h
     go_wp2_with (at_builtin;refine bO _ rfl _ _ 55 rfl (E.heap.size+1) 68 i2 (.agg #[zE,zE]) 2 32 underlying55 HJ.out.1 HJ.out.2.1 HJ.out.2.2.1 HJ.out.2.2.2 rfl aA (.slice a8 mR.length a9) mR.length (mcs mR) rfl (F.out.r.alloc _) ⟨wr.heap.size+1,0,none⟩ 1 1 [.string p,.string v] rfl rfl av ?_ ?_ ?_ ?_ ?_)
     all_goals first
      |(show ∀u∈[Value.string p,Value.string v],u.oneCell'=true;intro u hu;simp at hu;rcases hu with rfl|rfl<;>rfl)
      |(show mR.length+1≤maxLen;unfold maxLen;omega)
      |(show(mR.length+1)*32≤140737488355328;omega)
      |(show E.heap.size+1≤((wr.alloc _).alloc _).heap.size;simp;omega)
      |(show E.heap.size+1≤wr.heap.size+1+1;omega)
      |skip
     intro c6 w3 D O _ U;obtain⟨g',c',rfl⟩:=bo D ae;have a4:=((aj.refl _ _).alloc _).grown O (fun b _ e=>e)
     have aq:∀b',(Value.slice (some ⟨g',0,none⟩) (mR.length+1) c').ownBlock=some b'→(Value.slice a8 mR.length a9).ownBlock=some b'∨(wr.alloc (.cells #[.string uu,.string p,.string v,.string b] 329)).heap.size≤b':=fun b' e=>by
      rcases U with e2|e2
      ·exact Or.inl (by rw[←e2];exact e)
      ·right
       rw[e2] at e;have:wr.heap.size+1+1=b':=by simpa using e
       omega
     have a5:=(F.out.box.of_block (a4.block E.heap.size (by rw[az];omega) (fun e=>jh F.out.r e)));have ba:w3.cell? ⟨E.heap.size,1,none⟩=some (.slice a8 mR.length a9):=a5.at' 1 ae;have bv:=a5.fr 1 ae
     have bh:Hid (Mq E E.heap.size (bE (L.take (k+1))).p (.slice (some ⟨g',0,none⟩) (mR.length+1) c') (.slice ad mX.length ak) (.slice aa mS.length ab) (bE (L.take (k+1))).R (bE (L.take (k+1))).X (bE (L.take (k+1))).S (w3.setCell ⟨E.heap.size,1,none⟩ (.slice (some ⟨g',0,none⟩) (mR.length+1) c'))):=by
      show Mq _ _ _ _ _ _ _ _ _ _;rw[HN.out];exact Mq.req (R':=mR++[(p,v)]) F.out (by rw[bj];simpa[mcs,Sm.mc] using D) a4 aq
    rotate_left
    focus
     have av:∀j u,[Value.string p,.string v][j]?=some u→((wr.alloc (.cells #[.string Dp,.string p,.string v,.string b] 329)).alloc (.cells #[.string p,.string v] 68)).cell? ((⟨wr.heap.size+1,0,none⟩:Addr).add j)=some u:=fun j u hj=>by
      have h:=cell_two_new (wr.alloc (.cells #[.string Dp,.string p,.string v,.string b] 329)) 68 (.string p) (.string v) j u hj;rw[az] at h;exact h
     go_wp2_with (at_builtin;refine bO _ rfl _ _ 55 rfl (E.heap.size+1) 68 i2 (.agg #[zE,zE]) 2 32 underlying55 HJ.out.1 HJ.out.2.1 HJ.out.2.2.1 HJ.out.2.2.2 rfl aA (.slice ad mX.length ak) mX.length (mcs mX) rfl (F.out.x.alloc _) ⟨wr.heap.size+1,0,none⟩ 1 1 [.string p,.string v] rfl rfl av ?_ ?_ ?_ ?_ ?_)
     all_goals first
      |(show ∀u∈[Value.string p,Value.string v],u.oneCell'=true;intro u hu;simp at hu;rcases hu with rfl|rfl<;>rfl)
      |(show mX.length+1≤maxLen;unfold maxLen;omega)
      |(show(mX.length+1)*32≤140737488355328;omega)
      |(show E.heap.size+1≤((wr.alloc _).alloc _).heap.size;simp;omega)
      |(show E.heap.size+1≤wr.heap.size+1+1;omega)
      |skip
     intro c6 w3 D O _ U;obtain⟨g',c',rfl⟩:=bo D ae;have a4:=((aj.refl _ _).alloc _).grown O (fun b _ e=>e)
     have aq:∀b',(Value.slice (some ⟨g',0,none⟩) (mX.length+1) c').ownBlock=some b'→(Value.slice ad mX.length ak).ownBlock=some b'∨(wr.alloc (.cells #[.string Dp,.string p,.string v,.string b] 329)).heap.size≤b':=fun b' e=>by
      rcases U with e2|e2
      ·exact Or.inl (by rw[←e2];exact e)
      ·right
       rw[e2] at e;have:wr.heap.size+1+1=b':=by simpa using e
       omega
     have a5:=(F.out.box.of_block (a4.block E.heap.size (by rw[az];omega) (fun e=>jh F.out.x e)));have ba:w3.cell? ⟨E.heap.size,2,none⟩=some (.slice ad mX.length ak):=a5.at' 2 ae;have bv:=a5.fr 2 ae
     have bh:Hid (Mq E E.heap.size (bE (L.take (k+1))).p (.slice a8 mR.length a9) (.slice (some ⟨g',0,none⟩) (mX.length+1) c') (.slice aa mS.length ab) (bE (L.take (k+1))).R (bE (L.take (k+1))).X (bE (L.take (k+1))).S (w3.setCell ⟨E.heap.size,2,none⟩ (.slice (some ⟨g',0,none⟩) (mX.length+1) c'))):=by
      show Mq _ _ _ _ _ _ _ _ _ _;rw[HN.out];exact Mq.exc (X':=mX++[(p,v)]) F.out (by rw[bj];simpa[mcs,Sm.mc] using D) a4 aq
    rotate_left
    focus
     have av:=fun j u hj=>by
      have h:=eC (wr.alloc (.cells #[.string FP,.string p,.string v,.string b] 329)) (.string p) (.string v) (.string b) 199 j u hj;rw[az] at h;exact h
     go_wp2_with (at_builtin;refine bO _ rfl _ _ 193 rfl (E.heap.size+1) 199 i3 (.agg #[zE,zE,zE]) 3 48 underlying193 b8.out.1 b8.out.2.1 b8.out.2.2.1 b8.out.2.2.2 rfl aA (.slice aa mS.length ab) mS.length (scs mS) rfl (F.out.s.alloc _) ⟨wr.heap.size+1,0,none⟩ 1 1 [.string p,.string v,.string b] rfl rfl av ?_ ?_ ?_ ?_ ?_)
     all_goals first
      |(show ∀u∈[Value.string p,Value.string v,Value.string b],u.oneCell'=true;intro u hu;simp at hu;rcases hu with rfl|rfl|rfl<;>rfl)
      |(show mS.length+1≤maxLen;unfold maxLen;omega)
      |(show(mS.length+1)*48≤140737488355328;omega)
      |(show E.heap.size+1≤((wr.alloc _).alloc _).heap.size;simp;omega)
      |(show E.heap.size+1≤wr.heap.size+1+1;omega)
      |skip
     intro c6 w3 D O _ U;obtain⟨g',c',rfl⟩:=bo D ae;have a4:=((aj.refl _ _).alloc _).grown O (fun b _ e=>e)
     have aq:∀b',(Value.slice (some ⟨g',0,none⟩) (mS.length+1) c').ownBlock=some b'→(Value.slice aa mS.length ab).ownBlock=some b'∨(wr.alloc (.cells #[.string FP,.string p,.string v,.string b] 329)).heap.size≤b':=fun b' e=>by
      rcases U with e2|e2
      ·exact Or.inl (by rw[←e2];exact e)
      ·right
       rw[e2] at e;have:wr.heap.size+1+1=b':=by simpa using e
       omega
     have a5:=(F.out.box.of_block (a4.block E.heap.size (by rw[az];omega) (fun e=>jh F.out.s e)));have ba:w3.cell? ⟨E.heap.size,3,none⟩=some (.slice aa mS.length ab):=a5.at' 3 ae;have bv:=a5.fr 3 ae
     have bh:Hid (Mq E E.heap.size (bE (L.take (k+1))).p (.slice a8 mR.length a9) (.slice ad mX.length ak) (.slice (some ⟨g',0,none⟩) (mS.length+1) c') (bE (L.take (k+1))).R (bE (L.take (k+1))).X (bE (L.take (k+1))).S (w3.setCell ⟨E.heap.size,3,none⟩ (.slice (some ⟨g',0,none⟩) (mS.length+1) c'))):=by
      show Mq _ _ _ _ _ _ _ _ _ _;rw[HN.out];exact Mq.rep (S':=mS++[(p,v,b)]) F.out (by rw[bj];simpa[scs,Sw.mc] using D) a4 aq
    rotate_left
    all_goals
     clear T F HN D O U a4 aq a5 av e0 e1 e2 e3 f0 f1 f2 f3;go_wp2;go_roundg (good.length-(k+1))
     case measure=>omega
     grind
   ·have fD:¬((k:Int)<(good.length:Int)):=ae
    have ch:L.take k=L:=cV ae;rw[ch] at T;have b6:=oQ L
    have bd:Hid (zB w wr∧wr.heap[w.heap.size]?=some (.cells zM 195)∧w.heap.size+2≤wr.heap.size):=by
     have hb:=b0.out;have h2:=T.out.b;exact⟨hb.1.trans (h2.mono hb.1.size),by rw[h2.block w.heap.size ae];exact hb.2.1,by have:=h2.size;omega⟩
    obtain⟨M,bk⟩:∃M,bE L=M:=⟨_,rfl⟩;rw[bk] at T b6;obtain⟨mp,mR,mX,mS⟩:=M;have b9:Hid (bE (good.map fun g=>cQ false g.2)=⟨mp,mR,mX,mS⟩):=by show _=_;rw[cb.out];exact bk
    simp only at T b6;clear bk;have ko:=zJ mp I Q J mR mX mS wr (HM.out.below bd.out.1) ae ae ae (AF T.out.r) (AF T.out.x) (Jv T.out.s);obtain⟨⟨e0,e1,e2,e3⟩,f0,f1,f2,f3⟩:=T.out.cells;obtain⟨a8,a9,rfl⟩:=aC T.out.r;obtain⟨ad,ak,rfl⟩:=aC T.out.x;obtain⟨aa,ab,rfl⟩:=aC T.out.s;clear T b0
    go_wp2_with (go_at_call 233;fail)
    go_at_call 233;refine ko.mono ?_;rintro e w4 ⟨db,dj,dc,rfl,o1,o2,o3,bm,c1⟩;obtain⟨_,_,_,ba⟩:=jL o1;obtain⟨_,_,_,cc⟩:=jL o2;obtain⟨_,_,_,cd⟩:=jL o3;subst ba cc cd
    have bc:Hid (zB w w4∧w4.heap[w.heap.size]?=some (.cells zM 195)):=by
     have hb:=bd.out;exact⟨hb.1.trans (bm.mono hb.1.size),by rw[bm.block w.heap.size ae];exact hb.2.1⟩
    have HW:=zH (fun a b c d=>oT bc.out.2 a b c d);obtain⟨⟨g0,g1,g2,g3⟩,k0,k1,k2,k3⟩:=Dr.cells4 bc.out.2;have bq:w.heap.size<wr.heap.size:=by have:=bd.out.2.2;omega
    have bs:=And.intro o1 (And.intro o2 o3);have bi:=zH bs;have c7:=zH c1;clear ko bm o1 o2 o3 bs c1 e0 e1 e2 e3 f0 f1 f2 f3;go_wp2;refine aL (results_cell_tmp results214 _ _ w.heap.size 195 _ (0,0) _ _ rfl rfl (HW.out _ _ _ _) underlying195 rfl aB) rfl ?_;exact⟨good,aG,m,q,_,_,_,_,_,rfl,HD.out.1,HD.out.2.1,HD.out.2.2.1,HD.out.2.2.2,gy bc.out.1 (ai _) _ _ _ _,Or.inr ⟨c8.out,rfl,by rw[b9.out],by rw[b9.out];exact cF (B:=wr.heap.size) (gR (B:=wr.heap.size) bi.out.1 bq _ _ _ _) ae,by rw[b9.out];exact cF (B:=wr.heap.size) (gR (B:=wr.heap.size) bi.out.2.1 bq _ _ _ _) ae,by rw[b9.out];exact cF (B:=wr.heap.size) (gR (B:=wr.heap.size) bi.out.2.2 bq _ _ _ _) ae,c7.out⟩⟩
end Mf
namespace Mf
variable{w w':zW}
def jA(s:zA):Tx.Got:=(Tx.bJ [] 1 [] false false 0 s.data.toList).foldl (Tx.bK false Pv.aK 20) qf
def bf(s:zA):List (Nat×Nat×Nat):=if s.size≤2000 then fN false (jA s).spoken (jA s).aG else [(0,0,1)]
def bB(s:zA):Mx:=if bf s=[] then bE ((jA s).good.map fun x=>cQ false (jC x).2) else ⟨⟨#[]⟩,[],[],[]⟩
structure Gf(base:Nat)(s:zA)(W:World)(p:zA)(I Q J lv:zV):Prop where
 pe:p=(bB s).p
 re:W.ownsRow base 68 2 I (bB s).R.length (mcs (reqs (bB s).R))
 xe:W.ownsRow base 68 2 Q (bB s).X.length (mcs (gu (bB s).X))
 se:W.ownsRow base 199 3 J (bB s).S.length (scs (fL (bB s).S))
 le:W.ownsRow base 273 3 lv (bf s).length (cy (bf s))
 ne:(bB s).R.length≤2001∧(bB s).X.length≤2001∧(bB s).S.length≤2001∧(bf s).length≤2001
theorem D7{m}{sl}(h:sl.length≤2001):(fN false m sl).length≤2001:=by
 unfold fN
 grind
theorem nD{s}{base}{W}{D}(f:bf s≠[])(F:(bf s).length≤2001)(E:W.ownsRow base 273 3 D (bf s) (cy (bf s))):Gf base s W ⟨#[]⟩ (zN) (zN) (zN) D:=by
 have e:bB s=_:=au f;refine⟨by rw[e],?_,?_,?_,E,?_⟩
 ·rw[e];exact bP _ _ _ _
 ·rw[e];exact bP _ _ _ _
 ·rw[e];exact bP _ _ _ _
 grind
theorem AG:Apart (zN) (zN) (zN):=fun b=>⟨fun e=>(by cases e),fun e=>(by cases e)⟩
theorem AH{s}(T:s.size≤2000){good}{f}{m q base}{W}{p}{I Q J}(F:jA s=⟨dr good,f,m,q⟩)(hg:good.length≤2001)(M:fN false m f=[])(hp:p=(bE (good.map fun g=>cQ false g.2)).p)
  (U:W.ownsRow base 68 2 I (bE (good.map fun g=>cQ false g.2)).R (mcs (reqs (bE (good.map fun g=>cQ false g.2)).R))) (E:W.ownsRow base 68 2 Q (bE (good.map fun g=>cQ false g.2)).X (mcs (gu (bE (good.map fun g=>cQ false g.2)).X))) (h3:W.ownsRow base 199 3 J (bE (good.map fun g=>cQ false g.2)).S (scs (fL (bE (good.map fun g=>cQ false g.2)).S))):
  Gf base s W p I Q J (zN):=by
 have D:bf s=[]:=by
  unfold bf;rw[ay T,F];exact M
 have e:bB s=bE (good.map fun g=>cQ false g.2):=by
  unfold bB;rw[ay D,F];show bE ((dr good).map fun x=>cQ false (jC x).2)=_
  congr 1
  have h:=xT good;have E:(dr good).map (fun x=>cQ false (jC x).2)=((dr good).map jC).map (fun g=>cQ false g.2):=by rw[ou];rfl
  rw[E,h]
 have O:=oQ (good.map fun g=>cQ false g.2);rw[dM] at O;refine⟨ax,ax,ax,ax,?_,?_⟩
 ·rw[D];exact bP _ _ _ _
 grind
theorem rh(s:zA)w(hs:2000<s.size):
  zC 214 #[s] w fun e w'=>∃F,e=.returned (.tuple #[.agg #[zE,zN,zN,zN],F])∧w'.ownsRow w 273 3 F 1 (cy [(0,0,1)])∧Below w w w':=by
 have O:∀(W:zW)(a:Addr),_=stored prog W a (.func (.func 231) #[] #[]) .plain:=fun W a=>run_store _ W a _ _ rfl
 have f:Hid (zB w ((w.alloc (.cells zM 195)).alloc (.cells #[.func (.func 231) #[] #[],qU,.int .i64 0,.int .i64 0,.map none,zN] 325))∧((w.alloc (.cells zM 195)).alloc (.cells #[.func (.func 231) #[] #[],qU,.int .i64 0,.int .i64 0,.map none,zN] 325)).heap[_]?=_∧((w.alloc (.cells zM 195)).alloc (.cells #[.func (.func 231) #[] #[],qU,.int .i64 0,.int .i64 0,.map none,zN] 325))=w.heap.size+2):=⟨((af _ _).alloc (ai _) _).alloc ah _,heap_alloc2_old _ _ _,ah⟩;have T:=fun W=>AB s (w+1) W hs
 go_enter func214,ntmps214
 go_wp2_with (go_at_call 232;fail)
 generalize (w.alloc (.cells zM 195)).alloc (.cells #[.func (.func 231) #[] #[],.string qU,.int .i64 0,.int .i64 0,.map none,zN] 325)=W1 at*;go_at_call 232;refine(T _).mono ?_;rintro e U ⟨F,rfl,D,M⟩;clear T O;have E:Hid (_∧U.heap[w.heap.size]?=some (.cells zM 195)):=⟨f.out.1.trans (M.mono f.out.1.size),by rw[M.block _ (by rw[f.out.2.2];omega)];exact f.out.2.1⟩;have HO:Hid (U.ownsRow (w+2) 273 3 F 1 (cy [(0,0,1)])):=by show World.ownsRow _ _ _ _ _ _ _;rw[←f.out.2.2];exact D
 obtain⟨la,lc,rfl⟩:=aC D;have HW:=zH (fun a b c d=>oT E.out.2 a b c d);obtain⟨⟨g0,g1,g2,g3⟩,f0,f1,f2,f3⟩:=Dr.cells4 E.out.2;clear D M f;go_wp2;refine aL (results_cell_tmp results214 _ _ _ 195 _ _ _ _ rfl rfl (HW.out _ _ _ _) underlying195 rfl aB) rfl ?_;exact⟨_,rfl,cF (gR HO.out ae _ _ _ _) ae,gy E.out.1 (ai _) _ _ _ _⟩
theorem sI(s:zA)w(hm:Ml w):
  zC 214 #[s] w fun e w'=>∃p I Q J f,e=.returned (.tuple #[.agg #[.string p,I,Q,J],f])∧Gf w s w' p I Q J f∧Below w w w'∧(Apart I Q J∧∀b,f.ownBlock=some b→I.ownBlock≠b∧Q.ownBlock≠b∧J.ownBlock≠b):=by
 by_cases F:s.size≤2000
 ·refine(sH s w F hm).mono ?_
  rintro e w' ⟨good,aG,m,q,p,I,Q,J,f,rfl,M,hg,T,U,E,hx⟩;rw[←Tx.qQ] at M;rcases hx with⟨a0,⟨rfl,rfl,rfl,rfl⟩,ho⟩|⟨hf,rfl,hp,h1,h2,h3,O⟩
  ·have D:bf s=fN false m aG:=by
    unfold bf;rw[ay F];have:jA s=_:=M;rw[this]
   refine⟨_,_,_,_,_,rfl,?_,E,AG,fun b _=>⟨fun e=>by (cases e),fun e=>by (cases e),fun e=>by (cases e)⟩⟩;refine nD ax (by rw[D];exact D7 U) ax
  ·exact⟨_,_,_,_,_,rfl,AH F M T hf hp h1 h2 h3,E,O,fun b e=>by cases e⟩
 ·refine(rh s w ae).mono ?_
  rintro e w' ⟨f,rfl,ho,E⟩;have D:bf s=_:=au F;exact⟨_,_,_,_,_,rfl,nD (by rw[D];simp) (by rw[D];simp) ax,E,AG,fun b _=>⟨fun e=>by (cases e),fun e=>by (cases e),fun e=>by (cases e)⟩⟩
theorem Gf.below{base}{s}{p}{I Q J D}(h:Gf base s w p I Q J D)(f:Below w w w'):Gf base s w' p I Q J D:=
 ⟨h.pe,own_below h.re f,own_below h.xe f,own_below h.se f,own_below h.le f,h.ne⟩
