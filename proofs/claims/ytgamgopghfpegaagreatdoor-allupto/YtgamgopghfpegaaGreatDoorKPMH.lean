import Derived.Test.YtgamgopghfpegaaGreatDoorKPMG
set_option linter.all false
open Go.Proofs.Tryz
set_option maxRecDepth 100000
set_option maxHeartbeats 4000000
namespace Go.Proofs.YtgamgopghfpegaaGreatDoor
open Go.RowKit
namespace Pn
theorem PZ v W : (method 518 294 v "pinset/plan.sameAs").run prog W = .ok (340, v) W := aB
theorem P0 v W : (method 518 297 v "pinset/plan.sameAs").run prog W = .ok (342, v) W := aB
theorem P3 v W : (method 518 299 v "pinset/plan.sameAs").run prog W = .ok (343, v) W := aB
theorem P4 v W : (method 518 149 v "pinset/plan.sameAs").run prog W = .ok (334, v) W := aB
theorem P5 v W : (method 518 152 v "pinset/plan.sameAs").run prog W = .ok (336, v) W := aB
end Pn
namespace Pn
open Mf Ed
variable{A z A2:Nat→Prop}{S:Nat→Shf}{w w' W V E wf:zW}{I J fb mb G:Nat}{cap:Int}{Q:List Int}{D Y:List Kp}{L:List (zV×zV)}{B O:Nat}{tv M:zV}{U j1:List Tie}{r:Nat}{q:Qn}{k:Kp}{Z:List Qn}{j0:List Int}
theorem Eng.less(h:Eng A2 S w I J fb mb G cap Q D L)(R:∀b,A b→A2 b)(f:A I∧A fb∧A J∧A mb):Eng A S w I J fb mb G cap Q D L:=by
 obtain⟨N,T,g2⟩:=h.desk.map;exact⟨⟨h.desk.f0,h.desk.f1,h.desk.f2,h.desk.cn,⟨N,T,g2.more (fun b _ e=>R b e)⟩,h.desk.ne,f.1,f.2.1⟩,h.shelf,h.on,h.inv,h.ml,h.len,fun b e=>h.hA b (R b e),⟨f.2.2.1,f.2.2.2⟩,h.ne,h.ok,h.rt⟩
theorem Eng.wide(h:Eng A S w I J fb mb G cap Q D L)(f:Below w w w')(P:Nat→Prop)(hP:∀b,P b→w≤b∧b<w'):Eng (fun b=>A b∨P b) S w' I J fb mb G cap Q D L:=by
 have he:=h.below f;obtain⟨N,R,T⟩:=h.desk.map
 have g3:ee (fun b=>A b∨P b) w N D:=T.more (fun b a0 e=>by
  grind)
 exact⟨⟨he.desk.f0,he.desk.f1,he.desk.f2,he.desk.cn,⟨N,R.of_block (f.block fb R.lt),g3.turn (aj.of_below f)⟩,he.desk.ne,Or.inl he.desk.hd,Or.inl he.desk.hf⟩,he.shelf,he.on,he.inv,he.ml,he.len,fun b e=>by
   rcases e with e|e
   ·exact he.hA b e
   grind,⟨Or.inl he.ns.1,Or.inl he.ns.2⟩,he.ne,he.ok,he.rt⟩
theorem Eng.count(h:Eng A S w I J fb mb G cap Q D L)j:Eng A S (w.setCell (I,3+j) ((wrap64 (Q[j]?.getD 0+1)))) I J fb mb G cap (bump Q j) D L:=by
 have f:=h.ne;have e:∀b,b≠I→(w.setCell (I,3+j) ((wrap64 (Q[j]?.getD 0+1)))).heap[b]?=_:=fun b R=>aM _ _ _ _ R
 have T:(w.setCell (I,3+j) ((wrap64 (Q[j]?.getD 0+1))))=w.heap.size:=by simp[World.setCell]
 obtain⟨m,hm⟩:=h.ml;refine⟨h.desk.bump j,h.shelf.of_block (e J (fun x=>f.1 x.symm)) (e mb (fun x=>f.2.1 x.symm)),h.on,h.inv,⟨m,?_⟩,by unfold bump;rw[List.length_set];exact h.len,fun b R=>by rw[T];exact h.hA b R,h.ns,h.ne,h.ok,h.rt⟩;rw[dW (a:=⟨0,0,none⟩) (e 0 (fun x=>f.2.2.2.2.1 x.symm))];exact hm
theorem SK(w:zW)f o2 R T:Below w w ((((w.alloc f).alloc o2).alloc R).alloc T)∧((((w.alloc f).alloc o2).alloc R).alloc T).heap[w.heap.size]?=f∧((((w.alloc f).alloc o2).alloc R).alloc T).heap[w.heap.size+1]?=o2∧((((w.alloc f).alloc o2).alloc R).alloc T).heap[w.heap.size+2]?=R∧((((w.alloc f).alloc o2).alloc R).alloc T).heap[w.heap.size+3]?=T:=by
 have b1:zB w (w.alloc f):=(af _ _).alloc (ai _) _;have b2:=b1.alloc b1.size o2;have b3:=b2.alloc b2.size R;have b4:=b3.alloc b3.size T;have s1:(w.alloc f)=w.heap.size+1:=ah;have s2:((w.alloc f).alloc o2)=w.heap.size+2:=ah;have s3:(((w.alloc f).alloc o2).alloc R)=w.heap.size+3:=ah;refine⟨b4,?_,?_,?_,?_⟩
 ·rw[aO _ _ _ ae,aO _ _ _ ae,aO _ _ _ ae];exact aI _ _
 ·rw[aO _ _ _ ae,aO _ _ _ ae,←s1];exact aI _ _
 ·rw[aO _ _ _ ae,←s2];exact aI _ _
 ·rw[←s3];exact aI _ _
theorem iC.iface{v:zV}:∀{f:Fi},iC A w v f→∃T u,v=.iface T u
 | .man _ _,⟨_,_,_,h,_⟩=>⟨_,_,h⟩
 | .idx _ _,⟨_,h,_⟩=>⟨_,_,h⟩
 | .wants _ _,⟨_,_,h,_⟩=>⟨_,_,h⟩
 | .list _ _,⟨_,_,h,_⟩=>⟨_,_,h⟩
 | .ord _ _,⟨_,_,h,_⟩=>⟨_,_,h⟩
def yf(S:Nat→Shf)(I J fb mb G:Nat)(cap:Int)(L:List (zV×zV))(F:Find)(g:Nat)(q:Qn):Prop:=
 ∀(A:Nat→Prop)(w:zW)(Q:List Int)(D:List Kp)(B O:Nat),D.length+10000*g≤N15→Tsk A S w B O I J fb mb G cap Q D L (zN) []→
  zC 187 #[.pointer (some ⟨O,0,none⟩),qv q] w fun e w'=>∃A2 M R f Y Z U,e=.returned R∧iC A2 w' R f∧Pre F (S G) D (eV q) Y (.ret f) U Z∧dT A S w B O I J fb mb G cap L (zN) w' A2 (counted Q Z) Y M U∧(mg f=q.kind∧Ct f∧Small f∧(∀t∈U,kD t)∧U.length≤10000)
def P6(A:Nat→Prop)(w:zW)(R:zV)(q:Qn):Option Kp→Prop
 |none=>R=.agg #[.nilIface,zN,.int .i64 0,.int .i64 0]
 |some k=>jI A w R k∧mg k.f=q.kind∧Small k.f
open Classical in
noncomputable def ft(G:Nat)(f:Fi):Option Kp→Nat
 |none=>G
 |some k=>if f.ess=k.f.ess then k.changed else G
theorem AX:∀l:List Tie,l.map sN=l.flatMap MQ
 |[]=>rfl
 |x::l=>by
  rw[eA,od,AX l];rfl
theorem P7{a b c d f R T d'}(h:Value.agg #[a,b,c,d]=.agg #[f,R,T,d']):a=f∧b=R∧c=T∧d=d':=by
 grind
open Classical in
noncomputable def kG(f:Fi):Option Kp→Bool
 |none=>false
 |some k=>decide (f.ess=k.f.ess)
def AFi(A:Nat→Prop)(w:zW)(a:zV)(f:Fi):Option Kp→Prop
 |none=>a=.nilIface
 |some k=>iC A w a k.f∧mg k.f=mg f
open Classical in
theorem P8{T:Nat}{fu a}{pr}{m}{o}(hf:iC A w (.iface T fu) (.man pr m))(ha:AFi A w a (.man pr m) o)(hs:Small (.man pr m)):T=294∧zC 340 #[fu,a] w fun e w'=>e=.returned ((kG (.man pr m) o))∧Below w w w':=by
 obtain⟨rv,xv,sv,e,h1,h2,h3⟩:=hf;injection e with e1 e2;subst e1;subst e2;refine⟨rfl,?_⟩;cases o with
 |none=>
  obtain rfl:=ha;obtain⟨ra,rc,rfl⟩:=h1.len;obtain⟨xa,xc,rfl⟩:=h2.len;obtain⟨sa,sc,rfl⟩:=h3.len;exact M3 pr m.p ra _ rc xa _ xc sa _ sc w
 |some k=>
  obtain⟨hk,hn⟩:=ha;cases hkf:k.f with
  |man a3 m'=>
   rw[hkf] at hk;obtain⟨a4,a6,a5,rfl,a0,a1,a2⟩:=hk;have key:=M1 pr a3 m.p m'.p rv a4 m.R m'.R xv a6 m.X m'.X sv a5 m.S m'.S w hs.1 hs.2.1 hs.2.2 h1 h2 h3 a0 a1 a2;refine key.mono ?_;rintro e w' ⟨rfl,hb⟩;refine⟨?_,hb⟩
   congr 2
   show _=decide (Fi.ess (.man pr m)=k.f.ess);rw[hkf];refine decide_eq_decide.2 ?_;obtain⟨p,R,X,S⟩:=m;obtain⟨p',R',X',S'⟩:=m';simp[Fi.ess]
  |_=>rw[hkf] at hn;simp[mg] at hn
open Classical in
theorem P9{T:Nat}{fu a}{R}{vs}{o}(hf:iC A w (.iface T fu) (.idx R vs))(ha:AFi A w a (.idx R vs) o)(hs:Small (.idx R vs)):T=297∧zC 342 #[fu,a] w fun e w'=>e=.returned ((kG (.idx R vs) o))∧Below w w w':=by
 obtain⟨u,e,h1⟩:=hf;injection e with e1 e2;subst e1;subst e2;refine⟨rfl,?_⟩;cases o with
 |none=>
  obtain rfl:=ha;obtain⟨ra,rc,rfl⟩:=h1.len;exact M5 R ra _ rc w
 |some k=>
  obtain⟨hk,hn⟩:=ha;cases hkf:k.f with
  |idx a1 a2=>
   rw[hkf] at hk;obtain⟨u',rfl,a0⟩:=hk;refine(M4 R a1 u u' vs a2 w hs h1 a0).mono ?_;rintro e w' ⟨rfl,hb⟩;refine⟨?_,hb⟩
   congr 2
   show _=decide (Fi.ess (.idx R vs)=k.f.ess);rw[hkf];exact decide_eq_decide.2 (by simp[Fi.ess])
  |_=>rw[hkf] at hn;simp[mg] at hn
open Classical in
theorem J4{T:Nat}{fu a}{R}{ps}{o}(hf:iC A w (.iface T fu) (.wants R ps))(ha:AFi A w a (.wants R ps) o)(hs:Small (.wants R ps)):T=299∧zC 343 #[fu,a] w fun e w'=>e=.returned ((kG (.wants R ps) o))∧Below w w w':=by
 obtain⟨u,v,e,h1,h2⟩:=hf;injection e with e1 e2;subst e1;subst e2;refine⟨rfl,?_⟩;cases o with
 |none=>
  obtain rfl:=ha;obtain⟨ra,rc,rfl⟩:=h1.len;obtain⟨xa,xc,rfl⟩:=h2.len;exact Gp ra _ rc xa _ xc w
 |some k=>
  obtain⟨hk,hn⟩:=ha;cases hkf:k.f with
  |wants a2 a3=>
   rw[hkf] at hk;obtain⟨u',v',rfl,a0,a1⟩:=hk;refine(Gk u u' R a2 v v' ps a3 w hs.1 hs.2 h1 h2 a0 a1).mono ?_;rintro e w' ⟨rfl,hb⟩;refine⟨?_,hb⟩
   congr 2
   show _=decide (Fi.ess (.wants R ps)=k.f.ess);rw[hkf];exact decide_eq_decide.2 (by simp[Fi.ess])
  |_=>rw[hkf] at hn;simp[mg] at hn
open Classical in
theorem Nc{T:Nat}{fu a}{R}{ps}{o}(hf:iC A w (.iface T fu) (.list R ps))(ha:AFi A w a (.list R ps) o)(hs:Small (.list R ps)):T=149∧zC 334 #[fu,a] w fun e w'=>e=.returned ((kG (.list R ps) o))∧Below w w w':=by
 obtain⟨u,v,e,h1,h2⟩:=hf;injection e with e1 e2;subst e1;subst e2;refine⟨rfl,?_⟩;cases o with
 |none=>
  obtain rfl:=ha;obtain⟨ra,rc,rfl⟩:=h1.len;obtain⟨xa,xc,rfl⟩:=h2.len;exact JQ ra _ rc xa _ xc w
 |some k=>
  obtain⟨hk,hn⟩:=ha;cases hkf:k.f with
  |list a3 a4=>
   rw[hkf] at hk;obtain⟨u',v',rfl,a0,a1⟩:=hk;obtain⟨xa,xc,hx⟩:=h2.len;obtain⟨a5,a6,a2⟩:=a1.len;refine(JO u u' R a3 v v' w hs.1 h1 a0 ⟨_,_,_,hx⟩ ⟨_,_,_,a2⟩).mono ?_;rintro e w' ⟨rfl,hb⟩;refine⟨?_,hb⟩
   congr 2
   show _=decide (Fi.ess (.list R ps)=k.f.ess);rw[hkf];exact decide_eq_decide.2 (by simp[Fi.ess])
  |_=>rw[hkf] at hn;simp[mg] at hn
open Classical in
theorem Qa{T:Nat}{fu a}{R}{ps}{o}(hf:iC A w (.iface T fu) (.ord R ps))(ha:AFi A w a (.ord R ps) o)(hs:Small (.ord R ps)):T=152∧zC 336 #[fu,a] w fun e w'=>e=.returned ((kG (.ord R ps) o))∧Below w w w':=by
 obtain⟨u,v,e,h1,h2⟩:=hf;injection e with e1 e2;subst e1;subst e2;refine⟨rfl,?_⟩;cases o with
 |none=>
  obtain rfl:=ha;obtain⟨ra,rc,rfl⟩:=h1.len;obtain⟨xa,xc,rfl⟩:=h2.len;exact M7 ra _ rc xa _ xc w
 |some k=>
  obtain⟨hk,hn⟩:=ha;cases hkf:k.f with
  |ord a2 a3=>
   rw[hkf] at hk;obtain⟨u',v',rfl,a0,a1⟩:=hk;refine(M6 u u' R a2 v v' ps a3 w hs.1 hs.2 h1 h2 a0 a1).mono ?_;rintro e w' ⟨rfl,hb⟩;refine⟨?_,hb⟩
   congr 2
   show _=decide (Fi.ess (.ord R ps)=k.f.ess);rw[hkf];exact decide_eq_decide.2 (by simp[Fi.ess])
  |_=>rw[hkf] at hn;simp[mg] at hn
theorem sX{F}{g}(hW:yf S I J fb mb G cap L F g q)(hD:D+10000*g≤N15)av o w(h:Eng A S w I J fb mb G cap Q D L)(ha:P6 A w av q o):
  zC 162 #[.pointer (some (I,0)),qv q,av] w fun e w'=>∃fv az f U Y Z,e=.returned (.agg #[fv,az,(ft G f o:Nat),.int .i64 0])∧iC A w' fv f∧RdA A MQ w' az U∧Pre F (S G) D (eV q) Y (.ret f) U Z∧Eng A S w' I J fb mb G cap (counted Q (Z++[q])) Y L∧aj (fun b=>b=I∨b=fb) w w'∧(mg f=q.kind∧Ct f∧Small f∧(∀t∈U,kD t)∧U.length≤10000):=by
 obtain⟨ad,b1,ak,b2,rfl⟩:∃a b c d,av=.agg #[a,b,c,d]:=by
  cases o with
  |none=>exact⟨_,_,_,_,ha⟩
  |some k=>obtain⟨⟨fv,tv,e,_⟩,_⟩:=ha;exact⟨_,_,_,_,e⟩
 obtain⟨qk,qp,qw⟩:=q;show zC 162 #[.pointer (some ⟨I,0,none⟩),.agg #[.int .i64 (qk:Nat),.string qp,.string qw],.agg #[ad,b1,ak,b2]] w _;have HE:=zH h;have ca:=zH ha;have bn:=SK w (.cells #[qk,qp,qw] 128) (.cells #[ad,b1,ak,b2] 169) (.cells #[.nilIface,zN,.int .i64 0,.int .i64 0] 169) (.cells #[.pointer (some (I,0)),zN] 147)
 have HP:Hid (∀b,b=w.heap.size+2∨b=w+3→w≤b∧b<((((w.alloc (.cells #[qk,qp,qw] 128)).alloc (.cells #[ad,b1,ak,b2] 169)).alloc (.cells #[.nilIface,zN,.int .i64 0,.int .i64 0] 169)).alloc (.cells #[.pointer (some (I,0)),zN] 147))):=fun b e=>by
  simp;omega
 have c6:=h.wide bn.1 _ HP.out;have T:=zH bn;clear bn;have hF:=fd2 T.out.2.2.2.2
 have c7:Tsk _ S _ _ _ I J fb mb G cap Q D L _ []:=
  ⟨c6,⟨hF.1,hF.2,bP ..,by simp[Value.ownBlock],ae⟩,fun b e=>by
   rcases e with e|e
   ·omega
   ·simp[Value.ownBlock] at e,⟨h.hA _ h.desk.hd,h.hA _ h.desk.hf,h.hA _ h.ns.1,h.hA _ h.ns.2,by have:=h.hA _ h.desk.hd;omega⟩,T.out.1.size⟩
 have kw:=hW _ _ _ _ _ _ hD c7;clear h ha c6 hF c7 hW hD;go_enter func162,ntmps162
 go_wp2_with (go_at_call 187;fail)
 rw[show _=w.heap.size+3 from rfl,show _=w.heap.size+2 from rfl];generalize (((w.alloc (.cells #[.int .i64 (qk:Nat),.string qp,.string qw] 128)).alloc (.cells #[ad,b1,ak,b2] 169)).alloc (.cells #[.nilIface,zN,.int .i64 0,.int .i64 0] 169)).alloc (.cells #[.pointer (some ⟨I,0,none⟩),zN] 147)=V at*;go_at_call 187;refine kw.mono ?_;rintro e E ⟨A2,M,fv,f,Y,Z,U,rfl,bm,b7,aq,c8⟩
 have HS:Hid (∀b,_→w.heap.size≤b→b≠w+3→_):=fun b hb da db=>aq.f.block b hb (fun e=>by
  have h1:=HE.out.hA _ HE.out.desk.hd;have h2:=HE.out.hA _ HE.out.desk.hf;rcases e with e|e|e|e
  ·omega
  ·omega
  ·omega
  ·simp[Value.ownBlock] at e)
 have bi:Hid (_=V.heap.size∧_):=⟨rfl,ag T.out.2.2.2.2⟩;have b9:=zH ((HS.out _ (by have:=bi.out.2;omega) ae ae).trans T.out.2.2.1);have bc:=zH ((HS.out _ (by have:=bi.out.2;omega) ae ae).trans T.out.2.2.2.1);have R:=zH aq;have HO:Hid (_∧_):=⟨b7,c8⟩;have bt:=zH bm;have kc:=M0 E aq.t.eng.desk bm aq.t.eng.len;clear aq b7 c8 bm HS kw
 go_wp2_with (go_at_call 188;fail)
 go_at_call 188;refine kc.mono ?_;rintro e w3 ⟨rfl,bq⟩;have b0:Hid (Eng A2 S w3 I J fb mb G cap (bump (counted Q Z) (mg f)) Y L):=by rw[bq];exact R.out.t.eng.count _
 have a6:Hid (aj (fun b=>b=I) E w3):=by rw[bq];exact(aj.refl (fun b=>b=I) E).set (fun _=>rfl) _
 clear bq kc;have c0:Hid (∀b,w.heap.size≤b→b≠I):=fun b hb e=>by have:=HE.out.hA _ HE.out.desk.hd;omega
 have aa:=zH (bt.out.turn (a6.out.mono (fun b _ e=>by rw[e];exact b0.out.desk.hd)));have a5:=zH (R.out.t.task.turn a6.out (fun b e=>by rw[e];exact HE.out.hA _ HE.out.desk.hd));have bs:=zH ((a6.out.block _ (ag b9.out) (c0.out _ ae)).trans b9.out);have bd:=zH ((a6.out.block _ (ag bc.out) (c0.out _ ae)).trans bc.out);clear b9 bc bt;have kr:=fun W hb=>uw W (b0.out.shelf.below hb)
 have ab:Hid (∀W,zB w3 W→_∧_):=fun W hb=>⟨(a5.out.below hb).t1.1,(b0.out.desk.below hb).f0.1⟩
 obtain⟨p0,p1⟩:=ab.out _ (af _ _);obtain⟨ta,tc,ct⟩:=aC a5.out.row;subst ct;obtain⟨fT,fu,cp⟩:=aa.out.iface;subst cp;go_upto_region 4 with fail
 go_cut [9] (fun xp wx=>∃xb,xp=.pointer (some ⟨xb,0,none⟩)∧Hid (zB w3 wx∧w3.heap.size≤xb∧wx.heap[xb]?=some (.cells #[.iface fT fu,.slice ta U.length tc,.int .i64 (G:Nat),.int .i64 0] 169)))
 case first=>
  go_region_held3 (fun w'=>w'.cell? ⟨w+3,1,none⟩=some (.slice ta U tc)∧w'.cell? (I,0)=some (.pointer (some (J,0))))
  (first|exact⟨p0,p1⟩|exact ab.out _ ((af _ _).drew)|exact ab.out _ (aD ((af _ _).drew) _)|exact ab.out _ (aD (af _ _) _))
  (first|(go_at_call 41;refine(kr _ ((af _ _).drew)).mono ?_;rintro e w4 ⟨rfl,rfl⟩)|(go_at_call 41;refine(kr _ (aD ((af _ _).drew) _)).mono ?_;rintro e w4 ⟨rfl,rfl⟩))
  all_goals
   go_wp2_with fail
   go_meet
   first
    |exact⟨_,rfl,aD (af _ _) _,ai _,aI _ _⟩
    |exact⟨_,rfl,aD ((af _ _).drew) _,ai _,aI _ _⟩
    |exact⟨_,rfl,(aD (af _ _) _).drew,ai _,aI _ _⟩
 case rest=>
  obtain⟨xb,h9,HC⟩:=hcut;rw[h9];clear h9 p0 p1 ab kr;obtain⟨wo,cv⟩:∃wo,wo=wc:=⟨_,rfl⟩;subst cv;have ba:=zH ((HC.out.1.block _ (ag bs.out)).trans bs.out);have c2:=zH ((HC.out.1.block _ (ag bd.out)).trans bd.out);obtain⟨⟨a0,_⟩,⟨a1,_⟩,⟨a2,_⟩,⟨a3,_⟩⟩:=fd4 ba.out
  have cf:Hid (aj (fun b=>A2 b) w wo):=by
   have t1:aj (fun b=>A2 b) w V:=aj.of_below T.out.1
   have t2:aj (fun b=>A2 b) V E:=R.out.f.mono (fun b _ e=>by
    rcases e with e|e|e|e
    ·rw[e];exact R.out.t.eng.desk.hd
    ·rw[e];exact R.out.t.eng.desk.hf
    ·rw[e];exact R.out.sub _ (Or.inr (Or.inr rfl))
    ·simp[Value.ownBlock] at e)
   have t3:aj (fun b=>A2 b) E w3:=a6.out.mono (fun b _ e=>by rw[e];exact R.out.t.eng.desk.hd);exact((t1.trans t2 (fun _ _ e=>e) (fun _ _ e=>e)).trans t3 (fun _ _ e=>e) (fun _ _ e=>e)).trans (aj.of_below HC.out.1) (fun _ _ e=>e) (fun _ _ e=>e)
  have cc:Hid (∀b,b<w.heap.size→A2 b→A b):=fun b hb e=>by
   rcases R.out.new b e with(e|e)|e
   ·exact e
   ·omega
   ·have:=T.out.1.size;omega
  have a7:Hid (AFi A2 wo ad f o∧∀k0,o=some k0→ak=k0.changed):=by
   have h1:=ca.out;cases o with
   |none=>exact⟨(P7 h1).1,fun k0 e=>by cases e⟩
   |some k0=>
    obtain⟨⟨cx,dn,ck,cn,_⟩,cq,_⟩:=h1;obtain⟨e1,_,e2,_⟩:=P7 ck;refine⟨⟨?_,cq.trans HO.out.2.1.symm⟩,fun k1 e=>ax⟩;rw[e1];exact(cn.more cc.out).turn cf.out
  have a9:=zH (aa.out.turn (aj.of_below HC.out.1));go_upto_region 5 with fail
  go_cut [29] (fun bv wx=>bv=.bool (kG f o)∧Hid (zB wo wx))
  case first=>
   have an:=HO.out.2.2.2.1;cases f with
   |man pr m=>
    obtain⟨rfl,ks⟩:=P8 a9.out a7.out.1 an;have hm:=PZ fu wo;have hc:∀(args:Array zV)(w:zW),(callFunc 340 args).run prog w=.ok (.enter 340 args) w:=fun _ _=>aB
    generalize kG (.man pr m) o=b4 at*
    go_wp2_with ((go_at_call 340;refine ks.mono ?_;rintro e w6 ⟨rfl,a4⟩))
    go_meet
    exact⟨rfl,a4⟩
   |idx pr vs=>
    obtain⟨rfl,ks⟩:=P9 a9.out a7.out.1 an;have hm:=P0 fu wo;have hc:∀(args:Array zV)(w:zW),(callFunc 342 args).run prog w=.ok (.enter 342 args) w:=fun _ _=>aB
    generalize kG (.idx pr vs) o=b4 at*
    go_wp2_with ((go_at_call 342;refine ks.mono ?_;rintro e w6 ⟨rfl,a4⟩))
    go_meet
    exact⟨rfl,a4⟩
   |wants ms ps=>
    obtain⟨rfl,ks⟩:=J4 a9.out a7.out.1 an;have hm:=P3 fu wo;have hc:∀(args:Array zV)(w:zW),(callFunc 343 args).run prog w=.ok (.enter 343 args) w:=fun _ _=>aB
    generalize kG (.wants ms ps) o=b4 at*
    go_wp2_with ((go_at_call 343;refine ks.mono ?_;rintro e w6 ⟨rfl,a4⟩))
    go_meet
    exact⟨rfl,a4⟩
   |list ms ps=>
    obtain⟨rfl,ks⟩:=Nc a9.out a7.out.1 an;have hm:=P4 fu wo;have hc:∀(args:Array zV)(w:zW),(callFunc 334 args).run prog w=.ok (.enter 334 args) w:=fun _ _=>aB
    generalize kG (.list ms ps) o=b4 at*
    go_wp2_with ((go_at_call 334;refine ks.mono ?_;rintro e w6 ⟨rfl,a4⟩))
    go_meet
    exact⟨rfl,a4⟩
   |ord ns ps=>
    obtain⟨rfl,ks⟩:=Qa a9.out a7.out.1 an;have hm:=P5 fu wo;have hc:∀(args:Array zV)(w:zW),(callFunc 336 args).run prog w=.ok (.enter 336 args) w:=fun _ _=>aB
    generalize kG (.ord ns ps) o=b4 at*
    go_wp2_with ((go_at_call 336;refine ks.mono ?_;rintro e w6 ⟨rfl,a4⟩))
    go_meet
    exact⟨rfl,a4⟩
  case rest=>
   obtain⟨c4,HD⟩:=hcut;rw[c4];clear c4 a0 a1 a2 a3;have a8:=zH (HC.out.1.trans (HD.out.mono HC.out.1.size));have c9:=zH ((HD.out.block _ (ag ba.out)).trans ba.out);have bh:=zH ((HD.out.block _ (ag c2.out)).trans c2.out);have bk:=zH ((HD.out.block _ (ag HC.out.2.2)).trans HC.out.2.2)
   have cj:Hid (xb≠w+1∧xb≠w+2):=by
    have h1:=HC.out.2.1;have h2:=ag bd.out;exact⟨ae,ae⟩
   have cb:=zH a7.out.2
   have b8:Hid (∀Wf,aj (fun b=>b=xb∨b=w+2) wc Wf→iC A Wf (.iface fT fu) f∧RdA A MQ Wf (.slice ta U tc) U∧Eng A S Wf I J fb mb G cap (counted Q (Z++[⟨qk,qp,qw⟩])) Y L∧aj (fun b=>b=I∨b=fb) w Wf):=fun Wf b3=>by
    have hx:=HC.out.2.1
    have dj:w≤w3.heap.size:=by
     have h2:=T.out.1.size;have h3:=a6.out.size;have h4:=R.out.f.size;omega
    have c5:∀b,A b→(A2 b∨b=xb):=fun b e=>Or.inl (R.out.sub b (Or.inl e))
    have hp:∀b,(b=xb∨b=w+2)→(A2 b∨b=xb):=fun b e=>by
     rcases e with e|e
     ·exact Or.inr e
     ·rw[e];exact Or.inl (R.out.sub _ (Or.inr (Or.inl rfl)))
    have hz:=a8.out.size;have dk:=ag bk.out;have dc:=R.out.t.lt;refine⟨?_,?_,?_,?_⟩
    ·have g1:iC (fun b=>A2 b∨b=xb) w3 _ f:=aa.out.more (fun b hb e=>by
      grind)
     have g2:=g1.turn (aj.of_below a8.out);have g3:=g2.turn (b3.mono (fun b _ e=>hp b e));exact g3.more (fun b _ e=>c5 b e)
    ·refine RdA.own (s:=1) (e:=264) (xs:=U.map sN) ?_ ?_ (fun _=>rfl) HE.out.hA
     ·refine ar (own_below a5.out.row a8.out) (fun b e=>b3.block b ?_ ?_)
      ·have:=(a5.out.row.lt b e).2;omega
      ·intro e2
       have h1:=(a5.out.row.lt b e).2;rcases e2 with e2|e2
       ·omega
       ·rcases R.out.own b e with h2|h2
        ·simp[Value.ownBlock] at h2
        ·have:=bi.out.2;omega
     ·exact AX U
    ·have g1:=b0.out.wide a8.out (fun b=>b=xb) (fun b e=>ae)
     have g2:=g1.turn b3 (fun b _ e=>hp b e) (by
      omega)
     have g3:=g2.less c5 ⟨HE.out.desk.hd,HE.out.desk.hf,HE.out.ns.1,HE.out.ns.2⟩
     have e1:counted Q (Z++[⟨qk,qp,qw⟩])=bump (counted Q Z) (mg f):=by
      unfold counted;rw[qK,HO.out.2.1];rfl
     grind
    ·have t1:aj (fun b=>b=I∨b=fb) w V:=aj.of_below T.out.1
     have t2:=t1.trans R.out.f (fun _ _ e=>e) (fun b hb e=>by
      rcases e with e|e|e|e
      ·exact Or.inl e
      ·exact Or.inr e
      ·omega
      ·simp[Value.ownBlock] at e)
     have t3:=t2.trans a6.out (fun _ _ e=>e) (fun b _ e=>Or.inl e);have t4:=t3.more a8.out
     exact t4.trans b3 (fun _ _ e=>e) (fun b hb e=>by
      omega)
   obtain⟨⟨x0,_⟩,⟨x1,_⟩,⟨x2,y2⟩,⟨x3,_⟩⟩:=fd4 bk.out;obtain⟨⟨r0,f0⟩,⟨r1,f1⟩,⟨r2,f2⟩,⟨r3,f3⟩⟩:=fd4 bh.out;obtain⟨⟨a0,_⟩,⟨a1,_⟩,⟨a2,_⟩,⟨a3,_⟩⟩:=fd4 c9.out
   have b6:Hid (∀Wf c,aj (fun b=>b=xb∨b=w+2) wc Wf→c=ft G f o→∃fv az f1 b5 D1 c3,Ending.returned (.agg #[.iface fT fu,.slice ta U tc,c,.int .i64 0])=Ending.returned (.agg #[fv,az,(ft G f1 o),.int .i64 0])∧iC A Wf fv f1∧RdA A MQ Wf az b5∧Pre F (S G) D (eV ⟨qk,qp,qw⟩) D1 (.ret f1) b5 c3∧Eng A S Wf I J fb mb G cap (counted Q (c3++[⟨qk,qp,qw⟩])) D1 L∧aj (fun b=>b=I∨b=fb) w Wf∧(mg f1=qk∧Ct f1∧Small f1∧(∀t∈b5,kD t)∧b5.length≤10000)):=fun Wf c ht hc=>by
    have C:=b8.out Wf ht;exact⟨_,_,f,U,Y,Z,by rw[hc],C.1,C.2.1,HO.out.1,C.2.2.1,C.2.2.2,HO.out.2⟩
   cases hsb:kG f o with
   |false=>
    have bb:Hid (G=ft G f o):=by
     show G=ft G f o;cases o with
     |none=>rfl
     |some k0=>
      have cs:¬f.ess=k0.f.ess:=fun e=>by simp[kG,e] at hsb
      unfold ft;exact(au cs).symm
    clear hsb b8;go_wp2;refine aL (bz results162 _ _ _ 169 _ _ _ rfl (lN bh.out _ _ _ _) underlying169 rfl aB) rfl ?_;exact b6.out _ G ((((((aj.refl _ wc).set (fun _=>Or.inr rfl) _).set (fun _=>Or.inr rfl) _).set (fun _=>Or.inr rfl) _).set (fun _=>Or.inr rfl) _)) bb.out
   |true=>
    cases o with
    |none=>simp[kG] at hsb
    |some k0=>
     have cm:=cb.out k0 rfl;subst cm
     have bb:Hid (k0.changed=ft G f (k0)):=by
      show k0.changed=ft G f (some k0);have he:f.ess=k0.f.ess:=by simpa[kG] using hsb
      unfold ft;exact(ay he).symm
     clear hsb b8;go_upto_region 7 with fail;have ch:Hid ((wc.setCell _ _).heap[xb]?=some (.cells #[_,_,k0.changed,_] 169)):=bl _ _ 2 _ _ _ bk.out;have c1:Hid ((wc.setCell (xb,2) (k0.changed)).heap[_]?=_):=(aM _ _ _ _ (fun e=>cj.out.2 e.symm)).trans bh.out;have cd:Hid (aj _ wc (wc.setCell _ (k0.changed))):=(aj.refl (fun b=>b=xb∨b=w+2) wc).set (a:=(xb,2)) (fun _=>Or.inl rfl) _;clear x0 x1 x2 y2 x3 r0 f0 r1 f1 r2 f2 r3 f3 a0 a1 a2 a3;generalize wc.setCell ⟨xb,2,none⟩ (.int .i64 (k0.changed:Nat))=W6 at*;obtain⟨⟨x0,_⟩,⟨x1,_⟩,⟨x2,_⟩,⟨x3,_⟩⟩:=fd4 ch.out;obtain⟨⟨r0,f0⟩,⟨r1,f1⟩,⟨r2,f2⟩,⟨r3,f3⟩⟩:=fd4 c1.out;go_wp2;refine aL (bz results162 _ _ _ 169 _ _ _ rfl (lN c1.out _ _ _ _) underlying169 rfl aB) rfl ?_;exact b6.out _ _ ((((cd.out.set (fun _=>Or.inr rfl) _).set (fun _=>Or.inr rfl) _).set (fun _=>Or.inr rfl) _).set (fun _=>Or.inr rfl) _) bb.out
end Pn
namespace Pn
open Mf Ed
variable{A z A2:Nat→Prop}{S:Nat→Shf}{w w' W V E wf:zW}{I J fb mb G:Nat}{cap:Int}{Q:List Int}{D Y:List Kp}{L:List (zV×zV)}{r:Nat}{q:Qn}{k:Kp}{Z:List Qn}
theorem J5 a b c d W:(Instr.field 169 (.agg #[a,b,c,d]) 2).run prog W=.ok c W:=aB
theorem fy Q a b:counted (counted Q a) b=counted Q (a++b):=by
 unfold counted;simp
def Gt(S:Nat→Shf)(I J fb mb G:Nat)(cap:Int)(L:List (zV×zV))(F:Find)(g:Nat)(P:Qn→Prop):Prop:=
 ∀(A:Nat→Prop)(q:Qn)(w:zW)(Q:List Int)(D:List Kp),P q→q.kind≤4→QOk q→D.length+g≤N15→Eng A S w I J fb mb G cap Q D L→
  zC 135 #[.pointer (some ⟨I,0,none⟩),qv q] w fun e w'=>∃v k Y Z,e=.returned v∧jI A w' v k∧F D q k Y Z∧Eng A S w' I J fb mb G cap (counted Q Z) Y L∧aj (fun b=>b=I∨b=fb) w w'
theorem Er:Gt S I J fb mb G cap L (fun _ _ _ _ _=>False) 0 (fun _=>False):=fun _ _ _ _ _ h=>h.elim
variable{F:Find}{P:Qn→Prop}{g:Nat}
structure Hd(A:Nat→Prop)(S:Nat→Shf)(w:World)(I J fb mb G:Nat)(cap:Int)(Q:List Int)(D:List Kp)(L:List (zV×zV))(F:Find)(k:Kp)(bx:Nat)(cells:Array zV)(wr:World)(i:Nat)(Y:List Kp)(Z:List Qn):Prop where
 e:Eng A S wr I J fb mb G cap (counted Q Z) Y L
 t:aj (fun b=>b=I∨b=fb) w wr
 c:Chk F (S G) k.checked D (k.ties.take i) Y Z
 b:wr.heap[bx]?=some (.cells cells 169)
theorem J6(hF:Gt S I J fb mb G cap L F g P)(bh:Adds g F)(hD:D+10000*g≤N15)kv w(h:Eng A S w I J fb mb G cap Q D L)(hk:jI A w kv k)(az:KOk k)(lV:∀q,Tie.ask q∈k.ties→P q∧q.kind≤4):
  zC 161 #[.pointer (some (I,0)),kv] w fun e w'=>∃b Y Z,e=.returned (.bool b)∧uK F (S G) k.checked D k.ties Y Z b∧Eng A S w' I J fb mb G cap (counted Q Z) Y L∧aj (fun b=>b=I∨b=fb) w w':=by
 obtain⟨fv,tv,rfl,bm,b2⟩:=hk;obtain⟨fT,fu,rfl⟩:=bm.iface;obtain⟨ta,tc,e1⟩:=b2.len;subst e1;have hn:=az.n;have an:Hid (_∧_):=⟨az,lV⟩;have bs:=zH b2;have HE:=zH h;have HF:=zH hF;have b4:Hid (_∧_):=⟨bh,hD⟩;clear bm b2 h hF az lV bh hD;have b5:Hid (zB w (w.alloc (.cells #[.iface fT fu,.slice ta k.ties tc,k.changed,k.checked] 169))):=(af _ _).alloc (ai _) _;have ab:Hid (Hd A S w I J fb mb G cap Q D L F k _ _ _ 0 D []):=⟨HE.out.below b5.out,aj.of_below b5.out,Chk.start,aI _ _⟩;have bv:Hid (_=w.alloc (.cells #[.iface fT fu,.slice ta k.ties tc,k.changed,k.checked] 169)):=rfl;obtain⟨_,⟨b1,_⟩,_,⟨b3,_⟩⟩:=fd4 ab.out.b;go_enter func161,ntmps161;go_wp2
 go_step3
 go_wp2
 go_step3
 go_wp2;clear bv;generalize w.alloc _=V at*;generalize hm:k.ties.length=n at*;go_loopg [5,13] n (fun gg hv iv wr=>∃(i:Nat)(Y:List Kp)(Z:List Qn),i≤n∧n-i≤gg∧hv=.int .i64 i∧iv=.int .i64 i∧Hid (Hd A S w I J fb mb G cap Q D L F k w.heap.size #[.iface fT fu,.slice ta n tc,.int .i64 (k.changed:Nat),.int .i64 (k.checked:Nat)] wr i Y Z))
 case atStart=>exact⟨0,D,[],ae,ae,rfl,rfl,ab⟩
 case round=>
  obtain⟨i,Y,Z,hi,hg,rfl,rfl,f⟩:=hrel;clear ab;by_cases cf:i<n
  ·have fD:i<(n:Int):=ae
   have bt:=zH (bs.out.turn (f.out.t.mono (fun b _ e=>by
    rcases e with e|e
    ·rw[e];exact HE.out.desk.hd
    ·rw[e];exact HE.out.desk.hf)))
   have a4:i<k.ties:=ae;have a2:Hid (k.ties.take (i+1)=k.ties.take i++[k.ties[i]]∧k.ties=k.ties.take i++k.ties[i]::k.ties.drop (i+1)∧_∧_):=⟨ah,ah,an.out.1.t _ (dH a4),dH a4⟩;obtain⟨b,o,c,eg,hx⟩:=RdA.at bt.out (s:=1) (fun _=>rfl) aA (af _ _) i a4;rw[hm] at eg;injection eg with c0 c2 c3;clear c2;subst c0;subst c3;have y0:wr.cell? (b,o+i)=(sN k.ties[i]):=by have:=hx 0 _ rfl;simpa using this
   clear hx;generalize k.ties[i]=cb at*;have av:=zH (ag f.out.b);have ad:Hid (_∧_):=⟨HE.out.hA _ HE.out.desk.hd,HE.out.hA _ HE.out.desk.hf⟩;cases cb with
   |ask q=>
    obtain⟨qk,qp,qw⟩:=q;have y1:wr.cell? _=some (.iface 128 (.agg #[qk,qp,qw])):=y0;have b0:=Sr (.agg #[qk,qp,qw]) wr;have c9:=Uj (.agg #[qk,qp,qw]) wr;have a6:Hid ((wr.alloc (.cells #[qk,qp,qw] 128)).heap[_]?=_):=aI _ _;have T:Hid (zB wr (wr.alloc (.cells #[qk,qp,qw] 128))):=(af _ _).alloc (ai _) _;have a0:=zH ((T.out.block _ av.out).trans f.out.b);have a5:=zH (f.out.e.below T.out);clear y0;go_upto_region 11 with fail;clear y1 b0 c9;generalize wr.alloc _=Wa at*
    have bn:Hid (Y+g≤N15):=by
     have h1:=wH b4.out.1 f.out.c;have h2:=b4.out.2;rw[jy,Nat.min_eq_left ae] at h1;have h3:(i+1)*g≤10000*g:=dD g ae;rw[dR] at h3;show Y.length+g≤N15;omega
    have KF:Hid (∀W,_→Calls _ 135 #[_,.agg #[qk,qp,qw]] W fun e w'=>∃v kk D2 W2,e=.returned v∧jI A w' v kk∧F Y ⟨qk,qp,qw⟩ kk D2 W2∧Eng A S w' I J fb mb G cap (counted (counted Q Z) W2) D2 L∧aj (fun b=>b=I∨b=fb) Wa w'):=fun W hb=>(HF.out A _ W _ Y (an.out.2 _ a2.out.2.2.2).1 (an.out.2 _ a2.out.2.2.2).2 a2.out.2.2.1 bn.out (a5.out.below hb)).mono (by
     rintro e w' ⟨v,kk,D2,W2,e1,e2,e3,e4,e5⟩;exact⟨v,kk,D2,W2,e1,e2,e3,e4,(aj.of_below hb).trans e5 (fun _ _ h=>h) (fun _ _ h=>h)⟩)
    have a1:Hid (∀W,aj (fun b=>b=I∨b=fb) Wa W→(W.cell? (wr,0)=some (.int .i64 (qk:Nat))∧W.cell? (wr,1)=some (.string qp)∧W.cell? (wr,2)=some (.string qw))∧W.cell? ⟨w,3,none⟩=(k.checked:Nat)):=fun W ht=>by
     have e1:=ht.block _ (ag a6.out) (fun e=>by have h1:=ad.out;have h2:=av.out;omega);have e2:=ht.block _ (ag a0.out) (fun e=>by have h1:=ad.out;omega);obtain⟨⟨z0,_⟩,⟨z1,_⟩,⟨z2,_⟩⟩:=fd3 (e1.trans a6.out);obtain⟨_,_,_,⟨z3,_⟩⟩:=fd4 (e2.trans a0.out)
     grind
    obtain⟨⟨p0,p1,p2⟩,p3⟩:=a1.out Wa (aj.refl _ _);have c4:=J5
    go_region_held3 (fun w'=>(w'.cell? (wr,0)=some (.int .i64 (qk:Nat))∧w'.cell? (wr,1)=some (.string qp)∧w'.cell? (wr,2)=some (.string qw))∧w'.cell? ⟨w,3,none⟩=(k.checked:Nat))
     (first|exact⟨⟨p0,p1,p2⟩,p3⟩|exact a1.out _ aa)
     ((go_at_call 135;refine(KF.out _ ((af _ _).drew)).mono ?_;rintro e w3 ⟨v,kk,D2,W2,rfl,c7,bk,bi,aa⟩;obtain⟨cc,cj,e4,_,_⟩:=c7;subst e4))
    have b6:=zH ((aa.block _ (ag a0.out) (fun e=>by have h1:=ad.out;omega)).trans a0.out);have bc:=zH ((f.out.t.more T.out).trans aa (fun _ _ e=>e) (fun _ _ e=>e));have b7:Hid (Eng A S w3 I J fb mb G cap (counted Q (Z++W2)) D2 L):=by rw[←fy];exact bi
    have ba:=zH bk;clear p0 p1 p2 p3 bk bi aa c4 a1 KF a5 a6;obtain⟨_,⟨c1,_⟩,_,_⟩:=fd4 b6.out;by_cases c6:k.checked<kk.changed
    ·have c5:((k.checked:Nat):Int)<kk.changed:=ae
     have HR:=zH (uK.ask a2.out.2.1 f.out.c ba.out c6);have c8:(i==(n:Int))=false:=int_ne ae;go_wp2
     (try rw[dY])
     go_ret;exact⟨false,D2,_,rfl,HR.out,b7.out,bc.out⟩
    ·have c5:¬((k.checked:Nat):Int)<kk.changed:=ae
     have HN:Hid (Hd A S w I J fb mb G cap Q D L F k _ _ w3 (i+1) D2 _):=⟨b7.out,bc.out,by rw[a2.out.1];exact Chk.ask f.out.c ba.out ae,b6.out⟩;go_wp2;go_roundg (n-(i+1))
     case measure=>omega
     grind
   |rd p t=>
    have bq:Hid (POk p):=a2.out.2.2.1;have y1:wr.cell? (b,o+i)=some (.iface 266 (.agg #[(p.1),p.2.1,p.2.2,(df t),t.isSome])):=by rw[y0,Ht]
    clear y0;have bd:=zH (fun W hb=>MR _ p W (f.out.e.shelf.below hb) f.out.e.on bq.out)
    have HEq:Hid ((S G p=t)∨(S G p≠t∧df (S G p)=df t∧((S G p).isSome==t.isSome)=false)∨(S G p≠t∧df (S G p)≠df t)):=by
     show _∨_;by_cases h:S G p=t
     ·exact Or.inl h
     ·right
      by_cases h2:df (S G p)=df t
      ·left
       refine⟨h,h2,?_⟩;cases e1:S G p<;>cases e2:t
       ·grind
       ·rfl
       ·rfl
       ·rw[e1,e2] at h h2;exact absurd (iE some h2) h
      grind
    obtain⟨pk,pp,pv⟩:=p;have b0:=Ui (.agg #[pk,pp,pv,(df t),t.isSome]) wr;have a6:Hid ((wr.alloc (.cells #[pk,pp,pv,(df t),t.isSome] 266)).heap[_]?=_):=aI _ _;have T:Hid (zB wr (wr.alloc (.cells #[pk,pp,pv,(df t),t.isSome] 266))):=(af _ _).alloc (ai _) _;have a0:=zH ((T.out.block _ av.out).trans f.out.b);have a5:=zH (f.out.e.below T.out);have KA:Hid (∀W,Below _ _ W→Calls _ 186 #[_,.agg #[pk,pp,pv]] W fun e w'=>e=.returned (.agg _)∧_):=fun W hb=>bd.out W (T.out.trans (hb.mono T.out.size))
    clear bd;have y2:=y1;clear y1;go_upto_region 8 with fail;clear y2 b0;generalize wr.alloc _=Wa at*
    have a1:Hid (∀W,zB Wa W→W.cell? (I,0)=some (.pointer (some (J,0)))∧(W.cell? (wr,0)=pk∧W.cell? ⟨wr,1,none⟩=some (.string pp)∧W.cell? ⟨wr,2,none⟩=some (.string pv)∧W.cell? ⟨wr,3,none⟩=some (.string (df t))∧W.cell? ⟨wr,4,none⟩=some (.bool t.isSome))):=fun W hb=>by
     obtain⟨⟨z0,_⟩,⟨z1,_⟩,⟨z2,_⟩,⟨z3,_⟩,⟨z4,_⟩⟩:=fd5 ((hb.block _ (ag a6.out)).trans a6.out);exact⟨(a5.out.desk.below hb).f0.1,z0,z1,z2,z3,z4⟩
    obtain⟨p0,p1,p2,p3,p4,p5⟩:=a1.out Wa (af _ _);have Uk:Hid (S G (pk,pp,pv)≠t→True):=fun _=>trivial
    rcases HEq.out with heq|⟨Nf,a8,cd⟩|⟨Nf,a8⟩
    ·have b9:=zH heq
     rw[heq] at KA;clear heq HEq;generalize df t=a3 at*;generalize t.isSome=a7 at*;have q1:(a3.toList==a3.toList)=true:=ah;have q2:(a7==a7)=true:=ah
     go_region_held3 (fun w'=>w'.cell? (I,0)=some (.pointer (some (J,0)))∧(w'.cell? (wr,0)=pk∧w'.cell? ⟨wr,1,none⟩=some (.string pp)∧w'.cell? ⟨wr,2,none⟩=some (.string pv)∧w'.cell? ⟨wr,3,none⟩=some (.string a3)∧w'.cell? ⟨wr,4,none⟩=some (.bool a7)))
      (first|exact⟨p0,p1,p2,p3,p4,p5⟩|exact a1.out _ R)
      ((go_at_call 186;refine(KA.out _ ((af _ _).drew)).mono ?_;rintro e w6 ⟨rfl,Ng⟩;have R:=((af Wa Wa).drew).trans Ng;clear Ng))
     have a9:=zH ((R.block _ (ag a0.out)).trans a0.out);have aq:=zH ((f.out.t.more T.out).more R);have ak:=zH (a5.out.below R);clear p0 p1 p2 p3 p4 p5 R a1 KA;obtain⟨_,⟨c1,_⟩,_,_⟩:=fd4 a9.out;have HN:Hid (Hd A S w I J fb mb G cap Q D L F k _ _ w6 (i+1) Y Z):=⟨ak.out,aq.out,by rw[a2.out.1];exact Chk.rd f.out.c b9.out,a9.out⟩;go_wp2;go_roundg (n-(i+1))
     case measure=>omega
     case rel=>exact⟨_,Y,_,ae,ae,by go_num,by go_num,HN⟩
    focus
     have bb:=zH Nf;clear Nf HEq Uk;rw[a8] at KA;clear a8;generalize df t=a3 at*;generalize t.isSome=a7 at*;generalize (S G (pk,pp,pv)).isSome=ca at*;have q1:(a3.toList==a3.toList)=true:=ah
    rotate_left
    focus
     have bb:=zH Nf;have q1:=Rn.iN a8;clear Nf HEq Uk a8;generalize df t=a3 at*;generalize t.isSome=a7 at*;generalize (S G (pk,pp,pv)).isSome=ca at*;generalize df (S G (pk,pp,pv))=ck at*
    rotate_left
    all_goals
     go_region_held3 (fun w'=>w'.cell? (I,0)=some (.pointer (some (J,0)))∧(w'.cell? (wr,0)=some (.int .i64 pk)∧w'.cell? ⟨wr,1,none⟩=some (.string pp)∧w'.cell? ⟨wr,2,none⟩=some (.string pv)∧w'.cell? ⟨wr,3,none⟩=some (.string a3)∧w'.cell? ⟨wr,4,none⟩=some (.bool a7)))
      (first|exact⟨p0,p1,p2,p3,p4,p5⟩|exact a1.out _ R)
      ((go_at_call 186;refine(KA.out _ ((af _ _).drew)).mono ?_;rintro e w6 ⟨rfl,Ng⟩;have R:=((af Wa Wa).drew).trans Ng;clear Ng))
     have a9:=zH ((R.block _ (ag a0.out)).trans a0.out);have aq:=zH ((f.out.t.more T.out).more R);have ak:=zH (a5.out.below R);clear p0 p1 p2 p3 p4 p5 R a1 KA;obtain⟨_,⟨c1,_⟩,_,_⟩:=fd4 a9.out;have HR:=zH (uK.rd a2.out.2.1 f.out.c bb.out);have c8:(i==(n:Int))=false:=int_ne ae;go_wp2
     (try rw[dY])
     go_ret;exact⟨false,Y,_,rfl,HR.out,ak.out,aq.out⟩
  ·have fD:(i<(n:Int))=False:=aJ
   have a4:i=n:=ae
   have HR:Hid (uK F (S G) k.checked D k.ties Y Z true):=by
    have h:=f.out.c;rw[a4,cV ae] at h;exact uK.yes h
   have b8:Hid (_∧_):=⟨f.out.e,f.out.t⟩;obtain⟨_,⟨c1,_⟩,_,_⟩:=fd4 f.out.b;rw[a4];have ch:(n==(n:Int))=true:=ah;clear a4;go_wp2
   (try rw[dY])
   go_ret;exact⟨true,Y,Z,rfl,HR.out,b8.out.1,b8.out.2⟩
end Pn
namespace Pn
open Mf Ed
variable{A z A2:Nat→Prop}{S:Nat→Shf}{w w' W V E wf:zW}{I J fb mb G:Nat}{cap:Int}{Q:List Int}{D Y:List Kp}{L N:List (zV×zV)}{q:Qn}{k:Kp}
theorem SN:(128:TypeId)<prog.types.size:=fZ aB
theorem Qb:(match prog.underlying 128 with|some (.array _ _)|some (.struct _)=>true|_=>false)=true:=aB
theorem Qc:prog.keyTypeAt 3 128=true:=aB
theorem Nh:prog.keyType 128=true:=aB
theorem Es:prog.cellsOf 128=3:=aB
theorem Ni:prog.cellsOf 126=1:=aB
theorem SP:WideMaps.KeyLaw prog 128:=deep_law_laid Dw (m:=3) (Nat.le_of_ble_eq_true rfl) SN Qc Qb
theorem pg:Maps.Keyed prog 128:=Maps.Keyed.of_law SP
theorem Gu d k(h:(Lit.int .i64 k).wf=true):prog.keyLits (d+1) 126 [k]=some [.int .i64 k]:=by
 unfold Program.keyLits;simp_all
theorem Ul k(p v:zA)(R:(Lit.int .i64 k).wf=true)(T:p.size≤maxLen)(hv:v.size≤maxLen):∃l,keyOf prog 128 (.agg #[k,p,v])=some l:=by
 have f:prog.keyLits (prog.types.size+1) 128 [k,p,v]=some [.int .i64 k,.string p,.string v]:=by
  rw[Hl];unfold Program.keyLits;rw[underlying128];simp only[Es,dF,mH];rw[ay ⟨trivial,aB⟩];simp only[List.mapM_cons,List.mapM_nil,Hm,Ni,List.drop,List.take,Gu 417 k R,pM 417 p T,pM 417 v hv]
  rfl
 refine⟨.string (keyBytes [.int .i64 k,.string p,.string v]),?_⟩;unfold keyOf;rw[underlying128];show(if (prog.keyType 128&&(Value.agg #[.int .i64 k,.string p,.string v]).formed prog 128)=true then (prog.keyLits (prog.types.size+1) 128 [.int .i64 k,.string p,.string v]).map (fun ls=>_) else _)=_;rw[Nh,f];rw[ay (by simp[Value.formed,underlying128,Es])]
 rfl
theorem QOk.key(h:QOk q)(f:q.kind≤4):∃l,keyOf prog 128 (qv q)=some l:=Ul _ _ _ (Ea _ f) (by have:=h.p;unfold N48 at this;unfold maxLen;omega) (by have:=h.v;unfold N48 at this;unfold maxLen;omega)
theorem Hy w:(zeroValue 169).run prog w=.ok (.agg #[.nilIface,zN,.int .i64 0,.int .i64 0]) w:=aB
theorem Nj{a b}(h:qv a=qv b):a=b:=by
 obtain⟨f,T,v1⟩:=a;obtain⟨R,p2,v2⟩:=b
 grind
theorem ee.get:∀{L:List (zV×zV)} {D:List Kp},ee A w L D→(∀x∈L,∃k∈D,x.1=qv k.q∧jI A w x.2 k)∧(∀k∈D,∃x∈L,x.1=qv k.q∧jI A w x.2 k)
 |[],[],_=>⟨fun x h=>absurd h dI,fun k h=>absurd h dI⟩
 |x::L,k::D,⟨h,R,f⟩=>by
  have T:=ee.get f
  grind
 |[],_::_,h=>h.elim
 |_::_,[],h=>h.elim
open Classical in
theorem ee.filter(q:Qn):∀{L:List (zV×zV)} {D:List Kp},ee A w L D→ee A w (L.filter fun x=>decide (x.1≠qv q)) (D.filter fun k=>decide (k.q≠q))
 |[],[],_=>trivial
 |x::L,k::D,⟨h,R,T⟩=>by
  have ih:=ee.filter q T;by_cases e:k.q=q
  ·grind
  ·have ex:x.1≠qv q:=fun f=>e (Nj (h.symm.trans f))
   rw[wJ (by simp[ex]),wJ (by simp[e])];exact⟨h,R,ih⟩
 |[],_::_,h=>h.elim
 |_::_,[],h=>h.elim
theorem AY(hm:Mp.MapAt prog 128 w fb L)(he:ee A w L D)(hq:QOk q)(hk:q.kind≤4):
  (∃k v,k∈D∧k.q=q∧jI A w v k∧(qv q,v)∈L∧∀W,Mp.MapAt prog 128 W fb L→(Instr.lookup 102 (.map (fb)) (qv q) true).run prog W=.ok (.tuple #[v,true]) W)∨
  ((∀k∈D,k.q≠q)∧(∀x∈L,x.1≠qv q)∧∀W,Mp.MapAt prog 128 W fb L→(Instr.lookup 102 (.map (fb)) (qv q) true).run prog W=.ok (.tuple #[.agg #[.nilIface,zN,.int .i64 0,.int .i64 0],false]) W):=by
 obtain⟨kl,R⟩:=hq.key hk;have hg:=he.get;by_cases h:∃k∈D,k.q=q
 ·obtain⟨k,f,T⟩:=h
  obtain⟨x,hx,e1,e2⟩:=hg.2 k f
  left
  have a0:(qv q,x.2)∈L:=by rw[←T,←e1];exact hx
  exact⟨k,x.2,f,T,e2,a0,fun W hW=>hW.look_some true pg underlying102 (Hy W) R a0⟩
 ·right
  have hn:∀x∈L,x.1≠qv q:=fun x hx e=>by
   obtain⟨k,f,e1,_⟩:=hg.1 x hx;exact h ⟨k,f,Nj (e1.symm.trans e)⟩
  exact⟨fun k f e=>h ⟨k,f,e⟩,hn,fun W hW=>hW.look_none true pg underlying102 (Hy W) R hn⟩
theorem vH{α:Type}{p}{l:List α}(h:∀x∈l,p x=true):l.filter p=l:=List.filter_eq_self.2 h
open Classical in
theorem yg{key old:zV}:∀{l:List (zV×zV)},l.Pairwise (fun p q=>p.1≠q.1)→(key,old)∈l→l.Perm ((key,old)::l.filter fun x=>decide (x.1≠key))
 |x::l,f,hm=>by
  rw[eM] at f;rcases bI.1 hm with e|e
  ·rw[←e]
   rw[Fw ah,vH (fun y hy=>by
    grind)]
  ·have T:x.1≠key:=fun R=>f.1 _ e R
   rw[wJ (by simp[T])];exact((yg f.2 e).cons x).trans (List.Perm.swap ..)
open Classical in
theorem dB.stored(h:dB A w I J fb cap Q D)(hq:QOk q)(hk:q.kind≤4)(hl:D.length<9223372036854775807){v}{kn}(a3:jI A w v kn)(a0:kn.q=q):
  ∃w',(Instr.mapUpdate 102 (.map (fb)) (qv q) v).run prog w=.ok () w'∧dB A w' I J fb cap Q (oX D kn)∧aj (fun b=>b=fb) w w':=by
 obtain⟨kl,f⟩:=hq.key hk;obtain⟨L,hm,he⟩:=h.map;have Vz:=he.filter q
 have fin:∀R,w.mapTurned R fb→Mp.MapAt prog 128 R fb ((qv q,v)::L.filter fun x=>decide (x.1≠qv q))→dB A R I J fb cap Q (oX D kn)∧aj (fun b=>b=fb) w R:=fun R ht T=>by
  have O:=iL ht;have e1:=O.block I h.f0.lt h.ne;have hT:aj A w R:=O.mono (fun b _ e=>by rw[e];exact h.hf);refine⟨⟨h.f0.of_block e1,h.f1.of_block e1,h.f2.of_block e1,fun j c hj=>(h.cn j c hj).of_block e1,⟨_,T,?_⟩,h.ne,h.hd,h.hf⟩,O⟩;unfold oX;rw[a0];exact⟨by rw[a0],a3.turn hT,Vz.turn hT⟩
 rcases AY hm he hq hk with⟨k,v0,_,_,_,a1,_⟩|⟨_,hn,_⟩
 ·obtain⟨R,a2,ht,T⟩:=hm.Hk pg underlying102 f (yg hm.apart a1) v
  grind
 ·obtain⟨R,a2,ht,T⟩:=hm.Hj pg underlying102 (by rw[he.len];unfold maxLen;omega) f hn v
  have e:(L.filter fun x=>decide (x.1≠qv q))=L:=vH (fun x hx=>ax)
  grind
