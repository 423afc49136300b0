import Derived.Test.YtelmkfkgpnadnaaGreatDoorJPNB
set_option linter.all false
open Go.Proofs.Tryz
set_option maxRecDepth 100000
set_option maxHeartbeats 4000000
namespace Go.Proofs.YtelmkfkgpnadnaaGreatDoor
open Go.RowKit
namespace Pn
open Mf Ed
variable{A:Nat→Prop}{S:Nat→Shf}{w w':zW}{db sb fb mb now:Nat}{cap:Int}{cs:List Int}{D D':List Kp}{L:List (zV×zV)}
theorem yE(w:zW)(o1 o2:Obj):zB w ((w.alloc o1).alloc o2)∧((w.alloc o1).alloc o2).heap[w.heap.size]?=some o1∧((w.alloc o1).alloc o2).heap[w.heap.size+1]?=some o2:=by
 have b1:zB w (w.alloc o1):=(ae _ _).alloc (ag _) _;have s1:(w.alloc o1).heap.size=w.heap.size+1:=by simp
 refine⟨b1.alloc b1.size o2,?_,?_⟩
 ·rw[aG _ _ _ (by omega)];exact aD _ _
 ·rw[←s1];exact aD _ _
theorem rL{w:zW}{base base' size n:Nat}{e:TypeId}{v:zV}{xs:List zV}(h:w.ownsRow base e size v n xs)(hb:base'≤base):w.ownsRow base' e size v n xs:=
 ⟨h.1,h.2.elim Or.inl (fun⟨g,cap,cur,hv,hg,r⟩=>Or.inr ⟨g,cap,cur,hv,aP hb hg,r⟩)⟩
def Gu(A:Nat→Prop)(S:Nat→Shf)(w:zW)(db sb fb mb now:Nat)(cap:Int)(cs:List Int)(D:List Kp)(L:List (zV×zV))(e:Ending)(w':zW):Prop:=
 ∃v1 v2 v3 ms ps ns qs k2 k3 D2 D3 D5 Wk2 Wk3,e=.returned (.agg #[v1,v2,v3])∧(val (S now) ⟨3,e0,e0⟩=.list ms ps∧val (S now) ⟨4,e0,e0⟩=.ord ns qs)∧
  (w'.ownsRow w.heap.size 29 2 v1 ms.length (mcs ms)∧w'.ownsRow w.heap.size 76 3 v2 (once (ps++qs)).length ((once (ps++qs)).flatMap aT)∧w'.ownsRow w.heap.size 9 1 v3 ns.length (ns.flatMap fW))∧
  Eng A S w' db sb fb mb now cap (counted cs (Wk2++Wk3)) D5 L∧(fnd (S now) now 3 D ⟨3,e0,e0⟩ k2 D2 Wk2∧fnd (S now) now 3 D2 ⟨4,e0,e0⟩ k3 D3 Wk3)∧
  (D5.Sublist D3∧(D5.length:Int)≤cap∧((D3.length:Int)≤cap→D5=D3)∧D3.length≤D.length+1948378)∧
  (ms.length≤100000∧ps.length≤1000000∧ns.length≤100000∧qs.length≤100000)∧aj (fun b=>b=db∨b=fb) w w'
theorem FA(hF:eA S db sb fb mb now cap L 3)(hD:D.length≤1000000000000)(hc:0≤cap∧cap≤9223372036854775807)(w:zW)(h:Eng A S w db sb fb mb now cap cs D L):
  zC 60 #[zP db] w fun e w'=>Gu A S w db sb fb mb now cap cs D L e w':=by
 have HE:Hid (Eng A S w db sb fb mb now cap cs D L):=h;have HF:Hid (eA S db sb fb mb now cap L 3):=hF;have hq:=yE w (.cells #[zN,zN,zN] 58) (.cells #[zP db,zN] 174)
 have HP:Hid (∀b,b=w.heap.size∨b=w.heap.size+1→w.heap.size≤b∧b<((w.alloc (.cells #[zN,zN,zN] 58)).alloc (.cells #[zP db,zN] 174)).heap.size):=fun b e=>by
  simp;omega
 have hEw:=h.wide hq.1 (fun b=>b=w.heap.size∨b=w.heap.size+1) HP.out;have HQ:Hid _:=hq;clear hq;have hf2:=fd2 HQ.out.2.2
 have hTk:Tsk (fun b=>A b∨(b=w.heap.size∨b=w.heap.size+1)) S ((w.alloc (.cells #[zN,zN,zN] 58)).alloc (.cells #[zP db,zN] 174)) w.heap.size (w.heap.size+1) db sb fb mb now cap cs D L (zN) []:=
  ⟨hEw,⟨hf2.1,hf2.2,ew ..,by simp[Value.ownBlock],by omega⟩,fun b e=>by
   rcases e with e|e
   ·exact Or.inr (Or.inr e)
   ·simp[Value.ownBlock] at e,⟨h.hA _ h.desk.hd,h.hA _ h.desk.hf,h.hA _ h.ns.1,h.hA _ h.ns.2,by have:=h.hA _ h.desk.hd;omega⟩,HQ.out.1.size⟩
 have kl:=Du hF (by decide) (by simp only[grow,N15];omega) _ hTk (by show 0≤_;omega);clear h hEw hf2 hTk hF;go_enter func60,ntmps60
 go_wp2_with (go_at_call 102;fail)
 generalize (w.alloc (.cells #[zN,zN,zN] 58)).alloc (.cells #[zP db,zN] 174)=W1 at*;go_at_call 102;refine kl.mono ?_;rintro e w2 ⟨A2,tv2,ms,ps,la,lb,k2,D2,Wk2,rfl,hr2,hk2,ha2⟩;have HR2:Hid (RdA A2 Sm.mc w2 la ms∧RdA A2 aT w2 lb ps):=hr2;have HA2:Hid (k2.f=.list ms ps∧gG (fun b=>A b∨(b=w.heap.size∨b=w.heap.size+1)) S W1 w.heap.size (w.heap.size+1) db sb fb mb now cap cs D L (zN) [] 3 ⟨3,e0,e0⟩ w2 A2 tv2 k2 D2 Wk2):=⟨hk2,ha2⟩;have HI1:Hid (D2.length≤D.length+489099):=vE HE.out.inv (by decide) (by decide) ha2.1;have ko:=Ix HF.out (by decide) (by have:=HI1.out;simp only[grow,N15];omega) w2 ha2.2.1 (by show 1≤_;omega);clear kl hr2 hk2 ha2
 go_wp2_with (go_at_call 103;fail)
 go_at_call 103;refine ko.mono ?_;rintro e w3 ⟨A3,tv3,ns,qs,oa,ob,k3,D3,Wk3,rfl,hr3,hk3,ha3⟩;have HI2:Hid (D3.length≤D2.length+1459279):=vE HA2.out.2.2.1.eng.inv (by decide) (by decide) ha3.1
 have HT23:Hid (aj A3 w2 w3):=ha3.2.2.1.mono (fun b _ e=>ha3.2.2.2.1 b (by
  rcases e with e|e|e|e
  ·rw[e];exact HA2.out.2.2.1.eng.desk.hd
  ·rw[e];exact HA2.out.2.2.1.eng.desk.hf
  ·exact HA2.out.2.2.1.pr b (Or.inl e)
  ·exact HA2.out.2.2.1.pr b (Or.inr e)))
 have hsub:∀b,b<w2.heap.size→A3 b→A2 b:=fun b hb e=>by
  rcases ha3.2.2.2.2.1 b e with e|e
  ·exact e
  ·omega
 have HR3:Hid ((RdA A3 Sm.mc w3 la ms∧RdA A3 aT w3 lb ps)∧RdA A3 fW w3 oa ns∧RdA A3 aT w3 ob qs):=
  ⟨⟨(HR2.out.1.more hsub).turn HT23.out,(HR2.out.2.more hsub).turn HT23.out⟩,hr3⟩
 clear hsub;have HA3:Hid (k3.f=.ord ns qs∧gG A2 S w2 w.heap.size (w.heap.size+1) db sb fb mb now cap (counted cs Wk2) D2 L tv2 ([]++[.ask ⟨3,e0,e0⟩]) 3 ⟨4,e0,e0⟩ w3 A3 tv3 k3 D3 Wk3):=⟨hk3,ha3⟩;clear ko hr3 hk3 ha3;obtain⟨la1,la2,rfl⟩:=HR3.out.1.1.len;obtain⟨lb1,lb2,rfl⟩:=HR3.out.1.2.len;obtain⟨oa1,oa2,rfl⟩:=HR3.out.2.1.len;obtain⟨ob1,ob2,rfl⟩:=HR3.out.2.2.len;have HQ3:Hid _:=yE w3 (.cells #[.slice la1 ms.length la2,.slice lb1 ps.length lb2] 176) (.cells #[.slice oa1 ns.length oa2,.slice ob1 qs.length ob2] 179);have HE4:Hid (Eng A3 S ((w3.alloc (.cells #[.slice la1 ms.length la2,.slice lb1 ps.length lb2] 176)).alloc (.cells #[.slice oa1 ns.length oa2,.slice ob1 qs.length ob2] 179)) db sb fb mb now cap (counted (counted cs Wk2) Wk3) D3 L):=HA3.out.2.2.1.eng.below HQ3.out.1;have ks:=Fz _ HE4.out.desk HE4.out.ml (by have:=HI1.out;have:=HI2.out;omega) hc
 go_wp2_with (go_at_call 104;fail)
 generalize (w3.alloc (.cells #[.slice la1 ms.length la2,.slice lb1 ps.length lb2] 176)).alloc (.cells #[.slice oa1 ns.length oa2,.slice ob1 qs.length ob2] 179)=W4 at*;go_at_call 104;refine ks.mono ?_;rintro e w5 ⟨rfl,D5,hd5,hs5,ht5⟩;have HE5:Hid (Eng A3 S w5 db sb fb mb now cap (counted (counted cs Wk2) Wk3) D5 L):=HE4.out.shrunk hd5 hs5.1 ht5;have HS5:Hid ((D5.length:Int)≤cap∧((D3.length:Int)≤cap→D5=D3)∧D5.Sublist D3∧aj (fun b=>b=fb) W4 w5):=⟨hs5.2.1,hs5.2.2,hs5.1,ht5⟩;have HT45:Hid (aj A3 W4 w5):=ht5.mono (fun b _ e=>by rw[e];exact HE4.out.desk.hf);clear ks hd5 hs5 ht5
 have HRd:Hid (∀W,zB w5 W→(RdA A3 Sm.mc W (.slice la1 ms.length la2) ms∧RdA A3 aT W (.slice lb1 ps.length lb2) ps)∧RdA A3 fW W (.slice oa1 ns.length oa2) ns∧RdA A3 aT W (.slice ob1 qs.length ob2) qs):=fun W hb=>
  ⟨⟨((HR3.out.1.1.below HQ3.out.1).turn HT45.out).below hb,((HR3.out.1.2.below HQ3.out.1).turn HT45.out).below hb⟩,((HR3.out.2.1.below HQ3.out.1).turn HT45.out).below hb,((HR3.out.2.2.below HQ3.out.1).turn HT45.out).below hb⟩
 have HPd:Hid (∀W,zB w5 W→W.cell? ⟨w3.heap.size,0,none⟩=some (.slice la1 ms.length la2)∧W.cell? ⟨w3.heap.size,1,none⟩=some (.slice lb1 ps.length lb2)∧W.cell? ⟨w3.heap.size+1,0,none⟩=some (.slice oa1 ns.length oa2)∧W.cell? ⟨w3.heap.size+1,1,none⟩=some (.slice ob1 qs.length ob2)):=fun W hb=>by
  have hfb:=HA3.out.2.2.1.eng.hA _ HA3.out.2.2.1.eng.desk.hf;have g0:=ai HQ3.out.2.1;have g1:=ai HQ3.out.2.2;have hs:=HS5.out.2.2.2.size;have h0:=(hb.block w3.heap.size (by omega)).trans ((HS5.out.2.2.2.block w3.heap.size g0 (by omega)).trans HQ3.out.2.1);have h1:=(hb.block (w3.heap.size+1) (by omega)).trans ((HS5.out.2.2.2.block (w3.heap.size+1) g1 (by omega)).trans HQ3.out.2.2);exact⟨(fd2 h0).1.1,(fd2 h0).2.1,(fd2 h1).1.1,(fd2 h1).2.1⟩
 have HLn:Hid (ms.length≤100000∧ps.length≤1000000∧ns.length≤100000∧qs.length≤100000):=by
  have h2:=(kE HE.out.inv HA2.out.2.1 (by decide) (by decide) HA2.out.2.2.1.eng.ok).2.s;have h3:=(kE HA2.out.2.2.1.eng.inv HA3.out.2.1 (by decide) (by decide) HA3.out.2.2.1.eng.ok).2.s;rw[HA2.out.1] at h2;rw[HA3.out.1] at h3;exact⟨h2.1,h2.2,h3.1,h3.2⟩
 have K105:Hid (∀W,zB w5 W→zC 105 #[.slice la1 ms.length la2] W fun e w'=>∃v',e=.returned v'∧w'.ownsRow W.heap.size 29 2 v' ms.length (mcs ms)∧zB W w'):=fun W hb=>zj _ ms W (HRd.out W hb).1.1 (by have:=HLn.out.1;omega)
 have K108:Hid (∀W,zB w5 W→zC 108 #[.slice oa1 ns.length oa2] W fun e w'=>∃v',e=.returned v'∧w'.ownsRow W.heap.size 9 1 v' ns.length (ns.flatMap fW)∧zB W w'):=fun W hb=>zk _ ns W (HRd.out W hb).2.1 (by have:=HLn.out.2.2.1;omega)
 have K107:Hid (∀W bb,zB w5 W→W.heap[bb]?=some (.cells #[.slice lb1 ps.length lb2,.slice ob1 qs.length ob2] 56)→zC 107 #[.slice (some ⟨bb,0,none⟩) 2 2] W fun e w'=>∃v,e=.returned v∧w'.ownsRow W.heap.size 76 3 v (ps++qs).length ((ps++qs).flatMap aT)∧zB W w'):=fun W bb hb h=>Fu bb _ _ ps qs W h (HRd.out W hb).1.2 (HRd.out W hb).2.2 ⟨HLn.out.2.1,by have:=HLn.out.2.2.2;omega⟩
 have K106:Hid (∀W B v,zB w5 W→w5.heap.size≤B→W.ownsRow B 76 3 v (ps++qs).length ((ps++qs).flatMap aT)→zC 106 #[v] W fun e w'=>∃v',e=.returned v'∧w'.ownsRow B 76 3 v' (once (ps++qs)).length ((once (ps++qs)).flatMap aT)∧aj (fun b=>v.ownBlock=some b) W w'):=fun W B v hb hB ho=>BS B v (ps++qs) W (HE5.out.ml.below hb) (by have:=HE5.out.ml.pos;omega) ho (by have h1:=HLn.out.2.1;have h2:=HLn.out.2.2.2;rw[bg];omega)
 have HZ:Hid (∀W,zB w5 W→W.heap[w.heap.size]?=some (.cells #[zN,zN,zN] 58)):=fun W hb=>by
  have hfb:=HE.out.hA _ HE.out.desk.hf;have hdb:=HE.out.hA _ HE.out.desk.hd;have g0:=ai HQ.out.2.1
  have h2:=HA2.out.2.2.2.1.block w.heap.size g0 (fun e=>by
   rcases e with e|e|e|e
   ·omega
   ·omega
   ·omega
   ·simp[Value.ownBlock] at e)
  have s2:=HA2.out.2.2.2.1.size
  have h3:=HA3.out.2.2.2.1.block w.heap.size (by omega) (fun e=>by
   rcases e with e|e|e|e
   ·omega
   ·omega
   ·omega
   ·rcases HA2.out.2.2.2.2.2.2 _ e with e|e
    ·simp[Value.ownBlock] at e
    ·omega)
  have s3:=HA3.out.2.2.2.1.size;have h4:=HQ3.out.1.block w.heap.size (by omega);have s4:=HQ3.out.1.size;have h5:=HS5.out.2.2.2.block w.heap.size (by omega) (by omega);have s5:=HS5.out.2.2.2.size;exact(hb.block w.heap.size (by omega)).trans (h5.trans (h4.trans (h3.trans (h2.trans HQ.out.2.1))))
 have C105:Hid (∀W,zB w5 W→zC 105 #[.slice la1 ms.length la2] W fun e w'=>∃v',e=.returned v'∧w'.ownsRow W.heap.size 29 2 v' ms.length (mcs ms)∧zB W w'∧zB w5 w'∧(∀bb o,W.heap[bb]?=some o→w'.heap[bb]?=some o)):=fun W hb=>(K105.out W hb).mono (fun e w' ⟨v',g1,g2,g3⟩=>⟨v',g1,g2,g3,hb.trans (g3.mono hb.size),fun bb o ho=>(g3.block bb (ai ho)).trans ho⟩)
 have C107:Hid (∀W bb,zB w5 W→W.heap[bb]?=some (.cells #[.slice lb1 ps.length lb2,.slice ob1 qs.length ob2] 56)→zC 107 #[.slice (some ⟨bb,0,none⟩) 2 2] W fun e w'=>∃v,e=.returned v∧w'.ownsRow W.heap.size 76 3 v (ps++qs).length ((ps++qs).flatMap aT)∧zB W w'∧zB w5 w'∧w5.heap.size≤W.heap.size):=fun W bb hb h=>(K107.out W bb hb h).mono (fun e w' ⟨v',g1,g2,g3⟩=>⟨v',g1,g2,g3,hb.trans (g3.mono hb.size),hb.size⟩)
 have C106:Hid (∀W B v,zB w5 W→w5.heap.size≤B→W.ownsRow B 76 3 v (ps++qs).length ((ps++qs).flatMap aT)→zC 106 #[v] W fun e w'=>∃v',e=.returned v'∧w'.ownsRow B 76 3 v' (once (ps++qs)).length ((once (ps++qs)).flatMap aT)∧aj (fun b=>v.ownBlock=some b) W w'∧zB w5 w'):=fun W B v hb hB ho=>(K106.out W B v hb hB ho).mono (fun e w' ⟨v',g1,g2,g3⟩=>⟨v',g1,g2,g3,bh hb g3 (fun b e=>aP hB (ho.lt b e).1)⟩)
 have C108:Hid (∀W,zB w5 W→zC 108 #[.slice oa1 ns.length oa2] W fun e w'=>∃v',e=.returned v'∧w'.ownsRow W.heap.size 9 1 v' ns.length (ns.flatMap fW)∧zB W w'∧zB w5 w'):=fun W hb=>(K108.out W hb).mono (fun e w' ⟨v',g1,g2,g3⟩=>⟨v',g1,g2,g3,hb.trans (g3.mono hb.size)⟩)
 clear K105 K106 K107 K108
 have HPs:Hid (∀W u0 u1 u2,zB w5 W→(((W.setCell ⟨w.heap.size,0,none⟩ u0).setCell ⟨w.heap.size,1,none⟩ u1).setCell ⟨w.heap.size,2,none⟩ u2).cell? ⟨w3.heap.size,0,none⟩=some (.slice la1 ms.length la2)∧(((W.setCell ⟨w.heap.size,0,none⟩ u0).setCell ⟨w.heap.size,1,none⟩ u1).setCell ⟨w.heap.size,2,none⟩ u2).cell? ⟨w3.heap.size,1,none⟩=some (.slice lb1 ps.length lb2)∧(((W.setCell ⟨w.heap.size,0,none⟩ u0).setCell ⟨w.heap.size,1,none⟩ u1).setCell ⟨w.heap.size,2,none⟩ u2).cell? ⟨w3.heap.size+1,0,none⟩=some (.slice oa1 ns.length oa2)∧(((W.setCell ⟨w.heap.size,0,none⟩ u0).setCell ⟨w.heap.size,1,none⟩ u1).setCell ⟨w.heap.size,2,none⟩ u2).cell? ⟨w3.heap.size+1,1,none⟩=some (.slice ob1 qs.length ob2)):=fun W u0 u1 u2 hb=>by
  have g0:=ai HQ.out.2.1;have s2:=HA2.out.2.2.2.1.size;have s3:=HA3.out.2.2.2.1.size
  have hn:∀z,z≠w.heap.size→(((W.setCell ⟨w.heap.size,0,none⟩ u0).setCell ⟨w.heap.size,1,none⟩ u1).setCell ⟨w.heap.size,2,none⟩ u2).heap[z]?=W.heap[z]?:=fun z hz=>by
   rw[aL _ _ _ _ hz,aL _ _ _ _ hz,aL _ _ _ _ hz]
  obtain⟨g0,g1,g2,g3⟩:=HPd.out W hb;have n0:=hn w3.heap.size (by omega);have n1:=hn (w3.heap.size+1) (by omega);exact⟨(aW n0).trans g0,(aW n0).trans g1,(aW n1).trans g2,(aW n1).trans g3⟩
 have HT05:Hid (aj (fun b=>b=db∨b=fb∨b=w.heap.size) w w5):=by
  have t1:aj (fun b=>b=db∨b=fb∨b=w.heap.size) w w2:=(aj.of_below (p:=fun _=>False) HQ.out.1).trans HA2.out.2.2.2.1 (fun _ _ e=>e.elim) (fun b hb e=>by
   rcases e with e|e|e|e
   ·exact Or.inl e
   ·exact Or.inr (Or.inl e)
   ·omega
   ·simp[Value.ownBlock] at e)
  have t2:aj (fun b=>b=db∨b=fb∨b=w.heap.size) w w3:=t1.trans HA3.out.2.2.2.1 (fun _ _ e=>e) (fun b hb e=>by
   have hs:=HQ.out.1.size;rcases e with e|e|e|e
   ·exact Or.inl e
   ·exact Or.inr (Or.inl e)
   ·omega
   ·rcases HA2.out.2.2.2.2.2.2 _ e with e|e
    ·simp[Value.ownBlock] at e
    ·omega)
  exact(t2.trans (aj.of_below (p:=fun _=>False) HQ3.out.1) (fun _ _ e=>e) (fun _ _ e=>e.elim)).trans HS5.out.2.2.2 (fun _ _ e=>e) (fun b _ e=>Or.inr (Or.inl e))
 have HFin:Hid (∀(B6 B7:Nat)(w6 w7 w8 w9:zW)(v6 v7 v8 v9:zV),zB w5 w9→w5.heap.size≤B6→w6.ownsRow B6 29 2 v6 ms.length (mcs ms)→(∀b,b<w6.heap.size→w7.heap[b]?=w6.heap[b]?)→w6.heap.size≤B7→w5.heap.size≤w6.heap.size→w6.heap.size≤w7.heap.size→w7.ownsRow B7 76 3 v7 (ps++qs).length ((ps++qs).flatMap aT)→
   w8.ownsRow B7 76 3 v8 (once (ps++qs)).length ((once (ps++qs)).flatMap aT)→aj (fun b=>v7.ownBlock=some b) w7 w8→w9.ownsRow w8.heap.size 9 1 v9 ns.length (ns.flatMap fW)→zB w8 w9→
   Gu A S w db sb fb mb now cap cs D L (.returned (.agg #[v6,v8,v9])) (((w9.setCell ⟨w.heap.size,0,none⟩ v6).setCell ⟨w.heap.size,1,none⟩ v8).setCell ⟨w.heap.size,2,none⟩ v9)):=fun B6 B7 w6 w7 w8 w9 v6 v7 v8 v9 hb9 hB6 ho6 hc7 hB7 h56 h67 ho7 ho8 hc8 ho9 hc9=>by
  have g0:=ai HQ.out.2.1;have s2:=HA2.out.2.2.2.1.size;have s05:=HT05.out.size;have h5:=ai (HZ.out w5 (ae _ _));have hT:aj (fun b=>b=w.heap.size) w9 (((w9.setCell ⟨w.heap.size,0,none⟩ v6).setCell ⟨w.heap.size,1,none⟩ v8).setCell ⟨w.heap.size,2,none⟩ v9):=(((aj.refl (fun b=>b=w.heap.size) w9).set (a:=⟨w.heap.size,0,none⟩) (fun _=>rfl) _).set (a:=⟨w.heap.size,1,none⟩) (fun _=>rfl) _).set (a:=⟨w.heap.size,2,none⟩) (fun _=>rfl) _
  have q6:=ar (w':=((w9.setCell ⟨w.heap.size,0,none⟩ v6).setCell ⟨w.heap.size,1,none⟩ v8).setCell ⟨w.heap.size,2,none⟩ v9) ho6 (fun b e=>by
   have hl:=ho6.lt b e;have n8:=hc8.block b (by omega) (fun e2=>by have:=(ho7.lt b e2).1;omega);have n9:=hc9.block b (by have:=hc8.size;omega);exact(hT.block b (by have:=hc8.size;have:=hc9.size;omega) (by omega)).trans (n9.trans (n8.trans (hc7 b hl.2))))
  have q8:=ar (w':=((w9.setCell ⟨w.heap.size,0,none⟩ v6).setCell ⟨w.heap.size,1,none⟩ v8).setCell ⟨w.heap.size,2,none⟩ v9) ho8 (fun b e=>by
   have hl:=ho8.lt b e;exact(hT.block b (by have:=hc9.size;omega) (by omega)).trans (hc9.block b hl.2))
  have q9:=ar (w':=((w9.setCell ⟨w.heap.size,0,none⟩ v6).setCell ⟨w.heap.size,1,none⟩ v8).setCell ⟨w.heap.size,2,none⟩ v9) ho9 (fun b e=>by
   have hl:=ho9.lt b e;exact hT.block b hl.2 (by have:=hc8.size;omega))
  have TG:=hc8.size;have a2:∀b,(A b∨b=w.heap.size∨b=w.heap.size+1)→A3 b:=fun b e=>HA3.out.2.2.2.2.1 b (HA2.out.2.2.2.2.1 b e)
  have hlt:∀b,A b→b<w.heap.size:=HE.out.hA;have l1:=hlt _ HE.out.desk.hd;have l2:=hlt _ HE.out.desk.hf;have l3:=hlt _ HE.out.ns.1;have l4:=hlt _ HE.out.ns.2;have he:=((HE5.out.below hb9).turn hT (fun b _ e=>a2 b (Or.inr (Or.inl e))) ⟨by omega,by omega,by omega,by omega,by omega⟩).less (fun b e=>a2 b (Or.inl e)) ⟨HE.out.desk.hd,HE.out.desk.hf,HE.out.ns.1,HE.out.ns.2⟩;rw[fz] at he;have v2:=(kE HE.out.inv HA2.out.2.1 (by decide) (by decide) HA2.out.2.2.1.eng.ok).1;have v3:=(kE HA2.out.2.2.1.eng.inv HA3.out.2.1 (by decide) (by decide) HA3.out.2.2.1.eng.ok).1
  exact⟨v6,v8,v9,ms,ps,ns,qs,k2,k3,D2,D3,D5,Wk2,Wk3,rfl,⟨v2.symm.trans HA2.out.1,v3.symm.trans HA3.out.1⟩,⟨rL q6 (by omega),rL q8 (by omega),rL q9 (by omega)⟩,he,⟨HA2.out.2.1,HA3.out.2.1⟩,⟨HS5.out.2.2.1,HS5.out.1,HS5.out.2.1,by have:=HI1.out;have:=HI2.out;omega⟩,HLn.out,
   ((HT05.out.trans (aj.of_below (p:=fun _=>False) hb9) (fun _ _ e=>e) (fun _ _ e=>e.elim)).trans hT (r:=fun b=>b=db∨b=fb) (fun b hb e=>by
    rcases e with e|e|e
    ·exact Or.inl e
    ·exact Or.inr e
    ·omega) (fun b hb e=>by omega))⟩
 obtain⟨p0,p1,p2,p3⟩:=HPd.out w5 (ae _ _);go_upto_region 4 with fail
 go_region_held3 (fun w'=>w'.cell? ⟨w3.heap.size,0,none⟩=some (.slice la1 ms.length la2)∧w'.cell? ⟨w3.heap.size,1,none⟩=some (.slice lb1 ps.length lb2)∧w'.cell? ⟨w3.heap.size+1,0,none⟩=some (.slice oa1 ns.length oa2)∧w'.cell? ⟨w3.heap.size+1,1,none⟩=some (.slice ob1 qs.length ob2))
  (first|with_reducible exact⟨p0,p1,p2,p3⟩|with_reducible exact HPs.out _ _ _ _ hb9|(with_reducible refine HPd.out _ ?_;repeat' first|with_reducible exact ae _ _|with_reducible exact hb6|with_reducible exact hb7|with_reducible exact hb8|with_reducible exact hb9|with_reducible refine aB ?_ _|with_reducible refine Below.drew ?_))
  (first
   |(go_at_call 105;refine(C105.out _ (by repeat' first|with_reducible exact ae _ _|with_reducible refine aB ?_ _|with_reducible refine Below.drew ?_)).mono ?_;rintro e w6 ⟨v6,rfl,ho6,hc6,hb6,hk6⟩;obtain⟨a6,c6,rfl⟩:=ay ho6)
   |(go_at_call 107;refine(C107.out _ _ (by repeat' first|with_reducible exact hb6|with_reducible refine aB ?_ _|with_reducible refine Below.drew ?_) (by first|exact aD _ _|exact hk6 _ _ (aD _ _))).mono ?_;rintro e w7 ⟨v7,rfl,ho7,hc7,hb7,hB7⟩)
   |(go_at_call 106;refine(C106.out _ _ _ hb7 hB7 ho7).mono ?_;rintro e w8 ⟨v8,rfl,ho8,hc8,hb8⟩;obtain⟨a8,c8,rfl⟩:=ay ho8)
   |(go_at_call 108;refine(C108.out _ hb8).mono ?_;rintro e w9 ⟨v9,rfl,ho9,hc9,hb9⟩;obtain⟨a9,c9,rfl⟩:=ay ho9;obtain⟨⟨z0,f0⟩,⟨z1,f1⟩,⟨z2,f2⟩⟩:=fd3 (HZ.out w9 hb9)))
 all_goals go_wp2
 all_goals refine aI (bM results60 _ _ w.heap.size 58 _ (0,0) _ rfl (E8 (HZ.out w9 hb9) _ _ _) underlying58 rfl (by kernel_rfl)) rfl ?_
 all_goals first
  |exact HFin.out _ _ w6 w7 w8 w9 _ _ _ _ hb9 (by first|exact ag _|simp) ho6 (fun b hb=>hc7.block b hb) (ag _) hB7 hc7.size ho7 ho8 hc8 ho9 hc9
  |exact HFin.out _ _ w6 w7 w8 w9 _ _ _ _ hb9 (by first|exact ag _|simp) ho6 (fun b hb=>(hc7.block b (by simp;omega)).trans (aG _ _ _ hb)) (by simp) hb6.size (aP (by simp) hc7.size) ho7 ho8 hc8 ho9 hc9
