import Derived.Test.YtelmkfkgpnadnaaGreatDoorJPMM
import Derived.Test.YtelmkfkgpnadnaaGreatDoorJShelf
set_option linter.all false
open Go.Proofs.Tryz
set_option maxRecDepth 100000
set_option maxHeartbeats 8000000
namespace Go.Proofs.YtelmkfkgpnadnaaGreatDoor
open Go.RowKit
namespace Pn
open Mf Ed
theorem filter_le{α:Type}{p q:α→Bool}:∀(l:List α),(∀x∈l,q x=true→p x=true)→(l.filter q).length≤(l.filter p).length
 |[],_=>ag _
 |a::l,h=>by
  have ih:=filter_le l (fun x hx=>h x (cK _ hx));cases hq:q a with
  |true=>rw[lD hq,lD (h a (bz ..) hq)];exact Nat.succ_le_succ ih
  |false=>
   rw[ou (by rw[hq];simp)];cases hp:p a with
   |true=>rw[lD hp];exact Nat.le_succ_of_le ih
   |false=>rw[ou (by rw[hp];simp)];exact ih
theorem filter_lt{α:Type}{p q:α→Bool}:∀(l:List α),(∀x∈l,q x=true→p x=true)→(∃x∈l,p x=true∧q x=false)→(l.filter q).length<(l.filter p).length
 |[],_,hx=>by obtain⟨x,hx,_⟩:=hx;simp at hx
 |a::l,h,hx=>by
  obtain⟨x,hx,h1,h2⟩:=hx;have hm:∀x∈l,q x=true→p x=true:=fun x hx=>h x (cK _ hx)
  rcases aV.1 hx with e|e
  ·subst e
   rw[ou (by rw[h2];simp),lD h1];exact mO (filter_le l hm)
  ·have ih:=filter_lt l hm ⟨x,e,h1,h2⟩
   cases hq:q a with
   |true=>rw[lD hq,lD (h a (bz ..) hq)];exact Nat.succ_lt_succ ih
   |false=>
    rw[ou (by rw[hq];simp)];cases hp:p a with
    |true=>rw[lD hp];exact Nat.lt_succ_of_lt ih
    |false=>rw[ou (by rw[hp];simp)];exact ih
def leftOf(n:Nat)(pl:Nat→Bool):Nat:=((List.range n).filter fun i=>!pl i).length
theorem pZ(n:Nat)(pl:Nat→Bool):leftOf n pl≤n:=aP (List.length_filter_le _ _) (by simp)
theorem LF{n i o:Nat}{m:Nat→Nat→Bool}(h:o∈aY n m i):o<n:=by
 unfold aY at h;exact cH.1 (List.mem_filter.1 h).1
theorem N3{n i:Nat}{m:Nat→Nat→Bool}{pl:Nat→Bool}(h:i∈cj n m pl):i<n:=by
 unfold cj at h
 split at h
 ·exact LF h
 ·simp at h
theorem LG(n:Nat)(m:Nat→Nat→Bool)(pl:Nat→Bool):(cj n m pl).length≤n:=by
 unfold cj
 split
 ·exact aP (List.length_filter_le _ _) (by simp)
 ·exact aK _
theorem LH{n:Nat}{m:Nat→Nat→Bool}{pl:Nat→Bool}(h:cj n m pl≠[]):∃i,i<n∧pl i=false∧i∈cj n m pl:=by
 unfold cj at h ⊢
 split at h
 ·rename_i i hi
  have h1:=List.find?_some hi;have h2:=cH.1 (List.mem_of_find?_eq_some hi);refine⟨i,h2,?_,?_⟩
  ·cases hp:pl i with
   |false=>rfl
   |true=>rw[hp] at h1;simp at h1
  ·exact List.mem_filter.2 ⟨cH.2 h2,by simp⟩
 ·exact absurd rfl h
theorem Gq{n:Nat}{m:Nat→Nat→Bool}{pl:Nat→Bool}(h:cj n m pl≠[]):leftOf n (fun i=>pl i||(cj n m pl).contains i)<leftOf n pl:=by
 obtain⟨i,h1,h2,h3⟩:=LH h;refine filter_lt _ (fun x _ hx=>?_) ⟨i,cH.2 h1,by rw[h2];rfl,?_⟩
 ·cases hp:pl x with
  |false=>rfl
  |true=>simp[hp] at hx
 ·simp[h3]
theorem vD{n f:Nat}{m:Nat→Nat→Bool}{pl:Nat→Bool}(h:cj n m pl≠[]):bG n m (f+1) pl=cj n m pl::bG n m f (fun i=>pl i||(cj n m pl).contains i):=by
 rw[bG]
 split
 ·rename_i e;exact absurd e h
 ·rfl
theorem yt{n f:Nat}{m:Nat→Nat→Bool}{pl:Nat→Bool}(h:cj n m pl=[]):bG n m f pl=[]:=by
 cases f with
 |zero=>rfl
 |succ f=>rw[bG,h]
theorem BO:∀(r l l':List Mo),l.length≤60→cz l r=some l'→l'.length≤60
 |[],l,l',hl,h=>by rw[cz] at h;rw[←cY h];exact hl
 |m::r,l,l',hl,h=>by
  by_cases h1:m∈l
  ·rw[Lp h1] at h;exact BO r l l' hl h
  ·by_cases h2:l.length=60
   ·rw[DI h1 h2] at h;cases h
   ·rw[add_one h1 h2] at h
    exact BO r _ l' (by rw[bg,fc];omega) h
theorem sY(root:zA)(s:Shf)(o:Qn→Fi):∀(n:Nat)(l:List Mo)(i:Nat)(ps:List Pb),l.length≤60→∃ms qs,(cJ root n l i ps).run s o=.list ms qs∧ms.length≤60
 |0,l,i,ps,hl=>⟨_,_,rfl,aP (pG l) hl⟩
 |n+1,l,i,ps,hl=>by
  cases h:l[i]? with
  |none=>
   rw[yo (n:=n+1) (root:=root) (i:=i) (ps:=ps) (wG.1 h)];exact⟨_,_,rfl,aP (pG l) hl⟩
  |some m=>
   rw[ym h];show ∃ms qs,(jh root n i (ps++(cF (o ⟨2,m.1,m.2⟩)).2) (cz l (cF (o ⟨2,m.1,m.2⟩)).1)).run s o=.list ms qs∧ms.length≤60;cases h2:cz l (cF (o ⟨2,m.1,m.2⟩)).1 with
   |none=>exact⟨_,_,rfl,by show 1≤60;omega⟩
   |some l'=>exact sY root s o n l' (i+1) _ (BO _ l l' hl h2)
theorem DR{s:Shf}{p v:zA}{ms:List Mo}{ps:List Pb}(h:val s ⟨3,p,v⟩=.list ms ps):ms.length≤60:=by
 rw[rA s (ag 3)] at h;have h:gX.run s (orc (v1 s))=.list ms ps:=h;unfold gX at h;simp only[Cm.run] at h
 split at h
 ·injection h with h1 _
  rw[←h1];exact aK _
 ·obtain⟨a,b,e1,e2⟩:=sY (rootOf (s ax)) s (orc (v1 s)) 61 [(rootOf (s ax),e0)] 0 [] (by show 1≤60;omega)
  rw[e1] at h;injection h with h1 _;rw[←h1];exact e2
theorem DT:∀(l:List zA),(∀x∈l,x.size≤2000)→(Lib.join (l.map (·.data.toList)) [32]).length≤l.length*2001
 |[],_=>ag _
 |[x],h=>by
  have h1:x.data.size≤2000:=h x (by simp);rw[bH,fQ,Lib.join_one,oB,fc];omega
 |x::y::r,h=>by
  have ih:=DT (y::r) (fun z hz=>h z (cK _ hz));have h1:x.data.size≤2000:=h x (by simp)
  have e:Lib.join ((x::y::r).map (·.data.toList)) [32]=x.data.toList++[32]++Lib.join ((y::r).map (·.data.toList)) [32]:=by
   simp[Lib.join,List.intercalate]
  rw[e,bg,bg,fc,oB,bX (a:=x)];omega
variable{w w' wr W W1 W3 w1:zW}
structure Wo(W3:World)(n1 pb b5 n:Nat)(wr:World)(pl:Nat→Bool)(ns:List zA)(ps:List Pb)(ov qv:zV):Prop where
 b:Below W3.heap.size W3 wr
 pls:∀j,j<n→Ed.Fd wr pb j (.bool (pl j))
 box:wr.heap[b5]?=some (.cells #[ov,qv] 179)
 orow:wr.ownsRow n1 9 1 ov ns.length (ns.map .string)
 prow:wr.ownsRow n1 76 3 qv ps.length (ps.flatMap aT)
 op:∀b,ov.ownBlock=some b→qv.ownBlock≠some b
 lt:W3.heap.size≤pb∧pb<n1∧W3.heap.size≤b5∧b5<n1∧pb≠b5∧n1≤wr.heap.size
variable{n1 pb b5 n:Nat}{pl:Nat→Bool}{ns:List zA}{ps:List Pb}{ov qv ov' qv':zV}
theorem bh{p:Nat→Prop}(hb:Below w.heap.size w W)(ht:aj p W W1)(hp:∀b,p b→w.heap.size≤b):Below w.heap.size w W1:=
 ⟨ht.os.trans hb.os,ht.tape.trans hb.tape,ht.output.trans hb.output,aP hb.size ht.size,fun b hlt=>(ht.block b (by have:=hb.size;omega) (fun e=>by have:=hp b e;omega)).trans (hb.block b hlt)⟩
theorem Wo.turn{p:Nat→Prop}(h:Wo W3 n1 pb b5 n wr pl ns ps ov qv)(ht:aj p wr W)(hp:∀b,p b→W3.heap.size≤b∧b≠pb∧b≠b5∧ov.ownBlock≠some b∧qv.ownBlock≠some b):Wo W3 n1 pb b5 n W pl ns ps ov qv:=by
 have hl:=h.lt;refine⟨bh h.b ht (fun b e=>(hp b e).1),fun j hj=>(h.pls j hj).of_block (ht.block pb (by omega) (fun e=>(hp pb e).2.1 rfl)),(ht.block b5 (by omega) (fun e=>(hp b5 e).2.2.1 rfl)).trans h.box,ar h.orow (fun b e=>ht.block b (h.orow.lt b e).2 (fun e2=>(hp b e2).2.2.2.1 e)),ar h.prow (fun b e=>ht.block b (h.prow.lt b e).2 (fun e2=>(hp b e2).2.2.2.2 e)),h.op,by have:=ht.size;omega⟩
theorem Wo.below(h:Wo W3 n1 pb b5 n wr pl ns ps ov qv)(hb:Below wr.heap.size wr W):Wo W3 n1 pb b5 n W pl ns ps ov qv:=h.turn (aj.of_below (p:=fun _=>False) hb) (fun _ e=>e.elim)
theorem Wo.place(h:Wo W3 n1 pb b5 n wr pl ns ps ov qv){i:Nat}:Wo W3 n1 pb b5 n (wr.setCell ⟨pb,i,none⟩ (.bool true)) (fun j=>if j=i then true else pl j) ns ps ov qv:=by
 have hl:=h.lt;have ht:aj (fun b=>b=pb) wr (wr.setCell ⟨pb,i,none⟩ (.bool true)):=(aj.refl (fun b=>b=pb) wr).set (a:=⟨pb,i,none⟩) (fun _=>rfl) _;refine⟨bh h.b ht (fun b e=>by omega),fun j hj=>?_,(ht.block b5 (by omega) (fun e=>by omega)).trans h.box,ar h.orow (fun b e=>ht.block b (h.orow.lt b e).2 (fun e2=>by have:=(h.orow.lt b e).1;omega)),ar h.prow (fun b e=>ht.block b (h.prow.lt b e).2 (fun e2=>by have:=(h.prow.lt b e).1;omega)),h.op,by have:=ht.size;omega⟩;by_cases e:j=i
 ·subst e;rw[ah rfl];exact pB (h.pls j hj) _
 ·rw[af e];exact(h.pls j hj).set e
theorem Wo.putO{xs:List zA}(h:Wo W3 n1 pb b5 n W pl ns ps ov qv)(hg:W.grownBy w1 ov.ownBlock)(hown:w1.ownsRow n1 9 1 ov' (ns.length+xs.length) ((ns++xs).map .string))(hat:∀b,ov'.ownBlock=some b→ov.ownBlock=some b∨W.heap.size≤b):Wo W3 n1 pb b5 n (w1.setCell ⟨b5,0,none⟩ ov') pl (ns++xs) ps ov' qv:=by
 have hl:=h.lt;have ht1:aj (fun b=>ov.ownBlock=some b) W w1:=(aj.refl _ W).grown hg (fun b _ e=>e);have ht2:aj (fun b=>b=b5) w1 (w1.setCell ⟨b5,0,none⟩ ov'):=(aj.refl (fun b=>b=b5) w1).set (a:=⟨b5,0,none⟩) (fun _=>rfl) _;have ht:aj (fun b=>ov.ownBlock=some b∨b=b5) W (w1.setCell ⟨b5,0,none⟩ ov'):=ht1.trans ht2 (fun _ _ e=>Or.inl e) (fun _ _ e=>Or.inr e);have ho:∀b,ov.ownBlock=some b→n1≤b:=fun b e=>(h.orow.lt b e).1
 have hq:∀b,qv.ownBlock=some b→n1≤b∧b<W.heap.size:=fun b e=>h.prow.lt b e
 refine⟨bh h.b ht (fun b e=>?_),fun j hj=>(h.pls j hj).of_block (ht.block pb (by omega) (fun e=>?_)),?_,?_,ar h.prow (fun b e=>ht.block b (hq b e).2 (fun e2=>?_)),fun b e e2=>?_,by have:=ht.size;omega⟩
 ·rcases e with e|e
  ·have:=ho b e;omega
  ·omega
 ·rcases e with e|e
  ·have:=ho pb e;omega
  ·omega
 ·exact cg _ _ 0 _ _ _ ((ht1.block b5 (by omega) (fun e=>by have:=ho b5 e;omega)).trans h.box)
 ·rw[bg]
  exact ar hown (fun b e=>ht2.block b (hown.lt b e).2 (fun e2=>by have:=(hown.lt b e).1;omega))
 ·rcases e2 with e2|e2
  ·exact h.op b e2 e
  ·have:=hq b e;omega
 ·rcases hat b e with e3|e3
  ·exact h.op b e3 e2
  ·have:=hq b e2;omega
theorem Wo.putP{p:Pb}(h:Wo W3 n1 pb b5 n W pl ns ps ov qv)(hg:W.grownBy w1 qv.ownBlock)(hown:w1.ownsRow n1 76 3 qv' (ps.length+1) ((ps++[p]).flatMap aT))(hat:∀b,qv'.ownBlock=some b→qv.ownBlock=some b∨W.heap.size≤b):Wo W3 n1 pb b5 n (w1.setCell ⟨b5,1,none⟩ qv') pl ns (ps++[p]) ov qv':=by
 have hl:=h.lt;have ht1:aj (fun b=>qv.ownBlock=some b) W w1:=(aj.refl _ W).grown hg (fun b _ e=>e);have ht2:aj (fun b=>b=b5) w1 (w1.setCell ⟨b5,1,none⟩ qv'):=(aj.refl (fun b=>b=b5) w1).set (a:=⟨b5,1,none⟩) (fun _=>rfl) _;have ht:aj (fun b=>qv.ownBlock=some b∨b=b5) W (w1.setCell ⟨b5,1,none⟩ qv'):=ht1.trans ht2 (fun _ _ e=>Or.inl e) (fun _ _ e=>Or.inr e);have hq:∀b,qv.ownBlock=some b→n1≤b:=fun b e=>(h.prow.lt b e).1
 have ho:∀b,ov.ownBlock=some b→n1≤b∧b<W.heap.size:=fun b e=>h.orow.lt b e
 refine⟨bh h.b ht (fun b e=>?_),fun j hj=>(h.pls j hj).of_block (ht.block pb (by omega) (fun e=>?_)),?_,ar h.orow (fun b e=>ht.block b (ho b e).2 (fun e2=>?_)),?_,fun b e e2=>?_,by have:=ht.size;omega⟩
 ·rcases e with e|e
  ·have:=hq b e;omega
  ·omega
 ·rcases e with e|e
  ·have:=hq pb e;omega
  ·omega
 ·exact cg _ _ 1 _ _ _ ((ht1.block b5 (by omega) (fun e=>by have:=hq b5 e;omega)).trans h.box)
 ·rcases e2 with e2|e2
  ·exact h.op b e e2
  ·have:=ho b e;omega
 ·rw[bg]
  exact ar hown (fun b e=>ht2.block b (hown.lt b e).2 (fun e2=>by have:=(hown.lt b e).1;omega))
 ·rcases hat b e2 with e3|e3
  ·exact h.op b e e3
  ·have:=ho b e;omega
end Pn
namespace Pn
open Mf Ed
variable{A A1 A2 A3:Nat→Prop}{S:Nat→Shf}{w w' wr wx W W1 w1 w2 w3 wf:zW}{db sb fb mb now:Nat}{cap:Int}{cs cs' cs2:List Int}{D D' D1 D2 D3:List Kp}{L L':List (zV×zV)}{B tb:Nat}{tv tv' tv2 tv3:zV}{ts ts' ts2:List Tie}{q:Qn}{k kk:Kp}{F:Find}{g:Nat}{n n1 b:Nat}{o:Obj}{Wk Wk3:List Qn}{pb b5:Nat}{pl pl':Nat→Bool}{ns:List zA}{ps:List Pb}{ov qv:zV}{rb:Nat}
theorem LI(a b:zV)(W:zW):(Instr.field 176 (.agg #[a,b]) 0).run prog W=.ok a W:=by kernel_rfl
theorem DU:∀l:List zA,l.map Value.string=l.flatMap fW
 |[]=>rfl
 |x::r=>by rw[bH,ig,DU r];rfl
theorem Fo{ms:List Mo}{gs:List Nat}{k x:Nat}{y:Mo}(h:gs[k]?=some x)(hy:ms[x]?=some y):aQ ms (gs.take (k+1))=aQ ms (gs.take k)++[y.1]:=by
 obtain⟨hk,e⟩:=cq.1 h;unfold aQ;rw[oo hk,e,eQ,bH,fQ,hy]
 rfl
theorem LJ{gs:List Nat}{k x j:Nat}(h:gs[k]?=some x):(gs.take (k+1)).contains j=((gs.take k).contains j||j==x):=by
 obtain⟨hk,e⟩:=cq.1 h;rw[oo hk,e];simp
 rfl
theorem jM(ms:List Mo)(gs:List Nat):(aQ ms gs).length=gs.length:=by simp[aQ]
theorem Wo.congr(h:Wo w3 n1 pb b5 n wr pl ns ps ov qv)(e:∀j,j<n→pl j=pl' j):Wo w3 n1 pb b5 n wr pl' ns ps ov qv:=
 ⟨h.b,fun j hj=>by rw[←e j hj];exact h.pls j hj,h.box,h.orow,h.prow,h.op,h.lt⟩
theorem Wo.done{NS:List zA}{PS:List Pb}{l:List (Nat×Obj)}(hS:Stp A S w B tb db sb fb mb now cap L cs D w3 A3 (counted cs Wk) D3 tv3 ts' l)(hl:(rb,.cells #[zN,zN] 179)∈l)(hA:A3 rb)(pre:Pre F (S now) D (dh ⟨4,e0,e0⟩) D3 (.ret (.ord NS PS)) ts' Wk)(hO:Wo w3 n1 pb b5 n wr pl NS PS ov qv)(hok:∀t∈ts',jg t)(hsz:NS.length≤100000∧PS.length≤100000∧ts'.length≤10000):
  fY A S w B tb db sb fb mb now cap cs D L F ⟨4,e0,e0⟩ (.iface 179 (.agg #[ov,qv])) ((wr.setCell ⟨rb,0,none⟩ ov).setCell ⟨rb,1,none⟩ qv):=by
 have hL:=hS.lcs _ hl;have hrb:rb<w3.heap.size:=hL.lt;have hlt:=hO.lt;have ht2:aj (fun b=>b=rb) wr ((wr.setCell ⟨rb,0,none⟩ ov).setCell ⟨rb,1,none⟩ qv):=((aj.refl (fun b=>b=rb) wr).set (a:=⟨rb,0,none⟩) (fun _=>rfl) _).set (a:=⟨rb,1,none⟩) (fun _=>rfl) _;have ht:aj (fun b=>b=rb) w3 ((wr.setCell ⟨rb,0,none⟩ ov).setCell ⟨rb,1,none⟩ qv):=(aj.of_below (p:=fun b=>b=rb) hO.b).trans ht2 (fun _ _ e=>e) (fun _ _ e=>e);have hw:=hS.went.put (Q:=fun _=>False) hS.h0 ht (fun b _ e=>by rw[e];exact⟨hA,hL.le,hL.ne⟩) (fun b e=>e.elim)
 have hno:∀b,n1≤b→¬(A3 b∨False):=fun b hb e=>by
  rcases e with e|e
  ·have:=hS.went.t.eng.hA _ e;omega
  ·exact e
 have o2:((wr.setCell ⟨rb,0,none⟩ ov).setCell ⟨rb,1,none⟩ qv).ownsRow n1 9 1 ov NS.length (NS.map .string):=ar hO.orow (fun b e=>ht2.block b (hO.orow.lt b e).2 (fun e2=>by have:=(hO.orow.lt b e).1;omega));have p2:((wr.setCell ⟨rb,0,none⟩ ov).setCell ⟨rb,1,none⟩ qv).ownsRow n1 76 3 qv PS.length (PS.flatMap aT):=ar hO.prow (fun b e=>ht2.block b (hO.prow.lt b e).2 (fun e2=>by have:=(hO.prow.lt b e).1;omega));have es:NS.map Value.string=NS.flatMap fW:=DU NS;exact⟨_,tv3,.ord NS PS,D3,Wk,ts',⟨ov,qv,rfl,RdA.Fg o2 es (fun _=>rfl) (fun b e=>hno b (hO.orow.lt b e).1),RdA.Fg p2 rfl (fun _=>rfl) (fun b e=>hno b (hO.prow.lt b e).1)⟩,pre,hw,rfl,trivial,⟨hsz.1,hsz.2.1⟩,hok,hsz.2.2⟩
theorem LK{r:Nat}(hr:2≤r)(hF:eA S db sb fb mb now cap L r):Ow S db sb fb mb now cap L (fnd (S now) now r) (grow r):=by
 intro A w cs D B tb hD h;have HFd:Hid (eA S db sb fb mb now cap L r):=hF;have HD:Hid (D.length+10000*grow r≤N15):=hD
 have HS0:Hid (Stp A S w B tb db sb fb mb now cap L cs D (w.alloc (.cells #[zN,zN] 179)) (fun b=>A b∨b=w.heap.size) cs D (zN) [] [(w.heap.size,.cells #[zN,zN] 179)]):=Stp.start h ((ae _ _).alloc (ag _) _) (fun b=>b=w.heap.size) (fun b e=>by rw[e];exact⟨ag _,by simp⟩) _ (fun x hx=>by
  have e:x=(w.heap.size,.cells #[zN,zN] 179):=by simpa using hx
  rw[e];exact⟨aD _ _,ag _⟩)
 have k0:=Du hF hr (by omega) _ HS0.out.went.t (by show 0≤9999;omega);have hfd:=LI;obtain⟨i9,hi1,hi2,hi3,hi4⟩:=Bm.gM 9 (zE) 1 16 (by kernel_rfl);have HI:Hid (prog.info? 9=some i9∧i9.zero=some (zE)∧i9.size=1∧i9.bytes=16):=⟨hi1,hi2,hi3,hi4⟩;obtain⟨i3,hj1,hj2,hj3,hj4⟩:=Bm.gM 76 (.agg #[zI 0,zE,zE]) 3 40 (by kernel_rfl);have HJ:Hid (prog.info? 76=some i3∧i3.zero=some (.agg #[zI 0,zE,zE])∧i3.size=3∧i3.bytes=40):=⟨hj1,hj2,hj3,hj4⟩;clear hi1 hi2 hi3 hi4 hj1 hj2 hj3 hj4;clear h hF hD;go_enter func312,ntmps312
 go_wp2_with (go_at_call 102;fail)
 generalize w.alloc (.cells #[zN,zN] 179)=W0 at*;go_at_call 102;refine k0.mono ?_;rintro e w1 ⟨A1,tv1,ms,ps0,a,b,kA,D1,Wk1,rfl,⟨hra,hrb⟩,hkf,hk⟩;have hok:=kE HS0.out.went.t.eng.inv hk.1 (by show 2≤r;exact hr) (by show 3≤4;omega) hk.2.1.eng.ok
 have HMs:Hid (∀x∈ms,x.1.size≤N48∧x.2.size≤N48):=by
  have h1:=hok.2.f;rw[hkf] at h1;exact h1
 have Re:ms.length≤60:=DR (by rw[←hok.1];exact hkf);have HA1:Hid (A1 w.heap.size):=hk.went.sub _ (Or.inr rfl);have HS1:Hid (Stp A S w B tb db sb fb mb now cap L cs D w1 A1 (counted cs Wk1) D1 tv1 ([]++[.ask ⟨3,e0,e0⟩]) [(w.heap.size,.cells #[zN,zN] 179)]):=HS0.out.call hk.went
 have HP1:Hid (Pre (fnd (S now) now r) (S now) D (dh ⟨4,e0,e0⟩) D1 (eN (gO ms) ms []) ([]++[.ask ⟨3,e0,e0⟩]) ([]++Wk1)):=by
  have h0:Pre (fnd (S now) now r) (S now) D (dh ⟨4,e0,e0⟩) D (uZ gO) [] []:=Pre.start;have h1:=Pre.ask h0 hk.1;rw[hkf] at h1;exact h1
 have HD1:Hid (D1.length≤D.length+grow r):=mh _ _ r _ _ _ _ _ hk.1;obtain⟨aa,ac,ea⟩:=hra.len;obtain⟨ba,bc,eb⟩:=hrb.len;subst ea;subst eb;have k1:=zh (by omega:1≤r) HFd.out ms aa ac (by omega) HMs.out (by have h1:=HD1.out;have h2:=HD.out;omega) w1 hra HS1.out.went.t (by show 1≤8000;omega);clear hra hrb hkf hk hok k0 HS0
 go_wp2_with (go_at_call 331;fail)
 go_at_call 331;refine k1.mono ?_;rintro e w3 ⟨A3,tv3,D3,Wk3,ws,nb,rbf,rfl,Qe,yi,hpre,hrd⟩
 have HS3:Hid (Stp A S w B tb db sb fb mb now cap L cs D w3 A3 (counted cs (([]++Wk1)++Wk3)) D3 tv3 (([]++[.ask ⟨3,e0,e0⟩])++ms.map ft) [(w.heap.size,.cells #[zN,zN] 179)]):=by
  rw[jS,←fz];exact HS1.out.call yi
 have HA3:Hid (A3 w.heap.size):=yi.sub _ HA1.out;obtain⟨mm,hmm⟩:∃mm,mm=aM (dO ms ws) ms.length:=⟨_,rfl⟩;rw[←hmm] at Qe;obtain⟨NS,hNS⟩:∃NS,NS=(bG ms.length mm (ms.length+1) (fun _=>false)).flatMap (aQ ms):=⟨_,rfl⟩;obtain⟨PS,hPS⟩:∃PS,PS=(bG ms.length mm (ms.length+1) (fun _=>false)).flatMap (dx ms):=⟨_,rfl⟩
 have HP3:Hid (Pre (fnd (S now) now r) (S now) D (dh ⟨4,e0,e0⟩) D3 (.ret (.ord NS PS)) (([]++[.ask ⟨3,e0,e0⟩])++ms.map ft) (([]++Wk1)++Wk3)):=by
  have h:=hpre (gO ms) D _ _ HP1.out;rw[hNS,hPS,hmm];exact h
 have HTk:Hid (∀t∈(([]++[Tie.ask ⟨3,e0,e0⟩])++ms.map ft),jg t):=fun t ht=>by
  rcases bJ.1 ht with ht|ht
  ·have e:t=.ask ⟨3,e0,e0⟩:=by simpa using ht
   rw[e];exact⟨aK _,aK _⟩
  ·obtain⟨x,hx,e⟩:=bD.1 ht
   rw[←e];exact⟨(HMs.out x hx).1,(HMs.out x hx).2⟩
 have HLn:Hid ((([]++[Tie.ask ⟨3,e0,e0⟩])++ms.map ft).length≤10000):=by
  show(([]++[Tie.ask ⟨3,e0,e0⟩])++ms.map ft).length≤10000;rw[bg,bE];show 1+ms.length≤10000;omega
 generalize (([]++[Tie.ask ⟨3,e0,e0⟩])++ms.map ft)=ts3 at*;generalize (([]++Wk1)++Wk3)=Wq at*;obtain⟨ZR,hZR,hmR⟩:=yr 320 4 (.bool false) 1 underlying320 (by kernel_rfl) rfl ms.length (by omega) (by omega);have HMat:Hid (mD w3 nb rbf ms.length mm):=Qe;have HRd:Hid (RdA A3 Sm.mc w3 (.slice aa ms.length ac) ms):=hrd;have HG0:Hid ([]++(bG ms.length mm (ms.length+1) (fun _=>false)).flatMap (aQ ms)=NS∧[]++(bG ms.length mm (ms.length+1) (fun _=>false)).flatMap (dx ms)=PS):=⟨by rw[jS];exact hNS.symm,by rw[jS];exact hPS.symm⟩;clear Qe yi hpre hrd k1 hmm hNS hPS HS1 HA1 HP1 HD1 hfd;generalize hn:ms.length=n at*;have HN:Hid (ms.length=n):=hn;clear hn
 have HO0:Hid (Wo w3 (w3.heap.size+2) (w3.heap.size+1) w3.heap.size n ((w3.alloc (.cells #[zN,zN] 179)).alloc (.cells ZR 4)) (fun _=>false) [] [] (zN) (zN)):=by
  have hb0:Below w3.heap.size w3 (w3.alloc (.cells #[zN,zN] 179)):=(ae _ _).alloc (ag _) _;refine⟨hb0.alloc hb0.size _,fun j hj=>Al w3 _ ZR 4 (hZR j hj),(aG _ _ _ (by simp)).trans (aD _ _),iW _ _ _ _,iW _ _ _ _,fun b e=>by simp[Value.ownBlock] at e,?_⟩;have hz:((w3.alloc (.cells #[zN,zN] 179)).alloc (.cells ZR 4)).heap.size=w3.heap.size+2:=by simp
  rw[hz];omega
 have k2:=lO n nb (w3.heap.size+1) rbf mm (fun _=>false) ((w3.alloc (.cells #[zN,zN] 179)).alloc (.cells ZR 4)) (by omega) (HMat.out.below HO0.out.b) (fun j hj=>(HO0.out.pls j hj).1);clear hZR
 go_wp2_with (go_at_call 332;fail)
 generalize (w3.alloc (.cells #[zN,zN] 179)).alloc (.cells ZR 4)=W4 at*;go_at_call 332;refine k2.mono ?_;rintro e w5 ⟨gv,rfl,hg5,hb5⟩;have HO5:Hid (Wo w3 (w3.heap.size+2) (w3.heap.size+1) w3.heap.size n w5 (fun _=>false) [] [] (zN) (zN)∧w5.ownsRow (w3.heap.size+2) 3 1 gv (cj n mm (fun _=>false)).length (gF (cj n mm (fun _=>false)))∧∀b,gv.ownBlock=some b→(Value.slice none 0 0).ownBlock≠some b∧(Value.slice none 0 0).ownBlock≠some b):=⟨HO0.out.below hb5,sV hg5 HO0.out.lt.2.2.2.2.2,fun b _=>⟨by simp[Value.ownBlock],by simp[Value.ownBlock]⟩⟩;clear hg5 hb5 k2 HO0 hmR;generalize hn1:w3.heap.size+2=n1 at*;generalize hpb:w3.heap.size+1=pb at*;generalize hb5:w3.heap.size=b5 at*;clear hn1 hpb hb5;have TA:=HO5.out.1.lt;go_wp2;go_loopg [7] (n+1) (fun gg s7 wr=>∃(f:Nat)(pl:Nat→Bool)(ns:List zA)(ps:List Pb)(ov qv gv:zV),(leftOf n pl<f∧leftOf n pl≤gg)∧gv=s7∧Hid (Wo w3 n1 pb b5 n wr pl ns ps ov qv∧wr.ownsRow n1 3 1 gv (cj n mm pl).length (gF (cj n mm pl))∧∀b,gv.ownBlock=some b→ov.ownBlock≠some b∧qv.ownBlock≠some b)∧Hid (ns++(bG n mm f pl).flatMap (aQ ms)=NS∧ps++(bG n mm f pl).flatMap (dx ms)=PS)∧Hid (ns.length≤(n-leftOf n pl)*n∧ps.length≤n-leftOf n pl))
 case atStart=>exact⟨n+1,_,_,_,_,_,_,⟨mO (pZ n _),Nat.le_succ_of_le (pZ n _)⟩,rfl,HO5,HG0,aK _,aK _⟩
 case round=>
  obtain⟨f,pl,ns,ps,ov,qv,gv,hf,hgv,HO,HG,HC⟩:=hrel;subst hgv;clear HO5 HG0;have hll:=pZ n pl;by_cases hg0:cj n mm pl=[]
  ·have HE:Hid (ns=NS∧ps=PS):=by
    have h:=HG.out;rw[yt hg0] at h;exact⟨by simpa using h.1,by simpa using h.2⟩
   have hgl:(cj n mm pl).length=0:=by rw[hg0];rfl
   obtain⟨ga,gc,eg⟩:=ay HO.out.2.1;subst eg;obtain⟨oa,oc,eo⟩:=ay HO.out.1.orow;obtain⟨qa,qc,eq⟩:=ay HO.out.1.prow;subst eo;subst eq;obtain⟨⟨c0,_⟩,⟨c1,_⟩⟩:=fd2 HO.out.1.box;have HXr:Hid (wr.heap[w.heap.size]?=some (.cells #[zN,zN] 179)):=(HO.out.1.b.block _ (HS3.out.lcs (w.heap.size,.cells #[zN,zN] 179) (by simp)).lt).trans (HS3.out.at (by simp));obtain⟨⟨d0,f0⟩,⟨d1,f1⟩⟩:=fd2 HXr.out;have hC:=HC.out;rw[hgl];go_wp2;refine aI (bM results312 _ _ w.heap.size 179 _ (0,0) _ rfl (gA HXr.out _ _) underlying179 rfl (by kernel_rfl)) rfl ?_;have hO2:=HO.out.1;refine⟨_,rfl,Wo.done HS3.out (by simp) HA3.out HP3.out (by rw[←HE.out.1,←HE.out.2];exact hO2) HTk.out ⟨?_,?_,HLn.out⟩⟩
   ·rw[←HE.out.1]
    have:(n-leftOf n pl)*n≤60*60:=Nat.mul_le_mul (by omega) Re;omega
   ·rw[←HE.out.2];omega
  ·obtain⟨gs,hgs⟩:∃gs,gs=cj n mm pl:=⟨_,rfl⟩
   have HL:Hid (leftOf n (fun i=>pl i||gs.contains i)<leftOf n pl):=by rw[hgs];exact Gq hg0
   have HLt:Hid (∀i∈gs,i<n):=fun i hi=>N3 (by rw[hgs] at hi;exact hi)
   have hGn:gs.length≤n:=by rw[hgs];exact LG n mm pl
   have hG0:0<gs.length:=by
    rw[hgs];exact gp.2 hg0
   have HG2:Hid ((ns++aQ ms gs)++(bG n mm (f-1) (fun i=>pl i||gs.contains i)).flatMap (aQ ms)=NS∧(ps++dx ms gs)++(bG n mm (f-1) (fun i=>pl i||gs.contains i)).flatMap (dx ms)=PS):=by
    have h:=HG.out;rw[show f=(f-1)+1 by omega,vD hg0,←hgs,ig,ig] at h;exact⟨by rw[eP];exact h.1,by rw[eP];exact h.2⟩
   rw[←hgs] at HO;clear hg0 hgs HG;obtain⟨gb,gc,eg⟩:=dL HO.out.2.1 hG0;subst eg;generalize hG:gs.length=G at*;have HGl:Hid (gs.length=G):=hG;clear hG;have hG1:((G:Nat):Int)>0:=by omega
   obtain⟨p1,hp1⟩:∃p1,p1=wr.heap.size:=⟨_,rfl⟩
   have HB1:Hid ((gb<p1∧n1≤gb)∧(∀b,ov.ownBlock=some b→b<p1)∧(∀b,qv.ownBlock=some b→b<p1)∧(ov.ownBlock≠some gb∧qv.ownBlock≠some gb)∧n1≤p1):=by
    rw[hp1];exact⟨⟨(HO.out.2.1.lt gb rfl).2,(HO.out.2.1.lt gb rfl).1⟩,fun b e=>(HO.out.1.orow.lt b e).2,fun b e=>(HO.out.1.prow.lt b e).2,HO.out.2.2 gb rfl,HO.out.1.lt.2.2.2.2.2⟩
   have HV0:Hid (Wo w3 n1 pb b5 n wr pl ns ps ov qv∧wr.ownsRow n1 3 1 (.slice (some ⟨gb,0,none⟩) G gc) G (gF gs)∧p1≤wr.heap.size):=⟨HO.out.1,HO.out.2.1,by rw[hp1];exact ag _⟩;clear HO hp1;go_wp2;go_loopg [8,31] G (fun g2 s8 s31 wr2=>∃(k:Nat)(pl2:Nat→Bool)(pv2:zV),k≤G∧G-k≤g2∧pv2=s8∧s31=zI k∧Hid (Wo w3 n1 pb b5 n wr2 pl2 ns ps ov qv∧wr2.ownsRow n1 3 1 (.slice (some ⟨gb,0,none⟩) G gc) G (gF gs)∧p1≤wr2.heap.size)∧Hid (wr2.ownsRow p1 9 1 pv2 k ((aQ ms (gs.take k)).map .string)∧∀j,j<n→pl2 j=(pl j||(gs.take k).contains j)))
   case atStart=>exact⟨0,pl,zN,by omega,by omega,rfl,rfl,HV0,iW _ _ _ _,fun j _=>by simp⟩
   case round=>
    obtain⟨k,pl2,pv2,hk,hg2,hpv,rfl,HV,HP⟩:=hrel;subst hpv;clear HV0;obtain⟨pa,pc,epv⟩:=ay HP.out.1;subst epv;have hlt:=HV.out.1.lt;have hp1:=HV.out.2.2;have TB:=HB1.out.2.2.2.2;by_cases hkn:k<G
    ·have hkl:((k:Nat):Int)<(G:Int):=by omega
     have hkL:k<gs.length:=by rw[HGl.out];exact hkn
     have HX:Hid (gs[k]?=some gs[k]):=aO hkL;have hxn:gs[k]<n:=HLt.out _ (bL _)
     have c0:wr.cell? ⟨gb,k,none⟩=some (zI ((gs[k]:Nat):Int)):=by
      have h:=HV.out.2.1.cellAt k (by omega);rw[h];unfold gF;rw[eU,aO hkL]
      rfl
     generalize gs[k]=x at*;have hxl:((x:Nat):Int)<(n:Int):=by omega
     obtain⟨c2,f2⟩:=HV.out.1.pls x hxn;have hxL:x<ms.length:=by rw[HN.out];exact hxn
     have HV2:Hid (Wo w3 n1 pb b5 n (wr.setCell ⟨pb,x,none⟩ (.bool true)) (fun j=>if j=x then true else pl2 j) ns ps ov qv∧(wr.setCell ⟨pb,x,none⟩ (.bool true)).ownsRow n1 3 1 (.slice (some ⟨gb,0,none⟩) G gc) G (gF gs)∧p1≤(wr.setCell ⟨pb,x,none⟩ (.bool true)).heap.size∧(wr.setCell ⟨pb,x,none⟩ (.bool true)).ownsRow p1 9 1 (.slice pa k pc) k ((aQ ms (gs.take k)).map .string)):=by
      have ht:aj (fun b=>b=pb) wr (wr.setCell ⟨pb,x,none⟩ (.bool true)):=(aj.refl (fun b=>b=pb) wr).set (a:=⟨pb,x,none⟩) (fun _=>rfl) _;refine⟨HV.out.1.place,ar HV.out.2.1 (fun b e=>ht.block b (HV.out.2.1.lt b e).2 (fun e2=>by have:=(HV.out.2.1.lt b e).1;omega)),by have:=ht.size;omega,ar HP.out.1 (fun b e=>ht.block b (HP.out.1.lt b e).2 (fun e2=>by have:=(HP.out.1.lt b e).1;omega))⟩
     obtain⟨bm,om,cm,em,hx⟩:=RdA.at HRd.out kz (by decide) HV2.out.1.b x hxL;injection em with em1 em2 em3;have y0:=hx 0 _ rfl;have HY:Hid (ms[x]?=some ms[x]):=aO hxL;generalize ms[x]=y at*;obtain⟨yp,yv⟩:=y;rw[Nat.add_zero] at y0;simp only at y0;subst em1;clear hx em2 em3;go_upto_region 13 with fail;clear c0 c2 f2;generalize wr.setCell ⟨pb,x,none⟩ (.bool true)=Wp at*;obtain⟨PX,hPX⟩:∃PX,PX=(aQ ms (gs.take k)).map Value.string:=⟨_,rfl⟩;have HPX:Hid (PX=(aQ ms (gs.take k)).map Value.string):=hPX;rw[←hPX] at HV2;clear hPX;have hnw:∀j u,[Value.string yp][j]?=some u→(Wp.alloc (.cells #[.string yp] 9)).cell? ((⟨Wp.heap.size,0,none⟩:Addr).add j)=some u:=cell_one_new Wp _ 9;have hsz:(Wp.alloc (.cells #[.string yp] 9)).heap.size=Wp.heap.size+1:=by simp
     have TC:=HV2.out.2.2.1
     go_wp2_with (at_builtin;refine dU _ rfl _ _ 33 rfl p1 9 i9 (zE) 1 16 underlying33 HI.out.1 HI.out.2.1 HI.out.2.2.1 HI.out.2.2.2 rfl (by decide) (.slice pa k pc) k PX rfl (HV2.out.2.2.2.alloc _) ⟨Wp.heap.size,0,none⟩ 1 1 [.string yp] rfl rfl hnw ?_ ?_ ?_ ?_ ?_)
     all_goals first
      |(show ∀u∈[Value.string yp],u.oneCell'=true;intro u hu;simp at hu;subst hu;rfl)
      |(show(Value.string yp).oneCell'=true;rfl)
      |(show k+1≤maxLen;unfold maxLen;omega)
      |(show(k+1)*16≤140737488355328;omega)
      |(show p1≤(Wp.alloc _).heap.size;rw[hsz];omega)
      |(show p1≤Wp.heap.size+1;omega)
      |skip
     intro lv' w7 hown' hgrow _ hloc
     have HN2:Hid ((Wo w3 n1 pb b5 n w7 (fun j=>if j=x then true else pl2 j) ns ps ov qv∧w7.ownsRow n1 3 1 (.slice (some ⟨gb,0,none⟩) G gc) G (gF gs)∧p1≤w7.heap.size)∧w7.ownsRow p1 9 1 lv' (k+1) ((aQ ms (gs.take (k+1))).map .string)∧∀j,j<n→(if j=x then true else pl2 j)=(pl j||(gs.take (k+1)).contains j)):=by
      have hT:aj (fun b=>(Value.slice pa k pc).ownBlock=some b) Wp w7:=((aj.refl _ _).alloc _).grown hgrow (fun b _ e=>e);have hpo:∀b,(Value.slice pa k pc).ownBlock=some b→p1≤b:=fun b e=>(HV2.out.2.2.2.lt b e).1
      refine⟨⟨HV2.out.1.turn hT (fun b e=>?_),ar HV2.out.2.1 (fun b e=>hT.block b (HV2.out.2.1.lt b e).2 (fun e2=>?_)),by have:=hT.size;omega⟩,?_,fun j hj=>?_⟩
      ·have h1:=hpo b e
       refine⟨by omega,by omega,by omega,fun e2=>?_,fun e2=>?_⟩
       ·have:=HB1.out.2.1 b e2;omega
       ·have:=HB1.out.2.2.1 b e2;omega
      ·have h1:=hpo b e2
       have e3:gb=b:=by simpa[Value.ownBlock] using e
       have:=HB1.out.1.1;omega
      ·rw[Fo HX.out HY.out,eQ,←HPX.out]
       exact hown'
      ·rw[LJ HX.out,HP.out.2 j hj]
       by_cases e:j=x
       ·rw[ah e,e];simp
       ·rw[af e]
        have:(j==x)=false:=by simp[e]
        rw[this,Bool.or_false]
     clear hown' hgrow hloc hnw HV HP HV2 HPX y0;go_wp2;go_roundg (G-(k+1))
     case measure=>omega
     case rel=>exact⟨k+1,_,_,by omega,by omega,rfl,by go_num,HN2.out.1,HN2.out.2⟩
    ·have hkl:(((k:Nat):Int)<(G:Int))=False:=by simp;omega
     have hke:G=k:=by omega
     subst hke;have HO2:Hid (Wo w3 n1 pb b5 n wr (fun i=>pl i||gs.contains i) ns ps ov qv):=HV.out.1.congr (fun j hj=>by rw[HP.out.2 j hj,oy (by rw[HGl.out];exact ag _)]);obtain⟨PX,hPX⟩:∃PX,PX=(aQ ms gs).map Value.string:=⟨_,rfl⟩
     have HPv:Hid (wr.ownsRow p1 9 1 (.slice pa G pc) G PX):=by
      have h:=HP.out.1;rw[oy (by rw[HGl.out];exact ag _),←hPX] at h;exact h
     obtain⟨pp,pc2,ep⟩:=dL HPv.out hG0;injection ep with ep1 ep2 ep3;subst ep1;subst ep3;clear ep2 HV HP;have hPl:PX.length=G*1:=by rw[hPX,bE,jM,HGl.out,Nat.mul_one]
     have HPX:Hid (PX=(aQ ms gs).map Value.string):=hPX;clear hPX;obtain⟨oa,oc,eo⟩:=ay HO2.out.orow;obtain⟨qa,qc,eq⟩:=ay HO2.out.prow;subst eo;subst eq;obtain⟨OX,hOX⟩:∃OX,OX=ns.map Value.string:=⟨_,rfl⟩;have HOr:Hid (wr.ownsRow n1 9 1 (.slice oa ns.length oc) ns.length OX):=by rw[hOX];exact HO2.out.orow
     have HOX:Hid (OX=ns.map Value.string):=hOX;clear hOX
     have hnw:∀j u,PX[j]?=some u→wr.cell? ((⟨pp,0,none⟩:Addr).add j)=some u:=fun j u hj=>by
      have hjl:j<G*1:=by rw[←hPl];exact(cq.1 hj).1
      rw[addr_add,dX,HPv.out.cellAt j hjl];exact hj
     have h1c:∀u∈PX,u.oneCell'=true:=fun u hu=>by
      rw[HPX.out] at hu;obtain⟨x,_,e⟩:=bD.1 hu;rw[←e];rfl
     obtain⟨⟨c0,fr0⟩,⟨c1,fr1⟩⟩:=fd2 HO2.out.box
     have hns:ns.length≤3600:=by
      have h1:=HC.out.1;have h2:(n-leftOf n pl)*n≤60*60:=Nat.mul_le_mul (by omega) Re;omega
     go_wp2_with (at_builtin;refine dU _ rfl _ _ 33 rfl n1 9 i9 (zE) 1 16 underlying33 HI.out.1 HI.out.2.1 HI.out.2.2.1 HI.out.2.2.2 rfl (by decide) (.slice oa ns.length oc) ns.length OX rfl HOr.out ⟨pp,0,none⟩ G pc PX rfl hPl hnw ?_ ?_ ?_ ?_ ?_)
     all_goals first
      |exact h1c
      |(show ns.length+G≤maxLen;unfold maxLen;omega)
      |(show(ns.length+G)*16≤140737488355328;omega)
      |(show n1≤wr.heap.size;omega)
      |skip
     intro lv' w8 hown' hgrow _ hloc;obtain⟨og,oc2,elv⟩:=dL hown' (by omega);subst elv;have hT:aj (fun b=>(Value.slice oa ns.length oc).ownBlock=some b) wr w8:=(aj.refl _ _).grown hgrow (fun b _ e=>e)
     have hat:∀b',(Value.slice (some ⟨og,0,none⟩) (ns.length+G) oc2).ownBlock=some b'→(Value.slice oa ns.length oc).ownBlock=some b'∨wr.heap.size≤b':=fun b' e=>by
      rcases hloc with e2|e2
      ·exact Or.inl (by rw[←e2];exact e)
      ·right
       rw[e2] at e;have e3:wr.heap.size=b':=by simpa using e
       omega
     have hX8:w8.heap[b5]?=some (.cells #[.slice oa ns.length oc,.slice qa ps.length qc] 179):=(hT.block b5 (by omega) (fun e=>by have:=(HOr.out.lt b5 e).1;omega)).trans HO2.out.box;have HO3:Hid (Wo w3 n1 pb b5 n (w8.setCell ⟨b5,0,none⟩ (.slice (some ⟨og,0,none⟩) (ns.length+G) oc2)) (fun i=>pl i||gs.contains i) (ns++aQ ms gs) ps (.slice (some ⟨og,0,none⟩) (ns.length+G) oc2) (.slice qa ps.length qc)):=HO2.out.putO (xs:=aQ ms gs) hgrow (by rw[jM,HGl.out,eQ,←HPX.out,←HOX.out];exact hown') hat
     have HP3':Hid ((w8.setCell ⟨b5,0,none⟩ (.slice (some ⟨og,0,none⟩) (ns.length+G) oc2)).ownsRow p1 9 1 (.slice (some ⟨pp,0,none⟩) G pc) G PX):=by
      have hT2:aj (fun b=>(Value.slice oa ns.length oc).ownBlock=some b∨b=b5) wr (w8.setCell ⟨b5,0,none⟩ (.slice (some ⟨og,0,none⟩) (ns.length+G) oc2)):=hT.trans ((aj.refl (fun b=>b=b5) w8).set (a:=⟨b5,0,none⟩) (fun _=>rfl) _) (fun _ _ e=>Or.inl e) (fun _ _ e=>Or.inr e);refine ar HPv.out (fun b e=>hT2.block b (HPv.out.lt b e).2 (fun e2=>?_));have h1:=(HPv.out.lt b e).1;rcases e2 with e2|e2
      ·have:=HB1.out.2.1 b e2;omega
      ·omega
     obtain⟨⟨d0,g0⟩,⟨d1,g1⟩⟩:=fd2 hX8;clear hown' hgrow hloc hat hX8 hT hnw c0 c1 fr0 fr1 HO2 HPv HOr;go_upto_region 16 with fail;clear d0 g0 d1 g1;generalize w8.setCell ⟨b5,0,none⟩ (.slice (some ⟨og,0,none⟩) (ns.length+G) oc2)=W9 at*;have HO3':Hid (Wo w3 n1 pb b5 n W9 (fun i=>pl i||gs.contains i) (ns++aQ ms gs) ps (.slice (some ⟨og,0,none⟩) (ns.length+G) oc2) (.slice qa ps.length qc)∧True):=⟨HO3.out,trivial⟩;by_cases hG2:1<G
     ·have hGi:((G:Nat):Int)>1:=by omega
      obtain⟨p0,hp0⟩:∃p0,(aQ ms gs)[0]?=some p0:=by
       cases e:(aQ ms gs)[0]? with
       |none=>rw[wG,jM,HGl.out] at e;omega
       |some y=>exact⟨y,rfl⟩
      obtain⟨jn,hjn⟩:∃jn,jn=sG (aQ ms gs):=⟨_,rfl⟩
      have HG3:Hid ((ns++aQ ms gs)++(bG n mm (f-1) (fun i=>pl i||gs.contains i)).flatMap (aQ ms)=NS∧(ps++[(10,p0,jn)])++(bG n mm (f-1) (fun i=>pl i||gs.contains i)).flatMap (dx ms)=PS):=by
       have h:=HG2.out
       have e:dx ms gs=[(10,p0,jn)]:=by
        unfold dx;rw[ah (by rw[HGl.out];exact hG2),hp0,hjn]
        rfl
       rw[e] at h;exact h
      have x0:W9.cell? ⟨pp,0,none⟩=some (.string p0):=by
       rw[HP3'.out.cellAt 0 (by omega),HPX.out,eU,hp0]
       rfl
      have hcap:G≤pc:=by
       rcases HP3'.out.2 with⟨e,_⟩|⟨g',c',cur,e,_,_,hle,_⟩
       ·cases e
       ·injection e with _ _ e3
        rw[e3];exact hle
      have hpp:=(HP3'.out.lt pp rfl).2
      have K132:Hid (∀W,Below W9.heap.size W9 W→zC 132 #[.slice (some ⟨pp,0,none⟩) G pc,.string ⟨#[32]⟩] W fun e w'=>e=.returned (.string jn)∧Below W.heap.size W w'):=fun W hb=>by
       have hpl:(aQ ms gs).length=G:=by rw[jM,HGl.out]
       have hsz:∀x∈aQ ms gs,x.size≤2000:=fun x hx=>by
        unfold aQ at hx;obtain⟨i,hi,e⟩:=bD.1 hx;have hin:i<ms.length:=by rw[HN.out];exact HLt.out i hi
        rw[←e,aO hin];exact(HMs.out _ (bL _)).1
       have hjl:=DT (aQ ms gs) hsz
       have h:=Tryz.strings_Join pp 0 pc (aQ ms gs) ⟨#[32]⟩ W (fun j x hj=>by
        rw[dX,hb.cell (p:=⟨pp,j,none⟩) hpp,HP3'.out.cellAt j (by rw[Nat.mul_one,←hpl];exact(cq.1 hj).1),HPX.out,eU,hj]
        rfl) (by have:=hb.size;omega) (by rw[hpl];omega) (by rw[hpl];exact hcap) (by
        show(Lib.join ((aQ ms gs).map (·.data.toList)) [32]).length≤_;rw[hpl] at hjl;omega)
       rw[hpl] at h;rw[hjn];exact h
      obtain⟨QX,hQX⟩:∃QX,QX=ps.flatMap aT:=⟨_,rfl⟩;have HQr:Hid (W9.ownsRow n1 76 3 (.slice qa ps.length qc) ps.length QX):=by rw[hQX];exact HO3.out.prow
      have HQX:Hid (QX=ps.flatMap aT):=hQX;have TD:=HO3.out.lt;have hps:ps.length≤60:=by have:=HC.out.2;omega
      have H7:Hid (∀w7,Below W9.heap.size W9 w7→(w7.cell? ⟨b5,1,none⟩=some (.slice qa ps.length qc)∧w7.frozen? ⟨b5,1,none⟩=false)∧w7.cell? ⟨pp,0,none⟩=some (.string p0)∧((∀o,(w7.alloc o).cell? ⟨b5,1,none⟩=some (.slice qa ps.length qc))∧(∀o,(w7.alloc o).frozen? ⟨b5,1,none⟩=false))∧(∀o,(w7.alloc o).ownsRow n1 76 3 (.slice qa ps.length qc) ps.length QX)∧n1≤w7.heap.size):=fun w7 hb=>by
       have hX:w7.heap[b5]?=_:=(hb.block b5 (by omega)).trans HO3.out.box;have hX2:∀o,(w7.alloc o).heap[b5]?=_:=fun o=>(aG _ _ _ (ai hX)).trans hX
       refine⟨(fd2 hX).2,by rw[hb.cell (p:=⟨pp,0,none⟩) hpp];exact x0,⟨fun o=>(fd2 (hX2 o)).2.1,fun o=>(fd2 (hX2 o)).2.2⟩,fun o=>(ar HQr.out (fun b e=>hb.block b (HQr.out.lt b e).2)).alloc o,by have:=hb.size;omega⟩
      obtain⟨⟨c0,_⟩,⟨c1,f1⟩⟩:=fd2 HO3.out.box;clear hp0 hjn hQX;go_upto_region 17 with fail
      go_region_law
       (first
        |(go_simp;go_at_call 132;refine(K132.out _ ((ae _ _).drew)).mono ?_;rintro e w7 ⟨rfl,hb7⟩;have N4:Below W9.heap.size W9 w7:=((ae W9.heap.size W9).drew).trans hb7;obtain⟨⟨a0,a1⟩,a2,⟨a3,a4⟩,a5,a6⟩:=H7.out w7 N4;clear hb7)
        |(refine step_append_lies _ rfl (.tmp 56) (.tmp 63) 56 rfl n1 76 i3 (.agg #[zI 0,zE,zE]) 3 40 underlying56 HJ.out.1 HJ.out.2.1 HJ.out.2.2.1 HJ.out.2.2.2 rfl (by decide) _ ps.length _ rfl (a5 _) ⟨w7.heap.size,0,none⟩ 1 1 [zI 10,.string p0,.string jn] rfl rfl (fg w7 _ _ _ 76) (fun u hu=>by simp at hu;rcases hu with rfl|rfl|rfl<;>rfl) (by decide) (by unfold maxLen;omega) (by omega) (by show n1≤(w7.alloc _).heap.size;simp;omega) _ rfl ?_;intro g1 cp1 w8 hown hgrow Rf Sz;have hT8:aj (fun b=>(Value.slice qa ps.length qc).ownBlock=some b) w7 w8:=((aj.refl _ _).alloc _).grown ⟨hgrow.os,hgrow.tape,hgrow.output,hgrow.size,hgrow.block⟩ (fun b _ e=>e);have hX8:w8.heap[b5]?=some (.cells #[(.slice (some ⟨og,0,none⟩) (ns.length+G) oc2),(.slice qa ps.length qc)] 179):=(hT8.block b5 (by omega) (fun e=>by have:=(HQr.out.lt b5 e).1;omega)).trans ((N4.block b5 (by omega)).trans HO3.out.box);have c3:w8.cell? ⟨b5,1,none⟩=some (.slice qa ps.length qc):=(fd2 hX8).2.1;have f3:w8.frozen? ⟨b5,1,none⟩=false:=(fd2 hX8).2.2))
      all_goals
       have HO4:Hid (Wo w3 n1 pb b5 n (w8.setCell ⟨b5,1,none⟩ (.slice (some ⟨g1,0,none⟩) (ps.length+1) cp1)) (fun i=>pl i||gs.contains i) (ns++aQ ms gs) (ps++[(10,p0,jn)]) (.slice (some ⟨og,0,none⟩) (ns.length+G) oc2) (.slice (some ⟨g1,0,none⟩) (ps.length+1) cp1)∧True):=⟨((HO3.out.below N4).below ((ae _ _).alloc (ag _) _)).putP (p:=(10,p0,jn)) ⟨hgrow.os,hgrow.tape,hgrow.output,hgrow.size,hgrow.block⟩ (by
         rw[AR,←HQX.out];exact hown) (fun b e=>by
         have e1:g1=b:=by simpa[Value.ownBlock] using e
         rcases Rf with h|h
         ·exact Or.inl (by rw[←e1];exact h)
         ·right
          have h2:g1=(w7.alloc (.cells #[zI 10,.string p0,.string jn] 76)).heap.size:=h;omega),trivial⟩
       clear hown hgrow Rf Sz hT8 hX8 c3 f3 a0 a1 a2 a3 a4 a5 HO3 HO3' HP3' H7 K132 HQr N4 c0 c1 f1 x0;generalize w8.setCell ⟨b5,1,none⟩ (.slice (some ⟨g1,0,none⟩) (ps.length+1) cp1)=W11 at*;have k9:=lO n nb pb rbf mm (fun i=>pl i||gs.contains i) W11 (by omega) (HMat.out.below HO4.out.1.b) (fun j hj=>(HO4.out.1.pls j hj).1)
       go_wp2_with (go_at_call 332;fail)
       go_at_call 332;refine k9.mono ?_;rintro e w10 ⟨gv2,rfl,BP,LN⟩;have HOn:Hid (Wo w3 n1 pb b5 n w10 (fun i=>pl i||gs.contains i) (ns++aQ ms gs) (ps++[(10,p0,jn)]) (.slice (some ⟨og,0,none⟩) (ns.length+G) oc2) (.slice (some ⟨g1,0,none⟩) (ps.length+1) cp1)∧w10.ownsRow n1 3 1 gv2 (cj n mm (fun i=>pl i||gs.contains i)).length (gF (cj n mm (fun i=>pl i||gs.contains i)))∧∀b,gv2.ownBlock=some b→(Value.slice (some ⟨og,0,none⟩) (ns.length+G) oc2).ownBlock≠some b∧(Value.slice (some ⟨g1,0,none⟩) (ps.length+1) cp1).ownBlock≠some b):=⟨HO4.out.1.below LN,sV BP HO4.out.1.lt.2.2.2.2.2,fun b e=>⟨fun e2=>by have h1:=(BP.lt b e).1;have h2:=(HO4.out.1.orow.lt b e2).2;omega,fun e2=>by have h1:=(BP.lt b e).1;have h2:=(HO4.out.1.prow.lt b e2).2;omega⟩⟩;have hL:=HL.out;have hC:=HC.out;have SA:=pZ n (fun i=>pl i||gs.contains i);clear BP LN k9;go_wp2;go_roundg (leftOf n (fun i=>pl i||gs.contains i))
       case measure=>omega
       case rel=>exact⟨f-1,_,_,_,_,_,_,⟨by omega,ag _⟩,rfl,HOn,HG3,⟨by
        rw[bg,jM,HGl.out];have h1:(n-leftOf n pl+1)*n≤(n-leftOf n (fun i=>pl i||gs.contains i))*n:=eF _ (by omega);rw[fR,iP] at h1;omega,by rw[bg,fc];omega⟩⟩
     ·have hGi:(((G:Nat):Int)>1)=False:=by simp;omega
      have HG3:Hid ((ns++aQ ms gs)++(bG n mm (f-1) (fun i=>pl i||gs.contains i)).flatMap (aQ ms)=NS∧ps++(bG n mm (f-1) (fun i=>pl i||gs.contains i)).flatMap (dx ms)=PS):=by
       have h:=HG2.out;have e:dx ms gs=[]:=af (by rw[HGl.out];exact hG2);rw[e,gV] at h;exact h
      have k9:=lO n nb pb rbf mm (fun i=>pl i||gs.contains i) W9 (by omega) (HMat.out.below HO3'.out.1.b) (fun j hj=>(HO3'.out.1.pls j hj).1)
      go_wp2_with (go_at_call 332;fail)
      go_at_call 332;refine k9.mono ?_;rintro e w10 ⟨gv2,rfl,BP,LN⟩;have HOn:Hid (Wo w3 n1 pb b5 n w10 (fun i=>pl i||gs.contains i) (ns++aQ ms gs) ps (.slice (some ⟨og,0,none⟩) (ns.length+G) oc2) (.slice qa ps.length qc)∧w10.ownsRow n1 3 1 gv2 (cj n mm (fun i=>pl i||gs.contains i)).length (gF (cj n mm (fun i=>pl i||gs.contains i)))∧∀b,gv2.ownBlock=some b→(Value.slice (some ⟨og,0,none⟩) (ns.length+G) oc2).ownBlock≠some b∧(Value.slice qa ps.length qc).ownBlock≠some b):=⟨HO3'.out.1.below LN,sV BP HO3'.out.1.lt.2.2.2.2.2,fun b e=>⟨fun e2=>by have h1:=(BP.lt b e).1;have h2:=(HO3'.out.1.orow.lt b e2).2;omega,fun e2=>by have h1:=(BP.lt b e).1;have h2:=(HO3'.out.1.prow.lt b e2).2;omega⟩⟩;have hL:=HL.out;have hC:=HC.out;have SA:=pZ n (fun i=>pl i||gs.contains i);clear BP LN k9;go_wp2;go_roundg (leftOf n (fun i=>pl i||gs.contains i))
      case measure=>omega
      case rel=>exact⟨f-1,_,_,_,_,_,_,⟨by omega,ag _⟩,rfl,HOn,HG3,⟨by
       rw[bg,jM,HGl.out];have h1:(n-leftOf n pl+1)*n≤(n-leftOf n (fun i=>pl i||gs.contains i))*n:=eF _ (by omega);rw[fR,iP] at h1;omega,by omega⟩⟩
end Pn
namespace Pn
open Mf Ed
variable{S:Nat→Shf}{db sb fb mb now:Nat}{cap:Int}{L:List (zV×zV)}
theorem LO{q:Qn}(h:q.kind=3):rk q=2:=by unfold rk;rw[h];rfl
theorem Gr{q:Qn}(h:q.kind=4):rk q=3:=by unfold rk;rw[h];rfl
theorem yu:eA S db sb fb mb now cap L 1:=
 uH Ak (fun _ hr hk hq=>lx hk hq (fun _=>yh Ak) (fun e=>by rw[LO e] at hr;omega) (fun e=>by rw[Gr e] at hr;omega))
theorem sZ:eA S db sb fb mb now cap L 2:=
 uH yu (fun _ hr hk hq=>lx hk hq (fun _=>yh yu) (fun _=>Gp (ag 1) yu) (fun e=>by rw[Gr e] at hr;omega))
theorem Fp:eA S db sb fb mb now cap L 3:=
 uH sZ (fun _ _ hk hq=>lx hk hq (fun _=>yh sZ) (fun _=>Gp (by omega) sZ) (fun _=>LK (ag 2) sZ))
