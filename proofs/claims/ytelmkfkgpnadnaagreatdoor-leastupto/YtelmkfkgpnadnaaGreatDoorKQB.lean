import Derived.Test.YtelmkfkgpnadnaaGreatDoorKQA
import Derived.Test.YtelmkfkgpnadnaaGreatDoorKJA
set_option linter.unusedSimpArgs false
open Go.Proofs.Tryz
set_option maxRecDepth 100000
set_option maxHeartbeats 4000000
namespace Go.Proofs.YtelmkfkgpnadnaaGreatDoor
open Go.RowKit
namespace Mf
variable{w w':World}
def clV(c:Cl):Value:=.agg #[.string c.1,.string c.2.1,.string c.2.2]
def CK(c:Cl)(l:Lit):Prop:=keyOf prog 280 (clV c)=some l
theorem Hv(c:Cl)(h1:c.1.size≤maxLen)(h2:c.2.1.size≤maxLen)(h3:c.2.2.size≤maxLen):∃l,CK c l:=x7 _ _ _ h1 h2 h3
theorem Nu{c d:Cl}{l:Lit}(h:CK c l)(h':CK d l):c=d:=by
 have h2:=iJ.inj h h';simp only[clV,Value.agg.injEq,Array.mk.injEq,eE,Value.string.injEq,fy] at h2;exact fD h2.1 (fD h2.2.1 h2.2.2)
def SaidAt(W:World)(b n:Nat)(cs:List Cl):Prop:=
 ∃D:DataW Unit,W.ownsMap prog 280 (plainElem prog 3) b n D∧Maps.IsMap D∧∀c l,CK c l→Maps.has D l=cs.any (fun x=>decide (x=c))
theorem SaidAt.put{W:World}{b m:Nat}{cs:List Cl}{D:DataW Unit}{c:Cl}{l:Lit}{d:DataW Unit}(hD:Maps.IsMap D)(hs:∀c l,CK c l→Maps.has D l=cs.any (fun x=>decide (x=c)))(hk:CK c l)
  (ho:W.ownsMap prog 280 (plainElem prog 3) b m (D.put l d)) (hD':Maps.IsMap (D.put l d)):SaidAt W b m (cs++[c]):=by
 refine⟨_,ho,hD',fun u l' hu=>?_⟩;rw[List.any_append];by_cases e:l'=l
 ·subst e
  have e2:=Nu hk hu;subst e2;rw[Maps.has_put_same hD (iJ.key hk)];simp
 ·rw[Maps.has_put_other e,hs u l' hu]
  have e2:c≠u:=fun e2=>by
   subst e2;have h3:some l'=some l:=hu.symm.trans hk;exact e (by injection h3)
  simp[e2]
theorem SaidAt.of_block{W W':World}{b n:Nat}{cs:List Cl}(h:SaidAt W b n cs)(e:W'.heap[b]?=W.heap[b]?):SaidAt W' b n cs:=by
 obtain⟨D,⟨es,cl,h1,rest⟩,h2⟩:=h;exact⟨D,⟨es,cl,e.trans h1,rest⟩,h2⟩
theorem vw(W:World):SaidAt (W.alloc (.map #[] 0)) W.heap.size 0 []:=by
 refine⟨.map [],World.ownsMap_made W prog 280 (plainElem prog 3),?_,fun v l _=>?_⟩
 ·exact Maps.isMap_empty
 ·rfl
def KZ(c:Cl):Prop:=c.1.size≤2000∧c.2.1.size≤2000∧c.2.2.size≤2000
theorem pX{W:World}{mb ln:Nat}{cs:List Cl}{c:Cl}(hln:ln≤4000)(hu:cs.length≤2001)(hc:KZ c)(hS:SaidAt W mb cs.length cs):
  ∃w7,(Instr.mapUpdate 148 (.map (some mb)) (clV c) (.int .i64 ln)).run prog W=.ok () w7∧SaidAt w7 mb (cs.length+1) (cs++[c])∧W.grownBy w7 (some mb):=by
 obtain⟨l,hl⟩:=Hv c (by have:=hc.1;unfold maxLen;omega) (by have:=hc.2.1;unfold maxLen;omega) (by have:=hc.2.2;unfold maxLen;omega);obtain⟨D,ho,hD,hh⟩:=hS
 have hwf:(Lit.int .i64 (ln:Int)).wf=true:=by
  have e:wrap64 (ln:Int)=(ln:Int):=by
   first
    |(unfold wrap64;omega)
    |(simp[wrap64];omega)
  have h:=wrap64_wf (ln:Int);rw[e] at h;exact h
 obtain⟨w7,h1,h2,h3⟩:=ho.update iJ underlying148 (by unfold maxLen;omega) hl (plainElem_int underlying3 hwf);exact⟨w7,h1,SaidAt.put hD hh hl h2 (hD.put _ _),h3⟩
def cQ(W:World)(rp sp rq:Nat):Prop:=
 W.cell? ⟨rp,0,none⟩=some (.func (.func 85) #[] #[])∧W.cell? ⟨rp,1,none⟩=some (.string lT)∧W.cell? ⟨rp,2,none⟩=some (.int .i64 sp)∧W.cell? ⟨rp,3,none⟩=some (.int .i64 rq)
theorem cQ.below{rp sp rq:Nat}(h:cQ w rp sp rq)(hb:Below w.heap.size w w'):cQ w' rp sp rq:=by
 have h1:=aT w _ h.1;exact⟨by rw[hb.cell (p:=⟨rp,0,none⟩) h1];exact h.1,by rw[hb.cell (p:=⟨rp,1,none⟩) h1];exact h.2.1,by rw[hb.cell (p:=⟨rp,2,none⟩) h1];exact h.2.2.1,by rw[hb.cell (p:=⟨rp,3,none⟩) h1];exact h.2.2.2⟩
theorem cQ.of_block{W W':World}{rp sp rq:Nat}(h:cQ W rp sp rq)(e:W'.heap[rp]?=W.heap[rp]?):cQ W' rp sp rq:=
 ⟨by rw[aV (w:=W) (a:=⟨rp,0,none⟩) e];exact h.1,by rw[aV (w:=W) (a:=⟨rp,1,none⟩) e];exact h.2.1,by rw[aV (w:=W) (a:=⟨rp,2,none⟩) e];exact h.2.2.1,by rw[aV (w:=W) (a:=⟨rp,3,none⟩) e];exact h.2.2.2⟩
def stc(s:Sm4):List Value:=[.string s.1,.string s.2.1,.string s.2.2.1,.string s.2.2.2]
def bP(L:List Sm4):List Value:=L.flatMap stc
theorem lQ(L:List Sm4)(s:Sm4):bP (L++[s])=bP L++stc s:=by simp[bP]
structure Rd(W:World)(rp mb B sp rq:Nat)(sv:Value)(L:List Sm4)(cs:List Cl):Prop where
 rd:cQ W rp sp rq
 f2:W.frozen? ⟨rp,2,none⟩=false
 f3:W.frozen? ⟨rp,3,none⟩=false
 fm:W.cell? ⟨rp,4,none⟩=some (.map (some mb))
 fs:Fld W rp 5 sv
 lt:rp<B∧mb<B∧B≤W.heap.size∧rp≠mb
 own:W.ownsRow B 155 4 sv L.length (bP L)
 said:SaidAt W mb cs.length cs
theorem Rd.of_block{W W':World}{rp mb B sp rq:Nat}{sv:Value}{L:List Sm4}{cs:List Cl}(h:Rd W rp mb B sp rq sv L cs)(hs:W.heap.size≤W'.heap.size)(e1:W'.heap[rp]?=W.heap[rp]?)(e2:W'.heap[mb]?=W.heap[mb]?)(e3:∀b,sv.ownBlock=some b→W'.heap[b]?=W.heap[b]?):Rd W' rp mb B sp rq sv L cs:=
 ⟨h.rd.of_block e1,by rw[fE (w:=W) (a:=⟨rp,2,none⟩) e1];exact h.f2,by rw[fE (w:=W) (a:=⟨rp,3,none⟩) e1];exact h.f3,by rw[aV (w:=W) (a:=⟨rp,4,none⟩) e1];exact h.fm,h.fs.of_block e1,⟨h.lt.1,h.lt.2.1,aO h.lt.2.2.1 hs,h.lt.2.2.2⟩,ar h.own e3,h.said.of_block e2⟩
theorem Rd.grown{W W':World}{rp mb B sp rq:Nat}{sv sv':Value}{L:List Sm4}{cs:List Cl}{s:Sm4}(h:Rd W rp mb B sp rq sv L cs)(hg:W.grownBy W' sv.ownBlock)(ho:W'.ownsRow B 155 4 sv' (L.length+1) (bP L++stc s)):Rd (W'.setCell ⟨rp,5,none⟩ sv') rp mb B sp rq sv' (L++[s]) cs:=by
 have hrl:rp<W.heap.size:=bH h.lt.1 h.lt.2.2.1;have hml:mb<W.heap.size:=bH h.lt.2.1 h.lt.2.2.1;have n1:some rp≠sv.ownBlock:=fun e=>by have h1:=(h.own.lt rp e.symm).1;have:=h.lt.1;omega
 have n2:some mb≠sv.ownBlock:=fun e=>by have h1:=(h.own.lt mb e.symm).1;have:=h.lt.2.1;omega
 have e1:=hg.block rp hrl n1;have e2:=hg.block mb hml n2;have r:=h.rd.of_block e1;have c4:W'.cell? ⟨rp,4,none⟩=some (.map (some mb)):=by rw[aV (w:=W) (a:=⟨rp,4,none⟩) e1];exact h.fm
 have f5:=h.fs.of_block e1;have hf2:W'.frozen? ⟨rp,2,none⟩=false:=by rw[fE (w:=W) (a:=⟨rp,2,none⟩) e1];exact h.f2
 have hf3:W'.frozen? ⟨rp,3,none⟩=false:=by rw[fE (w:=W) (a:=⟨rp,3,none⟩) e1];exact h.f3
 have hne:∀j,j≠5→(⟨rp,5,none⟩:Addr)≠⟨rp,j,none⟩:=fun j hj e=>by injection e with _ e;exact hj e.symm
 have Az:(W'.setCell ⟨rp,5,none⟩ sv').heap.size=W'.heap.size:=by simp[World.setCell]
 refine⟨⟨?_,?_,?_,?_⟩,?_,?_,?_,⟨gM _ _ _ f5.1,?_⟩,⟨h.lt.1,h.lt.2.1,?_,h.lt.2.2.2⟩,?_,?_⟩
 ·rw[cg _ _ _ _ (hne 0 (by decide))];exact r.1
 ·rw[cg _ _ _ _ (hne 1 (by decide))];exact r.2.1
 ·rw[cg _ _ _ _ (hne 2 (by decide))];exact r.2.2.1
 ·rw[cg _ _ _ _ (hne 3 (by decide))];exact r.2.2.2
 ·rw[dO];exact hf2
 ·rw[dO];exact hf3
 ·rw[cg _ _ _ _ (hne 4 (by decide))];exact c4
 ·rw[dO];exact f5.2
 ·rw[Az];exact aO h.lt.2.2.1 hg.size
 ·rw[lQ,aW]
  exact ar ho (fun b e=>aM _ _ _ _ (fun e2=>by have h1:=(ho.lt b e).1;have h2:=h.lt.1;have e3:b=rp:=e2;omega))
 ·exact(h.said.of_block e2).of_block (aM _ _ _ _ (fun e=>h.lt.2.2.2 e.symm))
theorem Rd.put{W W':World}{rp mb B sp rq:Nat}{sv:Value}{L:List Sm4}{cs cs':List Cl}(h:Rd W rp mb B sp rq sv L cs)(hg:W.grownBy W' (some mb))(hs:SaidAt W' mb cs'.length cs'):Rd W' rp mb B sp rq sv L cs':=by
 have hrl:rp<W.heap.size:=bH h.lt.1 h.lt.2.2.1;have e1:=hg.block rp hrl (fun e=>h.lt.2.2.2 (by injection e))
 have e2:∀b,sv.ownBlock=some b→W'.heap[b]?=W.heap[b]?:=fun b e=>hg.block b (h.own.lt b e).2 (fun e3=>by
  have h1:=(h.own.lt b e).1;have h2:=h.lt.2.1;injection e3 with e4;omega)
 exact⟨h.rd.of_block e1,by rw[fE (w:=W) (a:=⟨rp,2,none⟩) e1];exact h.f2,by rw[fE (w:=W) (a:=⟨rp,3,none⟩) e1];exact h.f3,by rw[aV (w:=W) (a:=⟨rp,4,none⟩) e1];exact h.fm,h.fs.of_block e1,⟨h.lt.1,h.lt.2.1,aO h.lt.2.2.1 hg.size,h.lt.2.2.2⟩,ar h.own e2,hs⟩
theorem Rd.count{W:World}{rp mb B sp rq:Nat}{sv:Value}{L:List Sm4}{cs:List Cl}(h:Rd W rp mb B sp rq sv L cs)(j sp' rq':Nat)(v:Nat)(hj:(j=2∧sp'=v∧rq'=rq)∨(j=3∧sp'=sp∧rq'=v)):Rd (W.setCell ⟨rp,j,none⟩ (.int .i64 v)) rp mb B sp' rq' sv L cs:=by
 have hne:∀i,i≠j→(⟨rp,j,none⟩:Addr)≠⟨rp,i,none⟩:=fun i hi e=>by injection e with _ e;exact hi e.symm
 have hk:∀k,k≠rp→(W.setCell ⟨rp,j,none⟩ (.int .i64 v)).heap[k]?=W.heap[k]?:=fun k hk=>aM _ _ _ _ hk
 have hsz:(W.setCell ⟨rp,j,none⟩ (.int .i64 v)).heap.size=W.heap.size:=by simp[World.setCell]
 have own':(W.setCell ⟨rp,j,none⟩ (.int .i64 v)).ownsRow B 155 4 sv L.length (bP L):=ar h.own (fun b e=>hk b (fun e2=>by have h1:=(h.own.lt b e).1;have h2:=h.lt.1;omega));have MI:=h.said.of_block (hk mb (fun e=>h.lt.2.2.2 e.symm));have lt':rp<B∧mb<B∧B≤(W.setCell ⟨rp,j,none⟩ (.int .i64 v)).heap.size∧rp≠mb:=⟨h.lt.1,h.lt.2.1,by rw[hsz];exact h.lt.2.2.1,h.lt.2.2.2⟩;rcases hj with⟨rfl,rfl,rfl⟩|⟨rfl,rfl,rfl⟩
 ·refine⟨⟨?_,?_,?_,?_⟩,?_,?_,?_,⟨?_,?_⟩,lt',own',MI⟩
  ·rw[cg _ _ _ _ (hne 0 (by decide))];exact h.rd.1
  ·rw[cg _ _ _ _ (hne 1 (by decide))];exact h.rd.2.1
  ·exact gM _ _ _ h.rd.2.2.1
  ·rw[cg _ _ _ _ (hne 3 (by decide))];exact h.rd.2.2.2
  ·rw[dO];exact h.f2
  ·rw[dO];exact h.f3
  ·rw[cg _ _ _ _ (hne 4 (by decide))];exact h.fm
  ·rw[cg _ _ _ _ (hne 5 (by decide))];exact h.fs.1
  ·rw[dO];exact h.fs.2
 ·refine⟨⟨?_,?_,?_,?_⟩,?_,?_,?_,⟨?_,?_⟩,lt',own',MI⟩
  ·rw[cg _ _ _ _ (hne 0 (by decide))];exact h.rd.1
  ·rw[cg _ _ _ _ (hne 1 (by decide))];exact h.rd.2.1
  ·rw[cg _ _ _ _ (hne 2 (by decide))];exact h.rd.2.2.1
  ·exact gM _ _ _ h.rd.2.2.2
  ·rw[dO];exact h.f2
  ·rw[dO];exact h.f3
  ·rw[cg _ _ _ _ (hne 4 (by decide))];exact h.fm
  ·rw[cg _ _ _ _ (hne 5 (by decide))];exact h.fs.1
  ·rw[dO];exact h.fs.2
end Mf
namespace Mf
variable{w w':World}
def at2(b1 b2:Bool)(a0:Nat):Int:=if b1 !=b2 then (a0:Int) else -1
theorem Fj(rp sp rq wb n wc k a0:Nat)(x0:ByteArray)(b1 b2:Bool)(w:World)(hn:0<n)(hr:cQ w rp sp rq)(hw:cB w wb a0 x0)(hx:Tx.shape false x0.data.toList=none)
  (h1:(x0.toList==[109,111,100,117,108,101])=b1) (h2:((sp:Int)==1)=b2) (hk:k=2∨k=3):
  Calls prog 124 #[.pointer (some ⟨rp,0,none⟩),.int .i64 k,.slice (some ⟨wb,0,none⟩) n wc] w fun e w'=>e=.returned (.int .i64 (if k=2 then at2 b1 b2 a0 else (a0:Int)))∧Below w.heap.size w w':=by
 have hnI:(0:Int)<(n:Int):=by omega
 have hc:∀(args:Array Value)(w:World),(callFunc 85 args).run prog w=.ok (.enter 85 args) w:=fun _ _=>by kernel_rfl
 have kI:∀W,_:=fun W=>xB x0 hx W
 have HR:Hid (cQ w rp sp rq):=hr;obtain⟨c0,c1⟩:=hw;clear hr hx;go_enter func124,ntmps124;go_upto_region 2 with fail;have HB1:Hid (Below w.heap.size w (w.alloc (.cells #[.int .i64 a0,.string x0] 274))):=(ae _ _).alloc (ag _) _;have HR1:Hid (cQ (w.alloc (.cells #[.int .i64 a0,.string x0] 274)) rp sp rq):=HR.out.below HB1.out;have HX1:Hid (cB (w.alloc (.cells #[.int .i64 a0,.string x0] 274)) w.heap.size a0 x0):=gj w a0 x0 274;clear c0 c1;generalize w.alloc (.cells #[.int .i64 a0,.string x0] 274)=W1 at*;obtain⟨b0,b2',b3,b4⟩:=HR1.out;obtain⟨b5,b1'⟩:=HX1.out
 go_region_held3 (fun w'=>w'.cell? ⟨rp,0,none⟩=some (.func (.func 85) #[] #[])∧w'.cell? ⟨w.heap.size,1,none⟩=some (.string x0))
   (first|exact⟨b0,b1'⟩)
   (first|(go_at_call 85;refine(kI _).mono ?_;rintro e w2 ⟨rfl,rfl⟩))
 all_goals
  rcases hk with rfl|rfl
  ·cases b1<;>cases b2
   all_goals
    go_upto_region 6 with fail;go_quiet (fail);go_wp2;go_ret;exact⟨rfl,below_drewN HB1.out⟩
  ·go_wp2
   go_ret;exact⟨rfl,HB1.out.drew⟩
theorem fP(W:World)(ks:List Nat):KAt (W.alloc (.cells (bN ks) 3)) W.heap.size ks:=by
 have b0:=iq W (.cells (bN ks) 3);refine⟨by simp,fun j hj=>?_⟩;simp only[World.cell?,b0];simp[bN,hj]
theorem Hw(rp sp rq wb n wc a0:Nat)(x0:ByteArray)(b1 b2:Bool)(ks:List Nat)(w:World)(hn:0<n)(hr:cQ w rp sp rq)(hw:cB w wb a0 x0)(hx:Tx.shape false x0.data.toList=some ks)
  (h1:(x0.toList==[109,111,100,117,108,101])=b1) (h2:((sp:Int)==1)=b2):
  Calls prog 124 #[.pointer (some ⟨rp,0,none⟩),.int .i64 2,.slice (some ⟨wb,0,none⟩) n wc] w fun e w'=>e=.returned (.int .i64 (at2 b1 b2 a0))∧Below w.heap.size w w':=by
 have hnI:(0:Int)<(n:Int):=by omega
 have hc:∀(args:Array Value)(w:World),(callFunc 85 args).run prog w=.ok (.enter 85 args) w:=fun _ _=>by kernel_rfl
 have kI:∀W,_:=fun W=>dE x0 ks hx W
 have HR:Hid (cQ w rp sp rq):=hr;obtain⟨c0,c1⟩:=hw;clear hr hx;go_enter func124,ntmps124;go_upto_region 2 with fail;have HB1:Hid (Below w.heap.size w (w.alloc (.cells #[.int .i64 a0,.string x0] 274))):=(ae _ _).alloc (ag _) _;have HR1:Hid (cQ (w.alloc (.cells #[.int .i64 a0,.string x0] 274)) rp sp rq):=HR.out.below HB1.out;have HX1:Hid (cB (w.alloc (.cells #[.int .i64 a0,.string x0] 274)) w.heap.size a0 x0):=gj w a0 x0 274;clear c0 c1;generalize w.alloc (.cells #[.int .i64 a0,.string x0] 274)=W1 at*;obtain⟨b0,b2',b3',b4'⟩:=HR1.out;obtain⟨b5,b1'⟩:=HX1.out;have HA1:∀W,Below W1.heap.size W1 W→cQ W rp sp rq∧cB W w.heap.size a0 x0:=fun W hb=>⟨HR1.out.below hb,HX1.out.below hb⟩
 have hbA:Below W1.heap.size W1 (W1.alloc (.cells (bN ks) 3)).drew:=(aA (ae _ _) _).drew;have HKA:Hid (KAt (W1.alloc (.cells (bN ks) 3)).drew W1.heap.size ks):=fP W1 ks;obtain⟨⟨d0,d2,d3,d4⟩,d5,d1⟩:=HA1 _ hbA;have HBA:Hid (Below w.heap.size w (W1.alloc (.cells (bN ks) 3)).drew):=HB1.out.trans (hbA.mono HB1.out.size);clear HA1 hbA;generalize bN ks=kc at*
 go_region_held3 (fun w'=>w'.cell? ⟨rp,0,none⟩=some (.func (.func 85) #[] #[])∧w'.cell? ⟨w.heap.size,1,none⟩=some (.string x0))
   (first|exact⟨b0,b1'⟩|exact⟨d0,d1⟩)
   (first|(go_at_call 85;refine(kI _).mono ?_;rintro e w2 ⟨rfl,rfl⟩))
 all_goals
  clear b0 b1' b2' b3' b4' b5;generalize (W1.alloc (.cells kc 3)).drew=W2 at*;go_upto_region 6 with fail;cases b1<;>cases b2
  all_goals
   go_quiet (fail);go_wp2;go_ret;exact⟨rfl,below_drewN HBA.out⟩
theorem CU(rp sp rq wb n wc a0:Nat)(x0:ByteArray)(ks:List Nat)(w:World)(hn:0<n)(hr:cQ w rp sp rq)(hw:cB w wb a0 x0)(hx:Tx.shape false x0.data.toList=some ks):
  Calls prog 124 #[.pointer (some ⟨rp,0,none⟩),.int .i64 3,.slice (some ⟨wb,0,none⟩) n wc] w fun e w'=>e=.returned (.int .i64 (-1))∧Below w.heap.size w w':=by
 have hnI:(0:Int)<(n:Int):=by omega
 have hc:∀(args:Array Value)(w:World),(callFunc 85 args).run prog w=.ok (.enter 85 args) w:=fun _ _=>by kernel_rfl
 have kI:∀W,_:=fun W=>dE x0 ks hx W
 have HR:Hid (cQ w rp sp rq):=hr;obtain⟨c0,c1⟩:=hw;clear hr hx;go_enter func124,ntmps124;go_upto_region 2 with fail;have HB1:Hid (Below w.heap.size w (w.alloc (.cells #[.int .i64 a0,.string x0] 274))):=(ae _ _).alloc (ag _) _;have HR1:Hid (cQ (w.alloc (.cells #[.int .i64 a0,.string x0] 274)) rp sp rq):=HR.out.below HB1.out;have HX1:Hid (cB (w.alloc (.cells #[.int .i64 a0,.string x0] 274)) w.heap.size a0 x0):=gj w a0 x0 274;clear c0 c1;generalize w.alloc (.cells #[.int .i64 a0,.string x0] 274)=W1 at*;obtain⟨b0,b2',b3',b4'⟩:=HR1.out;obtain⟨b5,b1'⟩:=HX1.out;have HA1:∀W,Below W1.heap.size W1 W→cQ W rp sp rq∧cB W w.heap.size a0 x0:=fun W hb=>⟨HR1.out.below hb,HX1.out.below hb⟩
 have hbA:Below W1.heap.size W1 (W1.alloc (.cells (bN ks) 3)).drew:=(aA (ae _ _) _).drew;have HKA:Hid (KAt (W1.alloc (.cells (bN ks) 3)).drew W1.heap.size ks):=fP W1 ks;obtain⟨⟨d0,d2,d3,d4⟩,d5,d1⟩:=HA1 _ hbA;have HBA:Hid (Below w.heap.size w (W1.alloc (.cells (bN ks) 3)).drew):=HB1.out.trans (hbA.mono HB1.out.size);clear HA1 hbA;generalize bN ks=kc at*
 go_region_held3 (fun w'=>w'.cell? ⟨rp,0,none⟩=some (.func (.func 85) #[] #[])∧w'.cell? ⟨w.heap.size,1,none⟩=some (.string x0))
   (first|exact⟨b0,b1'⟩|exact⟨d0,d1⟩)
   (first|(go_at_call 85;refine(kI _).mono ?_;rintro e w2 ⟨rfl,rfl⟩))
 all_goals
  clear b0 b1' b2' b3' b4' b5;generalize (W1.alloc (.cells kc 3)).drew=W2 at*;go_wp2;go_ret;exact⟨rfl,HBA.out⟩
theorem Fo(rp sp rq wb n wc a0:Nat)(x0:ByteArray)(b3 b4:Bool)(ks:List Nat)(w:World)(hn:0<n)(hr:cQ w rp sp rq)(hw:cB w wb a0 x0)(hx:Tx.shape false x0.data.toList=some ks)
  (h3:(x0.toList==[114,101,113,117,105,114,101])=b3) (h4:((rq:Int)==20)=b4):
  Calls prog 124 #[.pointer (some ⟨rp,0,none⟩),.int .i64 9,.slice (some ⟨wb,0,none⟩) n wc] w fun e w'=>e=.returned (.int .i64 (if b3&&b4 then (a0:Int) else -1))∧Below w.heap.size w w':=by
 have hnI:(0:Int)<(n:Int):=by omega
 have hc:∀(args:Array Value)(w:World),(callFunc 85 args).run prog w=.ok (.enter 85 args) w:=fun _ _=>by kernel_rfl
 have kI:∀W,_:=fun W=>dE x0 ks hx W
 have HR:Hid (cQ w rp sp rq):=hr;obtain⟨c0,c1⟩:=hw;clear hr hx;go_enter func124,ntmps124;go_upto_region 2 with fail;have HB1:Hid (Below w.heap.size w (w.alloc (.cells #[.int .i64 a0,.string x0] 274))):=(ae _ _).alloc (ag _) _;have HR1:Hid (cQ (w.alloc (.cells #[.int .i64 a0,.string x0] 274)) rp sp rq):=HR.out.below HB1.out;have HX1:Hid (cB (w.alloc (.cells #[.int .i64 a0,.string x0] 274)) w.heap.size a0 x0):=gj w a0 x0 274;clear c0 c1;generalize w.alloc (.cells #[.int .i64 a0,.string x0] 274)=W1 at*;obtain⟨b0,b2',b3',b4'⟩:=HR1.out;obtain⟨b5,b1'⟩:=HX1.out;have HA1:∀W,Below W1.heap.size W1 W→cQ W rp sp rq∧cB W w.heap.size a0 x0:=fun W hb=>⟨HR1.out.below hb,HX1.out.below hb⟩
 have hbA:Below W1.heap.size W1 (W1.alloc (.cells (bN ks) 3)).drew:=(aA (ae _ _) _).drew;have HKA:Hid (KAt (W1.alloc (.cells (bN ks) 3)).drew W1.heap.size ks):=fP W1 ks;obtain⟨⟨d0,d2,d3,d4⟩,d5,d1⟩:=HA1 _ hbA;have HBA:Hid (Below w.heap.size w (W1.alloc (.cells (bN ks) 3)).drew):=HB1.out.trans (hbA.mono HB1.out.size);clear HA1 hbA;generalize bN ks=kc at*
 go_region_held3 (fun w'=>w'.cell? ⟨rp,0,none⟩=some (.func (.func 85) #[] #[])∧w'.cell? ⟨w.heap.size,1,none⟩=some (.string x0))
   (first|exact⟨b0,b1'⟩|exact⟨d0,d1⟩)
   (first|(go_at_call 85;refine(kI _).mono ?_;rintro e w2 ⟨rfl,rfl⟩))
 all_goals
  clear b0 b1' b2' b3' b4' b5;generalize (W1.alloc (.cells kc 3)).drew=W2 at*;cases b3<;>cases b4
  all_goals
   go_wp2;go_ret;exact⟨rfl,HBA.out⟩
theorem Fp(rp sp rq wb n wc a0:Nat)(x0:ByteArray)(ks:List Nat)(z:Int)(w:World)(hn:0<n)(hr:cQ w rp sp rq)(hw:cB w wb a0 x0)(hx:Tx.shape false x0.data.toList=some ks)
  (hk:∀W p,Below w.heap.size w W→Calls prog 171 #[.slice (some ⟨p,0,none⟩) ks.length ks.length,.slice (some ⟨wb,0,none⟩) n wc] W fun e w'=>e=.returned (.int .i64 z)∧Below W.heap.size W w'):
  Calls prog 124 #[.pointer (some ⟨rp,0,none⟩),.int .i64 4,.slice (some ⟨wb,0,none⟩) n wc] w fun e w'=>e=.returned (.int .i64 z)∧Below w.heap.size w w':=by
 have HK:Hid (∀W p,Below w.heap.size w W→Calls prog 171 #[.slice (some ⟨p,0,none⟩) ks.length ks.length,.slice (some ⟨wb,0,none⟩) n wc] W fun e w'=>e=.returned (.int .i64 z)∧Below W.heap.size W w'):=hk;clear hk;have hnI:(0:Int)<(n:Int):=by omega
 have hc:∀(args:Array Value)(w:World),(callFunc 85 args).run prog w=.ok (.enter 85 args) w:=fun _ _=>by kernel_rfl
 have kI:∀W,_:=fun W=>dE x0 ks hx W
 have HR:Hid (cQ w rp sp rq):=hr;obtain⟨c0,c1⟩:=hw;clear hr hx;go_enter func124,ntmps124;go_upto_region 2 with fail;have HB1:Hid (Below w.heap.size w (w.alloc (.cells #[.int .i64 a0,.string x0] 274))):=(ae _ _).alloc (ag _) _;have HR1:Hid (cQ (w.alloc (.cells #[.int .i64 a0,.string x0] 274)) rp sp rq):=HR.out.below HB1.out;have HX1:Hid (cB (w.alloc (.cells #[.int .i64 a0,.string x0] 274)) w.heap.size a0 x0):=gj w a0 x0 274;clear c0 c1;generalize w.alloc (.cells #[.int .i64 a0,.string x0] 274)=W1 at*;obtain⟨b0,b2',b3',b4'⟩:=HR1.out;obtain⟨b5,b1'⟩:=HX1.out;have HA1:∀W,Below W1.heap.size W1 W→cQ W rp sp rq∧cB W w.heap.size a0 x0:=fun W hb=>⟨HR1.out.below hb,HX1.out.below hb⟩
 have hbA:Below W1.heap.size W1 (W1.alloc (.cells (bN ks) 3)).drew:=(aA (ae _ _) _).drew;have HKA:Hid (KAt (W1.alloc (.cells (bN ks) 3)).drew W1.heap.size ks):=fP W1 ks;obtain⟨⟨d0,d2,d3,d4⟩,d5,d1⟩:=HA1 _ hbA;have HBA:Hid (Below w.heap.size w (W1.alloc (.cells (bN ks) 3)).drew):=HB1.out.trans (hbA.mono HB1.out.size);clear HA1 hbA;generalize bN ks=kc at*
 go_region_held3 (fun w'=>w'.cell? ⟨rp,0,none⟩=some (.func (.func 85) #[] #[])∧w'.cell? ⟨w.heap.size,1,none⟩=some (.string x0))
   (first|exact⟨b0,b1'⟩|exact⟨d0,d1⟩)
   (first|(go_at_call 85;refine(kI _).mono ?_;rintro e w2 ⟨rfl,rfl⟩))
 all_goals
  clear b0 b1' b2' b3' b4' b5;generalize (W1.alloc (.cells kc 3)).drew=W2 at*;have km:=fun p=>HK.out W2 p HBA.out
  go_wp2_with (go_at_call 171;fail)
  go_at_call 171;refine(km _).mono ?_;rintro e w3 ⟨rfl,hb⟩;have HB3:Hid (Below w.heap.size w w3):=HBA.out.trans (hb.mono HBA.out.size);clear hb km;go_wp2;go_ret;exact⟨rfl,HB3.out⟩
theorem Fq(rp sp rq wb n wc a0:Nat)(x0:ByteArray)(ks:List Nat)(z:Int)(w:World)(hn:1<n)(hnw:n≤wc)(hr:cQ w rp sp rq)(hw:cB w wb a0 x0)(hx:Tx.shape false x0.data.toList=some ks)
  (hk:∀W p,Below w.heap.size w W→KAt W p ks→Calls prog 172 #[.int .i64 5,.slice (some ⟨p,0,none⟩) ks.length ks.length,.slice (some ⟨wb,2,none⟩) (n-1) (wc-1)] W fun e w'=>e=.returned (.int .i64 z)∧Below W.heap.size W w'):
  Calls prog 124 #[.pointer (some ⟨rp,0,none⟩),.int .i64 5,.slice (some ⟨wb,0,none⟩) n wc] w fun e w'=>e=.returned (.int .i64 z)∧Below w.heap.size w w':=by
 have O6:2≤wc:=by omega
 obtain⟨nm,rfl⟩:∃m,n=m+1:=⟨n-1,by omega⟩;rw[Nat.add_sub_cancel] at hk;have HK:Hid (∀W p,Below w.heap.size w W→KAt W p ks→Calls prog 172 #[.int .i64 5,.slice (some ⟨p,0,none⟩) ks.length ks.length,.slice (some ⟨wb,2,none⟩) nm (wc-1)] W fun e w'=>e=.returned (.int .i64 z)∧Below W.heap.size W w'):=hk;clear hk;have hnI:(0:Int)<((nm+1:Nat):Int):=by omega
 have hc:∀(args:Array Value)(w:World),(callFunc 85 args).run prog w=.ok (.enter 85 args) w:=fun _ _=>by kernel_rfl
 have kI:∀W,_:=fun W=>dE x0 ks hx W
 have HR:Hid (cQ w rp sp rq):=hr;obtain⟨c0,c1⟩:=hw;clear hr hx;go_enter func124,ntmps124;go_upto_region 2 with fail;have HB1:Hid (Below w.heap.size w (w.alloc (.cells #[.int .i64 a0,.string x0] 274))):=(ae _ _).alloc (ag _) _;have HR1:Hid (cQ (w.alloc (.cells #[.int .i64 a0,.string x0] 274)) rp sp rq):=HR.out.below HB1.out;have HX1:Hid (cB (w.alloc (.cells #[.int .i64 a0,.string x0] 274)) w.heap.size a0 x0):=gj w a0 x0 274;clear c0 c1;generalize w.alloc (.cells #[.int .i64 a0,.string x0] 274)=W1 at*;obtain⟨b0,b2',b3',b4'⟩:=HR1.out;obtain⟨b5,b1'⟩:=HX1.out;have HA1:∀W,Below W1.heap.size W1 W→cQ W rp sp rq∧cB W w.heap.size a0 x0:=fun W hb=>⟨HR1.out.below hb,HX1.out.below hb⟩
 have hbA:Below W1.heap.size W1 (W1.alloc (.cells (bN ks) 3)).drew:=(aA (ae _ _) _).drew;have HKA:Hid (KAt (W1.alloc (.cells (bN ks) 3)).drew W1.heap.size ks):=fP W1 ks;obtain⟨⟨d0,d2,d3,d4⟩,d5,d1⟩:=HA1 _ hbA;have HBA:Hid (Below w.heap.size w (W1.alloc (.cells (bN ks) 3)).drew):=HB1.out.trans (hbA.mono HB1.out.size);clear HA1 hbA;generalize bN ks=kc at*
 go_region_held3 (fun w'=>w'.cell? ⟨rp,0,none⟩=some (.func (.func 85) #[] #[])∧w'.cell? ⟨w.heap.size,1,none⟩=some (.string x0))
   (first|exact⟨b0,b1'⟩|exact⟨d0,d1⟩)
   (first|(go_at_call 85;refine(kI _).mono ?_;rintro e w2 ⟨rfl,rfl⟩))
 all_goals
  clear b0 b1' b2' b3' b4' b5;generalize (W1.alloc (.cells kc 3)).drew=W2 at*;have km:=HK.out W2 _ HBA.out HKA.out
  go_wp2_with (go_at_call 172;fail)
  go_at_call 172;refine km.mono ?_;rintro e w3 ⟨rfl,hb⟩;have HB3:Hid (Below w.heap.size w w3):=HBA.out.trans (hb.mono HBA.out.size);clear hb km;go_wp2;go_ret;exact⟨rfl,HB3.out⟩
theorem Hy(rp sp rq wb n wc a0:Nat)(x0:ByteArray)(ks:List Nat)(z:Int)(w:World)(hn:1<n)(hnw:n≤wc)(hr:cQ w rp sp rq)(hw:cB w wb a0 x0)(hx:Tx.shape false x0.data.toList=some ks)
  (hk:∀W p,Below w.heap.size w W→KAt W p ks→Calls prog 172 #[.int .i64 6,.slice (some ⟨p,0,none⟩) ks.length ks.length,.slice (some ⟨wb,2,none⟩) (n-1) (wc-1)] W fun e w'=>e=.returned (.int .i64 z)∧Below W.heap.size W w'):
  Calls prog 124 #[.pointer (some ⟨rp,0,none⟩),.int .i64 6,.slice (some ⟨wb,0,none⟩) n wc] w fun e w'=>e=.returned (.int .i64 z)∧Below w.heap.size w w':=by
 have O6:2≤wc:=by omega
 obtain⟨nm,rfl⟩:∃m,n=m+1:=⟨n-1,by omega⟩;rw[Nat.add_sub_cancel] at hk;have HK:Hid (∀W p,Below w.heap.size w W→KAt W p ks→Calls prog 172 #[.int .i64 6,.slice (some ⟨p,0,none⟩) ks.length ks.length,.slice (some ⟨wb,2,none⟩) nm (wc-1)] W fun e w'=>e=.returned (.int .i64 z)∧Below W.heap.size W w'):=hk;clear hk;have hnI:(0:Int)<((nm+1:Nat):Int):=by omega
 have hc:∀(args:Array Value)(w:World),(callFunc 85 args).run prog w=.ok (.enter 85 args) w:=fun _ _=>by kernel_rfl
 have kI:∀W,_:=fun W=>dE x0 ks hx W
 have HR:Hid (cQ w rp sp rq):=hr;obtain⟨c0,c1⟩:=hw;clear hr hx;go_enter func124,ntmps124;go_upto_region 2 with fail;have HB1:Hid (Below w.heap.size w (w.alloc (.cells #[.int .i64 a0,.string x0] 274))):=(ae _ _).alloc (ag _) _;have HR1:Hid (cQ (w.alloc (.cells #[.int .i64 a0,.string x0] 274)) rp sp rq):=HR.out.below HB1.out;have HX1:Hid (cB (w.alloc (.cells #[.int .i64 a0,.string x0] 274)) w.heap.size a0 x0):=gj w a0 x0 274;clear c0 c1;generalize w.alloc (.cells #[.int .i64 a0,.string x0] 274)=W1 at*;obtain⟨b0,b2',b3',b4'⟩:=HR1.out;obtain⟨b5,b1'⟩:=HX1.out;have HA1:∀W,Below W1.heap.size W1 W→cQ W rp sp rq∧cB W w.heap.size a0 x0:=fun W hb=>⟨HR1.out.below hb,HX1.out.below hb⟩
 have hbA:Below W1.heap.size W1 (W1.alloc (.cells (bN ks) 3)).drew:=(aA (ae _ _) _).drew;have HKA:Hid (KAt (W1.alloc (.cells (bN ks) 3)).drew W1.heap.size ks):=fP W1 ks;obtain⟨⟨d0,d2,d3,d4⟩,d5,d1⟩:=HA1 _ hbA;have HBA:Hid (Below w.heap.size w (W1.alloc (.cells (bN ks) 3)).drew):=HB1.out.trans (hbA.mono HB1.out.size);clear HA1 hbA;generalize bN ks=kc at*
 go_region_held3 (fun w'=>w'.cell? ⟨rp,0,none⟩=some (.func (.func 85) #[] #[])∧w'.cell? ⟨w.heap.size,1,none⟩=some (.string x0))
   (first|exact⟨b0,b1'⟩|exact⟨d0,d1⟩)
   (first|(go_at_call 85;refine(kI _).mono ?_;rintro e w2 ⟨rfl,rfl⟩))
 all_goals
  clear b0 b1' b2' b3' b4' b5;generalize (W1.alloc (.cells kc 3)).drew=W2 at*;have km:=HK.out W2 _ HBA.out HKA.out
  go_wp2_with (go_at_call 172;fail)
  go_at_call 172;refine km.mono ?_;rintro e w3 ⟨rfl,hb⟩;have HB3:Hid (Below w.heap.size w w3):=HBA.out.trans (hb.mono HBA.out.size);clear hb km;go_wp2;go_ret;exact⟨rfl,HB3.out⟩
theorem CV(rp sp rq wb n wc a0:Nat)(x0:ByteArray)(ks:List Nat)(z:Int)(w:World)(hn:1<n)(hnw:n≤wc)(hr:cQ w rp sp rq)(hw:cB w wb a0 x0)(hx:Tx.shape false x0.data.toList=some ks)
  (hk:∀W p,Below w.heap.size w W→KAt W p ks→Calls prog 172 #[.int .i64 7,.slice (some ⟨p,0,none⟩) ks.length ks.length,.slice (some ⟨wb,2,none⟩) (n-1) (wc-1)] W fun e w'=>e=.returned (.int .i64 z)∧Below W.heap.size W w'):
  Calls prog 124 #[.pointer (some ⟨rp,0,none⟩),.int .i64 7,.slice (some ⟨wb,0,none⟩) n wc] w fun e w'=>e=.returned (.int .i64 z)∧Below w.heap.size w w':=by
 have O6:2≤wc:=by omega
 obtain⟨nm,rfl⟩:∃m,n=m+1:=⟨n-1,by omega⟩;rw[Nat.add_sub_cancel] at hk;have HK:Hid (∀W p,Below w.heap.size w W→KAt W p ks→Calls prog 172 #[.int .i64 7,.slice (some ⟨p,0,none⟩) ks.length ks.length,.slice (some ⟨wb,2,none⟩) nm (wc-1)] W fun e w'=>e=.returned (.int .i64 z)∧Below W.heap.size W w'):=hk;clear hk;have hnI:(0:Int)<((nm+1:Nat):Int):=by omega
 have hc:∀(args:Array Value)(w:World),(callFunc 85 args).run prog w=.ok (.enter 85 args) w:=fun _ _=>by kernel_rfl
 have kI:∀W,_:=fun W=>dE x0 ks hx W
 have HR:Hid (cQ w rp sp rq):=hr;obtain⟨c0,c1⟩:=hw;clear hr hx;go_enter func124,ntmps124;go_upto_region 2 with fail;have HB1:Hid (Below w.heap.size w (w.alloc (.cells #[.int .i64 a0,.string x0] 274))):=(ae _ _).alloc (ag _) _;have HR1:Hid (cQ (w.alloc (.cells #[.int .i64 a0,.string x0] 274)) rp sp rq):=HR.out.below HB1.out;have HX1:Hid (cB (w.alloc (.cells #[.int .i64 a0,.string x0] 274)) w.heap.size a0 x0):=gj w a0 x0 274;clear c0 c1;generalize w.alloc (.cells #[.int .i64 a0,.string x0] 274)=W1 at*;obtain⟨b0,b2',b3',b4'⟩:=HR1.out;obtain⟨b5,b1'⟩:=HX1.out;have HA1:∀W,Below W1.heap.size W1 W→cQ W rp sp rq∧cB W w.heap.size a0 x0:=fun W hb=>⟨HR1.out.below hb,HX1.out.below hb⟩
 have hbA:Below W1.heap.size W1 (W1.alloc (.cells (bN ks) 3)).drew:=(aA (ae _ _) _).drew;have HKA:Hid (KAt (W1.alloc (.cells (bN ks) 3)).drew W1.heap.size ks):=fP W1 ks;obtain⟨⟨d0,d2,d3,d4⟩,d5,d1⟩:=HA1 _ hbA;have HBA:Hid (Below w.heap.size w (W1.alloc (.cells (bN ks) 3)).drew):=HB1.out.trans (hbA.mono HB1.out.size);clear HA1 hbA;generalize bN ks=kc at*
 go_region_held3 (fun w'=>w'.cell? ⟨rp,0,none⟩=some (.func (.func 85) #[] #[])∧w'.cell? ⟨w.heap.size,1,none⟩=some (.string x0))
   (first|exact⟨b0,b1'⟩|exact⟨d0,d1⟩)
   (first|(go_at_call 85;refine(kI _).mono ?_;rintro e w2 ⟨rfl,rfl⟩))
 all_goals
  clear b0 b1' b2' b3' b4' b5;generalize (W1.alloc (.cells kc 3)).drew=W2 at*;have km:=HK.out W2 _ HBA.out HKA.out
  go_wp2_with (go_at_call 172;fail)
  go_at_call 172;refine km.mono ?_;rintro e w3 ⟨rfl,hb⟩;have HB3:Hid (Below w.heap.size w w3):=HBA.out.trans (hb.mono HBA.out.size);clear hb km;go_wp2;go_ret;exact⟨rfl,HB3.out⟩
