import Derived.Test.YtelmkfkgpnadnaaGreatDoorJQA
import Derived.Test.YtelmkfkgpnadnaaGreatDoorJJA
set_option linter.all false
open Go.Proofs.Tryz
set_option maxRecDepth 100000
set_option maxHeartbeats 4000000
namespace Go.Proofs.YtelmkfkgpnadnaaGreatDoor
open Go.RowKit
namespace Mf
variable{w w':zW}
def clV(c:Cl):zV:=.agg #[.string c.1,.string c.2.1,.string c.2.2]
def CK(c:Cl)(l:Lit):Prop:=keyOf prog 280 (clV c)=some l
theorem J3(c:Cl)(h1:c.1.size≤maxLen)(h2:c.2.1.size≤maxLen)(h3:c.2.2.size≤maxLen):∃l,CK c l:=zD _ _ _ h1 h2 h3
theorem Pf{c d:Cl}{l:Lit}(h:CK c l)(h':CK d l):c=d:=by
 have h2:=jc.inj h h';simp only[clV,Value.agg.injEq,Array.mk.injEq,eG,Value.string.injEq,fS] at h2;exact fZ h2.1 (fZ h2.2.1 h2.2.2)
def SaidAt(W:zW)(b n:Nat)(cs:List Cl):Prop:=
 ∃D:DataW Unit,W.ownsMap prog 280 (plainElem prog 3) b n D∧Maps.IsMap D∧∀c l,CK c l→Maps.has D l=cs.any (fun x=>decide (x=c))
theorem SaidAt.put{W:zW}{b m:Nat}{cs:List Cl}{D:DataW Unit}{c:Cl}{l:Lit}{d:DataW Unit}(hD:Maps.IsMap D)(hs:∀c l,CK c l→Maps.has D l=cs.any (fun x=>decide (x=c)))(hk:CK c l)
  (ho:W.ownsMap prog 280 (plainElem prog 3) b m (D.put l d)) (hD':Maps.IsMap (D.put l d)):SaidAt W b m (cs++[c]):=by
 refine⟨_,ho,hD',fun u l' hu=>?_⟩;rw[List.any_append];by_cases e:l'=l
 ·subst e
  have e2:=Pf hk hu;subst e2;rw[Maps.has_put_same hD (jc.key hk)];simp
 ·rw[Maps.has_put_other e,hs u l' hu]
  have e2:c≠u:=fun e2=>by
   subst e2;have h3:some l'=some l:=hu.symm.trans hk;exact e (by injection h3)
  simp[e2]
theorem SaidAt.of_block{W W':zW}{b n:Nat}{cs:List Cl}(h:SaidAt W b n cs)(e:W'.heap[b]?=W.heap[b]?):SaidAt W' b n cs:=by
 obtain⟨D,⟨es,cl,h1,rest⟩,h2⟩:=h;exact⟨D,⟨es,cl,e.trans h1,rest⟩,h2⟩
theorem xo(W:zW):SaidAt (W.alloc (.map #[] 0)) W.heap.size 0 []:=by
 refine⟨.map [],World.ownsMap_made W prog 280 (plainElem prog 3),?_,fun v l _=>?_⟩
 ·exact Maps.isMap_empty
 ·rfl
def Ng(c:Cl):Prop:=c.1.size≤2000∧c.2.1.size≤2000∧c.2.2.size≤2000
theorem rf{W:zW}{mb ln:Nat}{cs:List Cl}{c:Cl}(hln:ln≤4000)(hu:cs.length≤2001)(hc:Ng c)(hS:SaidAt W mb cs.length cs):
  ∃w7,(Instr.mapUpdate 148 (.map (some mb)) (clV c) (zI ln)).run prog W=.ok () w7∧SaidAt w7 mb (cs.length+1) (cs++[c])∧W.grownBy w7 (some mb):=by
 obtain⟨l,hl⟩:=J3 c (by have:=hc.1;unfold maxLen;omega) (by have:=hc.2.1;unfold maxLen;omega) (by have:=hc.2.2;unfold maxLen;omega);obtain⟨D,ho,hD,hh⟩:=hS
 have hwf:(Lit.int .i64 (ln:Int)).wf=true:=by
  have e:wrap64 (ln:Int)=(ln:Int):=by
   first
    |(unfold wrap64;omega)
    |(simp[wrap64];omega)
  have h:=wrap64_wf (ln:Int);rw[e] at h;exact h
 obtain⟨w7,h1,h2,h3⟩:=ho.update jc underlying148 (by unfold maxLen;omega) hl (plainElem_int underlying3 hwf);exact⟨w7,h1,SaidAt.put hD hh hl h2 (hD.put _ _),h3⟩
def dm(W:zW)(rp sp rq:Nat):Prop:=
 W.cell? ⟨rp,0,none⟩=some (.func (.func 85) #[] #[])∧W.cell? ⟨rp,1,none⟩=some (.string nB)∧W.cell? ⟨rp,2,none⟩=some (zI sp)∧W.cell? ⟨rp,3,none⟩=some (zI rq)
theorem dm.below{rp sp rq:Nat}(h:dm w rp sp rq)(hb:zB w w'):dm w' rp sp rq:=by
 have h1:=aU w _ h.1;exact⟨by rw[hb.cell (p:=⟨rp,0,none⟩) h1];exact h.1,by rw[hb.cell (p:=⟨rp,1,none⟩) h1];exact h.2.1,by rw[hb.cell (p:=⟨rp,2,none⟩) h1];exact h.2.2.1,by rw[hb.cell (p:=⟨rp,3,none⟩) h1];exact h.2.2.2⟩
theorem dm.of_block{W W':zW}{rp sp rq:Nat}(h:dm W rp sp rq)(e:W'.heap[rp]?=W.heap[rp]?):dm W' rp sp rq:=
 ⟨by rw[aW (w:=W) (a:=⟨rp,0,none⟩) e];exact h.1,by rw[aW (w:=W) (a:=⟨rp,1,none⟩) e];exact h.2.1,by rw[aW (w:=W) (a:=⟨rp,2,none⟩) e];exact h.2.2.1,by rw[aW (w:=W) (a:=⟨rp,3,none⟩) e];exact h.2.2.2⟩
def stc(s:Sm4):List zV:=[.string s.1,.string s.2.1,.string s.2.2.1,.string s.2.2.2]
def bU(L:List Sm4):List zV:=L.flatMap stc
theorem nA(L:List Sm4)(s:Sm4):bU (L++[s])=bU L++stc s:=by simp[bU]
structure Rd(W:World)(rp mb B sp rq:Nat)(sv:zV)(L:List Sm4)(cs:List Cl):Prop where
 rd:dm W rp sp rq
 f2:W.frozen? ⟨rp,2,none⟩=false
 f3:W.frozen? ⟨rp,3,none⟩=false
 fm:W.cell? ⟨rp,4,none⟩=some (.map (some mb))
 fs:Fld W rp 5 sv
 lt:rp<B∧mb<B∧B≤W.heap.size∧rp≠mb
 own:W.ownsRow B 155 4 sv L.length (bU L)
 said:SaidAt W mb cs.length cs
theorem Rd.of_block{W W':zW}{rp mb B sp rq:Nat}{sv:zV}{L:List Sm4}{cs:List Cl}(h:Rd W rp mb B sp rq sv L cs)(hs:W.heap.size≤W'.heap.size)(e1:W'.heap[rp]?=W.heap[rp]?)(e2:W'.heap[mb]?=W.heap[mb]?)(e3:∀b,sv.ownBlock=some b→W'.heap[b]?=W.heap[b]?):Rd W' rp mb B sp rq sv L cs:=
 ⟨h.rd.of_block e1,by rw[gf (w:=W) (a:=⟨rp,2,none⟩) e1];exact h.f2,by rw[gf (w:=W) (a:=⟨rp,3,none⟩) e1];exact h.f3,by rw[aW (w:=W) (a:=⟨rp,4,none⟩) e1];exact h.fm,h.fs.of_block e1,⟨h.lt.1,h.lt.2.1,aP h.lt.2.2.1 hs,h.lt.2.2.2⟩,ar h.own e3,h.said.of_block e2⟩
theorem Rd.grown{W W':zW}{rp mb B sp rq:Nat}{sv sv':zV}{L:List Sm4}{cs:List Cl}{s:Sm4}(h:Rd W rp mb B sp rq sv L cs)(hg:W.grownBy W' sv.ownBlock)(ho:W'.ownsRow B 155 4 sv' (L.length+1) (bU L++stc s)):Rd (W'.setCell ⟨rp,5,none⟩ sv') rp mb B sp rq sv' (L++[s]) cs:=by
 have hrl:rp<W.heap.size:=bI h.lt.1 h.lt.2.2.1;have hml:mb<W.heap.size:=bI h.lt.2.1 h.lt.2.2.1;have n1:some rp≠sv.ownBlock:=fun e=>by have h1:=(h.own.lt rp e.symm).1;have:=h.lt.1;omega
 have n2:some mb≠sv.ownBlock:=fun e=>by have h1:=(h.own.lt mb e.symm).1;have:=h.lt.2.1;omega
 have e1:=hg.block rp hrl n1;have e2:=hg.block mb hml n2;have r:=h.rd.of_block e1;have c4:W'.cell? ⟨rp,4,none⟩=some (.map (some mb)):=by rw[aW (w:=W) (a:=⟨rp,4,none⟩) e1];exact h.fm
 have f5:=h.fs.of_block e1;have hf2:W'.frozen? ⟨rp,2,none⟩=false:=by rw[gf (w:=W) (a:=⟨rp,2,none⟩) e1];exact h.f2
 have hf3:W'.frozen? ⟨rp,3,none⟩=false:=by rw[gf (w:=W) (a:=⟨rp,3,none⟩) e1];exact h.f3
 have hne:∀j,j≠5→(⟨rp,5,none⟩:Addr)≠⟨rp,j,none⟩:=fun j hj e=>by injection e with _ e;exact hj e.symm
 have CF:(W'.setCell ⟨rp,5,none⟩ sv').heap.size=W'.heap.size:=by simp[World.setCell]
 refine⟨⟨?_,?_,?_,?_⟩,?_,?_,?_,⟨ik _ _ _ f5.1,?_⟩,⟨h.lt.1,h.lt.2.1,?_,h.lt.2.2.2⟩,?_,?_⟩
 ·rw[cB _ _ _ _ (hne 0 (by decide))];exact r.1
 ·rw[cB _ _ _ _ (hne 1 (by decide))];exact r.2.1
 ·rw[cB _ _ _ _ (hne 2 (by decide))];exact r.2.2.1
 ·rw[cB _ _ _ _ (hne 3 (by decide))];exact r.2.2.2
 ·rw[dT];exact hf2
 ·rw[dT];exact hf3
 ·rw[cB _ _ _ _ (hne 4 (by decide))];exact c4
 ·rw[dT];exact f5.2
 ·rw[CF];exact aP h.lt.2.2.1 hg.size
 ·rw[nA,bg]
  exact ar ho (fun b e=>aL _ _ _ _ (fun e2=>by have h1:=(ho.lt b e).1;have h2:=h.lt.1;have e3:b=rp:=e2;omega))
 ·exact(h.said.of_block e2).of_block (aL _ _ _ _ (fun e=>h.lt.2.2.2 e.symm))
theorem Rd.put{W W':zW}{rp mb B sp rq:Nat}{sv:zV}{L:List Sm4}{cs cs':List Cl}(h:Rd W rp mb B sp rq sv L cs)(hg:W.grownBy W' (some mb))(hs:SaidAt W' mb cs'.length cs'):Rd W' rp mb B sp rq sv L cs':=by
 have hrl:rp<W.heap.size:=bI h.lt.1 h.lt.2.2.1;have e1:=hg.block rp hrl (fun e=>h.lt.2.2.2 (by injection e))
 have e2:∀b,sv.ownBlock=some b→W'.heap[b]?=W.heap[b]?:=fun b e=>hg.block b (h.own.lt b e).2 (fun e3=>by
  have h1:=(h.own.lt b e).1;have h2:=h.lt.2.1;injection e3 with e4;omega)
 exact⟨h.rd.of_block e1,by rw[gf (w:=W) (a:=⟨rp,2,none⟩) e1];exact h.f2,by rw[gf (w:=W) (a:=⟨rp,3,none⟩) e1];exact h.f3,by rw[aW (w:=W) (a:=⟨rp,4,none⟩) e1];exact h.fm,h.fs.of_block e1,⟨h.lt.1,h.lt.2.1,aP h.lt.2.2.1 hg.size,h.lt.2.2.2⟩,ar h.own e2,hs⟩
theorem Rd.count{W:zW}{rp mb B sp rq:Nat}{sv:zV}{L:List Sm4}{cs:List Cl}(h:Rd W rp mb B sp rq sv L cs)(j sp' rq':Nat)(v:Nat)(hj:(j=2∧sp'=v∧rq'=rq)∨(j=3∧sp'=sp∧rq'=v)):Rd (W.setCell ⟨rp,j,none⟩ (zI v)) rp mb B sp' rq' sv L cs:=by
 have hne:∀i,i≠j→(⟨rp,j,none⟩:Addr)≠⟨rp,i,none⟩:=fun i hi e=>by injection e with _ e;exact hi e.symm
 have hk:∀k,k≠rp→(W.setCell ⟨rp,j,none⟩ (zI v)).heap[k]?=W.heap[k]?:=fun k hk=>aL _ _ _ _ hk
 have hsz:(W.setCell ⟨rp,j,none⟩ (zI v)).heap.size=W.heap.size:=by simp[World.setCell]
 have own':(W.setCell ⟨rp,j,none⟩ (zI v)).ownsRow B 155 4 sv L.length (bU L):=ar h.own (fun b e=>hk b (fun e2=>by have h1:=(h.own.lt b e).1;have h2:=h.lt.1;omega));have Oq:=h.said.of_block (hk mb (fun e=>h.lt.2.2.2 e.symm));have lt':rp<B∧mb<B∧B≤(W.setCell ⟨rp,j,none⟩ (zI v)).heap.size∧rp≠mb:=⟨h.lt.1,h.lt.2.1,by rw[hsz];exact h.lt.2.2.1,h.lt.2.2.2⟩;rcases hj with⟨rfl,rfl,rfl⟩|⟨rfl,rfl,rfl⟩
 ·refine⟨⟨?_,?_,?_,?_⟩,?_,?_,?_,⟨?_,?_⟩,lt',own',Oq⟩
  ·rw[cB _ _ _ _ (hne 0 (by decide))];exact h.rd.1
  ·rw[cB _ _ _ _ (hne 1 (by decide))];exact h.rd.2.1
  ·exact ik _ _ _ h.rd.2.2.1
  ·rw[cB _ _ _ _ (hne 3 (by decide))];exact h.rd.2.2.2
  ·rw[dT];exact h.f2
  ·rw[dT];exact h.f3
  ·rw[cB _ _ _ _ (hne 4 (by decide))];exact h.fm
  ·rw[cB _ _ _ _ (hne 5 (by decide))];exact h.fs.1
  ·rw[dT];exact h.fs.2
 ·refine⟨⟨?_,?_,?_,?_⟩,?_,?_,?_,⟨?_,?_⟩,lt',own',Oq⟩
  ·rw[cB _ _ _ _ (hne 0 (by decide))];exact h.rd.1
  ·rw[cB _ _ _ _ (hne 1 (by decide))];exact h.rd.2.1
  ·rw[cB _ _ _ _ (hne 2 (by decide))];exact h.rd.2.2.1
  ·exact ik _ _ _ h.rd.2.2.2
  ·rw[dT];exact h.f2
  ·rw[dT];exact h.f3
  ·rw[cB _ _ _ _ (hne 4 (by decide))];exact h.fm
  ·rw[cB _ _ _ _ (hne 5 (by decide))];exact h.fs.1
  ·rw[dT];exact h.fs.2
end Mf
namespace Mf
variable{w w':zW}
def at2(b1 b2:Bool)(a0:Nat):Int:=if b1 !=b2 then (a0:Int) else -1
theorem G1(rp sp rq wb n wc k a0:Nat)(x0:zA)(b1 b2:Bool)(w:zW)(hn:0<n)(hr:dm w rp sp rq)(hw:cQ w wb a0 x0)(hx:Tx.shape false x0.data.toList=none)
  (h1:(x0.toList==[109,111,100,117,108,101])=b1) (h2:((sp:Int)==1)=b2) (hk:k=2∨k=3):
  zC 124 #[zP rp,zI k,.slice (some ⟨wb,0,none⟩) n wc] w fun e w'=>e=.returned (zI (if k=2 then at2 b1 b2 a0 else (a0:Int)))∧zB w w':=by
 have hnI:(0:Int)<(n:Int):=by omega
 have hc:∀(args:Array zV)(w:zW),(callFunc 85 args).run prog w=.ok (.enter 85 args) w:=fun _ _=>by kernel_rfl
 have kI:∀W,_:=fun W=>yV x0 hx W
 have HR:Hid (dm w rp sp rq):=hr;obtain⟨c0,c1⟩:=hw;clear hr hx;go_enter func124,ntmps124;go_upto_region 2 with fail;have HB1:Hid (zB w (w.alloc (.cells #[zI a0,.string x0] 274))):=(ae _ _).alloc (ag _) _;have HR1:Hid (dm (w.alloc (.cells #[zI a0,.string x0] 274)) rp sp rq):=HR.out.below HB1.out;have HX1:Hid (cQ (w.alloc (.cells #[zI a0,.string x0] 274)) w.heap.size a0 x0):=gQ w a0 x0 274;clear c0 c1;generalize w.alloc (.cells #[zI a0,.string x0] 274)=W1 at*;obtain⟨b0,b2',b3,b4⟩:=HR1.out;obtain⟨b5,b1'⟩:=HX1.out
 go_region_held3 (fun w'=>w'.cell? ⟨rp,0,none⟩=some (.func (.func 85) #[] #[])∧w'.cell? ⟨w.heap.size,1,none⟩=some (.string x0))
   (first|exact⟨b0,b1'⟩)
   (first|(go_at_call 85;refine(kI _).mono ?_;rintro e w2 ⟨rfl,rfl⟩))
 all_goals
  rcases hk with rfl|rfl
  ·cases b1<;>cases b2
   all_goals
    go_upto_region 6 with fail;go_quiet (fail);go_wp2;go_ret;exact⟨rfl,below_drewN HB1.out⟩
  ·go_wp2
   go_ret;exact⟨rfl,HB1.out.drew⟩
theorem gC(W:zW)(ks:List Nat):KAt (W.alloc (.cells (bS ks) 3)) W.heap.size ks:=by
 have b0:=iJ W (.cells (bS ks) 3);refine⟨by simp,fun j hj=>?_⟩;simp only[World.cell?,b0];simp[bS,hj]
theorem J4(rp sp rq wb n wc a0:Nat)(x0:zA)(b1 b2:Bool)(ks:List Nat)(w:zW)(hn:0<n)(hr:dm w rp sp rq)(hw:cQ w wb a0 x0)(hx:Tx.shape false x0.data.toList=some ks)
  (h1:(x0.toList==[109,111,100,117,108,101])=b1) (h2:((sp:Int)==1)=b2):
  zC 124 #[zP rp,zI 2,.slice (some ⟨wb,0,none⟩) n wc] w fun e w'=>e=.returned (zI (at2 b1 b2 a0))∧zB w w':=by
 have hnI:(0:Int)<(n:Int):=by omega
 have hc:∀(args:Array zV)(w:zW),(callFunc 85 args).run prog w=.ok (.enter 85 args) w:=fun _ _=>by kernel_rfl
 have kI:∀W,_:=fun W=>dI x0 ks hx W
 have HR:Hid (dm w rp sp rq):=hr;obtain⟨c0,c1⟩:=hw;clear hr hx;go_enter func124,ntmps124;go_upto_region 2 with fail;have HB1:Hid (zB w (w.alloc (.cells #[zI a0,.string x0] 274))):=(ae _ _).alloc (ag _) _;have HR1:Hid (dm (w.alloc (.cells #[zI a0,.string x0] 274)) rp sp rq):=HR.out.below HB1.out;have HX1:Hid (cQ (w.alloc (.cells #[zI a0,.string x0] 274)) w.heap.size a0 x0):=gQ w a0 x0 274;clear c0 c1;generalize w.alloc (.cells #[zI a0,.string x0] 274)=W1 at*;obtain⟨b0,b2',b3',b4'⟩:=HR1.out;obtain⟨b5,b1'⟩:=HX1.out;have HA1:∀W,zB W1 W→dm W rp sp rq∧cQ W w.heap.size a0 x0:=fun W hb=>⟨HR1.out.below hb,HX1.out.below hb⟩
 have hbA:zB W1 (W1.alloc (.cells (bS ks) 3)).drew:=(aB (ae _ _) _).drew;have HKA:Hid (KAt (W1.alloc (.cells (bS ks) 3)).drew W1.heap.size ks):=gC W1 ks;obtain⟨⟨d0,d2,d3,d4⟩,d5,d1⟩:=HA1 _ hbA;have HBA:Hid (zB w (W1.alloc (.cells (bS ks) 3)).drew):=HB1.out.trans (hbA.mono HB1.out.size);clear HA1 hbA;generalize bS ks=kc at*
 go_region_held3 (fun w'=>w'.cell? ⟨rp,0,none⟩=some (.func (.func 85) #[] #[])∧w'.cell? ⟨w.heap.size,1,none⟩=some (.string x0))
   (first|exact⟨b0,b1'⟩|exact⟨d0,d1⟩)
   (first|(go_at_call 85;refine(kI _).mono ?_;rintro e w2 ⟨rfl,rfl⟩))
 all_goals
  clear b0 b1' b2' b3' b4' b5;generalize (W1.alloc (.cells kc 3)).drew=W2 at*;go_upto_region 6 with fail;cases b1<;>cases b2
  all_goals
   go_quiet (fail);go_wp2;go_ret;exact⟨rfl,below_drewN HBA.out⟩
theorem ED(rp sp rq wb n wc a0:Nat)(x0:zA)(ks:List Nat)(w:zW)(hn:0<n)(hr:dm w rp sp rq)(hw:cQ w wb a0 x0)(hx:Tx.shape false x0.data.toList=some ks):
  zC 124 #[zP rp,zI 3,.slice (some ⟨wb,0,none⟩) n wc] w fun e w'=>e=.returned (zI (-1))∧zB w w':=by
 have hnI:(0:Int)<(n:Int):=by omega
 have hc:∀(args:Array zV)(w:zW),(callFunc 85 args).run prog w=.ok (.enter 85 args) w:=fun _ _=>by kernel_rfl
 have kI:∀W,_:=fun W=>dI x0 ks hx W
 have HR:Hid (dm w rp sp rq):=hr;obtain⟨c0,c1⟩:=hw;clear hr hx;go_enter func124,ntmps124;go_upto_region 2 with fail;have HB1:Hid (zB w (w.alloc (.cells #[zI a0,.string x0] 274))):=(ae _ _).alloc (ag _) _;have HR1:Hid (dm (w.alloc (.cells #[zI a0,.string x0] 274)) rp sp rq):=HR.out.below HB1.out;have HX1:Hid (cQ (w.alloc (.cells #[zI a0,.string x0] 274)) w.heap.size a0 x0):=gQ w a0 x0 274;clear c0 c1;generalize w.alloc (.cells #[zI a0,.string x0] 274)=W1 at*;obtain⟨b0,b2',b3',b4'⟩:=HR1.out;obtain⟨b5,b1'⟩:=HX1.out;have HA1:∀W,zB W1 W→dm W rp sp rq∧cQ W w.heap.size a0 x0:=fun W hb=>⟨HR1.out.below hb,HX1.out.below hb⟩
 have hbA:zB W1 (W1.alloc (.cells (bS ks) 3)).drew:=(aB (ae _ _) _).drew;have HKA:Hid (KAt (W1.alloc (.cells (bS ks) 3)).drew W1.heap.size ks):=gC W1 ks;obtain⟨⟨d0,d2,d3,d4⟩,d5,d1⟩:=HA1 _ hbA;have HBA:Hid (zB w (W1.alloc (.cells (bS ks) 3)).drew):=HB1.out.trans (hbA.mono HB1.out.size);clear HA1 hbA;generalize bS ks=kc at*
 go_region_held3 (fun w'=>w'.cell? ⟨rp,0,none⟩=some (.func (.func 85) #[] #[])∧w'.cell? ⟨w.heap.size,1,none⟩=some (.string x0))
   (first|exact⟨b0,b1'⟩|exact⟨d0,d1⟩)
   (first|(go_at_call 85;refine(kI _).mono ?_;rintro e w2 ⟨rfl,rfl⟩))
 all_goals
  clear b0 b1' b2' b3' b4' b5;generalize (W1.alloc (.cells kc 3)).drew=W2 at*;go_wp2;go_ret;exact⟨rfl,HBA.out⟩
theorem G2(rp sp rq wb n wc a0:Nat)(x0:zA)(b3 b4:Bool)(ks:List Nat)(w:zW)(hn:0<n)(hr:dm w rp sp rq)(hw:cQ w wb a0 x0)(hx:Tx.shape false x0.data.toList=some ks)
  (h3:(x0.toList==[114,101,113,117,105,114,101])=b3) (h4:((rq:Int)==20)=b4):
  zC 124 #[zP rp,zI 9,.slice (some ⟨wb,0,none⟩) n wc] w fun e w'=>e=.returned (zI (if b3&&b4 then (a0:Int) else -1))∧zB w w':=by
 have hnI:(0:Int)<(n:Int):=by omega
 have hc:∀(args:Array zV)(w:zW),(callFunc 85 args).run prog w=.ok (.enter 85 args) w:=fun _ _=>by kernel_rfl
 have kI:∀W,_:=fun W=>dI x0 ks hx W
 have HR:Hid (dm w rp sp rq):=hr;obtain⟨c0,c1⟩:=hw;clear hr hx;go_enter func124,ntmps124;go_upto_region 2 with fail;have HB1:Hid (zB w (w.alloc (.cells #[zI a0,.string x0] 274))):=(ae _ _).alloc (ag _) _;have HR1:Hid (dm (w.alloc (.cells #[zI a0,.string x0] 274)) rp sp rq):=HR.out.below HB1.out;have HX1:Hid (cQ (w.alloc (.cells #[zI a0,.string x0] 274)) w.heap.size a0 x0):=gQ w a0 x0 274;clear c0 c1;generalize w.alloc (.cells #[zI a0,.string x0] 274)=W1 at*;obtain⟨b0,b2',b3',b4'⟩:=HR1.out;obtain⟨b5,b1'⟩:=HX1.out;have HA1:∀W,zB W1 W→dm W rp sp rq∧cQ W w.heap.size a0 x0:=fun W hb=>⟨HR1.out.below hb,HX1.out.below hb⟩
 have hbA:zB W1 (W1.alloc (.cells (bS ks) 3)).drew:=(aB (ae _ _) _).drew;have HKA:Hid (KAt (W1.alloc (.cells (bS ks) 3)).drew W1.heap.size ks):=gC W1 ks;obtain⟨⟨d0,d2,d3,d4⟩,d5,d1⟩:=HA1 _ hbA;have HBA:Hid (zB w (W1.alloc (.cells (bS ks) 3)).drew):=HB1.out.trans (hbA.mono HB1.out.size);clear HA1 hbA;generalize bS ks=kc at*
 go_region_held3 (fun w'=>w'.cell? ⟨rp,0,none⟩=some (.func (.func 85) #[] #[])∧w'.cell? ⟨w.heap.size,1,none⟩=some (.string x0))
   (first|exact⟨b0,b1'⟩|exact⟨d0,d1⟩)
   (first|(go_at_call 85;refine(kI _).mono ?_;rintro e w2 ⟨rfl,rfl⟩))
 all_goals
  clear b0 b1' b2' b3' b4' b5;generalize (W1.alloc (.cells kc 3)).drew=W2 at*;cases b3<;>cases b4
  all_goals
   go_wp2;go_ret;exact⟨rfl,HBA.out⟩
theorem G3(rp sp rq wb n wc a0:Nat)(x0:zA)(ks:List Nat)(z:Int)(w:zW)(hn:0<n)(hr:dm w rp sp rq)(hw:cQ w wb a0 x0)(hx:Tx.shape false x0.data.toList=some ks)
  (hk:∀W p,zB w W→zC 171 #[.slice (some ⟨p,0,none⟩) ks.length ks.length,.slice (some ⟨wb,0,none⟩) n wc] W fun e w'=>e=.returned (zI z)∧zB W w'):
  zC 124 #[zP rp,zI 4,.slice (some ⟨wb,0,none⟩) n wc] w fun e w'=>e=.returned (zI z)∧zB w w':=by
 have HK:Hid (∀W p,zB w W→zC 171 #[.slice (some ⟨p,0,none⟩) ks.length ks.length,.slice (some ⟨wb,0,none⟩) n wc] W fun e w'=>e=.returned (zI z)∧zB W w'):=hk;clear hk;have hnI:(0:Int)<(n:Int):=by omega
 have hc:∀(args:Array zV)(w:zW),(callFunc 85 args).run prog w=.ok (.enter 85 args) w:=fun _ _=>by kernel_rfl
 have kI:∀W,_:=fun W=>dI x0 ks hx W
 have HR:Hid (dm w rp sp rq):=hr;obtain⟨c0,c1⟩:=hw;clear hr hx;go_enter func124,ntmps124;go_upto_region 2 with fail;have HB1:Hid (zB w (w.alloc (.cells #[zI a0,.string x0] 274))):=(ae _ _).alloc (ag _) _;have HR1:Hid (dm (w.alloc (.cells #[zI a0,.string x0] 274)) rp sp rq):=HR.out.below HB1.out;have HX1:Hid (cQ (w.alloc (.cells #[zI a0,.string x0] 274)) w.heap.size a0 x0):=gQ w a0 x0 274;clear c0 c1;generalize w.alloc (.cells #[zI a0,.string x0] 274)=W1 at*;obtain⟨b0,b2',b3',b4'⟩:=HR1.out;obtain⟨b5,b1'⟩:=HX1.out;have HA1:∀W,zB W1 W→dm W rp sp rq∧cQ W w.heap.size a0 x0:=fun W hb=>⟨HR1.out.below hb,HX1.out.below hb⟩
 have hbA:zB W1 (W1.alloc (.cells (bS ks) 3)).drew:=(aB (ae _ _) _).drew;have HKA:Hid (KAt (W1.alloc (.cells (bS ks) 3)).drew W1.heap.size ks):=gC W1 ks;obtain⟨⟨d0,d2,d3,d4⟩,d5,d1⟩:=HA1 _ hbA;have HBA:Hid (zB w (W1.alloc (.cells (bS ks) 3)).drew):=HB1.out.trans (hbA.mono HB1.out.size);clear HA1 hbA;generalize bS ks=kc at*
 go_region_held3 (fun w'=>w'.cell? ⟨rp,0,none⟩=some (.func (.func 85) #[] #[])∧w'.cell? ⟨w.heap.size,1,none⟩=some (.string x0))
   (first|exact⟨b0,b1'⟩|exact⟨d0,d1⟩)
   (first|(go_at_call 85;refine(kI _).mono ?_;rintro e w2 ⟨rfl,rfl⟩))
 all_goals
  clear b0 b1' b2' b3' b4' b5;generalize (W1.alloc (.cells kc 3)).drew=W2 at*;have km:=fun p=>HK.out W2 p HBA.out
  go_wp2_with (go_at_call 171;fail)
  go_at_call 171;refine(km _).mono ?_;rintro e w3 ⟨rfl,hb⟩;have HB3:Hid (zB w w3):=HBA.out.trans (hb.mono HBA.out.size);clear hb km;go_wp2;go_ret;exact⟨rfl,HB3.out⟩
theorem G4(rp sp rq wb n wc a0:Nat)(x0:zA)(ks:List Nat)(z:Int)(w:zW)(hn:1<n)(hnw:n≤wc)(hr:dm w rp sp rq)(hw:cQ w wb a0 x0)(hx:Tx.shape false x0.data.toList=some ks)
  (hk:∀W p,zB w W→KAt W p ks→zC 172 #[zI 5,.slice (some ⟨p,0,none⟩) ks.length ks.length,.slice (some ⟨wb,2,none⟩) (n-1) (wc-1)] W fun e w'=>e=.returned (zI z)∧zB W w'):
  zC 124 #[zP rp,zI 5,.slice (some ⟨wb,0,none⟩) n wc] w fun e w'=>e=.returned (zI z)∧zB w w':=by
 have QC:2≤wc:=by omega
 obtain⟨nm,rfl⟩:∃m,n=m+1:=⟨n-1,by omega⟩;rw[Nat.add_sub_cancel] at hk;have HK:Hid (∀W p,zB w W→KAt W p ks→zC 172 #[zI 5,.slice (some ⟨p,0,none⟩) ks.length ks.length,.slice (some ⟨wb,2,none⟩) nm (wc-1)] W fun e w'=>e=.returned (zI z)∧zB W w'):=hk;clear hk;have hnI:(0:Int)<((nm+1:Nat):Int):=by omega
 have hc:∀(args:Array zV)(w:zW),(callFunc 85 args).run prog w=.ok (.enter 85 args) w:=fun _ _=>by kernel_rfl
 have kI:∀W,_:=fun W=>dI x0 ks hx W
 have HR:Hid (dm w rp sp rq):=hr;obtain⟨c0,c1⟩:=hw;clear hr hx;go_enter func124,ntmps124;go_upto_region 2 with fail;have HB1:Hid (zB w (w.alloc (.cells #[zI a0,.string x0] 274))):=(ae _ _).alloc (ag _) _;have HR1:Hid (dm (w.alloc (.cells #[zI a0,.string x0] 274)) rp sp rq):=HR.out.below HB1.out;have HX1:Hid (cQ (w.alloc (.cells #[zI a0,.string x0] 274)) w.heap.size a0 x0):=gQ w a0 x0 274;clear c0 c1;generalize w.alloc (.cells #[zI a0,.string x0] 274)=W1 at*;obtain⟨b0,b2',b3',b4'⟩:=HR1.out;obtain⟨b5,b1'⟩:=HX1.out;have HA1:∀W,zB W1 W→dm W rp sp rq∧cQ W w.heap.size a0 x0:=fun W hb=>⟨HR1.out.below hb,HX1.out.below hb⟩
 have hbA:zB W1 (W1.alloc (.cells (bS ks) 3)).drew:=(aB (ae _ _) _).drew;have HKA:Hid (KAt (W1.alloc (.cells (bS ks) 3)).drew W1.heap.size ks):=gC W1 ks;obtain⟨⟨d0,d2,d3,d4⟩,d5,d1⟩:=HA1 _ hbA;have HBA:Hid (zB w (W1.alloc (.cells (bS ks) 3)).drew):=HB1.out.trans (hbA.mono HB1.out.size);clear HA1 hbA;generalize bS ks=kc at*
 go_region_held3 (fun w'=>w'.cell? ⟨rp,0,none⟩=some (.func (.func 85) #[] #[])∧w'.cell? ⟨w.heap.size,1,none⟩=some (.string x0))
   (first|exact⟨b0,b1'⟩|exact⟨d0,d1⟩)
   (first|(go_at_call 85;refine(kI _).mono ?_;rintro e w2 ⟨rfl,rfl⟩))
 all_goals
  clear b0 b1' b2' b3' b4' b5;generalize (W1.alloc (.cells kc 3)).drew=W2 at*;have km:=HK.out W2 _ HBA.out HKA.out
  go_wp2_with (go_at_call 172;fail)
  go_at_call 172;refine km.mono ?_;rintro e w3 ⟨rfl,hb⟩;have HB3:Hid (zB w w3):=HBA.out.trans (hb.mono HBA.out.size);clear hb km;go_wp2;go_ret;exact⟨rfl,HB3.out⟩
theorem J5(rp sp rq wb n wc a0:Nat)(x0:zA)(ks:List Nat)(z:Int)(w:zW)(hn:1<n)(hnw:n≤wc)(hr:dm w rp sp rq)(hw:cQ w wb a0 x0)(hx:Tx.shape false x0.data.toList=some ks)
  (hk:∀W p,zB w W→KAt W p ks→zC 172 #[zI 6,.slice (some ⟨p,0,none⟩) ks.length ks.length,.slice (some ⟨wb,2,none⟩) (n-1) (wc-1)] W fun e w'=>e=.returned (zI z)∧zB W w'):
  zC 124 #[zP rp,zI 6,.slice (some ⟨wb,0,none⟩) n wc] w fun e w'=>e=.returned (zI z)∧zB w w':=by
 have QC:2≤wc:=by omega
 obtain⟨nm,rfl⟩:∃m,n=m+1:=⟨n-1,by omega⟩;rw[Nat.add_sub_cancel] at hk;have HK:Hid (∀W p,zB w W→KAt W p ks→zC 172 #[zI 6,.slice (some ⟨p,0,none⟩) ks.length ks.length,.slice (some ⟨wb,2,none⟩) nm (wc-1)] W fun e w'=>e=.returned (zI z)∧zB W w'):=hk;clear hk;have hnI:(0:Int)<((nm+1:Nat):Int):=by omega
 have hc:∀(args:Array zV)(w:zW),(callFunc 85 args).run prog w=.ok (.enter 85 args) w:=fun _ _=>by kernel_rfl
 have kI:∀W,_:=fun W=>dI x0 ks hx W
 have HR:Hid (dm w rp sp rq):=hr;obtain⟨c0,c1⟩:=hw;clear hr hx;go_enter func124,ntmps124;go_upto_region 2 with fail;have HB1:Hid (zB w (w.alloc (.cells #[zI a0,.string x0] 274))):=(ae _ _).alloc (ag _) _;have HR1:Hid (dm (w.alloc (.cells #[zI a0,.string x0] 274)) rp sp rq):=HR.out.below HB1.out;have HX1:Hid (cQ (w.alloc (.cells #[zI a0,.string x0] 274)) w.heap.size a0 x0):=gQ w a0 x0 274;clear c0 c1;generalize w.alloc (.cells #[zI a0,.string x0] 274)=W1 at*;obtain⟨b0,b2',b3',b4'⟩:=HR1.out;obtain⟨b5,b1'⟩:=HX1.out;have HA1:∀W,zB W1 W→dm W rp sp rq∧cQ W w.heap.size a0 x0:=fun W hb=>⟨HR1.out.below hb,HX1.out.below hb⟩
 have hbA:zB W1 (W1.alloc (.cells (bS ks) 3)).drew:=(aB (ae _ _) _).drew;have HKA:Hid (KAt (W1.alloc (.cells (bS ks) 3)).drew W1.heap.size ks):=gC W1 ks;obtain⟨⟨d0,d2,d3,d4⟩,d5,d1⟩:=HA1 _ hbA;have HBA:Hid (zB w (W1.alloc (.cells (bS ks) 3)).drew):=HB1.out.trans (hbA.mono HB1.out.size);clear HA1 hbA;generalize bS ks=kc at*
 go_region_held3 (fun w'=>w'.cell? ⟨rp,0,none⟩=some (.func (.func 85) #[] #[])∧w'.cell? ⟨w.heap.size,1,none⟩=some (.string x0))
   (first|exact⟨b0,b1'⟩|exact⟨d0,d1⟩)
   (first|(go_at_call 85;refine(kI _).mono ?_;rintro e w2 ⟨rfl,rfl⟩))
 all_goals
  clear b0 b1' b2' b3' b4' b5;generalize (W1.alloc (.cells kc 3)).drew=W2 at*;have km:=HK.out W2 _ HBA.out HKA.out
  go_wp2_with (go_at_call 172;fail)
  go_at_call 172;refine km.mono ?_;rintro e w3 ⟨rfl,hb⟩;have HB3:Hid (zB w w3):=HBA.out.trans (hb.mono HBA.out.size);clear hb km;go_wp2;go_ret;exact⟨rfl,HB3.out⟩
theorem EE(rp sp rq wb n wc a0:Nat)(x0:zA)(ks:List Nat)(z:Int)(w:zW)(hn:1<n)(hnw:n≤wc)(hr:dm w rp sp rq)(hw:cQ w wb a0 x0)(hx:Tx.shape false x0.data.toList=some ks)
  (hk:∀W p,zB w W→KAt W p ks→zC 172 #[zI 7,.slice (some ⟨p,0,none⟩) ks.length ks.length,.slice (some ⟨wb,2,none⟩) (n-1) (wc-1)] W fun e w'=>e=.returned (zI z)∧zB W w'):
  zC 124 #[zP rp,zI 7,.slice (some ⟨wb,0,none⟩) n wc] w fun e w'=>e=.returned (zI z)∧zB w w':=by
 have QC:2≤wc:=by omega
 obtain⟨nm,rfl⟩:∃m,n=m+1:=⟨n-1,by omega⟩;rw[Nat.add_sub_cancel] at hk;have HK:Hid (∀W p,zB w W→KAt W p ks→zC 172 #[zI 7,.slice (some ⟨p,0,none⟩) ks.length ks.length,.slice (some ⟨wb,2,none⟩) nm (wc-1)] W fun e w'=>e=.returned (zI z)∧zB W w'):=hk;clear hk;have hnI:(0:Int)<((nm+1:Nat):Int):=by omega
 have hc:∀(args:Array zV)(w:zW),(callFunc 85 args).run prog w=.ok (.enter 85 args) w:=fun _ _=>by kernel_rfl
 have kI:∀W,_:=fun W=>dI x0 ks hx W
 have HR:Hid (dm w rp sp rq):=hr;obtain⟨c0,c1⟩:=hw;clear hr hx;go_enter func124,ntmps124;go_upto_region 2 with fail;have HB1:Hid (zB w (w.alloc (.cells #[zI a0,.string x0] 274))):=(ae _ _).alloc (ag _) _;have HR1:Hid (dm (w.alloc (.cells #[zI a0,.string x0] 274)) rp sp rq):=HR.out.below HB1.out;have HX1:Hid (cQ (w.alloc (.cells #[zI a0,.string x0] 274)) w.heap.size a0 x0):=gQ w a0 x0 274;clear c0 c1;generalize w.alloc (.cells #[zI a0,.string x0] 274)=W1 at*;obtain⟨b0,b2',b3',b4'⟩:=HR1.out;obtain⟨b5,b1'⟩:=HX1.out;have HA1:∀W,zB W1 W→dm W rp sp rq∧cQ W w.heap.size a0 x0:=fun W hb=>⟨HR1.out.below hb,HX1.out.below hb⟩
 have hbA:zB W1 (W1.alloc (.cells (bS ks) 3)).drew:=(aB (ae _ _) _).drew;have HKA:Hid (KAt (W1.alloc (.cells (bS ks) 3)).drew W1.heap.size ks):=gC W1 ks;obtain⟨⟨d0,d2,d3,d4⟩,d5,d1⟩:=HA1 _ hbA;have HBA:Hid (zB w (W1.alloc (.cells (bS ks) 3)).drew):=HB1.out.trans (hbA.mono HB1.out.size);clear HA1 hbA;generalize bS ks=kc at*
 go_region_held3 (fun w'=>w'.cell? ⟨rp,0,none⟩=some (.func (.func 85) #[] #[])∧w'.cell? ⟨w.heap.size,1,none⟩=some (.string x0))
   (first|exact⟨b0,b1'⟩|exact⟨d0,d1⟩)
   (first|(go_at_call 85;refine(kI _).mono ?_;rintro e w2 ⟨rfl,rfl⟩))
 all_goals
  clear b0 b1' b2' b3' b4' b5;generalize (W1.alloc (.cells kc 3)).drew=W2 at*;have km:=HK.out W2 _ HBA.out HKA.out
  go_wp2_with (go_at_call 172;fail)
  go_at_call 172;refine km.mono ?_;rintro e w3 ⟨rfl,hb⟩;have HB3:Hid (zB w w3):=HBA.out.trans (hb.mono HBA.out.size);clear hb km;go_wp2;go_ret;exact⟨rfl,HB3.out⟩
