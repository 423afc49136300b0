import Derived.Test.YtkfobfbiblgohaaGreatDoorKQA
set_option linter.all false
open Go.Proofs.Tryz
set_option maxRecDepth 100000
set_option maxHeartbeats 4000000
namespace Go.Proofs.YtkfobfbiblgohaaGreatDoor
open Go.RowKit
namespace Mf
variable{w w':zW}
def clV(c:Cl):zV:=.agg #[tS c.1,tS c.2.1,tS c.2.2]
def CK(c:Cl)(l:Lit):Prop:=keyOf prog 312 (clV c)=some l
theorem KO(c:Cl)(E:c.1.size<=maxLen)(F:c.2.1.size<=maxLen)(G:c.2.2.size<=maxLen):∃l,CK c l:=zU _ _ _ E F G
theorem Qq{c d:Cl}{l:Lit}(h:CK c l)(F:CK d l):c=d:=by
 have E:=jm.inj h F;simp only[clV,Value.agg.injEq,Array.mk.injEq,eL,Value.string.injEq,fE] at E;exact eB E.1 (eB E.2.1 E.2.2)
def SaidAt(W:zW)(b n:Nat)(cs:List Cl):Prop:=
 ∃D:DataW Unit,W.ownsMap prog 312 (plainElem prog 3) b n D/\Maps.IsMap D/\∀c l,CK c l->Maps.has D l=cs.any (fun x=>decide (x=c))
theorem SaidAt.put{W:zW}{b m:Nat}{cs:List Cl}{D:DataW Unit}{c:Cl}{l:Lit}{d:DataW Unit}(T:Maps.IsMap D)(V:∀c l,CK c l->Maps.has D l=cs.any (fun x=>decide (x=c)))(G:CK c l)
  (U:W.ownsMap prog 312 (plainElem prog 3) b m (D.put l d)) (F:Maps.IsMap (D.put l d)):SaidAt W b m (cs++[c]):=by
 refine⟨_,U,F,fun u M I=>?_⟩;rw[List.any_append];by_cases e:M=l
 ·subst e
  have E:=Qq G I;subst E;rw[Maps.has_put_same T (jm.key G)];simp
 ·rw[Maps.has_put_other e,V u M I]
  have E:c≠u:=fun E=>by
   subst E;have O:some M=some l:=I.symm.trans G;exact e (by injection O)
  simp[E]
theorem SaidAt.of_block{W W':zW}{b n:Nat}{cs:List Cl}(h:SaidAt W b n cs)(e:W'.heap[b]?=W.heap[b]?):SaidAt W' b n cs:=by
 obtain⟨D,⟨F,cl,G,E⟩,I⟩:=h;exact⟨D,⟨F,cl,e.trans G,E⟩,I⟩
theorem xN(W:zW):SaidAt (W.alloc (.map #[] 0)) W.heap.size 0 []:=by
 refine⟨.map [],World.ownsMap_made W prog 312 (plainElem prog 3),?_,fun v l _=>?_⟩
 ·exact Maps.isMap_empty
 ·rfl
def NP(c:Cl):Prop:=c.1.size<=2000/\c.2.1.size<=2000/\c.2.2.size<=2000
theorem rf{W:zW}{mb E:Nat}{cs:List Cl}{c:Cl}(a0:E<=4000)(hu:cs.length<=2001)(G:NP c)(Y:SaidAt W mb cs.length cs):
  ∃F,(Instr.mapUpdate 258 (.map (some mb)) (clV c) (zI E)).run prog W=.ok () F/\SaidAt F mb (cs.length+1) (cs++[c])/\W.grownBy F (some mb):=by
 obtain⟨l,O⟩:=KO c (by have:=G.1;unfold maxLen;omega) (by have:=G.2.1;unfold maxLen;omega) (by have:=G.2.2;unfold maxLen;omega);obtain⟨D,ho,M,hh⟩:=Y
 have I:(Lit.int .i64 (E:Int)).wf=true:=by
  have e:wrap64 (E:Int)=(E:Int):=by
   first
    |(unfold wrap64;omega)
    |(simp[wrap64];omega)
  have h:=wrap64_wf (E:Int);rw[e] at h;exact h
 obtain⟨F,T,U,V⟩:=ho.update jm underlying258 (by unfold maxLen;omega) O (plainElem_int underlying3 I);exact⟨F,T,SaidAt.put M hh O U (M.put _ _),V⟩
def dv(W:zW)(E G F:Nat):Prop:=
 W.cell? (tD E 0)=some (.func (.func 187) #[] #[])/\W.cell? (tD E 1)=some (tS mV)/\W.cell? (tD E 2)=some (zI G)/\W.cell? (tD E 3)=some (zI F)
theorem dv.below{E M I:Nat}(h:dv w E M I)(G:zB w w'):dv w' E M I:=by
 have F:=aY w _ h.1;exact⟨by rw[G.cell (p:=(tD E 0)) F];exact h.1,by rw[G.cell (p:=(tD E 1)) F];exact h.2.1,by rw[G.cell (p:=(tD E 2)) F];exact h.2.2.1,by rw[G.cell (p:=(tD E 3)) F];exact h.2.2.2⟩
theorem dv.of_block{W W':zW}{E G F:Nat}(h:dv W E G F)(e:W'.heap[E]?=W.heap[E]?):dv W' E G F:=
 ⟨by rw[bg (w:=W) (a:=(tD E 0)) e];exact h.1,by rw[bg (w:=W) (a:=(tD E 1)) e];exact h.2.1,by rw[bg (w:=W) (a:=(tD E 2)) e];exact h.2.2.1,by rw[bg (w:=W) (a:=(tD E 3)) e];exact h.2.2.2⟩
def stc(s:Sm4):List zV:=[tS s.1,tS s.2.1,tS s.2.2.1,tS s.2.2.2]
def cu(L:List Sm4):List zV:=L.flatMap stc
theorem mU(L:List Sm4)(s:Sm4):cu (L++[s])=cu L++stc s:=by simp[cu]
structure Rd(W:World)(rp mb B sp rq:Nat)(sv:zV)(L:List Sm4)(cs:List Cl):Prop where
 rd:dv W rp sp rq
 f2:W.frozen? (tD rp 2)=false
 f3:W.frozen? (tD rp 3)=false
 fm:W.cell? (tD rp 4)=some (.map (some mb))
 fs:Fld W rp 5 sv
 lt:rp<B/\mb<B/\B<=W.heap.size/\rp≠mb
 own:W.ownsRow B 265 4 sv L.length (cu L)
 said:SaidAt W mb cs.length cs
theorem Rd.of_block{W W':zW}{E mb B M I:Nat}{G:zV}{L:List Sm4}{cs:List Cl}(h:Rd W E mb B M I G L cs)(U:W.heap.size<=W'.heap.size)(F:W'.heap[E]?=W.heap[E]?)(O:W'.heap[mb]?=W.heap[mb]?)(T:∀b,G.ownBlock=some b->W'.heap[b]?=W.heap[b]?):Rd W' E mb B M I G L cs:=
 ⟨h.rd.of_block F,by rw[gy (w:=W) (a:=(tD E 2)) F];exact h.f2,by rw[gy (w:=W) (a:=(tD E 3)) F];exact h.f3,by rw[bg (w:=W) (a:=(tD E 4)) F];exact h.fm,h.fs.of_block F,⟨h.lt.1,h.lt.2.1,aN h.lt.2.2.1 U,h.lt.2.2.2⟩,ar h.own T,h.said.of_block O⟩
theorem Rd.grown{W W':zW}{E mb B sp rq:Nat}{M G:zV}{L:List Sm4}{cs:List Cl}{s:Sm4}(h:Rd W E mb B sp rq M L cs)(V:W.grownBy W' M.ownBlock)(ho:W'.ownsRow B 265 4 G (L.length+1) (cu L++stc s)):Rd (W'.setCell (tD E 5) G) E mb B sp rq G (L++[s]) cs:=by
 have a0:E<W.heap.size:=bP h.lt.1 h.lt.2.2.1;have Y:mb<W.heap.size:=bP h.lt.2.1 h.lt.2.2.1;have n1:some E≠M.ownBlock:=fun e=>by have h1:=(h.own.lt E e.symm).1;have:=h.lt.1;omega
 have n2:some mb≠M.ownBlock:=fun e=>by have h1:=(h.own.lt mb e.symm).1;have:=h.lt.2.1;omega
 have I:=V.block E a0 n1;have O:=V.block mb Y n2;have r:=h.rd.of_block I;have c4:W'.cell? (tD E 4)=some (.map (some mb)):=by rw[bg (w:=W) (a:=(tD E 4)) I];exact h.fm
 have f5:=h.fs.of_block I;have T:W'.frozen? (tD E 2)=false:=by rw[gy (w:=W) (a:=(tD E 2)) I];exact h.f2
 have U:W'.frozen? (tD E 3)=false:=by rw[gy (w:=W) (a:=(tD E 3)) I];exact h.f3
 have F:∀j,j≠5->((tD E 5):Addr)≠(tD E j):=fun j hj e=>by injection e with _ e;exact hj e.symm
 have CW:(W'.setCell (tD E 5) G).heap.size=W'.heap.size:=by simp[World.setCell]
 refine⟨⟨?_,?_,?_,?_⟩,?_,?_,?_,⟨iC _ _ _ f5.1,?_⟩,⟨h.lt.1,h.lt.2.1,?_,h.lt.2.2.2⟩,?_,?_⟩
 ·rw[cH _ _ _ _ (F 0 (by decide))];exact r.1
 ·rw[cH _ _ _ _ (F 1 (by decide))];exact r.2.1
 ·rw[cH _ _ _ _ (F 2 (by decide))];exact r.2.2.1
 ·rw[cH _ _ _ _ (F 3 (by decide))];exact r.2.2.2
 ·rw[dX];exact T
 ·rw[dX];exact U
 ·rw[cH _ _ _ _ (F 4 (by decide))];exact c4
 ·rw[dX];exact f5.2
 ·rw[CW];exact aN h.lt.2.2.1 V.size
 ·rw[mU,aU]
  exact ar ho (fun b e=>aL _ _ _ _ (fun O=>by have h1:=(ho.lt b e).1;have h2:=h.lt.1;have e3:b=E:=O;omega))
 ·exact(h.said.of_block O).of_block (aL _ _ _ _ (fun e=>h.lt.2.2.2 e.symm))
theorem Rd.put{W W':zW}{E mb B T O:Nat}{M:zV}{L:List Sm4}{cs cs':List Cl}(h:Rd W E mb B T O M L cs)(G:W.grownBy W' (some mb))(Y:SaidAt W' mb cs'.length cs'):Rd W' E mb B T O M L cs':=by
 have I:E<W.heap.size:=bP h.lt.1 h.lt.2.2.1;have F:=G.block E I (fun e=>h.lt.2.2.2 (by injection e))
 have U:∀b,M.ownBlock=some b->W'.heap[b]?=W.heap[b]?:=fun b e=>G.block b (h.own.lt b e).2 (fun V=>by
  have h1:=(h.own.lt b e).1;have h2:=h.lt.2.1;injection V with e4;omega)
 exact⟨h.rd.of_block F,by rw[gy (w:=W) (a:=(tD E 2)) F];exact h.f2,by rw[gy (w:=W) (a:=(tD E 3)) F];exact h.f3,by rw[bg (w:=W) (a:=(tD E 4)) F];exact h.fm,h.fs.of_block F,⟨h.lt.1,h.lt.2.1,aN h.lt.2.2.1 G.size,h.lt.2.2.2⟩,ar h.own U,Y⟩
theorem Rd.count{W:zW}{F mb B sp rq:Nat}{V:zV}{L:List Sm4}{cs:List Cl}(h:Rd W F mb B sp rq V L cs)(j M I:Nat)(v:Nat)(hj:(j=2/\M=v/\I=rq)\/(j=3/\M=sp/\I=v)):Rd (W.setCell (tD F j) (zI v)) F mb B M I V L cs:=by
 have E:∀i,i≠j->((tD F j):Addr)≠(tD F i):=fun i hi e=>by injection e with _ e;exact hi e.symm
 have T:∀k,k≠F->(W.setCell (tD F j) (zI v)).heap[k]?=W.heap[k]?:=fun k T=>aL _ _ _ _ T
 have U:(W.setCell (tD F j) (zI v)).heap.size=W.heap.size:=by simp[World.setCell]
 have G:(W.setCell (tD F j) (zI v)).ownsRow B 265 4 V L.length (cu L):=ar h.own (fun b e=>T b (fun e2=>by have h1:=(h.own.lt b e).1;have h2:=h.lt.1;omega));have Y:=h.said.of_block (T mb (fun e=>h.lt.2.2.2 e.symm));have O:F<B/\mb<B/\B<=(W.setCell (tD F j) (zI v)).heap.size/\F≠mb:=⟨h.lt.1,h.lt.2.1,by rw[U];exact h.lt.2.2.1,h.lt.2.2.2⟩;rcases hj with⟨rfl,rfl,rfl⟩|⟨rfl,rfl,rfl⟩
 ·refine⟨⟨?_,?_,?_,?_⟩,?_,?_,?_,⟨?_,?_⟩,O,G,Y⟩
  ·rw[cH _ _ _ _ (E 0 (by decide))];exact h.rd.1
  ·rw[cH _ _ _ _ (E 1 (by decide))];exact h.rd.2.1
  ·exact iC _ _ _ h.rd.2.2.1
  ·rw[cH _ _ _ _ (E 3 (by decide))];exact h.rd.2.2.2
  ·rw[dX];exact h.f2
  ·rw[dX];exact h.f3
  ·rw[cH _ _ _ _ (E 4 (by decide))];exact h.fm
  ·rw[cH _ _ _ _ (E 5 (by decide))];exact h.fs.1
  ·rw[dX];exact h.fs.2
 ·refine⟨⟨?_,?_,?_,?_⟩,?_,?_,?_,⟨?_,?_⟩,O,G,Y⟩
  ·rw[cH _ _ _ _ (E 0 (by decide))];exact h.rd.1
  ·rw[cH _ _ _ _ (E 1 (by decide))];exact h.rd.2.1
  ·rw[cH _ _ _ _ (E 2 (by decide))];exact h.rd.2.2.1
  ·exact iC _ _ _ h.rd.2.2.2
  ·rw[dX];exact h.f2
  ·rw[dX];exact h.f3
  ·rw[cH _ _ _ _ (E 4 (by decide))];exact h.fm
  ·rw[cH _ _ _ _ (E 5 (by decide))];exact h.fs.1
  ·rw[dX];exact h.fs.2
end Mf
namespace Mf
variable{w w':zW}
def at2(F G:Bool)(E:Nat):Int:=if F !=G then (E:Int) else -1
theorem Io(I M rq wb n wc k F:Nat)(E:zA)(U Y:Bool)(w:zW)(hn:0<n)(hr:dv w I M rq)(hw:cT w wb F E)(hx:Tx.shape false E.data.toList=none)
  (h1:(E.toList==[109,111,100,117,108,101])=U) (h2:((M:Int)==1)=Y) (hk:k=2\/k=3):
  zC 207 #[zP I,zI k,.slice (some (tD wb 0)) n wc] w fun e w'=>e=.returned (zI (if k=2 then at2 U Y F else (F:Int)))/\zB w w':=by
 have a2:(0:Int)<(n:Int):=by omega
 have hc:∀(args:Array zV)(w:zW),(callFunc 187 args).run prog w=.ok (.enter 187 args) w:=fun _ _=>by kernel_rfl
 have kI:∀W,_:=fun W=>zm E hx W
 have HR:=zH hr;obtain⟨c0,c1⟩:=hw;clear hr hx;go_enter func207,ntmps207;go_upto_region 2 with fail;have G:Hid (zB w (w.alloc (.cells #[zI F,tS E] 307))):=(ae _ _).alloc (ah _) _;have O:Hid (dv (w.alloc (.cells #[zI F,tS E] 307)) I M rq):=HR.out.below G.out;have T:=zH (ib w F E 307);clear c0 c1;generalize w.alloc (.cells #[zI F,tS E] 307)=W1 at*;obtain⟨b0,a1,b3,b4⟩:=O.out;obtain⟨b5,V⟩:=T.out
 go_region_held3 (fun w'=>w'.cell? (tD I 0)=some (.func (.func 187) #[] #[])/\w'.cell? (tD w.heap.size 1)=some (tS E))
   (first|exact⟨b0,V⟩)
   (first|(go_at_call 187;refine(kI _).mono ?_;rintro e w2 ⟨rfl,rfl⟩))
 all_goals
  rcases hk with rfl|rfl
  ·cases U<;>cases Y
   all_goals
    go_upto_region 6 with fail;go_quiet (fail);go_wp2;go_ret;exact⟨rfl,below_drewN G.out⟩
  ·go_wp2
   go_ret;exact⟨rfl,G.out.drew⟩
theorem gN(W:zW)(E:List Nat):KAt (W.alloc (.cells (cj E) 3)) W.heap.size E:=by
 have F:=iU W (.cells (cj E) 3);refine⟨by simp,fun j G=>?_⟩;simp only[World.cell?,F];simp[cj,G]
theorem KP(O sp rq wb n wc F:Nat)(E:zA)(b1 b2:Bool)(G:List Nat)(w:zW)(hn:0<n)(hr:dv w O sp rq)(hw:cT w wb F E)(hx:Tx.shape false E.data.toList=some G)
  (h1:(E.toList==[109,111,100,117,108,101])=b1) (h2:((sp:Int)==1)=b2):
  zC 207 #[zP O,zI 2,.slice (some (tD wb 0)) n wc] w fun e w'=>e=.returned (zI (at2 b1 b2 F))/\zB w w':=by
 have a6:(0:Int)<(n:Int):=by omega
 have hc:∀(args:Array zV)(w:zW),(callFunc 187 args).run prog w=.ok (.enter 187 args) w:=fun _ _=>by kernel_rfl
 have kI:∀W,_:=fun W=>dP E G hx W
 have HR:=zH hr;obtain⟨c0,c1⟩:=hw;clear hr hx;go_enter func207,ntmps207;go_upto_region 2 with fail;have I:Hid (zB w (w.alloc (.cells #[zI F,tS E] 307))):=(ae _ _).alloc (ah _) _;have U:Hid (dv (w.alloc (.cells #[zI F,tS E] 307)) O sp rq):=HR.out.below I.out;have V:=zH (ib w F E 307);clear c0 c1;generalize w.alloc (.cells #[zI F,tS E] 307)=W1 at*;obtain⟨b0,a2,a3,a4⟩:=U.out;obtain⟨b5,Y⟩:=V.out;have T:∀W,zB W1 W->dv W O sp rq/\cT W w.heap.size F E:=fun W hb=>⟨U.out.below hb,V.out.below hb⟩
 have M:zB W1 (W1.alloc (.cells (cj G) 3)).drew:=(ax (ae _ _) _).drew;have a5:=zH (gN W1 G);obtain⟨⟨d0,d2,d3,d4⟩,d5,d1⟩:=T _ M;have a1:=zH (I.out.trans (M.mono I.out.size));clear T M;generalize cj G=kc at*
 go_region_held3 (fun w'=>w'.cell? (tD O 0)=some (.func (.func 187) #[] #[])/\w'.cell? (tD w.heap.size 1)=some (tS E))
   (first|exact⟨b0,Y⟩|exact⟨d0,d1⟩)
   (first|(go_at_call 187;refine(kI _).mono ?_;rintro e w2 ⟨rfl,rfl⟩))
 all_goals
  clear b0 Y a2 a3 a4 b5;generalize (W1.alloc (.cells kc 3)).drew=W2 at*;go_upto_region 6 with fail;cases b1<;>cases b2
  all_goals
   go_quiet (fail);go_wp2;go_ret;exact⟨rfl,below_drewN a1.out⟩
theorem Fb(O sp rq wb n wc F:Nat)(E:zA)(G:List Nat)(w:zW)(hn:0<n)(hr:dv w O sp rq)(hw:cT w wb F E)(hx:Tx.shape false E.data.toList=some G):
  zC 207 #[zP O,zI 3,.slice (some (tD wb 0)) n wc] w fun e w'=>e=.returned (zI (-1))/\zB w w':=by
 have a6:(0:Int)<(n:Int):=by omega
 have hc:∀(args:Array zV)(w:zW),(callFunc 187 args).run prog w=.ok (.enter 187 args) w:=fun _ _=>by kernel_rfl
 have kI:∀W,_:=fun W=>dP E G hx W
 have HR:=zH hr;obtain⟨c0,c1⟩:=hw;clear hr hx;go_enter func207,ntmps207;go_upto_region 2 with fail;have I:Hid (zB w (w.alloc (.cells #[zI F,tS E] 307))):=(ae _ _).alloc (ah _) _;have U:Hid (dv (w.alloc (.cells #[zI F,tS E] 307)) O sp rq):=HR.out.below I.out;have V:=zH (ib w F E 307);clear c0 c1;generalize w.alloc (.cells #[zI F,tS E] 307)=W1 at*;obtain⟨b0,a2,a3,a4⟩:=U.out;obtain⟨b5,Y⟩:=V.out;have T:∀W,zB W1 W->dv W O sp rq/\cT W w.heap.size F E:=fun W hb=>⟨U.out.below hb,V.out.below hb⟩
 have M:zB W1 (W1.alloc (.cells (cj G) 3)).drew:=(ax (ae _ _) _).drew;have a5:=zH (gN W1 G);obtain⟨⟨d0,d2,d3,d4⟩,d5,d1⟩:=T _ M;have a1:=zH (I.out.trans (M.mono I.out.size));clear T M;generalize cj G=kc at*
 go_region_held3 (fun w'=>w'.cell? (tD O 0)=some (.func (.func 187) #[] #[])/\w'.cell? (tD w.heap.size 1)=some (tS E))
   (first|exact⟨b0,Y⟩|exact⟨d0,d1⟩)
   (first|(go_at_call 187;refine(kI _).mono ?_;rintro e w2 ⟨rfl,rfl⟩))
 all_goals
  clear b0 Y a2 a3 a4 b5;generalize (W1.alloc (.cells kc 3)).drew=W2 at*;go_wp2;go_ret;exact⟨rfl,a1.out⟩
theorem Ip(O sp rq wb n wc F:Nat)(E:zA)(b3 b4:Bool)(G:List Nat)(w:zW)(hn:0<n)(hr:dv w O sp rq)(hw:cT w wb F E)(hx:Tx.shape false E.data.toList=some G)
  (h3:(E.toList==[114,101,113,117,105,114,101])=b3) (h4:((rq:Int)==20)=b4):
  zC 207 #[zP O,zI 9,.slice (some (tD wb 0)) n wc] w fun e w'=>e=.returned (zI (if b3&&b4 then (F:Int) else -1))/\zB w w':=by
 have a6:(0:Int)<(n:Int):=by omega
 have hc:∀(args:Array zV)(w:zW),(callFunc 187 args).run prog w=.ok (.enter 187 args) w:=fun _ _=>by kernel_rfl
 have kI:∀W,_:=fun W=>dP E G hx W
 have HR:=zH hr;obtain⟨c0,c1⟩:=hw;clear hr hx;go_enter func207,ntmps207;go_upto_region 2 with fail;have I:Hid (zB w (w.alloc (.cells #[zI F,tS E] 307))):=(ae _ _).alloc (ah _) _;have U:Hid (dv (w.alloc (.cells #[zI F,tS E] 307)) O sp rq):=HR.out.below I.out;have V:=zH (ib w F E 307);clear c0 c1;generalize w.alloc (.cells #[zI F,tS E] 307)=W1 at*;obtain⟨b0,a2,a3,a4⟩:=U.out;obtain⟨b5,Y⟩:=V.out;have T:∀W,zB W1 W->dv W O sp rq/\cT W w.heap.size F E:=fun W hb=>⟨U.out.below hb,V.out.below hb⟩
 have M:zB W1 (W1.alloc (.cells (cj G) 3)).drew:=(ax (ae _ _) _).drew;have a5:=zH (gN W1 G);obtain⟨⟨d0,d2,d3,d4⟩,d5,d1⟩:=T _ M;have a1:=zH (I.out.trans (M.mono I.out.size));clear T M;generalize cj G=kc at*
 go_region_held3 (fun w'=>w'.cell? (tD O 0)=some (.func (.func 187) #[] #[])/\w'.cell? (tD w.heap.size 1)=some (tS E))
   (first|exact⟨b0,Y⟩|exact⟨d0,d1⟩)
   (first|(go_at_call 187;refine(kI _).mono ?_;rintro e w2 ⟨rfl,rfl⟩))
 all_goals
  clear b0 Y a2 a3 a4 b5;generalize (W1.alloc (.cells kc 3)).drew=W2 at*;cases b3<;>cases b4
  all_goals
   go_wp2;go_ret;exact⟨rfl,a1.out⟩
theorem Iq(T sp rq wb n wc G:Nat)(F:zA)(E:List Nat)(z:Int)(w:zW)(hn:0<n)(hr:dv w T sp rq)(hw:cT w wb G F)(hx:Tx.shape false F.data.toList=some E)
  (hk:∀W p,zB w W->zC 222 #[.slice (some (tD p 0)) E.length E.length,.slice (some (tD wb 0)) n wc] W fun e w'=>e=.returned (zI z)/\zB W w'):
  zC 207 #[zP T,zI 4,.slice (some (tD wb 0)) n wc] w fun e w'=>e=.returned (zI z)/\zB w w':=by
 have HK:=zH hk;clear hk;have a7:(0:Int)<(n:Int):=by omega
 have hc:∀(args:Array zV)(w:zW),(callFunc 187 args).run prog w=.ok (.enter 187 args) w:=fun _ _=>by kernel_rfl
 have kI:∀W,_:=fun W=>dP F E hx W
 have HR:=zH hr;obtain⟨c0,c1⟩:=hw;clear hr hx;go_enter func207,ntmps207;go_upto_region 2 with fail;have I:Hid (zB w (w.alloc (.cells #[zI G,tS F] 307))):=(ae _ _).alloc (ah _) _;have V:Hid (dv (w.alloc (.cells #[zI G,tS F] 307)) T sp rq):=HR.out.below I.out;have Y:=zH (ib w G F 307);clear c0 c1;generalize w.alloc (.cells #[zI G,tS F] 307)=W1 at*;obtain⟨b0,a3,a4,a5⟩:=V.out;obtain⟨b5,a1⟩:=Y.out;have U:∀W,zB W1 W->dv W T sp rq/\cT W w.heap.size G F:=fun W hb=>⟨V.out.below hb,Y.out.below hb⟩
 have O:zB W1 (W1.alloc (.cells (cj E) 3)).drew:=(ax (ae _ _) _).drew;have a6:=zH (gN W1 E);obtain⟨⟨d0,d2,d3,d4⟩,d5,d1⟩:=U _ O;have M:=zH (I.out.trans (O.mono I.out.size));clear U O;generalize cj E=kc at*
 go_region_held3 (fun w'=>w'.cell? (tD T 0)=some (.func (.func 187) #[] #[])/\w'.cell? (tD w.heap.size 1)=some (tS F))
   (first|exact⟨b0,a1⟩|exact⟨d0,d1⟩)
   (first|(go_at_call 187;refine(kI _).mono ?_;rintro e w2 ⟨rfl,rfl⟩))
 all_goals
  clear b0 a1 a3 a4 a5 b5;generalize (W1.alloc (.cells kc 3)).drew=W2 at*;have km:=fun p=>HK.out W2 p M.out
  go_wp2_with (go_at_call 222;fail)
  go_at_call 222;refine(km _).mono ?_;rintro e w3 ⟨rfl,hb⟩;have a2:=zH (M.out.trans (hb.mono M.out.size));clear hb km;go_wp2;go_ret;exact⟨rfl,a2.out⟩
theorem Ir(T sp rq wb n wc G:Nat)(F:zA)(E:List Nat)(z:Int)(w:zW)(hn:1<n)(a8:n<=wc)(hr:dv w T sp rq)(hw:cT w wb G F)(hx:Tx.shape false F.data.toList=some E)
  (hk:∀W p,zB w W->KAt W p E->zC 223 #[zI 5,.slice (some (tD p 0)) E.length E.length,.slice (some (tD wb 2)) (n-1) (wc-1)] W fun e w'=>e=.returned (zI z)/\zB W w'):
  zC 207 #[zP T,zI 5,.slice (some (tD wb 0)) n wc] w fun e w'=>e=.returned (zI z)/\zB w w':=by
 have R5:2<=wc:=by omega
 obtain⟨nm,rfl⟩:∃m,n=m+1:=⟨n-1,by omega⟩;rw[Nat.add_sub_cancel] at hk;have HK:Hid (∀W p,zB w W->KAt W p E->zC 223 #[zI 5,.slice (some (tD p 0)) E.length E.length,.slice (some (tD wb 2)) nm (wc-1)] W fun e w'=>e=.returned (zI z)/\zB W w'):=hk;clear hk;have a7:(0:Int)<((nm+1:Nat):Int):=by omega
 have hc:∀(args:Array zV)(w:zW),(callFunc 187 args).run prog w=.ok (.enter 187 args) w:=fun _ _=>by kernel_rfl
 have kI:∀W,_:=fun W=>dP F E hx W
 have HR:Hid (dv w T sp rq):=hr;obtain⟨c0,c1⟩:=hw;clear hr hx;go_enter func207,ntmps207;go_upto_region 2 with fail;have I:Hid (zB w (w.alloc (.cells #[zI G,tS F] 307))):=(ae _ _).alloc (ah _) _;have V:Hid (dv (w.alloc (.cells #[zI G,tS F] 307)) T sp rq):=HR.out.below I.out;have Y:Hid (cT (w.alloc (.cells #[zI G,tS F] 307)) w.heap.size G F):=ib w G F 307;clear c0 c1;generalize w.alloc (.cells #[zI G,tS F] 307)=W1 at*;obtain⟨b0,a4,a5,a6⟩:=V.out;obtain⟨b5,a1⟩:=Y.out;have U:∀W,zB W1 W->dv W T sp rq/\cT W w.heap.size G F:=fun W hb=>⟨V.out.below hb,Y.out.below hb⟩
 have O:zB W1 (W1.alloc (.cells (cj E) 3)).drew:=(ax (ae _ _) _).drew;have a3:Hid (KAt (W1.alloc (.cells (cj E) 3)).drew W1.heap.size E):=gN W1 E;obtain⟨⟨d0,d2,d3,d4⟩,d5,d1⟩:=U _ O;have M:Hid (zB w (W1.alloc (.cells (cj E) 3)).drew):=I.out.trans (O.mono I.out.size);clear U O;generalize cj E=kc at*
 go_region_held3 (fun w'=>w'.cell? (tD T 0)=some (.func (.func 187) #[] #[])/\w'.cell? (tD w.heap.size 1)=some (tS F))
   (first|exact⟨b0,a1⟩|exact⟨d0,d1⟩)
   (first|(go_at_call 187;refine(kI _).mono ?_;rintro e w2 ⟨rfl,rfl⟩))
 all_goals
  clear b0 a1 a4 a5 a6 b5;generalize (W1.alloc (.cells kc 3)).drew=W2 at*;have km:=HK.out W2 _ M.out a3.out
  go_wp2_with (go_at_call 223;fail)
  go_at_call 223;refine km.mono ?_;rintro e w3 ⟨rfl,hb⟩;have a2:Hid (zB w w3):=M.out.trans (hb.mono M.out.size);clear hb km;go_wp2;go_ret;exact⟨rfl,a2.out⟩
theorem KQ(T sp rq wb n wc G:Nat)(F:zA)(E:List Nat)(z:Int)(w:zW)(hn:1<n)(a8:n<=wc)(hr:dv w T sp rq)(hw:cT w wb G F)(hx:Tx.shape false F.data.toList=some E)
  (hk:∀W p,zB w W->KAt W p E->zC 223 #[zI 6,.slice (some (tD p 0)) E.length E.length,.slice (some (tD wb 2)) (n-1) (wc-1)] W fun e w'=>e=.returned (zI z)/\zB W w'):
  zC 207 #[zP T,zI 6,.slice (some (tD wb 0)) n wc] w fun e w'=>e=.returned (zI z)/\zB w w':=by
 have R5:2<=wc:=by omega
 obtain⟨nm,rfl⟩:∃m,n=m+1:=⟨n-1,by omega⟩;rw[Nat.add_sub_cancel] at hk;have HK:Hid (∀W p,zB w W->KAt W p E->zC 223 #[zI 6,.slice (some (tD p 0)) E.length E.length,.slice (some (tD wb 2)) nm (wc-1)] W fun e w'=>e=.returned (zI z)/\zB W w'):=hk;clear hk;have a7:(0:Int)<((nm+1:Nat):Int):=by omega
 have hc:∀(args:Array zV)(w:zW),(callFunc 187 args).run prog w=.ok (.enter 187 args) w:=fun _ _=>by kernel_rfl
 have kI:∀W,_:=fun W=>dP F E hx W
 have HR:Hid (dv w T sp rq):=hr;obtain⟨c0,c1⟩:=hw;clear hr hx;go_enter func207,ntmps207;go_upto_region 2 with fail;have I:Hid (zB w (w.alloc (.cells #[zI G,tS F] 307))):=(ae _ _).alloc (ah _) _;have V:Hid (dv (w.alloc (.cells #[zI G,tS F] 307)) T sp rq):=HR.out.below I.out;have Y:Hid (cT (w.alloc (.cells #[zI G,tS F] 307)) w.heap.size G F):=ib w G F 307;clear c0 c1;generalize w.alloc (.cells #[zI G,tS F] 307)=W1 at*;obtain⟨b0,a4,a5,a6⟩:=V.out;obtain⟨b5,a1⟩:=Y.out;have U:∀W,zB W1 W->dv W T sp rq/\cT W w.heap.size G F:=fun W hb=>⟨V.out.below hb,Y.out.below hb⟩
 have O:zB W1 (W1.alloc (.cells (cj E) 3)).drew:=(ax (ae _ _) _).drew;have a3:Hid (KAt (W1.alloc (.cells (cj E) 3)).drew W1.heap.size E):=gN W1 E;obtain⟨⟨d0,d2,d3,d4⟩,d5,d1⟩:=U _ O;have M:Hid (zB w (W1.alloc (.cells (cj E) 3)).drew):=I.out.trans (O.mono I.out.size);clear U O;generalize cj E=kc at*
 go_region_held3 (fun w'=>w'.cell? (tD T 0)=some (.func (.func 187) #[] #[])/\w'.cell? (tD w.heap.size 1)=some (tS F))
   (first|exact⟨b0,a1⟩|exact⟨d0,d1⟩)
   (first|(go_at_call 187;refine(kI _).mono ?_;rintro e w2 ⟨rfl,rfl⟩))
 all_goals
  clear b0 a1 a4 a5 a6 b5;generalize (W1.alloc (.cells kc 3)).drew=W2 at*;have km:=HK.out W2 _ M.out a3.out
  go_wp2_with (go_at_call 223;fail)
  go_at_call 223;refine km.mono ?_;rintro e w3 ⟨rfl,hb⟩;have a2:Hid (zB w w3):=M.out.trans (hb.mono M.out.size);clear hb km;go_wp2;go_ret;exact⟨rfl,a2.out⟩
theorem Fc(T sp rq wb n wc G:Nat)(F:zA)(E:List Nat)(z:Int)(w:zW)(hn:1<n)(a8:n<=wc)(hr:dv w T sp rq)(hw:cT w wb G F)(hx:Tx.shape false F.data.toList=some E)
  (hk:∀W p,zB w W->KAt W p E->zC 223 #[zI 7,.slice (some (tD p 0)) E.length E.length,.slice (some (tD wb 2)) (n-1) (wc-1)] W fun e w'=>e=.returned (zI z)/\zB W w'):
  zC 207 #[zP T,zI 7,.slice (some (tD wb 0)) n wc] w fun e w'=>e=.returned (zI z)/\zB w w':=by
 have R5:2<=wc:=by omega
 obtain⟨nm,rfl⟩:∃m,n=m+1:=⟨n-1,by omega⟩;rw[Nat.add_sub_cancel] at hk;have HK:Hid (∀W p,zB w W->KAt W p E->zC 223 #[zI 7,.slice (some (tD p 0)) E.length E.length,.slice (some (tD wb 2)) nm (wc-1)] W fun e w'=>e=.returned (zI z)/\zB W w'):=hk;clear hk;have a7:(0:Int)<((nm+1:Nat):Int):=by omega
 have hc:∀(args:Array zV)(w:zW),(callFunc 187 args).run prog w=.ok (.enter 187 args) w:=fun _ _=>by kernel_rfl
 have kI:∀W,_:=fun W=>dP F E hx W
 have HR:Hid (dv w T sp rq):=hr;obtain⟨c0,c1⟩:=hw;clear hr hx;go_enter func207,ntmps207;go_upto_region 2 with fail;have I:Hid (zB w (w.alloc (.cells #[zI G,tS F] 307))):=(ae _ _).alloc (ah _) _;have V:Hid (dv (w.alloc (.cells #[zI G,tS F] 307)) T sp rq):=HR.out.below I.out;have Y:Hid (cT (w.alloc (.cells #[zI G,tS F] 307)) w.heap.size G F):=ib w G F 307;clear c0 c1;generalize w.alloc (.cells #[zI G,tS F] 307)=W1 at*;obtain⟨b0,a4,a5,a6⟩:=V.out;obtain⟨b5,a1⟩:=Y.out;have U:∀W,zB W1 W->dv W T sp rq/\cT W w.heap.size G F:=fun W hb=>⟨V.out.below hb,Y.out.below hb⟩
 have O:zB W1 (W1.alloc (.cells (cj E) 3)).drew:=(ax (ae _ _) _).drew;have a3:Hid (KAt (W1.alloc (.cells (cj E) 3)).drew W1.heap.size E):=gN W1 E;obtain⟨⟨d0,d2,d3,d4⟩,d5,d1⟩:=U _ O;have M:Hid (zB w (W1.alloc (.cells (cj E) 3)).drew):=I.out.trans (O.mono I.out.size);clear U O;generalize cj E=kc at*
 go_region_held3 (fun w'=>w'.cell? (tD T 0)=some (.func (.func 187) #[] #[])/\w'.cell? (tD w.heap.size 1)=some (tS F))
   (first|exact⟨b0,a1⟩|exact⟨d0,d1⟩)
   (first|(go_at_call 187;refine(kI _).mono ?_;rintro e w2 ⟨rfl,rfl⟩))
 all_goals
  clear b0 a1 a4 a5 a6 b5;generalize (W1.alloc (.cells kc 3)).drew=W2 at*;have km:=HK.out W2 _ M.out a3.out
  go_wp2_with (go_at_call 223;fail)
  go_at_call 223;refine km.mono ?_;rintro e w3 ⟨rfl,hb⟩;have a2:Hid (zB w w3):=M.out.trans (hb.mono M.out.size);clear hb km;go_wp2;go_ret;exact⟨rfl,a2.out⟩
