import Derived.Test.YtooabooekgphpaaGreatDoorKQA
set_option linter.all false
open Go.Proofs.Tryz
set_option maxRecDepth 100000
set_option maxHeartbeats 4000000
namespace Go.Proofs.YtooabooekgphpaaGreatDoor
open Go.RowKit
namespace Mf
variable{w w':zW}
def clV(c:Cl):zV:=.agg #[.string c.1,.string c.2.1,.string c.2.2]
def CK(c:Cl)(l:Lit):Prop:=keyOf prog 303 (clV c)=some l
theorem Kj(c:Cl)(D:c.1.size<=maxLen)(E:c.2.1.size<=maxLen)(F:c.2.2.size<=maxLen):∃l,CK c l:=zl _ _ _ D E F
theorem Py{c d:Cl}{l:Lit}(h:CK c l)(E:CK d l):c=d:=by
 have D:=jh.inj h E;simp only[clV,Value.agg.injEq,Array.mk.injEq,eH,Value.string.injEq,fe] at D;exact ez D.1 (ez D.2.1 D.2.2)
def SaidAt(W:zW)(b n:Nat)(E:List Cl):Prop:=
 ∃D:DataW Unit,W.ownsMap prog 303 (plainElem prog 3) b n D/\Maps.IsMap D/\∀c l,CK c l->Maps.has D l=E.any (fun x=>decide (x=c))
theorem SaidAt.put{W:zW}{b m:Nat}{O:List Cl}{D:DataW Unit}{c:Cl}{l:Lit}{d:DataW Unit}(T:Maps.IsMap D)(V:∀c l,CK c l->Maps.has D l=O.any (fun x=>decide (x=c)))(G:CK c l)
  (U:W.ownsMap prog 303 (plainElem prog 3) b m (D.put l d)) (F:Maps.IsMap (D.put l d)):SaidAt W b m (O++[c]):=by
 refine⟨_,U,F,fun u M I=>?_⟩;rw[List.any_append];by_cases e:M=l
 ·subst e
  have E:=Py G I;subst E;rw[Maps.has_put_same T (jh.key G)];simp
 ·rw[Maps.has_put_other e,V u M I]
  have E:c≠u:=fun E=>by
   subst E;have S:some M=some l:=I.symm.trans G;exact e (by injection S)
  simp[E]
theorem SaidAt.of_block{W W':zW}{b n:Nat}{E:List Cl}(h:SaidAt W b n E)(e:W'.heap[b]?=W.heap[b]?):SaidAt W' b n E:=by
 obtain⟨D,⟨F,cl,G,rest⟩,I⟩:=h;exact⟨D,⟨F,cl,e.trans G,rest⟩,I⟩
theorem xl(W:zW):SaidAt (W.alloc (.map #[] 0)) W.heap.size 0 []:=by
 refine⟨.map [],World.ownsMap_made W prog 303 (plainElem prog 3),?_,fun v l _=>?_⟩
 ·exact Maps.isMap_empty
 ·rfl
def Nl(c:Cl):Prop:=c.1.size<=2000/\c.2.1.size<=2000/\c.2.2.size<=2000
theorem qD{W:zW}{mb E:Nat}{F:List Cl}{c:Cl}(a0:E<=4000)(hu:F.length<=2001)(I:Nl c)(Y:SaidAt W mb F.length F):
  ∃G,(Instr.mapUpdate 248 (.map (some mb)) (clV c) (zI E)).run prog W=.ok () G/\SaidAt G mb (F.length+1) (F++[c])/\W.grownBy G (some mb):=by
 obtain⟨l,S⟩:=Kj c (by have:=I.1;unfold maxLen;omega) (by have:=I.2.1;unfold maxLen;omega) (by have:=I.2.2;unfold maxLen;omega);obtain⟨D,ho,O,hh⟩:=Y
 have M:(Lit.int .i64 (E:Int)).wf=true:=by
  have e:wrap64 (E:Int)=(E:Int):=by
   first
    |(unfold wrap64;omega)
    |(simp[wrap64];omega)
  have h:=wrap64_wf (E:Int);rw[e] at h;exact h
 obtain⟨G,T,U,V⟩:=ho.update jh underlying248 (by unfold maxLen;omega) S (plainElem_int underlying3 M);exact⟨G,T,SaidAt.put O hh S U (O.put _ _),V⟩
def dt(W:zW)(D F E:Nat):Prop:=
 W.cell? ⟨D,0,none⟩=some (.func (.func 176) #[] #[])/\W.cell? ⟨D,1,none⟩=some (.string mF)/\W.cell? ⟨D,2,none⟩=some (zI F)/\W.cell? ⟨D,3,none⟩=some (zI E)
theorem dt.below{D I G:Nat}(h:dt w D I G)(F:zB w w'):dt w' D I G:=by
 have E:=aY w _ h.1;exact⟨by rw[F.cell (p:=⟨D,0,none⟩) E];exact h.1,by rw[F.cell (p:=⟨D,1,none⟩) E];exact h.2.1,by rw[F.cell (p:=⟨D,2,none⟩) E];exact h.2.2.1,by rw[F.cell (p:=⟨D,3,none⟩) E];exact h.2.2.2⟩
theorem dt.of_block{W W':zW}{D F E:Nat}(h:dt W D F E)(e:W'.heap[D]?=W.heap[D]?):dt W' D F E:=
 ⟨by rw[aZ (w:=W) (a:=⟨D,0,none⟩) e];exact h.1,by rw[aZ (w:=W) (a:=⟨D,1,none⟩) e];exact h.2.1,by rw[aZ (w:=W) (a:=⟨D,2,none⟩) e];exact h.2.2.1,by rw[aZ (w:=W) (a:=⟨D,3,none⟩) e];exact h.2.2.2⟩
def stc(s:Sm4):List zV:=[.string s.1,.string s.2.1,.string s.2.2.1,.string s.2.2.2]
def bP(L:List Sm4):List zV:=L.flatMap stc
theorem mE(L:List Sm4)(s:Sm4):bP (L++[s])=bP L++stc s:=by simp[bP]
structure Rd(W:World)(rp mb B sp rq:Nat)(sv:zV)(L:List Sm4)(cs:List Cl):Prop where
 rd:dt W rp sp rq
 f2:W.frozen? ⟨rp,2,none⟩=false
 f3:W.frozen? ⟨rp,3,none⟩=false
 fm:W.cell? ⟨rp,4,none⟩=some (.map (some mb))
 fs:Fld W rp 5 sv
 lt:rp<B/\mb<B/\B<=W.heap.size/\rp≠mb
 own:W.ownsRow B 255 4 sv L.length (bP L)
 said:SaidAt W mb cs.length cs
theorem Rd.of_block{W W':zW}{D mb B M I:Nat}{F:zV}{L:List Sm4}{G:List Cl}(h:Rd W D mb B M I F L G)(T:W.heap.size<=W'.heap.size)(E:W'.heap[D]?=W.heap[D]?)(O:W'.heap[mb]?=W.heap[mb]?)(S:∀b,F.ownBlock=some b->W'.heap[b]?=W.heap[b]?):Rd W' D mb B M I F L G:=
 ⟨h.rd.of_block E,by rw[gh (w:=W) (a:=⟨D,2,none⟩) E];exact h.f2,by rw[gh (w:=W) (a:=⟨D,3,none⟩) E];exact h.f3,by rw[aZ (w:=W) (a:=⟨D,4,none⟩) E];exact h.fm,h.fs.of_block E,⟨h.lt.1,h.lt.2.1,aO h.lt.2.2.1 T,h.lt.2.2.2⟩,ar h.own S,h.said.of_block O⟩
theorem Rd.grown{W W':zW}{D mb B sp rq:Nat}{I F:zV}{L:List Sm4}{Y:List Cl}{s:Sm4}(h:Rd W D mb B sp rq I L Y)(T:W.grownBy W' I.ownBlock)(ho:W'.ownsRow B 255 4 F (L.length+1) (bP L++stc s)):Rd (W'.setCell ⟨D,5,none⟩ F) D mb B sp rq F (L++[s]) Y:=by
 have V:D<W.heap.size:=bE h.lt.1 h.lt.2.2.1;have U:mb<W.heap.size:=bE h.lt.2.1 h.lt.2.2.1;have n1:some D≠I.ownBlock:=fun e=>by have h1:=(h.own.lt D e.symm).1;have:=h.lt.1;omega
 have n2:some mb≠I.ownBlock:=fun e=>by have h1:=(h.own.lt mb e.symm).1;have:=h.lt.2.1;omega
 have G:=T.block D V n1;have M:=T.block mb U n2;have r:=h.rd.of_block G;have c4:W'.cell? ⟨D,4,none⟩=some (.map (some mb)):=by rw[aZ (w:=W) (a:=⟨D,4,none⟩) G];exact h.fm
 have f5:=h.fs.of_block G;have O:W'.frozen? ⟨D,2,none⟩=false:=by rw[gh (w:=W) (a:=⟨D,2,none⟩) G];exact h.f2
 have S:W'.frozen? ⟨D,3,none⟩=false:=by rw[gh (w:=W) (a:=⟨D,3,none⟩) G];exact h.f3
 have E:∀j,j≠5->(⟨D,5,none⟩:Addr)≠⟨D,j,none⟩:=fun j hj e=>by injection e with _ e;exact hj e.symm
 have Ck:(W'.setCell ⟨D,5,none⟩ F).heap.size=W'.heap.size:=by simp[World.setCell]
 refine⟨⟨?_,?_,?_,?_⟩,?_,?_,?_,⟨iu _ _ _ f5.1,?_⟩,⟨h.lt.1,h.lt.2.1,?_,h.lt.2.2.2⟩,?_,?_⟩
 ·rw[bX _ _ _ _ (E 0 (by decide))];exact r.1
 ·rw[bX _ _ _ _ (E 1 (by decide))];exact r.2.1
 ·rw[bX _ _ _ _ (E 2 (by decide))];exact r.2.2.1
 ·rw[bX _ _ _ _ (E 3 (by decide))];exact r.2.2.2
 ·rw[dV];exact O
 ·rw[dV];exact S
 ·rw[bX _ _ _ _ (E 4 (by decide))];exact c4
 ·rw[dV];exact f5.2
 ·rw[Ck];exact aO h.lt.2.2.1 T.size
 ·rw[mE,aW]
  exact ar ho (fun b e=>aM _ _ _ _ (fun M=>by have h1:=(ho.lt b e).1;have h2:=h.lt.1;have e3:b=D:=M;omega))
 ·exact(h.said.of_block M).of_block (aM _ _ _ _ (fun e=>h.lt.2.2.2 e.symm))
theorem Rd.put{W W':zW}{E mb B S O:Nat}{M:zV}{L:List Sm4}{T D:List Cl}(h:Rd W E mb B S O M L T)(G:W.grownBy W' (some mb))(Y:SaidAt W' mb D.length D):Rd W' E mb B S O M L D:=by
 have I:E<W.heap.size:=bE h.lt.1 h.lt.2.2.1;have F:=G.block E I (fun e=>h.lt.2.2.2 (by injection e))
 have U:∀b,M.ownBlock=some b->W'.heap[b]?=W.heap[b]?:=fun b e=>G.block b (h.own.lt b e).2 (fun V=>by
  have h1:=(h.own.lt b e).1;have h2:=h.lt.2.1;injection V with e4;omega)
 exact⟨h.rd.of_block F,by rw[gh (w:=W) (a:=⟨E,2,none⟩) F];exact h.f2,by rw[gh (w:=W) (a:=⟨E,3,none⟩) F];exact h.f3,by rw[aZ (w:=W) (a:=⟨E,4,none⟩) F];exact h.fm,h.fs.of_block F,⟨h.lt.1,h.lt.2.1,aO h.lt.2.2.1 G.size,h.lt.2.2.2⟩,ar h.own U,Y⟩
theorem Rd.count{W:zW}{E mb B sp Y:Nat}{T:zV}{L:List Sm4}{V:List Cl}(h:Rd W E mb B sp Y T L V)(j I G:Nat)(v:Nat)(hj:(j=2/\I=v/\G=Y)\/(j=3/\I=sp/\G=v)):Rd (W.setCell ⟨E,j,none⟩ (zI v)) E mb B I G T L V:=by
 have D:∀i,i≠j->(⟨E,j,none⟩:Addr)≠⟨E,i,none⟩:=fun i hi e=>by injection e with _ e;exact hi e.symm
 have O:∀k,k≠E->(W.setCell ⟨E,j,none⟩ (zI v)).heap[k]?=W.heap[k]?:=fun k O=>aM _ _ _ _ O
 have S:(W.setCell ⟨E,j,none⟩ (zI v)).heap.size=W.heap.size:=by simp[World.setCell]
 have F:(W.setCell ⟨E,j,none⟩ (zI v)).ownsRow B 255 4 T L.length (bP L):=ar h.own (fun b e=>O b (fun e2=>by have h1:=(h.own.lt b e).1;have h2:=h.lt.1;omega));have U:=h.said.of_block (O mb (fun e=>h.lt.2.2.2 e.symm));have M:E<B/\mb<B/\B<=(W.setCell ⟨E,j,none⟩ (zI v)).heap.size/\E≠mb:=⟨h.lt.1,h.lt.2.1,by rw[S];exact h.lt.2.2.1,h.lt.2.2.2⟩;rcases hj with⟨rfl,rfl,rfl⟩|⟨rfl,rfl,rfl⟩
 ·refine⟨⟨?_,?_,?_,?_⟩,?_,?_,?_,⟨?_,?_⟩,M,F,U⟩
  ·rw[bX _ _ _ _ (D 0 (by decide))];exact h.rd.1
  ·rw[bX _ _ _ _ (D 1 (by decide))];exact h.rd.2.1
  ·exact iu _ _ _ h.rd.2.2.1
  ·rw[bX _ _ _ _ (D 3 (by decide))];exact h.rd.2.2.2
  ·rw[dV];exact h.f2
  ·rw[dV];exact h.f3
  ·rw[bX _ _ _ _ (D 4 (by decide))];exact h.fm
  ·rw[bX _ _ _ _ (D 5 (by decide))];exact h.fs.1
  ·rw[dV];exact h.fs.2
 ·refine⟨⟨?_,?_,?_,?_⟩,?_,?_,?_,⟨?_,?_⟩,M,F,U⟩
  ·rw[bX _ _ _ _ (D 0 (by decide))];exact h.rd.1
  ·rw[bX _ _ _ _ (D 1 (by decide))];exact h.rd.2.1
  ·rw[bX _ _ _ _ (D 2 (by decide))];exact h.rd.2.2.1
  ·exact iu _ _ _ h.rd.2.2.2
  ·rw[dV];exact h.f2
  ·rw[dV];exact h.f3
  ·rw[bX _ _ _ _ (D 4 (by decide))];exact h.fm
  ·rw[bX _ _ _ _ (D 5 (by decide))];exact h.fs.1
  ·rw[dV];exact h.fs.2
end Mf
namespace Mf
variable{w w':zW}
def at2(E F:Bool)(D:Nat):Int:=if E !=F then (D:Int) else -1
theorem Hm(G I V wb n wc k E:Nat)(D:zA)(S U:Bool)(w:zW)(hn:0<n)(Y:dt w G I V)(hw:cF w wb E D)(hx:Tx.shape false D.data.toList=none)
  (h1:(D.toList==[109,111,100,117,108,101])=S) (h2:((I:Int)==1)=U) (hk:k=2\/k=3):
  zC 196 #[zP G,zI k,.slice (some ⟨wb,0,none⟩) n wc] w fun e w'=>e=.returned (zI (if k=2 then at2 S U E else (E:Int)))/\zB w w':=by
 have a2:(0:Int)<(n:Int):=by omega
 have hc:∀(args:Array zV)(w:zW),(callFunc 176 args).run prog w=.ok (.enter 176 args) w:=fun _ _=>by kernel_rfl
 have kI:∀W,_:=fun W=>yL D hx W
 have HR:=zH Y;obtain⟨c0,c1⟩:=hw;clear Y hx;go_enter func196,ntmps196;go_upto_region 2 with fail;have F:Hid (zB w (w.alloc (.cells #[zI E,.string D] 298))):=(ae _ _).alloc (af _) _;have M:Hid (dt (w.alloc (.cells #[zI E,.string D] 298)) G I V):=HR.out.below F.out;have O:=zH (gN w E D 298);clear c0 c1;generalize w.alloc (.cells #[zI E,.string D] 298)=W1 at*;obtain⟨b0,a1,b3,b4⟩:=M.out;obtain⟨b5,T⟩:=O.out
 go_region_held3 (fun w'=>w'.cell? ⟨G,0,none⟩=some (.func (.func 176) #[] #[])/\w'.cell? ⟨w.heap.size,1,none⟩=some (.string D))
   (first|exact⟨b0,T⟩)
   (first|(go_at_call 176;refine(kI _).mono ?_;rintro e w2 ⟨rfl,rfl⟩))
 all_goals
  rcases hk with rfl|rfl
  ·cases S<;>cases U
   all_goals
    go_upto_region 6 with fail;go_quiet (fail);go_wp2;go_ret;exact⟨rfl,below_drewN F.out⟩
  ·go_wp2
   go_ret;exact⟨rfl,F.out.drew⟩
theorem gD(W:zW)(D:List Nat):KAt (W.alloc (.cells (bL D) 3)) W.heap.size D:=by
 have E:=iQ W (.cells (bL D) 3);refine⟨by simp,fun j F=>?_⟩;simp only[World.cell?,E];simp[bL,F]
theorem Kk(M V Y wb n wc E:Nat)(D:zA)(b1 b2:Bool)(F:List Nat)(w:zW)(hn:0<n)(hr:dt w M V Y)(hw:cF w wb E D)(hx:Tx.shape false D.data.toList=some F)
  (h1:(D.toList==[109,111,100,117,108,101])=b1) (h2:((V:Int)==1)=b2):
  zC 196 #[zP M,zI 2,.slice (some ⟨wb,0,none⟩) n wc] w fun e w'=>e=.returned (zI (at2 b1 b2 E))/\zB w w':=by
 have a6:(0:Int)<(n:Int):=by omega
 have hc:∀(args:Array zV)(w:zW),(callFunc 176 args).run prog w=.ok (.enter 176 args) w:=fun _ _=>by kernel_rfl
 have kI:∀W,_:=fun W=>dL D F hx W
 have HR:=zH hr;obtain⟨c0,c1⟩:=hw;clear hr hx;go_enter func196,ntmps196;go_upto_region 2 with fail;have G:Hid (zB w (w.alloc (.cells #[zI E,.string D] 298))):=(ae _ _).alloc (af _) _;have S:Hid (dt (w.alloc (.cells #[zI E,.string D] 298)) M V Y):=HR.out.below G.out;have T:=zH (gN w E D 298);clear c0 c1;generalize w.alloc (.cells #[zI E,.string D] 298)=W1 at*;obtain⟨b0,a2,a3,a4⟩:=S.out;obtain⟨b5,U⟩:=T.out;have O:∀W,zB W1 W->dt W M V Y/\cF W w.heap.size E D:=fun W hb=>⟨S.out.below hb,T.out.below hb⟩
 have I:zB W1 (W1.alloc (.cells (bL F) 3)).drew:=(aB (ae _ _) _).drew;have a5:=zH (gD W1 F);obtain⟨⟨d0,d2,d3,d4⟩,d5,d1⟩:=O _ I;have a1:=zH (G.out.trans (I.mono G.out.size));clear O I;generalize bL F=kc at*
 go_region_held3 (fun w'=>w'.cell? ⟨M,0,none⟩=some (.func (.func 176) #[] #[])/\w'.cell? ⟨w.heap.size,1,none⟩=some (.string D))
   (first|exact⟨b0,U⟩|exact⟨d0,d1⟩)
   (first|(go_at_call 176;refine(kI _).mono ?_;rintro e w2 ⟨rfl,rfl⟩))
 all_goals
  clear b0 U a2 a3 a4 b5;generalize (W1.alloc (.cells kc 3)).drew=W2 at*;go_upto_region 6 with fail;cases b1<;>cases b2
  all_goals
   go_quiet (fail);go_wp2;go_ret;exact⟨rfl,below_drewN a1.out⟩
theorem EU(M Y V wb n wc E:Nat)(D:zA)(F:List Nat)(w:zW)(hn:0<n)(hr:dt w M Y V)(hw:cF w wb E D)(hx:Tx.shape false D.data.toList=some F):
  zC 196 #[zP M,zI 3,.slice (some ⟨wb,0,none⟩) n wc] w fun e w'=>e=.returned (zI (-1))/\zB w w':=by
 have a6:(0:Int)<(n:Int):=by omega
 have hc:∀(args:Array zV)(w:zW),(callFunc 176 args).run prog w=.ok (.enter 176 args) w:=fun _ _=>by kernel_rfl
 have kI:∀W,_:=fun W=>dL D F hx W
 have HR:=zH hr;obtain⟨c0,c1⟩:=hw;clear hr hx;go_enter func196,ntmps196;go_upto_region 2 with fail;have G:Hid (zB w (w.alloc (.cells #[zI E,.string D] 298))):=(ae _ _).alloc (af _) _;have S:Hid (dt (w.alloc (.cells #[zI E,.string D] 298)) M Y V):=HR.out.below G.out;have T:=zH (gN w E D 298);clear c0 c1;generalize w.alloc (.cells #[zI E,.string D] 298)=W1 at*;obtain⟨b0,a2,a3,a4⟩:=S.out;obtain⟨b5,U⟩:=T.out;have O:∀W,zB W1 W->dt W M Y V/\cF W w.heap.size E D:=fun W hb=>⟨S.out.below hb,T.out.below hb⟩
 have I:zB W1 (W1.alloc (.cells (bL F) 3)).drew:=(aB (ae _ _) _).drew;have a5:=zH (gD W1 F);obtain⟨⟨d0,d2,d3,d4⟩,d5,d1⟩:=O _ I;have a1:=zH (G.out.trans (I.mono G.out.size));clear O I;generalize bL F=kc at*
 go_region_held3 (fun w'=>w'.cell? ⟨M,0,none⟩=some (.func (.func 176) #[] #[])/\w'.cell? ⟨w.heap.size,1,none⟩=some (.string D))
   (first|exact⟨b0,U⟩|exact⟨d0,d1⟩)
   (first|(go_at_call 176;refine(kI _).mono ?_;rintro e w2 ⟨rfl,rfl⟩))
 all_goals
  clear b0 U a2 a3 a4 b5;generalize (W1.alloc (.cells kc 3)).drew=W2 at*;go_wp2;go_ret;exact⟨rfl,a1.out⟩
theorem Hn(M Y V wb n wc E:Nat)(D:zA)(b3 b4:Bool)(F:List Nat)(w:zW)(hn:0<n)(hr:dt w M Y V)(hw:cF w wb E D)(hx:Tx.shape false D.data.toList=some F)
  (h3:(D.toList==[114,101,113,117,105,114,101])=b3) (h4:((V:Int)==20)=b4):
  zC 196 #[zP M,zI 9,.slice (some ⟨wb,0,none⟩) n wc] w fun e w'=>e=.returned (zI (if b3&&b4 then (E:Int) else -1))/\zB w w':=by
 have a6:(0:Int)<(n:Int):=by omega
 have hc:∀(args:Array zV)(w:zW),(callFunc 176 args).run prog w=.ok (.enter 176 args) w:=fun _ _=>by kernel_rfl
 have kI:∀W,_:=fun W=>dL D F hx W
 have HR:=zH hr;obtain⟨c0,c1⟩:=hw;clear hr hx;go_enter func196,ntmps196;go_upto_region 2 with fail;have G:Hid (zB w (w.alloc (.cells #[zI E,.string D] 298))):=(ae _ _).alloc (af _) _;have S:Hid (dt (w.alloc (.cells #[zI E,.string D] 298)) M Y V):=HR.out.below G.out;have T:=zH (gN w E D 298);clear c0 c1;generalize w.alloc (.cells #[zI E,.string D] 298)=W1 at*;obtain⟨b0,a2,a3,a4⟩:=S.out;obtain⟨b5,U⟩:=T.out;have O:∀W,zB W1 W->dt W M Y V/\cF W w.heap.size E D:=fun W hb=>⟨S.out.below hb,T.out.below hb⟩
 have I:zB W1 (W1.alloc (.cells (bL F) 3)).drew:=(aB (ae _ _) _).drew;have a5:=zH (gD W1 F);obtain⟨⟨d0,d2,d3,d4⟩,d5,d1⟩:=O _ I;have a1:=zH (G.out.trans (I.mono G.out.size));clear O I;generalize bL F=kc at*
 go_region_held3 (fun w'=>w'.cell? ⟨M,0,none⟩=some (.func (.func 176) #[] #[])/\w'.cell? ⟨w.heap.size,1,none⟩=some (.string D))
   (first|exact⟨b0,U⟩|exact⟨d0,d1⟩)
   (first|(go_at_call 176;refine(kI _).mono ?_;rintro e w2 ⟨rfl,rfl⟩))
 all_goals
  clear b0 U a2 a3 a4 b5;generalize (W1.alloc (.cells kc 3)).drew=W2 at*;cases b3<;>cases b4
  all_goals
   go_wp2;go_ret;exact⟨rfl,a1.out⟩
theorem Ho(O sp rq wb n wc F:Nat)(E:zA)(D:List Nat)(z:Int)(w:zW)(hn:0<n)(hr:dt w O sp rq)(hw:cF w wb F E)(hx:Tx.shape false E.data.toList=some D)
  (hk:∀W p,zB w W->zC 211 #[.slice (some ⟨p,0,none⟩) D.length D.length,.slice (some ⟨wb,0,none⟩) n wc] W fun e w'=>e=.returned (zI z)/\zB W w'):
  zC 196 #[zP O,zI 4,.slice (some ⟨wb,0,none⟩) n wc] w fun e w'=>e=.returned (zI z)/\zB w w':=by
 have HK:=zH hk;clear hk;have a6:(0:Int)<(n:Int):=by omega
 have hc:∀(args:Array zV)(w:zW),(callFunc 176 args).run prog w=.ok (.enter 176 args) w:=fun _ _=>by kernel_rfl
 have kI:∀W,_:=fun W=>dL E D hx W
 have HR:=zH hr;obtain⟨c0,c1⟩:=hw;clear hr hx;go_enter func196,ntmps196;go_upto_region 2 with fail;have G:Hid (zB w (w.alloc (.cells #[zI F,.string E] 298))):=(ae _ _).alloc (af _) _;have T:Hid (dt (w.alloc (.cells #[zI F,.string E] 298)) O sp rq):=HR.out.below G.out;have U:=zH (gN w F E 298);clear c0 c1;generalize w.alloc (.cells #[zI F,.string E] 298)=W1 at*;obtain⟨b0,a2,a3,a4⟩:=T.out;obtain⟨b5,V⟩:=U.out;have S:∀W,zB W1 W->dt W O sp rq/\cF W w.heap.size F E:=fun W Y=>⟨T.out.below Y,U.out.below Y⟩
 have M:zB W1 (W1.alloc (.cells (bL D) 3)).drew:=(aB (ae _ _) _).drew;have a5:=zH (gD W1 D);obtain⟨⟨d0,d2,d3,d4⟩,d5,d1⟩:=S _ M;have I:=zH (G.out.trans (M.mono G.out.size));clear S M;generalize bL D=kc at*
 go_region_held3 (fun w'=>w'.cell? ⟨O,0,none⟩=some (.func (.func 176) #[] #[])/\w'.cell? ⟨w.heap.size,1,none⟩=some (.string E))
   (first|exact⟨b0,V⟩|exact⟨d0,d1⟩)
   (first|(go_at_call 176;refine(kI _).mono ?_;rintro e w2 ⟨rfl,rfl⟩))
 all_goals
  clear b0 V a2 a3 a4 b5;generalize (W1.alloc (.cells kc 3)).drew=W2 at*;have km:=fun p=>HK.out W2 p I.out
  go_wp2_with (go_at_call 211;fail)
  go_at_call 211;refine(km _).mono ?_;rintro e w3 ⟨rfl,Y⟩;have a1:=zH (I.out.trans (Y.mono I.out.size));clear Y km;go_wp2;go_ret;exact⟨rfl,a1.out⟩
theorem Hp(O sp rq wb n wc F:Nat)(E:zA)(D:List Nat)(z:Int)(w:zW)(hn:1<n)(a7:n<=wc)(hr:dt w O sp rq)(hw:cF w wb F E)(hx:Tx.shape false E.data.toList=some D)
  (hk:∀W p,zB w W->KAt W p D->zC 212 #[zI 5,.slice (some ⟨p,0,none⟩) D.length D.length,.slice (some ⟨wb,2,none⟩) (n-1) (wc-1)] W fun e w'=>e=.returned (zI z)/\zB W w'):
  zC 196 #[zP O,zI 5,.slice (some ⟨wb,0,none⟩) n wc] w fun e w'=>e=.returned (zI z)/\zB w w':=by
 have QR:2<=wc:=by omega
 obtain⟨nm,rfl⟩:∃m,n=m+1:=⟨n-1,by omega⟩;rw[Nat.add_sub_cancel] at hk;have HK:Hid (∀W p,zB w W->KAt W p D->zC 212 #[zI 5,.slice (some ⟨p,0,none⟩) D.length D.length,.slice (some ⟨wb,2,none⟩) nm (wc-1)] W fun e w'=>e=.returned (zI z)/\zB W w'):=hk;clear hk;have a6:(0:Int)<((nm+1:Nat):Int):=by omega
 have hc:∀(args:Array zV)(w:zW),(callFunc 176 args).run prog w=.ok (.enter 176 args) w:=fun _ _=>by kernel_rfl
 have kI:∀W,_:=fun W=>dL E D hx W
 have HR:Hid (dt w O sp rq):=hr;obtain⟨c0,c1⟩:=hw;clear hr hx;go_enter func196,ntmps196;go_upto_region 2 with fail;have G:Hid (zB w (w.alloc (.cells #[zI F,.string E] 298))):=(ae _ _).alloc (af _) _;have T:Hid (dt (w.alloc (.cells #[zI F,.string E] 298)) O sp rq):=HR.out.below G.out;have U:Hid (cF (w.alloc (.cells #[zI F,.string E] 298)) w.heap.size F E):=gN w F E 298;clear c0 c1;generalize w.alloc (.cells #[zI F,.string E] 298)=W1 at*;obtain⟨b0,a3,a4,a5⟩:=T.out;obtain⟨b5,V⟩:=U.out;have S:∀W,zB W1 W->dt W O sp rq/\cF W w.heap.size F E:=fun W Y=>⟨T.out.below Y,U.out.below Y⟩
 have M:zB W1 (W1.alloc (.cells (bL D) 3)).drew:=(aB (ae _ _) _).drew;have a2:Hid (KAt (W1.alloc (.cells (bL D) 3)).drew W1.heap.size D):=gD W1 D;obtain⟨⟨d0,d2,d3,d4⟩,d5,d1⟩:=S _ M;have I:Hid (zB w (W1.alloc (.cells (bL D) 3)).drew):=G.out.trans (M.mono G.out.size);clear S M;generalize bL D=kc at*
 go_region_held3 (fun w'=>w'.cell? ⟨O,0,none⟩=some (.func (.func 176) #[] #[])/\w'.cell? ⟨w.heap.size,1,none⟩=some (.string E))
   (first|exact⟨b0,V⟩|exact⟨d0,d1⟩)
   (first|(go_at_call 176;refine(kI _).mono ?_;rintro e w2 ⟨rfl,rfl⟩))
 all_goals
  clear b0 V a3 a4 a5 b5;generalize (W1.alloc (.cells kc 3)).drew=W2 at*;have km:=HK.out W2 _ I.out a2.out
  go_wp2_with (go_at_call 212;fail)
  go_at_call 212;refine km.mono ?_;rintro e w3 ⟨rfl,Y⟩;have a1:Hid (zB w w3):=I.out.trans (Y.mono I.out.size);clear Y km;go_wp2;go_ret;exact⟨rfl,a1.out⟩
theorem Kl(O sp rq wb n wc F:Nat)(E:zA)(D:List Nat)(z:Int)(w:zW)(hn:1<n)(a7:n<=wc)(hr:dt w O sp rq)(hw:cF w wb F E)(hx:Tx.shape false E.data.toList=some D)
  (hk:∀W p,zB w W->KAt W p D->zC 212 #[zI 6,.slice (some ⟨p,0,none⟩) D.length D.length,.slice (some ⟨wb,2,none⟩) (n-1) (wc-1)] W fun e w'=>e=.returned (zI z)/\zB W w'):
  zC 196 #[zP O,zI 6,.slice (some ⟨wb,0,none⟩) n wc] w fun e w'=>e=.returned (zI z)/\zB w w':=by
 have QR:2<=wc:=by omega
 obtain⟨nm,rfl⟩:∃m,n=m+1:=⟨n-1,by omega⟩;rw[Nat.add_sub_cancel] at hk;have HK:Hid (∀W p,zB w W->KAt W p D->zC 212 #[zI 6,.slice (some ⟨p,0,none⟩) D.length D.length,.slice (some ⟨wb,2,none⟩) nm (wc-1)] W fun e w'=>e=.returned (zI z)/\zB W w'):=hk;clear hk;have a6:(0:Int)<((nm+1:Nat):Int):=by omega
 have hc:∀(args:Array zV)(w:zW),(callFunc 176 args).run prog w=.ok (.enter 176 args) w:=fun _ _=>by kernel_rfl
 have kI:∀W,_:=fun W=>dL E D hx W
 have HR:Hid (dt w O sp rq):=hr;obtain⟨c0,c1⟩:=hw;clear hr hx;go_enter func196,ntmps196;go_upto_region 2 with fail;have G:Hid (zB w (w.alloc (.cells #[zI F,.string E] 298))):=(ae _ _).alloc (af _) _;have T:Hid (dt (w.alloc (.cells #[zI F,.string E] 298)) O sp rq):=HR.out.below G.out;have U:Hid (cF (w.alloc (.cells #[zI F,.string E] 298)) w.heap.size F E):=gN w F E 298;clear c0 c1;generalize w.alloc (.cells #[zI F,.string E] 298)=W1 at*;obtain⟨b0,a3,a4,a5⟩:=T.out;obtain⟨b5,V⟩:=U.out;have S:∀W,zB W1 W->dt W O sp rq/\cF W w.heap.size F E:=fun W Y=>⟨T.out.below Y,U.out.below Y⟩
 have M:zB W1 (W1.alloc (.cells (bL D) 3)).drew:=(aB (ae _ _) _).drew;have a2:Hid (KAt (W1.alloc (.cells (bL D) 3)).drew W1.heap.size D):=gD W1 D;obtain⟨⟨d0,d2,d3,d4⟩,d5,d1⟩:=S _ M;have I:Hid (zB w (W1.alloc (.cells (bL D) 3)).drew):=G.out.trans (M.mono G.out.size);clear S M;generalize bL D=kc at*
 go_region_held3 (fun w'=>w'.cell? ⟨O,0,none⟩=some (.func (.func 176) #[] #[])/\w'.cell? ⟨w.heap.size,1,none⟩=some (.string E))
   (first|exact⟨b0,V⟩|exact⟨d0,d1⟩)
   (first|(go_at_call 176;refine(kI _).mono ?_;rintro e w2 ⟨rfl,rfl⟩))
 all_goals
  clear b0 V a3 a4 a5 b5;generalize (W1.alloc (.cells kc 3)).drew=W2 at*;have km:=HK.out W2 _ I.out a2.out
  go_wp2_with (go_at_call 212;fail)
  go_at_call 212;refine km.mono ?_;rintro e w3 ⟨rfl,Y⟩;have a1:Hid (zB w w3):=I.out.trans (Y.mono I.out.size);clear Y km;go_wp2;go_ret;exact⟨rfl,a1.out⟩
theorem EV(O sp rq wb n wc F:Nat)(E:zA)(D:List Nat)(z:Int)(w:zW)(hn:1<n)(a7:n<=wc)(hr:dt w O sp rq)(hw:cF w wb F E)(hx:Tx.shape false E.data.toList=some D)
  (hk:∀W p,zB w W->KAt W p D->zC 212 #[zI 7,.slice (some ⟨p,0,none⟩) D.length D.length,.slice (some ⟨wb,2,none⟩) (n-1) (wc-1)] W fun e w'=>e=.returned (zI z)/\zB W w'):
  zC 196 #[zP O,zI 7,.slice (some ⟨wb,0,none⟩) n wc] w fun e w'=>e=.returned (zI z)/\zB w w':=by
 have QR:2<=wc:=by omega
 obtain⟨nm,rfl⟩:∃m,n=m+1:=⟨n-1,by omega⟩;rw[Nat.add_sub_cancel] at hk;have HK:Hid (∀W p,zB w W->KAt W p D->zC 212 #[zI 7,.slice (some ⟨p,0,none⟩) D.length D.length,.slice (some ⟨wb,2,none⟩) nm (wc-1)] W fun e w'=>e=.returned (zI z)/\zB W w'):=hk;clear hk;have a6:(0:Int)<((nm+1:Nat):Int):=by omega
 have hc:∀(args:Array zV)(w:zW),(callFunc 176 args).run prog w=.ok (.enter 176 args) w:=fun _ _=>by kernel_rfl
 have kI:∀W,_:=fun W=>dL E D hx W
 have HR:Hid (dt w O sp rq):=hr;obtain⟨c0,c1⟩:=hw;clear hr hx;go_enter func196,ntmps196;go_upto_region 2 with fail;have G:Hid (zB w (w.alloc (.cells #[zI F,.string E] 298))):=(ae _ _).alloc (af _) _;have T:Hid (dt (w.alloc (.cells #[zI F,.string E] 298)) O sp rq):=HR.out.below G.out;have U:Hid (cF (w.alloc (.cells #[zI F,.string E] 298)) w.heap.size F E):=gN w F E 298;clear c0 c1;generalize w.alloc (.cells #[zI F,.string E] 298)=W1 at*;obtain⟨b0,a3,a4,a5⟩:=T.out;obtain⟨b5,V⟩:=U.out;have S:∀W,zB W1 W->dt W O sp rq/\cF W w.heap.size F E:=fun W Y=>⟨T.out.below Y,U.out.below Y⟩
 have M:zB W1 (W1.alloc (.cells (bL D) 3)).drew:=(aB (ae _ _) _).drew;have a2:Hid (KAt (W1.alloc (.cells (bL D) 3)).drew W1.heap.size D):=gD W1 D;obtain⟨⟨d0,d2,d3,d4⟩,d5,d1⟩:=S _ M;have I:Hid (zB w (W1.alloc (.cells (bL D) 3)).drew):=G.out.trans (M.mono G.out.size);clear S M;generalize bL D=kc at*
 go_region_held3 (fun w'=>w'.cell? ⟨O,0,none⟩=some (.func (.func 176) #[] #[])/\w'.cell? ⟨w.heap.size,1,none⟩=some (.string E))
   (first|exact⟨b0,V⟩|exact⟨d0,d1⟩)
   (first|(go_at_call 176;refine(kI _).mono ?_;rintro e w2 ⟨rfl,rfl⟩))
 all_goals
  clear b0 V a3 a4 a5 b5;generalize (W1.alloc (.cells kc 3)).drew=W2 at*;have km:=HK.out W2 _ I.out a2.out
  go_wp2_with (go_at_call 212;fail)
  go_at_call 212;refine km.mono ?_;rintro e w3 ⟨rfl,Y⟩;have a1:Hid (zB w w3):=I.out.trans (Y.mono I.out.size);clear Y km;go_wp2;go_ret;exact⟨rfl,a1.out⟩
