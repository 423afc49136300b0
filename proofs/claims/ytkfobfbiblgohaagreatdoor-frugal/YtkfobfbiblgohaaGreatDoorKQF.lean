import Derived.Test.YtkfobfbiblgohaaGreatDoorKQB
import Derived.Test.YtkfobfbiblgohaaGreatDoorKRA
set_option linter.all false
open Go.Proofs.Tryz
set_option maxRecDepth 100000
set_option maxHeartbeats 4000000
namespace Go.Proofs.YtkfobfbiblgohaaGreatDoor
open Go.RowKit
namespace Mf
variable{w w':zW}
theorem Ai(f p v b:zA)(W:zW):zC 225 #[.agg #[tS f,tS p,tS v,tS b]] W fun e w'=>e=.returned (.agg #[tS (xC (f,p,v,b)).1,tS (xC (f,p,v,b)).2.1,tS (xC (f,p,v,b)).2.2])/\zB W w':=by
 unfold xC;by_cases h:f=oN
 ·simp only[aj h]
  exact zl f p v b W (by rw[h];kernel_rfl)
 ·simp only[ag h]
  exact oL f p v b W (jM (fun e=>h ((ba_eq _ _).2 e)))
theorem Fg(G J I wb n wc a0 mb mn:Nat)(f p v b c1 c2 c3:zA)(ks:List Nat)(cs:List Cl)(w:zW)(hn:0<n)(a6:NP (c1,c2,c3))(hm:w.cell? (tD G 4)=some (.map (some mb)))(hS:SaidAt w mb mn cs)(hr:dv w G J I)(hw:cT w wb a0 f)(hx:Tx.shape false f.data.toList=some ks)
  (a4:∀W q,zB w W->KAt W q ks->zC 224 #[.slice (some (tD q 0)) ks.length ks.length,.slice (some (tD wb 0)) n wc] W fun e w'=>e=.returned (.agg #[tS f,tS p,tS v,tS b])/\zB W w')
  (kc:∀W,zC 225 #[.agg #[tS f,tS p,tS v,tS b]] W fun e w'=>e=.returned (.agg #[tS c1,tS c2,tS c3])/\zB W w'):
  zC 207 #[zP G,zI 8,.slice (some (tD wb 0)) n wc] w fun e w'=>e=.returned (zI (if cs.any (fun x=>decide (x=(c1,c2,c3))) then (a0:Int) else -1))/\zB w w':=by
 obtain⟨l,hl⟩:=KO (c1,c2,c3) (by have:=a6.1;unfold maxLen;omega) (by have:=a6.2.1;unfold maxLen;omega) (by have:=a6.2.2;unfold maxLen;omega);obtain⟨D,a2,_,a8⟩:=hS;have HD:Hid (Maps.has D l=cs.any (fun x=>decide (x=(c1,c2,c3)))):=a8 _ l hl;clear a8 a6;generalize cs.any (fun x=>decide (x=(c1,c2,c3)))=dd at HD ⊢
 have b9:mb<w.heap.size:=by
  obtain⟨es,cl,h,_⟩:=a2;exact(ou.1 h).1
 have ak:Hid (∀W,zB w W->W.ownsMap prog 312 (plainElem prog 3) mb mn D):=fun W F=>by
  obtain⟨es,cl,h,b6⟩:=a2;exact⟨es,cl,(F.block mb b9).trans h,b6⟩
 have bb:=aY w _ hm;have ab:Hid (∀W,zB w W->W.cell? (tD G 4)=some (.map (some mb))):=fun W F=>by rw[F.cell (p:=(tD G 4)) bb];exact hm
 have HL:Hid (CK (c1,c2,c3) l):=hl;have aq:Hid (∀W q,zB w W->KAt W q ks->zC 224 #[.slice (some (tD q 0)) ks.length ks.length,.slice (some (tD wb 0)) n wc] W fun e w'=>e=.returned (.agg #[tS f,tS p,tS v,tS b])/\zB W w'):=a4;have bd:(0:Int)<(n:Int):=by omega
 clear hm a2 hl a4;have hc:∀(args:Array zV)(w:zW),(callFunc 187 args).run prog w=.ok (.enter 187 args) w:=fun _ _=>by kernel_rfl
 have kI:∀W,_:=fun W=>dP f ks hx W
 have HR:Hid (dv w G J I):=hr;obtain⟨c0,b8⟩:=hw;clear hr hx;go_enter func207,ntmps207;go_upto_region 2 with fail;have a9:Hid (zB w (w.alloc (.cells #[zI a0,tS f] 307))):=(ae _ _).alloc (ah _) _;have an:Hid (dv (w.alloc (.cells #[zI a0,tS f] 307)) G J I):=HR.out.below a9.out;have au:Hid (cT (w.alloc (.cells #[zI a0,tS f] 307)) w.heap.size a0 f):=ib w a0 f 307;clear c0 b8;generalize w.alloc (.cells #[zI a0,tS f] 307)=W1 at*;obtain⟨b0,b2,b3,b4⟩:=an.out;obtain⟨b5,b1⟩:=au.out;have ad:∀W,zB W1 W->dv W G J I/\cT W w.heap.size a0 f:=fun W F=>⟨an.out.below F,au.out.below F⟩
 have M:zB W1 (W1.alloc (.cells (cj ks) 3)).drew:=(ax (ae _ _) _).drew;have b7:Hid (KAt (W1.alloc (.cells (cj ks) 3)).drew W1.heap.size ks):=gN W1 ks;obtain⟨⟨d0,d2,d3,d4⟩,d5,d1⟩:=ad _ M;have aa:Hid (zB w (W1.alloc (.cells (cj ks) 3)).drew):=a9.out.trans (M.mono a9.out.size);clear ad M;generalize cj ks=a7 at*
 go_region_held3 (fun w'=>w'.cell? (tD G 0)=some (.func (.func 187) #[] #[])/\w'.cell? (tD w.heap.size 1)=some (tS f))
   (first|exact⟨b0,b1⟩|exact⟨d0,d1⟩)
   (first|(go_at_call 187;refine(kI _).mono ?_;rintro e w2 ⟨rfl,rfl⟩))
 all_goals
  clear b0 b1 b2 b3 b4 b5;have e4:=ab.out _ aa.out;have bf:Below (W1.alloc (.cells a7 3)).drew.heap.size (W1.alloc (.cells a7 3)).drew (W1.alloc (.cells a7 3)).drew:=ae _ _;generalize (W1.alloc (.cells a7 3)).drew=W2 at*;go_upto_region 16 with fail;have a5:Hid (∀W,zB W2 W->zB w W):=fun W F=>aa.out.trans (F.mono aa.out.size)
  have a4:∀W,zB W2 W->zC 224 #[.slice (some (tD W1.heap.size 0)) ks.length ks.length,.slice (some (tD wb 0)) n wc] W fun e w'=>e=.returned (.agg #[tS f,tS p,tS v,tS b])/\zB W w':=fun W F=>aq.out W _ (a5.out W F) (b7.out.below F)
  have sy:∀W,zB W2 W->W.ownsMap prog 312 (plainElem prog 3) mb mn D:=fun W F=>ak.out W (a5.out W F)
  have CV:∀W,zB W2 W->∃c:Int,(Instr.lookup 258 (.map (some mb)) (.agg #[tS c1,tS c2,tS c3]) true).run prog W=.ok (.tuple #[zI c,.bool (Maps.has D l)]) W:=fun W F=>by
   obtain⟨v0,ps,a3,bc⟩:=(sy W F).look_ok jm underlying258 (Kj W) (plainElem_int underlying3 (by decide)) HL.out;obtain⟨c,rfl,_,_⟩:=plainElem_int_inv underlying3 bc;exact⟨c,a3⟩
  have E:∀W,zB W2 W->W.cell? (tD G 4)=some (.map (some mb)):=fun W F=>ab.out W (a5.out W F)
  clear ab kI ak sy aq
  go_region_held3 (fun w'=>w'.cell? (tD G 4)=some (.map (some mb)))
    (first|exact e4|exact E _ a1|exact E _ M|exact E _ ((ae _ _).drew))
    (first
     |(go_at_call 224;refine(a4 _ ((ae _ _).drew)).mono ?_;rintro e w3 ⟨rfl,av⟩;have M:zB W2 w3:=(ae W2.heap.size W2).drew.trans av;clear av)
     |(go_at_call 225;refine(kc _).mono ?_;rintro e w4 ⟨rfl,az⟩;have a1:zB W2 w4:=M.trans (az.mono M.size);obtain⟨cL,a3⟩:=CV _ a1;clear az))
  all_goals
   have d6:w4.cell? (tD w.heap.size 0)=some (zI a0):=by
    rw[a1.cell (p:=(tD w.heap.size 0)) (aY W2 _ d5)];exact d5
   have HE:Hid (zB w w4):=a5.out _ a1;clear CV E a4 kc d0 d1 d2 d3 d4 d5 a3 M a1 e4;rw[HD.out];clear HD;cases dd
   ·go_wp2
    go_ret;exact⟨rfl,HE.out⟩
   ·go_wp2
    go_ret;exact⟨rfl,HE.out⟩
end Mf
namespace Mf
variable{w w':zW}
theorem xA(G J I wb n wc a0 mb B ln:Nat)(Z:zV)(L:List Sm4)(cs:List Cl)(f p v b c1 c2 c3:zA)(b3:Bool)(ks:List Nat)(w:zW)(cm:0<n)(ca:NP (c1,c2,c3))(hL:L.length<=2001)(hC:cs.length<=2001)(cb:ln<=4000)(hq:I<=4000)(hr:Rd w G mb B J I Z L cs)(hw:cT w wb a0 f)(hx:Tx.shape false f.data.toList=some ks)(cf:(f.toList==[114,101,113,117,105,114,101])=b3)
  (ab:∀W q,zB w W->KAt W q ks->zC 224 #[.slice (some (tD q 0)) ks.length ks.length,.slice (some (tD wb 0)) n wc] W fun e w'=>e=.returned (.agg #[tS f,tS p,tS v,tS b])/\zB W w')
  (kc:∀W,zC 225 #[.agg #[tS f,tS p,tS v,tS b]] W fun e w'=>e=.returned (.agg #[tS c1,tS c2,tS c3])/\zB W w'):
  zC 208 #[zP G,zI ln,.slice (some (tD wb 0)) n wc] w fun e w'=>∃T,e=.returned (.tuple #[])/\Rd w' G mb B J (if b3 then I+1 else I) T (L++[(f,p,v,b)]) (cs++[(c1,c2,c3)])/\Fr (Mine G mb Z) w w'/\(∀b,T.ownBlock=some b->Z.ownBlock=some b\/w.heap.size<=b):=by
 have ck:(0:Int)<(n:Int):=by omega
 obtain⟨rq2,Qv⟩:∃r,(if b3 then I+1 else I)=r:=⟨_,rfl⟩;rw[Qv];have HQ:=zH Qv;clear Qv;have hc:∀(args:Array zV)(w:zW),(callFunc 187 args).run prog w=.ok (.enter 187 args) w:=fun _ _=>by kernel_rfl
 have kI:∀W,_:=fun W=>dP f ks hx W
 obtain⟨i2,bn,bp,bq,bs⟩:=Gc;have HJ:Hid (prog.info? 265=some i2/\i2.zero=some (.agg #[tS ByteArray.empty,tS ByteArray.empty,tS ByteArray.empty,tS ByteArray.empty])/\i2.size=4/\i2.bytes=64):=⟨bn,bp,bq,bs⟩;clear bn bp bq bs;have HR:=zH hr;obtain⟨b0,b2,c5,b4⟩:=hr.rd;obtain⟨c0,a8⟩:=hw;have cc:=aY w _ a8;have a3:Hid (zB w (w.alloc (.cells (cj ks) 3)).drew):=(ax (ae _ _) _).drew;have b8:Hid (KAt (w.alloc (.cells (cj ks) 3)).drew w.heap.size ks):=gN w ks;have ab:=ab _ _ a3.out b8.out;have HC:Hid ((w.alloc (.cells (cj ks) 3)).drew.cell? (tD G 0)=some (.func (.func 187) #[] #[])/\(w.alloc (.cells (cj ks) 3)).drew.cell? (tD wb 1)=some (tS f)):=⟨(HR.out.rd.below a3.out).1,by rw[a3.out.cell (p:=(tD wb 1)) cc];exact a8⟩;clear hr hx b8;generalize cj ks=cd at*;go_enter func208,ntmps208;go_upto_region 0 with fail
 go_region_held3 (fun w'=>w'.cell? (tD G 0)=some (.func (.func 187) #[] #[])/\w'.cell? (tD wb 1)=some (tS f))
   (first|exact⟨b0,a8⟩|exact HC.out)
   (first|(go_at_call 187;refine(kI _).mono ?_;rintro e w2 ⟨rfl,rfl⟩))
 all_goals
  clear b0 b2 c5 b4 c0 a8 kI HC;generalize (w.alloc (.cells cd 3)).drew=W2 at*
  go_wp2_with (go_at_call 224;fail)
  go_at_call 224;refine ab.mono ?_;rintro e w3 ⟨rfl,bf⟩;have an:=zH (a3.out.trans (bf.mono a3.out.size));clear bf ab a3;go_upto_region 2 with fail;have a1:Hid (zB w (w3.alloc (.cells #[tS f,tS p,tS v,tS b] 265))):=ax an.out _;have a6:Hid (∀j u,[Value.string f,tS p,tS v,tS b][j]?=some u->(w3.alloc (.cells #[tS f,tS p,tS v,tS b] 265)).cell? (((tD w3.heap.size 0):Addr).add j)=some u):=fun j u hj=>jf w3 _ _ _ _ 265 j u hj
  have x0:(w3.alloc (.cells #[tS f,tS p,tS v,tS b] 265)).cell? (tD w3.heap.size 0)=some (tS f):=a6.out 0 _ rfl;have x1:(w3.alloc (.cells #[tS f,tS p,tS v,tS b] 265)).cell? (tD w3.heap.size 1)=some (tS p):=a6.out 1 _ rfl;have x2:(w3.alloc (.cells #[tS f,tS p,tS v,tS b] 265)).cell? (tD w3.heap.size 2)=some (tS v):=a6.out 2 _ rfl;have x3:(w3.alloc (.cells #[tS f,tS p,tS v,tS b] 265)).cell? (tD w3.heap.size 3)=some (tS b):=a6.out 3 _ rfl;have a7:Hid (w.heap.size<=w3.heap.size/\w3.heap.size<(w3.alloc (.cells #[tS f,tS p,tS v,tS b] 265)).heap.size):=⟨an.out.size,by simp⟩;generalize w3.heap.size=F at*;generalize w3.alloc (.cells #[tS f,tS p,tS v,tS b] 265)=M at*;clear a6 an;have a9:Fld M G 5 Z:=HR.out.fs.of_block (a1.out.block G (aY w _ HR.out.fs.1));have b1:Fld (M.alloc (.cells #[tS f,tS p,tS v,tS b] 265)).drew G 5 Z:=a9.of_block (aH _ _ _ (aY M _ a9.1));have bt:(M.alloc (.cells #[tS f,tS p,tS v,tS b] 265)).drew.ownsRow B 265 4 Z L.length (cu L):=ar (ar HR.out.own (fun b e=>a1.out.block b (HR.out.own.lt b e).2)) (fun b e=>aH _ _ _ (bP (HR.out.own.lt b e).2 a1.out.size))
  have R7:∀j u,[Value.string f,tS p,tS v,tS b][j]?=some u->(M.alloc (.cells #[tS f,tS p,tS v,tS b] 265)).drew.cell? (((tD M.heap.size 0):Addr).add j)=some u:=fun j u hj=>jf M _ _ _ _ 265 j u hj
  have au:Hid (some G≠Z.ownBlock):=fun e=>by have h:=(HR.out.own.lt G e.symm).1;have:=HR.out.lt.1;omega
  have a4:=zH b1;have c8:M.cell? (tD G 5)=some Z:=a9.1;have c6:(M.alloc (.cells #[tS f,tS p,tS v,tS b] 265)).cell? (tD G 5)=some Z:=b1.1;have ch:B<=M.heap.size:=aN HR.out.lt.2.2.1 a1.out.size;clear a9 b1
  have bb:Hid (Rd (M.alloc (.cells #[tS f,tS p,tS v,tS b] 265)) G mb B J I Z L cs):=by
   have h1:Rd M G mb B J I Z L cs:=HR.out.of_block a1.out.size (a1.out.block G (bP HR.out.lt.1 HR.out.lt.2.2.1)) (a1.out.block mb (bP HR.out.lt.2.1 HR.out.lt.2.2.1)) (fun b e=>a1.out.block b (HR.out.own.lt b e).2);exact h1.of_block (by simp) (aH _ _ _ (bP h1.lt.1 h1.lt.2.2.1)) (aH _ _ _ (bP h1.lt.2.1 h1.lt.2.2.1)) (fun b e=>aH _ _ _ (h1.own.lt b e).2)
  have bc:Hid (∀b,Z.ownBlock=some b->b<w.heap.size):=fun b e=>(HR.out.own.lt b e).2
  have b9:=zH HR.out.lt;obtain⟨sa,sc,rfl⟩:=aC HR.out.own
  go_region_law
   (first|(refine step_append_lies _ rfl (.tmp 28) (.tmp 30) 259 rfl B 265 i2 (.agg #[tS ByteArray.empty,tS ByteArray.empty,tS ByteArray.empty,tS ByteArray.empty]) 4 64 underlying259 HJ.out.1 HJ.out.2.1 HJ.out.2.2.1 HJ.out.2.2.2 rfl (by decide) _ L.length _ rfl bt (tD M.heap.size 0) 1 1 [tS f,tS p,tS v,tS b] rfl rfl R7 (fun u hu=>by simp at hu;rcases hu with rfl|rfl|rfl|rfl<;>rfl) (by decide) (by unfold maxLen;omega) (by omega) (by show B<=(M.alloc _).heap.size;simp;omega) _ rfl ?_;intro g cap w5 ak E bd sH;have c9:w5.cell? (tD G 5)=some (.slice sa L.length sc):=(a4.out.of_block (E.block G (aY _ _ a4.out.1) au.out)).1;have f3:w5.frozen? (tD G 5)=false:=(a4.out.of_block (E.block G (aY _ _ a4.out.1) au.out)).2))
  all_goals
   have a5:Hid (Rd (w5.setCell (tD G 5) (.slice (some (tD g 0)) (L.length+1) cap)) G mb B J I (.slice (some (tD g 0)) (L.length+1) cap) (L++[(f,p,v,b)]) cs):=bb.out.grown ⟨E.os,E.tape,E.output,E.size,E.block⟩ ak
   have b7:Hid (Fr (Mine G mb (.slice sa L.length sc)) w (w5.setCell (tD G 5) (.slice (some (tD g 0)) (L.length+1) cap))):=by
    have f1:Fr (Mine G mb (.slice sa L.length sc)) w M:=Fr.of_below a1.out;have f2:=f1.trans (Fr.of_below (ax (ae M.heap.size M) (.cells #[tS f,tS p,tS v,tS b] 265)));have f3:=f2.trans (Fr.sG (b:=w5) ⟨E.os,E.tape,E.output,E.size,E.block⟩ (fun k e=>oS (oS e)));exact f3.trans (Fr.qZ w5 G 5 _ (oE rfl))
   have b5:Hid (∀b,(Value.slice (some (tD g 0)) (L.length+1) cap).ownBlock=some b->(Value.slice sa L.length sc).ownBlock=some b\/w.heap.size<=b):=fun b e=>by
    have e1:g=b:=by simpa[Value.ownBlock] using e
    rcases bd with h|h
    ·exact oE (by rw[<-e1];exact h)
    ·have h1:=a1.out.size
     have h2:g=M.heap.size+1:=by rw[h];simp
     exact oS (by omega)
   have bk:(w5.setCell (tD G 5) (.slice (some (tD g 0)) (L.length+1) cap)).heap[F]?=M.heap[F]?:=by
    have h1:=a7.out;have h2:=b9.out;rw[aL _ _ _ _ (fun e=>by have e3:F=G:=e;omega)];rw[E.block F (by simp;omega) (fun e=>by have:=bc.out F e.symm;omega)];exact aH _ _ _ h1.2
   have HY:Hid (∀W:zW,W.heap[F]?=(w5.setCell (tD G 5) (.slice (some (tD g 0)) (L.length+1) cap)).heap[F]?->W.cell? (tD F 0)=some (tS f)/\W.cell? (tD F 1)=some (tS p)/\W.cell? (tD F 2)=some (tS v)/\W.cell? (tD F 3)=some (tS b)):=fun W e=>by
    rw[bk] at e;exact⟨by rw[bg (w:=M) (a:=(tD F 0)) e];exact x0,by rw[bg (w:=M) (a:=(tD F 1)) e];exact x1,by rw[bg (w:=M) (a:=(tD F 2)) e];exact x2,by rw[bg (w:=M) (a:=(tD F 3)) e];exact x3⟩
   have Kk:F<(w5.setCell (tD G 5) (.slice (some (tD g 0)) (L.length+1) cap)).heap.size:=by
    have h1:M.heap.size+1<=w5.heap.size:=by have:=E.size;simpa using this
    have h2:=a7.out.2;simp[World.setCell];omega
   have ad:Hid (F<(w5.setCell (tD G 5) (.slice (some (tD g 0)) (L.length+1) cap)).heap.size/\F≠mb):=⟨Kk,by have:=b9.out;have:=a7.out;omega⟩;clear bk Kk x0 x1 x2 x3 c8 c6 c9 f3 ak E bd sH R7 bt a4 au bb HR bc a1 a7;go_upto_region 3 with fail;generalize w5.setCell (tD G 5) (.slice (some (tD g 0)) (L.length+1) cap)=W5 at*;have c4:W5.cell? (tD G 4)=some (.map (some mb)):=a5.out.fm;obtain⟨y0,y1,y2,y3⟩:=HY.out W5 rfl
   have bv:∀W,zB W5 W->∃w7,(Instr.mapUpdate 258 (.map (some mb)) (.agg #[tS c1,tS c2,tS c3]) (zI ln)).run prog W=.ok () w7/\Hid (Rd w7 G mb B J I (.slice (some (tD g 0)) (L.length+1) cap) (L++[(f,p,v,b)]) (cs++[(c1,c2,c3)]))/\Hid (Fr (Mine G mb (.slice sa L.length sc)) w w7)/\w7.heap[F]?=W5.heap[F]?:=fun W hb=>by
    have l:=a5.out.lt;have e1:=hb.block G (by omega);have e2:=hb.block mb (by omega);have r6:=a5.out.of_block hb.size e1 e2 (fun b e=>hb.block b (a5.out.own.lt b e).2);obtain⟨w7,h1,h2,h3⟩:=rf cb hC ca r6.said;refine⟨w7,h1,r6.put h3 (by rw[aU];exact h2),(b7.out.trans (Fr.of_below hb)).trans (Fr.sG h3 (fun k e=>oS (oE (by injection e with e;exact e.symm)))),?_⟩;have h4:=ad.out;rw[h3.block F (bP h4.1 hb.size) (fun e=>h4.2 (by injection e))];exact hb.block F h4.1
   go_region_held3 (fun w'=>w'.cell? (tD G 4)=some (.map (some mb))/\w'.cell? (tD F 0)=some (tS f)/\w'.cell? (tD F 1)=some (tS p)/\w'.cell? (tD F 2)=some (tS v)/\w'.cell? (tD F 3)=some (tS b))
    (first|exact⟨c4,y0,y1,y2,y3⟩|exact⟨a2.out.fm,HY.out _ EY⟩|exact⟨bm,HY.out _ Kl⟩)
    (first|(go_at_call 225;refine(kc _).mono ?_;rintro e w6 ⟨rfl,bi⟩;have aa:zB W5 w6:=(ae W5.heap.size W5).drew.trans bi;have Kl:w6.heap[F]?=W5.heap[F]?:=aa.block F ad.out.1;have bm:w6.cell? (tD G 4)=some (.map (some mb)):=(aa.cell (p:=(tD G 4)) (aY W5 _ c4)).trans c4;obtain⟨w7,bu,a2,aq,EY⟩:=bv w6 aa;clear bi))
   all_goals
    obtain⟨z0,z1,z2,z3⟩:=HY.out _ EY;clear b7 bv kc bu y0 y1 y2 y3 c4 bm aa Kl EY HY a5;have q3:w7.cell? (tD G 3)=some (zI I):=a2.out.rd.2.2.2;have cp:w7.frozen? (tD G 3)=false:=a2.out.f3;have av:Hid (Rd (w7.setCell (tD G 3) (zI ((I:Int)+1))) G mb B J (I+1) (.slice (some (tD g 0)) (L.length+1) cap) (L++[(f,p,v,b)]) (cs++[(c1,c2,c3)])):=a2.out.count 3 J (I+1) (I+1) (oS ⟨rfl,rfl,rfl⟩);have b6:Hid (Fr (Mine G mb (.slice sa L.length sc)) w (w7.setCell (tD G 3) (zI ((I:Int)+1)))):=aq.out.trans (Fr.qZ w7 G 3 _ (oE rfl));have e2:IntKind.i64.wrap ((I:Int)+1)=(I:Int)+1:=by simp[IntKind.wrap,IntKind.bits,IntKind.signed];omega
    cases b3
    ·have az:Hid (Rd w7 G mb B J rq2 (.slice (some (tD g 0)) (L.length+1) cap) (L++[(f,p,v,b)]) (cs++[(c1,c2,c3)])):=by
      have e:I=rq2:=HQ.out;rw[<-e];exact a2
     clear HQ a2 av b6;go_wp2;exact ia (v:=.tuple #[]) (by simp[results,results208,go_sem]) rfl ⟨_,rfl,az.out,aq.out,b5.out⟩
    ·have az:Hid (Rd (w7.setCell (tD G 3) (zI ((I:Int)+1))) G mb B J rq2 (.slice (some (tD g 0)) (L.length+1) cap) (L++[(f,p,v,b)]) (cs++[(c1,c2,c3)])):=by
      have e:I+1=rq2:=HQ.out;rw[<-e];exact av
     clear HQ a2 av aq;go_wp2;exact ia (v:=.tuple #[]) (by simp[results,results208,go_sem]) rfl ⟨_,rfl,az.out,b6.out,b5.out⟩
end Mf
namespace Mf
variable{w w':zW}
theorem Gp{l:Wl}{j:Nat}(h:j<l.length):wd l j=l[j].2:=by
 unfold wd;rw[getD_at h]
theorem jh{b:Nat}{l:Wl}(h:WAt w b 0 l){j:Nat}(E:j<l.length):w.cell? (tD b (j*2+1))=some (tS (wd l j)):=by
 have:=(h.2 j E).2;rw[Gp E];simpa using this
theorem BJ{l:Wl}{j:Nat}(h:l.length<=j):wd l j=⟨#[]⟩:=by
 unfold wd;rw[List.getD,iA h]
 rfl
theorem Qw{l:Wl}{M:List Nat}(h:Ok l M)(k j:Nat)(hk:k=5\/k=6\/k=7)(F:j<M.length)(e:M[j]=k):Tx.fit Pv.aG k (wd l (j+1)).data.toList=true:=by
 have hm:Tx.misfit Pv.aG k M (aF l).tail=none:=by
  rcases hk with rfl|rfl|rfl
  ·exact h.m5
  ·exact h.m6
  ·exact h.m7
 have gen:∀(ps:List Nat)(E:Wl)(j:Nat)(F:j<ps.length)(hw:ps.length=E.length),Tx.misfit Pv.aG k ps (aF E)=none->ps[j]=k->Tx.fit Pv.aG k (E.getD j pad).2.data.toList=true:=by
  intro ps
  induction ps with
  |nil=>intro E j F;simp at F
  |cons q ps ih=>
   intro E j F hw a0 he;cases E with
   |nil=>simp at hw
   |cons y E=>
    have NT:(if q=k/\Tx.fit Pv.aG k y.2.data.toList=false then some y.1 else Tx.misfit Pv.aG k ps (aF E))=none:=a0;by_cases hc:q=k/\Tx.fit Pv.aG k y.2.data.toList=false
    ·rw[aj hc] at NT;cases NT
    ·rw[ag hc] at NT
     cases j with
     |zero=>
      have hq:q=k:=he;cases hf:Tx.fit Pv.aG k y.2.data.toList with
      |true=>exact hf
      |false=>exact absurd ⟨hq,hf⟩ hc
     |succ j=>exact ih E j (by simpa using F) (by simpa using hw) NT (by simpa using he)
 cases l with
 |nil=>have:=h.len;simp at this
 |cons x r=>exact gen M r j F (by have:=h.len;simpa using this.symm) hm e
theorem Qx{v:zA}(h:(Pv.parse v.data.toList).isSome=true):(v.toList==[])=false:=by
 refine jM fun e=>?_
 rw[e] at h;exact absurd h (by decide)
theorem sT{l:Wl}{ks:List Nat}(h:Ok l ks)(p b c:Nat)(w:zW)(E:KAt w p ks)(F:WAt w b 0 l):
  zC 224 #[.slice (some (tD p 0)) ks.length ks.length,.slice (some (tD b 0)) l.length c] w fun e w'=>e=.returned (.agg #[tS (wd l 0),tS (wd l 1),tS (wd l 2),tS (wd l 4)])/\zB w w':=by
 rcases lg h.sh with⟨_,M⟩|⟨_,M⟩|⟨_,M⟩
 ·have hl:l.length=2:=by have:=h.len;rw[M] at this;exact this
  rw[M] at E ⊢;rw[BJ (l:=l) (j:=2) (by omega),BJ (l:=l) (j:=4) (by omega)];exact C5 p b l.length c _ _ w (by omega) (by omega) E.1 F.1 (E.2 0 (by simp)) (jh F (j:=0) (by omega)) (jh F (j:=1) (by omega))
 ·have hl:l.length=3:=by have:=h.len;rw[M] at this;exact this
  rw[M] at E ⊢;rw[BJ (l:=l) (j:=4) (by omega)];exact Bv p b l.length c _ _ _ w (by omega) (by omega) E.1 F.1 (E.2 0 (by simp)) (E.2 1 (by simp)) (jh F (j:=0) (by omega)) (jh F (j:=1) (by omega)) (jh F (j:=2) (by omega))
 ·have hl:l.length=5:=by have:=h.len;rw[M] at this;exact this
  have hf:Tx.fit Pv.aG 6 (wd l 2).data.toList=true:=Qw h 6 1 (by omega) (by rw[M];decide) (by simp[M]);rw[M] at E ⊢;exact zn p b l.length c _ _ _ _ _ w (by omega) (by omega) E.1 F.1 (Qx hf) (E.2 0 (by simp)) (E.2 1 (by simp)) (E.2 2 (by simp)) (E.2 3 (by simp)) (jh F (j:=0) (by omega)) (jh F (j:=1) (by omega)) (jh F (j:=2) (by omega)) (jh F (j:=3) (by omega)) (jh F (j:=4) (by omega))
theorem Fh(x:zA)(l:List UInt8):(x.toList==l)=(x.data.toList==l):=by rw[fc]
theorem Fj{wb wc:Nat}{l:Wl}{E:List Nat}(a0:E.length<=4)(hW:WAt w wb 0 l)(a1:0<l.length)(hs:∀x∈l,x.1<=4000/\x.2.size<=4000)(W:zW)(p:Nat)(hb:zB w W):
  zC 222 #[.slice (some (tD p 0)) E.length E.length,.slice (some (tD wb 0)) l.length wc] W fun e w'=>e=.returned (zI (cnt E l))/\zB W w':=by
 have M:=hW.below hb;unfold cnt;by_cases h2:E.length+1<l.length
 ·rw[aj h2]
  refine(qA (some (tD p 0)) wb 0 E.length E.length l.length wc ((l.getD (E.length+1) pad).1:Int) W (by omega) (by omega) ?_).mono ?_
  ·have h:=(M.2 (E.length+1) h2).1
   rw[getD_at h2,Nat.add_comm 1];exact h
  ·rintro e w' ⟨rfl,rfl⟩
   exact⟨rfl,ae _ _⟩
 ·rw[ag h2]
  by_cases h1:l.length<E.length+1
  ·rw[aj h1]
   have F:l.length-1<l.length:=by omega
   have hx:=hs _ (ez F);rw[getD_at F];refine(sB (some (tD p 0)) wb 0 E.length E.length l.length wc l[l.length-1].1 l[l.length-1].2 W (by omega) (by omega) (by omega) hx.1 hx.2 ?_ ?_).mono ?_
   ·exact(M.2 _ F).1
   ·exact(M.2 _ F).2
   ·rintro e w' ⟨rfl,h⟩
    exact⟨rfl,h⟩
  ·rw[ag h1]
   have h0:l.length=E.length+1:=by omega
   rw[h0];refine(qz (some (tD p 0)) (some (tD wb 0)) E.length E.length wc W (by omega)).mono ?_;rintro e w' ⟨rfl,rfl⟩;exact⟨rfl,ae _ _⟩
theorem pg{M wc k:Nat}{l:Wl}{E:List Nat}(hm:Ml w)(hW:WAt w M 0 l)(hl:l.length=E.length+1)(a2:E.length<=4)(hs:∀x∈l,x.1<=4000/\x.2.size<=4000)(hk:k=5\/k=6\/k=7)(W:zW)(p:Nat)(hb:zB w W)(hP:KAt W p E):
  zC 223 #[zI k,.slice (some (tD p 0)) E.length E.length,.slice (some (tD M 2)) (l.length-1) (wc-1)] W fun e w'=>e=.returned (zI (CQ (Tx.misfit Pv.aG k E (aF l).tail)))/\zB W w':=by
 cases l with
 |nil=>simp at hl
 |cons x r=>
  have hr:r.length=E.length:=by simpa using hl
  have F:=hW.below hb
  have a0:WAt W M 2 r:=⟨F.1,fun j hj=>by
   have:=F.2 (j+1) (by simpa using hj);rw[show 0+(j+1)*2=2+j*2 by omega] at this;simpa using this⟩
  refine(xy Pv.aG k p M 2 E.length E.length r.length (wc-1) E r W (by omega) rfl rfl (by omega) (by omega) hP a0 ?_).mono ?_
  ·intro j hj W' a1
   exact Km _ k W' ((hm.below hb).below a1) (hs _ (cy _ (ez hj))).2 hk
  ·rintro e w' ⟨rfl,h⟩
   exact⟨rfl,h⟩
theorem Qy{E:List Nat}{l:Wl}(h:cnt E l=-1):l.length=E.length+1:=by
 unfold cnt at h
 split at h
 ·omega
 ·split at h
  ·omega
  ·omega
theorem Iw{f:List UInt8}{F:List Nat}(h:Tx.shape false f=some F):F.length<=4/\1<=F.length:=by
 rcases lg h with⟨_,E⟩|⟨_,E⟩|⟨_,E⟩<;>rw[E]<;>decide
theorem uL{r:Option Nat}(h:CQ r=-1):r=none:=by
 cases r with
 |none=>rfl
 |some a=>simp only[CQ] at h;omega
theorem Gq{l:Wl}(h:∀x∈l,x.1<=4000/\x.2.size<=2000):NP (kF l):=by
 have E:∀j,(wd l j).size<=2000:=fun j=>by
  by_cases F:j<l.length
  ·rw[Gp F];exact(h _ (ez F)).2
  ·rw[BJ (by omega)];decide
 refine⟨E 0,E 1,?_⟩;show(if wd l 0=oN then (⟨#[]⟩:zA) else wd l 2).size<=2000
 split
 ·decide
 ·exact E 2
def Wd4(f:zA):Prop:=f=mV\/f=oN\/f=C0\/f=C2
theorem Qz{l:Wl}{E:List Nat}(h:Ok l E):Wd4 (wd l 0):=by
 rcases lg h.sh with⟨e,_⟩|⟨e,_⟩|⟨e,_⟩
 ·exact oE ((ba_eq _ _).2 e)
 ·rcases e with e|e
  ·exact oS (oE ((ba_eq _ _).2 e))
  ·exact oS (oS (oE ((ba_eq _ _).2 e)))
 ·exact oS (oS (oS ((ba_eq _ _).2 e)))
theorem Ix(G J I wb wc mb B k:Nat)(Z:zV)(L:List Sm4)(cs:List Cl)(l:Wl)(w:zW)(hm:Ml w)(hr:Rd w G mb B J I Z L cs)(hW:WAt w wb 0 l)(a7:l≠[])(hc:l.length<=wc)
  (hz:∀x∈l,x.1<=4000/\x.2.size<=2000) (h2:2<=k) (h9:k<=9) (lM:∀j,2<=j->j<k->ek l (J==1) (cs.any fun x=>decide (x=kF l)) (I==20) j=-1):
  zC 207 #[zP G,zI k,.slice (some (tD wb 0)) l.length wc] w fun e w'=>e=.returned (zI (ek l (J==1) (cs.any fun x=>decide (x=kF l)) (I==20) k))/\zB w w':=by
 have hn:0<l.length:=gC.2 a7;have a4:l.getD 0 pad=l[0]:=getD_at hn;have aa:wd l 0=l[0].2:=Gp hn
 have F:cT w wb (l.getD 0 pad).1 (wd l 0):=by
  have h:=hW.2 0 hn;rw[a4,aa];exact⟨by simpa using h.1,by simpa using h.2⟩
 have hs:∀x∈l,x.1<=4000/\x.2.size<=4000:=fun x hx=>⟨(hz x hx).1,by have:=(hz x hx).2;omega⟩
 have a2:((J:Int)==1)=(J==1):=by
  rw[gi];simp only[beq_iff_eq];omega
 have a9:((I:Int)==20)=(I==20):=by
  rw[gi];simp only[beq_iff_eq];omega
 have a1:at2 ((wd l 0).data.toList==Tx.wM) (J==1) (l.getD 0 pad).1=if ((wd l 0).data.toList==Tx.wM)≠(J==1) then ((l.getD 0 pad).1:Int) else -1:=by
  unfold at2;cases ((wd l 0).data.toList==Tx.wM)<;>cases (J==1)<;>rfl
 cases hsh:Tx.shape false (wd l 0).data.toList with
 |none=>
  have a5:k=2\/k=3:=by
   apply xg;intro h;have:=lM 3 (by omega) (by omega);unfold ek at this;rw[ag (by decide),hsh] at this;simp only at this;omega
  have key:=Io G J I wb l.length wc k (l.getD 0 pad).1 (wd l 0) _ _ w hn hr.rd F hsh (Fh _ _) a2 a5;refine key.mono ?_;rintro e w' ⟨rfl,M⟩;refine⟨?_,M⟩;unfold ek;rw[hsh];by_cases e2:k=2
  ·rw[aj e2,aj e2]
   exact bz (fun z=>Ending.returned (zI z)) a1
  ·rw[ag e2,ag e2]
 |some ks=>
  have a0:=Iw hsh
  have E:∀k,k≠2->ek l (J==1) (cs.any fun x=>decide (x=kF l)) (I==20) k=if k=3 then -1 else if k=4 then cnt ks l else if k=8 then (if (cs.any fun x=>decide (x=kF l)) then ((l.getD 0 pad).1:Int) else -1)
   else if k=9 then (if (wd l 0).data.toList=Tx.wR/\(I==20)=true then ((l.getD 0 pad).1:Int) else -1) else CQ (Tx.misfit Pv.aG k ks (aF l).tail):=fun k hk=>by
   unfold ek;rw[ag hk,hsh]
  have h4:4<k->l.length=ks.length+1:=fun h=>Qy (by
   have:=lM 4 (by omega) h;rw[E 4 (by decide)] at this;exact this)
  by_cases e8:k=8
  ·subst e8
   have a6:=h4 (by omega)
   have a8:Ok l ks:=by
    refine⟨hsh,a6,?_,?_,?_⟩
    ·exact uL (by have:=lM 5 (by omega) (by omega);rw[E 5 (by decide)] at this;exact this)
    ·exact uL (by have:=lM 6 (by omega) (by omega);rw[E 6 (by decide)] at this;exact this)
    ·exact uL (by have:=lM 7 (by omega) (by omega);rw[E 7 (by decide)] at this;exact this)
   have k8:=Fg G J I wb l.length wc (l.getD 0 pad).1 mb cs.length (wd l 0) (wd l 1) (wd l 2) (wd l 4) (kF l).1 (kF l).2.1 (kF l).2.2 ks cs w hn (Gq hz) hr.fm hr.said hr.rd F hsh
    (fun W q M hq=>sT a8 q wb wc W hq (hW.below M)) (fun W=>Ai (wd l 0) (wd l 1) (wd l 2) (wd l 4) W)
   rw[E 8 (by decide)];exact k8
  ·rcases(by omega:k=2\/k=3\/k=4\/k=5\/k=6\/k=7\/k=9) with rfl|rfl|rfl|rfl|rfl|rfl|rfl
   ·have:=KP G J I wb l.length wc (l.getD 0 pad).1 (wd l 0) _ _ ks w hn hr.rd F hsh (Fh _ _) a2
    have e:ek l (J==1) (cs.any fun x=>decide (x=kF l)) (I==20) 2=at2 ((wd l 0).data.toList==Tx.wM) (J==1) (l.getD 0 pad).1:=by unfold ek;rw[aj rfl];exact a1.symm
    rw[e];exact this
   ·rw[E 3 (by decide)]
    exact Fb G J I wb l.length wc (l.getD 0 pad).1 (wd l 0) ks w hn hr.rd F hsh
   ·rw[E 4 (by decide)]
    exact Iq G J I wb l.length wc (l.getD 0 pad).1 (wd l 0) ks _ w hn hr.rd F hsh (fun W p M=>Fj a0.1 hW hn hs W p M)
   ·rw[E 5 (by decide)]
    exact Ir G J I wb l.length wc (l.getD 0 pad).1 (wd l 0) ks _ w (by have:=h4 (by decide);omega) hc hr.rd F hsh (fun W p M hP=>pg (k:=5) hm hW (h4 (by decide)) a0.1 hs (by decide) W p M hP)
   ·rw[E 6 (by decide)]
    exact KQ G J I wb l.length wc (l.getD 0 pad).1 (wd l 0) ks _ w (by have:=h4 (by decide);omega) hc hr.rd F hsh (fun W p M hP=>pg (k:=6) hm hW (h4 (by decide)) a0.1 hs (by decide) W p M hP)
   ·rw[E 7 (by decide)]
    exact Fc G J I wb l.length wc (l.getD 0 pad).1 (wd l 0) ks _ w (by have:=h4 (by decide);omega) hc hr.rd F hsh (fun W p M hP=>pg (k:=7) hm hW (h4 (by decide)) a0.1 hs (by decide) W p M hP)
   ·have k9:=Ip G J I wb l.length wc (l.getD 0 pad).1 (wd l 0) _ _ ks w hn hr.rd F hsh (Fh _ _) a9
    have a3:((wd l 0).data.toList==[114,101,113,117,105,114,101])=decide ((wd l 0).data.toList=Tx.wR):=by
     rw[gi,beq_iff_eq,decide_eq_true_iff];exact Iff.rfl
    rw[E 9 (by decide)];rw[a3] at k9;refine k9.mono ?_;rintro e w' ⟨rfl,M⟩;refine⟨?_,M⟩;by_cases e:(wd l 0).data.toList=Tx.wR<;>cases (I==20)<;>simp[e]
end Mf
namespace Mf
variable{w w':zW}
structure Rs(U:World)(G mb:Nat)(Z V:zV)(L:List Sm4)(Y:List (Nat×Nat×Nat))(J I:Nat)(wr:World):Prop where
 rd:Rd wr G mb U.heap.size J I Z L (L.map xC)
 os:wr.ownsRow U.heap.size 291 3 V Y.length (dK Y)
 ne:∀b,Z.ownBlock=some b->V.ownBlock≠some b
 fr:Fr (fun b=>b=G\/b=mb) U wr
variable{U wr:zW}{G mb J I:Nat}{Z V T O:zV}{L:List Sm4}{Y:List (Nat×Nat×Nat)}
theorem Rs.below(h:Rs U G mb Z V L Y J I wr)(E:zB wr w'):Rs U G mb Z V L Y J I w':=
 ⟨h.rd.of_block E.size (E.block G (bP h.rd.lt.1 h.rd.lt.2.2.1)) (E.block mb (bP h.rd.lt.2.1 h.rd.lt.2.2.1)) (fun b e=>E.block b (h.rd.own.lt b e).2),
  ar h.os (fun b e=>E.block b (h.os.lt b e).2),h.ne,h.fr.trans (Fr.of_below E)⟩
theorem Rs.ml(h:Rs U G mb Z V L Y J I wr)(hm:Ml U)(E:G≠0/\mb≠0):Ml wr:=by
 obtain⟨m,e⟩:=hm;have F:=aY U _ e;refine⟨m,?_⟩;rw[bg (w:=U) (a:=(tD 0 0)) (h.fr.block 0 F (fun e=>by rcases e with e|e;exact E.1 e.symm;exact E.2 e.symm))];exact e
theorem Rs.old(h:Rs U G mb Z V L Y J I wr){b o:Nat}{v:zV}(F:U.cell? (tD b o)=some v)(E:b≠G/\b≠mb):wr.cell? (tD b o)=some v:=by
 have M:=aY U _ F;rw[bg (w:=U) (a:=(tD b o)) (h.fr.block b M (fun e=>by rcases e with e|e;exact E.1 e;exact E.2 e))];exact F
theorem Rs.speak(h:Rs U G mb Z V L Y J I wr):Rs U G mb Z V L Y (J+1) I (wr.setCell (tD G 2) (zI ((J+1:Nat):Int))):=by
 have E:∀k,k≠G->(wr.setCell (tD G 2) (zI ((J+1:Nat):Int))).heap[k]?=wr.heap[k]?:=fun k E=>aL _ _ _ _ E
 refine⟨h.rd.count 2 (J+1) I (J+1) (oE ⟨rfl,rfl,rfl⟩),?_,h.ne,?_⟩
 ·exact ar h.os (fun b e=>E b (fun F=>by have M:=(h.os.lt b e).1;have h2:=h.rd.lt.1;omega))
 ·exact h.fr.trans (Fr.qZ wr G 2 _ (oE rfl))
theorem Rs.slip(h:Rs U G mb Z V L Y J I wr)(o:Obj)(x:Nat×Nat×Nat)(a1:w'.ownsRow U.heap.size 291 3 O (Y.length+1) (dK Y++[zI x.1,zI x.2.1,zI x.2.2]))(hg:(wr.alloc o).grownBy w' V.ownBlock)(a3:O.ownBlock=V.ownBlock\/O.ownBlock=some (wr.alloc o).heap.size):
  Rs U G mb Z O L (Y++[x]) J I w':=by
 have a2:(wr.alloc o).heap.size=wr.heap.size+1:=by simp
 have a4:wr.heap.size+1<=w'.heap.size:=by rw[<-a2];exact hg.size
 have F:∀k,k<wr.heap.size->V.ownBlock≠some k->w'.heap[k]?=wr.heap[k]?:=fun k F h1=>by
  rw[hg.block k (by omega) (fun e=>h1 e.symm),aH _ _ _ F]
 have E:∀k,V.ownBlock=some k->U.heap.size<=k:=fun k e=>(h.os.lt k e).1
 have hB:=h.rd.lt.2.2.1;refine⟨h.rd.of_block (by omega) (F G (bP h.rd.lt.1 hB) (fun e=>by have:=E G e;have:=h.rd.lt.1;omega)) (F mb (bP h.rd.lt.2.1 hB) (fun e=>by have:=E mb e;have:=h.rd.lt.2.1;omega)) (fun b e=>F b (h.rd.own.lt b e).2 (h.ne b e)),?_,?_,?_⟩
 ·rw[vz,aU];exact a1
 ·intro b e M
  rcases a3 with e3|e3
  ·rw[e3] at M;exact h.ne b e M
  ·rw[e3] at M
   injection M with M;have:=(h.rd.own.lt b e).2;omega
 ·refine⟨hg.os.trans h.fr.os,hg.tape.trans h.fr.tape,hg.output.trans h.fr.output,aN h.fr.size (by omega),fun k a0 hx=>?_⟩
  rw[F k (bP a0 hB) (fun e=>by have:=E k e;omega)];exact h.fr.block k a0 hx
theorem Rs.keep{s:Sm4}{a0:Nat}(h:Rs U G mb Z V L Y J I wr)(hr:Rd w' G mb U.heap.size J a0 T (L++[s]) ((L++[s]).map xC))(F:Fr (Mine G mb Z) wr w')(a1:∀b,T.ownBlock=some b->Z.ownBlock=some b\/wr.heap.size<=b):
  Rs U G mb T V (L++[s]) Y J a0 w':=by
 have hB:=h.rd.lt.2.2.1;have hl:=h.rd.lt;refine⟨hr,?_,?_,?_⟩
 ·refine ar h.os (fun b e=>F.block b (h.os.lt b e).2 ?_)
  rintro(E|E|E)
  ·have:=(h.os.lt b e).1;omega
  ·have:=(h.os.lt b e).1;omega
  ·exact h.ne b E e
 ·intro b e E
  rcases a1 b e with e3|e3
  ·exact h.ne b e3 E
  ·have:=(h.os.lt b E).2;omega
 ·refine⟨F.os.trans h.fr.os,F.tape.trans h.fr.tape,F.output.trans h.fr.output,aN h.fr.size F.size,fun k M hx=>?_⟩
  rw[F.block k (bP M hB) ?_]
  ·exact h.fr.block k M hx
  ·rintro(E|E|E)
   ·exact hx (oE E)
   ·exact hx (oS E)
   ·have:=(h.rd.own.lt k E).1;omega
def rdF(f:Nat):zV:=if f=0 then .func (.func 187) #[] #[] else if f=1 then tS mV else if f=2 then zI 0 else if f=3 then zI 0 else if f=4 then .map none else zN
theorem xR{G:Nat}(hv:gG w G 6 rdF)(a0:G<w.heap.size)(o:Obj):Rs (((w.setCell (tD G 4) (.map (some w.heap.size))).alloc (.map #[] 0)).alloc o) G w.heap.size (zN) (zN) [] [] 0 0 (((w.setCell (tD G 4) (.map (some w.heap.size))).alloc (.map #[] 0)).alloc o):=by
 have h2:=hv.set (p:=4) (by omega) (.map (some w.heap.size));have F:(w.setCell (tD G 4) (.map (some w.heap.size))).heap.size=w.heap.size:=by simp[World.setCell]
 have M:((w.setCell (tD G 4) (.map (some w.heap.size))).alloc (.map #[] 0)).heap.size=w.heap.size+1:=by rw[kX,F]
 have E:=(h2.of_block (w':=(w.setCell (tD G 4) (.map (some w.heap.size))).alloc (.map #[] 0)) (aH _ _ _ (by omega))).of_block (w':=((w.setCell (tD G 4) (.map (some w.heap.size))).alloc (.map #[] 0)).alloc o) (aH _ _ _ (by omega))
 have hs:SaidAt (((w.setCell (tD G 4) (.map (some w.heap.size))).alloc (.map #[] 0)).alloc o) w.heap.size 0 []:=by
  have h:=xN (w.setCell (tD G 4) (.map (some w.heap.size)));rw[F] at h;exact h.of_block (aH _ _ _ (by omega))
 have a1:(((w.setCell (tD G 4) (.map (some w.heap.size))).alloc (.map #[] 0)).alloc o).heap.size=w.heap.size+2:=by rw[kX,M]
 exact⟨⟨⟨E.at' 0 (by omega),E.at' 1 (by omega),E.at' 2 (by omega),E.at' 3 (by omega)⟩,E.fr 2 (by omega),E.fr 3 (by omega),E.at' 4 (by omega),⟨E.at' 5 (by omega),E.fr 5 (by omega)⟩,⟨by omega,by omega,ah _,by omega⟩,eC _ _ _ _,hs⟩,eC _ _ _ _,fun b e=>(by simp[Value.ownBlock] at e),⟨rfl,rfl,rfl,ah _,fun _ _ _=>rfl⟩⟩
def Left(R:Tx.Got)(l:List zA)(k:Nat)(Q:List OLn)(Y:List (Nat×Nat×Nat))(J I:Nat):Prop:=
 (Tx.spoken (k+1) ((l.drop k).map (·.data.toList))).foldl (Tx.bM false Pv.aG 20) ⟨eN Q,Y,J,I⟩=R/\(∀g∈Q,∃E,Ok g.2 E)/\Q.length<=J/\Y.length<=J/\J<=k/\I<=J
variable{R:Tx.Got}{l:List zA}{k:Nat}{Q:List OLn}
theorem Left.blank(h:Left R l k Q Y J I)(F:k<l.length)(M:Tx.words l[k].data.toList=[]):Left R l (k+1) Q Y J I:=by
 have E:=h.1;rw[dC F,bQ,Tx.spoken,aj M] at E;exact⟨E,h.2.1,h.2.2.1,h.2.2.2.1,by have:=h.2.2.2.2.1;omega,h.2.2.2.2.2⟩
theorem Left.line(h:Left R l k Q Y J I)(hk:k<l.length){E:Wl}(hw:aF E=Tx.words l[k].data.toList)(F:E≠[]):
  (Tx.spoken (k+1+1) ((l.drop (k+1)).map (·.data.toList))).foldl (Tx.bM false Pv.aG 20) (Tx.bM false Pv.aG 20 ⟨eN Q,Y,J,I⟩ (k+1,aF E))=R:=by
 have M:=h.1
 have Qs:Tx.words l[k].data.toList≠[]:=by
  rw[<-hw];intro e;exact F (by cases E with|nil=>rfl|cons a r=>simp[aF] at e)
 rw[dC hk,bQ,Tx.spoken,ag Qs,lI,<-hw] at M;exact M
theorem Left.slip(h:Left R l k Q Y J I)(hk:k<l.length){E:Wl}(hw:aF E=Tx.words l[k].data.toList)(F:E≠[]){a q:Nat}
  (hs:Tx.slip false Pv.aG (J==0) (od Q E) (I==20) (aF E)=some (a,q)):Left R l (k+1) Q (Y++[(k+1,a,q)]) (J+1) I:=by
 have M:=h.line hk hw F;have hd:=(zY Q E F h.2.1 (J==0) (I==20)).trans hs
 have e:Tx.bM false Pv.aG 20 ⟨eN Q,Y,J,I⟩ (k+1,aF E)=⟨eN Q,Y++[(k+1,a,q)],J+1,I⟩:=by
  unfold Tx.bM;simp only[hd]
 rw[e] at M;obtain⟨_,g1,g2,g3,g4,g5⟩:=h;exact⟨M,g1,by omega,by rw[aU];simp;omega,by omega,by omega⟩
theorem Left.kept(h:Left R l k Q Y J I)(hk:k<l.length){E:Wl}(hw:aF E=Tx.words l[k].data.toList)(F:E≠[])(hT:∃ks,Ok E ks)
  (hs:Tx.slip false Pv.aG (J==0) (od Q E) (I==20) (aF E)=none):Left R l (k+1) (Q++[(k+1,E)]) Y (J+1) (if (wd E 0).toList==[114,101,113,117,105,114,101] then I+1 else I):=by
 have M:=h.line hk hw F;have hd:=(zY Q E F h.2.1 (J==0) (I==20)).trans hs
 have e:Tx.bM false Pv.aG 20 ⟨eN Q,Y,J,I⟩ (k+1,aF E)=⟨eN (Q++[(k+1,E)]),Y,J+1,if (wd E 0).toList==[114,101,113,117,105,114,101] then I+1 else I⟩:=by
  unfold Tx.bM;simp only[hd];rw[Ge F,fc];by_cases e:(wd E 0).data.toList=[114,101,113,117,105,114,101]<;>simp[eN,Tx.wR,e]
 rw[e] at M;obtain⟨_,g1,g2,g3,g4,g5⟩:=h;refine⟨M,fun g hg=>?_,by rw[aU];simp;omega,by omega,by omega,by split<;>omega⟩;rcases bh.1 hg with e|e
 ·exact g1 g e
 ·rw[bI.1 e];exact hT
def jN(m:Nat)(Y:List (Nat×Nat×Nat)):List (Nat×Nat×Nat):=if m=0 then [(0,0,2)] else Y
theorem Gr(Q:List OLn)(E:Wl):(((Q.map fun g=>dW g.2).map xC).any fun x=>decide (x=kF E))=od Q E:=by
 unfold od;rw[mN,List.any_map]
 rfl
theorem QA{b:Nat}{E:Wl}(h:WAt w b 0 E)(F:0<E.length):cT w b (E.getD 0 pad).1 (wd E 0):=by
 have M:=h.2 0 F;rw[Gp F,getD_at F];exact⟨by simpa using M.1,by simpa using M.2⟩
