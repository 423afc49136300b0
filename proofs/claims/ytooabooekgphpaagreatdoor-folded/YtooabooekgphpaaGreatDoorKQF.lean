import Derived.Test.YtooabooekgphpaaGreatDoorKQB
import Derived.Test.YtooabooekgphpaaGreatDoorKRA
set_option linter.all false
open Go.Proofs.Tryz
set_option maxRecDepth 100000
set_option maxHeartbeats 4000000
namespace Go.Proofs.YtooabooekgphpaaGreatDoor
open Go.RowKit
namespace Mf
variable{w w':zW}
theorem zJ(f p v b:zA)(W:zW):zC 214 #[.agg #[.string f,.string p,.string v,.string b]] W fun e w'=>e=.returned (.agg #[.string (wK (f,p,v,b)).1,.string (wK (f,p,v,b)).2.1,.string (wK (f,p,v,b)).2.2])/\zB W w':=by
 unfold wK;by_cases h:f=oq
 ·simp only[aj h]
  exact yK f p v b W (by rw[h];kernel_rfl)
 ·simp only[ag h]
  exact oh f p v b W (oW (fun e=>h ((ba_eq _ _).2 e)))
theorem EY(G J I wb n wc a0 mb mn:Nat)(f p v b c1 c2 c3:zA)(S:List Nat)(cs:List Cl)(w:zW)(hn:0<n)(a6:Nl (c1,c2,c3))(hm:w.cell? ⟨G,4,none⟩=some (.map (some mb)))(hS:SaidAt w mb mn cs)(hr:dt w G J I)(hw:cF w wb a0 f)(hx:Tx.shape false f.data.toList=some S)
  (a4:∀W q,zB w W->KAt W q S->zC 213 #[.slice (some ⟨q,0,none⟩) S.length S.length,.slice (some ⟨wb,0,none⟩) n wc] W fun e w'=>e=.returned (.agg #[.string f,.string p,.string v,.string b])/\zB W w')
  (kc:∀W,zC 214 #[.agg #[.string f,.string p,.string v,.string b]] W fun e w'=>e=.returned (.agg #[.string c1,.string c2,.string c3])/\zB W w'):
  zC 196 #[zP G,zI 8,.slice (some ⟨wb,0,none⟩) n wc] w fun e w'=>e=.returned (zI (if cs.any (fun x=>decide (x=(c1,c2,c3))) then (a0:Int) else -1))/\zB w w':=by
 obtain⟨l,hl⟩:=Kj (c1,c2,c3) (by have:=a6.1;unfold maxLen;omega) (by have:=a6.2.1;unfold maxLen;omega) (by have:=a6.2.2;unfold maxLen;omega);obtain⟨D,a2,_,a8⟩:=hS;have HD:Hid (Maps.has D l=cs.any (fun x=>decide (x=(c1,c2,c3)))):=a8 _ l hl;clear a8 a6;generalize cs.any (fun x=>decide (x=(c1,c2,c3)))=dd at HD ⊢
 have b8:mb<w.heap.size:=by
  obtain⟨es,cl,h,_⟩:=a2;exact(nG.1 h).1
 have ak:Hid (∀W,zB w W->W.ownsMap prog 303 (plainElem prog 3) mb mn D):=fun W F=>by
  obtain⟨es,cl,h,rest⟩:=a2;exact⟨es,cl,(F.block mb b8).trans h,rest⟩
 have b9:=aY w _ hm;have ab:Hid (∀W,zB w W->W.cell? ⟨G,4,none⟩=some (.map (some mb))):=fun W F=>by rw[F.cell (p:=⟨G,4,none⟩) b9];exact hm
 have HL:Hid (CK (c1,c2,c3) l):=hl;have aq:Hid (∀W q,zB w W->KAt W q S->zC 213 #[.slice (some ⟨q,0,none⟩) S.length S.length,.slice (some ⟨wb,0,none⟩) n wc] W fun e w'=>e=.returned (.agg #[.string f,.string p,.string v,.string b])/\zB W w'):=a4;have bc:(0:Int)<(n:Int):=by omega
 clear hm a2 hl a4;have hc:∀(args:Array zV)(w:zW),(callFunc 176 args).run prog w=.ok (.enter 176 args) w:=fun _ _=>by kernel_rfl
 have kI:∀W,_:=fun W=>dL f S hx W
 have HR:Hid (dt w G J I):=hr;obtain⟨c0,b7⟩:=hw;clear hr hx;go_enter func196,ntmps196;go_upto_region 2 with fail;have a9:Hid (zB w (w.alloc (.cells #[zI a0,.string f] 298))):=(ae _ _).alloc (af _) _;have an:Hid (dt (w.alloc (.cells #[zI a0,.string f] 298)) G J I):=HR.out.below a9.out;have au:Hid (cF (w.alloc (.cells #[zI a0,.string f] 298)) w.heap.size a0 f):=gN w a0 f 298;clear c0 b7;generalize w.alloc (.cells #[zI a0,.string f] 298)=W1 at*;obtain⟨b0,b2,b3,b4⟩:=an.out;obtain⟨b5,b1⟩:=au.out;have ad:∀W,zB W1 W->dt W G J I/\cF W w.heap.size a0 f:=fun W F=>⟨an.out.below F,au.out.below F⟩
 have M:zB W1 (W1.alloc (.cells (bL S) 3)).drew:=(aB (ae _ _) _).drew;have b6:Hid (KAt (W1.alloc (.cells (bL S) 3)).drew W1.heap.size S):=gD W1 S;obtain⟨⟨d0,d2,d3,d4⟩,d5,d1⟩:=ad _ M;have aa:Hid (zB w (W1.alloc (.cells (bL S) 3)).drew):=a9.out.trans (M.mono a9.out.size);clear ad M;generalize bL S=a7 at*
 go_region_held3 (fun w'=>w'.cell? ⟨G,0,none⟩=some (.func (.func 176) #[] #[])/\w'.cell? ⟨w.heap.size,1,none⟩=some (.string f))
   (first|exact⟨b0,b1⟩|exact⟨d0,d1⟩)
   (first|(go_at_call 176;refine(kI _).mono ?_;rintro e w2 ⟨rfl,rfl⟩))
 all_goals
  clear b0 b1 b2 b3 b4 b5;have e4:=ab.out _ aa.out;have bd:Below (W1.alloc (.cells a7 3)).drew.heap.size (W1.alloc (.cells a7 3)).drew (W1.alloc (.cells a7 3)).drew:=ae _ _;generalize (W1.alloc (.cells a7 3)).drew=W2 at*;go_upto_region 16 with fail;have a5:Hid (∀W,zB W2 W->zB w W):=fun W F=>aa.out.trans (F.mono aa.out.size)
  have a4:∀W,zB W2 W->zC 213 #[.slice (some ⟨W1.heap.size,0,none⟩) S.length S.length,.slice (some ⟨wb,0,none⟩) n wc] W fun e w'=>e=.returned (.agg #[.string f,.string p,.string v,.string b])/\zB W w':=fun W F=>aq.out W _ (a5.out W F) (b6.out.below F)
  have rE:∀W,zB W2 W->W.ownsMap prog 303 (plainElem prog 3) mb mn D:=fun W F=>ak.out W (a5.out W F)
  have Cj:∀W,zB W2 W->∃c:Int,(Instr.lookup 248 (.map (some mb)) (.agg #[.string c1,.string c2,.string c3]) true).run prog W=.ok (.tuple #[zI c,.bool (Maps.has D l)]) W:=fun W F=>by
   obtain⟨v0,ps,a3,bb⟩:=(rE W F).look_ok jh underlying248 (JQ W) (plainElem_int underlying3 (by decide)) HL.out;obtain⟨c,rfl,_,_⟩:=plainElem_int_inv underlying3 bb;exact⟨c,a3⟩
  have E:∀W,zB W2 W->W.cell? ⟨G,4,none⟩=some (.map (some mb)):=fun W F=>ab.out W (a5.out W F)
  clear ab kI ak rE aq
  go_region_held3 (fun w'=>w'.cell? ⟨G,4,none⟩=some (.map (some mb)))
    (first|exact e4|exact E _ a1|exact E _ M|exact E _ ((ae _ _).drew))
    (first
     |(go_at_call 213;refine(a4 _ ((ae _ _).drew)).mono ?_;rintro e w3 ⟨rfl,av⟩;have M:zB W2 w3:=(ae W2.heap.size W2).drew.trans av;clear av)
     |(go_at_call 214;refine(kc _).mono ?_;rintro e w4 ⟨rfl,az⟩;have a1:zB W2 w4:=M.trans (az.mono M.size);obtain⟨cL,a3⟩:=Cj _ a1;clear az))
  all_goals
   have d6:w4.cell? ⟨w.heap.size,0,none⟩=some (zI a0):=by
    rw[a1.cell (p:=⟨w.heap.size,0,none⟩) (aY W2 _ d5)];exact d5
   have HE:Hid (zB w w4):=a5.out _ a1;clear Cj E a4 kc d0 d1 d2 d3 d4 d5 a3 M a1 e4;rw[HD.out];clear HD;cases dd
   ·go_wp2
    go_ret;exact⟨rfl,HE.out⟩
   ·go_wp2
    go_ret;exact⟨rfl,HE.out⟩
end Mf
namespace Mf
variable{w w':zW}
theorem wI(G J I wb n wc a0 mb B ln:Nat)(Z:zV)(L:List Sm4)(cs:List Cl)(f p v b c1 c2 c3:zA)(b3:Bool)(ks:List Nat)(w:zW)(cg:0<n)(c8:Nl (c1,c2,c3))(hL:L.length<=2001)(hC:cs.length<=2001)(c9:ln<=4000)(hq:I<=4000)(hr:Rd w G mb B J I Z L cs)(hw:cF w wb a0 f)(hx:Tx.shape false f.data.toList=some ks)(cc:(f.toList==[114,101,113,117,105,114,101])=b3)
  (ab:∀W q,zB w W->KAt W q ks->zC 213 #[.slice (some ⟨q,0,none⟩) ks.length ks.length,.slice (some ⟨wb,0,none⟩) n wc] W fun e w'=>e=.returned (.agg #[.string f,.string p,.string v,.string b])/\zB W w')
  (kc:∀W,zC 214 #[.agg #[.string f,.string p,.string v,.string b]] W fun e w'=>e=.returned (.agg #[.string c1,.string c2,.string c3])/\zB W w'):
  zC 197 #[zP G,zI ln,.slice (some ⟨wb,0,none⟩) n wc] w fun e w'=>∃T,e=.returned (.tuple #[])/\Rd w' G mb B J (if b3 then I+1 else I) T (L++[(f,p,v,b)]) (cs++[(c1,c2,c3)])/\Fr (Mine G mb Z) w w'/\(∀b,T.ownBlock=some b->Z.ownBlock=some b\/w.heap.size<=b):=by
 have cf:(0:Int)<(n:Int):=by omega
 obtain⟨a6,PG⟩:∃r,(if b3 then I+1 else I)=r:=⟨_,rfl⟩;rw[PG];have HQ:=zH PG;clear PG;have hc:∀(args:Array zV)(w:zW),(callFunc 176 args).run prog w=.ok (.enter 176 args) w:=fun _ _=>by kernel_rfl
 have kI:∀W,_:=fun W=>dL f ks hx W
 obtain⟨i2,bn,bp,bq,br⟩:=FZ;have HJ:Hid (prog.info? 255=some i2/\i2.zero=some (.agg #[.string ByteArray.empty,.string ByteArray.empty,.string ByteArray.empty,.string ByteArray.empty])/\i2.size=4/\i2.bytes=64):=⟨bn,bp,bq,br⟩;clear bn bp bq br;have S:=zH hr;obtain⟨b0,b2,bv,b4⟩:=hr.rd;obtain⟨c0,a8⟩:=hw;have ca:=aY w _ a8;have a2:Hid (zB w (w.alloc (.cells (bL ks) 3)).drew):=(aB (ae _ _) _).drew;have b8:Hid (KAt (w.alloc (.cells (bL ks) 3)).drew w.heap.size ks):=gD w ks;have ab:=ab _ _ a2.out b8.out;have HC:Hid ((w.alloc (.cells (bL ks) 3)).drew.cell? ⟨G,0,none⟩=some (.func (.func 176) #[] #[])/\(w.alloc (.cells (bL ks) 3)).drew.cell? ⟨wb,1,none⟩=some (.string f)):=⟨(S.out.rd.below a2.out).1,by rw[a2.out.cell (p:=⟨wb,1,none⟩) ca];exact a8⟩;clear hr hx b8;generalize bL ks=cb at*;go_enter func197,ntmps197;go_upto_region 0 with fail
 go_region_held3 (fun w'=>w'.cell? ⟨G,0,none⟩=some (.func (.func 176) #[] #[])/\w'.cell? ⟨wb,1,none⟩=some (.string f))
   (first|exact⟨b0,a8⟩|exact HC.out)
   (first|(go_at_call 176;refine(kI _).mono ?_;rintro e w2 ⟨rfl,rfl⟩))
 all_goals
  clear b0 b2 bv b4 c0 a8 kI HC;generalize (w.alloc (.cells cb 3)).drew=W2 at*
  go_wp2_with (go_at_call 213;fail)
  go_at_call 213;refine ab.mono ?_;rintro e w3 ⟨rfl,bh⟩;have an:=zH (a2.out.trans (bh.mono a2.out.size));clear bh ab a2;go_upto_region 2 with fail;have M:Hid (zB w (w3.alloc (.cells #[.string f,.string p,.string v,.string b] 255))):=aB an.out _;have a5:Hid (∀j u,[Value.string f,.string p,.string v,.string b][j]?=some u->(w3.alloc (.cells #[.string f,.string p,.string v,.string b] 255)).cell? ((⟨w3.heap.size,0,none⟩:Addr).add j)=some u):=fun j u hj=>iZ w3 _ _ _ _ 255 j u hj
  have x0:(w3.alloc (.cells #[.string f,.string p,.string v,.string b] 255)).cell? ⟨w3.heap.size,0,none⟩=some (.string f):=a5.out 0 _ rfl;have x1:(w3.alloc (.cells #[.string f,.string p,.string v,.string b] 255)).cell? ⟨w3.heap.size,1,none⟩=some (.string p):=a5.out 1 _ rfl;have x2:(w3.alloc (.cells #[.string f,.string p,.string v,.string b] 255)).cell? ⟨w3.heap.size,2,none⟩=some (.string v):=a5.out 2 _ rfl;have x3:(w3.alloc (.cells #[.string f,.string p,.string v,.string b] 255)).cell? ⟨w3.heap.size,3,none⟩=some (.string b):=a5.out 3 _ rfl;have a7:Hid (w.heap.size<=w3.heap.size/\w3.heap.size<(w3.alloc (.cells #[.string f,.string p,.string v,.string b] 255)).heap.size):=⟨an.out.size,by simp⟩;generalize w3.heap.size=E at*;generalize w3.alloc (.cells #[.string f,.string p,.string v,.string b] 255)=F at*;clear a5 an;have a9:Fld F G 5 Z:=S.out.fs.of_block (M.out.block G (aY w _ S.out.fs.1));have b1:Fld (F.alloc (.cells #[.string f,.string p,.string v,.string b] 255)).drew G 5 Z:=a9.of_block (aG _ _ _ (aY F _ a9.1));have bs:(F.alloc (.cells #[.string f,.string p,.string v,.string b] 255)).drew.ownsRow B 255 4 Z L.length (bP L):=ar (ar S.out.own (fun b e=>M.out.block b (S.out.own.lt b e).2)) (fun b e=>aG _ _ _ (bE (S.out.own.lt b e).2 M.out.size))
  have QT:∀j u,[Value.string f,.string p,.string v,.string b][j]?=some u->(F.alloc (.cells #[.string f,.string p,.string v,.string b] 255)).drew.cell? ((⟨F.heap.size,0,none⟩:Addr).add j)=some u:=fun j u hj=>iZ F _ _ _ _ 255 j u hj
  have au:Hid (some G≠Z.ownBlock):=fun e=>by have h:=(S.out.own.lt G e.symm).1;have:=S.out.lt.1;omega
  have a3:=zH b1;have c6:F.cell? ⟨G,5,none⟩=some Z:=a9.1;have c5:(F.alloc (.cells #[.string f,.string p,.string v,.string b] 255)).cell? ⟨G,5,none⟩=some Z:=b1.1;have cd:B<=F.heap.size:=aO S.out.lt.2.2.1 M.out.size;clear a9 b1
  have bb:Hid (Rd (F.alloc (.cells #[.string f,.string p,.string v,.string b] 255)) G mb B J I Z L cs):=by
   have h1:Rd F G mb B J I Z L cs:=S.out.of_block M.out.size (M.out.block G (bE S.out.lt.1 S.out.lt.2.2.1)) (M.out.block mb (bE S.out.lt.2.1 S.out.lt.2.2.1)) (fun b e=>M.out.block b (S.out.own.lt b e).2);exact h1.of_block (by simp) (aG _ _ _ (bE h1.lt.1 h1.lt.2.2.1)) (aG _ _ _ (bE h1.lt.2.1 h1.lt.2.2.1)) (fun b e=>aG _ _ _ (h1.own.lt b e).2)
  have bc:Hid (∀b,Z.ownBlock=some b->b<w.heap.size):=fun b e=>(S.out.own.lt b e).2
  have b9:=zH S.out.lt;obtain⟨sa,sc,rfl⟩:=ax S.out.own
  go_region_law
   (first|(refine step_append_lies _ rfl (.tmp 28) (.tmp 30) 249 rfl B 255 i2 (.agg #[.string ByteArray.empty,.string ByteArray.empty,.string ByteArray.empty,.string ByteArray.empty]) 4 64 underlying249 HJ.out.1 HJ.out.2.1 HJ.out.2.2.1 HJ.out.2.2.2 rfl (by decide) _ L.length _ rfl bs ⟨F.heap.size,0,none⟩ 1 1 [.string f,.string p,.string v,.string b] rfl rfl QT (fun u hu=>by simp at hu;rcases hu with rfl|rfl|rfl|rfl<;>rfl) (by decide) (by unfold maxLen;omega) (by omega) (by show B<=(F.alloc _).heap.size;simp;omega) _ rfl ?_;intro g cap w5 ak D bd vB;have c7:w5.cell? ⟨G,5,none⟩=some (.slice sa L.length sc):=(a3.out.of_block (D.block G (aY _ _ a3.out.1) au.out)).1;have f3:w5.frozen? ⟨G,5,none⟩=false:=(a3.out.of_block (D.block G (aY _ _ a3.out.1) au.out)).2))
  all_goals
   have a4:Hid (Rd (w5.setCell ⟨G,5,none⟩ (.slice (some ⟨g,0,none⟩) (L.length+1) cap)) G mb B J I (.slice (some ⟨g,0,none⟩) (L.length+1) cap) (L++[(f,p,v,b)]) cs):=bb.out.grown ⟨D.os,D.tape,D.output,D.size,D.block⟩ ak
   have b7:Hid (Fr (Mine G mb (.slice sa L.length sc)) w (w5.setCell ⟨G,5,none⟩ (.slice (some ⟨g,0,none⟩) (L.length+1) cap))):=by
    have f1:Fr (Mine G mb (.slice sa L.length sc)) w F:=Fr.of_below M.out;have f2:=f1.trans (Fr.of_below (aB (ae F.heap.size F) (.cells #[.string f,.string p,.string v,.string b] 255)));have f3:=f2.trans (Fr.rJ (b:=w5) ⟨D.os,D.tape,D.output,D.size,D.block⟩ (fun k e=>Or.inr (Or.inr e)));exact f3.trans (Fr.qC w5 G 5 _ (Or.inl rfl))
   have b5:Hid (∀b,(Value.slice (some ⟨g,0,none⟩) (L.length+1) cap).ownBlock=some b->(Value.slice sa L.length sc).ownBlock=some b\/w.heap.size<=b):=fun b e=>by
    have e1:g=b:=by simpa[Value.ownBlock] using e
    rcases bd with h|h
    ·exact Or.inl (by rw[<-e1];exact h)
    ·have h1:=M.out.size
     have h2:g=F.heap.size+1:=by rw[h];simp
     exact Or.inr (by omega)
   have bk:(w5.setCell ⟨G,5,none⟩ (.slice (some ⟨g,0,none⟩) (L.length+1) cap)).heap[E]?=F.heap[E]?:=by
    have h1:=a7.out;have h2:=b9.out;rw[aM _ _ _ _ (fun e=>by have e3:E=G:=e;omega)];rw[D.block E (by simp;omega) (fun e=>by have:=bc.out E e.symm;omega)];exact aG _ _ _ h1.2
   have HY:Hid (∀W:zW,W.heap[E]?=(w5.setCell ⟨G,5,none⟩ (.slice (some ⟨g,0,none⟩) (L.length+1) cap)).heap[E]?->W.cell? ⟨E,0,none⟩=some (.string f)/\W.cell? ⟨E,1,none⟩=some (.string p)/\W.cell? ⟨E,2,none⟩=some (.string v)/\W.cell? ⟨E,3,none⟩=some (.string b)):=fun W e=>by
    rw[bk] at e;exact⟨by rw[aZ (w:=F) (a:=⟨E,0,none⟩) e];exact x0,by rw[aZ (w:=F) (a:=⟨E,1,none⟩) e];exact x1,by rw[aZ (w:=F) (a:=⟨E,2,none⟩) e];exact x2,by rw[aZ (w:=F) (a:=⟨E,3,none⟩) e];exact x3⟩
   have JR:E<(w5.setCell ⟨G,5,none⟩ (.slice (some ⟨g,0,none⟩) (L.length+1) cap)).heap.size:=by
    have h1:F.heap.size+1<=w5.heap.size:=by have:=D.size;simpa using this
    have h2:=a7.out.2;simp[World.setCell];omega
   have ad:Hid (E<(w5.setCell ⟨G,5,none⟩ (.slice (some ⟨g,0,none⟩) (L.length+1) cap)).heap.size/\E≠mb):=⟨JR,by have:=b9.out;have:=a7.out;omega⟩;clear bk JR x0 x1 x2 x3 c6 c5 c7 f3 ak D bd vB QT bs a3 au bb S bc M a7;go_upto_region 3 with fail;generalize w5.setCell ⟨G,5,none⟩ (.slice (some ⟨g,0,none⟩) (L.length+1) cap)=W5 at*;have c4:W5.cell? ⟨G,4,none⟩=some (.map (some mb)):=a4.out.fm;obtain⟨y0,y1,y2,y3⟩:=HY.out W5 rfl
   have bu:∀W,zB W5 W->∃w7,(Instr.mapUpdate 248 (.map (some mb)) (.agg #[.string c1,.string c2,.string c3]) (zI ln)).run prog W=.ok () w7/\Hid (Rd w7 G mb B J I (.slice (some ⟨g,0,none⟩) (L.length+1) cap) (L++[(f,p,v,b)]) (cs++[(c1,c2,c3)]))/\Hid (Fr (Mine G mb (.slice sa L.length sc)) w w7)/\w7.heap[E]?=W5.heap[E]?:=fun W hb=>by
    have l:=a4.out.lt;have e1:=hb.block G (by omega);have e2:=hb.block mb (by omega);have r6:=a4.out.of_block hb.size e1 e2 (fun b e=>hb.block b (a4.out.own.lt b e).2);obtain⟨w7,h1,h2,h3⟩:=qD c9 hC c8 r6.said;refine⟨w7,h1,r6.put h3 (by rw[aW];exact h2),(b7.out.trans (Fr.of_below hb)).trans (Fr.rJ h3 (fun k e=>Or.inr (Or.inl (by injection e with e;exact e.symm)))),?_⟩;have h4:=ad.out;rw[h3.block E (bE h4.1 hb.size) (fun e=>h4.2 (by injection e))];exact hb.block E h4.1
   go_region_held3 (fun w'=>w'.cell? ⟨G,4,none⟩=some (.map (some mb))/\w'.cell? ⟨E,0,none⟩=some (.string f)/\w'.cell? ⟨E,1,none⟩=some (.string p)/\w'.cell? ⟨E,2,none⟩=some (.string v)/\w'.cell? ⟨E,3,none⟩=some (.string b))
    (first|exact⟨c4,y0,y1,y2,y3⟩|exact⟨a1.out.fm,HY.out _ ED⟩|exact⟨bm,HY.out _ JU⟩)
    (first|(go_at_call 214;refine(kc _).mono ?_;rintro e w6 ⟨rfl,bi⟩;have aa:zB W5 w6:=(ae W5.heap.size W5).drew.trans bi;have JU:w6.heap[E]?=W5.heap[E]?:=aa.block E ad.out.1;have bm:w6.cell? ⟨G,4,none⟩=some (.map (some mb)):=(aa.cell (p:=⟨G,4,none⟩) (aY W5 _ c4)).trans c4;obtain⟨w7,bt,a1,aq,ED⟩:=bu w6 aa;clear bi))
   all_goals
    obtain⟨z0,z1,z2,z3⟩:=HY.out _ ED;clear b7 bu kc bt y0 y1 y2 y3 c4 bm aa JU ED HY a4;have q3:w7.cell? ⟨G,3,none⟩=some (zI I):=a1.out.rd.2.2.2;have ch:w7.frozen? ⟨G,3,none⟩=false:=a1.out.f3;have av:Hid (Rd (w7.setCell ⟨G,3,none⟩ (zI ((I:Int)+1))) G mb B J (I+1) (.slice (some ⟨g,0,none⟩) (L.length+1) cap) (L++[(f,p,v,b)]) (cs++[(c1,c2,c3)])):=a1.out.count 3 J (I+1) (I+1) (Or.inr ⟨rfl,rfl,rfl⟩);have b6:Hid (Fr (Mine G mb (.slice sa L.length sc)) w (w7.setCell ⟨G,3,none⟩ (zI ((I:Int)+1)))):=aq.out.trans (Fr.qC w7 G 3 _ (Or.inl rfl));have e2:IntKind.i64.wrap ((I:Int)+1)=(I:Int)+1:=by simp[IntKind.wrap,IntKind.bits,IntKind.signed];omega
    cases b3
    ·have az:Hid (Rd w7 G mb B J a6 (.slice (some ⟨g,0,none⟩) (L.length+1) cap) (L++[(f,p,v,b)]) (cs++[(c1,c2,c3)])):=by
      have e:I=a6:=HQ.out;rw[<-e];exact a1
     clear HQ a1 av b6;go_wp2;exact gB (v:=.tuple #[]) (by simp[results,results197,go_sem]) rfl ⟨_,rfl,az.out,aq.out,b5.out⟩
    ·have az:Hid (Rd (w7.setCell ⟨G,3,none⟩ (zI ((I:Int)+1))) G mb B J a6 (.slice (some ⟨g,0,none⟩) (L.length+1) cap) (L++[(f,p,v,b)]) (cs++[(c1,c2,c3)])):=by
      have e:I+1=a6:=HQ.out;rw[<-e];exact av
     clear HQ a1 av aq;go_wp2;exact gB (v:=.tuple #[]) (by simp[results,results197,go_sem]) rfl ⟨_,rfl,az.out,b6.out,b5.out⟩
end Mf
namespace Mf
variable{w w':zW}
theorem Gb{l:Wl}{j:Nat}(h:j<l.length):wd l j=l[j].2:=by
 unfold wd;rw[getD_at h]
theorem jb{b:Nat}{l:Wl}(h:WAt w b 0 l){j:Nat}(D:j<l.length):w.cell? ⟨b,j*2+1,none⟩=some (.string (wd l j)):=by
 have:=(h.2 j D).2;rw[Gb D];simpa using this
theorem Bf{l:Wl}{j:Nat}(h:l.length<=j):wd l j=⟨#[]⟩:=by
 unfold wd;rw[List.getD,iL h]
 rfl
theorem PH{l:Wl}{F:List Nat}(h:Ok l F)(k j:Nat)(hk:k=5\/k=6\/k=7)(E:j<F.length)(e:F[j]=k):Tx.fit Pv.aH k (wd l (j+1)).data.toList=true:=by
 have hm:Tx.misfit Pv.aH k F (aD l).tail=none:=by
  rcases hk with rfl|rfl|rfl
  ·exact h.m5
  ·exact h.m6
  ·exact h.m7
 have gen:∀(ps:List Nat)(D:Wl)(j:Nat)(E:j<ps.length)(hw:ps.length=D.length),Tx.misfit Pv.aH k ps (aD D)=none->ps[j]=k->Tx.fit Pv.aH k (D.getD j pad).2.data.toList=true:=by
  intro ps
  induction ps with
  |nil=>intro D j E;simp at E
  |cons q ps ih=>
   intro D j E hw W he;cases D with
   |nil=>simp at hw
   |cons y D=>
    have M:(if q=k/\Tx.fit Pv.aH k y.2.data.toList=false then some y.1 else Tx.misfit Pv.aH k ps (aD D))=none:=W;by_cases S:q=k/\Tx.fit Pv.aH k y.2.data.toList=false
    ·rw[aj S] at M;cases M
    ·rw[ag S] at M
     cases j with
     |zero=>
      have hq:q=k:=he;cases hf:Tx.fit Pv.aH k y.2.data.toList with
      |true=>exact hf
      |false=>exact absurd ⟨hq,hf⟩ S
     |succ j=>exact ih D j (by simpa using E) (by simpa using hw) M (by simpa using he)
 cases l with
 |nil=>have:=h.len;simp at this
 |cons x r=>exact gen F r j E (by have:=h.len;simpa using this.symm) hm e
theorem PI{v:zA}(h:(Pv.parse v.data.toList).isSome=true):(v.toList==[])=false:=by
 refine oW fun e=>?_
 rw[e] at h;exact absurd h (by decide)
theorem rW{l:Wl}{M:List Nat}(h:Ok l M)(p b c:Nat)(w:zW)(D:KAt w p M)(E:WAt w b 0 l):
  zC 213 #[.slice (some ⟨p,0,none⟩) M.length M.length,.slice (some ⟨b,0,none⟩) l.length c] w fun e w'=>e=.returned (.agg #[.string (wd l 0),.string (wd l 1),.string (wd l 2),.string (wd l 4)])/\zB w w':=by
 rcases kW h.sh with⟨_,F⟩|⟨_,F⟩|⟨_,F⟩
 ·have S:l.length=2:=by have:=h.len;rw[F] at this;exact this
  rw[F] at D ⊢;rw[Bf (l:=l) (j:=2) (by omega),Bf (l:=l) (j:=4) (by omega)];exact Cw p b l.length c _ _ w (by omega) (by omega) D.1 E.1 (D.2 0 (by simp)) (jb E (j:=0) (by omega)) (jb E (j:=1) (by omega))
 ·have S:l.length=3:=by have:=h.len;rw[F] at this;exact this
  rw[F] at D ⊢;rw[Bf (l:=l) (j:=4) (by omega)];exact AX p b l.length c _ _ _ w (by omega) (by omega) D.1 E.1 (D.2 0 (by simp)) (D.2 1 (by simp)) (jb E (j:=0) (by omega)) (jb E (j:=1) (by omega)) (jb E (j:=2) (by omega))
 ·have S:l.length=5:=by have:=h.len;rw[F] at this;exact this
  have W:Tx.fit Pv.aH 6 (wd l 2).data.toList=true:=PH h 6 1 (by omega) (by rw[F];decide) (by simp[F]);rw[F] at D ⊢;exact yM p b l.length c _ _ _ _ _ w (by omega) (by omega) D.1 E.1 (PI W) (D.2 0 (by simp)) (D.2 1 (by simp)) (D.2 2 (by simp)) (D.2 3 (by simp)) (jb E (j:=0) (by omega)) (jb E (j:=1) (by omega)) (jb E (j:=2) (by omega)) (jb E (j:=3) (by omega)) (jb E (j:=4) (by omega))
theorem EZ(x:zA)(l:List UInt8):(x.toList==l)=(x.data.toList==l):=by rw[eB]
theorem E3{M wc:Nat}{l:Wl}{D:List Nat}(a0:D.length<=4)(hW:WAt w M 0 l)(a1:0<l.length)(hs:∀x∈l,x.1<=4000/\x.2.size<=4000)(W:zW)(p:Nat)(hb:zB w W):
  zC 211 #[.slice (some ⟨p,0,none⟩) D.length D.length,.slice (some ⟨M,0,none⟩) l.length wc] W fun e w'=>e=.returned (zI (cnt D l))/\zB W w':=by
 have F:=hW.below hb;unfold cnt;by_cases S:D.length+1<l.length
 ·rw[aj S]
  refine(pN (some ⟨p,0,none⟩) M 0 D.length D.length l.length wc ((l.getD (D.length+1) pad).1:Int) W (by omega) (by omega) ?_).mono ?_
  ·have h:=(F.2 (D.length+1) S).1
   rw[getD_at S,Nat.add_comm 1];exact h
  ·rintro e w' ⟨rfl,rfl⟩
   exact⟨rfl,ae _ _⟩
 ·rw[ag S]
  by_cases h1:l.length<D.length+1
  ·rw[aj h1]
   have E:l.length-1<l.length:=by omega
   have hx:=hs _ (dP E);rw[getD_at E];refine(rG (some ⟨p,0,none⟩) M 0 D.length D.length l.length wc l[l.length-1].1 l[l.length-1].2 W (by omega) (by omega) (by omega) hx.1 hx.2 ?_ ?_).mono ?_
   ·exact(F.2 _ E).1
   ·exact(F.2 _ E).2
   ·rintro e w' ⟨rfl,h⟩
    exact⟨rfl,h⟩
  ·rw[ag h1]
   have h0:l.length=D.length+1:=by omega
   rw[h0];refine(pM (some ⟨p,0,none⟩) (some ⟨M,0,none⟩) D.length D.length wc W (by omega)).mono ?_;rintro e w' ⟨rfl,rfl⟩;exact⟨rfl,ae _ _⟩
theorem oB{F wc k:Nat}{l:Wl}{D:List Nat}(hm:Ml w)(hW:WAt w F 0 l)(hl:l.length=D.length+1)(a0:D.length<=4)(hs:∀x∈l,x.1<=4000/\x.2.size<=4000)(hk:k=5\/k=6\/k=7)(W:zW)(p:Nat)(hb:zB w W)(hP:KAt W p D):
  zC 212 #[zI k,.slice (some ⟨p,0,none⟩) D.length D.length,.slice (some ⟨F,2,none⟩) (l.length-1) (wc-1)] W fun e w'=>e=.returned (zI (Ce (Tx.misfit Pv.aH k D (aD l).tail)))/\zB W w':=by
 cases l with
 |nil=>simp at hl
 |cons x r=>
  have hr:r.length=D.length:=by simpa using hl
  have E:=hW.below hb
  have M:WAt W F 2 r:=⟨E.1,fun j hj=>by
   have:=E.2 (j+1) (by simpa using hj);rw[show 0+(j+1)*2=2+j*2 by omega] at this;simpa using this⟩
  refine(wG Pv.aH k p F 2 D.length D.length r.length (wc-1) D r W (by omega) rfl rfl (by omega) (by omega) hP M ?_).mono ?_
  ·intro j hj W' S
   exact JV _ k W' ((hm.below hb).below S) (hs _ (cr _ (dP hj))).2 hk
  ·rintro e w' ⟨rfl,h⟩
   exact⟨rfl,h⟩
theorem PK{D:List Nat}{l:Wl}(h:cnt D l=-1):l.length=D.length+1:=by
 unfold cnt at h
 split at h
 ·omega
 ·split at h
  ·omega
  ·omega
theorem Hs{f:List UInt8}{E:List Nat}(h:Tx.shape false f=some E):E.length<=4/\1<=E.length:=by
 rcases kW h with⟨_,D⟩|⟨_,D⟩|⟨_,D⟩<;>rw[D]<;>decide
theorem tW{r:Option Nat}(h:Ce r=-1):r=none:=by
 cases r with
 |none=>rfl
 |some a=>simp only[Ce] at h;omega
theorem Gc{l:Wl}(h:∀x∈l,x.1<=4000/\x.2.size<=2000):Nl (kD l):=by
 have D:∀j,(wd l j).size<=2000:=fun j=>by
  by_cases E:j<l.length
  ·rw[Gb E];exact(h _ (dP E)).2
  ·rw[Bf (by omega)];decide
 refine⟨D 0,D 1,?_⟩;show(if wd l 0=oq then (⟨#[]⟩:zA) else wd l 2).size<=2000
 split
 ·decide
 ·exact D 2
def Wd4(f:zA):Prop:=f=mF\/f=oq\/f=Cr\/f=Ct
theorem PL{l:Wl}{D:List Nat}(h:Ok l D):Wd4 (wd l 0):=by
 rcases kW h.sh with⟨e,_⟩|⟨e,_⟩|⟨e,_⟩
 ·exact Or.inl ((ba_eq _ _).2 e)
 ·rcases e with e|e
  ·exact Or.inr (Or.inl ((ba_eq _ _).2 e))
  ·exact Or.inr (Or.inr (Or.inl ((ba_eq _ _).2 e)))
 ·exact Or.inr (Or.inr (Or.inr ((ba_eq _ _).2 e)))
theorem Ht(G J I M wc mb B k:Nat)(Z:zV)(L:List Sm4)(cs:List Cl)(l:Wl)(w:zW)(hm:Ml w)(hr:Rd w G mb B J I Z L cs)(hW:WAt w M 0 l)(a7:l≠[])(hc:l.length<=wc)
  (hz:∀x∈l,x.1<=4000/\x.2.size<=2000) (h2:2<=k) (h9:k<=9) (ly:∀j,2<=j->j<k->dX l (J==1) (cs.any fun x=>decide (x=kD l)) (I==20) j=-1):
  zC 196 #[zP G,zI k,.slice (some ⟨M,0,none⟩) l.length wc] w fun e w'=>e=.returned (zI (dX l (J==1) (cs.any fun x=>decide (x=kD l)) (I==20) k))/\zB w w':=by
 have hn:0<l.length:=gH.2 a7;have a4:l.getD 0 pad=l[0]:=getD_at hn;have aa:wd l 0=l[0].2:=Gb hn
 have E:cF w M (l.getD 0 pad).1 (wd l 0):=by
  have h:=hW.2 0 hn;rw[a4,aa];exact⟨by simpa using h.1,by simpa using h.2⟩
 have hs:∀x∈l,x.1<=4000/\x.2.size<=4000:=fun x hx=>⟨(hz x hx).1,by have:=(hz x hx).2;omega⟩
 have a2:((J:Int)==1)=(J==1):=by
  rw[fW];simp only[beq_iff_eq];omega
 have a9:((I:Int)==20)=(I==20):=by
  rw[fW];simp only[beq_iff_eq];omega
 have a1:at2 ((wd l 0).data.toList==Tx.wM) (J==1) (l.getD 0 pad).1=if ((wd l 0).data.toList==Tx.wM)≠(J==1) then ((l.getD 0 pad).1:Int) else -1:=by
  unfold at2;cases ((wd l 0).data.toList==Tx.wM)<;>cases (J==1)<;>rfl
 cases hsh:Tx.shape false (wd l 0).data.toList with
 |none=>
  have a5:k=2\/k=3:=by
   apply qq;intro h;have:=ly 3 (by omega) (by omega);unfold dX at this;rw[ag (by decide),hsh] at this;simp only at this;omega
  have key:=Hm G J I M l.length wc k (l.getD 0 pad).1 (wd l 0) _ _ w hn hr.rd E hsh (EZ _ _) a2 a5;refine key.mono ?_;rintro e w' ⟨rfl,F⟩;refine⟨?_,F⟩;unfold dX;rw[hsh];by_cases e2:k=2
  ·rw[aj e2,aj e2]
   exact cV (fun z=>Ending.returned (zI z)) a1
  ·rw[ag e2,ag e2]
 |some S=>
  have a0:=Hs hsh
  have D:∀k,k≠2->dX l (J==1) (cs.any fun x=>decide (x=kD l)) (I==20) k=if k=3 then -1 else if k=4 then cnt S l else if k=8 then (if (cs.any fun x=>decide (x=kD l)) then ((l.getD 0 pad).1:Int) else -1)
   else if k=9 then (if (wd l 0).data.toList=Tx.wR/\(I==20)=true then ((l.getD 0 pad).1:Int) else -1) else Ce (Tx.misfit Pv.aH k S (aD l).tail):=fun k hk=>by
   unfold dX;rw[ag hk,hsh]
  have h4:4<k->l.length=S.length+1:=fun h=>PK (by
   have:=ly 4 (by omega) h;rw[D 4 (by decide)] at this;exact this)
  by_cases e8:k=8
  ·subst e8
   have a6:=h4 (by omega)
   have a8:Ok l S:=by
    refine⟨hsh,a6,?_,?_,?_⟩
    ·exact tW (by have:=ly 5 (by omega) (by omega);rw[D 5 (by decide)] at this;exact this)
    ·exact tW (by have:=ly 6 (by omega) (by omega);rw[D 6 (by decide)] at this;exact this)
    ·exact tW (by have:=ly 7 (by omega) (by omega);rw[D 7 (by decide)] at this;exact this)
   have k8:=EY G J I M l.length wc (l.getD 0 pad).1 mb cs.length (wd l 0) (wd l 1) (wd l 2) (wd l 4) (kD l).1 (kD l).2.1 (kD l).2.2 S cs w hn (Gc hz) hr.fm hr.said hr.rd E hsh
    (fun W q F hq=>rW a8 q M wc W hq (hW.below F)) (fun W=>zJ (wd l 0) (wd l 1) (wd l 2) (wd l 4) W)
   rw[D 8 (by decide)];exact k8
  ·rcases(by omega:k=2\/k=3\/k=4\/k=5\/k=6\/k=7\/k=9) with rfl|rfl|rfl|rfl|rfl|rfl|rfl
   ·have:=Kk G J I M l.length wc (l.getD 0 pad).1 (wd l 0) _ _ S w hn hr.rd E hsh (EZ _ _) a2
    have e:dX l (J==1) (cs.any fun x=>decide (x=kD l)) (I==20) 2=at2 ((wd l 0).data.toList==Tx.wM) (J==1) (l.getD 0 pad).1:=by unfold dX;rw[aj rfl];exact a1.symm
    rw[e];exact this
   ·rw[D 3 (by decide)]
    exact EU G J I M l.length wc (l.getD 0 pad).1 (wd l 0) S w hn hr.rd E hsh
   ·rw[D 4 (by decide)]
    exact Ho G J I M l.length wc (l.getD 0 pad).1 (wd l 0) S _ w hn hr.rd E hsh (fun W p F=>E3 a0.1 hW hn hs W p F)
   ·rw[D 5 (by decide)]
    exact Hp G J I M l.length wc (l.getD 0 pad).1 (wd l 0) S _ w (by have:=h4 (by decide);omega) hc hr.rd E hsh (fun W p F hP=>oB (k:=5) hm hW (h4 (by decide)) a0.1 hs (by decide) W p F hP)
   ·rw[D 6 (by decide)]
    exact Kl G J I M l.length wc (l.getD 0 pad).1 (wd l 0) S _ w (by have:=h4 (by decide);omega) hc hr.rd E hsh (fun W p F hP=>oB (k:=6) hm hW (h4 (by decide)) a0.1 hs (by decide) W p F hP)
   ·rw[D 7 (by decide)]
    exact EV G J I M l.length wc (l.getD 0 pad).1 (wd l 0) S _ w (by have:=h4 (by decide);omega) hc hr.rd E hsh (fun W p F hP=>oB (k:=7) hm hW (h4 (by decide)) a0.1 hs (by decide) W p F hP)
   ·have k9:=Hn G J I M l.length wc (l.getD 0 pad).1 (wd l 0) _ _ S w hn hr.rd E hsh (EZ _ _) a9
    have a3:((wd l 0).data.toList==[114,101,113,117,105,114,101])=decide ((wd l 0).data.toList=Tx.wR):=by
     rw[fW,beq_iff_eq,decide_eq_true_iff];exact Iff.rfl
    rw[D 9 (by decide)];rw[a3] at k9;refine k9.mono ?_;rintro e w' ⟨rfl,F⟩;refine⟨?_,F⟩;by_cases e:(wd l 0).data.toList=Tx.wR<;>cases (I==20)<;>simp[e]
end Mf
namespace Mf
variable{w w':zW}
structure Rs(U:World)(G mb:Nat)(Z V:zV)(L:List Sm4)(Y:List (Nat×Nat×Nat))(J I:Nat)(wr:World):Prop where
 rd:Rd wr G mb U.heap.size J I Z L (L.map wK)
 os:wr.ownsRow U.heap.size 282 3 V Y.length (dI Y)
 ne:∀b,Z.ownBlock=some b->V.ownBlock≠some b
 fr:Fr (fun b=>b=G\/b=mb) U wr
variable{U wr:zW}{G mb J I:Nat}{Z V T O:zV}{L:List Sm4}{Y:List (Nat×Nat×Nat)}
theorem Rs.below(h:Rs U G mb Z V L Y J I wr)(D:zB wr w'):Rs U G mb Z V L Y J I w':=
 ⟨h.rd.of_block D.size (D.block G (bE h.rd.lt.1 h.rd.lt.2.2.1)) (D.block mb (bE h.rd.lt.2.1 h.rd.lt.2.2.1)) (fun b e=>D.block b (h.rd.own.lt b e).2),
  ar h.os (fun b e=>D.block b (h.os.lt b e).2),h.ne,h.fr.trans (Fr.of_below D)⟩
theorem Rs.ml(h:Rs U G mb Z V L Y J I wr)(hm:Ml U)(D:G≠0/\mb≠0):Ml wr:=by
 obtain⟨m,e⟩:=hm;have E:=aY U _ e;refine⟨m,?_⟩;rw[aZ (w:=U) (a:=⟨0,0,none⟩) (h.fr.block 0 E (fun e=>by rcases e with e|e;exact D.1 e.symm;exact D.2 e.symm))];exact e
theorem Rs.old(h:Rs U G mb Z V L Y J I wr){b o:Nat}{v:zV}(E:U.cell? ⟨b,o,none⟩=some v)(D:b≠G/\b≠mb):wr.cell? ⟨b,o,none⟩=some v:=by
 have F:=aY U _ E;rw[aZ (w:=U) (a:=⟨b,o,none⟩) (h.fr.block b F (fun e=>by rcases e with e|e;exact D.1 e;exact D.2 e))];exact E
theorem Rs.speak(h:Rs U G mb Z V L Y J I wr):Rs U G mb Z V L Y (J+1) I (wr.setCell ⟨G,2,none⟩ (zI ((J+1:Nat):Int))):=by
 have D:∀k,k≠G->(wr.setCell ⟨G,2,none⟩ (zI ((J+1:Nat):Int))).heap[k]?=wr.heap[k]?:=fun k D=>aM _ _ _ _ D
 refine⟨h.rd.count 2 (J+1) I (J+1) (Or.inl ⟨rfl,rfl,rfl⟩),?_,h.ne,?_⟩
 ·exact ar h.os (fun b e=>D b (fun E=>by have F:=(h.os.lt b e).1;have M:=h.rd.lt.1;omega))
 ·exact h.fr.trans (Fr.qC wr G 2 _ (Or.inl rfl))
theorem Rs.slip(h:Rs U G mb Z V L Y J I wr)(o:Obj)(x:Nat×Nat×Nat)(W:w'.ownsRow U.heap.size 282 3 O (Y.length+1) (dI Y++[zI x.1,zI x.2.1,zI x.2.2]))(M:(wr.alloc o).grownBy w' V.ownBlock)(a1:O.ownBlock=V.ownBlock\/O.ownBlock=some (wr.alloc o).heap.size):
  Rs U G mb Z O L (Y++[x]) J I w':=by
 have a0:(wr.alloc o).heap.size=wr.heap.size+1:=by simp
 have a2:wr.heap.size+1<=w'.heap.size:=by rw[<-a0];exact M.size
 have E:∀k,k<wr.heap.size->V.ownBlock≠some k->w'.heap[k]?=wr.heap[k]?:=fun k E h1=>by
  rw[M.block k (by omega) (fun e=>h1 e.symm),aG _ _ _ E]
 have D:∀k,V.ownBlock=some k->U.heap.size<=k:=fun k e=>(h.os.lt k e).1
 have hB:=h.rd.lt.2.2.1;refine⟨h.rd.of_block (by omega) (E G (bE h.rd.lt.1 hB) (fun e=>by have:=D G e;have:=h.rd.lt.1;omega)) (E mb (bE h.rd.lt.2.1 hB) (fun e=>by have:=D mb e;have:=h.rd.lt.2.1;omega)) (fun b e=>E b (h.rd.own.lt b e).2 (h.ne b e)),?_,?_,?_⟩
 ·rw[uI,aW];exact W
 ·intro b e F
  rcases a1 with e3|e3
  ·rw[e3] at F;exact h.ne b e F
  ·rw[e3] at F
   injection F with F;have:=(h.rd.own.lt b e).2;omega
 ·refine⟨M.os.trans h.fr.os,M.tape.trans h.fr.tape,M.output.trans h.fr.output,aO h.fr.size (by omega),fun k S hx=>?_⟩
  rw[E k (bE S hB) (fun e=>by have:=D k e;omega)];exact h.fr.block k S hx
theorem Rs.keep{s:Sm4}{M:Nat}(h:Rs U G mb Z V L Y J I wr)(hr:Rd w' G mb U.heap.size J M T (L++[s]) ((L++[s]).map wK))(E:Fr (Mine G mb Z) wr w')(S:∀b,T.ownBlock=some b->Z.ownBlock=some b\/wr.heap.size<=b):
  Rs U G mb T V (L++[s]) Y J M w':=by
 have hB:=h.rd.lt.2.2.1;have hl:=h.rd.lt;refine⟨hr,?_,?_,?_⟩
 ·refine ar h.os (fun b e=>E.block b (h.os.lt b e).2 ?_)
  rintro(D|D|D)
  ·have:=(h.os.lt b e).1;omega
  ·have:=(h.os.lt b e).1;omega
  ·exact h.ne b D e
 ·intro b e D
  rcases S b e with e3|e3
  ·exact h.ne b e3 D
  ·have:=(h.os.lt b D).2;omega
 ·refine⟨E.os.trans h.fr.os,E.tape.trans h.fr.tape,E.output.trans h.fr.output,aO h.fr.size E.size,fun k F W=>?_⟩
  rw[E.block k (bE F hB) ?_]
  ·exact h.fr.block k F W
  ·rintro(D|D|D)
   ·exact W (Or.inl D)
   ·exact W (Or.inr D)
   ·have:=(h.rd.own.lt k D).1;omega
def rdF(f:Nat):zV:=if f=0 then .func (.func 176) #[] #[] else if f=1 then .string mF else if f=2 then zI 0 else if f=3 then zI 0 else if f=4 then .map none else zN
theorem xr{G:Nat}(hv:gu w G 6 rdF)(S:G<w.heap.size)(o:Obj):Rs (((w.setCell ⟨G,4,none⟩ (.map (some w.heap.size))).alloc (.map #[] 0)).alloc o) G w.heap.size (zN) (zN) [] [] 0 0 (((w.setCell ⟨G,4,none⟩ (.map (some w.heap.size))).alloc (.map #[] 0)).alloc o):=by
 have M:=hv.set (p:=4) (by omega) (.map (some w.heap.size));have E:(w.setCell ⟨G,4,none⟩ (.map (some w.heap.size))).heap.size=w.heap.size:=by simp[World.setCell]
 have F:((w.setCell ⟨G,4,none⟩ (.map (some w.heap.size))).alloc (.map #[] 0)).heap.size=w.heap.size+1:=by rw[kQ,E]
 have D:=(M.of_block (w':=(w.setCell ⟨G,4,none⟩ (.map (some w.heap.size))).alloc (.map #[] 0)) (aG _ _ _ (by omega))).of_block (w':=((w.setCell ⟨G,4,none⟩ (.map (some w.heap.size))).alloc (.map #[] 0)).alloc o) (aG _ _ _ (by omega))
 have W:SaidAt (((w.setCell ⟨G,4,none⟩ (.map (some w.heap.size))).alloc (.map #[] 0)).alloc o) w.heap.size 0 []:=by
  have h:=xl (w.setCell ⟨G,4,none⟩ (.map (some w.heap.size)));rw[E] at h;exact h.of_block (aG _ _ _ (by omega))
 have a0:(((w.setCell ⟨G,4,none⟩ (.map (some w.heap.size))).alloc (.map #[] 0)).alloc o).heap.size=w.heap.size+2:=by rw[kQ,F]
 exact⟨⟨⟨D.at' 0 (by omega),D.at' 1 (by omega),D.at' 2 (by omega),D.at' 3 (by omega)⟩,D.fr 2 (by omega),D.fr 3 (by omega),D.at' 4 (by omega),⟨D.at' 5 (by omega),D.fr 5 (by omega)⟩,⟨by omega,by omega,af _,by omega⟩,eM _ _ _ _,W⟩,eM _ _ _ _,fun b e=>(by simp[Value.ownBlock] at e),⟨rfl,rfl,rfl,af _,fun _ _ _=>rfl⟩⟩
def Left(R:Tx.Got)(l:List zA)(k:Nat)(Q:List OLn)(Y:List (Nat×Nat×Nat))(J I:Nat):Prop:=
 (Tx.spoken (k+1) ((l.drop k).map (·.data.toList))).foldl (Tx.bz false Pv.aH 20) ⟨fj Q,Y,J,I⟩=R/\(∀g∈Q,∃D,Ok g.2 D)/\Q.length<=J/\Y.length<=J/\J<=k/\I<=J
variable{R:Tx.Got}{l:List zA}{k:Nat}{Q:List OLn}
theorem Left.blank(h:Left R l k Q Y J I)(E:k<l.length)(F:Tx.words l[k].data.toList=[]):Left R l (k+1) Q Y J I:=by
 have D:=h.1;rw[cY E,bD,Tx.spoken,aj F] at D;exact⟨D,h.2.1,h.2.2.1,h.2.2.2.1,by have:=h.2.2.2.2.1;omega,h.2.2.2.2.2⟩
theorem Left.line(h:Left R l k Q Y J I)(W:k<l.length){D:Wl}(M:aD D=Tx.words l[k].data.toList)(E:D≠[]):
  (Tx.spoken (k+1+1) ((l.drop (k+1)).map (·.data.toList))).foldl (Tx.bz false Pv.aH 20) (Tx.bz false Pv.aH 20 ⟨fj Q,Y,J,I⟩ (k+1,aD D))=R:=by
 have F:=h.1
 have S:Tx.words l[k].data.toList≠[]:=by
  rw[<-M];intro e;exact E (by cases D with|nil=>rfl|cons a r=>simp[aD] at e)
 rw[cY W,bD,Tx.spoken,ag S,jY,<-M] at F;exact F
theorem Left.slip(h:Left R l k Q Y J I)(S:k<l.length){D:Wl}(hw:aD D=Tx.words l[k].data.toList)(E:D≠[]){a q:Nat}
  (W:Tx.slip false Pv.aH (J==0) (nC Q D) (I==20) (aD D)=some (a,q)):Left R l (k+1) Q (Y++[(k+1,a,q)]) (J+1) I:=by
 have F:=h.line S hw E;have hd:=(zo Q D E h.2.1 (J==0) (I==20)).trans W
 have e:Tx.bz false Pv.aH 20 ⟨fj Q,Y,J,I⟩ (k+1,aD D)=⟨fj Q,Y++[(k+1,a,q)],J+1,I⟩:=by
  unfold Tx.bz;simp only[hd]
 rw[e] at F;obtain⟨_,M,g2,g3,g4,g5⟩:=h;exact⟨F,M,by omega,by rw[aW];simp;omega,by omega,by omega⟩
theorem Left.kept(h:Left R l k Q Y J I)(hk:k<l.length){D:Wl}(hw:aD D=Tx.words l[k].data.toList)(E:D≠[])(S:∃ks,Ok D ks)
  (hs:Tx.slip false Pv.aH (J==0) (nC Q D) (I==20) (aD D)=none):Left R l (k+1) (Q++[(k+1,D)]) Y (J+1) (if (wd D 0).toList==[114,101,113,117,105,114,101] then I+1 else I):=by
 have F:=h.line hk hw E;have hd:=(zo Q D E h.2.1 (J==0) (I==20)).trans hs
 have e:Tx.bz false Pv.aH 20 ⟨fj Q,Y,J,I⟩ (k+1,aD D)=⟨fj (Q++[(k+1,D)]),Y,J+1,if (wd D 0).toList==[114,101,113,117,105,114,101] then I+1 else I⟩:=by
  unfold Tx.bz;simp only[hd];rw[F0 E,eB];by_cases e:(wd D 0).data.toList=[114,101,113,117,105,114,101]<;>simp[fj,Tx.wR,e]
 rw[e] at F;obtain⟨_,M,g2,g3,g4,g5⟩:=h;refine⟨F,fun g W=>?_,by rw[aW];simp;omega,by omega,by omega,by split<;>omega⟩;rcases bH.1 W with e|e
 ·exact M g e
 ·rw[cq.1 e];exact S
def jK(m:Nat)(Y:List (Nat×Nat×Nat)):List (Nat×Nat×Nat):=if m=0 then [(0,0,2)] else Y
theorem Gd(Q:List OLn)(D:Wl):(((Q.map fun g=>dU g.2).map wK).any fun x=>decide (x=kD D))=nC Q D:=by
 unfold nC;rw[nT,List.any_map]
 rfl
theorem PN{b:Nat}{D:Wl}(h:WAt w b 0 D)(E:0<D.length):cF w b (D.getD 0 pad).1 (wd D 0):=by
 have F:=h.2 0 E;rw[Gb E,getD_at E];exact⟨by simpa using F.1,by simpa using F.2⟩
