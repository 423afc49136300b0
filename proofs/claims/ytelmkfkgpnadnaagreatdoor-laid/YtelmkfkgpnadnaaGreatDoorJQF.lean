import Derived.Test.YtelmkfkgpnadnaaGreatDoorJQB
import Derived.Test.YtelmkfkgpnadnaaGreatDoorJRA
set_option linter.all false
open Go.Proofs.Tryz
set_option maxRecDepth 100000
set_option maxHeartbeats 4000000
namespace Go.Proofs.YtelmkfkgpnadnaaGreatDoor
open Go.RowKit
namespace Mf
variable{w w':zW}
theorem zJ(f p v b:zA)(W:zW):zC 174 #[.agg #[.string f,.string p,.string v,.string b]] W fun e w'=>e=.returned (.agg #[.string (xm (f,p,v,b)).1,.string (xm (f,p,v,b)).2.1,.string (xm (f,p,v,b)).2.2])∧zB W w':=by
 unfold xm;by_cases h:f=oV
 ·simp only[ah h]
  exact yU f p v b W (by rw[h];kernel_rfl)
 ·simp only[af h]
  exact oT f p v b W (pS (fun e=>h ((ba_eq _ _).2 e)))
theorem EH(rp sp rq wb n wc a0 mb mn:Nat)(f p v b c1 c2 c3:zA)(ks:List Nat)(cs:List Cl)(w:zW)(hn:0<n)(hcs:Ng (c1,c2,c3))(hm:w.cell? ⟨rp,4,none⟩=some (.map (some mb)))(hS:SaidAt w mb mn cs)(hr:dm w rp sp rq)(hw:cQ w wb a0 f)(hx:Tx.shape false f.data.toList=some ks)
  (kst:∀W q,zB w W→KAt W q ks→zC 173 #[.slice (some ⟨q,0,none⟩) ks.length ks.length,.slice (some ⟨wb,0,none⟩) n wc] W fun e w'=>e=.returned (.agg #[.string f,.string p,.string v,.string b])∧zB W w')
  (kc:∀W,zC 174 #[.agg #[.string f,.string p,.string v,.string b]] W fun e w'=>e=.returned (.agg #[.string c1,.string c2,.string c3])∧zB W w'):
  zC 124 #[zP rp,zI 8,.slice (some ⟨wb,0,none⟩) n wc] w fun e w'=>e=.returned (zI (if cs.any (fun x=>decide (x=(c1,c2,c3))) then (a0:Int) else -1))∧zB w w':=by
 obtain⟨l,hl⟩:=J3 (c1,c2,c3) (by have:=hcs.1;unfold maxLen;omega) (by have:=hcs.2.1;unfold maxLen;omega) (by have:=hcs.2.2;unfold maxLen;omega);obtain⟨D,hown,_,hhas⟩:=hS;have HD:Hid (Maps.has D l=cs.any (fun x=>decide (x=(c1,c2,c3)))):=hhas _ l hl;clear hhas hcs;generalize cs.any (fun x=>decide (x=(c1,c2,c3)))=dd at HD ⊢
 have hmb:mb<w.heap.size:=by
  obtain⟨es,cl,h,_⟩:=hown;exact(oq.1 h).1
 have HOw:Hid (∀W,zB w W→W.ownsMap prog 280 (plainElem prog 3) mb mn D):=fun W hb=>by
  obtain⟨es,cl,h,rest⟩:=hown;exact⟨es,cl,(hb.block mb hmb).trans h,rest⟩
 have hrl:=aU w _ hm;have HM4:Hid (∀W,zB w W→W.cell? ⟨rp,4,none⟩=some (.map (some mb))):=fun W hb=>by rw[hb.cell (p:=⟨rp,4,none⟩) hrl];exact hm
 have HL:Hid (CK (c1,c2,c3) l):=hl;have HST:Hid (∀W q,zB w W→KAt W q ks→zC 173 #[.slice (some ⟨q,0,none⟩) ks.length ks.length,.slice (some ⟨wb,0,none⟩) n wc] W fun e w'=>e=.returned (.agg #[.string f,.string p,.string v,.string b])∧zB W w'):=kst;have hnI:(0:Int)<(n:Int):=by omega
 clear hm hown hl kst;have hc:∀(args:Array zV)(w:zW),(callFunc 85 args).run prog w=.ok (.enter 85 args) w:=fun _ _=>by kernel_rfl
 have kI:∀W,_:=fun W=>dI f ks hx W
 have HR:Hid (dm w rp sp rq):=hr;obtain⟨c0,c1'⟩:=hw;clear hr hx;go_enter func124,ntmps124;go_upto_region 2 with fail;have HB1:Hid (zB w (w.alloc (.cells #[zI a0,.string f] 274))):=(ae _ _).alloc (ag _) _;have HR1:Hid (dm (w.alloc (.cells #[zI a0,.string f] 274)) rp sp rq):=HR.out.below HB1.out;have HX1:Hid (cQ (w.alloc (.cells #[zI a0,.string f] 274)) w.heap.size a0 f):=gQ w a0 f 274;clear c0 c1';generalize w.alloc (.cells #[zI a0,.string f] 274)=W1 at*;obtain⟨b0,b2,b3,b4⟩:=HR1.out;obtain⟨b5,b1⟩:=HX1.out;have HA1:∀W,zB W1 W→dm W rp sp rq∧cQ W w.heap.size a0 f:=fun W hb=>⟨HR1.out.below hb,HX1.out.below hb⟩
 have hbA:zB W1 (W1.alloc (.cells (bS ks) 3)).drew:=(aB (ae _ _) _).drew;have HKA:Hid (KAt (W1.alloc (.cells (bS ks) 3)).drew W1.heap.size ks):=gC W1 ks;obtain⟨⟨d0,d2,d3,d4⟩,d5,d1⟩:=HA1 _ hbA;have HBA:Hid (zB w (W1.alloc (.cells (bS ks) 3)).drew):=HB1.out.trans (hbA.mono HB1.out.size);clear HA1 hbA;generalize bS ks=kcl at*
 go_region_held3 (fun w'=>w'.cell? ⟨rp,0,none⟩=some (.func (.func 85) #[] #[])∧w'.cell? ⟨w.heap.size,1,none⟩=some (.string f))
   (first|exact⟨b0,b1⟩|exact⟨d0,d1⟩)
   (first|(go_at_call 85;refine(kI _).mono ?_;rintro e w2 ⟨rfl,rfl⟩))
 all_goals
  clear b0 b1 b2 b3 b4 b5;have e4:=HM4.out _ HBA.out;have hsz:Below (W1.alloc (.cells kcl 3)).drew.heap.size (W1.alloc (.cells kcl 3)).drew (W1.alloc (.cells kcl 3)).drew:=ae _ _;generalize (W1.alloc (.cells kcl 3)).drew=W2 at*;go_upto_region 16 with fail;have HBd:Hid (∀W,zB W2 W→zB w W):=fun W hb=>HBA.out.trans (hb.mono HBA.out.size)
  have kst:∀W,zB W2 W→zC 173 #[.slice (some ⟨W1.heap.size,0,none⟩) ks.length ks.length,.slice (some ⟨wb,0,none⟩) n wc] W fun e w'=>e=.returned (.agg #[.string f,.string p,.string v,.string b])∧zB W w':=fun W hb=>HST.out W _ (HBd.out W hb) (HKA.out.below hb)
  have sf:∀W,zB W2 W→W.ownsMap prog 280 (plainElem prog 3) mb mn D:=fun W hb=>HOw.out W (HBd.out W hb)
  have CC:∀W,zB W2 W→∃c:Int,(Instr.lookup 148 (.map (some mb)) (.agg #[.string c1,.string c2,.string c3]) true).run prog W=.ok (.tuple #[zI c,.bool (Maps.has D l)]) W:=fun W hb=>by
   obtain⟨v0,ps,hrun,hv0⟩:=(sf W hb).look_ok jc underlying148 (JY W) (plainElem_int underlying3 (by decide)) HL.out;obtain⟨c,rfl,_,_⟩:=plainElem_int_inv underlying3 hv0;exact⟨c,hrun⟩
  have hcell:∀W,zB W2 W→W.cell? ⟨rp,4,none⟩=some (.map (some mb)):=fun W hb=>HM4.out W (HBd.out W hb)
  clear HM4 kI HOw sf HST
  go_region_held3 (fun w'=>w'.cell? ⟨rp,4,none⟩=some (.map (some mb)))
    (first|exact e4|exact hcell _ hbB|exact hcell _ hbA|exact hcell _ ((ae _ _).drew))
    (first
     |(go_at_call 173;refine(kst _ ((ae _ _).drew)).mono ?_;rintro e w3 ⟨rfl,hb3⟩;have hbA:zB W2 w3:=(ae W2.heap.size W2).drew.trans hb3;clear hb3)
     |(go_at_call 174;refine(kc _).mono ?_;rintro e w4 ⟨rfl,hb4⟩;have hbB:zB W2 w4:=hbA.trans (hb4.mono hbA.size);obtain⟨cL,hrun⟩:=CC _ hbB;clear hb4))
  all_goals
   have d6:w4.cell? ⟨w.heap.size,0,none⟩=some (zI a0):=by
    rw[hbB.cell (p:=⟨w.heap.size,0,none⟩) (aU W2 _ d5)];exact d5
   have HE:Hid (zB w w4):=HBd.out _ hbB;clear CC hcell kst kc d0 d1 d2 d3 d4 d5 hrun hbA hbB e4;rw[HD.out];clear HD;cases dd
   ·go_wp2
    go_ret;exact⟨rfl,HE.out⟩
   ·go_wp2
    go_ret;exact⟨rfl,HE.out⟩
end Mf
namespace Mf
variable{w w':zW}
theorem xj(rp sp rq wb n wc a0 mb B ln:Nat)(sv:zV)(L:List Sm4)(cs:List Cl)(f p v b c1 c2 c3:zA)(b3:Bool)(ks:List Nat)(w:zW)(hnw:0<n)(hcs:Ng (c1,c2,c3))(hL:L.length≤2001)(hC:cs.length≤2001)(hln:ln≤4000)(hq:rq≤4000)(hr:Rd w rp mb B sp rq sv L cs)(hw:cQ w wb a0 f)(hx:Tx.shape false f.data.toList=some ks)(h3r:(f.toList==[114,101,113,117,105,114,101])=b3)
  (kst:∀W q,zB w W→KAt W q ks→zC 173 #[.slice (some ⟨q,0,none⟩) ks.length ks.length,.slice (some ⟨wb,0,none⟩) n wc] W fun e w'=>e=.returned (.agg #[.string f,.string p,.string v,.string b])∧zB W w')
  (kc:∀W,zC 174 #[.agg #[.string f,.string p,.string v,.string b]] W fun e w'=>e=.returned (.agg #[.string c1,.string c2,.string c3])∧zB W w'):
  zC 125 #[zP rp,zI ln,.slice (some ⟨wb,0,none⟩) n wc] w fun e w'=>∃sv',e=.returned (.tuple #[])∧Rd w' rp mb B sp (if b3 then rq+1 else rq) sv' (L++[(f,p,v,b)]) (cs++[(c1,c2,c3)])∧Fr (Mine rp mb sv) w w'∧(∀b,sv'.ownBlock=some b→sv.ownBlock=some b∨w.heap.size≤b):=by
 have hnI:(0:Int)<(n:Int):=by omega
 obtain⟨rq2,Pm⟩:∃r,(if b3 then rq+1 else rq)=r:=⟨_,rfl⟩;rw[Pm];have HQ:Hid ((if b3 then rq+1 else rq)=rq2):=Pm;clear Pm;have hc:∀(args:Array zV)(w:zW),(callFunc 85 args).run prog w=.ok (.enter 85 args) w:=fun _ _=>by kernel_rfl
 have kI:∀W,_:=fun W=>dI f ks hx W
 obtain⟨i2,hi1,hi2,hi3,hi4⟩:=FX;have HJ:Hid (prog.info? 155=some i2∧i2.zero=some (.agg #[.string ByteArray.empty,.string ByteArray.empty,.string ByteArray.empty,.string ByteArray.empty])∧i2.size=4∧i2.bytes=64):=⟨hi1,hi2,hi3,hi4⟩;clear hi1 hi2 hi3 hi4;have HR:Hid (Rd w rp mb B sp rq sv L cs):=hr;obtain⟨b0,b2,b3',b4⟩:=hr.rd;obtain⟨c0,c1'⟩:=hw;have hwl:=aU w _ c1';have HB2:Hid (zB w (w.alloc (.cells (bS ks) 3)).drew):=(aB (ae _ _) _).drew;have HKA:Hid (KAt (w.alloc (.cells (bS ks) 3)).drew w.heap.size ks):=gC w ks;have kst:=kst _ _ HB2.out HKA.out;have HC:Hid ((w.alloc (.cells (bS ks) 3)).drew.cell? ⟨rp,0,none⟩=some (.func (.func 85) #[] #[])∧(w.alloc (.cells (bS ks) 3)).drew.cell? ⟨wb,1,none⟩=some (.string f)):=⟨(HR.out.rd.below HB2.out).1,by rw[HB2.out.cell (p:=⟨wb,1,none⟩) hwl];exact c1'⟩;clear hr hx HKA;generalize bS ks=kcl at*;go_enter func125,ntmps125;go_upto_region 0 with fail
 go_region_held3 (fun w'=>w'.cell? ⟨rp,0,none⟩=some (.func (.func 85) #[] #[])∧w'.cell? ⟨wb,1,none⟩=some (.string f))
   (first|exact⟨b0,c1'⟩|exact HC.out)
   (first|(go_at_call 85;refine(kI _).mono ?_;rintro e w2 ⟨rfl,rfl⟩))
 all_goals
  clear b0 b2 b3' b4 c0 c1' kI HC;generalize (w.alloc (.cells kcl 3)).drew=W2 at*
  go_wp2_with (go_at_call 173;fail)
  go_at_call 173;refine kst.mono ?_;rintro e w3 ⟨rfl,hb3⟩;have HB3:Hid (zB w w3):=HB2.out.trans (hb3.mono HB2.out.size);clear hb3 kst HB2;go_upto_region 2 with fail;have HB4:Hid (zB w (w3.alloc (.cells #[.string f,.string p,.string v,.string b] 155))):=aB HB3.out _;have HX4:Hid (∀j u,[Value.string f,.string p,.string v,.string b][j]?=some u→(w3.alloc (.cells #[.string f,.string p,.string v,.string b] 155)).cell? ((⟨w3.heap.size,0,none⟩:Addr).add j)=some u):=fun j u hj=>iT w3 _ _ _ _ 155 j u hj
  have x0:(w3.alloc (.cells #[.string f,.string p,.string v,.string b] 155)).cell? ⟨w3.heap.size,0,none⟩=some (.string f):=HX4.out 0 _ rfl;have x1:(w3.alloc (.cells #[.string f,.string p,.string v,.string b] 155)).cell? ⟨w3.heap.size,1,none⟩=some (.string p):=HX4.out 1 _ rfl;have x2:(w3.alloc (.cells #[.string f,.string p,.string v,.string b] 155)).cell? ⟨w3.heap.size,2,none⟩=some (.string v):=HX4.out 2 _ rfl;have x3:(w3.alloc (.cells #[.string f,.string p,.string v,.string b] 155)).cell? ⟨w3.heap.size,3,none⟩=some (.string b):=HX4.out 3 _ rfl;have HBX:Hid (w.heap.size≤w3.heap.size∧w3.heap.size<(w3.alloc (.cells #[.string f,.string p,.string v,.string b] 155)).heap.size):=⟨HB3.out.size,by simp⟩;generalize w3.heap.size=bx at*;generalize w3.alloc (.cells #[.string f,.string p,.string v,.string b] 155)=W3 at*;clear HX4 HB3;have hF3:Fld W3 rp 5 sv:=HR.out.fs.of_block (HB4.out.block rp (aU w _ HR.out.fs.1));have hF4:Fld (W3.alloc (.cells #[.string f,.string p,.string v,.string b] 155)).drew rp 5 sv:=hF3.of_block (aG _ _ _ (aU W3 _ hF3.1));have hoe:(W3.alloc (.cells #[.string f,.string p,.string v,.string b] 155)).drew.ownsRow B 155 4 sv L.length (bU L):=ar (ar HR.out.own (fun b e=>HB4.out.block b (HR.out.own.lt b e).2)) (fun b e=>aG _ _ _ (bI (HR.out.own.lt b e).2 HB4.out.size))
  have QE:∀j u,[Value.string f,.string p,.string v,.string b][j]?=some u→(W3.alloc (.cells #[.string f,.string p,.string v,.string b] 155)).drew.cell? ((⟨W3.heap.size,0,none⟩:Addr).add j)=some u:=fun j u hj=>iT W3 _ _ _ _ 155 j u hj
  have HNE:Hid (some rp≠sv.ownBlock):=fun e=>by have h:=(HR.out.own.lt rp e.symm).1;have:=HR.out.lt.1;omega
  have HF4:Hid (Fld (W3.alloc (.cells #[.string f,.string p,.string v,.string b] 155)).drew rp 5 sv):=hF4;have c1e:W3.cell? ⟨rp,5,none⟩=some sv:=hF3.1;have c1b:(W3.alloc (.cells #[.string f,.string p,.string v,.string b] 155)).cell? ⟨rp,5,none⟩=some sv:=hF4.1;have hBs:B≤W3.heap.size:=aP HR.out.lt.2.2.1 HB4.out.size;clear hF3 hF4
  have HRa:Hid (Rd (W3.alloc (.cells #[.string f,.string p,.string v,.string b] 155)) rp mb B sp rq sv L cs):=by
   have h1:Rd W3 rp mb B sp rq sv L cs:=HR.out.of_block HB4.out.size (HB4.out.block rp (bI HR.out.lt.1 HR.out.lt.2.2.1)) (HB4.out.block mb (bI HR.out.lt.2.1 HR.out.lt.2.2.1)) (fun b e=>HB4.out.block b (HR.out.own.lt b e).2);exact h1.of_block (by simp) (aG _ _ _ (bI h1.lt.1 h1.lt.2.2.1)) (aG _ _ _ (bI h1.lt.2.1 h1.lt.2.2.1)) (fun b e=>aG _ _ _ (h1.own.lt b e).2)
  have HSB:Hid (∀b,sv.ownBlock=some b→b<w.heap.size):=fun b e=>(HR.out.own.lt b e).2
  have HLT:Hid (rp<B∧mb<B∧B≤w.heap.size∧rp≠mb):=HR.out.lt;obtain⟨sa,sc,rfl⟩:=ay HR.out.own
  go_region_law
   (first|(refine step_append_lies _ rfl (.tmp 28) (.tmp 30) 149 rfl B 155 i2 (.agg #[.string ByteArray.empty,.string ByteArray.empty,.string ByteArray.empty,.string ByteArray.empty]) 4 64 underlying149 HJ.out.1 HJ.out.2.1 HJ.out.2.2.1 HJ.out.2.2.2 rfl (by decide) _ L.length _ rfl hoe ⟨W3.heap.size,0,none⟩ 1 1 [.string f,.string p,.string v,.string b] rfl rfl QE (fun u hu=>by simp at hu;rcases hu with rfl|rfl|rfl|rfl<;>rfl) (by decide) (by unfold maxLen;omega) (by omega) (by show B≤(W3.alloc _).heap.size;simp;omega) _ rfl ?_;intro g cap w5 hown hgrow hat Bg;have c3e:w5.cell? ⟨rp,5,none⟩=some (.slice sa L.length sc):=(HF4.out.of_block (hgrow.block rp (aU _ _ HF4.out.1) HNE.out)).1;have f3:w5.frozen? ⟨rp,5,none⟩=false:=(HF4.out.of_block (hgrow.block rp (aU _ _ HF4.out.1) HNE.out)).2))
  all_goals
   have HR5:Hid (Rd (w5.setCell ⟨rp,5,none⟩ (.slice (some ⟨g,0,none⟩) (L.length+1) cap)) rp mb B sp rq (.slice (some ⟨g,0,none⟩) (L.length+1) cap) (L++[(f,p,v,b)]) cs):=HRa.out.grown ⟨hgrow.os,hgrow.tape,hgrow.output,hgrow.size,hgrow.block⟩ hown
   have HFr:Hid (Fr (Mine rp mb (.slice sa L.length sc)) w (w5.setCell ⟨rp,5,none⟩ (.slice (some ⟨g,0,none⟩) (L.length+1) cap))):=by
    have f1:Fr (Mine rp mb (.slice sa L.length sc)) w W3:=Fr.of_below HB4.out;have f2:=f1.trans (Fr.of_below (aB (ae W3.heap.size W3) (.cells #[.string f,.string p,.string v,.string b] 155)));have f3:=f2.trans (Fr.sw (b:=w5) ⟨hgrow.os,hgrow.tape,hgrow.output,hgrow.size,hgrow.block⟩ (fun k e=>Or.inr (Or.inr e)));exact f3.trans (Fr.qZ w5 rp 5 _ (Or.inl rfl))
   have HAt:Hid (∀b,(Value.slice (some ⟨g,0,none⟩) (L.length+1) cap).ownBlock=some b→(Value.slice sa L.length sc).ownBlock=some b∨w.heap.size≤b):=fun b e=>by
    have e1:g=b:=by simpa[Value.ownBlock] using e
    rcases hat with h|h
    ·exact Or.inl (by rw[←e1];exact h)
    ·have h1:=HB4.out.size
     have h2:g=W3.heap.size+1:=by rw[h];simp
     exact Or.inr (by omega)
   have hbb:(w5.setCell ⟨rp,5,none⟩ (.slice (some ⟨g,0,none⟩) (L.length+1) cap)).heap[bx]?=W3.heap[bx]?:=by
    have h1:=HBX.out;have h2:=HLT.out;rw[aL _ _ _ _ (fun e=>by have e3:bx=rp:=e;omega)];rw[hgrow.block bx (by simp;omega) (fun e=>by have:=HSB.out bx e.symm;omega)];exact aG _ _ _ h1.2
   have HY:Hid (∀W:zW,W.heap[bx]?=(w5.setCell ⟨rp,5,none⟩ (.slice (some ⟨g,0,none⟩) (L.length+1) cap)).heap[bx]?→W.cell? ⟨bx,0,none⟩=some (.string f)∧W.cell? ⟨bx,1,none⟩=some (.string p)∧W.cell? ⟨bx,2,none⟩=some (.string v)∧W.cell? ⟨bx,3,none⟩=some (.string b)):=fun W e=>by
    rw[hbb] at e;exact⟨by rw[aW (w:=W3) (a:=⟨bx,0,none⟩) e];exact x0,by rw[aW (w:=W3) (a:=⟨bx,1,none⟩) e];exact x1,by rw[aW (w:=W3) (a:=⟨bx,2,none⟩) e];exact x2,by rw[aW (w:=W3) (a:=⟨bx,3,none⟩) e];exact x3⟩
   have JZ:bx<(w5.setCell ⟨rp,5,none⟩ (.slice (some ⟨g,0,none⟩) (L.length+1) cap)).heap.size:=by
    have h1:W3.heap.size+1≤w5.heap.size:=by have:=hgrow.size;simpa using this
    have h2:=HBX.out.2;simp[World.setCell];omega
   have HBX5:Hid (bx<(w5.setCell ⟨rp,5,none⟩ (.slice (some ⟨g,0,none⟩) (L.length+1) cap)).heap.size∧bx≠mb):=⟨JZ,by have:=HLT.out;have:=HBX.out;omega⟩;clear hbb JZ x0 x1 x2 x3 c1e c1b c3e f3 hown hgrow hat Bg QE hoe HF4 HNE HRa HR HSB HB4 HBX;go_upto_region 3 with fail;generalize w5.setCell ⟨rp,5,none⟩ (.slice (some ⟨g,0,none⟩) (L.length+1) cap)=W5 at*;have c4:W5.cell? ⟨rp,4,none⟩=some (.map (some mb)):=HR5.out.fm;obtain⟨y0,y1,y2,y3⟩:=HY.out W5 rfl
   have kup:∀W,zB W5 W→∃w7,(Instr.mapUpdate 148 (.map (some mb)) (.agg #[.string c1,.string c2,.string c3]) (zI ln)).run prog W=.ok () w7∧Hid (Rd w7 rp mb B sp rq (.slice (some ⟨g,0,none⟩) (L.length+1) cap) (L++[(f,p,v,b)]) (cs++[(c1,c2,c3)]))∧Hid (Fr (Mine rp mb (.slice sa L.length sc)) w w7)∧w7.heap[bx]?=W5.heap[bx]?:=fun W hb=>by
    have l:=HR5.out.lt;have e1:=hb.block rp (by omega);have e2:=hb.block mb (by omega);have r6:=HR5.out.of_block hb.size e1 e2 (fun b e=>hb.block b (HR5.out.own.lt b e).2);obtain⟨w7,h1,h2,h3⟩:=rf hln hC hcs r6.said;refine⟨w7,h1,r6.put h3 (by rw[bg];exact h2),(HFr.out.trans (Fr.of_below hb)).trans (Fr.sw h3 (fun k e=>Or.inr (Or.inl (by injection e with e;exact e.symm)))),?_⟩;have h4:=HBX5.out;rw[h3.block bx (bI h4.1 hb.size) (fun e=>h4.2 (by injection e))];exact hb.block bx h4.1
   go_region_held3 (fun w'=>w'.cell? ⟨rp,4,none⟩=some (.map (some mb))∧w'.cell? ⟨bx,0,none⟩=some (.string f)∧w'.cell? ⟨bx,1,none⟩=some (.string p)∧w'.cell? ⟨bx,2,none⟩=some (.string v)∧w'.cell? ⟨bx,3,none⟩=some (.string b))
    (first|exact⟨c4,y0,y1,y2,y3⟩|exact⟨HR7.out.fm,HY.out _ EC⟩|exact⟨hc6,HY.out _ J0⟩)
    (first|(go_at_call 174;refine(kc _).mono ?_;rintro e w6 ⟨rfl,hb6⟩;have hbB:zB W5 w6:=(ae W5.heap.size W5).drew.trans hb6;have J0:w6.heap[bx]?=W5.heap[bx]?:=hbB.block bx HBX5.out.1;have hc6:w6.cell? ⟨rp,4,none⟩=some (.map (some mb)):=(hbB.cell (p:=⟨rp,4,none⟩) (aU W5 _ c4)).trans c4;obtain⟨w7,hrun,HR7,HF7,EC⟩:=kup w6 hbB;clear hb6))
   all_goals
    obtain⟨z0,z1,z2,z3⟩:=HY.out _ EC;clear HFr kup kc hrun y0 y1 y2 y3 c4 hc6 hbB J0 EC HY HR5;have q3:w7.cell? ⟨rp,3,none⟩=some (zI rq):=HR7.out.rd.2.2.2;have q3f:w7.frozen? ⟨rp,3,none⟩=false:=HR7.out.f3;have HR8:Hid (Rd (w7.setCell ⟨rp,3,none⟩ (zI ((rq:Int)+1))) rp mb B sp (rq+1) (.slice (some ⟨g,0,none⟩) (L.length+1) cap) (L++[(f,p,v,b)]) (cs++[(c1,c2,c3)])):=HR7.out.count 3 sp (rq+1) (rq+1) (Or.inr ⟨rfl,rfl,rfl⟩);have HF8:Hid (Fr (Mine rp mb (.slice sa L.length sc)) w (w7.setCell ⟨rp,3,none⟩ (zI ((rq:Int)+1)))):=HF7.out.trans (Fr.qZ w7 rp 3 _ (Or.inl rfl));have e2:IntKind.i64.wrap ((rq:Int)+1)=(rq:Int)+1:=by simp[IntKind.wrap,IntKind.bits,IntKind.signed];omega
    cases b3
    ·have HRz:Hid (Rd w7 rp mb B sp rq2 (.slice (some ⟨g,0,none⟩) (L.length+1) cap) (L++[(f,p,v,b)]) (cs++[(c1,c2,c3)])):=by
      have e:rq=rq2:=HQ.out;rw[←e];exact HR7
     clear HQ HR7 HR8 HF8;go_wp2;exact im (v:=.tuple #[]) (by simp[results,results125,go_sem]) rfl ⟨_,rfl,HRz.out,HF7.out,HAt.out⟩
    ·have HRz:Hid (Rd (w7.setCell ⟨rp,3,none⟩ (zI ((rq:Int)+1))) rp mb B sp rq2 (.slice (some ⟨g,0,none⟩) (L.length+1) cap) (L++[(f,p,v,b)]) (cs++[(c1,c2,c3)])):=by
      have e:rq+1=rq2:=HQ.out;rw[←e];exact HR8
     clear HQ HR7 HR8 HF7;go_wp2;exact im (v:=.tuple #[]) (by simp[results,results125,go_sem]) rfl ⟨_,rfl,HRz.out,HF8.out,HAt.out⟩
end Mf
namespace Mf
variable{w w':zW}
theorem F2{l:Wl}{j:Nat}(h:j<l.length):wd l j=l[j].2:=by
 unfold wd;rw[getD_at h]
theorem iU{b:Nat}{l:Wl}(h:WAt w b 0 l){j:Nat}(hj:j<l.length):w.cell? ⟨b,j*2+1,none⟩=some (.string (wd l j)):=by
 have:=(h.2 j hj).2;rw[F2 hj];simpa using this
theorem Bn{l:Wl}{j:Nat}(h:l.length≤j):wd l j=⟨#[]⟩:=by
 unfold wd;rw[List.getD,gT h]
 rfl
theorem Po{l:Wl}{ks:List Nat}(h:Ok l ks)(k j:Nat)(hk:k=5∨k=6∨k=7)(hj:j<ks.length)(e:ks[j]=k):Tx.fit Pv.aH k (wd l (j+1)).data.toList=true:=by
 have hm:Tx.misfit Pv.aH k ks (aC l).tail=none:=by
  rcases hk with rfl|rfl|rfl
  ·exact h.m5
  ·exact h.m6
  ·exact h.m7
 have gen:∀(ps:List Nat)(ws:Wl)(j:Nat)(hj:j<ps.length)(hw:ps.length=ws.length),Tx.misfit Pv.aH k ps (aC ws)=none→ps[j]=k→Tx.fit Pv.aH k (ws.getD j pad).2.data.toList=true:=by
  intro ps
  induction ps with
  |nil=>intro ws j hj;simp at hj
  |cons q ps ih=>
   intro ws j hj hw hmm he;cases ws with
   |nil=>simp at hw
   |cons y ws=>
    have Nj:(if q=k∧Tx.fit Pv.aH k y.2.data.toList=false then some y.1 else Tx.misfit Pv.aH k ps (aC ws))=none:=hmm;by_cases hc:q=k∧Tx.fit Pv.aH k y.2.data.toList=false
    ·rw[ah hc] at Nj;cases Nj
    ·rw[af hc] at Nj
     cases j with
     |zero=>
      have hq:q=k:=he;cases hf:Tx.fit Pv.aH k y.2.data.toList with
      |true=>exact hf
      |false=>exact absurd ⟨hq,hf⟩ hc
     |succ j=>exact ih ws j (by simpa using hj) (by simpa using hw) Nj (by simpa using he)
 cases l with
 |nil=>have:=h.len;simp at this
 |cons x r=>exact gen ks r j hj (by have:=h.len;simpa using this.symm) hm e
theorem Pp{v:zA}(h:(Pv.parse v.data.toList).isSome=true):(v.toList==[])=false:=by
 refine pS fun e=>?_
 rw[e] at h;exact absurd h (by decide)
theorem sA{l:Wl}{ks:List Nat}(h:Ok l ks)(p b c:Nat)(w:zW)(hP:KAt w p ks)(hW:WAt w b 0 l):
  zC 173 #[.slice (some ⟨p,0,none⟩) ks.length ks.length,.slice (some ⟨b,0,none⟩) l.length c] w fun e w'=>e=.returned (.agg #[.string (wd l 0),.string (wd l 1),.string (wd l 2),.string (wd l 4)])∧zB w w':=by
 rcases kY h.sh with⟨_,hk⟩|⟨_,hk⟩|⟨_,hk⟩
 ·have hl:l.length=2:=by have:=h.len;rw[hk] at this;exact this
  rw[hk] at hP ⊢;rw[Bn (l:=l) (j:=2) (by omega),Bn (l:=l) (j:=4) (by omega)];exact CO p b l.length c _ _ w (by omega) (by omega) hP.1 hW.1 (hP.2 0 (by simp)) (iU hW (j:=0) (by omega)) (iU hW (j:=1) (by omega))
 ·have hl:l.length=3:=by have:=h.len;rw[hk] at this;exact this
  rw[hk] at hP ⊢;rw[Bn (l:=l) (j:=4) (by omega)];exact Bh p b l.length c _ _ _ w (by omega) (by omega) hP.1 hW.1 (hP.2 0 (by simp)) (hP.2 1 (by simp)) (iU hW (j:=0) (by omega)) (iU hW (j:=1) (by omega)) (iU hW (j:=2) (by omega))
 ·have hl:l.length=5:=by have:=h.len;rw[hk] at this;exact this
  have hf:Tx.fit Pv.aH 6 (wd l 2).data.toList=true:=Po h 6 1 (by omega) (by rw[hk];decide) (by simp[hk]);rw[hk] at hP ⊢;exact yX p b l.length c _ _ _ _ _ w (by omega) (by omega) hP.1 hW.1 (Pp hf) (hP.2 0 (by simp)) (hP.2 1 (by simp)) (hP.2 2 (by simp)) (hP.2 3 (by simp)) (iU hW (j:=0) (by omega)) (iU hW (j:=1) (by omega)) (iU hW (j:=2) (by omega)) (iU hW (j:=3) (by omega)) (iU hW (j:=4) (by omega))
theorem EI(x:zA)(l:List UInt8):(x.toList==l)=(x.data.toList==l):=by rw[dV]
theorem EJ{wb wc:Nat}{l:Wl}{ks:List Nat}(hk4:ks.length≤4)(hW:WAt w wb 0 l)(hne:0<l.length)(hs:∀x∈l,x.1≤4000∧x.2.size≤4000)(W:zW)(p:Nat)(hb:zB w W):
  zC 171 #[.slice (some ⟨p,0,none⟩) ks.length ks.length,.slice (some ⟨wb,0,none⟩) l.length wc] W fun e w'=>e=.returned (zI (cnt ks l))∧zB W w':=by
 have hW':=hW.below hb;unfold cnt;by_cases h2:ks.length+1<l.length
 ·rw[ah h2]
  refine(qB (some ⟨p,0,none⟩) wb 0 ks.length ks.length l.length wc ((l.getD (ks.length+1) pad).1:Int) W (by omega) (by omega) ?_).mono ?_
  ·have h:=(hW'.2 (ks.length+1) h2).1
   rw[getD_at h2,Nat.add_comm 1];exact h
  ·rintro e w' ⟨rfl,rfl⟩
   exact⟨rfl,ae _ _⟩
 ·rw[af h2]
  by_cases h1:l.length<ks.length+1
  ·rw[ah h1]
   have hl1:l.length-1<l.length:=by omega
   have hx:=hs _ (bL hl1);rw[getD_at hl1];refine(sj (some ⟨p,0,none⟩) wb 0 ks.length ks.length l.length wc l[l.length-1].1 l[l.length-1].2 W (by omega) (by omega) (by omega) hx.1 hx.2 ?_ ?_).mono ?_
   ·exact(hW'.2 _ hl1).1
   ·exact(hW'.2 _ hl1).2
   ·rintro e w' ⟨rfl,h⟩
    exact⟨rfl,h⟩
  ·rw[af h1]
   have h0:l.length=ks.length+1:=by omega
   rw[h0];refine(qA (some ⟨p,0,none⟩) (some ⟨wb,0,none⟩) ks.length ks.length wc W (by omega)).mono ?_;rintro e w' ⟨rfl,rfl⟩;exact⟨rfl,ae _ _⟩
theorem oX{wb wc k:Nat}{l:Wl}{ks:List Nat}(hm:Ml w)(hW:WAt w wb 0 l)(hl:l.length=ks.length+1)(hk4:ks.length≤4)(hs:∀x∈l,x.1≤4000∧x.2.size≤4000)(hk:k=5∨k=6∨k=7)(W:zW)(p:Nat)(hb:zB w W)(hP:KAt W p ks):
  zC 172 #[zI k,.slice (some ⟨p,0,none⟩) ks.length ks.length,.slice (some ⟨wb,2,none⟩) (l.length-1) (wc-1)] W fun e w'=>e=.returned (zI (Cx (Tx.misfit Pv.aH k ks (aC l).tail)))∧zB W w':=by
 cases l with
 |nil=>simp at hl
 |cons x r=>
  have hr:r.length=ks.length:=by simpa using hl
  have hW':=hW.below hb
  have hW1:WAt W wb 2 r:=⟨hW'.1,fun j hj=>by
   have:=hW'.2 (j+1) (by simpa using hj);rw[show 0+(j+1)*2=2+j*2 by omega] at this;simpa using this⟩
  refine(xg Pv.aH k p wb 2 ks.length ks.length r.length (wc-1) ks r W (by omega) rfl rfl (by omega) (by omega) hP hW1 ?_).mono ?_
  ·intro j hj W' hb'
   exact J1 _ k W' ((hm.below hb).below hb') (hs _ (cK _ (bL hj))).2 hk
  ·rintro e w' ⟨rfl,h⟩
   exact⟨rfl,h⟩
theorem Pq{ks:List Nat}{l:Wl}(h:cnt ks l=-1):l.length=ks.length+1:=by
 unfold cnt at h
 split at h
 ·omega
 ·split at h
  ·omega
  ·omega
theorem G7{f:List UInt8}{ks:List Nat}(h:Tx.shape false f=some ks):ks.length≤4∧1≤ks.length:=by
 rcases kY h with⟨_,hk⟩|⟨_,hk⟩|⟨_,hk⟩<;>rw[hk]<;>decide
theorem um{r:Option Nat}(h:Cx r=-1):r=none:=by
 cases r with
 |none=>rfl
 |some a=>simp only[Cx] at h;omega
theorem F3{l:Wl}(h:∀x∈l,x.1≤4000∧x.2.size≤2000):Ng (kq l):=by
 have hw:∀j,(wd l j).size≤2000:=fun j=>by
  by_cases hj:j<l.length
  ·rw[F2 hj];exact(h _ (bL hj)).2
  ·rw[Bn (by omega)];decide
 refine⟨hw 0,hw 1,?_⟩;show(if wd l 0=oV then (⟨#[]⟩:zA) else wd l 2).size≤2000
 split
 ·decide
 ·exact hw 2
def Wd4(f:zA):Prop:=f=nB∨f=oV∨f=CJ∨f=CL
theorem Pr{l:Wl}{ks:List Nat}(h:Ok l ks):Wd4 (wd l 0):=by
 rcases kY h.sh with⟨e,_⟩|⟨e,_⟩|⟨e,_⟩
 ·exact Or.inl ((ba_eq _ _).2 e)
 ·rcases e with e|e
  ·exact Or.inr (Or.inl ((ba_eq _ _).2 e))
  ·exact Or.inr (Or.inr (Or.inl ((ba_eq _ _).2 e)))
 ·exact Or.inr (Or.inr (Or.inr ((ba_eq _ _).2 e)))
theorem G8(rp sp rq wb wc mb B k:Nat)(sv:zV)(L:List Sm4)(cs:List Cl)(l:Wl)(w:zW)(hm:Ml w)(hr:Rd w rp mb B sp rq sv L cs)(hW:WAt w wb 0 l)(hne:l≠[])(hc:l.length≤wc)
  (hz:∀x∈l,x.1≤4000∧x.2.size≤2000) (h2:2≤k) (h9:k≤9) (lM:∀j,2≤j→j<k→ee l (sp==1) (cs.any fun x=>decide (x=kq l)) (rq==20) j=-1):
  zC 124 #[zP rp,zI k,.slice (some ⟨wb,0,none⟩) l.length wc] w fun e w'=>e=.returned (zI (ee l (sp==1) (cs.any fun x=>decide (x=kq l)) (rq==20) k))∧zB w w':=by
 have hn:0<l.length:=gp.2 hne;have hg0:l.getD 0 pad=l[0]:=getD_at hn;have hw0:wd l 0=l[0].2:=F2 hn
 have hb0:cQ w wb (l.getD 0 pad).1 (wd l 0):=by
  have h:=hW.2 0 hn;rw[hg0,hw0];exact⟨by simpa using h.1,by simpa using h.2⟩
 have hs:∀x∈l,x.1≤4000∧x.2.size≤4000:=fun x hx=>⟨(hz x hx).1,by have:=(hz x hx).2;omega⟩
 have hq1:((sp:Int)==1)=(sp==1):=by
  rw[eu];simp only[beq_iff_eq];omega
 have hq2:((rq:Int)==20)=(rq==20):=by
  rw[eu];simp only[beq_iff_eq];omega
 have ha2:at2 ((wd l 0).data.toList==Tx.wM) (sp==1) (l.getD 0 pad).1=if ((wd l 0).data.toList==Tx.wM)≠(sp==1) then ((l.getD 0 pad).1:Int) else -1:=by
  unfold at2;cases ((wd l 0).data.toList==Tx.wM)<;>cases (sp==1)<;>rfl
 cases hsh:Tx.shape false (wd l 0).data.toList with
 |none=>
  have hk3:k=2∨k=3:=by
   apply mN;intro h;have:=lM 3 (by omega) (by omega);unfold ee at this;rw[af (by decide),hsh] at this;simp only at this;omega
  have key:=G1 rp sp rq wb l.length wc k (l.getD 0 pad).1 (wd l 0) _ _ w hn hr.rd hb0 hsh (EI _ _) hq1 hk3;refine key.mono ?_;rintro e w' ⟨rfl,hb⟩;refine⟨?_,hb⟩;unfold ee;rw[hsh];by_cases e2:k=2
  ·rw[ah e2,ah e2]
   exact bW (fun z=>Ending.returned (zI z)) ha2
  ·rw[af e2,af e2]
 |some ks=>
  have hsl:=G7 hsh
  have hla:∀k,k≠2→ee l (sp==1) (cs.any fun x=>decide (x=kq l)) (rq==20) k=if k=3 then -1 else if k=4 then cnt ks l else if k=8 then (if (cs.any fun x=>decide (x=kq l)) then ((l.getD 0 pad).1:Int) else -1)
   else if k=9 then (if (wd l 0).data.toList=Tx.wR∧(rq==20)=true then ((l.getD 0 pad).1:Int) else -1) else Cx (Tx.misfit Pv.aH k ks (aC l).tail):=fun k hk=>by
   unfold ee;rw[af hk,hsh]
  have h4:4<k→l.length=ks.length+1:=fun h=>Pq (by
   have:=lM 4 (by omega) h;rw[hla 4 (by decide)] at this;exact this)
  by_cases e8:k=8
  ·subst e8
   have hl4:=h4 (by omega)
   have hok:Ok l ks:=by
    refine⟨hsh,hl4,?_,?_,?_⟩
    ·exact um (by have:=lM 5 (by omega) (by omega);rw[hla 5 (by decide)] at this;exact this)
    ·exact um (by have:=lM 6 (by omega) (by omega);rw[hla 6 (by decide)] at this;exact this)
    ·exact um (by have:=lM 7 (by omega) (by omega);rw[hla 7 (by decide)] at this;exact this)
   have k8:=EH rp sp rq wb l.length wc (l.getD 0 pad).1 mb cs.length (wd l 0) (wd l 1) (wd l 2) (wd l 4) (kq l).1 (kq l).2.1 (kq l).2.2 ks cs w hn (F3 hz) hr.fm hr.said hr.rd hb0 hsh
    (fun W q hb hq=>sA hok q wb wc W hq (hW.below hb)) (fun W=>zJ (wd l 0) (wd l 1) (wd l 2) (wd l 4) W)
   rw[hla 8 (by decide)];exact k8
  ·rcases(by omega:k=2∨k=3∨k=4∨k=5∨k=6∨k=7∨k=9) with rfl|rfl|rfl|rfl|rfl|rfl|rfl
   ·have:=J4 rp sp rq wb l.length wc (l.getD 0 pad).1 (wd l 0) _ _ ks w hn hr.rd hb0 hsh (EI _ _) hq1
    have e:ee l (sp==1) (cs.any fun x=>decide (x=kq l)) (rq==20) 2=at2 ((wd l 0).data.toList==Tx.wM) (sp==1) (l.getD 0 pad).1:=by unfold ee;rw[ah rfl];exact ha2.symm
    rw[e];exact this
   ·rw[hla 3 (by decide)]
    exact ED rp sp rq wb l.length wc (l.getD 0 pad).1 (wd l 0) ks w hn hr.rd hb0 hsh
   ·rw[hla 4 (by decide)]
    exact G3 rp sp rq wb l.length wc (l.getD 0 pad).1 (wd l 0) ks _ w hn hr.rd hb0 hsh (fun W p hb=>EJ hsl.1 hW hn hs W p hb)
   ·rw[hla 5 (by decide)]
    exact G4 rp sp rq wb l.length wc (l.getD 0 pad).1 (wd l 0) ks _ w (by have:=h4 (by decide);omega) hc hr.rd hb0 hsh (fun W p hb hP=>oX (k:=5) hm hW (h4 (by decide)) hsl.1 hs (by decide) W p hb hP)
   ·rw[hla 6 (by decide)]
    exact J5 rp sp rq wb l.length wc (l.getD 0 pad).1 (wd l 0) ks _ w (by have:=h4 (by decide);omega) hc hr.rd hb0 hsh (fun W p hb hP=>oX (k:=6) hm hW (h4 (by decide)) hsl.1 hs (by decide) W p hb hP)
   ·rw[hla 7 (by decide)]
    exact EE rp sp rq wb l.length wc (l.getD 0 pad).1 (wd l 0) ks _ w (by have:=h4 (by decide);omega) hc hr.rd hb0 hsh (fun W p hb hP=>oX (k:=7) hm hW (h4 (by decide)) hsl.1 hs (by decide) W p hb hP)
   ·have k9:=G2 rp sp rq wb l.length wc (l.getD 0 pad).1 (wd l 0) _ _ ks w hn hr.rd hb0 hsh (EI _ _) hq2
    have hb3:((wd l 0).data.toList==[114,101,113,117,105,114,101])=decide ((wd l 0).data.toList=Tx.wR):=by
     rw[eu,beq_iff_eq,decide_eq_true_iff];exact Iff.rfl
    rw[hla 9 (by decide)];rw[hb3] at k9;refine k9.mono ?_;rintro e w' ⟨rfl,hb⟩;refine⟨?_,hb⟩;by_cases e:(wd l 0).data.toList=Tx.wR<;>cases (rq==20)<;>simp[e]
end Mf
namespace Mf
variable{w w':zW}
structure Rs(W0:World)(rp mb:Nat)(sv lv:zV)(L:List Sm4)(au:List (Nat×Nat×Nat))(sp rq:Nat)(wr:World):Prop where
 rd:Rd wr rp mb W0.heap.size sp rq sv L (L.map xm)
 os:wr.ownsRow W0.heap.size 45 3 lv au.length (dF au)
 ne:∀b,sv.ownBlock=some b→lv.ownBlock≠some b
 fr:Fr (fun b=>b=rp∨b=mb) W0 wr
variable{W0 wr:zW}{rp mb sp rq:Nat}{sv lv sv' lv':zV}{L:List Sm4}{au:List (Nat×Nat×Nat)}
theorem Rs.below(h:Rs W0 rp mb sv lv L au sp rq wr)(hb:zB wr w'):Rs W0 rp mb sv lv L au sp rq w':=
 ⟨h.rd.of_block hb.size (hb.block rp (bI h.rd.lt.1 h.rd.lt.2.2.1)) (hb.block mb (bI h.rd.lt.2.1 h.rd.lt.2.2.1)) (fun b e=>hb.block b (h.rd.own.lt b e).2),
  ar h.os (fun b e=>hb.block b (h.os.lt b e).2),h.ne,h.fr.trans (Fr.of_below hb)⟩
theorem Rs.ml(h:Rs W0 rp mb sv lv L au sp rq wr)(hm:Ml W0)(h0:rp≠0∧mb≠0):Ml wr:=by
 obtain⟨m,e⟩:=hm;have hl:=aU W0 _ e;refine⟨m,?_⟩;rw[aW (w:=W0) (a:=⟨0,0,none⟩) (h.fr.block 0 hl (fun e=>by rcases e with e|e;exact h0.1 e.symm;exact h0.2 e.symm))];exact e
theorem Rs.old(h:Rs W0 rp mb sv lv L au sp rq wr){b o:Nat}{v:zV}(hc:W0.cell? ⟨b,o,none⟩=some v)(h0:b≠rp∧b≠mb):wr.cell? ⟨b,o,none⟩=some v:=by
 have hl:=aU W0 _ hc;rw[aW (w:=W0) (a:=⟨b,o,none⟩) (h.fr.block b hl (fun e=>by rcases e with e|e;exact h0.1 e;exact h0.2 e))];exact hc
theorem Rs.speak(h:Rs W0 rp mb sv lv L au sp rq wr):Rs W0 rp mb sv lv L au (sp+1) rq (wr.setCell ⟨rp,2,none⟩ (zI ((sp+1:Nat):Int))):=by
 have hk:∀k,k≠rp→(wr.setCell ⟨rp,2,none⟩ (zI ((sp+1:Nat):Int))).heap[k]?=wr.heap[k]?:=fun k hk=>aL _ _ _ _ hk
 refine⟨h.rd.count 2 (sp+1) rq (sp+1) (Or.inl ⟨rfl,rfl,rfl⟩),?_,h.ne,?_⟩
 ·exact ar h.os (fun b e=>hk b (fun e2=>by have h1:=(h.os.lt b e).1;have h2:=h.rd.lt.1;omega))
 ·exact h.fr.trans (Fr.qZ wr rp 2 _ (Or.inl rfl))
theorem Rs.slip(h:Rs W0 rp mb sv lv L au sp rq wr)(o:Obj)(x:Nat×Nat×Nat)(hown:w'.ownsRow W0.heap.size 45 3 lv' (au.length+1) (dF au++[zI x.1,zI x.2.1,zI x.2.2]))(hg:(wr.alloc o).grownBy w' lv.ownBlock)(hat:lv'.ownBlock=lv.ownBlock∨lv'.ownBlock=some (wr.alloc o).heap.size):
  Rs W0 rp mb sv lv' L (au++[x]) sp rq w':=by
 have hal:(wr.alloc o).heap.size=wr.heap.size+1:=by simp
 have hs':wr.heap.size+1≤w'.heap.size:=by rw[←hal];exact hg.size
 have hk:∀k,k<wr.heap.size→lv.ownBlock≠some k→w'.heap[k]?=wr.heap[k]?:=fun k hk h1=>by
  rw[hg.block k (by omega) (fun e=>h1 e.symm),aG _ _ _ hk]
 have hlv:∀k,lv.ownBlock=some k→W0.heap.size≤k:=fun k e=>(h.os.lt k e).1
 have hB:=h.rd.lt.2.2.1;refine⟨h.rd.of_block (by omega) (hk rp (bI h.rd.lt.1 hB) (fun e=>by have:=hlv rp e;have:=h.rd.lt.1;omega)) (hk mb (bI h.rd.lt.2.1 hB) (fun e=>by have:=hlv mb e;have:=h.rd.lt.2.1;omega)) (fun b e=>hk b (h.rd.own.lt b e).2 (h.ne b e)),?_,?_,?_⟩
 ·rw[uX,bg];exact hown
 ·intro b e e2
  rcases hat with e3|e3
  ·rw[e3] at e2;exact h.ne b e e2
  ·rw[e3] at e2
   injection e2 with e2;have:=(h.rd.own.lt b e).2;omega
 ·refine⟨hg.os.trans h.fr.os,hg.tape.trans h.fr.tape,hg.output.trans h.fr.output,aP h.fr.size (by omega),fun k hk1 hx=>?_⟩
  rw[hk k (bI hk1 hB) (fun e=>by have:=hlv k e;omega)];exact h.fr.block k hk1 hx
theorem Rs.keep{s:Sm4}{rq':Nat}(h:Rs W0 rp mb sv lv L au sp rq wr)(hr:Rd w' rp mb W0.heap.size sp rq' sv' (L++[s]) ((L++[s]).map xm))(hf:Fr (Mine rp mb sv) wr w')(hat:∀b,sv'.ownBlock=some b→sv.ownBlock=some b∨wr.heap.size≤b):
  Rs W0 rp mb sv' lv (L++[s]) au sp rq' w':=by
 have hB:=h.rd.lt.2.2.1;have hl:=h.rd.lt;refine⟨hr,?_,?_,?_⟩
 ·refine ar h.os (fun b e=>hf.block b (h.os.lt b e).2 ?_)
  rintro(e2|e2|e2)
  ·have:=(h.os.lt b e).1;omega
  ·have:=(h.os.lt b e).1;omega
  ·exact h.ne b e2 e
 ·intro b e e2
  rcases hat b e with e3|e3
  ·exact h.ne b e3 e2
  ·have:=(h.os.lt b e2).2;omega
 ·refine⟨hf.os.trans h.fr.os,hf.tape.trans h.fr.tape,hf.output.trans h.fr.output,aP h.fr.size hf.size,fun k hk1 hx=>?_⟩
  rw[hf.block k (bI hk1 hB) ?_]
  ·exact h.fr.block k hk1 hx
  ·rintro(e2|e2|e2)
   ·exact hx (Or.inl e2)
   ·exact hx (Or.inr e2)
   ·have:=(h.rd.own.lt k e2).1;omega
def rdF(f:Nat):zV:=if f=0 then .func (.func 85) #[] #[] else if f=1 then .string nB else if f=2 then zI 0 else if f=3 then zI 0 else if f=4 then .map none else zN
theorem xw{rp:Nat}(hv:gu w rp 6 rdF)(hrl:rp<w.heap.size)(o:Obj):Rs (((w.setCell ⟨rp,4,none⟩ (.map (some w.heap.size))).alloc (.map #[] 0)).alloc o) rp w.heap.size (zN) (zN) [] [] 0 0 (((w.setCell ⟨rp,4,none⟩ (.map (some w.heap.size))).alloc (.map #[] 0)).alloc o):=by
 have h2:=hv.set (p:=4) (by omega) (.map (some w.heap.size));have hsz0:(w.setCell ⟨rp,4,none⟩ (.map (some w.heap.size))).heap.size=w.heap.size:=by simp[World.setCell]
 have hsz:((w.setCell ⟨rp,4,none⟩ (.map (some w.heap.size))).alloc (.map #[] 0)).heap.size=w.heap.size+1:=by rw[kQ,hsz0]
 have h3:=(h2.of_block (w':=(w.setCell ⟨rp,4,none⟩ (.map (some w.heap.size))).alloc (.map #[] 0)) (aG _ _ _ (by omega))).of_block (w':=((w.setCell ⟨rp,4,none⟩ (.map (some w.heap.size))).alloc (.map #[] 0)).alloc o) (aG _ _ _ (by omega))
 have hs:SaidAt (((w.setCell ⟨rp,4,none⟩ (.map (some w.heap.size))).alloc (.map #[] 0)).alloc o) w.heap.size 0 []:=by
  have h:=xo (w.setCell ⟨rp,4,none⟩ (.map (some w.heap.size)));rw[hsz0] at h;exact h.of_block (aG _ _ _ (by omega))
 have hz2:(((w.setCell ⟨rp,4,none⟩ (.map (some w.heap.size))).alloc (.map #[] 0)).alloc o).heap.size=w.heap.size+2:=by rw[kQ,hsz]
 exact⟨⟨⟨h3.at' 0 (by omega),h3.at' 1 (by omega),h3.at' 2 (by omega),h3.at' 3 (by omega)⟩,h3.fr 2 (by omega),h3.fr 3 (by omega),h3.at' 4 (by omega),⟨h3.at' 5 (by omega),h3.fr 5 (by omega)⟩,⟨by omega,by omega,ag _,by omega⟩,ew _ _ _ _,hs⟩,ew _ _ _ _,fun b e=>(by simp[Value.ownBlock] at e),⟨rfl,rfl,rfl,ag _,fun _ _ _=>rfl⟩⟩
def Left(R:Tx.Got)(l:List zA)(k:Nat)(good:List OLn)(au:List (Nat×Nat×Nat))(sp rq:Nat):Prop:=
 (Tx.spoken (k+1) ((l.drop k).map (·.data.toList))).foldl (Tx.bw false Pv.aH 20) ⟨eI good,au,sp,rq⟩=R∧(∀g∈good,∃ks,Ok g.2 ks)∧good.length≤sp∧au.length≤sp∧sp≤k∧rq≤sp
variable{R:Tx.Got}{l:List zA}{k:Nat}{good:List OLn}
theorem Left.blank(h:Left R l k good au sp rq)(hk:k<l.length)(hw:Tx.words l[k].data.toList=[]):Left R l (k+1) good au sp rq:=by
 have h1:=h.1;rw[dt hk,bH,Tx.spoken,ah hw] at h1;exact⟨h1,h.2.1,h.2.2.1,h.2.2.2.1,by have:=h.2.2.2.2.1;omega,h.2.2.2.2.2⟩
theorem Left.line(h:Left R l k good au sp rq)(hk:k<l.length){acc:Wl}(hw:aC acc=Tx.words l[k].data.toList)(hne:acc≠[]):
  (Tx.spoken (k+1+1) ((l.drop (k+1)).map (·.data.toList))).foldl (Tx.bw false Pv.aH 20) (Tx.bw false Pv.aH 20 ⟨eI good,au,sp,rq⟩ (k+1,aC acc))=R:=by
 have h1:=h.1
 have Ph:Tx.words l[k].data.toList≠[]:=by
  rw[←hw];intro e;exact hne (by cases acc with|nil=>rfl|cons a r=>simp[aC] at e)
 rw[dt hk,bH,Tx.spoken,af Ph,lG,←hw] at h1;exact h1
theorem Left.slip(h:Left R l k good au sp rq)(hk:k<l.length){acc:Wl}(hw:aC acc=Tx.words l[k].data.toList)(hne:acc≠[]){a q:Nat}
  (hs:Tx.slip false Pv.aH (sp==0) (nZ good acc) (rq==20) (aC acc)=some (a,q)):Left R l (k+1) good (au++[(k+1,a,q)]) (sp+1) rq:=by
 have h1:=h.line hk hw hne;have hd:=(zG good acc hne h.2.1 (sp==0) (rq==20)).trans hs
 have e:Tx.bw false Pv.aH 20 ⟨eI good,au,sp,rq⟩ (k+1,aC acc)=⟨eI good,au++[(k+1,a,q)],sp+1,rq⟩:=by
  unfold Tx.bw;simp only[hd]
 rw[e] at h1;obtain⟨_,g1,g2,g3,g4,g5⟩:=h;exact⟨h1,g1,by omega,by rw[bg];simp;omega,by omega,by omega⟩
theorem Left.kept(h:Left R l k good au sp rq)(hk:k<l.length){acc:Wl}(hw:aC acc=Tx.words l[k].data.toList)(hne:acc≠[])(hT:∃ks,Ok acc ks)
  (hs:Tx.slip false Pv.aH (sp==0) (nZ good acc) (rq==20) (aC acc)=none):Left R l (k+1) (good++[(k+1,acc)]) au (sp+1) (if (wd acc 0).toList==[114,101,113,117,105,114,101] then rq+1 else rq):=by
 have h1:=h.line hk hw hne;have hd:=(zG good acc hne h.2.1 (sp==0) (rq==20)).trans hs
 have e:Tx.bw false Pv.aH 20 ⟨eI good,au,sp,rq⟩ (k+1,aC acc)=⟨eI (good++[(k+1,acc)]),au,sp+1,if (wd acc 0).toList==[114,101,113,117,105,114,101] then rq+1 else rq⟩:=by
  unfold Tx.bw;simp only[hd];rw[FY hne,dV];by_cases e:(wd acc 0).data.toList=[114,101,113,117,105,114,101]<;>simp[eI,Tx.wR,e]
 rw[e] at h1;obtain⟨_,g1,g2,g3,g4,g5⟩:=h;refine⟨h1,fun g hg=>?_,by rw[bg];simp;omega,by omega,by omega,by split<;>omega⟩;rcases bJ.1 hg with e|e
 ·exact g1 g e
 ·rw[bQ.1 e];exact hT
def jD(m:Nat)(au:List (Nat×Nat×Nat)):List (Nat×Nat×Nat):=if m=0 then [(0,0,2)] else au
theorem F4(good:List OLn)(acc:Wl):(((good.map fun g=>dS g.2).map xm).any fun x=>decide (x=kq acc))=nZ good acc:=by
 unfold nZ;rw[ij,List.any_map]
 rfl
theorem Pt{b:Nat}{acc:Wl}(h:WAt w b 0 acc)(hn:0<acc.length):cQ w b (acc.getD 0 pad).1 (wd acc 0):=by
 have h1:=h.2 0 hn;rw[F2 hn,getD_at hn];exact⟨by simpa using h1.1,by simpa using h1.2⟩
