import Derived.Test.YtgamgopghfpegaaGreatDoorKRUA
set_option linter.all false
open Go.Proofs.Tryz
set_option maxRecDepth 100000
set_option maxHeartbeats 8000000
namespace Go.Proofs.YtgamgopghfpegaaGreatDoor
open Go.RowKit
section
def Mine(rp mb:Nat)(Q:zV)(b:Nat):Prop:=b=rp∨b=mb∨Q.ownBlock=some b
namespace Mf
variable{w w' W:zW}{z:Bool}{l:Wl}{Z:List Nat}
theorem gQ(rp G I wb wc mb B ln:Nat)Q L cs w(a4:Ok z l Z)(bb:Mj (nW z l))(hL:L.length≤2001)(hC:cs.length≤2001)(bc:ln≤4000)(hq:I≤4000)(hr:Rd z w rp mb B G I Q L cs)(hW:WAt w wb 0 l):
  zC 250 #[.pointer (some (rp,0)),ln,.slice (some (wb,0)) l wc] w fun e w'=>∃V,e=.returned (.tuple #[])∧Rd z w' rp mb B G (if (wd l 0).toList==[114,101,113,117,105,114,101] then I+1 else I) V (L++[cQ z l]) (cs++[nW z l])∧Fr (Mine rp mb Q) w w'∧(∀b,V.ownBlock=some b→Q.ownBlock=b∨w≤b):=by
 have bm:0<l.length:=by have:=a4.len;omega
 have bn:(0)<(l:Int):=ae
 have kI:∀W,zC (sf z) #[(wd l 0)] W fun e w'=>e=.returned (.tuple #[.slice (some (W,0)) Z Z,true])∧w'=W.alloc (.cells (oG Z) 3):=fun W=>by
  have:=xJ z (wd l 0) W;rw[a4.sh] at this;exact this
 have ba:=Aq z;obtain⟨i2,hi⟩:=Pt;have HJ:=zH hi;have HR:=zH hr;have c1:w.cell? (wb,1)=_:=(xK hW (j:=0) ae).2;have F:Hid (zB w (w.alloc (.cells (oG Z) 3)).drew):=(aD (af _ _) _).drew;have b3:=sy a4 _ wb wc (w.alloc _).drew (Ar w Z) (hW.below F.out);have b0:w.cell? (rp,0)=some (.func _ #[] #[]):=(fdc hr.rd rfl).1;have b1:(w.alloc _).drew.cell? (rp,0)=some (.func _ #[] #[])∧(w.alloc (.cells (oG Z) 3)).drew.cell? (wb,1)=(wd l 0):=⟨(fdc (hr.below F.out).rd rfl).1,by rw[F.out.cell hW.1];exact c1⟩;have kc:=fun W=>Au (cQ z l) W
 have bh:(cQ z l).1=wd l 0:=by cases z<;>rfl
 have aa:Hid (zG _=nW z l):=rfl;clear hr a4 hi hW;generalize nW z l=c at*;generalize cQ z l=st at*;obtain⟨f,p,v,b⟩:=st;obtain rfl:f=_:=bh;rw[aa.out] at kc;generalize wd l 0=f at*;generalize oG Z=bi at*;generalize l.length=n at*;obtain⟨bs,a7⟩:∃r,(if f.toList==[114,101,113,117,105,114,101] then I+1 else I)=r:=⟨_,rfl⟩;rw[a7];have HQ:=zH a7;clear a7 aa;go_enter func250,ntmps250;go_upto_region 0 with fail
 go_region_held3 (fun w'=>w'.cell? (rp,0)=some (.func (.func (sf z)) #[] #[])∧w'.cell? (wb,1)=f)
   (first|exact⟨b0,c1⟩|exact b1)
   (first|(go_at_fn (sf z);refine(kI _).mono ?_;rintro e w2 ⟨rfl,rfl⟩))
 all_goals
  clear b0 c1 kI b1 ba;generalize (w.alloc (.cells bi 3)).drew=W2 at*
  go_wp2_with (go_at_call 267;fail)
  go_at_call 267;refine b3.mono ?_;rintro e w3 ⟨rfl,an⟩;have a6:=zH (F.out.trans (an.mono F.out.size));clear an b3 F;go_upto_region 2 with fail;have M:Hid (zB w (w3.alloc (.cells #[f,p,v,b] 329))):=aD a6.out _;have HX:Hid ((w3.alloc (.cells #[f,p,v,b] 329)).heap[_]?=_):=fdn _ _;have a9:=zH a6.out.size;clear a6;generalize w3.heap.size=bx at*;generalize w3.alloc _=S at*;have x0:S.cell? (bx,0)=f:=(fdc HX.out rfl).1;have x1:S.cell? (bx,1)=p:=(fdc HX.out rfl).1;have x2:S.cell? (bx,2)=v:=(fdc HX.out rfl).1;have x3:S.cell? (bx,3)=b:=(fdc HX.out rfl).1;have E:Hid (Rd z (S.alloc (.cells #[f,p,v,b] 329)).drew rp mb B G I Q L cs):=(HR.out.below M.out).below (aD (af _ _) _).drew;have b8:S.cell? (rp,5)=Q:=(fdc (HR.out.below M.out).rd rfl).1;have b7:(S.alloc _).cell? (rp,5)=Q:=(fdc E.out.rd rfl).1;have av:∀j u,_→(S.alloc (.cells #[f,p,v,b] 329)).drew.cell? _=_:=fun j u hj=>je S _ _ _ _ 329 j u hj
  have bk:=aP HR.out.lt.2.2.1 M.out.size;have a1:Hid (_∧_):=⟨HR.out.lt,HR.out.own.lt⟩;clear HR;obtain⟨sa,sc,rfl⟩:=aC E.out.own
  go_region_law
   (first|(refine step_append_lies _ rfl (.tmp 28) _ 323 rfl B 329 i2 _ 4 64 underlying323 HJ.out.1 HJ.out.2.1 HJ.out.2.2.1 HJ.out.2.2.2 rfl aA _ _ _ rfl E.out.own _ 1 1 _ rfl rfl av (fun u hu=>by simp at hu;rcases hu with rfl|rfl|rfl|rfl<;>rfl) aA (by unfold maxLen;omega) ae (by show B≤(S.alloc _).heap.size;simp;omega) _ rfl ?_;intro g cap w5 a5 D ak Gc;have q5:=(D.block rp (blt E.out.rd) (fun e=>by have:=a1.out.2 rp e.symm;have:=a1.out.1.1;omega)).trans E.out.rd;have b9:w5.cell? (rp,5)=some (.slice sa _ sc):=(fdc q5 rfl).1;have f3:=(fdc (i:=5) q5 rfl).2))
  all_goals
   have a2:Hid (Rd z _ rp mb B G I _ (L++[(f,p,v,b)]) cs):=E.out.grown ⟨D.os,D.tape,D.output,D.size,D.block⟩ a5
   have ad:Hid (Fr (Mine rp mb (.slice sa _ sc)) w (w5.setCell _ (.slice (some (g,0)) (L+1) cap))):=
    (((Fr.of_below M.out).trans (Fr.of_below (aD (af _ S) _))).trans (Fr.DN ⟨D.os,D.tape,D.output,D.size,D.block⟩ (fun k e=>Or.inr (Or.inr e)))).trans (Fr.BV w5 rp 5 _ (Or.inl rfl))
   have a8:Hid (∀b,(Value.slice (some (g,0)) (L+1) cap).ownBlock=some b→(Value.slice sa L sc).ownBlock=b∨w≤b):=fun b e=>by
    have e1:g=b:=by simpa[Value.ownBlock] using e
    rcases ak with h|h
    ·exact Or.inl (by rw[←e1];exact h)
    ·have h1:=M.out.size
     have h2:g=S+1:=by rw[h];simp
     exact Or.inr ae
   have h1:=a9.out;have h2:=a1.out.1;have b2:=blt HX.out;have bd:S+1≤w5.heap.size:=by have:=D.size;simpa using this
   have a0:Hid ((w5.setCell (rp,5) (.slice (some (g,0)) (L+1) cap)).heap[bx]?=some (.cells #[f,.string p,.string v,.string b] 329)∧bx≠mb):=by
    refine⟨?_,ae⟩;rw[aM _ _ _ _ (fun e=>by have e3:bx=rp:=e;omega),D.block bx aJ (fun e=>by have:=(a1.out.2 bx e.symm).2;omega)];exact(aO _ _ _ b2).trans HX.out
   clear x0 x1 x2 x3 b8 b7 b9 f3 q5 a5 D ak Gc av E M a9 h1 h2 b2 bd HX;go_upto_region 3 with fail;generalize w5.setCell ⟨rp,5,none⟩ (.slice (some ⟨g,0,none⟩) (L.length+1) cap)=W5 at*
   have HY:Hid (∀W:zW,W.heap[bx]?=W5.heap[bx]?→W.cell? (bx,0)=f∧W.cell? (bx,1)=some (.string p)∧W.cell? (bx,2)=some (.string v)∧W.cell? ⟨bx,3,none⟩=some (.string b)):=fun W e=>by
    have h:=e.trans a0.out.1;exact⟨(fdc h rfl).1,(fdc h rfl).1,(fdc h rfl).1,(fdc h rfl).1⟩
   have c4:W5.cell? (rp,4)=some (.map _):=(fdc a2.out.rd rfl).1;obtain⟨y0,y1,y2,y3⟩:=HY.out W5 rfl
   have b4:∀W,zB W5 W→∃w7,(Instr.mapUpdate 322 (.map (mb)) (clV c) (ln)).run prog W=.ok () w7∧Hid (Rd z w7 rp mb B G I (.slice (some (g,0)) (L+1) cap) (L++[(f,p,v,b)]) (cs++[c]))∧Hid (Fr (Mine rp mb (.slice sa L sc)) w w7)∧w7.heap[bx]?=W5.heap[bx]?:=fun W hb=>by
    have r6:=a2.out.below hb;obtain⟨w7,h1,h2,h3⟩:=F5 bc hC bb r6.said;refine⟨w7,h1,r6.put h3 (by rw[bj];exact h2),(ad.out.trans (Fr.of_below hb)).trans (Fr.DN h3 (fun k e=>Or.inr (Or.inl (by injection e with e;exact e.symm)))),?_⟩;rw[h3.block bx (bU (blt a0.out.1) hb.size) (fun e=>a0.out.2 (by injection e))];exact hb.block bx (blt a0.out.1)
   generalize clV c=cv at*
   go_region_held3 (fun w'=>w'.cell? (rp,4)=some (.map (some mb))∧w'.cell? (bx,0)=some (.string f)∧w'.cell? (bx,1)=some (.string p)∧w'.cell? ⟨bx,2,none⟩=some (.string v)∧w'.cell? ⟨bx,3,none⟩=some (.string b))
    (first|exact⟨c4,y0,y1,y2,y3⟩|exact⟨(fdc O.out.rd rfl).1,HY.out _ Sj⟩|exact⟨(fdc (a2.out.below a3).rd rfl).1,HY.out _ (a3.block bx (blt a0.out.1))⟩)
    (first|(go_at_call 268;refine(kc _).mono ?_;rintro e w6 ⟨rfl,aq⟩;have a3:=(af W5 W5).drew.trans aq;obtain⟨w7,az,O,ab,Sj⟩:=b4 w6 a3;clear aq))
   all_goals
    obtain⟨z0,z1,z2,z3⟩:=HY.out _ Sj;clear ad b4 kc az y0 y1 y2 y3 c4 a3 Sj HY a2;have q3:w7.cell? (rp,3)=I:=(fdc O.out.rd rfl).1;have bq:=(fdc (i:=3) O.out.rd rfl).2;have b6:Hid (Rd z (w7.setCell _ (.int .i64 (I+1))) rp mb B G (I+1) _ _ _):=O.out.set 3 _ rfl O.out.own;have b5:Hid (Fr _ w (w7.setCell _ (.int .i64 (I+1)))):=ab.out.trans (Fr.BV w7 rp 3 _ (Or.inl rfl));have e2:IntKind.i64.wrap (I+1)=I+1:=by simp[IntKind.wrap,IntKind.bits,IntKind.signed];omega
    cases hf:f.toList==[114,101,113,117,105,114,101]
    all_goals
     rw[hf] at HQ;obtain rfl:=HQ.out;go_wp2;refine fQ (v:=.tuple #[]) (by simp[results,results250,go_sem]) rfl ?_
     first|exact⟨rfl,_,O.out,ab.out,a8.out⟩|exact⟨rfl,_,b6.out,b5.out,a8.out⟩
end Mf
end
section
variable{w w':zW}
namespace Tx
theorem Hp:∀(t:List UInt8)(i:Nat),(∀x∈toks i none t,x.1+x.2.length≤i+t.length)∧∀a u,a+u.length≤i→∀x∈toks i (some (a,u)) t,x.1+x.2.length≤i+t.length
 |[],i=>⟨by intro x f;simp[toks] at f,by
  intro a u h x f;simp[toks] at f
  grind⟩
 |c::t,i=>by
  have D:=Hp t (i+1);refine⟨fun x f=>?_,fun a u h x f=>?_⟩
  ·rw[toks] at f
   grind
  ·rw[toks] at f
   grind
theorem DZ{line}{x}(h:x∈words line):x.1+x.2≤line.length:=by
 have f:=(Hp _ 0).1 x h;have D:=(Dr.cutc_len 35 line).1;omega
end Tx
theorem MK{f}{s:zA}(h:aH f=Tx.words s):∀x∈f,x.1≤s.size∧x.2.size≤s.size:=by
 intro x E;have hm:(x.1,x.2.data.toList)∈Tx.words s:=by rw[←h];exact List.mem_map_of_mem E
 have D:x.1+x.2.data.toList≤_:=Tx.DZ hm;rw[←bD,←bD] at D;omega
theorem Ge(s:zA)w(h:Ml w)(M:s.size≤4000):
  zC 248 #[s] w fun e w'=>∃v f,e=.returned v∧aH f=Tx.words s∧w'.ownsRow w 364 2 v f (gJ f)∧Below w w w':=by
 have D:(⟨#[35]⟩:zA).data.toList=[35]:=rfl;obtain⟨m,hm⟩:=h;have E:=Tryz.strings_Cut s ⟨#[35]⟩ m w ae hm;rw[D,Pv.CV 35 _] at E
 have F:(Pv.dK 35 s.data.toList).1≤s.size:=by
  have:=iE List.length (Pv.pH 35 s);rw[bj] at this;rw[bD];omega
 have k:=Dh s ⟨(Pv.dK 35 s).1.toArray⟩ w (by show(Pv.dK 35 s.data.toList).1.toArray.size≤4000;simp;omega) (E.mono (by
  rintro e w' ⟨rfl,n,rfl⟩;exact⟨_,_,rfl,⟨rfl,rfl,rfl,ai _,fun _ _=>rfl⟩⟩))
 simpa[Tx.words] using k
theorem D6(s:zA)(D:s.size<4294967281):∃l:List zA,l.map (·.data.toList)=Pv.spl 10 s∧(∀x∈l,x.size≤s.size)∧
  ∀w,Ml w→zC 100 #[s,.string ⟨#[10]⟩] w fun e w'=>e=.returned (.slice (some (w,0)) l l)∧w'=w.alloc (.cells (l.map Value.string).toArray 9):=by
 have f:1≤(⟨#[10]⟩:zA).size:=aA;refine⟨_,Pv.mM s ⟨#[10]⟩ 10 rfl,?_,?_⟩
 ·intro x E
  have hm:x.data.toList∈Pv.spl 10 s:=by
   rw[←Pv.mM s ⟨#[10]⟩ 10 rfl];exact List.mem_map_of_mem E
  have:=Dr.spl_len 10 _ _ hm;simp_all
 ·rintro w ⟨m,hm⟩
  have k:=Tryz.strings_Split s _ m w D hm f;rw[Lib.splitB_all _ f 0 _ s rfl];exact k
theorem xR:∀(l:List (Nat×zA))(j:Nat)(h:j<l.length),(gJ l)[j*2]?=some (.int .i64 l[j].1)∧(gJ l)[j*2+1]?=some (.string l[j].2)
 |x::r,0,_=>⟨rfl,rfl⟩
 |x::r,j+1,h=>by
  have e:gJ (x::r)=_::_::gJ r:=rfl;have f:=xR r j (by simpa using h)
  grind
theorem PE{B g c}{f:List (Nat×zA)}(h:w.ownsRow B 364 2 (.slice (some (g,0)) f c) f (gJ f)):WAt w g 0 f∧f≤c:=by
 refine⟨⟨(h.lt g rfl).2,fun j M=>?_⟩,?_⟩
 ·have E:=xR f j M
  exact⟨by rw[dQ,h.cellAt _ ae];exact E.1,by rw[dQ,h.cellAt _ ae];exact E.2⟩
 ·rcases h.2 with D|⟨S,cap,F,hv,_,_,O,_⟩
  ·simp at D
  grind
theorem nC(w:zW)(a b c:Nat):(w.alloc (.cells #[a,b,c] 273)).ownsRow w 273 3 (.slice (some (w,0)) 1 1) 1 (cy [(a,b,c)]):=
 ⟨rfl,.inr ⟨w.heap.size,1,_,rfl,ai _,fdn w _,ai _,aA,rfl,rfl⟩⟩
theorem AB(s:zA)(rp:Nat)w(D:2000<s.size):
  zC 232 #[.pointer (some (rp,0)),s] w fun e w'=>∃Q,e=.returned (.tuple #[zN,Q])∧w'.ownsRow w 273 3 Q 1 (cy [(0,0,1)])∧Below w w w':=by
 have f:((s.size:Int)>2000):=ae;go_enter func232,ntmps232;go_wp2
 go_step3
 go_wp2
 (try rw[dY])
 go_ret2;exact⟨_,rfl,nC w 0 0 1,(af _ _).alloc (ai _) _⟩
namespace Mf
structure Rs(z:Bool)(U:World)(rp mb:Nat)(Q Y:zV)(L:List Sm4)(J:List (Nat×Nat×Nat))(G I:Nat)(wr:World):Prop where
 rd:Rd z wr rp mb U.heap.size G I Q L (L.map zG)
 os:wr.ownsRow U.heap.size 273 3 Y J.length (cy J)
 ne:∀b,Q.ownBlock=some b→Y.ownBlock≠some b
 fr:Fr (fun b=>b=rp∨b=mb) U wr
variable{z:Bool}{U wr:zW}{rp mb G I:Nat}{Q Y V T:zV}{L:List Sm4}{J:List (Nat×Nat×Nat)}
theorem Rs.below(h:Rs z U rp mb Q Y L J G I wr)(f:Below wr wr w'):Rs z U rp mb Q Y L J G I w':=
 ⟨h.rd.below f,ar h.os (fun b e=>f.block b (h.os.lt b e).2),h.ne,h.fr.trans (Fr.of_below f)⟩
theorem Rs.old(h:Rs z U rp mb Q Y L J G I wr){b o:Nat}{v:zV}(f:U.cell? (b,o)=v)(D:b≠rp∧b≠mb):wr.cell? (b,o)=v:=by
 rw[dW (w:=U) (h.fr.block b (cr U _ f) (fun e=>ae))];exact f
theorem Rs.ml(h:Rs z U rp mb Q Y L J G I wr)(hm:Ml U)(f:rp≠0∧mb≠0):Ml wr:=by
 obtain⟨m,e⟩:=hm;exact⟨m,h.old e ⟨f.1.symm,f.2.symm⟩⟩
theorem Rs.speak(h:Rs z U rp mb Q Y L J G I wr):Rs z U rp mb Q Y L J (G+1) I (wr.setCell (rp,2) (((G+1:Nat):Int))):=
 ⟨h.rd.set 2 _ rfl h.rd.own,ar h.os (fun b e=>aM _ _ _ _ (fun f=>by have D:=(h.os.lt b e).1;have E:=h.rd.lt.1;grind)),h.ne,h.fr.trans (Fr.BV wr rp 2 _ (Or.inl rfl))⟩
theorem Rs.slip(h:Rs z U rp mb Q Y L J G I wr)o x(O:w'.ownsRow U 273 3 T (J+1) (cy J++[x.1,x.2.1,x.2.2]))(E:(wr.alloc o).grownBy w' Y.ownBlock)(a1:T.ownBlock=Y.ownBlock∨T.ownBlock=(wr.alloc o)):
  Rs z U rp mb Q T L (J++[x]) G I w':=by
 have a0:(wr.alloc o)=wr.heap.size+1:=ah;have a2:wr+1≤w'.heap.size:=by rw[←a0];exact E.size
 have f:∀k,k<wr.heap.size→Y.ownBlock≠k→w'.heap[k]?=wr.heap[k]?:=fun k f h1=>by
  rw[E.block k ae (fun e=>h1 e.symm),aO _ _ _ f]
 have M:=fun k e=>(h.os.lt k e).1
 have hB:=h.rd.lt.2.2.1;refine⟨h.rd.of_block ae (f rp (bU h.rd.lt.1 hB) (fun e=>by have:=M rp e;have:=h.rd.lt.1;omega)) (f mb (bU h.rd.lt.2.1 hB) (fun e=>by have:=M mb e;have:=h.rd.lt.2.1;omega)) (fun b e=>f b (h.rd.own.lt b e).2 (h.ne b e)),?_,?_,?_⟩
 ·rw[vC,bj];exact O
 ·intro b e D
  rcases a1 with S|S
  ·rw[S] at D;exact h.ne b e D
  ·rw[S] at D
   injection D with D;have:=(h.rd.own.lt b e).2;omega
 ·refine⟨E.os.trans h.fr.os,E.tape.trans h.fr.tape,E.output.trans h.fr.output,aP h.fr.size ae,fun k F hx=>?_⟩
  rw[f k (bU F hB) (fun e=>ax)];exact h.fr.block k F hx
theorem Rs.keep{s}{F}(h:Rs z U rp mb Q Y L J G I wr)(hr:Rd z w' rp mb U G F V (L++[s]) ((L++[s]).map zG))(D:Fr (Mine rp mb Q) wr w')(M:∀b,V.ownBlock=some b→Q.ownBlock=b∨wr≤b):
  Rs z U rp mb V Y (L++[s]) J G F w':=by
 have S:=h.rd.lt.2.2.1;have hl:=h.rd.lt;refine⟨hr,?_,?_,?_⟩
 ·refine ar h.os (fun b e=>D.block b (h.os.lt b e).2 ?_)
  rintro(f|f|f)
  ·have:=(h.os.lt b e).1;omega
  ·have:=(h.os.lt b e).1;omega
  ·exact h.ne b f e
 ·intro b e f
  rcases M b e with O|O
  ·exact h.ne b O f
  ·have:=(h.os.lt b f).2;omega
 ·refine⟨D.os.trans h.fr.os,D.tape.trans h.fr.tape,D.output.trans h.fr.output,aP h.fr.size D.size,fun k E hx=>?_⟩
  rw[D.block k (bU E S) ?_]
  ·exact h.fr.block k E hx
  ·rintro(f|f|f)
   ·omega
   ·omega
   ·have:=(h.rd.own.lt k f).1;omega
theorem ML{rp}(D:w.heap[rp]?=some (.cells (rdV z 0 0 (.map none) (zN)) 325))o:Rs z (((w.setCell (rp,4) (.map (w))).alloc (.map #[] 0)).alloc o) rp w (zN) (zN) [] [] 0 0 (((w.setCell (rp,4) (.map (w))).alloc (.map #[] 0)).alloc o):=by
 have F:=blt D;have E:(w.setCell (rp,4) (.map (w.heap.size)))=w.heap.size:=by simp[World.setCell]
 have f:=Mn (w.setCell (rp,4) (.map (w)));rw[E] at f;have M:((w.setCell (rp,4) (.map (w.heap.size))).alloc (.map #[] 0))=w.heap.size+1:=by rw[wz,E]
 exact⟨⟨by rw[aO _ _ _ ae,aO _ _ _ ae,fds D];rfl,⟨by rw[wz];omega,by rw[wz];omega,ai _,ae⟩,bP _ _ _ _,f.of_block (aO _ _ _ ae)⟩,bP _ _ _ _,fun b e=>(by simp[Value.ownBlock] at e),⟨rfl,rfl,rfl,ai _,fun _ _ _=>rfl⟩⟩
def Left(z:Bool)(R:Tx.Got)(l:List zA)(k:Nat)(good:List OLn)(J:List (Nat×Nat×Nat))(G I:Nat):Prop:=
 (Tx.spoken (k+1) ((l.drop k).map (·.data.toList))).foldl (Tx.bK z Pv.aK 20) ⟨dr good,J,G,I⟩=R∧(∀g∈good,∃Z,Ok z g.2 Z)∧good.length≤G∧J.length≤G∧G≤k∧I≤G
variable{R:Tx.Got}{l:List zA}{k:Nat}{good:List OLn}
theorem Left.blank(h:Left z R l k good J G I)(D:k<l)(E:Tx.words l[k]=[]):Left z R l (k+1) good J G I:=by
 have f:=h.1;rw[bN D,eA,Tx.spoken,ay E] at f;exact⟨f,h.2.1,h.2.2.1,h.2.2.2.1,by have:=h.2.2.2.2.1;omega,h.2.2.2.2.2⟩
theorem Left.line(h:Left z R l k good J G I)(M:k<l){f:Wl}(F:aH f=Tx.words l[k])(D:f≠[]):
  (Tx.spoken (k+1+1) ((l.drop (k+1)).map (·.data.toList))).foldl (Tx.bK z Pv.aK 20) (Tx.bK z Pv.aK 20 ⟨dr good,J,G,I⟩ (k+1,aH f))=R:=by
 have E:=h.1;rw[bN M,eA,Tx.spoken,au (by rw[←F];intro e;exact D (by simpa[aH] using e)),jO,←F] at E;exact E
theorem Left.slip(h:Left z R l k good J G I)(M:k<l){f:Wl}(S:aH f=Tx.words l[k])(D:f≠[]){a q}
  (O:Tx.slip z Pv.aK (G==0) ((dr good).any fun x=>Tx.again (aH f) x.2) (I==20) (aH f)=(a,q)):Left z R l (k+1) good (J++[(k+1,a,q)]) (G+1) I:=by
 have E:=h.line M S D;simp only[Tx.bK,O] at E;obtain⟨_,F,g2,g3,g4,g5⟩:=h;exact⟨E,F,ae,ax,ae,ae⟩
theorem Left.kept(h:Left z R l k good J G I)(F:k<l){f:Wl}(O:aH f=Tx.words l[k])(D:f≠[])(hT:∃Z,Ok z f Z)
  (M:Tx.slip z Pv.aK (G==0) ((dr good).any fun x=>Tx.again (aH f) x.2) (I==20) (aH f)=none):Left z R l (k+1) (good++[(k+1,f)]) J (G+1) (if (wd f 0).toList==[114,101,113,117,105,114,101] then I+1 else I):=by
 have E:=h.line F O D
 have e:(if (Tx.hd (aH f)).2=Tx.wR then I+1 else I)=if (wd f 0).toList==[114,101,113,117,105,114,101] then I+1 else I:=by
  rw[su D,cP];by_cases e:(wd f 0).data.toList=[114,101,113,117,105,114,101]<;>simp[Tx.wR,e]
 simp only[Tx.bK,M,e] at E;obtain⟨_,S,g2,g3,g4,g5⟩:=h;refine⟨by simpa[dr] using E,fun g hg=>?_,ax,ae,ae,by split<;>omega⟩
 grind
def fN(z:Bool)(m:Nat)(J:List (Nat×Nat×Nat)):List (Nat×Nat×Nat):=if z=false∧m=0 then [(0,0,2)] else J
theorem Hq{l}(h:∀x∈l,x.1≤4000∧x.2.size≤2000):Mj (nW z l):=by
 have f:∀j,(wd l j).size≤2000:=fun j=>by
  by_cases E:j<l
  ·rw[wd,getD_at E];grind
  ·rw[BU ae];decide
 have D:(⟨#[]⟩:zA).size≤2000:=aA;cases z
 all_goals
  refine⟨f 0,by first|exact f 1|exact D,?_⟩;show(if wd l 0=uu then (⟨#[]⟩:zA) else _).size≤2000
  split
  ·exact D
  ·exact f _
end Mf
end
namespace Mf
variable{w w':zW}
theorem sG z(s:zA)rp w(hs:s.size≤2000)(hm:Ml w)(h0:rp≠0)(hv:w.heap[rp]?=some (.cells (rdV z 0 0 (.map none) (zN)) 325)):
  zC 232 #[.pointer (some (rp,0)),s] w fun e w'=>∃good J m q rv Y,e=.returned (.tuple #[rv,Y])∧(Tx.spoken 1 (Pv.spl 10 s)).foldl (Tx.bK z Pv.aK 20) qf=⟨dr good,J,m,q⟩∧(∀g∈good,∃Z,Ok z g.2 Z)∧good.length≤2001∧J.length≤2001∧Fr (fun b=>b=rp) w w'∧
   ((fN z m J≠[]∧rv=zN∧w'.ownsRow w 273 3 Y (fN z m J) (cy (fN z m J)))∨(fN z m J=[]∧Y=zN∧w'.ownsRow w 329 4 rv good (fS (good.map fun g=>cQ z g.2)))):=by
 have g1:((s.size:Int)≤2000):=ae;obtain⟨i9,cd,cf,ch,cj⟩:=Mr;have HI:Hid (_∧_∧_∧_):=⟨cd,cf,ch,cj⟩;clear cd cf ch cj;obtain⟨l,hl,hz,Z⟩:=D6 s ae
 have fv:l.length≤2001:=by
  have h1:=iE List.length hl;have h2:=Dr.spl_len_count 10 s;rw[dM] at h1;rw[←bD] at h2;omega
 have bi:=blt hv;have c5:=zH (fun o=>ML hv o);have c4:(w.alloc (.map #[] 0)).cell? (rp,4)=some (.map none):=by rw[World.cell?_alloc_lt _ _ _ bi];exact(fdc hv rfl).1
 have f4:(w.alloc (.map #[] 0)).frozen? (rp,4)=false:=by
  rw[BF (aO _ _ _ bi)];exact(fdc hv rfl).2
 have ds:=run_makeMap (P:=prog) 322 w
 have Sk:Ml ((w.setCell (rp,4) (.map (w))).alloc (.map #[] 0)):=by
  obtain⟨m,e⟩:=hm;refine⟨m,?_⟩;have a4:=cr w _ e;rw[World.cell?_alloc_lt _ _ _ (by simp_all),wy _ _ _ _ (fun e=>h0 (by injection e))];exact e
 have Z:=Z _ Sk;have HR:Hid (Left z ((Tx.spoken 1 (Pv.spl 10 s)).foldl (Tx.bK z Pv.aK 20) qf) l 0 [] [] 0 0):=⟨by rw[List.drop_zero,hl];rfl,fun g hg=>(by cases hg),ai _,ai _,ai _,ai _⟩;generalize (Tx.spoken 1 (Pv.spl 10 s.data.toList)).foldl (Tx.bK z Pv.aK 20) qf=R at*;have c0:=zH Sk;have HZ:Hid (∀x∈l,x.size≤2000):=fun x hx=>ax
 have c1:Hid (_∧_):=⟨bi,h0⟩;clear hv Sk hm hl hz;go_enter func232,ntmps232;go_wp2
 go_step3
 go_wp2_with fail
 go_step3
 go_wp2_with (go_at_call 100;fail)
 go_at_call 100;refine Z.mono ?_;rintro e w1 ⟨rfl,b0⟩
 have c2:Hid (Rs z w1 rp w (zN) (zN) [] [] 0 0 w1):=by
  show Rs z w1 rp w.heap.size _ _ [] [] 0 0 w1;rw[b0];exact c5.out _
 have O5:((w.setCell (rp,4) (.map (w.heap.size))).alloc (.map #[] 0))=w.heap.size+1:=by rw[wz];simp[World.setCell]
 have b3:Hid (Ml w1):=by
  show Ml w1;rw[b0];exact c0.out.below ((af _ _).alloc (ai _) _)
 have cv:Hid (∀k (hk:k<_),w1.cell? ⟨w+1,k,none⟩=l[k]):=fun k hk=>by
  rw[b0];have h:=fdn ((w.setCell (rp,4) (.map (w))).alloc (.map #[] 0)) (.cells (l.map Value.string).toArray 9);rw[O5] at h;unfold World.cell?
  grind
 have bt:Hid (Fr (fun b=>b=rp) w w1):=by
  show Fr _ w w1;rw[b0];exact((Fr.BV (X:=fun b=>b=rp) w rp 4 _ rfl).trans (Fr.of_below ((af _ _).alloc (ai _) _))).trans (Fr.of_below ((af _ _).alloc (ai _) _))
 have c6:Hid (w+1<w1.heap.size∧rp≠w+1):=⟨by simp_all,ae⟩;rw[O5];clear Z c5 c0 b0 O5 c4 f4 ds;have b6:Hid (w.heap.size≠0∧w≠w.heap.size+1):=⟨ae,ae⟩;have b9:Hid (∀b,w1.heap.size≤b→w≤b):=fun b hb=>by have:=c6.out.1;omega
 generalize w.heap.size+1=lb at*;go_wp2;go_loopg [6,24] l (fun gg Y kv wr=>∃(k:Nat)(good:List OLn)(J:List (Nat×Nat×Nat))(G I:Nat)(Q a0:zV),a0=Y∧k≤l.length∧l.length-k≤gg∧kv=.int .i64 k∧G≤k∧Hid (Rs z w1 rp w.heap.size Q Y (good.map fun g=>cQ z g.2) J G I wr)∧Hid (Left z R l k good J G I))
 case atStart=>exact⟨0,[],[],0,0,_,_,rfl,ae,ae,rfl,ae,c2,HR⟩
 case round=>
  clear c2 HR;obtain⟨k,good,J,G,I,Q,a0,Vo,hk,fs,rfl,Wu,S,HL⟩:=hrel;subst Vo;by_cases a4:k<l
  ·have fD:k<(l:Int):=ae
   have dq:=S.out.old (cv.out k a4) ⟨fun e=>c6.out.2 e.symm,fun e=>b6.out.2 e.symm⟩;have cs:=Ge l[k] wr (S.out.ml b3.out ⟨c1.out.2,b6.out.1⟩) (by have:=HZ.out l[k] (dH a4);omega)
   go_wp2_with (go_at_call 248;fail)
   go_at_call 248;refine cs.mono ?_;rintro e w2 ⟨v,f,rfl,a2,O,bc⟩;clear cs dq;have ad:=zH (S.out.below bc);have b4:=zH a2;have cx:=zH (bU S.out.rd.lt.1 S.out.rd.lt.2.2.1);by_cases he:f=[]
   ·have aa:=zH (HL.out.blank a4 (by rw[←a2,he];rfl))
    obtain⟨va,vc,rfl⟩:=aC O;subst he;clear O bc a2 HL S b4;go_wp2;go_roundg (l-(k+1))
    case measure=>omega
    case rel=>exact⟨_,good,J,G,I,Q,a0,rfl,ae,ae,by go_num,ae,ad,aa⟩
   ·have hn:=eB.2 he
    obtain⟨g,vc,rfl⟩:=bo O hn;have an:=PE O;have dn:=(O.lt g rfl).1;have dv:¬((f:Int)=0):=ae;have fd:((f:Int)==0)=false:=by rw[bX];omega
    have ca:w2.cell? (rp,2)=G:=(fdc ad.out.rd.rd rfl).1;have b2:=(fdc (i:=2) ad.out.rd.rd rfl).2;have da:Hid (Rs z w1 rp _ Q a0 _ J _ I (w2.setCell _ (.int .i64 (G+1)))):=ad.out.speak
    have b8:Hid (WAt (w2.setCell (rp,2) (.int .i64 (G+1))) g 0 f∧f≤vc):=by
     have fa:g≠rp:=by have:=cx.out;omega
     have cn:(w2.setCell (rp,2) (.int .i64 (G+1))).heap[g]?=_:=aM _ _ _ _ fa;exact⟨⟨by simp[World.setCell];exact an.1.1,fun j hj=>⟨by rw[dW (a:=(g,0+j*2)) cn];exact(an.1.2 j hj).1,by rw[dW (a:=(g,0+j*2+1)) cn];exact(an.1.2 j hj).2⟩⟩,an.2⟩
    have e2:IntKind.i64.wrap (G+1)=G+1:=by simp[IntKind.wrap,IntKind.bits,IntKind.signed];omega
    have bb:Hid (∀x∈f,x.1≤4000∧x.2.size≤2000):=fun x hx=>by
     have h1:=MK a2 x hx;have h2:=HZ.out l[k] (dH a4);omega
    have ab:=zH he;clear O bc a2 an dn he ad S
    go_wp2_with fail
    clear ca b2 e2 dv fd;generalize w2.setCell ⟨rp,2,none⟩ (.int .i64 ((G:Int)+1))=W3 at*;have ct:Hid (∀Z,Ok z f Z→_):=fun Z h=>Pp h HL.out.2.1
    generalize cb:((dr good).any fun x=>Tx.again (aH f) x.2)=du at*;have bq:=zH cb;clear cb;have c3:Hid ((G+1==1)=(G==0)):=by show _=_;rw[dJ];simp
    generalize aq:lat z f (G+1==1) du (I==20)=AT at*;have a7:=zH aq;clear aq;go_loopg [6,10] 8 (fun gg l6 kv wx=>∃j:Nat,a0=l6∧2≤j∧j≤10∧10-j≤gg∧kv=.int .i64 j∧Hid (∀i,2≤i→i<j→AT i=none)∧zB W3 wx)
    case atStart=>exact⟨2,rfl,ae,ae,ae,rfl,fun i h1 h2=>ae,af _ _⟩
    case round=>
     obtain⟨j,h6,ck,Wv,fq,rfl,a6,a9⟩:=hrel;subst h6;have a1:=zH (da.out.below a9);by_cases cm:j≤9
     ·have kk:=Jn rp _ I g vc _ _ j Q _ _ f du wr (a1.out.ml b3.out ⟨c1.out.2,b6.out.1⟩) a1.out.rd (b8.out.1.below a9) ab.out b8.out.2 bb.out ck cm (by rw[a7.out];exact a6.out) ct.out (Hq bb.out)
      rw[a7.out] at kk;have Vp:(j:Int)≤9:=ae;cases hr:AT j with
      |none=>
       rw[hr] at kk
       replace kk:Calls _ 249 _ wr fun e w'=>e=.returned (.int .i64 (-1))∧_:=kk
       have Ue:Hid (∀i,2≤i→i<j+1→AT i=none):=fun i h1 h2=>by
        by_cases e:i=j
        ·rw[e];exact hr
        ·exact a6.out i h1 ae
       clear hr a1
       go_wp2_with (go_at_call 249;fail)
       go_at_call 249;refine kk.mono ?_;rintro e w4 ⟨rfl,av⟩;have dk:=a9.trans (av.mono a9.size);clear kk av;go_wp2;go_roundg (10-(j+1))
       case measure=>omega
       case rel=>exact⟨_,rfl,ae,ae,ae,by go_num,Ue,dk⟩
      |some a=>
       have E:Tx.slip z Pv.aK (G==0) ((dr good).any fun x=>Tx.again (aH f) x.2) (I==20) (aH f)=(a,j):=by
        rw[bq.out,←c3.out];exact Mh ab.out ck cm (by rw[a7.out];exact a6.out) (by rw[a7.out];exact hr)
       rw[hr] at kk
       replace kk:Calls _ 249 _ wr fun e w'=>e=a∧_:=kk
       have aa:=zH (HL.out.slip a4 b4.out ab.out E);have fi:((a:Int)==-1)=false:=by rw[bX];omega
       have fk:¬((a:Int)=-1):=ae;have Ww:J.length≤2001:=by have:=HL.out.2.2.2.1;omega
       clear hr E
       go_wp2_with (go_at_call 249;fail)
       go_at_call 249;refine kk.mono ?_;rintro e w4 ⟨rfl,av⟩;have b1:=zH (a1.out.below av);clear kk av a1 a9;have dj:=b1.out.rd.lt.2.2.1
       go_wp2_with (at_builtin;refine bO _ rfl _ _ 213 rfl _ 273 i9 _ 3 24 underlying213 HI.out.1 HI.out.2.1 HI.out.2.2.1 HI.out.2.2.2 rfl aA _ _ _ rfl (b1.out.os.alloc _) _ 1 1 [.int .i64 (k+1),a,j] rfl rfl ?_ ?_ ?_ ?_ ?_ ?_)
       all_goals first
        |exact eC _ _ _ _ _
        |(show ∀u∈[Value.int .i64 ((k:Int)+1),Value.int .i64 a,Value.int .i64 j],u.oneCell'=true;intro u hu;simp at hu;rcases hu with rfl|rfl|rfl<;>rfl)
        |(show J.length+1≤maxLen;unfold maxLen;omega)
        |(show(J.length+1)*24≤140737488355328;omega)
        |(show w1.heap.size≤(w4.alloc _).heap.size;simp;omega)
        |skip
       intro bk w5 M F _ a3
       have b7:=zH (b1.out.slip _ (k+1,a,j) M F (by
        rcases a3 with e|e
        ·exact Or.inl e
        ·exact Or.inr (by rw[e];simp)))
       clear M F a3 b1;go_wp2;go_roundg (l-(k+1))
       case measure=>omega
       case rel=>exact⟨_,good,_,_,I,Q,bk,rfl,ae,ae,by go_num,ae,b7,aa⟩
     ·have Vp:¬((j:Int)≤9):=ae
      have dp:j=10:=ae;have bd:∀i,2≤i→i<10→lat z f (G+1==1) du (I==20) i=none:=by rw[a7.out,←dp];exact a6.out
      have az:=R5 (fun i a b=>bd i a ae)
      have E:Tx.slip z Pv.aK (G==0) ((dr good).any fun x=>Tx.again (aH f) x.2) (I==20) (aH f)=none:=by
       rw[bq.out,←c3.out];exact Mg ab.out bd
      have aa:=zH (HL.out.kept a4 b4.out ab.out az E);obtain⟨g3,az⟩:=az;have Uf:=b8.out.1.below a9;have fu:=HL.out.2.2.1;have g0:=HL.out.2.2.2.2.2;have kt:=gQ rp _ I g vc _ _ (k+1) Q _ _ wr az (Hq bb.out) (by rw[dM];omega) (by rw[dM,dM];omega) ae ae a1.out.rd Uf
      have c7:Hid ((good.map fun g=>cQ z g.2)++[cQ z f]=(good++[(k+1,f)]).map fun g=>cQ z g.2):=by
       show _=_;rw[eY];rfl
      have dc:Hid ((good.map fun g=>cQ z g.2).map zG++[nW z f]=((good++[(k+1,f)]).map fun g=>cQ z g.2).map zG):=by
       show _=_;rw[eY,eY];rfl
      rw[c7.out,dc.out] at kt;generalize (if (wd f 0).toList==[114,101,113,117,105,114,101] then I+1 else I)=bm at*;clear E az Uf a7 bd
      go_wp2_with (go_at_call 250;fail)
      go_at_call 250;refine kt.mono ?_;rintro e w4 ⟨bn,rfl,bh,cc,aq⟩
      have b7:Hid (Rs z w1 rp w bn a0 ((good++[(k+1,f)]).map fun g=>cQ z g.2) J (G+1) bm w4):=by
       show Rs z w1 rp w.heap.size bn a0 _ J (G+1) bm w4;rw[←c7.out] at bh ⊢;exact a1.out.keep bh cc aq
      clear bh cc aq kt a1;go_wp2;go_roundg (l-(k+1))
      case measure=>omega
      case rel=>exact⟨_,_,J,_,bm,bn,a0,rfl,ae,ae,by go_num,ae,b7,aa⟩
  ·have cp:k=l:=ae
   have fD:¬(k<(l:Int)):=ae;have a8:=HL.out
   have Q6:(⟨dr good,J,G,I⟩)=R:=by
    have h:=a8.1;rw[cp,List.drop_length] at h;exact h
   have c9:wr.cell? (rp,1)=some (.string _):=(fdc S.out.rd.rd rfl).1;have ca:wr.cell? (rp,2)=G:=(fdc S.out.rd.rd rfl).1;have fm:wr.cell? (rp,5)=Q:=(fdc S.out.rd.rd rfl).1
   have bv:Hid (∀Y sl w',Rs z w1 rp w Q Y (good.map fun g=>cQ z g.2) sl G I w'→Fr (fun b=>b=rp) w w'∧w'.ownsRow w 273 3 Y sl (cy sl)):=fun Y sl w' hR=>by
    have h1:=bt.out;have h2:=hR.fr;refine⟨⟨h2.os.trans h1.os,h2.tape.trans h1.tape,h2.output.trans h1.output,aP h1.size h2.size,fun b hb hn=>?_⟩,hR.os.1,?_⟩
    ·rw[h2.block b (bU hb h1.size) (fun e=>ae)]
     exact h1.block b hb hn
    ·rcases hR.os.2 with hn|⟨g,cap,ak,hv,hg,rest⟩
     ·exact .inl hn
     ·exact .inr ⟨g,cap,ak,hv,b9.out g hg,rest⟩
   have HO:Hid (wr.ownsRow w 273 3 a0 J (cy J)∧wr.ownsRow w 329 4 Q good (fS (good.map fun g=>cQ z g.2))):=by
    have h1:=S.out.os;have h2:=S.out.rd.own;rw[dM] at h2;refine⟨⟨h1.1,?_⟩,⟨h2.1,?_⟩⟩
    ·rcases h1.2 with hn|⟨g,cap,ak,hv,hg,rest⟩
     ·exact .inl hn
     ·exact .inr ⟨g,cap,ak,hv,b9.out g hg,rest⟩
    ·rcases h2.2 with hn|⟨g,cap,ak,hv,hg,rest⟩
     ·exact .inl hn
     ·exact .inr ⟨g,cap,ak,hv,b9.out g hg,rest⟩
   have D:Hid (_∧_∧good.length≤2001∧J.length≤2001):=⟨Q6.symm,a8.2.1,by have:=a8.2.2.1;omega,by have:=a8.2.2.2.1;omega⟩;have cq:G=0→J=[]:=fun e=>lD (by have:=a8.2.2.2.1;omega)
   have g2:=aP bt.out.size S.out.fr.size;clear Q6 a8 HL cp;by_cases a5:z=false∧G=0
   ·obtain⟨rfl,a5⟩:=a5
    have E:=cq a5;simp only[opn,iV,dS] at c9;subst E;subst a5;clear cq;obtain⟨la,lc,rfl⟩:=aC HO.out.1;have dj:=S.out.rd.lt.2.2.1
    go_wp2_with (at_builtin;refine bO _ rfl _ _ 213 rfl _ 273 i9 _ 3 24 underlying213 HI.out.1 HI.out.2.1 HI.out.2.2.1 HI.out.2.2.2 rfl aA _ _ _ rfl (S.out.os.alloc _) _ 1 1 [.int .i64 0,.int .i64 0,.int .i64 2] rfl rfl ?_ ?_ ?_ ?_ ?_ ?_)
    all_goals first
     |exact eC _ _ _ _ _
     |(show ∀u∈[Value.int .i64 0,Value.int .i64 0,Value.int .i64 2],u.oneCell'=true;intro u hu;simp at hu;rcases hu with rfl|rfl|rfl<;>rfl)
     |exact⟨rfl,rfl⟩
     |(show w1.heap.size≤wr.heap.size+1;omega)
     |(show 0+1≤maxLen;unfold maxLen;omega)
     |(show(0+1)*24≤140737488355328;omega)
     |(show w1.heap.size≤(wr.alloc _).heap.size;simp;omega)
     |skip
    intro bk w5 M F _ a3
    have c8:=S.out.slip _ (0,0,2) M F (by
     rcases a3 with e|e
     ·exact Or.inl e
     ·exact Or.inr (by rw[e];simp))
    have ba:Hid (_∧w5.ownsRow _ 273 3 bk 1 (cy [_])):=bv.out _ _ _ c8;obtain⟨ma,mc,rfl⟩:=aC ba.out.2;clear M F a3 c8 S;go_wp2
    (try rw[dY])
    go_ret2;exact⟨good,[],0,I,_,_,rfl,D.out.1,D.out.2.1,D.out.2.2.1,D.out.2.2.2,ba.out.1,Or.inl ⟨aA,rfl,ba.out.2⟩⟩
   ·have b2:fN z G J=J:=au a5
    have b5:=zH b2;clear b2;have bs:=zH ((bv.out _ _ _ S.out).1);clear S;obtain⟨la,lc,rfl⟩:=aC HO.out.1;cases z
    all_goals
     simp only[opn,iV,fC,dS] at c9
     (try have Wx:((G:Int)==0)=false:=by rw[bX];simp at a5;omega)
     clear a5;by_cases E:J=[]
     ·subst E
      have ff:¬((([]:List (Nat×Nat×Nat)):Int)>0):=ah;go_wp2
      (try rw[dY])
      go_ret2;exact⟨good,[],G,I,_,_,rfl,D.out.1,D.out.2.1,D.out.2.2.1,D.out.2.2.2,bs.out,Or.inr ⟨b5.out,rfl,HO.out.2⟩⟩
     ·have ff:(0)<(J:Int):=by have:=eB.2 E;omega
      have db:=zH E;clear E;go_wp2
      (try rw[dY])
      go_ret2;exact⟨good,J,G,I,_,_,rfl,D.out.1,D.out.2.1,D.out.2.2.1,D.out.2.2.2,bs.out,Or.inl ⟨by rw[b5.out];exact db.out,rfl,by rw[b5.out];exact HO.out.1⟩⟩
