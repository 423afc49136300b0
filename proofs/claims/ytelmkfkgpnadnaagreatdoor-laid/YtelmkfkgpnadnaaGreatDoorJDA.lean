import Derived.Test.YtelmkfkgpnadnaaGreatDoorJWA
import Derived.Lib.AtoiErrMem
import Derived.Deep.LoopGhost
import Derived.Deep.QuietTactic
import Derived.BigQuiet
import Derived.Deep.RegionWith
import Derived.LoopN
set_option linter.all false
open Go.Proofs.Tryz
set_option maxHeartbeats 1000000
namespace Go.Proofs.YtelmkfkgpnadnaaGreatDoor
open Go.RowKit
namespace Dr
structure Below(B:Nat)(w w':World):Prop where
 kit:Go.RowKit.Below B w w'
 drawn:w.drawn≤w'.drawn
variable{B:Nat}{a b c w w':zW}
theorem Below.os(h:Below B w w'):w'.os=w.os:=h.kit.os
theorem Below.tape(h:Below B w w'):w'.tape=w.tape:=h.kit.tape
theorem Below.output(h:Below B w w'):w'.output=w.output:=h.kit.output
theorem Below.size(h:Below B w w'):w.heap.size≤w'.heap.size:=h.kit.size
theorem Below.block(h:Below B w w'):∀k,k<B→w'.heap[k]?=w.heap[k]?:=h.kit.block
theorem Below.refl(B:Nat)(w:zW):Below B w w:=⟨Go.RowKit.Below.refl B w,ag _⟩
theorem Below.trans(h:Below B a b)(k:Below B b c):Below B a c:=⟨h.kit.trans k.kit,aP h.drawn k.drawn⟩
theorem Below.mono{B':Nat}(h:Below B w w')(hB:B'≤B):Below B' w w':=⟨h.kit.mono hB,h.drawn⟩
theorem Below.drew(h:Below B a w):Below B a w.drew:=⟨h.kit.drew,aP h.drawn (cr _)⟩
theorem Below.heap_setCell(w:zW)(a:Addr)(u:zV)(k:Nat)(h:k≠a.block):(w.setCell a u).heap[k]?=w.heap[k]?:=Go.RowKit.Below.heap_setCell w a u k h
theorem Below.alloc(h:Below B a w)(hB:B≤w.heap.size)(o:Obj):Below B a (w.alloc o):=⟨h.kit.alloc hB o,h.drawn⟩
theorem Below.setCell(h:Below B a w){p:Addr}(hp:B≤p.block)(u:zV):Below B a (w.setCell p u):=⟨h.kit.setCell hp u,h.drawn⟩
theorem Below.cell(h:Below B w w'){p:Addr}(hp:p.block<B):w'.cell? p=w.cell? p:=h.kit.cell hp
theorem aZ(h:Below B a w)(q:Nat):Below B a (w.drewN q):=⟨⟨h.os,h.tape,h.output,h.size,h.block⟩,aP h.drawn (Nat.le_add_right _ _)⟩
theorem bytesWorld_below(w:zW)(e:TypeId)(s:zA):Below w.heap.size w (Lib.bytesWorld w e s):=⟨Lib.bytesWorld_below w e s,cr _⟩
theorem Below.grow(h:Below w.heap.size w w'):∃q os,w'=Go.Sort.grow (w.drewN q) os:=by
 refine⟨w'.drawn-w.drawn,w'.heap.extract w.heap.size w'.heap.size,?_⟩;have hd:=h.drawn
 have hh:w'.heap=w.heap++w'.heap.extract w.heap.size w'.heap.size:=by
  apply Array.ext
  ·simp;have:=h.size;omega
  ·intro i hi hi'
   by_cases hlt:i<w.heap.size
   ·rw[Array.getElem_append_left hlt]
    have e:=h.block i hlt;rw[ot hi,ot hlt] at e;injection e
   ·rw[Array.getElem_append_right (by omega),Array.getElem_extract]
    congr 1
    omega
 cases w with
 |mk heap tape drawn os output=>
 cases w' with
 |mk heap' tape' R1 os' RS=>
 have h1:=h.os;have h2:=h.tape;have h3:=h.output;simp only at h1 h2 h3 hd hh;subst h1 h2 h3;simp only[Go.Sort.grow,World.drewN,World.mk.injEq,true_and,fS];exact⟨hh,by omega⟩
end Dr
namespace Dr
theorem fG(s:zA)(w:zW)(h:Pv.isNum s.data.toList=true)(hs:s.size≤8):
  zC 243 #[.string s] w fun e w'=>e=.returned (zI (Pv.val s.data.toList))∧Below w.heap.size w w':=by
 have k:=Tryz.strconv_Atoi s (Pv.val s.data.toList) (by omega) (Pv.JA h) w;generalize (Pv.val s.data.toList:Int)=v at k;clear h;go_enter func243,ntmps243
 go_wp2_with (go_at_call 291;refine k.mono ?_;rintro e w' ⟨rfl,t,hw⟩;have hb:Below w.heap.size w w':=(by rw[hw];exact bytesWorld_below _ _ _);clear hw)
 go_ret;exact⟨rfl,hb⟩
theorem nt(a b:zA)(w:zW)(ha:a.size≤8)(hb:b.size≤8):
  zC 268 #[.string a,.string b] w fun e w'=>e=.returned (zI (Pv.iE a.data.toList b.data.toList))∧Below w.heap.size w w':=by
 have k1:=fun w=>fE a w (by unfold maxLen;omega)
 have k2:=fun w=>fE b w (by unfold maxLen;omega)
 have kc:=Tryz.strings_Compare a b;unfold Pv.iE;cases h1:Pv.isNum a.data.toList
 ·cases h2:Pv.isNum b.data.toList
  ·simp only[h1] at k1
   simp only[h2] at k2;generalize hr:Lib.compareBytes a.data.toList b.data.toList=r at kc;rw[show(if (false&&false)=true then Lib.compareInt (Pv.val a.data.toList) (Pv.val b.data.toList) else if false=true then -1 else if false=true then 1 else r)=r from rfl];clear hr h1 h2;go_enter func268,ntmps268
   go_wp2_with (go_at_call 242;fail)
   go_at_call 242;refine(k1 _).mono ?_;rintro e w' ⟨rfl,rfl⟩
   go_wp2_with (first|(go_at_call 242;refine(k2 _).mono ?_;rintro e w' ⟨rfl,rfl⟩)|(go_at_call 176;refine(kc _).mono ?_;rintro e w' ⟨rfl,rfl⟩))
   go_ret;exact⟨rfl,Below.refl _ _⟩
  ·simp only[h1] at k1
   simp only[h2] at k2;rw[show(if (false&&true)=true then Lib.compareInt (Pv.val a.data.toList) (Pv.val b.data.toList) else if false=true then -1 else if true=true then 1 else Lib.compareBytes a.data.toList b.data.toList)=1 from rfl];clear h1 h2;go_enter func268,ntmps268
   go_wp2_with (go_at_call 242;fail)
   go_at_call 242;refine(k1 _).mono ?_;rintro e w' ⟨rfl,rfl⟩
   go_wp2_with (first|(go_at_call 242;refine(k2 _).mono ?_;rintro e w' ⟨rfl,rfl⟩))
   go_ret;exact⟨rfl,Below.refl _ _⟩
 ·cases h2:Pv.isNum b.data.toList
  ·simp only[h1] at k1
   simp only[h2] at k2;rw[show(if (true&&false)=true then Lib.compareInt (Pv.val a.data.toList) (Pv.val b.data.toList) else if true=true then -1 else if false=true then 1 else Lib.compareBytes a.data.toList b.data.toList)=-1 from rfl];clear h1 h2;go_enter func268,ntmps268
   go_wp2_with (go_at_call 242;fail)
   go_at_call 242;refine(k1 _).mono ?_;rintro e w' ⟨rfl,rfl⟩
   go_wp2_with (first|(go_at_call 242;refine(k2 _).mono ?_;rintro e w' ⟨rfl,rfl⟩))
   go_ret;exact⟨rfl,Below.refl _ _⟩
  ·have n1:=fun w=>fG a w h1 ha
   have n2:=fun w=>fG b w h2 hb
   simp only[h1] at k1;simp only[h2] at k2;rw[show(if (true&&true)=true then Lib.compareInt (Pv.val a.data.toList) (Pv.val b.data.toList) else if true=true then -1 else if true=true then 1 else Lib.compareBytes a.data.toList b.data.toList)=Lib.compareInt (Pv.val a.data.toList) (Pv.val b.data.toList) from rfl];generalize (Pv.val a.data.toList:Int)=x at n1;generalize (Pv.val b.data.toList:Int)=y at n2;have kcc:=Tryz.cmp_Compare_int x y;generalize Lib.compareInt x y=r at kcc;clear h1 h2;go_enter func268,ntmps268
   go_wp2_with (go_at_call 242;fail)
   go_at_call 242;refine(k1 _).mono ?_;rintro e w' ⟨rfl,rfl⟩
   go_wp2_with (go_at_call 242;refine(k2 _).mono ?_;rintro e w' ⟨rfl,rfl⟩)
   refine(n1 _).mono ?_;rintro e w1 ⟨rfl,hb1⟩
   go_wp2_with (first|(go_at_call 243;refine(n2 _).mono ?_;rintro e w2 ⟨rfl,hb2⟩)|(go_at_call 196;refine(kcc _).mono ?_;rintro e w3 ⟨rfl,rfl⟩))
   go_ret;exact⟨rfl,hb1.trans (hb2.mono hb1.size)⟩
theorem zw(f:List UInt8→List UInt8→Int)(l m:List (List UInt8))(k:Nat)(h:k<l.length)(h':k<m.length):Pv.cmpL f (l.drop k) (m.drop k)=if f l[k]! m[k]! =0 then Pv.cmpL f (l.drop (k+1)) (m.drop (k+1)) else f l[k]! m[k]!:=by
 rw[dt h,dt h',Pv.cmpL,bC l k h,bC m k h']
theorem GJ(f:List UInt8→List UInt8→Int)(l m:List (List UInt8))(k:Nat)(h:k<l.length)(h':m.length≤k):Pv.cmpL f (l.drop k) (m.drop k)=1:=by
 rw[dt h,mI h',Pv.cmpL]
theorem Es(f:List UInt8→List UInt8→Int)(l m:List (List UInt8))(k:Nat)(h:l.length≤k)(h':k<m.length):Pv.cmpL f (l.drop k) (m.drop k)=-1:=by
 rw[dt h',mI h,Pv.cmpL]
theorem zx(f:List UInt8→List UInt8→Int)(l m:List (List UInt8))(k:Nat)(h:l.length≤k)(h':m.length≤k):Pv.cmpL f (l.drop k) (m.drop k)=0:=by
 rw[mI h,mI h',Pv.cmpL]
theorem vJ(l m:List (List UInt8))(b b' c c':Nat)(w:zW)(hl:l.length=3)(hm:m.length=3)
  (hc:∀j,j<3→w.cell? ⟨b,j,none⟩=some (zI (Pv.val l[j]!))) (hc':∀j,j<3→w.cell? ⟨b',j,none⟩=some (zI (Pv.val m[j]!))):
  zC 265 #[.slice (some ⟨b,0,none⟩) 3 c,.slice (some ⟨b',0,none⟩) 3 c'] w fun e w'=>e=.returned (zI (Pv.cmpL Pv.jT l m))∧w'=w:=by
 generalize hr:Pv.cmpL Pv.jT l m=r;have HR:Hid (Pv.cmpL Pv.jT (l.drop 0) (m.drop 0)=r):=hr;clear hr;have HL:Hid (l.length=3):=hl;have HM:Hid (m.length=3):=hm;clear hl hm;have HC:Hid (∀j,j<3→w.cell? ⟨b,j,none⟩=some (zI (Pv.val l[j]!))):=hc;have HC':Hid (∀j,j<3→w.cell? ⟨b',j,none⟩=some (zI (Pv.val m[j]!))):=hc';clear hc hc';go_enter func265,ntmps265;go_wp2;go_loopg [11] 3 (fun gg s11 wr=>∃k:Nat,k≤3∧3-k≤gg∧s11=zI k∧wr=w∧Hid (Pv.cmpL Pv.jT (l.drop k) (m.drop k)=r))
 case atStart=>exact⟨0,by omega,by omega,rfl,rfl,HR⟩
 case round=>
  obtain⟨k,hk,hg,rfl,rfl,A⟩:=hrel;by_cases hlt:k<3
  ·have hcell:=HC.out k hlt
   have Et:=HC'.out k hlt;have hb:=zw Pv.jT l m k (by rw[HL.out];exact hlt) (by rw[HM.out];exact hlt);rw[A.out] at hb;unfold Pv.jT at hb;generalize (Pv.val l[k]!:Int)=x at hcell hb;generalize (Pv.val m[k]!:Int)=y at Et hb;have kcc:=Tryz.cmp_Compare_int x y;generalize Lib.compareInt x y=q at kcc hb;have HB:Hid (r=if q=0 then Pv.cmpL Pv.jT (l.drop (k+1)) (m.drop (k+1)) else q):=hb;clear hb;by_cases hq:q=0
   ·subst hq
    have HN:Hid (Pv.cmpL Pv.jT (l.drop (k+1)) (m.drop (k+1))=r):=by have:=HB.out;rw[ah rfl] at this;exact this.symm
    clear HB
    go_wp2_with (go_at_call 196;refine(kcc _).mono ?_;rintro e w3 ⟨rfl,rfl⟩)
    go_roundg (3-(k+1))
    case measure=>omega
    case rel=>exact⟨k+1,by omega,by omega,by go_num,rfl,HN⟩
   ·have hq':(q !=0)=true:=by simpa using hq
    have HQ:Hid (r=q):=by have:=HB.out;rw[af hq] at this;exact this
    clear hq HB
    go_wp2_with (go_at_call 196;refine(kcc _).mono ?_;rintro e w3 ⟨rfl,rfl⟩)
    go_ret;exact⟨gh HQ.out.symm,rfl⟩
  ·have he:k=3:=by omega
   subst he;have h0:=zx Pv.jT l m 3 (by rw[HL.out];omega) (by rw[HM.out];omega);rw[A.out] at h0;have H0:Hid (r=0):=h0;clear h0;go_wp2;go_ret;exact⟨gh H0.out.symm,rfl⟩
theorem tW(l m:List zA)(b b' c c':Nat)(w:zW)(hl8:l.length≤4)(hm8:m.length≤4)(hb:b<w.heap.size)(hb':b'<w.heap.size)
  (hl:∀x∈l,x.size≤8) (hm:∀x∈m,x.size≤8)
  (hc:∀j,j<l.length→w.cell? ⟨b,j,none⟩=some (.string l[j]!)) (hc':∀j,j<m.length→w.cell? ⟨b',j,none⟩=some (.string m[j]!)):
  zC 267 #[.slice (some ⟨b,0,none⟩) l.length c,.slice (some ⟨b',0,none⟩) m.length c',.func (.func 268) #[] #[]] w fun e w'=>e=.returned (zI (Pv.cmpL Pv.iE (l.map (·.data.toList)) (m.map (·.data.toList))))∧Below w.heap.size w w':=by
 generalize hr:Pv.cmpL Pv.iE (l.map (·.data.toList)) (m.map (·.data.toList))=r;generalize hL:l.map (·.data.toList)=L at hr;generalize hM:m.map (·.data.toList)=M at hr;generalize hnl:l.length=nl at*;generalize hnm:m.length=nm at*;have HR:Hid (Pv.cmpL Pv.iE (L.drop 0) (M.drop 0)=r):=hr;clear hr;have HL:Hid (L.length=nl):=by show L.length=nl;rw[←hL];simpa using hnl
 have HM:Hid (M.length=nm):=by show M.length=nm;rw[←hM];simpa using hnm
 have HLE:Hid (∀j,j<nl→L[j]! =l[j]!.data.toList∧l[j]!.size≤8):=by
  intro j hj;have h1:j<l.length:=by omega
  have h2:j<L.length:=by rw[HL.out];exact hj
  rw[bC l j h1,bC L j h2];refine⟨?_,hl _ (bL h1)⟩;subst hL;simp
 have HME:Hid (∀j,j<nm→M[j]! =m[j]!.data.toList∧m[j]!.size≤8):=by
  intro j hj;have h1:j<m.length:=by omega
  have h2:j<M.length:=by rw[HM.out];exact hj
  rw[bC m j h1,bC M j h2];refine⟨?_,hm _ (bL h1)⟩;subst hM;simp
 have HC:Hid (∀j,j<nl→w.cell? ⟨b,j,none⟩=some (.string l[j]!)):=hc;have HC':Hid (∀j,j<nm→w.cell? ⟨b',j,none⟩=some (.string m[j]!)):=hc';clear hc hc' hL hM hnl hnm hl hm;go_enter func267,ntmps267;go_wp2;go_loopg [13] nl (fun gg s13 wr=>∃k:Nat,k≤nl∧k≤nm∧nl-k≤gg∧s13=zI k∧Below w.heap.size w wr∧Hid (Pv.cmpL Pv.iE (L.drop k) (M.drop k)=r))
 case atStart=>exact⟨0,by omega,by omega,by omega,rfl,Below.refl _ _,HR⟩
 case round=>
  obtain⟨k,hk,hk',hg,rfl,hbw,A⟩:=hrel;by_cases hlt:k<nl
  ·have hcell:wr.cell? ⟨b,k,none⟩=some (.string l[k]!):=by rw[hbw.cell (p:=⟨b,k,none⟩) hb];exact HC.out k hlt
   by_cases A6:k<nm
   ·have Et:wr.cell? ⟨b',k,none⟩=some (.string m[k]!):=by rw[hbw.cell (p:=⟨b',k,none⟩) hb'];exact HC'.out k A6
    have hbo:=zw Pv.iE L M k (by rw[HL.out];exact hlt) (by rw[HM.out];exact A6);rw[A.out,(HLE.out k hlt).1,(HME.out k A6).1] at hbo;have kcc:=fun w=>nt l[k]! m[k]! w (HLE.out k hlt).2 (HME.out k A6).2
    generalize Pv.iE l[k]!.data.toList m[k]!.data.toList=q at kcc hbo;generalize l[k]! =x at hcell kcc;generalize m[k]! =y at Et kcc;by_cases hq:q=0
    ·subst hq
     have HN:Hid (Pv.cmpL Pv.iE (L.drop (k+1)) (M.drop (k+1))=r):=by have:=hbo;rw[ah rfl] at this;exact this.symm
     clear hbo
     go_wp2_with (go_at_call 268;refine(kcc _).mono ?_;rintro e w3 ⟨rfl,hb3⟩)
     go_roundg (nl-(k+1))
     case measure=>omega
     case rel=>exact⟨k+1,by omega,by omega,by omega,by go_num,hbw.trans (hb3.mono hbw.size),HN⟩
    ·have hq':(q !=0)=true:=by simpa using hq
     have HQ:Hid (r=q):=by have:=hbo;rw[af hq] at this;exact this
     clear hq hbo
     go_wp2_with (go_at_call 268;refine(kcc _).mono ?_;rintro e w3 ⟨rfl,hb3⟩)
     go_ret;exact⟨gh HQ.out.symm,hbw.trans (hb3.mono hbw.size)⟩
   ·have h1:=GJ Pv.iE L M k (by rw[HL.out];exact hlt) (by rw[HM.out];omega)
    rw[A.out] at h1;have H1:Hid (r=1):=h1;clear h1;go_wp2;go_ret;exact⟨gh H1.out.symm,hbw⟩
  ·have he:k=nl:=by omega
   subst he;by_cases A6:k<nm
   ·have h1:=Es Pv.iE L M k (by rw[HL.out];omega) (by rw[HM.out];exact A6)
    rw[A.out] at h1;have H1:Hid (r=-1):=h1;clear h1;go_wp2;go_ret;exact⟨gh H1.out.symm,hbw⟩
   ·have h1:=zx Pv.iE L M k (by rw[HL.out];omega) (by rw[HM.out];omega)
    rw[A.out] at h1;have H1:Hid (r=0):=h1;clear h1;go_wp2;go_ret;exact⟨gh H1.out.symm,hbw⟩
end Dr
namespace Dr
theorem eD(a b c:zV)(ad:Option Addr)(n k:Nat)(w:zW):
  zC 266 #[.agg #[a,b,c,.slice ad n k]] w fun e w'=>e=.returned (.bool (decide (0<n)))∧w'=w.alloc (.cells #[a,b,c,.slice ad n k] 251):=by
 by_cases h:0<n
 ·rw[cT h]
  go_enter func266,ntmps266;go_wp2;go_ret;exact⟨rfl,rfl⟩
 ·rw[bK h]
  go_enter func266,ntmps266;go_wp2;go_ret;exact⟨rfl,rfl⟩
theorem wN(fv:zV)(w:zW):
  zC 267 #[zN,zN,fv] w fun e w'=>e=.returned (zI 0)∧w'=w:=by
 go_enter func267,ntmps267;go_wp2;go_loopg [13] 0 (fun _ s13 wr=>s13=zI 0∧wr=w)
 case atStart=>exact⟨rfl,rfl⟩
 case round=>
  obtain⟨rfl,rfl⟩:=hrel;go_wp2;go_ret;exact⟨rfl,rfl⟩
def Two(x0 x1 x2 y0 y1 y2:Int)(r0:Int):Prop:=∀(b b':Nat)(W:zW),(W.cell? ⟨b,0,none⟩=some (zI x0)∧W.cell? ⟨b,1,none⟩=some (zI x1)∧W.cell? ⟨b,2,none⟩=some (zI x2))→(W.cell? ⟨b',0,none⟩=some (zI y0)∧W.cell? ⟨b',1,none⟩=some (zI y1)∧W.cell? ⟨b',2,none⟩=some (zI y2))→
 zC 265 #[.slice (some ⟨b,0,none⟩) 3 3,.slice (some ⟨b',0,none⟩) 3 3] W fun e w'=>e=.returned (zI r0)∧w'=W
theorem OQ(p q s p' q' s':List UInt8):Two (Pv.val p) (Pv.val q) (Pv.val s) (Pv.val p') (Pv.val q') (Pv.val s') (Pv.cmpL Pv.jT [p,q,s] [p',q',s']):=by
 intro b b' W h h';refine vJ [p,q,s] [p',q',s'] b b' 3 3 W rfl rfl ?_ ?_
 ·intro j hj
  match j,hj with
  |0,_=>exact h.1
  |1,_=>exact h.2.1
  |2,_=>exact h.2.2
 ·intro j hj
  match j,hj with
  |0,_=>exact h'.1
  |1,_=>exact h'.2.1
  |2,_=>exact h'.2.2
theorem yR(x0 x1 x2 y0 y1 y2 r0:Int)(h2:Two x0 x1 x2 y0 y1 y2 r0)(hr:(r0 !=0)=true)(sa sb:zV)(w:zW):
  zC 210 #[.agg #[zI x0,zI x1,zI x2,sa],.agg #[zI y0,zI y1,zI y2,sb]] w fun e w'=>e=.returned (zI r0)∧Below w.heap.size w w':=by
 have kc:∀n,zC 265 #[.slice (some ⟨w.heap.size,0,none⟩) 3 3,.slice (some ⟨w.heap.size+1,0,none⟩) 3 3] (((w.alloc (.cells #[zI x0,zI x1,zI x2,sa] 251)).alloc (.cells #[zI y0,zI y1,zI y2,sb] 251)).drewN n) fun e w'=>e=.returned (zI r0)∧w'=(((w.alloc (.cells #[zI x0,zI x1,zI x2,sa] 251)).alloc (.cells #[zI y0,zI y1,zI y2,sb] 251)).drewN n):=fun n=>h2 _ _ _ (by simp[go_sem]) (by simp[go_sem])
 clear h2;go_enter func210,ntmps210;go_wp2;go_quiet ((go_at_call 265;exact Calls.quiet_of_same (kc _)));go_wp2;go_ret;exact⟨rfl,(((Below.refl _ _).alloc (ag _) _).alloc (by simp) _).trans (aZ (Below.refl _ _) _)⟩
theorem qz(x0 x1 x2 y0 y1 y2:Int)(h2:Two x0 x1 x2 y0 y1 y2 0)(ad ad':Option Addr)(n k n' k':Nat)(w:zW)(hd:decide (0<n)=decide (0<n'))(r1:Int)
  (kl:∀W',Below w.heap.size w W'→zC 267 #[.slice ad n k,.slice ad' n' k',.func (.func 268) #[] #[]] W' fun e w'=>e=.returned (zI r1)∧Below W'.heap.size W' w'):
  zC 210 #[.agg #[zI x0,zI x1,zI x2,.slice ad n k],.agg #[zI y0,zI y1,zI y2,.slice ad' n' k']] w fun e w'=>e=.returned (zI r1)∧Below w.heap.size w w':=by
 have kc:∀m,zC 265 #[.slice (some ⟨w.heap.size,0,none⟩) 3 3,.slice (some ⟨w.heap.size+1,0,none⟩) 3 3] (((w.alloc (.cells #[zI x0,zI x1,zI x2,.slice ad n k] 251)).alloc (.cells #[zI y0,zI y1,zI y2,.slice ad' n' k'] 251)).drewN m) fun e w'=>e=.returned (zI 0)∧w'=(((w.alloc (.cells #[zI x0,zI x1,zI x2,.slice ad n k] 251)).alloc (.cells #[zI y0,zI y1,zI y2,.slice ad' n' k'] 251)).drewN m):=fun n=>h2 _ _ _ (by simp[go_sem]) (by simp[go_sem])
 have k1:=fun w=>eD (zI x0) (zI x1) (zI x2) ad n k w
 have k2:=fun w=>eD (zI y0) (zI y1) (zI y2) ad' n' k' w
 rw[←hd] at k2;generalize decide (0<n)=p at k1 k2;clear h2 hd;go_enter func210,ntmps210;go_wp2;go_quiet ((go_at_call 265;exact Calls.quiet_of_same (kc _)));go_wp2
 go_region_with (first|(go_at_call_of 266 x0;refine(k1 _).mono ?_;rintro e w' ⟨rfl,rfl⟩)|(go_at_call_of 266 y0;refine(k2 _).mono ?_;rintro e w' ⟨rfl,rfl⟩))
 all_goals
  go_wp2_with (go_at_call 267;fail)
  go_at_call 267;refine(kl _ ?hb).mono ?_
  case hb=>repeat (first|exact Below.refl _ _|refine Below.drew ?_|refine aZ ?_ _|refine Below.alloc ?_ (by first|(simp;done)|(simp;omega)|omega) _)
  rintro e w' ⟨rfl,hb'⟩;go_wp2;go_ret;refine⟨rfl,Below.trans ?_ (hb'.mono ?_)⟩
  ·repeat (first|exact Below.refl _ _|refine Below.drew ?_|refine aZ ?_ _|refine Below.alloc ?_ (by first|(simp;done)|(simp;omega)|omega) _)
  ·first|(simp;done)|(simp;omega)
end Dr
namespace Dr
theorem wO(x0 x1 x2 y0 y1 y2:Int)(h2:Two x0 x1 x2 y0 y1 y2 0)(ad ad':Option Addr)(n k n' k':Nat)(w:zW)(hn:0<n)(hn':n'=0):
  zC 210 #[.agg #[zI x0,zI x1,zI x2,.slice ad n k],.agg #[zI y0,zI y1,zI y2,.slice ad' n' k']] w fun e w'=>e=.returned (zI (-1))∧Below w.heap.size w w':=by
 have kc:∀m,zC 265 #[.slice (some ⟨w.heap.size,0,none⟩) 3 3,.slice (some ⟨w.heap.size+1,0,none⟩) 3 3] (((w.alloc (.cells #[zI x0,zI x1,zI x2,.slice ad n k] 251)).alloc (.cells #[zI y0,zI y1,zI y2,.slice ad' n' k'] 251)).drewN m) fun e w'=>e=.returned (zI 0)∧w'=(((w.alloc (.cells #[zI x0,zI x1,zI x2,.slice ad n k] 251)).alloc (.cells #[zI y0,zI y1,zI y2,.slice ad' n' k'] 251)).drewN m):=fun n=>h2 _ _ _ (by simp[go_sem]) (by simp[go_sem])
 have k1:=fun w=>eD (zI x0) (zI x1) (zI x2) ad n k w
 have k2:=fun w=>eD (zI y0) (zI y1) (zI y2) ad' n' k' w
 rw[cT hn] at k1;rw[bK (by omega:¬0<n')] at k2;clear h2 hn hn';go_enter func210,ntmps210;go_wp2;go_quiet ((go_at_call 265;exact Calls.quiet_of_same (kc _)));go_wp2
 go_region_with (first|(go_at_call_of 266 x0;refine(k1 _).mono ?_;rintro e w' ⟨rfl,rfl⟩)|(go_at_call_of 266 y0;refine(k2 _).mono ?_;rintro e w' ⟨rfl,rfl⟩))
 all_goals
  go_wp2_with (go_at_call 266;refine(k1 _).mono ?_;rintro e w' ⟨rfl,rfl⟩)
  go_ret;refine⟨rfl,?_⟩
  repeat (first|exact Below.refl _ _|refine Below.drew ?_|refine aZ ?_ _|refine Below.alloc ?_ (by first|(simp;done)|(simp;omega)|omega) _)
theorem vK(x0 x1 x2 y0 y1 y2:Int)(h2:Two x0 x1 x2 y0 y1 y2 0)(ad ad':Option Addr)(n k n' k':Nat)(w:zW)(hn:n=0)(hn':0<n'):
  zC 210 #[.agg #[zI x0,zI x1,zI x2,.slice ad n k],.agg #[zI y0,zI y1,zI y2,.slice ad' n' k']] w fun e w'=>e=.returned (zI 1)∧Below w.heap.size w w':=by
 have kc:∀m,zC 265 #[.slice (some ⟨w.heap.size,0,none⟩) 3 3,.slice (some ⟨w.heap.size+1,0,none⟩) 3 3] (((w.alloc (.cells #[zI x0,zI x1,zI x2,.slice ad n k] 251)).alloc (.cells #[zI y0,zI y1,zI y2,.slice ad' n' k'] 251)).drewN m) fun e w'=>e=.returned (zI 0)∧w'=(((w.alloc (.cells #[zI x0,zI x1,zI x2,.slice ad n k] 251)).alloc (.cells #[zI y0,zI y1,zI y2,.slice ad' n' k'] 251)).drewN m):=fun n=>h2 _ _ _ (by simp[go_sem]) (by simp[go_sem])
 have k1:=fun w=>eD (zI x0) (zI x1) (zI x2) ad n k w
 have k2:=fun w=>eD (zI y0) (zI y1) (zI y2) ad' n' k' w
 rw[bK (by omega:¬0<n)] at k1;rw[cT hn'] at k2;clear h2 hn hn';go_enter func210,ntmps210;go_wp2;go_quiet ((go_at_call 265;exact Calls.quiet_of_same (kc _)));go_wp2
 go_region_with (first|(go_at_call_of 266 x0;refine(k1 _).mono ?_;rintro e w' ⟨rfl,rfl⟩)|(go_at_call_of 266 y0;refine(k2 _).mono ?_;rintro e w' ⟨rfl,rfl⟩))
 all_goals
  go_wp2_with (go_at_call 266;refine(k1 _).mono ?_;rintro e w' ⟨rfl,rfl⟩)
  go_ret;refine⟨rfl,?_⟩
  repeat (first|exact Below.refl _ _|refine Below.drew ?_|refine aZ ?_ _|refine Below.alloc ?_ (by first|(simp;done)|(simp;omega)|omega) _)
def kL(w:zW)(v:zV)(ids:List zA):Prop:=
 (ids=[]∧v=zN)∨∃b c,v=.slice (some ⟨b,0,none⟩) ids.length c∧ids≠[]∧b<w.heap.size∧∀j,j<ids.length→w.cell? ⟨b,j,none⟩=some (.string ids[j]!)
theorem kL.below{w w':zW}{v:zV}{ids:List zA}(h:kL w v ids)(hb:Below w.heap.size w w'):kL w' v ids:=by
 rcases h with h|⟨b,c,h1,h2,h3,h4⟩
 ·exact Or.inl h
 ·exact Or.inr ⟨b,c,h1,h2,bI h3 hb.size,fun j hj=>by rw[hb.cell (p:=⟨b,j,none⟩) h3];exact h4 j hj⟩
theorem wQ(p q s p' q' s':List UInt8)(ids Eu:List zA)(sl sl':zV)(w:zW)(h:kL w sl ids)(h':kL w sl' Eu)(hl:ids.length≤4)(hl':Eu.length≤4)(hz:∀x∈ids,x.size≤8)(hz':∀x∈Eu,x.size≤8):
  zC 210 #[.agg #[zI (Pv.val p),zI (Pv.val q),zI (Pv.val s),sl],.agg #[zI (Pv.val p'),zI (Pv.val q'),zI (Pv.val s'),sl']] w fun e w'=>e=.returned (zI (Pv.nW ([p,q,s],ids.map (·.data.toList)) ([p',q',s'],Eu.map (·.data.toList))))∧Below w.heap.size w w':=by
 have h2:=OQ p q s p' q' s';unfold Pv.nW
 dsimp only
 by_cases hr:Pv.cmpL Pv.jT [p,q,s] [p',q',s']=0
 ·rw[ah hr]
  rw[hr] at h2;simp only[bE];rcases h with⟨rfl,rfl⟩|⟨b,c,rfl,hne,hb,hc⟩
  ·rcases h' with⟨rfl,rfl⟩|⟨b',c',rfl,JM,hb',hc'⟩
   ·exact qz _ _ _ _ _ _ h2 none none 0 0 0 0 w rfl 0 (fun W' _=>(wN _ W').mono (by rintro e w' ⟨rfl,rfl⟩;exact⟨rfl,Below.refl _ _⟩))
   ·have hpos:0<Eu.length:=gp.2 JM
    rw[af (by simp;omega),af (by simp)];exact vK _ _ _ _ _ _ h2 _ _ 0 0 _ _ w rfl hpos
  ·have hpos:0<ids.length:=gp.2 hne
   rcases h' with⟨rfl,rfl⟩|⟨b',c',rfl,JM,hb',hc'⟩
   ·rw[af (by simp;omega),ah hpos]
    exact wO _ _ _ _ _ _ h2 _ _ _ _ 0 0 w hpos rfl
   ·have Oo:0<Eu.length:=gp.2 JM
    rw[ah (by simp[hpos,Oo])];refine qz _ _ _ _ _ _ h2 _ _ _ _ _ _ w (by simp[hpos,Oo]) _ (fun W' hbw=>?_);exact tW ids Eu b b' c c' W' hl hl' (bI hb hbw.size) (bI hb' hbw.size) hz hz' (fun j hj=>by rw[hbw.cell (p:=⟨b,j,none⟩) hb];exact hc j hj) (fun j hj=>by rw[hbw.cell (p:=⟨b',j,none⟩) hb'];exact hc' j hj)
 ·rw[af hr]
  exact yR _ _ _ _ _ _ _ h2 (by simpa using hr) sl sl' w
end Dr
namespace Dr
def Ml(w:zW):Prop:=∃m,w.cell? ⟨0,0,none⟩=some (zI m)
theorem Ml.pos{w:zW}(h:Ml w):0<w.heap.size:=by
 obtain⟨m,h⟩:=h;apply mN;intro hc;have:w.heap[0]?=none:=Array.getElem?_eq_none (by omega);simp[World.cell?,this] at h
theorem Ml.below{w w':zW}(h:Ml w)(hb:Below w.heap.size w w'):Ml w':=by
 have hp:=h.pos;obtain⟨m,h⟩:=h;exact⟨m,by rw[hb.cell (p:=⟨0,0,none⟩) hp];exact h⟩
theorem spl_len(c:UInt8):∀(l:List UInt8),∀x∈Pv.spl c l,x.length≤l.length
 |[],x,h=>by simp[Pv.spl] at h;simp[h]
 |b::t,x,h=>by
  have ih:=spl_len c t;unfold Pv.spl at h
  split at h
  ·rcases aV.1 h with rfl|h
   ·simp
   ·have:=ih x h;simp;omega
  ·split at h
   ·simp at h;simp[h]
   ·rename_i p ps e
    rw[e] at ih;rcases aV.1 h with rfl|h
    ·have:=ih p (by simp);simp;omega
    ·have:=ih x (by simp[h]);simp;omega
theorem pR(s:zA)(hs:s.size<4294967281):∃l:List zA,l.map (·.data.toList)=Pv.spl 46 s.data.toList∧(∀x∈l,x.size≤s.size)∧
  ∀w:zW,Ml w→zC 122 #[.string s,.string ⟨#[46]⟩] w fun e w'=>e=.returned (.slice (some ⟨w.heap.size,0,none⟩) l.length l.length)∧w'=w.alloc (.cells (l.map Value.string).toArray 9):=by
 have h1:1≤(⟨#[46]⟩:zA).size:=by decide
 refine⟨Lib.splitB ⟨#[46]⟩ 0 (Lib.countB s ⟨#[46]⟩) s,Pv.mV s ⟨#[46]⟩ 46 rfl,?_,?_⟩
 ·intro x hx
  have hm:x.data.toList∈Pv.spl 46 s.data.toList:=by
   rw[←Pv.mV s ⟨#[46]⟩ 46 rfl];exact List.mem_map_of_mem hx
  have:=spl_len 46 _ _ hm;rw[←bT,←bT] at this;exact this
 ·rintro w ⟨m,hm⟩
  have k:=Tryz.strings_Split s ⟨#[46]⟩ m w hs hm h1;rw[Lib.splitB_all ⟨#[46]⟩ h1 0 _ s rfl];exact k
theorem tX(s:zA)(l:List zA)(w:zW)(hl:((l.length:Int) !=3)=true)
  (k:∀W:zW,Below w.heap.size w W→zC 122 #[.string s,.string ⟨#[46]⟩] W fun e w'=>e=.returned (.slice (some ⟨W.heap.size,0,none⟩) l.length l.length)∧w'=W.alloc (.cells (l.map Value.string).toArray 9)):
  zC 198 #[.string s] w fun e w'=>e=.returned (.tuple #[.agg #[zI 0,zI 0,zI 0],.bool false])∧Below w.heap.size w w':=by
 have k:=k ((w.alloc (.cells #[zI 0,zI 0,zI 0] 249)).alloc (.cells #[zI 0,zI 0,zI 0] 249)) (((Below.refl _ _).alloc (ag _) _).alloc (by simp) _);go_enter func198,ntmps198
 go_wp2_with (go_at_call 122;refine k.mono ?_;rintro e w' ⟨rfl,rfl⟩)
 exact aI (v:=.tuple #[.agg #[zI 0,zI 0,zI 0],.bool false]) (by simp[results,results198,go_sem]) rfl ⟨rfl,(((Below.refl _ _).alloc (ag _) _).alloc (by simp) _).alloc (by simp;omega) _⟩
theorem cells3{w:zW}{b:Nat}{a0 a1 a2:zV}{t:TypeId}(h:w.heap[b]?=some (.cells #[a0,a1,a2] t)):(w.cell? ⟨b,0,none⟩=some a0∧w.cell? ⟨b,1,none⟩=some a1∧w.cell? ⟨b,2,none⟩=some a2)∧(w.frozen? ⟨b,0,none⟩=false∧w.frozen? ⟨b,1,none⟩=false∧w.frozen? ⟨b,2,none⟩=false):=by
 simp[World.cell?,World.frozen?,h]
def St(w wr:zW)(x0 x1 x2:zA)(a0 a1 a2:Int):Prop:=
 Below w.heap.size w wr∧w.heap.size+2<wr.heap.size∧wr.heap[w.heap.size]?=some (.cells #[zI 0,zI 0,zI 0] 249)∧wr.heap[w.heap.size+1]?=some (.cells #[zI a0,zI a1,zI a2] 249)∧wr.heap[w.heap.size+2]?=some (.cells #[.string x0,.string x1,.string x2] 9)
theorem St.start(w:zW)(x0 x1 x2:zA):St w (((w.alloc (.cells #[zI 0,zI 0,zI 0] 249)).alloc (.cells #[zI 0,zI 0,zI 0] 249)).alloc (.cells #[.string x0,.string x1,.string x2] 9)) x0 x1 x2 0 0 0:=by
 refine⟨(((Below.refl _ _).alloc (ag _) _).alloc (by simp) _).alloc (by simp;omega) _,by simp,?_,?_,?_⟩
 all_goals
  show(((w.heap.push _).push _).push _)[_]?=_;rw[pM,pM,pM];simp only[Array.size_push]
 ·rw[af (by omega),af (by omega),ah trivial]
 ·rw[af (by omega),ah trivial]
 ·rw[ah trivial]
theorem St.below{w wr w':zW}{x0 x1 x2:zA}{a0 a1 a2:Int}(h:St w wr x0 x1 x2 a0 a1 a2)(hb:Below wr.heap.size wr w'):St w w' x0 x1 x2 a0 a1 a2:=by
 obtain⟨h1,h2,h3,h4,h5⟩:=h;have:=hb.size;exact⟨h1.trans (hb.mono h1.size),by omega,by rw[hb.block _ (by omega)];exact h3,by rw[hb.block _ (by omega)];exact h4,by rw[hb.block _ (by omega)];exact h5⟩
theorem St.set{w wr:zW}{x0 x1 x2:zA}{a0 a1 a2:Int}(h:St w wr x0 x1 x2 a0 a1 a2)(v:Int):
  St w (wr.setCell ⟨w.heap.size+1,0,none⟩ (zI v)) x0 x1 x2 v a1 a2∧St w (wr.setCell ⟨w.heap.size+1,1,none⟩ (zI v)) x0 x1 x2 a0 v a2∧St w (wr.setCell ⟨w.heap.size+1,2,none⟩ (zI v)) x0 x1 x2 a0 a1 v:=by
 obtain⟨h1,h2,h3,h4,h5⟩:=h;refine⟨?_,?_,?_⟩
 all_goals
  refine⟨h1.setCell (by simp) _,by simpa[World.setCell] using h2,?_,?_,?_⟩
  ·rw[Below.heap_setCell _ _ _ _ (by simp)];exact h3
  ·simp[World.setCell,ox,h4]
  ·rw[Below.heap_setCell _ _ _ _ (by simp)];exact h5
theorem vL(s x0 x1 x2:zA)(v0 v1 v2:Int)(w:zW)
  (k:∀W:zW,Below w.heap.size w W→zC 122 #[.string s,.string ⟨#[46]⟩] W fun e w'=>e=.returned (.slice (some ⟨W.heap.size,0,none⟩) 3 3)∧w'=W.alloc (.cells #[.string x0,.string x1,.string x2] 9))
  (h0:x0.size≤6) (h1:x1.size≤6) (h2:x2.size≤6)
  (i0:∀W,zC 242 #[.string x0] W fun e w'=>e=.returned (.bool true)∧w'=W) (i1:∀W,zC 242 #[.string x1] W fun e w'=>e=.returned (.bool true)∧w'=W) (i2:∀W,zC 242 #[.string x2] W fun e w'=>e=.returned (.bool true)∧w'=W)
  (n0:∀W,zC 243 #[.string x0] W fun e w'=>e=.returned (zI v0)∧Below W.heap.size W w') (n1:∀W,zC 243 #[.string x1] W fun e w'=>e=.returned (zI v1)∧Below W.heap.size W w') (n2:∀W,zC 243 #[.string x2] W fun e w'=>e=.returned (zI v2)∧Below W.heap.size W w'):
  zC 198 #[.string s] w fun e w'=>e=.returned (.tuple #[.agg #[zI v0,zI v1,zI v2],.bool true])∧Below w.heap.size w w':=by
 have k:=k ((w.alloc (.cells #[zI 0,zI 0,zI 0] 249)).alloc (.cells #[zI 0,zI 0,zI 0] 249)) (((Below.refl _ _).alloc (ag _) _).alloc (by simp) _);go_enter func198,ntmps198
 go_wp2_with (go_at_call 122;refine k.mono ?_;rintro e w' ⟨rfl,rfl⟩)
 have S0:Hid (St w _ x0 x1 x2 0 0 0):=St.start w x0 x1 x2;refine il 4 ?_;rw[cE]
 go_wp2_with (first|(go_at_call_of 242 x0;refine(i0 _).mono ?_;rintro e w' ⟨rfl,rfl⟩)|(go_at_call_of 243 x0;fail))
 refine(n0 _).mono ?_;rintro e w1 ⟨rfl,hb1⟩;have S1:=S0.out.below hb1;clear hb1 S0;obtain⟨⟨p0,p1,p2⟩,⟨q0,q1,q2⟩⟩:=cells3 S1.2.2.2.1;obtain⟨⟨y0,y1,y2⟩,_⟩:=cells3 S1.2.2.2.2;have S1':Hid (St w _ x0 x1 x2 v0 0 0):=(S1.set v0).1;clear S1;go_wp2;clear p0 p1 p2 q0 q1 q2;rw[cE]
 go_wp2_with (first|(go_at_call_of 242 x1;refine(i1 _).mono ?_;rintro e w' ⟨rfl,rfl⟩)|(go_at_call_of 243 x1;fail))
 refine(n1 _).mono ?_;rintro e w2 ⟨rfl,hb2⟩;have S2:=S1'.out.below hb2;clear hb2 S1' y0 y1 y2;obtain⟨⟨p0,p1,p2⟩,⟨q0,q1,q2⟩⟩:=cells3 S2.2.2.2.1;obtain⟨⟨y0,y1,y2⟩,_⟩:=cells3 S2.2.2.2.2;have S2':Hid (St w _ x0 x1 x2 v0 v1 0):=(S2.set v1).2.1;clear S2;go_wp2;clear p0 p1 p2 q0 q1 q2;rw[cE]
 go_wp2_with (first|(go_at_call_of 242 x2;refine(i2 _).mono ?_;rintro e w' ⟨rfl,rfl⟩)|(go_at_call_of 243 x2;fail))
 refine(n2 _).mono ?_;rintro e w3 ⟨rfl,hb3⟩;have S3:=S2'.out.below hb3;clear hb3 S2' y0 y1 y2;obtain⟨⟨p0,p1,p2⟩,⟨q0,q1,q2⟩⟩:=cells3 S3.2.2.2.1;obtain⟨⟨z0,z1,z2⟩,⟨f0,f1,f2⟩⟩:=cells3 S3.2.2.1;have S3':Hid (St w _ x0 x1 x2 v0 v1 v2):=(S3.set v2).2.2;clear S3;go_wp2;rw[cE];go_wp2;exact aI (v:=.tuple #[.agg #[zI v0,zI v1,zI v2],.bool true]) (by simp[results,results198,go_sem,z0,z1,z2]) rfl ⟨rfl,((S3'.out.1.setCell (ag _) _).setCell (ag _) _).setCell (ag _) _⟩
end Dr
namespace Dr
theorem qf(s x0 x1 x2:zA)(w:zW)
  (k:∀W:zW,Below w.heap.size w W→zC 122 #[.string s,.string ⟨#[46]⟩] W fun e w'=>e=.returned (.slice (some ⟨W.heap.size,0,none⟩) 3 3)∧w'=W.alloc (.cells #[.string x0,.string x1,.string x2] 9))
  (h0:(6:Int)<(x0.size:Int)):
  zC 198 #[.string s] w fun e w'=>e=.returned (.tuple #[.agg #[zI 0,zI 0,zI 0],.bool false])∧Below w.heap.size w w':=by
 have k:=k ((w.alloc (.cells #[zI 0,zI 0,zI 0] 249)).alloc (.cells #[zI 0,zI 0,zI 0] 249)) (((Below.refl _ _).alloc (ag _) _).alloc (by simp) _);go_enter func198,ntmps198
 go_wp2_with (go_at_call 122;refine k.mono ?_;rintro e w' ⟨rfl,rfl⟩)
 have S:Hid (St w _ x0 x1 x2 0 0 0):=St.start w x0 x1 x2;refine il 4 ?_;rw[cE];go_wp2;exact aI (v:=.tuple #[.agg #[zI 0,zI 0,zI 0],.bool false]) (by simp[results,results198,go_sem]) rfl ⟨rfl,S.out.1⟩
theorem qg(s x0 x1 x2:zA)(w:zW)
  (k:∀W:zW,Below w.heap.size w W→zC 122 #[.string s,.string ⟨#[46]⟩] W fun e w'=>e=.returned (.slice (some ⟨W.heap.size,0,none⟩) 3 3)∧w'=W.alloc (.cells #[.string x0,.string x1,.string x2] 9))
  (h0:(x0.size:Int)≤6) (i0:∀W,zC 242 #[.string x0] W fun e w'=>e=.returned (.bool false)∧w'=W):
  zC 198 #[.string s] w fun e w'=>e=.returned (.tuple #[.agg #[zI 0,zI 0,zI 0],.bool false])∧Below w.heap.size w w':=by
 have k:=k ((w.alloc (.cells #[zI 0,zI 0,zI 0] 249)).alloc (.cells #[zI 0,zI 0,zI 0] 249)) (((Below.refl _ _).alloc (ag _) _).alloc (by simp) _);go_enter func198,ntmps198
 go_wp2_with (go_at_call 122;refine k.mono ?_;rintro e w' ⟨rfl,rfl⟩)
 have S:Hid (St w _ x0 x1 x2 0 0 0):=St.start w x0 x1 x2;refine il 4 ?_;rw[cE]
 go_wp2_with (go_at_call_of 242 x0;refine(i0 _).mono ?_;rintro e w' ⟨rfl,rfl⟩)
 exact aI (v:=.tuple #[.agg #[zI 0,zI 0,zI 0],.bool false]) (by simp[results,results198,go_sem]) rfl ⟨rfl,S.out.1⟩
theorem qh(s x0 x1 x2:zA)(v0:Int)(w:zW)
  (k:∀W:zW,Below w.heap.size w W→zC 122 #[.string s,.string ⟨#[46]⟩] W fun e w'=>e=.returned (.slice (some ⟨W.heap.size,0,none⟩) 3 3)∧w'=W.alloc (.cells #[.string x0,.string x1,.string x2] 9))
  (h0:x0.size≤6) (i0:∀W,zC 242 #[.string x0] W fun e w'=>e=.returned (.bool true)∧w'=W) (n0:∀W,zC 243 #[.string x0] W fun e w'=>e=.returned (zI v0)∧Below W.heap.size W w')
  (h1:(6:Int)<(x1.size:Int)):
  zC 198 #[.string s] w fun e w'=>e=.returned (.tuple #[.agg #[zI 0,zI 0,zI 0],.bool false])∧Below w.heap.size w w':=by
 have k:=k ((w.alloc (.cells #[zI 0,zI 0,zI 0] 249)).alloc (.cells #[zI 0,zI 0,zI 0] 249)) (((Below.refl _ _).alloc (ag _) _).alloc (by simp) _);go_enter func198,ntmps198
 go_wp2_with (go_at_call 122;refine k.mono ?_;rintro e w' ⟨rfl,rfl⟩)
 have S:Hid (St w _ x0 x1 x2 0 0 0):=St.start w x0 x1 x2;refine il 4 ?_;rw[cE]
 go_wp2_with (first|(go_at_call_of 242 x0;refine(i0 _).mono ?_;rintro e w' ⟨rfl,rfl⟩)|(go_at_call_of 243 x0;fail))
 refine(n0 _).mono ?_;rintro e w1 ⟨rfl,hb⟩;have S':=S.out.below hb;clear hb S;obtain⟨⟨p0,p1,p2⟩,⟨q0,q1,q2⟩⟩:=cells3 S'.2.2.2.1;obtain⟨⟨y0,y1,y2⟩,_⟩:=cells3 S'.2.2.2.2;obtain⟨⟨z0,z1,z2⟩,⟨f0,f1,f2⟩⟩:=cells3 S'.2.2.1;have S:Hid (St w _ x0 x1 x2 v0 0 0):=(S'.set v0).1;clear S';go_wp2;clear p0 p1 p2 q0 q1 q2;rw[cE];go_wp2;exact aI (v:=.tuple #[.agg #[zI 0,zI 0,zI 0],.bool false]) (by simp[results,results198,go_sem,z0,z1,z2]) rfl ⟨rfl,((S.out.1.setCell (ag _) _).setCell (ag _) _).setCell (ag _) _⟩
theorem qj(s x0 x1 x2:zA)(v0:Int)(w:zW)
  (k:∀W:zW,Below w.heap.size w W→zC 122 #[.string s,.string ⟨#[46]⟩] W fun e w'=>e=.returned (.slice (some ⟨W.heap.size,0,none⟩) 3 3)∧w'=W.alloc (.cells #[.string x0,.string x1,.string x2] 9))
  (h0:x0.size≤6) (i0:∀W,zC 242 #[.string x0] W fun e w'=>e=.returned (.bool true)∧w'=W) (n0:∀W,zC 243 #[.string x0] W fun e w'=>e=.returned (zI v0)∧Below W.heap.size W w')
  (h1:(x1.size:Int)≤6) (i1:∀W,zC 242 #[.string x1] W fun e w'=>e=.returned (.bool false)∧w'=W):
  zC 198 #[.string s] w fun e w'=>e=.returned (.tuple #[.agg #[zI 0,zI 0,zI 0],.bool false])∧Below w.heap.size w w':=by
 have k:=k ((w.alloc (.cells #[zI 0,zI 0,zI 0] 249)).alloc (.cells #[zI 0,zI 0,zI 0] 249)) (((Below.refl _ _).alloc (ag _) _).alloc (by simp) _);go_enter func198,ntmps198
 go_wp2_with (go_at_call 122;refine k.mono ?_;rintro e w' ⟨rfl,rfl⟩)
 have S:Hid (St w _ x0 x1 x2 0 0 0):=St.start w x0 x1 x2;refine il 4 ?_;rw[cE]
 go_wp2_with (first|(go_at_call_of 242 x0;refine(i0 _).mono ?_;rintro e w' ⟨rfl,rfl⟩)|(go_at_call_of 243 x0;fail))
 refine(n0 _).mono ?_;rintro e w1 ⟨rfl,hb⟩;have S':=S.out.below hb;clear hb S;obtain⟨⟨p0,p1,p2⟩,⟨q0,q1,q2⟩⟩:=cells3 S'.2.2.2.1;obtain⟨⟨y0,y1,y2⟩,_⟩:=cells3 S'.2.2.2.2;obtain⟨⟨z0,z1,z2⟩,⟨f0,f1,f2⟩⟩:=cells3 S'.2.2.1;have S:Hid (St w _ x0 x1 x2 v0 0 0):=(S'.set v0).1;clear S';go_wp2;clear p0 p1 p2 q0 q1 q2;rw[cE]
 go_wp2_with (go_at_call_of 242 x1;refine(i1 _).mono ?_;rintro e w' ⟨rfl,rfl⟩)
 exact aI (v:=.tuple #[.agg #[zI 0,zI 0,zI 0],.bool false]) (by simp[results,results198,go_sem,z0,z1,z2]) rfl ⟨rfl,((S.out.1.setCell (ag _) _).setCell (ag _) _).setCell (ag _) _⟩
theorem ql(s x0 x1 x2:zA)(v0:Int)(v1:Int)(w:zW)
  (k:∀W:zW,Below w.heap.size w W→zC 122 #[.string s,.string ⟨#[46]⟩] W fun e w'=>e=.returned (.slice (some ⟨W.heap.size,0,none⟩) 3 3)∧w'=W.alloc (.cells #[.string x0,.string x1,.string x2] 9))
  (h0:x0.size≤6) (i0:∀W,zC 242 #[.string x0] W fun e w'=>e=.returned (.bool true)∧w'=W) (n0:∀W,zC 243 #[.string x0] W fun e w'=>e=.returned (zI v0)∧Below W.heap.size W w')
  (h1:x1.size≤6) (i1:∀W,zC 242 #[.string x1] W fun e w'=>e=.returned (.bool true)∧w'=W) (n1:∀W,zC 243 #[.string x1] W fun e w'=>e=.returned (zI v1)∧Below W.heap.size W w')
  (h2:(6:Int)<(x2.size:Int)):
  zC 198 #[.string s] w fun e w'=>e=.returned (.tuple #[.agg #[zI 0,zI 0,zI 0],.bool false])∧Below w.heap.size w w':=by
 have k:=k ((w.alloc (.cells #[zI 0,zI 0,zI 0] 249)).alloc (.cells #[zI 0,zI 0,zI 0] 249)) (((Below.refl _ _).alloc (ag _) _).alloc (by simp) _);go_enter func198,ntmps198
 go_wp2_with (go_at_call 122;refine k.mono ?_;rintro e w' ⟨rfl,rfl⟩)
 have S:Hid (St w _ x0 x1 x2 0 0 0):=St.start w x0 x1 x2;refine il 4 ?_;rw[cE]
 go_wp2_with (first|(go_at_call_of 242 x0;refine(i0 _).mono ?_;rintro e w' ⟨rfl,rfl⟩)|(go_at_call_of 243 x0;fail))
 refine(n0 _).mono ?_;rintro e w1 ⟨rfl,hb⟩;have S':=S.out.below hb;clear hb S;obtain⟨⟨p0,p1,p2⟩,⟨q0,q1,q2⟩⟩:=cells3 S'.2.2.2.1;obtain⟨⟨y0,y1,y2⟩,_⟩:=cells3 S'.2.2.2.2;obtain⟨⟨z0,z1,z2⟩,⟨f0,f1,f2⟩⟩:=cells3 S'.2.2.1;have S:Hid (St w _ x0 x1 x2 v0 0 0):=(S'.set v0).1;clear S';go_wp2;clear p0 p1 p2 q0 q1 q2;rw[cE]
 go_wp2_with (first|(go_at_call_of 242 x1;refine(i1 _).mono ?_;rintro e w' ⟨rfl,rfl⟩)|(go_at_call_of 243 x1;fail))
 refine(n1 _).mono ?_;rintro e w2 ⟨rfl,hb⟩;have S':=S.out.below hb;clear hb S;clear y0 y1 y2 z0 z1 z2 f0 f1 f2;obtain⟨⟨p0,p1,p2⟩,⟨q0,q1,q2⟩⟩:=cells3 S'.2.2.2.1;obtain⟨⟨y0,y1,y2⟩,_⟩:=cells3 S'.2.2.2.2;obtain⟨⟨z0,z1,z2⟩,⟨f0,f1,f2⟩⟩:=cells3 S'.2.2.1;have S:Hid (St w _ x0 x1 x2 v0 v1 0):=(S'.set v1).2.1;clear S';go_wp2;clear p0 p1 p2 q0 q1 q2;rw[cE];go_wp2;exact aI (v:=.tuple #[.agg #[zI 0,zI 0,zI 0],.bool false]) (by simp[results,results198,go_sem,z0,z1,z2]) rfl ⟨rfl,((S.out.1.setCell (ag _) _).setCell (ag _) _).setCell (ag _) _⟩
theorem qo(s x0 x1 x2:zA)(v0:Int)(v1:Int)(w:zW)
  (k:∀W:zW,Below w.heap.size w W→zC 122 #[.string s,.string ⟨#[46]⟩] W fun e w'=>e=.returned (.slice (some ⟨W.heap.size,0,none⟩) 3 3)∧w'=W.alloc (.cells #[.string x0,.string x1,.string x2] 9))
  (h0:x0.size≤6) (i0:∀W,zC 242 #[.string x0] W fun e w'=>e=.returned (.bool true)∧w'=W) (n0:∀W,zC 243 #[.string x0] W fun e w'=>e=.returned (zI v0)∧Below W.heap.size W w')
  (h1:x1.size≤6) (i1:∀W,zC 242 #[.string x1] W fun e w'=>e=.returned (.bool true)∧w'=W) (n1:∀W,zC 243 #[.string x1] W fun e w'=>e=.returned (zI v1)∧Below W.heap.size W w')
  (h2:(x2.size:Int)≤6) (i2:∀W,zC 242 #[.string x2] W fun e w'=>e=.returned (.bool false)∧w'=W):
  zC 198 #[.string s] w fun e w'=>e=.returned (.tuple #[.agg #[zI 0,zI 0,zI 0],.bool false])∧Below w.heap.size w w':=by
 have k:=k ((w.alloc (.cells #[zI 0,zI 0,zI 0] 249)).alloc (.cells #[zI 0,zI 0,zI 0] 249)) (((Below.refl _ _).alloc (ag _) _).alloc (by simp) _);go_enter func198,ntmps198
 go_wp2_with (go_at_call 122;refine k.mono ?_;rintro e w' ⟨rfl,rfl⟩)
 have S:Hid (St w _ x0 x1 x2 0 0 0):=St.start w x0 x1 x2;refine il 4 ?_;rw[cE]
 go_wp2_with (first|(go_at_call_of 242 x0;refine(i0 _).mono ?_;rintro e w' ⟨rfl,rfl⟩)|(go_at_call_of 243 x0;fail))
 refine(n0 _).mono ?_;rintro e w1 ⟨rfl,hb⟩;have S':=S.out.below hb;clear hb S;obtain⟨⟨p0,p1,p2⟩,⟨q0,q1,q2⟩⟩:=cells3 S'.2.2.2.1;obtain⟨⟨y0,y1,y2⟩,_⟩:=cells3 S'.2.2.2.2;obtain⟨⟨z0,z1,z2⟩,⟨f0,f1,f2⟩⟩:=cells3 S'.2.2.1;have S:Hid (St w _ x0 x1 x2 v0 0 0):=(S'.set v0).1;clear S';go_wp2;clear p0 p1 p2 q0 q1 q2;rw[cE]
 go_wp2_with (first|(go_at_call_of 242 x1;refine(i1 _).mono ?_;rintro e w' ⟨rfl,rfl⟩)|(go_at_call_of 243 x1;fail))
 refine(n1 _).mono ?_;rintro e w2 ⟨rfl,hb⟩;have S':=S.out.below hb;clear hb S;clear y0 y1 y2 z0 z1 z2 f0 f1 f2;obtain⟨⟨p0,p1,p2⟩,⟨q0,q1,q2⟩⟩:=cells3 S'.2.2.2.1;obtain⟨⟨y0,y1,y2⟩,_⟩:=cells3 S'.2.2.2.2;obtain⟨⟨z0,z1,z2⟩,⟨f0,f1,f2⟩⟩:=cells3 S'.2.2.1;have S:Hid (St w _ x0 x1 x2 v0 v1 0):=(S'.set v1).2.1;clear S';go_wp2;clear p0 p1 p2 q0 q1 q2;rw[cE]
 go_wp2_with (go_at_call_of 242 x2;refine(i2 _).mono ?_;rintro e w' ⟨rfl,rfl⟩)
 exact aI (v:=.tuple #[.agg #[zI 0,zI 0,zI 0],.bool false]) (by simp[results,results198,go_sem,z0,z1,z2]) rfl ⟨rfl,((S.out.1.setCell (ag _) _).setCell (ag _) _).setCell (ag _) _⟩
end Dr
namespace Dr
theorem oK(x:zA)(h:Pv.rP x.data.toList=false):(6:Int)<(x.size:Int)∨((x.size:Int)≤6∧Pv.isNum x.data.toList=false):=by
 unfold Pv.rP at h;rw[←bT] at h;by_cases h6:x.size≤6
 ·right
  rw[cT h6] at h;exact⟨by omega,by simpa using h⟩
 ·left;omega
theorem lW(x:zA)(h:Pv.rP x.data.toList=true):x.size≤6∧Pv.isNum x.data.toList=true:=by
 unfold Pv.rP at h;rw[←bT] at h;simpa using h
theorem rY(s:zA)(w:zW)(hm:Ml w)(hs:s.size≤40)(h:Pv.lK s.data.toList=none):
  zC 198 #[.string s] w fun e w'=>e=.returned (.tuple #[.agg #[zI 0,zI 0,zI 0],.bool false])∧Below w.heap.size w w':=by
 obtain⟨l,hl,hz,k⟩:=pR s (by omega);have k:∀W:zW,Below w.heap.size w W→zC 122 #[.string s,.string ⟨#[46]⟩] W fun e w'=>e=.returned (.slice (some ⟨W.heap.size,0,none⟩) l.length l.length)∧w'=W.alloc (.cells (l.map Value.string).toArray 9):=fun W hb=>k W (hm.below hb)
 by_cases h3:l.length=3
 ·match l,h3 with
  |[x0,x1,x2],_=>
   have isn:∀x∈[x0,x1,x2],∀W,zC 242 #[.string x] W fun e w'=>e=.returned (.bool (Pv.isNum x.data.toList))∧w'=W:=fun x hx W=>fE x W (by have:=hz x hx;unfold maxLen;omega)
   have j0:=isn x0 (by simp);have j1:=isn x1 (by simp);have j2:=isn x2 (by simp);cases h0:Pv.rP x0.data.toList with
   |false=>
    rcases oK x0 h0 with hh|⟨hh,hn⟩
    ·exact qf s x0 x1 x2 w k hh
    ·rw[hn] at j0
     exact qg s x0 x1 x2 w k hh j0
   |true=>
    obtain⟨a0,b0⟩:=lW x0 h0;have n0:=fun W=>fG x0 W b0 (by omega)
    rw[b0] at j0;cases h1:Pv.rP x1.data.toList with
    |false=>
     rcases oK x1 h1 with hh|⟨hh,hn⟩
     ·exact qh s x0 x1 x2 _ w k a0 j0 n0 hh
     ·rw[hn] at j1
      exact qj s x0 x1 x2 _ w k a0 j0 n0 hh j1
    |true=>
     obtain⟨a1,b1⟩:=lW x1 h1;have n1:=fun W=>fG x1 W b1 (by omega)
     rw[b1] at j1;cases h2:Pv.rP x2.data.toList with
     |false=>
      rcases oK x2 h2 with hh|⟨hh,hn⟩
      ·exact ql s x0 x1 x2 _ _ w k a0 j0 n0 a1 j1 n1 hh
      ·rw[hn] at j2
       exact qo s x0 x1 x2 _ _ w k a0 j0 n0 a1 j1 n1 hh j2
     |true=>
      exfalso;unfold Pv.lK at h;rw[←hl] at h;simp[h0,h1,h2] at h
 ·exact tX s l w (by simp;omega) k
theorem kU(s:zA)(w:zW)(hm:Ml w)(hs:s.size≤40)(p q r:List UInt8)(h:Pv.lK s.data.toList=some [p,q,r]):
  zC 198 #[.string s] w fun e w'=>e=.returned (.tuple #[.agg #[zI (Pv.val p),zI (Pv.val q),zI (Pv.val r)],.bool true])∧Below w.heap.size w w':=by
 obtain⟨l,hl,hz,k⟩:=pR s (by omega);have k:∀W:zW,Below w.heap.size w W→zC 122 #[.string s,.string ⟨#[46]⟩] W fun e w'=>e=.returned (.slice (some ⟨W.heap.size,0,none⟩) l.length l.length)∧w'=W.alloc (.cells (l.map Value.string).toArray 9):=fun W hb=>k W (hm.below hb)
 unfold Pv.lK at h;rw[←hl] at h
 split at h
 ·rename_i hc
  simp only[mP] at h
  match l,h,hc,k with
  |[x0,x1,x2],h,hc,k=>
   simp only[bH,fQ,eG,fS] at h;obtain⟨rfl,rfl,rfl⟩:=h;simp only[bH,fQ,lI,List.all_nil,Bool.and_true,cG] at hc;obtain⟨_,h0,h1,h2⟩:=hc;obtain⟨a0,b0⟩:=lW x0 h0;obtain⟨a1,b1⟩:=lW x1 h1;obtain⟨a2,b2⟩:=lW x2 h2;have j0:=fun W=>fE x0 W (by unfold maxLen;omega)
   have j1:=fun W=>fE x1 W (by unfold maxLen;omega)
   have j2:=fun W=>fE x2 W (by unfold maxLen;omega)
   rw[b0] at j0;rw[b1] at j1;rw[b2] at j2;exact vL s x0 x1 x2 _ _ _ w k a0 a1 a2 j0 j1 j2 (fun W=>fG x0 W b0 (by omega)) (fun W=>fG x1 W b1 (by omega)) (fun W=>fG x2 W b2 (by omega))
 ·simp at h
