import Derived.Test.YtelmkfkgpnadnaaGreatDoorJPMA
import Derived.Test.YtelmkfkgpnadnaaGreatDoorJRWA
set_option linter.all false
open Go.Proofs.Tryz
set_option maxRecDepth 100000
set_option maxHeartbeats 1000000
namespace Go.Proofs.YtelmkfkgpnadnaaGreatDoor
open Go.RowKit
namespace Pn
theorem KJ(v:zV)(W:zW):(Instr.typeAssert (.iface 386 v) 242 386 true).run prog W=.ok (.tuple #[v,.bool true]) W:=by kernel_rfl
theorem KL(v:zV)(W:zW):(Instr.typeAssert (.iface 389 v) 242 389 true).run prog W=.ok (.tuple #[v,.bool true]) W:=by kernel_rfl
theorem KM(v:zV)(W:zW):(Instr.typeAssert (.iface 391 v) 242 391 true).run prog W=.ok (.tuple #[v,.bool true]) W:=by kernel_rfl
theorem KN(v:zV)(W:zW):(Instr.typeAssert (.iface 176 v) 242 176 true).run prog W=.ok (.tuple #[v,.bool true]) W:=by kernel_rfl
theorem KO(v:zV)(W:zW):(Instr.typeAssert (.iface 179 v) 242 179 true).run prog W=.ok (.tuple #[v,.bool true]) W:=by kernel_rfl
theorem QT(v:zV)(W:zW):(Instr.typeAssert (.iface 369 v) 367 369 true).run prog W=.ok (.tuple #[v,.bool true]) W:=by kernel_rfl
theorem QU(v:zV)(W:zW):(Instr.typeAssert (.iface 201 v) 367 201 true).run prog W=.ok (.tuple #[v,.bool true]) W:=by kernel_rfl
theorem PY(v:zV)(W:zW):(Instr.typeAssert (.iface 201 v) 367 369 true).run prog W=.ok (.tuple #[.agg #[zI 0,zE,zE,zE,.bool false],.bool false]) W:=by kernel_rfl
theorem H3(v:zV)(W:zW):(Instr.typeAssert (.iface 389 v) 242 386 true).run prog W=.ok (.tuple #[.agg #[zI 0,zE,zN,zN,zN],.bool false]) W:=by kernel_rfl
theorem H4(v:zV)(W:zW):(Instr.typeAssert (.iface 391 v) 242 386 true).run prog W=.ok (.tuple #[.agg #[zI 0,zE,zN,zN,zN],.bool false]) W:=by kernel_rfl
theorem H5(v:zV)(W:zW):(Instr.typeAssert (.iface 176 v) 242 386 true).run prog W=.ok (.tuple #[.agg #[zI 0,zE,zN,zN,zN],.bool false]) W:=by kernel_rfl
theorem H6(v:zV)(W:zW):(Instr.typeAssert (.iface 179 v) 242 386 true).run prog W=.ok (.tuple #[.agg #[zI 0,zE,zN,zN,zN],.bool false]) W:=by kernel_rfl
theorem Ia(v:zV)(W:zW):(Instr.typeAssert (.iface 391 v) 242 389 true).run prog W=.ok (.tuple #[.agg #[zI 0,zN],.bool false]) W:=by kernel_rfl
theorem Ib(v:zV)(W:zW):(Instr.typeAssert (.iface 176 v) 242 389 true).run prog W=.ok (.tuple #[.agg #[zI 0,zN],.bool false]) W:=by kernel_rfl
theorem Ic(v:zV)(W:zW):(Instr.typeAssert (.iface 179 v) 242 389 true).run prog W=.ok (.tuple #[.agg #[zI 0,zN],.bool false]) W:=by kernel_rfl
theorem Ie(v:zV)(W:zW):(Instr.typeAssert (.iface 176 v) 242 391 true).run prog W=.ok (.tuple #[.agg #[zN,zN],.bool false]) W:=by kernel_rfl
theorem Ig(v:zV)(W:zW):(Instr.typeAssert (.iface 179 v) 242 391 true).run prog W=.ok (.tuple #[.agg #[zN,zN],.bool false]) W:=by kernel_rfl
theorem Ih(v:zV)(W:zW):(Instr.typeAssert (.iface 179 v) 242 176 true).run prog W=.ok (.tuple #[.agg #[zN,zN],.bool false]) W:=by kernel_rfl
theorem Nz(W:zW):(Instr.typeAssert .nilIface 242 386 true).run prog W=.ok (.tuple #[.agg #[zI 0,zE,zN,zN,zN],.bool false]) W:=by kernel_rfl
theorem NA(W:zW):(Instr.typeAssert .nilIface 242 389 true).run prog W=.ok (.tuple #[.agg #[zI 0,zN],.bool false]) W:=by kernel_rfl
theorem NB(W:zW):(Instr.typeAssert .nilIface 242 391 true).run prog W=.ok (.tuple #[.agg #[zN,zN],.bool false]) W:=by kernel_rfl
theorem NC(W:zW):(Instr.typeAssert .nilIface 242 176 true).run prog W=.ok (.tuple #[.agg #[zN,zN],.bool false]) W:=by kernel_rfl
theorem ND(W:zW):(Instr.typeAssert .nilIface 242 179 true).run prog W=.ok (.tuple #[.agg #[zN,zN],.bool false]) W:=by kernel_rfl
end Pn
namespace Pn
open Mf Ed
variable{w w' W W2 w5:zW}{A:Nat→Prop}{db sb fb:Nat}{cap:Int}{cs:List Int}{D:List Kp}
def kM:Fi→Nat
 | .man _ _=>0
 | .idx _ _=>1
 | .wants _ _=>2
 | .list _ _=>3
 | .ord _ _=>4
def bump(cs:List Int)(j:Nat):List Int:=cs.set j (wrap64 (cs[j]?.getD 0+1))
theorem dG.bump(h:dG A w db sb fb cap cs D)(j:Nat):dG A (w.setCell ⟨db,3+j,none⟩ (zI (wrap64 (cs[j]?.getD 0+1)))) db sb fb cap (bump cs j) D:=by
 refine⟨h.f0.set (by omega),h.f1.set (by omega),h.f2.set (by omega),fun i c hi=>?_,?_,h.ne,h.hd,h.hf⟩
 ·unfold Pn.bump at hi
  by_cases e:j=i
  ·subst e
   rw[List.getElem?_set_self'] at hi;cases e2:cs[j]? with
   |none=>rw[e2] at hi;simp at hi
   |some c0=>
    rw[e2] at hi;simp at hi;rw[←hi];exact pB (h.cn j c0 e2) _
  ·rw[List.getElem?_set_ne e] at hi
   exact(h.cn i c hi).set (by omega)
 ·obtain⟨L,h1,h2⟩:=h.map
  refine⟨L,h1.of_block (aL _ _ _ _ (fun e=>h.ne e.symm)),h2.turn ((aj.refl A w).set (a:=⟨db,3+j,none⟩) (fun _=>h.hd) _)⟩
theorem KP{fv:zV}{f:Fi}(w:zW)(h:dG A w db sb fb cap cs D)(hf:fK A w fv f)(hc:cs.length=5):
  zC 284 #[zP db,fv] w fun e w'=>e=.returned (.tuple #[])∧w'=w.setCell ⟨db,3+kM f,none⟩ (zI (wrap64 (cs[kM f]?.getD 0+1))):=by
 match cs,hc with
 |[k0,k1,k2,k3,k4],_=>
 have g0:=h.cn 0 k0 rfl;have g1:=h.cn 1 k1 rfl;have g2:=h.cn 2 k2 rfl;have g3:=h.cn 3 k3 rfl;have g4:=h.cn 4 k4 rfl;clear h;obtain⟨c0,f0⟩:=g0;obtain⟨c1,f1⟩:=g1;obtain⟨c2,f2⟩:=g2;obtain⟨c3,f3⟩:=g3;obtain⟨c4,f4⟩:=g4;cases f with
 |man pr m=>
  obtain⟨rv,xv,sv,rfl,_⟩:=hf;have t0:=KJ (.agg #[zI pr,.string m.p,rv,xv,sv]) w;go_enter func284,ntmps284;go_wp2;exact im (v:=.tuple #[]) (by simp[results,results284,go_sem]) rfl ⟨rfl,rfl⟩
 |idx pr vs=>
  obtain⟨u,rfl,_⟩:=hf;have t0:=H3 (.agg #[zI pr,u]) w;have t1:=KL (.agg #[zI pr,u]) w;go_enter func284,ntmps284;go_wp2;exact im (v:=.tuple #[]) (by simp[results,results284,go_sem]) rfl ⟨rfl,rfl⟩
 |wants ms ps=>
  obtain⟨a,b,rfl,_⟩:=hf;have t0:=H4 (.agg #[a,b]) w;have t1:=Ia (.agg #[a,b]) w;have t2:=KM (.agg #[a,b]) w;go_enter func284,ntmps284;go_wp2;exact im (v:=.tuple #[]) (by simp[results,results284,go_sem]) rfl ⟨rfl,rfl⟩
 |list ms ps=>
  obtain⟨a,b,rfl,_⟩:=hf;have t0:=H5 (.agg #[a,b]) w;have t1:=Ib (.agg #[a,b]) w;have t2:=Ie (.agg #[a,b]) w;have t3:=KN (.agg #[a,b]) w;go_enter func284,ntmps284;go_wp2;exact im (v:=.tuple #[]) (by simp[results,results284,go_sem]) rfl ⟨rfl,rfl⟩
 |ord ms ps=>
  obtain⟨a,b,rfl,_⟩:=hf;have t0:=H6 (.agg #[a,b]) w;have t1:=Ic (.agg #[a,b]) w;have t2:=Ig (.agg #[a,b]) w;have t3:=Ih (.agg #[a,b]) w;have t4:=KO (.agg #[a,b]) w;go_enter func284,ntmps284;go_wp2;exact im (v:=.tuple #[]) (by simp[results,results284,go_sem]) rfl ⟨rfl,rfl⟩
end Pn
namespace Pn
open Mf
variable{A A2:Nat→Prop}
theorem RdA.at{α:Type}{enc:α→List zV}{w W:zW}{v:zV}{L:List α}{s:Nat}(h:RdA A enc w v L)(hl:∀x,(enc x).length=s)(hs:0<s)(hb:Below w.heap.size w W)(i:Nat)(hi:i<L.length):
  ∃b off c,v=.slice (some ⟨b,off,none⟩) L.length c∧∀j u,(enc L[i])[j]?=some u→W.cell? ⟨b,off+i*s+j,none⟩=some u:=by
 rcases h.below hb with⟨_,h⟩|⟨b,off,c,h,_,hc⟩
 ·rw[h] at hi;simp at hi
 ·refine⟨b,off,c,h,fun j u hj=>?_⟩
  have hj2:j<s:=by rw[←hl L[i]];exact(cq.1 hj).1
  rw[Nat.add_assoc];refine hc _ u ?_
  have hpos:i*s+j<L.length*s:=by
   have:(i+1)*s≤L.length*s:=eF s hi;rw[fR] at this;omega
  haveI:Inhabited α:=⟨L[i]⟩
  rw[Ss.flat_get hl hs L (i*s+j) hpos];have e1:(i*s+j)/s=i:=by rw[Nat.mul_comm,Nat.mul_add_div hs,Nat.div_eq_of_lt hj2];omega
  have e2:(i*s+j)%s=j:=by rw[Nat.mul_comm,Nat.mul_add_mod];exact Nat.mod_eq_of_lt hj2
  rw[e1,e2,bC L i hi];exact hj
theorem sU:∀x:Pb,(aT x).length=3:=fun _=>rfl
theorem int_ne{a b:Nat}(h:a≠b):(((a:Nat):Int)==(b:Int))=false:=by
 rw[eH];omega
theorem wz{α:Type}{L M:List α}(hl:L.length=M.length)(h:∀j (h1:j<L.length) (h2:j<M.length),L[j]=M[j]):L=M:=List.ext_getElem hl h
open Classical in
theorem pX(u v:zV)(L M:List Mo)(w:zW)(hL:L.length≤16777216)(h1:RdA A Sm.mc w u L)(h2:RdA A2 Sm.mc w v M):
  zC 390 #[u,v] w fun e w'=>e=.returned (.bool (decide (L=M)))∧Below w.heap.size w w':=by
 obtain⟨a1,c1,e1⟩:=h1.len;obtain⟨a2,c2,e2⟩:=h2.len;subst e1;subst e2;by_cases hlen:L.length=M.length
 ·have D1:Aside _:=h1
  have D2:Aside _:=h2;rw[←hlen];have LM:Hid (L.length=M.length):=hlen
  have HT:Hid (∀b:Bool,(b=true↔L=M)→decide (L=M)=b):=fun b hb=>by
   cases b
   ·exact bK (fun e=>by have:=hb.2 e;cases this)
   ·exact cT (hb.1 rfl)
  obtain⟨r,hr⟩:∃r,r=decide (L=M):=⟨_,rfl⟩;rw[←hr];have HRr:Hid (r=decide (L=M)):=hr;clear hr h1 h2 hlen
  have FG:Hid (∀wr,Below w.heap.size w wr→∀i,i<L.length→∃(x y:Mo)(b o:Nat)(b' o':Nat),L[i]?=some x∧M[i]?=some y∧a1=some ⟨b,o,none⟩∧a2=some ⟨b',o',none⟩∧wr.cell? ⟨b,o+i*2,none⟩=some (.string x.1)∧wr.cell? ⟨b,o+i*2+1,none⟩=some (.string x.2)∧wr.cell? ⟨b',o'+i*2,none⟩=some (.string y.1)∧wr.cell? ⟨b',o'+i*2+1,none⟩=some (.string y.2)):=fun wr hb i hi=>by
   obtain⟨b,o,c,eg,hx⟩:=RdA.at (A:=A) (L:=L) D1.out kz (by decide) hb i hi;injection eg with eg1 _ _;have hi2:i<M.length:=by have:=LM.out;omega
   obtain⟨b',o',c',eg',hy⟩:=RdA.at (A:=A2) (L:=M) D2.out kz (by decide) hb i hi2;injection eg' with E3 _ _;refine⟨L[i],M[i],b,o,b',o',aO hi,aO hi2,eg1,E3,?_,?_,?_,?_⟩
   ·have:=hx 0 _ rfl;simpa using this
   ·have:=hx 1 _ rfl;simpa using this
   ·have:=hy 0 _ rfl;simpa using this
   ·have:=hy 1 _ rfl;simpa using this
  clear D1 D2;generalize hn:L.length=n at*;have qm:(((n:Nat):Int)==(n:Int))=true:=by simp
  go_enter func390,ntmps390;go_wp2;go_loopg [13] n (fun gg s wr=>∃i:Nat,i≤n∧n-i≤gg∧s=zI i∧Below w.heap.size w wr∧Hid (∀j x y,j<i→L[j]?=some x→M[j]?=some y→x=y))
  case atStart=>exact⟨0,by omega,by omega,rfl,ae _ _,fun j x y h=>absurd h (dz _)⟩
  case round=>
   obtain⟨i,hi,hg,rfl,hbw,HJ⟩:=hrel;by_cases hin:i<n
   ·obtain⟨x,y,b,o,b',o',hx,hy,rfl,rfl,x0,x1,y0,y1⟩:=FG.out wr hbw i hin
    have hil:((i:Nat):Int)<(n:Int):=by omega
    by_cases he:x=y
    ·subst he
     have HN:Hid (∀j x y,j<i+1→L[j]?=some x→M[j]?=some y→x=y):=fun j x' y' hj h3 h4=>by
      by_cases e:j=i
      ·subst e
       rw[hx] at h3;rw[hy] at h4;rw[←cY h3,←cY h4]
      ·exact HJ.out j x' y' (by omega) h3 h4
     clear hx hy;generalize x.1=k0 at*;have q0:(k0.toList==k0.toList)=true:=by simp
     generalize x.2=k1 at*;have q1:(k1.toList==k1.toList)=true:=by simp
     go_upto_region 6 with fail;go_quiet (fail);generalize hW:World.drewN _ _=W4;have hb4:Below w.heap.size w W4:=by rw[←hW];exact aZ hbw _
     clear hW;go_wp2;go_roundg (n-(i+1))
     case measure=>omega
     case rel=>exact⟨i+1,by omega,by omega,by go_num,hb4,HN⟩
    ·have hrf:r=false:=by
      rw[HRr.out];exact bK (fun e=>he (by subst e;rw[hx] at hy;exact cY hy))
     have HNE:Hid (¬(x.1=y.1∧x.2=y.2)):=fun h=>he (fZ h.1 h.2)
     clear hx hy he HRr HT;subst hrf;generalize x.1=k0 at*;generalize y.1=m0 at*;generalize x.2=k1 at*;generalize y.2=m1 at*;by_cases t0:k0=m0
     ·subst t0
      have q0:(k0.toList==k0.toList)=true:=by simp
      have d1:=Rn.dr (fun h:k1=m1=>HNE.out ⟨rfl,h⟩);clear HNE;go_upto_region 6 with fail;go_quiet (fail);generalize hW:World.drewN _ _=W4;have hb4:Below w.heap.size w W4:=by rw[←hW];exact aZ hbw _
      clear hW;go_wp2;go_ret;exact⟨rfl,hb4⟩
     ·have d0:=Rn.dr t0
      clear HNE t0;go_upto_region 6 with fail;go_quiet (fail);generalize hW:World.drewN _ _=W4;have hb4:Below w.heap.size w W4:=by rw[←hW];exact aZ hbw _
      clear hW;go_wp2;go_ret;exact⟨rfl,hb4⟩
   ·have hil:(((i:Nat):Int)<(n:Int))=False:=by simp;omega
    have hrt:r=true:=by
     rw[HRr.out];refine cT (wz (hn.trans LM.out) (fun j h3 h4=>HJ.out j _ _ (by omega) (aO h3) (aO h4)))
    clear HRr HT;subst hrt;go_wp2;go_ret;exact⟨rfl,hbw⟩
 ·have hd:decide (L=M)=false:=bK (fun e=>hlen (by rw[e]))
  rw[hd];have hne:(((L.length:Nat):Int)==(M.length:Int))=false:=int_ne hlen;clear hd h1 h2;generalize L.length=n at*;generalize M.length=m at*;go_enter func390,ntmps390;go_wp2;go_ret;exact⟨rfl,ae _ _⟩
open Classical in
theorem Dm(u v:zV)(L M:List Pb)(w:zW)(hL:L.length≤16777216)(h1:RdA A aT w u L)(h2:RdA A2 aT w v M):
  zC 392 #[u,v] w fun e w'=>e=.returned (.bool (decide (L=M)))∧Below w.heap.size w w':=by
 obtain⟨a1,c1,e1⟩:=h1.len;obtain⟨a2,c2,e2⟩:=h2.len;subst e1;subst e2;by_cases hlen:L.length=M.length
 ·have D1:Aside _:=h1
  have D2:Aside _:=h2;rw[←hlen];have LM:Hid (L.length=M.length):=hlen
  have HT:Hid (∀b:Bool,(b=true↔L=M)→decide (L=M)=b):=fun b hb=>by
   cases b
   ·exact bK (fun e=>by have:=hb.2 e;cases this)
   ·exact cT (hb.1 rfl)
  obtain⟨r,hr⟩:∃r,r=decide (L=M):=⟨_,rfl⟩;rw[←hr];have HRr:Hid (r=decide (L=M)):=hr;clear hr h1 h2 hlen
  have FG:Hid (∀wr,Below w.heap.size w wr→∀i,i<L.length→∃(x y:Pb)(b o:Nat)(b' o':Nat),L[i]?=some x∧M[i]?=some y∧a1=some ⟨b,o,none⟩∧a2=some ⟨b',o',none⟩∧wr.cell? ⟨b,o+i*3,none⟩=some (zI (x.1:Nat))∧wr.cell? ⟨b,o+i*3+1,none⟩=some (.string x.2.1)∧wr.cell? ⟨b,o+i*3+2,none⟩=some (.string x.2.2)∧wr.cell? ⟨b',o'+i*3,none⟩=some (zI (y.1:Nat))∧wr.cell? ⟨b',o'+i*3+1,none⟩=some (.string y.2.1)∧wr.cell? ⟨b',o'+i*3+2,none⟩=some (.string y.2.2)):=fun wr hb i hi=>by
   obtain⟨b,o,c,eg,hx⟩:=RdA.at (A:=A) (L:=L) D1.out sU (by decide) hb i hi;injection eg with eg1 _ _;have hi2:i<M.length:=by have:=LM.out;omega
   obtain⟨b',o',c',eg',hy⟩:=RdA.at (A:=A2) (L:=M) D2.out sU (by decide) hb i hi2;injection eg' with E3 _ _;refine⟨L[i],M[i],b,o,b',o',aO hi,aO hi2,eg1,E3,?_,?_,?_,?_,?_,?_⟩
   ·have:=hx 0 _ rfl;simpa using this
   ·have:=hx 1 _ rfl;simpa using this
   ·have:=hx 2 _ rfl;simpa using this
   ·have:=hy 0 _ rfl;simpa using this
   ·have:=hy 1 _ rfl;simpa using this
   ·have:=hy 2 _ rfl;simpa using this
  clear D1 D2;generalize hn:L.length=n at*;have qm:(((n:Nat):Int)==(n:Int))=true:=by simp
  go_enter func392,ntmps392;go_wp2;go_loopg [13] n (fun gg s wr=>∃i:Nat,i≤n∧n-i≤gg∧s=zI i∧Below w.heap.size w wr∧Hid (∀j x y,j<i→L[j]?=some x→M[j]?=some y→x=y))
  case atStart=>exact⟨0,by omega,by omega,rfl,ae _ _,fun j x y h=>absurd h (dz _)⟩
  case round=>
   obtain⟨i,hi,hg,rfl,hbw,HJ⟩:=hrel;by_cases hin:i<n
   ·obtain⟨x,y,b,o,b',o',hx,hy,rfl,rfl,x0,x1,x2,y0,y1,y2⟩:=FG.out wr hbw i hin
    have hil:((i:Nat):Int)<(n:Int):=by omega
    by_cases he:x=y
    ·subst he
     have HN:Hid (∀j x y,j<i+1→L[j]?=some x→M[j]?=some y→x=y):=fun j x' y' hj h3 h4=>by
      by_cases e:j=i
      ·subst e
       rw[hx] at h3;rw[hy] at h4;rw[←cY h3,←cY h4]
      ·exact HJ.out j x' y' (by omega) h3 h4
     clear hx hy;generalize x.1=k0 at*;have q0:(((k0:Nat):Int)==(k0:Int))=true:=by simp
     generalize x.2.1=k1 at*;have q1:(k1.toList==k1.toList)=true:=by simp
     generalize x.2.2=k2 at*;have q2:(k2.toList==k2.toList)=true:=by simp
     go_upto_region 6 with fail;go_quiet (fail);generalize hW:World.drewN _ _=W4;have hb4:Below w.heap.size w W4:=by rw[←hW];exact aZ hbw _
     clear hW;go_wp2;go_roundg (n-(i+1))
     case measure=>omega
     case rel=>exact⟨i+1,by omega,by omega,by go_num,hb4,HN⟩
    ·have hrf:r=false:=by
      rw[HRr.out];exact bK (fun e=>he (by subst e;rw[hx] at hy;exact cY hy))
     have HNE:Hid (¬(x.1=y.1∧x.2.1=y.2.1∧x.2.2=y.2.2)):=fun h=>he (fZ h.1 (fZ h.2.1 h.2.2))
     clear hx hy he HRr HT;subst hrf;generalize x.1=k0 at*;generalize y.1=m0 at*;generalize x.2.1=k1 at*;generalize y.2.1=m1 at*;generalize x.2.2=k2 at*;generalize y.2.2=m2 at*;by_cases t0:k0=m0
     ·subst t0
      have q0:(((k0:Nat):Int)==(k0:Int))=true:=by simp
      by_cases t1:k1=m1
      ·subst t1
       have q1:(k1.toList==k1.toList)=true:=by simp
       have d2:=Rn.dr (fun h:k2=m2=>HNE.out ⟨rfl,rfl,h⟩);clear HNE;go_upto_region 6 with fail;go_quiet (fail);generalize hW:World.drewN _ _=W4;have hb4:Below w.heap.size w W4:=by rw[←hW];exact aZ hbw _
       clear hW;go_wp2;go_ret;exact⟨rfl,hb4⟩
      ·have d1:=Rn.dr t1
       clear HNE t1;go_upto_region 6 with fail;go_quiet (fail);generalize hW:World.drewN _ _=W4;have hb4:Below w.heap.size w W4:=by rw[←hW];exact aZ hbw _
       clear hW;go_wp2;go_ret;exact⟨rfl,hb4⟩
     ·have d0:=int_ne t0
      clear HNE t0;go_upto_region 6 with fail;go_quiet (fail);generalize hW:World.drewN _ _=W4;have hb4:Below w.heap.size w W4:=by rw[←hW];exact aZ hbw _
      clear hW;go_wp2;go_ret;exact⟨rfl,hb4⟩
   ·have hil:(((i:Nat):Int)<(n:Int))=False:=by simp;omega
    have hrt:r=true:=by
     rw[HRr.out];refine cT (wz (hn.trans LM.out) (fun j h3 h4=>HJ.out j _ _ (by omega) (aO h3) (aO h4)))
    clear HRr HT;subst hrt;go_wp2;go_ret;exact⟨rfl,hbw⟩
 ·have hd:decide (L=M)=false:=bK (fun e=>hlen (by rw[e]))
  rw[hd];have hne:(((L.length:Nat):Int)==(M.length:Int))=false:=int_ne hlen;clear hd h1 h2;generalize L.length=n at*;generalize M.length=m at*;go_enter func392,ntmps392;go_wp2;go_ret;exact⟨rfl,ae _ _⟩
open Classical in
theorem Ii(u v:zV)(L M:List So)(w:zW)(hL:L.length≤16777216)(h1:RdA A Sw.mc w u L)(h2:RdA A2 Sw.mc w v M):
  zC 394 #[u,v] w fun e w'=>e=.returned (.bool (decide (L=M)))∧Below w.heap.size w w':=by
 obtain⟨a1,c1,e1⟩:=h1.len;obtain⟨a2,c2,e2⟩:=h2.len;subst e1;subst e2;by_cases hlen:L.length=M.length
 ·have D1:Aside _:=h1
  have D2:Aside _:=h2;rw[←hlen];have LM:Hid (L.length=M.length):=hlen
  have HT:Hid (∀b:Bool,(b=true↔L=M)→decide (L=M)=b):=fun b hb=>by
   cases b
   ·exact bK (fun e=>by have:=hb.2 e;cases this)
   ·exact cT (hb.1 rfl)
  obtain⟨r,hr⟩:∃r,r=decide (L=M):=⟨_,rfl⟩;rw[←hr];have HRr:Hid (r=decide (L=M)):=hr;clear hr h1 h2 hlen
  have FG:Hid (∀wr,Below w.heap.size w wr→∀i,i<L.length→∃(x y:So)(b o:Nat)(b' o':Nat),L[i]?=some x∧M[i]?=some y∧a1=some ⟨b,o,none⟩∧a2=some ⟨b',o',none⟩∧wr.cell? ⟨b,o+i*3,none⟩=some (.string x.1)∧wr.cell? ⟨b,o+i*3+1,none⟩=some (.string x.2.1)∧wr.cell? ⟨b,o+i*3+2,none⟩=some (.string x.2.2)∧wr.cell? ⟨b',o'+i*3,none⟩=some (.string y.1)∧wr.cell? ⟨b',o'+i*3+1,none⟩=some (.string y.2.1)∧wr.cell? ⟨b',o'+i*3+2,none⟩=some (.string y.2.2)):=fun wr hb i hi=>by
   obtain⟨b,o,c,eg,hx⟩:=RdA.at (A:=A) (L:=L) D1.out sS (by decide) hb i hi;injection eg with eg1 _ _;have hi2:i<M.length:=by have:=LM.out;omega
   obtain⟨b',o',c',eg',hy⟩:=RdA.at (A:=A2) (L:=M) D2.out sS (by decide) hb i hi2;injection eg' with E3 _ _;refine⟨L[i],M[i],b,o,b',o',aO hi,aO hi2,eg1,E3,?_,?_,?_,?_,?_,?_⟩
   ·have:=hx 0 _ rfl;simpa using this
   ·have:=hx 1 _ rfl;simpa using this
   ·have:=hx 2 _ rfl;simpa using this
   ·have:=hy 0 _ rfl;simpa using this
   ·have:=hy 1 _ rfl;simpa using this
   ·have:=hy 2 _ rfl;simpa using this
  clear D1 D2;generalize hn:L.length=n at*;have qm:(((n:Nat):Int)==(n:Int))=true:=by simp
  go_enter func394,ntmps394;go_wp2;go_loopg [13] n (fun gg s wr=>∃i:Nat,i≤n∧n-i≤gg∧s=zI i∧Below w.heap.size w wr∧Hid (∀j x y,j<i→L[j]?=some x→M[j]?=some y→x=y))
  case atStart=>exact⟨0,by omega,by omega,rfl,ae _ _,fun j x y h=>absurd h (dz _)⟩
  case round=>
   obtain⟨i,hi,hg,rfl,hbw,HJ⟩:=hrel;by_cases hin:i<n
   ·obtain⟨x,y,b,o,b',o',hx,hy,rfl,rfl,x0,x1,x2,y0,y1,y2⟩:=FG.out wr hbw i hin
    have hil:((i:Nat):Int)<(n:Int):=by omega
    by_cases he:x=y
    ·subst he
     have HN:Hid (∀j x y,j<i+1→L[j]?=some x→M[j]?=some y→x=y):=fun j x' y' hj h3 h4=>by
      by_cases e:j=i
      ·subst e
       rw[hx] at h3;rw[hy] at h4;rw[←cY h3,←cY h4]
      ·exact HJ.out j x' y' (by omega) h3 h4
     clear hx hy;generalize x.1=k0 at*;have q0:(k0.toList==k0.toList)=true:=by simp
     generalize x.2.1=k1 at*;have q1:(k1.toList==k1.toList)=true:=by simp
     generalize x.2.2=k2 at*;have q2:(k2.toList==k2.toList)=true:=by simp
     go_upto_region 6 with fail;go_quiet (fail);generalize hW:World.drewN _ _=W4;have hb4:Below w.heap.size w W4:=by rw[←hW];exact aZ hbw _
     clear hW;go_wp2;go_roundg (n-(i+1))
     case measure=>omega
     case rel=>exact⟨i+1,by omega,by omega,by go_num,hb4,HN⟩
    ·have hrf:r=false:=by
      rw[HRr.out];exact bK (fun e=>he (by subst e;rw[hx] at hy;exact cY hy))
     have HNE:Hid (¬(x.1=y.1∧x.2.1=y.2.1∧x.2.2=y.2.2)):=fun h=>he (fZ h.1 (fZ h.2.1 h.2.2))
     clear hx hy he HRr HT;subst hrf;generalize x.1=k0 at*;generalize y.1=m0 at*;generalize x.2.1=k1 at*;generalize y.2.1=m1 at*;generalize x.2.2=k2 at*;generalize y.2.2=m2 at*;by_cases t0:k0=m0
     ·subst t0
      have q0:(k0.toList==k0.toList)=true:=by simp
      by_cases t1:k1=m1
      ·subst t1
       have q1:(k1.toList==k1.toList)=true:=by simp
       have d2:=Rn.dr (fun h:k2=m2=>HNE.out ⟨rfl,rfl,h⟩);clear HNE;go_upto_region 6 with fail;go_quiet (fail);generalize hW:World.drewN _ _=W4;have hb4:Below w.heap.size w W4:=by rw[←hW];exact aZ hbw _
       clear hW;go_wp2;go_ret;exact⟨rfl,hb4⟩
      ·have d1:=Rn.dr t1
       clear HNE t1;go_upto_region 6 with fail;go_quiet (fail);generalize hW:World.drewN _ _=W4;have hb4:Below w.heap.size w W4:=by rw[←hW];exact aZ hbw _
       clear hW;go_wp2;go_ret;exact⟨rfl,hb4⟩
     ·have d0:=Rn.dr t0
      clear HNE t0;go_upto_region 6 with fail;go_quiet (fail);generalize hW:World.drewN _ _=W4;have hb4:Below w.heap.size w W4:=by rw[←hW];exact aZ hbw _
      clear hW;go_wp2;go_ret;exact⟨rfl,hb4⟩
   ·have hil:(((i:Nat):Int)<(n:Int))=False:=by simp;omega
    have hrt:r=true:=by
     rw[HRr.out];refine cT (wz (hn.trans LM.out) (fun j h3 h4=>HJ.out j _ _ (by omega) (aO h3) (aO h4)))
    clear HRr HT;subst hrt;go_wp2;go_ret;exact⟨rfl,hbw⟩
 ·have hd:decide (L=M)=false:=bK (fun e=>hlen (by rw[e]))
  rw[hd];have hne:(((L.length:Nat):Int)==(M.length:Int))=false:=int_ne hlen;clear hd h1 h2;generalize L.length=n at*;generalize M.length=m at*;go_enter func394,ntmps394;go_wp2;go_ret;exact⟨rfl,ae _ _⟩
open Classical in
theorem Ae(u v:zV)(L M:List zA)(w:zW)(hL:L.length≤16777216)(h1:RdA A fW w u L)(h2:RdA A2 fW w v M):
  zC 116 #[u,v] w fun e w'=>e=.returned (.bool (decide (L=M)))∧Below w.heap.size w w':=by
 obtain⟨a1,c1,e1⟩:=h1.len;obtain⟨a2,c2,e2⟩:=h2.len;subst e1;subst e2;by_cases hlen:L.length=M.length
 ·have D1:Aside _:=h1
  have D2:Aside _:=h2;rw[←hlen];have LM:Hid (L.length=M.length):=hlen
  have HT:Hid (∀b:Bool,(b=true↔L=M)→decide (L=M)=b):=fun b hb=>by
   cases b
   ·exact bK (fun e=>by have:=hb.2 e;cases this)
   ·exact cT (hb.1 rfl)
  obtain⟨r,hr⟩:∃r,r=decide (L=M):=⟨_,rfl⟩;rw[←hr];have HRr:Hid (r=decide (L=M)):=hr;clear hr h1 h2 hlen
  have FG:Hid (∀wr,Below w.heap.size w wr→∀i,i<L.length→∃(x y:zA)(b o:Nat)(b' o':Nat),L[i]?=some x∧M[i]?=some y∧a1=some ⟨b,o,none⟩∧a2=some ⟨b',o',none⟩∧wr.cell? ⟨b,o+i,none⟩=some (.string x)∧wr.cell? ⟨b',o'+i,none⟩=some (.string y)):=fun wr hb i hi=>by
   obtain⟨b,o,c,eg,hx⟩:=RdA.at (A:=A) (L:=L) D1.out Dl (by decide) hb i hi;injection eg with eg1 _ _;have hi2:i<M.length:=by have:=LM.out;omega
   obtain⟨b',o',c',eg',hy⟩:=RdA.at (A:=A2) (L:=M) D2.out Dl (by decide) hb i hi2;injection eg' with E3 _ _;refine⟨L[i],M[i],b,o,b',o',aO hi,aO hi2,eg1,E3,?_,?_⟩
   ·have:=hx 0 _ rfl;simpa using this
   ·have:=hy 0 _ rfl;simpa using this
  clear D1 D2;generalize hn:L.length=n at*;have qm:(((n:Nat):Int)==(n:Int))=true:=by simp
  go_enter func116,ntmps116;go_wp2;go_loopg [13] n (fun gg s wr=>∃i:Nat,i≤n∧n-i≤gg∧s=zI i∧Below w.heap.size w wr∧Hid (∀j x y,j<i→L[j]?=some x→M[j]?=some y→x=y))
  case atStart=>exact⟨0,by omega,by omega,rfl,ae _ _,fun j x y h=>absurd h (dz _)⟩
  case round=>
   obtain⟨i,hi,hg,rfl,hbw,HJ⟩:=hrel;by_cases hin:i<n
   ·obtain⟨x,y,b,o,b',o',hx,hy,rfl,rfl,x0,y0⟩:=FG.out wr hbw i hin
    have hil:((i:Nat):Int)<(n:Int):=by omega
    by_cases he:x=y
    ·subst he
     have HN:Hid (∀j x y,j<i+1→L[j]?=some x→M[j]?=some y→x=y):=fun j x' y' hj h3 h4=>by
      by_cases e:j=i
      ·subst e
       rw[hx] at h3;rw[hy] at h4;rw[←cY h3,←cY h4]
      ·exact HJ.out j x' y' (by omega) h3 h4
     clear hx hy;have q0:(x.toList==x.toList)=true:=by simp
     go_upto_region 6 with fail;go_quiet (fail);generalize hW:World.drewN _ _=W4;have hb4:Below w.heap.size w W4:=by rw[←hW];exact aZ hbw _
     clear hW;go_wp2;go_roundg (n-(i+1))
     case measure=>omega
     case rel=>exact⟨i+1,by omega,by omega,by go_num,hb4,HN⟩
    ·have hrf:r=false:=by
      rw[HRr.out];exact bK (fun e=>he (by subst e;rw[hx] at hy;exact cY hy))
     have HNE:Hid (¬(x=y)):=fun h=>he (h)
     clear hx hy he HRr HT;subst hrf;have d0:=Rn.dr (fun h:x=y=>HNE.out h);clear HNE;go_upto_region 6 with fail;go_quiet (fail);generalize hW:World.drewN _ _=W4;have hb4:Below w.heap.size w W4:=by rw[←hW];exact aZ hbw _
     clear hW;go_wp2;go_ret;exact⟨rfl,hb4⟩
   ·have hil:(((i:Nat):Int)<(n:Int))=False:=by simp;omega
    have hrt:r=true:=by
     rw[HRr.out];refine cT (wz (hn.trans LM.out) (fun j h3 h4=>HJ.out j _ _ (by omega) (aO h3) (aO h4)))
    clear HRr HT;subst hrt;go_wp2;go_ret;exact⟨rfl,hbw⟩
 ·have hd:decide (L=M)=false:=bK (fun e=>hlen (by rw[e]))
  rw[hd];have hne:(((L.length:Nat):Int)==(M.length:Int))=false:=int_ne hlen;clear hd h1 h2;generalize L.length=n at*;generalize M.length=m at*;go_enter func116,ntmps116;go_wp2;go_ret;exact⟨rfl,ae _ _⟩
end Pn
namespace Pn
open Mf
variable{A:Nat→Prop}
def Small:Fi→Prop
 | .man _ m=>m.R.length≤100000∧m.X.length≤100000∧m.S.length≤100000
 | .idx _ vs=>vs.length≤100000
 | .wants ms ps=>ms.length≤100000∧ps.length≤100000
 | .list ms ps=>ms.length≤100000∧ps.length≤1000000
 | .ord ns ps=>ns.length≤100000∧ps.length≤100000
theorem NF(a b:zA):(a.toList==b.toList)=true↔a=b:=by
 constructor
 ·intro h
  by_cases e:a=b
  ·exact e
  ·rw[Rn.dr e] at h;cases h
 ·intro h;rw[h];simp
theorem BF(a b:Nat):(((a:Nat):Int)==(b:Int))=true↔a=b:=by
 constructor
 ·intro h
  by_cases e:a=b
  ·exact e
  ·rw[int_ne e] at h;cases h
 ·intro h;rw[h];simp
open Classical in
theorem KQ(pr pr':Nat)(p p':zA)(Rv Rv':zV)(R R':List Mo)(Xv Xv':zV)(X X':List Mo)(Sv Sv':zV)(S S':List So)(w:zW)(lR:R.length≤100000)(lX:X.length≤100000)(lS:S.length≤100000)(hR:RdA A Sm.mc w Rv R)(hX:RdA A Sm.mc w Xv X)(hS:RdA A Sw.mc w Sv S)(hR':RdA A Sm.mc w Rv' R')(hX':RdA A Sm.mc w Xv' X')(hS':RdA A Sw.mc w Sv' S'):
  zC 393 #[.agg #[zI (pr:Nat),.string p,Rv,Xv,Sv],.iface 386 (.agg #[zI (pr':Nat),.string p',Rv',Xv',Sv'])] w fun e w'=>e=.returned (.bool (decide (pr=pr'∧p=p'∧R=R'∧X=X'∧S=S')))∧Below w.heap.size w w':=by
 have KR:Hid (∀W,Below w.heap.size w W→zC 390 #[Rv,Rv'] W fun e w'=>e=.returned (.bool (decide (R=R')))∧Below W.heap.size W w'):=fun W hb=>pX Rv Rv' R R' W (by omega) (hR.below hb) (hR'.below hb)
 obtain⟨aR,cR,eR⟩:=hR.len;obtain⟨aR',cR',eR'⟩:=hR'.len;have KX:Hid (∀W,Below w.heap.size w W→zC 390 #[Xv,Xv'] W fun e w'=>e=.returned (.bool (decide (X=X')))∧Below W.heap.size W w'):=fun W hb=>pX Xv Xv' X X' W (by omega) (hX.below hb) (hX'.below hb)
 obtain⟨aX,cX,eX⟩:=hX.len;obtain⟨aX',cX',eX'⟩:=hX'.len;have KS:Hid (∀W,Below w.heap.size w W→zC 394 #[Sv,Sv'] W fun e w'=>e=.returned (.bool (decide (S=S')))∧Below W.heap.size W w'):=fun W hb=>Ii Sv Sv' S S' W (by omega) (hS.below hb) (hS'.below hb)
 obtain⟨aS,cS,eS⟩:=hS.len;obtain⟨aS',cS',eS'⟩:=hS'.len
 have HE:decide (pr=pr'∧p=p'∧R=R'∧X=X'∧S=S')=((((pr:Nat):Int)==(pr':Int))&&(p.toList==p'.toList)&&(decide (R=R'))&&(decide (X=X'))&&(decide (S=S'))):=by
  rw[eu];simp only[iI,cG,NF,BF,and_assoc]
 rw[HE];clear HE;clear hR hR';clear hX hX';clear hS hS';subst eR;subst eR';subst eX;subst eX';subst eS;subst eS';generalize hb0:(((pr:Nat):Int)==(pr':Int))=b0;generalize hb1:(p.toList==p'.toList)=b1;generalize decide (R=R')=b2 at*;generalize decide (X=X')=b3 at*;generalize decide (S=S')=b4 at*;generalize R.length=nR at*;generalize R'.length=nR' at*;generalize X.length=nX at*;generalize X'.length=nX' at*;generalize S.length=nS at*;generalize S'.length=nS' at*;have t0:=KJ (.agg #[zI (pr':Nat),.string p',.slice aR' nR' cR',.slice aX' nX' cX',.slice aS' nS' cS']) (w.alloc (.cells #[zI (pr:Nat),.string p,.slice aR nR cR,.slice aX nX cX,.slice aS nS cS] 386));have hb1:Below w.heap.size w (w.alloc (.cells #[zI (pr:Nat),.string p,.slice aR nR cR,.slice aX nX cX,.slice aS nS cS] 386)):=(ae _ _).alloc (ag _) _;have HB:Hid (Below w.heap.size w ((w.alloc (.cells #[zI (pr:Nat),.string p,.slice aR nR cR,.slice aX nX cX,.slice aS nS cS] 386)).alloc (.cells #[zI (pr':Nat),.string p',.slice aR' nR' cR',.slice aX' nX' cX',.slice aS' nS' cS'] 386))):=hb1.alloc hb1.size _
 have HC:Hid (∀W,Below ((w.alloc (.cells #[zI (pr:Nat),.string p,.slice aR nR cR,.slice aX nX cX,.slice aS nS cS] 386)).alloc (.cells #[zI (pr':Nat),.string p',.slice aR' nR' cR',.slice aX' nX' cX',.slice aS' nS' cS'] 386)).heap.size ((w.alloc (.cells #[zI (pr:Nat),.string p,.slice aR nR cR,.slice aX nX cX,.slice aS nS cS] 386)).alloc (.cells #[zI (pr':Nat),.string p',.slice aR' nR' cR',.slice aX' nX' cX',.slice aS' nS' cS'] 386)) W→W.cell? ⟨w.heap.size,0,none⟩=some (zI (pr:Nat))∧W.cell? ⟨w.heap.size,1,none⟩=some (.string p)∧W.cell? ⟨w.heap.size,2,none⟩=some (.slice aR nR cR)∧W.cell? ⟨w.heap.size,3,none⟩=some (.slice aX nX cX)∧W.cell? ⟨w.heap.size,4,none⟩=some (.slice aS nS cS)∧W.cell? ⟨w.heap.size+1,0,none⟩=some (zI (pr':Nat))∧W.cell? ⟨w.heap.size+1,1,none⟩=some (.string p')∧W.cell? ⟨w.heap.size+1,2,none⟩=some (.slice aR' nR' cR')∧W.cell? ⟨w.heap.size+1,3,none⟩=some (.slice aX' nX' cX')∧W.cell? ⟨w.heap.size+1,4,none⟩=some (.slice aS' nS' cS')):=fun W hb=>by
  refine⟨?_,?_,?_,?_,?_,?_,?_,?_,?_,?_⟩<;>(rw[hb.cell (by simp<;>omega)];simp[go_sem])
 clear hb1;go_enter func393,ntmps393;go_upto_region 4 with fail;clear t0;generalize hW2:((w.alloc (.cells #[zI (pr:Nat),.string p,.slice aR nR cR,.slice aX nX cX,.slice aS nS cS] 386)).alloc (.cells #[zI (pr':Nat),.string p',.slice aR' nR' cR',.slice aX' nX' cX',.slice aS' nS' cS'] 386))=W2 at*;generalize hbx:w.heap.size=bx at*;clear hW2;obtain⟨x0,x1,x2,x3,x4,y0,y1,y2,y3,y4⟩:=HC.out W2 (ae _ _);have HBW:Hid (Below bx w W2):=HB;clear HB;cases b0
 ·go_wp2
  go_ret;exact⟨rfl,by have h:=HBW.out;first|exact h|(rw[←hbx] at h;exact h)⟩
 ·cases b1
  ·go_wp2
   go_ret;exact⟨rfl,by have h:=HBW.out;first|exact h|(rw[←hbx] at h;exact h)⟩
  ·go_wp2_with (go_at_call 390;fail)
   go_at_call 390;refine(KR.out _ (by have h:=HBW.out;exact h)).mono ?_;rintro e v2 ⟨rfl,hv2⟩;have HBv2:Hid (Below bx w v2):=(HBW.out).trans (hv2.mono (by have h:=(HBW.out).size;omega));have HWv2:Hid (Below W2.heap.size W2 v2):=hv2;obtain⟨S7,S8,S9,Ta,Tb,Td,Te,Tf,Tg,Ti⟩:=HC.out v2 HWv2.out;cases b2
   ·go_wp2
    go_ret;exact⟨rfl,by have h:=HBv2.out;first|exact h|(rw[←hbx] at h;exact h)⟩
   ·go_wp2_with (go_at_call 390;fail)
    go_at_call 390;refine(KX.out _ (by have h:=HBv2.out;exact h)).mono ?_;rintro e v3 ⟨rfl,hv3⟩;have HBv3:Hid (Below bx w v3):=(HBv2.out).trans (hv3.mono (by have h:=(HBv2.out).size;omega));have HWv3:Hid (Below W2.heap.size W2 v3):=HWv2.out.trans (hv3.mono HWv2.out.size);obtain⟨Tj,Tk,Tl,Tm,Tn,Tp,Tq,Ts,Tv,Tw⟩:=HC.out v3 HWv3.out;cases b3
    ·go_wp2
     go_ret;exact⟨rfl,by have h:=HBv3.out;first|exact h|(rw[←hbx] at h;exact h)⟩
    ·go_wp2_with (go_at_call 394;fail)
     go_at_call 394;refine(KS.out _ (by have h:=HBv3.out;exact h)).mono ?_;rintro e v4 ⟨rfl,hv4⟩;have HBv4:Hid (Below bx w v4):=(HBv3.out).trans (hv4.mono (by have h:=(HBv3.out).size;omega));go_wp2;go_ret;exact⟨by simp,by have h:=HBv4.out;first|exact h|(rw[←hbx] at h;exact h)⟩
theorem KT(pr:Nat)(p:zA)(aR:Option Addr)(nR cR:Nat)(aX:Option Addr)(nX cX:Nat)(aS:Option Addr)(nS cS:Nat)(w:zW):zC 393 #[.agg #[zI (pr:Nat),.string p,.slice aR nR cR,.slice aX nX cX,.slice aS nS cS],.nilIface] w fun e w'=>e=.returned (.bool false)∧Below w.heap.size w w':=by
 have t0:=Nz (w.alloc (.cells #[zI (pr:Nat),.string p,.slice aR nR cR,.slice aX nX cX,.slice aS nS cS] 386));have HB:Hid (Below w.heap.size w (w.alloc (.cells #[zI (pr:Nat),.string p,.slice aR nR cR,.slice aX nX cX,.slice aS nS cS] 386))):=(ae _ _).alloc (ag _) _;go_enter func393,ntmps393;go_wp2;go_ret;exact⟨rfl,HB.out⟩
open Classical in
theorem KU(pr pr':Nat)(vsv NG:zV)(vs vs':List zA)(w:zW)(lvs:vs.length≤100000)(hvs:RdA A fW w vsv vs)(PZ:RdA A fW w NG vs'):
  zC 395 #[.agg #[zI (pr:Nat),vsv],.iface 389 (.agg #[zI (pr':Nat),NG])] w fun e w'=>e=.returned (.bool (decide (pr=pr'∧vs=vs')))∧Below w.heap.size w w':=by
 have Kvs:Hid (∀W,Below w.heap.size w W→zC 116 #[vsv,NG] W fun e w'=>e=.returned (.bool (decide (vs=vs')))∧Below W.heap.size W w'):=fun W hb=>Ae vsv NG vs vs' W (by omega) (hvs.below hb) (PZ.below hb)
 obtain⟨avs,cvs,evs⟩:=hvs.len;obtain⟨Ij,Ik,Sb⟩:=PZ.len
 have HE:decide (pr=pr'∧vs=vs')=((((pr:Nat):Int)==(pr':Int))&&(decide (vs=vs'))):=by
  rw[eu];simp only[iI,cG,BF]
 rw[HE];clear HE;clear hvs PZ;subst evs;subst Sb;generalize hb0:(((pr:Nat):Int)==(pr':Int))=b0;generalize decide (vs=vs')=b1 at*;generalize vs.length=nvs at*;generalize vs'.length=Il at*;have t0:=KL (.agg #[zI (pr':Nat),.slice Ij Il Ik]) (w.alloc (.cells #[zI (pr:Nat),.slice avs nvs cvs] 389));have hb1:Below w.heap.size w (w.alloc (.cells #[zI (pr:Nat),.slice avs nvs cvs] 389)):=(ae _ _).alloc (ag _) _;have HB:Hid (Below w.heap.size w ((w.alloc (.cells #[zI (pr:Nat),.slice avs nvs cvs] 389)).alloc (.cells #[zI (pr':Nat),.slice Ij Il Ik] 389))):=hb1.alloc hb1.size _
 have HC:Hid (∀W,Below ((w.alloc (.cells #[zI (pr:Nat),.slice avs nvs cvs] 389)).alloc (.cells #[zI (pr':Nat),.slice Ij Il Ik] 389)).heap.size ((w.alloc (.cells #[zI (pr:Nat),.slice avs nvs cvs] 389)).alloc (.cells #[zI (pr':Nat),.slice Ij Il Ik] 389)) W→W.cell? ⟨w.heap.size,0,none⟩=some (zI (pr:Nat))∧W.cell? ⟨w.heap.size,1,none⟩=some (.slice avs nvs cvs)∧W.cell? ⟨w.heap.size+1,0,none⟩=some (zI (pr':Nat))∧W.cell? ⟨w.heap.size+1,1,none⟩=some (.slice Ij Il Ik)):=fun W hb=>by
  refine⟨?_,?_,?_,?_⟩<;>(rw[hb.cell (by simp<;>omega)];simp[go_sem])
 clear hb1;go_enter func395,ntmps395;go_upto_region 4 with fail;clear t0;generalize hW2:((w.alloc (.cells #[zI (pr:Nat),.slice avs nvs cvs] 389)).alloc (.cells #[zI (pr':Nat),.slice Ij Il Ik] 389))=W2 at*;generalize hbx:w.heap.size=bx at*;clear hW2;obtain⟨x0,x1,y0,y1⟩:=HC.out W2 (ae _ _);have HBW:Hid (Below bx w W2):=HB;clear HB;cases b0
 ·go_wp2
  go_ret;exact⟨rfl,by have h:=HBW.out;first|exact h|(rw[←hbx] at h;exact h)⟩
 ·go_wp2_with (go_at_call 116;fail)
  go_at_call 116;refine(Kvs.out _ (by have h:=HBW.out;exact h)).mono ?_;rintro e v1 ⟨rfl,hv1⟩;have HBv1:Hid (Below bx w v1):=(HBW.out).trans (hv1.mono (by have h:=(HBW.out).size;omega));go_wp2;go_ret;exact⟨by simp,by have h:=HBv1.out;first|exact h|(rw[←hbx] at h;exact h)⟩
theorem KV(pr:Nat)(avs:Option Addr)(nvs cvs:Nat)(w:zW):zC 395 #[.agg #[zI (pr:Nat),.slice avs nvs cvs],.nilIface] w fun e w'=>e=.returned (.bool false)∧Below w.heap.size w w':=by
 have t0:=NA (w.alloc (.cells #[zI (pr:Nat),.slice avs nvs cvs] 389));have HB:Hid (Below w.heap.size w (w.alloc (.cells #[zI (pr:Nat),.slice avs nvs cvs] 389))):=(ae _ _).alloc (ag _) _;go_enter func395,ntmps395;go_wp2;go_ret;exact⟨rfl,HB.out⟩
open Classical in
theorem E4(msv BG:zV)(ms ms':List Mo)(psv vZ:zV)(ps ps':List Pb)(w:zW)(lms:ms.length≤100000)(lps:ps.length≤100000)(hms:RdA A Sm.mc w msv ms)(hps:RdA A aT w psv ps)(E5:RdA A Sm.mc w BG ms')(E6:RdA A aT w vZ ps'):
  zC 396 #[.agg #[msv,psv],.iface 391 (.agg #[BG,vZ])] w fun e w'=>e=.returned (.bool (decide (ms=ms'∧ps=ps')))∧Below w.heap.size w w':=by
 have Kms:Hid (∀W,Below w.heap.size w W→zC 390 #[msv,BG] W fun e w'=>e=.returned (.bool (decide (ms=ms')))∧Below W.heap.size W w'):=fun W hb=>pX msv BG ms ms' W (by omega) (hms.below hb) (E5.below hb)
 obtain⟨ams,cms,ems⟩:=hms.len;obtain⟨uD,uE,P0⟩:=E5.len;have Kps:Hid (∀W,Below w.heap.size w W→zC 392 #[psv,vZ] W fun e w'=>e=.returned (.bool (decide (ps=ps')))∧Below W.heap.size W w'):=fun W hb=>Dm psv vZ ps ps' W (by omega) (hps.below hb) (E6.below hb)
 obtain⟨aps,cps,eps⟩:=hps.len;obtain⟨mA,mB,P3⟩:=E6.len
 have HE:decide (ms=ms'∧ps=ps')=((decide (ms=ms'))&&(decide (ps=ps'))):=by
  rw[eu];simp only[iI,cG]
 rw[HE];clear HE;clear hms E5;clear hps E6;subst ems;subst P0;subst eps;subst P3;generalize decide (ms=ms')=b0 at*;generalize decide (ps=ps')=b1 at*;generalize ms.length=nms at*;generalize ms'.length=uF at*;generalize ps.length=nps at*;generalize ps'.length=mC at*;have t0:=KM (.agg #[.slice uD uF uE,.slice mA mC mB]) (w.alloc (.cells #[.slice ams nms cms,.slice aps nps cps] 391));have hb1:Below w.heap.size w (w.alloc (.cells #[.slice ams nms cms,.slice aps nps cps] 391)):=(ae _ _).alloc (ag _) _;have HB:Hid (Below w.heap.size w ((w.alloc (.cells #[.slice ams nms cms,.slice aps nps cps] 391)).alloc (.cells #[.slice uD uF uE,.slice mA mC mB] 391))):=hb1.alloc hb1.size _
 have HC:Hid (∀W,Below ((w.alloc (.cells #[.slice ams nms cms,.slice aps nps cps] 391)).alloc (.cells #[.slice uD uF uE,.slice mA mC mB] 391)).heap.size ((w.alloc (.cells #[.slice ams nms cms,.slice aps nps cps] 391)).alloc (.cells #[.slice uD uF uE,.slice mA mC mB] 391)) W→W.cell? ⟨w.heap.size,0,none⟩=some (.slice ams nms cms)∧W.cell? ⟨w.heap.size,1,none⟩=some (.slice aps nps cps)∧W.cell? ⟨w.heap.size+1,0,none⟩=some (.slice uD uF uE)∧W.cell? ⟨w.heap.size+1,1,none⟩=some (.slice mA mC mB)):=fun W hb=>by
  refine⟨?_,?_,?_,?_⟩<;>(rw[hb.cell (by simp<;>omega)];simp[go_sem])
 clear hb1;go_enter func396,ntmps396;go_upto_region 4 with fail;clear t0;generalize hW2:((w.alloc (.cells #[.slice ams nms cms,.slice aps nps cps] 391)).alloc (.cells #[.slice uD uF uE,.slice mA mC mB] 391))=W2 at*;generalize hbx:w.heap.size=bx at*;clear hW2;obtain⟨x0,x1,y0,y1⟩:=HC.out W2 (ae _ _);have HBW:Hid (Below bx w W2):=HB;clear HB
 go_wp2_with (go_at_call 390;fail)
 go_at_call 390;refine(Kms.out _ (by have h:=HBW.out;exact h)).mono ?_;rintro e v0 ⟨rfl,hv0⟩;have HBv0:Hid (Below bx w v0):=(HBW.out).trans (hv0.mono (by have h:=(HBW.out).size;omega));have HWv0:Hid (Below W2.heap.size W2 v0):=hv0;obtain⟨Sc,Sd,Se,Sf⟩:=HC.out v0 HWv0.out;cases b0
 ·go_wp2
  go_ret;exact⟨rfl,by have h:=HBv0.out;first|exact h|(rw[←hbx] at h;exact h)⟩
 ·go_wp2_with (go_at_call 392;fail)
  go_at_call 392;refine(Kps.out _ (by have h:=HBv0.out;exact h)).mono ?_;rintro e v1 ⟨rfl,hv1⟩;have HBv1:Hid (Below bx w v1):=(HBv0.out).trans (hv1.mono (by have h:=(HBv0.out).size;omega));go_wp2;go_ret;exact⟨by simp,by have h:=HBv1.out;first|exact h|(rw[←hbx] at h;exact h)⟩
theorem E7(ams:Option Addr)(nms cms:Nat)(aps:Option Addr)(nps cps:Nat)(w:zW):zC 396 #[.agg #[.slice ams nms cms,.slice aps nps cps],.nilIface] w fun e w'=>e=.returned (.bool false)∧Below w.heap.size w w':=by
 have t0:=NB (w.alloc (.cells #[.slice ams nms cms,.slice aps nps cps] 391));have HB:Hid (Below w.heap.size w (w.alloc (.cells #[.slice ams nms cms,.slice aps nps cps] 391))):=(ae _ _).alloc (ag _) _;go_enter func396,ntmps396;go_wp2;go_ret;exact⟨rfl,HB.out⟩
open Classical in
theorem Im(msv BG:zV)(ms ms':List Mo)(psv vZ:zV)(w:zW)(lms:ms.length≤100000)(hms:RdA A Sm.mc w msv ms)(E5:RdA A Sm.mc w BG ms')(sps:∃a n c,psv=.slice a n c)(Sg:∃a n c,vZ=.slice a n c):
  zC 389 #[.agg #[msv,psv],.iface 176 (.agg #[BG,vZ])] w fun e w'=>e=.returned (.bool (decide (ms=ms')))∧Below w.heap.size w w':=by
 have Kms:Hid (∀W,Below w.heap.size w W→zC 390 #[msv,BG] W fun e w'=>e=.returned (.bool (decide (ms=ms')))∧Below W.heap.size W w'):=fun W hb=>pX msv BG ms ms' W (by omega) (hms.below hb) (E5.below hb)
 obtain⟨ams,cms,ems⟩:=hms.len;obtain⟨uD,uE,P0⟩:=E5.len;obtain⟨aps,nps,cps,rfl⟩:=sps;obtain⟨mA,mC,mB,rfl⟩:=Sg;clear hms E5;subst ems;subst P0;generalize decide (ms=ms')=b0 at*;generalize ms.length=nms at*;generalize ms'.length=uF at*;have t0:=KN (.agg #[.slice uD uF uE,.slice mA mC mB]) (w.alloc (.cells #[.slice ams nms cms,.slice aps nps cps] 176));have hb1:Below w.heap.size w (w.alloc (.cells #[.slice ams nms cms,.slice aps nps cps] 176)):=(ae _ _).alloc (ag _) _;have HB:Hid (Below w.heap.size w ((w.alloc (.cells #[.slice ams nms cms,.slice aps nps cps] 176)).alloc (.cells #[.slice uD uF uE,.slice mA mC mB] 176))):=hb1.alloc hb1.size _
 have HC:Hid (∀W,Below ((w.alloc (.cells #[.slice ams nms cms,.slice aps nps cps] 176)).alloc (.cells #[.slice uD uF uE,.slice mA mC mB] 176)).heap.size ((w.alloc (.cells #[.slice ams nms cms,.slice aps nps cps] 176)).alloc (.cells #[.slice uD uF uE,.slice mA mC mB] 176)) W→W.cell? ⟨w.heap.size,0,none⟩=some (.slice ams nms cms)∧W.cell? ⟨w.heap.size,1,none⟩=some (.slice aps nps cps)∧W.cell? ⟨w.heap.size+1,0,none⟩=some (.slice uD uF uE)∧W.cell? ⟨w.heap.size+1,1,none⟩=some (.slice mA mC mB)):=fun W hb=>by
  refine⟨?_,?_,?_,?_⟩<;>(rw[hb.cell (by simp<;>omega)];simp[go_sem])
 clear hb1;go_enter func389,ntmps389;go_upto_region 4 with fail;clear t0;generalize hW2:((w.alloc (.cells #[.slice ams nms cms,.slice aps nps cps] 176)).alloc (.cells #[.slice uD uF uE,.slice mA mC mB] 176))=W2 at*;generalize hbx:w.heap.size=bx at*;clear hW2;obtain⟨x0,x1,y0,y1⟩:=HC.out W2 (ae _ _);have HBW:Hid (Below bx w W2):=HB;clear HB
 go_wp2_with (go_at_call 390;fail)
 go_at_call 390;refine(Kms.out _ (by have h:=HBW.out;exact h)).mono ?_;rintro e v0 ⟨rfl,hv0⟩;have HBv0:Hid (Below bx w v0):=(HBW.out).trans (hv0.mono (by have h:=(HBW.out).size;omega));go_wp2;go_ret;exact⟨by simp,by have h:=HBv0.out;first|exact h|(rw[←hbx] at h;exact h)⟩
theorem Io(ams:Option Addr)(nms cms:Nat)(aps:Option Addr)(nps cps:Nat)(w:zW):zC 389 #[.agg #[.slice ams nms cms,.slice aps nps cps],.nilIface] w fun e w'=>e=.returned (.bool false)∧Below w.heap.size w w':=by
 have t0:=NC (w.alloc (.cells #[.slice ams nms cms,.slice aps nps cps] 176));have HB:Hid (Below w.heap.size w (w.alloc (.cells #[.slice ams nms cms,.slice aps nps cps] 176))):=(ae _ _).alloc (ag _) _;go_enter func389,ntmps389;go_wp2;go_ret;exact⟨rfl,HB.out⟩
open Classical in
theorem KW(nsv NH:zV)(ns ns':List zA)(psv vZ:zV)(ps ps':List Pb)(w:zW)(lns:ns.length≤100000)(lps:ps.length≤100000)(hns:RdA A fW w nsv ns)(hps:RdA A aT w psv ps)(GH:RdA A fW w NH ns')(E6:RdA A aT w vZ ps'):
  zC 391 #[.agg #[nsv,psv],.iface 179 (.agg #[NH,vZ])] w fun e w'=>e=.returned (.bool (decide (ns=ns'∧ps=ps')))∧Below w.heap.size w w':=by
 have Kns:Hid (∀W,Below w.heap.size w W→zC 116 #[nsv,NH] W fun e w'=>e=.returned (.bool (decide (ns=ns')))∧Below W.heap.size W w'):=fun W hb=>Ae nsv NH ns ns' W (by omega) (hns.below hb) (GH.below hb)
 obtain⟨ans,cns,ens⟩:=hns.len;obtain⟨Ip,Iq,Si⟩:=GH.len;have Kps:Hid (∀W,Below w.heap.size w W→zC 392 #[psv,vZ] W fun e w'=>e=.returned (.bool (decide (ps=ps')))∧Below W.heap.size W w'):=fun W hb=>Dm psv vZ ps ps' W (by omega) (hps.below hb) (E6.below hb)
 obtain⟨aps,cps,eps⟩:=hps.len;obtain⟨mA,mB,P3⟩:=E6.len
 have HE:decide (ns=ns'∧ps=ps')=((decide (ns=ns'))&&(decide (ps=ps'))):=by
  rw[eu];simp only[iI,cG]
 rw[HE];clear HE;clear hns GH;clear hps E6;subst ens;subst Si;subst eps;subst P3;generalize decide (ns=ns')=b0 at*;generalize decide (ps=ps')=b1 at*;generalize ns.length=nns at*;generalize ns'.length=Ir at*;generalize ps.length=nps at*;generalize ps'.length=mC at*;have t0:=KO (.agg #[.slice Ip Ir Iq,.slice mA mC mB]) (w.alloc (.cells #[.slice ans nns cns,.slice aps nps cps] 179));have hb1:Below w.heap.size w (w.alloc (.cells #[.slice ans nns cns,.slice aps nps cps] 179)):=(ae _ _).alloc (ag _) _;have HB:Hid (Below w.heap.size w ((w.alloc (.cells #[.slice ans nns cns,.slice aps nps cps] 179)).alloc (.cells #[.slice Ip Ir Iq,.slice mA mC mB] 179))):=hb1.alloc hb1.size _
 have HC:Hid (∀W,Below ((w.alloc (.cells #[.slice ans nns cns,.slice aps nps cps] 179)).alloc (.cells #[.slice Ip Ir Iq,.slice mA mC mB] 179)).heap.size ((w.alloc (.cells #[.slice ans nns cns,.slice aps nps cps] 179)).alloc (.cells #[.slice Ip Ir Iq,.slice mA mC mB] 179)) W→W.cell? ⟨w.heap.size,0,none⟩=some (.slice ans nns cns)∧W.cell? ⟨w.heap.size,1,none⟩=some (.slice aps nps cps)∧W.cell? ⟨w.heap.size+1,0,none⟩=some (.slice Ip Ir Iq)∧W.cell? ⟨w.heap.size+1,1,none⟩=some (.slice mA mC mB)):=fun W hb=>by
  refine⟨?_,?_,?_,?_⟩<;>(rw[hb.cell (by simp<;>omega)];simp[go_sem])
 clear hb1;go_enter func391,ntmps391;go_upto_region 4 with fail;clear t0;generalize hW2:((w.alloc (.cells #[.slice ans nns cns,.slice aps nps cps] 179)).alloc (.cells #[.slice Ip Ir Iq,.slice mA mC mB] 179))=W2 at*;generalize hbx:w.heap.size=bx at*;clear hW2;obtain⟨x0,x1,y0,y1⟩:=HC.out W2 (ae _ _);have HBW:Hid (Below bx w W2):=HB;clear HB
 go_wp2_with (go_at_call 116;fail)
 go_at_call 116;refine(Kns.out _ (by have h:=HBW.out;exact h)).mono ?_;rintro e v0 ⟨rfl,hv0⟩;have HBv0:Hid (Below bx w v0):=(HBW.out).trans (hv0.mono (by have h:=(HBW.out).size;omega));have HWv0:Hid (Below W2.heap.size W2 v0):=hv0;obtain⟨Sc,Sd,Se,Sf⟩:=HC.out v0 HWv0.out;cases b0
 ·go_wp2
  go_ret;exact⟨rfl,by have h:=HBv0.out;first|exact h|(rw[←hbx] at h;exact h)⟩
 ·go_wp2_with (go_at_call 392;fail)
  go_at_call 392;refine(Kps.out _ (by have h:=HBv0.out;exact h)).mono ?_;rintro e v1 ⟨rfl,hv1⟩;have HBv1:Hid (Below bx w v1):=(HBv0.out).trans (hv1.mono (by have h:=(HBv0.out).size;omega));go_wp2;go_ret;exact⟨by simp,by have h:=HBv1.out;first|exact h|(rw[←hbx] at h;exact h)⟩
theorem KY(ans:Option Addr)(nns cns:Nat)(aps:Option Addr)(nps cps:Nat)(w:zW):zC 391 #[.agg #[.slice ans nns cns,.slice aps nps cps],.nilIface] w fun e w'=>e=.returned (.bool false)∧Below w.heap.size w w':=by
 have t0:=ND (w.alloc (.cells #[.slice ans nns cns,.slice aps nps cps] 179));have HB:Hid (Below w.heap.size w (w.alloc (.cells #[.slice ans nns cns,.slice aps nps cps] 179))):=(ae _ _).alloc (ag _) _;go_enter func391,ntmps391;go_wp2;go_ret;exact⟨rfl,HB.out⟩
