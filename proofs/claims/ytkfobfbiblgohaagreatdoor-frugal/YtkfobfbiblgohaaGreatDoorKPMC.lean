import Derived.Test.YtkfobfbiblgohaaGreatDoorKPMA
set_option linter.all false
open Go.Proofs.Tryz
set_option maxRecDepth 100000
set_option maxHeartbeats 1000000
namespace Go.Proofs.YtkfobfbiblgohaaGreatDoor
open Go.RowKit
namespace Pn
theorem Li(v:zV)(W:zW):(Instr.typeAssert (.iface 216 v) 121 216 true).run prog W=.ok (.tuple #[v,.bool true]) W:=by kernel_rfl
theorem Lj(v:zV)(W:zW):(Instr.typeAssert (.iface 219 v) 121 219 true).run prog W=.ok (.tuple #[v,.bool true]) W:=by kernel_rfl
theorem Ll(v:zV)(W:zW):(Instr.typeAssert (.iface 221 v) 121 221 true).run prog W=.ok (.tuple #[v,.bool true]) W:=by kernel_rfl
theorem Lq(v:zV)(W:zW):(Instr.typeAssert (.iface 86 v) 121 86 true).run prog W=.ok (.tuple #[v,.bool true]) W:=by kernel_rfl
theorem Lt(v:zV)(W:zW):(Instr.typeAssert (.iface 89 v) 121 89 true).run prog W=.ok (.tuple #[v,.bool true]) W:=by kernel_rfl
theorem Sl(v:zV)(W:zW):(Instr.typeAssert (.iface 192 v) 190 192 true).run prog W=.ok (.tuple #[v,.bool true]) W:=by kernel_rfl
theorem Sn(v:zV)(W:zW):(Instr.typeAssert (.iface 115 v) 190 115 true).run prog W=.ok (.tuple #[v,.bool true]) W:=by kernel_rfl
theorem QQ(v:zV)(W:zW):(Instr.typeAssert (.iface 115 v) 190 192 true).run prog W=.ok (.tuple #[.agg #[zI 0,zE,zE,zE,.bool false],.bool false]) W:=by kernel_rfl
theorem IV(v:zV)(W:zW):(Instr.typeAssert (.iface 219 v) 121 216 true).run prog W=.ok (.tuple #[.agg #[zI 0,zE,zN,zN,zN],.bool false]) W:=by kernel_rfl
theorem IW(v:zV)(W:zW):(Instr.typeAssert (.iface 221 v) 121 216 true).run prog W=.ok (.tuple #[.agg #[zI 0,zE,zN,zN,zN],.bool false]) W:=by kernel_rfl
theorem IX(v:zV)(W:zW):(Instr.typeAssert (.iface 86 v) 121 216 true).run prog W=.ok (.tuple #[.agg #[zI 0,zE,zN,zN,zN],.bool false]) W:=by kernel_rfl
theorem IY(v:zV)(W:zW):(Instr.typeAssert (.iface 89 v) 121 216 true).run prog W=.ok (.tuple #[.agg #[zI 0,zE,zN,zN,zN],.bool false]) W:=by kernel_rfl
theorem IZ(v:zV)(W:zW):(Instr.typeAssert (.iface 221 v) 121 219 true).run prog W=.ok (.tuple #[.agg #[zI 0,zN],.bool false]) W:=by kernel_rfl
theorem I4(v:zV)(W:zW):(Instr.typeAssert (.iface 86 v) 121 219 true).run prog W=.ok (.tuple #[.agg #[zI 0,zN],.bool false]) W:=by kernel_rfl
theorem I5(v:zV)(W:zW):(Instr.typeAssert (.iface 89 v) 121 219 true).run prog W=.ok (.tuple #[.agg #[zI 0,zN],.bool false]) W:=by kernel_rfl
theorem I6(v:zV)(W:zW):(Instr.typeAssert (.iface 86 v) 121 221 true).run prog W=.ok (.tuple #[.agg #[zN,zN],.bool false]) W:=by kernel_rfl
theorem I7(v:zV)(W:zW):(Instr.typeAssert (.iface 89 v) 121 221 true).run prog W=.ok (.tuple #[.agg #[zN,zN],.bool false]) W:=by kernel_rfl
theorem I8(v:zV)(W:zW):(Instr.typeAssert (.iface 89 v) 121 86 true).run prog W=.ok (.tuple #[.agg #[zN,zN],.bool false]) W:=by kernel_rfl
theorem N7(W:zW):(Instr.typeAssert .nilIface 121 216 true).run prog W=.ok (.tuple #[.agg #[zI 0,zE,zN,zN,zN],.bool false]) W:=by kernel_rfl
theorem N8(W:zW):(Instr.typeAssert .nilIface 121 219 true).run prog W=.ok (.tuple #[.agg #[zI 0,zN],.bool false]) W:=by kernel_rfl
theorem N9(W:zW):(Instr.typeAssert .nilIface 121 221 true).run prog W=.ok (.tuple #[.agg #[zN,zN],.bool false]) W:=by kernel_rfl
theorem Oa(W:zW):(Instr.typeAssert .nilIface 121 86 true).run prog W=.ok (.tuple #[.agg #[zN,zN],.bool false]) W:=by kernel_rfl
theorem Ob(W:zW):(Instr.typeAssert .nilIface 121 89 true).run prog W=.ok (.tuple #[.agg #[zN,zN],.bool false]) W:=by kernel_rfl
end Pn
namespace Pn
open Mf Ed
variable{w w' W G Y:zW}{A:Nat->Prop}{I Q J:Nat}{cap:Int}{cs:List Int}{D:List Kp}
def kU:Fi->Nat
 | .man _ _=>0
 | .idx _ _=>1
 | .wants _ _=>2
 | .list _ _=>3
 | .ord _ _=>4
def bump(cs:List Int)(j:Nat):List Int:=cs.set j (wrap64 (cs[j]?.getD 0+1))
theorem eY.bump(h:eY A w I Q J cap cs D)(j:Nat):eY A (w.setCell (tD I (3+j)) (zI (wrap64 (cs[j]?.getD 0+1)))) I Q J cap (bump cs j) D:=by
 refine⟨h.f0.set (by omega),h.f1.set (by omega),h.f2.set (by omega),fun i c E=>?_,?_,h.ne,h.hd,h.hf⟩
 ·unfold Pn.bump at E
  by_cases e:j=i
  ·subst e
   rw[List.getElem?_set_self'] at E;cases e2:cs[j]? with
   |none=>rw[e2] at E;simp at E
   |some F=>
    rw[e2] at E;simp at E;rw[<-E];exact pC (h.cn j F e2) _
  ·rw[List.getElem?_set_ne e] at E
   exact(h.cn i c E).set (by omega)
 ·obtain⟨L,M,O⟩:=h.map
  refine⟨L,M.of_block (aL _ _ _ _ (fun e=>h.ne e.symm)),O.turn ((ai.refl A w).set (a:=(tD I (3+j))) (fun _=>h.hd) _)⟩
theorem Lu{M:zV}{f:Fi}(w:zW)(h:eY A w I Q J cap cs D)(E:fW A w M f)(hc:cs.length=5):
  zC 134 #[zP I,M] w fun e w'=>e=.returned (.tuple #[])/\w'=w.setCell ⟨I,3+kU f,none⟩ (zI (wrap64 (cs[kU f]?.getD 0+1))):=by
 match cs,hc with
 |[k0,k1,k2,k3,k4],_=>
 have O:=h.cn 0 k0 rfl;have T:=h.cn 1 k1 rfl;have U:=h.cn 2 k2 rfl;have V:=h.cn 3 k3 rfl;have g4:=h.cn 4 k4 rfl;clear h;obtain⟨c0,f0⟩:=O;obtain⟨c1,f1⟩:=T;obtain⟨c2,f2⟩:=U;obtain⟨c3,f3⟩:=V;obtain⟨c4,f4⟩:=g4;cases f with
 |man F m=>
  obtain⟨rv,xv,sv,rfl,_⟩:=E;have t0:=Li (.agg #[zI F,tS m.p,rv,xv,sv]) w;go_enter func134,ntmps134;go_wp2;exact ia (v:=.tuple #[]) (by simp[results,results134,go_sem]) rfl ⟨rfl,rfl⟩
 |idx F vs=>
  obtain⟨u,rfl,_⟩:=E;have t0:=IV (.agg #[zI F,u]) w;have t1:=Lj (.agg #[zI F,u]) w;go_enter func134,ntmps134;go_wp2;exact ia (v:=.tuple #[]) (by simp[results,results134,go_sem]) rfl ⟨rfl,rfl⟩
 |wants ms ps=>
  obtain⟨a,b,rfl,_⟩:=E;have t0:=IW (.agg #[a,b]) w;have t1:=IZ (.agg #[a,b]) w;have t2:=Ll (.agg #[a,b]) w;go_enter func134,ntmps134;go_wp2;exact ia (v:=.tuple #[]) (by simp[results,results134,go_sem]) rfl ⟨rfl,rfl⟩
 |list ms ps=>
  obtain⟨a,b,rfl,_⟩:=E;have t0:=IX (.agg #[a,b]) w;have t1:=I4 (.agg #[a,b]) w;have t2:=I6 (.agg #[a,b]) w;have t3:=Lq (.agg #[a,b]) w;go_enter func134,ntmps134;go_wp2;exact ia (v:=.tuple #[]) (by simp[results,results134,go_sem]) rfl ⟨rfl,rfl⟩
 |ord ms ps=>
  obtain⟨a,b,rfl,_⟩:=E;have t0:=IY (.agg #[a,b]) w;have t1:=I5 (.agg #[a,b]) w;have t2:=I7 (.agg #[a,b]) w;have t3:=I8 (.agg #[a,b]) w;have t4:=Lt (.agg #[a,b]) w;go_enter func134,ntmps134;go_wp2;exact ia (v:=.tuple #[]) (by simp[results,results134,go_sem]) rfl ⟨rfl,rfl⟩
end Pn
namespace Pn
open Mf
variable{A A2:Nat->Prop}
theorem RdA.at{α:Type}{enc:α->List zV}{w W:zW}{v:zV}{L:List α}{s:Nat}(h:RdA A enc w v L)(T:∀x,(enc x).length=s)(U:0<s)(hb:zB w W)(i:Nat)(M:i<L.length):
  ∃b off c,v=.slice (some (tD b off)) L.length c/\∀j u,(enc L[i])[j]?=some u->W.cell? (tD b (off+i*s+j))=some u:=by
 rcases h.below hb with⟨_,h⟩|⟨b,off,c,h,_,hc⟩
 ·rw[h] at M;simp at M
 ·refine⟨b,off,c,h,fun j u O=>?_⟩
  have E:j<s:=by rw[<-T L[i]];exact(dB.1 O).1
  rw[Nat.add_assoc];refine hc _ u ?_
  have F:i*s+j<L.length*s:=by
   have:(i+1)*s<=L.length*s:=eA s M;rw[gj] at this;omega
  haveI:Inhabited α:=⟨L[i]⟩
  rw[Ss.flat_get T U L (i*s+j) F];have V:(i*s+j)/s=i:=by rw[Nat.mul_comm,Nat.mul_add_div U,Nat.div_eq_of_lt E];omega
  have e2:(i*s+j)%s=j:=by rw[Nat.mul_comm,Nat.mul_add_mod];exact Nat.mod_eq_of_lt E
  rw[V,e2,bS L i M];exact O
theorem nH:∀x:Pb,(aW x).length=3:=fun _=>rfl
theorem int_ne{a b:Nat}(h:a≠b):(((a:Nat):Int)==(b:Int))=false:=by
 rw[ij];omega
theorem nI{α:Type}{L M:List α}(E:L.length=M.length)(h:∀j (F:j<L.length) (O:j<M.length),L[j]=M[j]):L=M:=List.ext_getElem E h
open Classical in
theorem pZ(u v:zV)(L M:List Mo)(w:zW)(hL:L.length<=16777216)(h1:RdA A Sm.mc w u L)(h2:RdA A2 Sm.mc w v M):
  zC 297 #[u,v] w fun e w'=>e=.returned (.bool (decide (L=M)))/\zB w w':=by
 obtain⟨a1,c1,e1⟩:=h1.len;obtain⟨a2,c2,e2⟩:=h2.len;subst e1;subst e2;by_cases E:L.length=M.length
 ·have D1:Aside _:=h1
  have D2:Aside _:=h2;rw[<-E];have LM:=zH E
  have HT:Hid (∀b:Bool,(b=true↔L=M)->decide (L=M)=b):=fun b hb=>by
   cases b
   ·exact bD (fun e=>by have:=hb.2 e;cases this)
   ·exact bB (hb.1 rfl)
  obtain⟨r,hr⟩:∃r,r=decide (L=M):=⟨_,rfl⟩;rw[<-hr];have T:=zH hr;clear hr h1 h2 E
  have FG:Hid (∀wr,zB w wr->∀i,i<L.length->∃(x y:Mo)(b o:Nat)(b' o':Nat),L[i]?=some x/\M[i]?=some y/\a1=some (tD b o)/\a2=some (tD b' o')/\wr.cell? (tD b (o+i*2))=some (tS x.1)/\wr.cell? (tD b (o+i*2+1))=some (tS x.2)/\wr.cell? (tD b' (o'+i*2))=some (tS y.1)/\wr.cell? (tD b' (o'+i*2+1))=some (tS y.2)):=fun wr hb i hi=>by
   obtain⟨b,o,c,eg,hx⟩:=RdA.at (A:=A) (L:=L) D1.out gX (by decide) hb i hi;injection eg with a5 _ _;have a3:i<M.length:=by have:=LM.out;omega
   obtain⟨b',o',c',a4,V⟩:=RdA.at (A:=A2) (L:=M) D2.out gX (by decide) hb i a3;injection a4 with uS _ _;refine⟨L[i],M[i],b,o,b',o',aZ hi,aZ a3,a5,uS,?_,?_,?_,?_⟩
   ·have:=hx 0 _ rfl;simpa using this
   ·have:=hx 1 _ rfl;simpa using this
   ·have:=V 0 _ rfl;simpa using this
   ·have:=V 1 _ rfl;simpa using this
  clear D1 D2;generalize hn:L.length=n at*;have qm:(((n:Nat):Int)==(n:Int))=true:=by simp
  go_enter func297,ntmps297;go_wp2;go_loopg [13] n (fun gg s wr=>∃i:Nat,i<=n/\n-i<=gg/\s=zI i/\zB w wr/\Hid (∀j x y,j<i->L[j]?=some x->M[j]?=some y->x=y))
  case atStart=>exact⟨0,by omega,by omega,rfl,ae _ _,fun j x y h=>absurd h (cW _)⟩
  case round=>
   obtain⟨i,hi,hg,rfl,O,HJ⟩:=hrel;by_cases a7:i<n
   ·obtain⟨x,y,b,o,b',o',hx,V,rfl,rfl,x0,x1,y0,y1⟩:=FG.out wr O i a7
    have a6:((i:Nat):Int)<(n:Int):=by omega
    by_cases he:x=y
    ·subst he
     have HN:Hid (∀j x y,j<i+1->L[j]?=some x->M[j]?=some y->x=y):=fun j x' y' hj h3 h4=>by
      by_cases e:j=i
      ·subst e
       rw[hx] at h3;rw[V] at h4;rw[<-bL h3,<-bL h4]
      ·exact HJ.out j x' y' (by omega) h3 h4
     clear hx V;generalize x.1=k0 at*;have q0:(k0.toList==k0.toList)=true:=by simp
     generalize x.2=k1 at*;have q1:(k1.toList==k1.toList)=true:=by simp
     go_upto_region 6 with fail;go_quiet (fail);generalize U:World.drewN _ _=W4;have F:zB w W4:=by rw[<-U];exact aV O _
     clear U;go_wp2;go_roundg (n-(i+1))
     case measure=>omega
     case rel=>exact⟨i+1,by omega,by omega,by go_num,F,HN⟩
    ·have a8:r=false:=by
      rw[T.out];exact bD (fun e=>he (by subst e;rw[hx] at V;exact bL V))
     have a0:Hid (¬(x.1=y.1/\x.2=y.2)):=fun h=>he (eB h.1 h.2)
     clear hx V he T HT;subst a8;generalize x.1=k0 at*;generalize y.1=m0 at*;generalize x.2=k1 at*;generalize y.2=m1 at*;by_cases t0:k0=m0
     ·subst t0
      have q0:(k0.toList==k0.toList)=true:=by simp
      have d1:=Rn.dm (fun h:k1=m1=>a0.out ⟨rfl,h⟩);clear a0;go_upto_region 6 with fail;go_quiet (fail);generalize U:World.drewN _ _=W4;have F:zB w W4:=by rw[<-U];exact aV O _
      clear U;go_wp2;go_ret;exact⟨rfl,F⟩
     ·have d0:=Rn.dm t0
      clear a0 t0;go_upto_region 6 with fail;go_quiet (fail);generalize U:World.drewN _ _=W4;have F:zB w W4:=by rw[<-U];exact aV O _
      clear U;go_wp2;go_ret;exact⟨rfl,F⟩
   ·have a6:(((i:Nat):Int)<(n:Int))=False:=by simp;omega
    have a9:r=true:=by
     rw[T.out];refine bB (nI (hn.trans LM.out) (fun j h3 h4=>HJ.out j _ _ (by omega) (aZ h3) (aZ h4)))
    clear T HT;subst a9;go_wp2;go_ret;exact⟨rfl,O⟩
 ·have hd:decide (L=M)=false:=bD (fun e=>E (by rw[e]))
  rw[hd];have aa:(((L.length:Nat):Int)==(M.length:Int))=false:=int_ne E;clear hd h1 h2;generalize L.length=n at*;generalize M.length=m at*;go_enter func297,ntmps297;go_wp2;go_ret;exact⟨rfl,ae _ _⟩
open Classical in
theorem DU(u v:zV)(L M:List Pb)(w:zW)(hL:L.length<=16777216)(h1:RdA A aW w u L)(h2:RdA A2 aW w v M):
  zC 299 #[u,v] w fun e w'=>e=.returned (.bool (decide (L=M)))/\zB w w':=by
 obtain⟨a1,c1,e1⟩:=h1.len;obtain⟨a2,c2,e2⟩:=h2.len;subst e1;subst e2;by_cases E:L.length=M.length
 ·have D1:Aside _:=h1
  have D2:Aside _:=h2;rw[<-E];have LM:=zH E
  have HT:Hid (∀b:Bool,(b=true↔L=M)->decide (L=M)=b):=fun b hb=>by
   cases b
   ·exact bD (fun e=>by have:=hb.2 e;cases this)
   ·exact bB (hb.1 rfl)
  obtain⟨r,hr⟩:∃r,r=decide (L=M):=⟨_,rfl⟩;rw[<-hr];have V:=zH hr;clear hr h1 h2 E
  have FG:Hid (∀wr,zB w wr->∀i,i<L.length->∃(x y:Pb)(b o:Nat)(b' o':Nat),L[i]?=some x/\M[i]?=some y/\a1=some (tD b o)/\a2=some (tD b' o')/\wr.cell? (tD b (o+i*3))=some (zI (x.1:Nat))/\wr.cell? (tD b (o+i*3+1))=some (tS x.2.1)/\wr.cell? (tD b (o+i*3+2))=some (tS x.2.2)/\wr.cell? (tD b' (o'+i*3))=some (zI (y.1:Nat))/\wr.cell? (tD b' (o'+i*3+1))=some (tS y.2.1)/\wr.cell? (tD b' (o'+i*3+2))=some (tS y.2.2)):=fun wr hb i hi=>by
   obtain⟨b,o,c,eg,hx⟩:=RdA.at (A:=A) (L:=L) D1.out nH (by decide) hb i hi;injection eg with a4 _ _;have a0:i<M.length:=by have:=LM.out;omega
   obtain⟨b',o',c',a3,hy⟩:=RdA.at (A:=A2) (L:=M) D2.out nH (by decide) hb i a0;injection a3 with uS _ _;refine⟨L[i],M[i],b,o,b',o',aZ hi,aZ a0,a4,uS,?_,?_,?_,?_,?_,?_⟩
   ·have:=hx 0 _ rfl;simpa using this
   ·have:=hx 1 _ rfl;simpa using this
   ·have:=hx 2 _ rfl;simpa using this
   ·have:=hy 0 _ rfl;simpa using this
   ·have:=hy 1 _ rfl;simpa using this
   ·have:=hy 2 _ rfl;simpa using this
  clear D1 D2;generalize hn:L.length=n at*;have qm:(((n:Nat):Int)==(n:Int))=true:=by simp
  go_enter func299,ntmps299;go_wp2;go_loopg [13] n (fun gg s wr=>∃i:Nat,i<=n/\n-i<=gg/\s=zI i/\zB w wr/\Hid (∀j x y,j<i->L[j]?=some x->M[j]?=some y->x=y))
  case atStart=>exact⟨0,by omega,by omega,rfl,ae _ _,fun j x y h=>absurd h (cW _)⟩
  case round=>
   obtain⟨i,hi,hg,rfl,O,HJ⟩:=hrel;by_cases a6:i<n
   ·obtain⟨x,y,b,o,b',o',hx,hy,rfl,rfl,x0,x1,x2,y0,y1,y2⟩:=FG.out wr O i a6
    have a5:((i:Nat):Int)<(n:Int):=by omega
    by_cases he:x=y
    ·subst he
     have HN:Hid (∀j x y,j<i+1->L[j]?=some x->M[j]?=some y->x=y):=fun j x' y' hj h3 h4=>by
      by_cases e:j=i
      ·subst e
       rw[hx] at h3;rw[hy] at h4;rw[<-bL h3,<-bL h4]
      ·exact HJ.out j x' y' (by omega) h3 h4
     clear hx hy;generalize x.1=k0 at*;have q0:(((k0:Nat):Int)==(k0:Int))=true:=by simp
     generalize x.2.1=k1 at*;have q1:(k1.toList==k1.toList)=true:=by simp
     generalize x.2.2=k2 at*;have q2:(k2.toList==k2.toList)=true:=by simp
     go_upto_region 6 with fail;go_quiet (fail);generalize T:World.drewN _ _=W4;have F:zB w W4:=by rw[<-T];exact aV O _
     clear T;go_wp2;go_roundg (n-(i+1))
     case measure=>omega
     case rel=>exact⟨i+1,by omega,by omega,by go_num,F,HN⟩
    ·have a7:r=false:=by
      rw[V.out];exact bD (fun e=>he (by subst e;rw[hx] at hy;exact bL hy))
     have U:Hid (¬(x.1=y.1/\x.2.1=y.2.1/\x.2.2=y.2.2)):=fun h=>he (eB h.1 (eB h.2.1 h.2.2))
     clear hx hy he V HT;subst a7;generalize x.1=k0 at*;generalize y.1=m0 at*;generalize x.2.1=k1 at*;generalize y.2.1=m1 at*;generalize x.2.2=k2 at*;generalize y.2.2=m2 at*;by_cases t0:k0=m0
     ·subst t0
      have q0:(((k0:Nat):Int)==(k0:Int))=true:=by simp
      by_cases t1:k1=m1
      ·subst t1
       have q1:(k1.toList==k1.toList)=true:=by simp
       have d2:=Rn.dm (fun h:k2=m2=>U.out ⟨rfl,rfl,h⟩);clear U;go_upto_region 6 with fail;go_quiet (fail);generalize T:World.drewN _ _=W4;have F:zB w W4:=by rw[<-T];exact aV O _
       clear T;go_wp2;go_ret;exact⟨rfl,F⟩
      ·have d1:=Rn.dm t1
       clear U t1;go_upto_region 6 with fail;go_quiet (fail);generalize T:World.drewN _ _=W4;have F:zB w W4:=by rw[<-T];exact aV O _
       clear T;go_wp2;go_ret;exact⟨rfl,F⟩
     ·have d0:=int_ne t0
      clear U t0;go_upto_region 6 with fail;go_quiet (fail);generalize T:World.drewN _ _=W4;have F:zB w W4:=by rw[<-T];exact aV O _
      clear T;go_wp2;go_ret;exact⟨rfl,F⟩
   ·have a5:(((i:Nat):Int)<(n:Int))=False:=by simp;omega
    have a8:r=true:=by
     rw[V.out];refine bB (nI (hn.trans LM.out) (fun j h3 h4=>HJ.out j _ _ (by omega) (aZ h3) (aZ h4)))
    clear V HT;subst a8;go_wp2;go_ret;exact⟨rfl,O⟩
 ·have hd:decide (L=M)=false:=bD (fun e=>E (by rw[e]))
  rw[hd];have a9:(((L.length:Nat):Int)==(M.length:Int))=false:=int_ne E;clear hd h1 h2;generalize L.length=n at*;generalize M.length=m at*;go_enter func299,ntmps299;go_wp2;go_ret;exact⟨rfl,ae _ _⟩
open Classical in
theorem I9(u v:zV)(L M:List So)(w:zW)(hL:L.length<=16777216)(h1:RdA A Sw.mc w u L)(h2:RdA A2 Sw.mc w v M):
  zC 301 #[u,v] w fun e w'=>e=.returned (.bool (decide (L=M)))/\zB w w':=by
 obtain⟨a1,c1,e1⟩:=h1.len;obtain⟨a2,c2,e2⟩:=h2.len;subst e1;subst e2;by_cases E:L.length=M.length
 ·have D1:Aside _:=h1
  have D2:Aside _:=h2;rw[<-E];have LM:=zH E
  have HT:Hid (∀b:Bool,(b=true↔L=M)->decide (L=M)=b):=fun b hb=>by
   cases b
   ·exact bD (fun e=>by have:=hb.2 e;cases this)
   ·exact bB (hb.1 rfl)
  obtain⟨r,hr⟩:∃r,r=decide (L=M):=⟨_,rfl⟩;rw[<-hr];have V:=zH hr;clear hr h1 h2 E
  have FG:Hid (∀wr,zB w wr->∀i,i<L.length->∃(x y:So)(b o:Nat)(b' o':Nat),L[i]?=some x/\M[i]?=some y/\a1=some (tD b o)/\a2=some (tD b' o')/\wr.cell? (tD b (o+i*3))=some (tS x.1)/\wr.cell? (tD b (o+i*3+1))=some (tS x.2.1)/\wr.cell? (tD b (o+i*3+2))=some (tS x.2.2)/\wr.cell? (tD b' (o'+i*3))=some (tS y.1)/\wr.cell? (tD b' (o'+i*3+1))=some (tS y.2.1)/\wr.cell? (tD b' (o'+i*3+2))=some (tS y.2.2)):=fun wr hb i hi=>by
   obtain⟨b,o,c,eg,hx⟩:=RdA.at (A:=A) (L:=L) D1.out tx (by decide) hb i hi;injection eg with a4 _ _;have a0:i<M.length:=by have:=LM.out;omega
   obtain⟨b',o',c',a3,hy⟩:=RdA.at (A:=A2) (L:=M) D2.out tx (by decide) hb i a0;injection a3 with uS _ _;refine⟨L[i],M[i],b,o,b',o',aZ hi,aZ a0,a4,uS,?_,?_,?_,?_,?_,?_⟩
   ·have:=hx 0 _ rfl;simpa using this
   ·have:=hx 1 _ rfl;simpa using this
   ·have:=hx 2 _ rfl;simpa using this
   ·have:=hy 0 _ rfl;simpa using this
   ·have:=hy 1 _ rfl;simpa using this
   ·have:=hy 2 _ rfl;simpa using this
  clear D1 D2;generalize hn:L.length=n at*;have qm:(((n:Nat):Int)==(n:Int))=true:=by simp
  go_enter func301,ntmps301;go_wp2;go_loopg [13] n (fun gg s wr=>∃i:Nat,i<=n/\n-i<=gg/\s=zI i/\zB w wr/\Hid (∀j x y,j<i->L[j]?=some x->M[j]?=some y->x=y))
  case atStart=>exact⟨0,by omega,by omega,rfl,ae _ _,fun j x y h=>absurd h (cW _)⟩
  case round=>
   obtain⟨i,hi,hg,rfl,O,HJ⟩:=hrel;by_cases a6:i<n
   ·obtain⟨x,y,b,o,b',o',hx,hy,rfl,rfl,x0,x1,x2,y0,y1,y2⟩:=FG.out wr O i a6
    have a5:((i:Nat):Int)<(n:Int):=by omega
    by_cases he:x=y
    ·subst he
     have HN:Hid (∀j x y,j<i+1->L[j]?=some x->M[j]?=some y->x=y):=fun j x' y' hj h3 h4=>by
      by_cases e:j=i
      ·subst e
       rw[hx] at h3;rw[hy] at h4;rw[<-bL h3,<-bL h4]
      ·exact HJ.out j x' y' (by omega) h3 h4
     clear hx hy;generalize x.1=k0 at*;have q0:(k0.toList==k0.toList)=true:=by simp
     generalize x.2.1=k1 at*;have q1:(k1.toList==k1.toList)=true:=by simp
     generalize x.2.2=k2 at*;have q2:(k2.toList==k2.toList)=true:=by simp
     go_upto_region 6 with fail;go_quiet (fail);generalize T:World.drewN _ _=W4;have F:zB w W4:=by rw[<-T];exact aV O _
     clear T;go_wp2;go_roundg (n-(i+1))
     case measure=>omega
     case rel=>exact⟨i+1,by omega,by omega,by go_num,F,HN⟩
    ·have a7:r=false:=by
      rw[V.out];exact bD (fun e=>he (by subst e;rw[hx] at hy;exact bL hy))
     have U:Hid (¬(x.1=y.1/\x.2.1=y.2.1/\x.2.2=y.2.2)):=fun h=>he (eB h.1 (eB h.2.1 h.2.2))
     clear hx hy he V HT;subst a7;generalize x.1=k0 at*;generalize y.1=m0 at*;generalize x.2.1=k1 at*;generalize y.2.1=m1 at*;generalize x.2.2=k2 at*;generalize y.2.2=m2 at*;by_cases t0:k0=m0
     ·subst t0
      have q0:(k0.toList==k0.toList)=true:=by simp
      by_cases t1:k1=m1
      ·subst t1
       have q1:(k1.toList==k1.toList)=true:=by simp
       have d2:=Rn.dm (fun h:k2=m2=>U.out ⟨rfl,rfl,h⟩);clear U;go_upto_region 6 with fail;go_quiet (fail);generalize T:World.drewN _ _=W4;have F:zB w W4:=by rw[<-T];exact aV O _
       clear T;go_wp2;go_ret;exact⟨rfl,F⟩
      ·have d1:=Rn.dm t1
       clear U t1;go_upto_region 6 with fail;go_quiet (fail);generalize T:World.drewN _ _=W4;have F:zB w W4:=by rw[<-T];exact aV O _
       clear T;go_wp2;go_ret;exact⟨rfl,F⟩
     ·have d0:=Rn.dm t0
      clear U t0;go_upto_region 6 with fail;go_quiet (fail);generalize T:World.drewN _ _=W4;have F:zB w W4:=by rw[<-T];exact aV O _
      clear T;go_wp2;go_ret;exact⟨rfl,F⟩
   ·have a5:(((i:Nat):Int)<(n:Int))=False:=by simp;omega
    have a8:r=true:=by
     rw[V.out];refine bB (nI (hn.trans LM.out) (fun j h3 h4=>HJ.out j _ _ (by omega) (aZ h3) (aZ h4)))
    clear V HT;subst a8;go_wp2;go_ret;exact⟨rfl,O⟩
 ·have hd:decide (L=M)=false:=bD (fun e=>E (by rw[e]))
  rw[hd];have a9:(((L.length:Nat):Int)==(M.length:Int))=false:=int_ne E;clear hd h1 h2;generalize L.length=n at*;generalize M.length=m at*;go_enter func301,ntmps301;go_wp2;go_ret;exact⟨rfl,ae _ _⟩
open Classical in
theorem uT(u v:zV)(L M:List zA)(w:zW)(hL:L.length<=16777216)(h1:RdA A gf w u L)(h2:RdA A2 gf w v M):
  zC 60 #[u,v] w fun e w'=>e=.returned (.bool (decide (L=M)))/\zB w w':=by
 obtain⟨a1,c1,e1⟩:=h1.len;obtain⟨a2,c2,e2⟩:=h2.len;subst e1;subst e2;by_cases E:L.length=M.length
 ·have D1:Aside _:=h1
  have D2:Aside _:=h2;rw[<-E];have LM:=zH E
  have HT:Hid (∀b:Bool,(b=true↔L=M)->decide (L=M)=b):=fun b hb=>by
   cases b
   ·exact bD (fun e=>by have:=hb.2 e;cases this)
   ·exact bB (hb.1 rfl)
  obtain⟨r,hr⟩:∃r,r=decide (L=M):=⟨_,rfl⟩;rw[<-hr];have F:=zH hr;clear hr h1 h2 E
  have FG:Hid (∀wr,zB w wr->∀i,i<L.length->∃(x y:zA)(b o:Nat)(b' o':Nat),L[i]?=some x/\M[i]?=some y/\a1=some (tD b o)/\a2=some (tD b' o')/\wr.cell? (tD b (o+i))=some (tS x)/\wr.cell? (tD b' (o'+i))=some (tS y)):=fun wr hb i hi=>by
   obtain⟨b,o,c,eg,V⟩:=RdA.at (A:=A) (L:=L) D1.out tE (by decide) hb i hi;injection eg with a5 _ _;have a3:i<M.length:=by have:=LM.out;omega
   obtain⟨b',o',c',a4,U⟩:=RdA.at (A:=A2) (L:=M) D2.out tE (by decide) hb i a3;injection a4 with uS _ _;refine⟨L[i],M[i],b,o,b',o',aZ hi,aZ a3,a5,uS,?_,?_⟩
   ·have:=V 0 _ rfl;simpa using this
   ·have:=U 0 _ rfl;simpa using this
  clear D1 D2;generalize hn:L.length=n at*;have qm:(((n:Nat):Int)==(n:Int))=true:=by simp
  go_enter func60,ntmps60;go_wp2;go_loopg [13] n (fun gg s wr=>∃i:Nat,i<=n/\n-i<=gg/\s=zI i/\zB w wr/\Hid (∀j x y,j<i->L[j]?=some x->M[j]?=some y->x=y))
  case atStart=>exact⟨0,by omega,by omega,rfl,ae _ _,fun j x y h=>absurd h (cW _)⟩
  case round=>
   obtain⟨i,hi,hg,rfl,O,HJ⟩:=hrel;by_cases a7:i<n
   ·obtain⟨x,y,b,o,b',o',V,U,rfl,rfl,x0,y0⟩:=FG.out wr O i a7
    have a6:((i:Nat):Int)<(n:Int):=by omega
    by_cases he:x=y
    ·subst he
     have HN:Hid (∀j x y,j<i+1->L[j]?=some x->M[j]?=some y->x=y):=fun j x' y' hj h3 h4=>by
      by_cases e:j=i
      ·subst e
       rw[V] at h3;rw[U] at h4;rw[<-bL h3,<-bL h4]
      ·exact HJ.out j x' y' (by omega) h3 h4
     clear V U;have q0:(x.toList==x.toList)=true:=by simp
     go_upto_region 6 with fail;go_quiet (fail);generalize hW:World.drewN _ _=W4;have T:zB w W4:=by rw[<-hW];exact aV O _
     clear hW;go_wp2;go_roundg (n-(i+1))
     case measure=>omega
     case rel=>exact⟨i+1,by omega,by omega,by go_num,T,HN⟩
    ·have a8:r=false:=by
      rw[F.out];exact bD (fun e=>he (by subst e;rw[V] at U;exact bL U))
     have a0:Hid (¬(x=y)):=fun h=>he (h)
     clear V U he F HT;subst a8;have d0:=Rn.dm (fun h:x=y=>a0.out h);clear a0;go_upto_region 6 with fail;go_quiet (fail);generalize hW:World.drewN _ _=W4;have T:zB w W4:=by rw[<-hW];exact aV O _
     clear hW;go_wp2;go_ret;exact⟨rfl,T⟩
   ·have a6:(((i:Nat):Int)<(n:Int))=False:=by simp;omega
    have a9:r=true:=by
     rw[F.out];refine bB (nI (hn.trans LM.out) (fun j h3 h4=>HJ.out j _ _ (by omega) (aZ h3) (aZ h4)))
    clear F HT;subst a9;go_wp2;go_ret;exact⟨rfl,O⟩
 ·have hd:decide (L=M)=false:=bD (fun e=>E (by rw[e]))
  rw[hd];have aa:(((L.length:Nat):Int)==(M.length:Int))=false:=int_ne E;clear hd h1 h2;generalize L.length=n at*;generalize M.length=m at*;go_enter func60,ntmps60;go_wp2;go_ret;exact⟨rfl,ae _ _⟩
end Pn
namespace Pn
open Mf
variable{A:Nat->Prop}
def Small:Fi->Prop
 | .man _ m=>m.R.length<=100000/\m.X.length<=100000/\m.S.length<=100000
 | .idx _ F=>F.length<=100000
 | .wants ms ps=>ms.length<=100000/\ps.length<=100000
 | .list ms ps=>ms.length<=100000/\ps.length<=1000000
 | .ord E ps=>E.length<=100000/\ps.length<=100000
theorem Oc(a b:zA):(a.toList==b.toList)=true↔a=b:=by
 constructor
 ·intro h
  by_cases e:a=b
  ·exact e
  ·rw[Rn.dm e] at h;cases h
 ·intro h;rw[h];simp
theorem BV(a b:Nat):(((a:Nat):Int)==(b:Int))=true↔a=b:=by
 constructor
 ·intro h
  by_cases e:a=b
  ·exact e
  ·rw[int_ne e] at h;cases h
 ·intro h;rw[h];simp
open Classical in
theorem Lv(pr E:Nat)(p p':zA)(Rv a8:zV)(R R':List Mo)(Xv aa:zV)(X X':List Mo)(Sv a9:zV)(S S':List So)(w:zW)(lR:R.length<=100000)(lX:X.length<=100000)(lS:S.length<=100000)(hR:RdA A Sm.mc w Rv R)(hX:RdA A Sm.mc w Xv X)(hS:RdA A Sw.mc w Sv S)(ad:RdA A Sm.mc w a8 R')(an:RdA A Sm.mc w aa X')(ak:RdA A Sw.mc w a9 S'):
  zC 300 #[.agg #[zI (pr:Nat),tS p,Rv,Xv,Sv],.iface 216 (.agg #[zI (E:Nat),tS p',a8,aa,a9])] w fun e w'=>e=.returned (.bool (decide (pr=E/\p=p'/\R=R'/\X=X'/\S=S')))/\Below w.heap.size w w':=by
 have KR:Hid (∀W,Below w.heap.size w W->zC 297 #[Rv,a8] W fun e w'=>e=.returned (.bool (decide (R=R')))/\Below W.heap.size W w'):=fun W hb=>pZ Rv a8 R R' W (by omega) (hR.below hb) (ad.below hb)
 obtain⟨aR,cR,eR⟩:=hR.len;obtain⟨O,V,b5⟩:=ad.len;have KX:Hid (∀W,Below w.heap.size w W->zC 297 #[Xv,aa] W fun e w'=>e=.returned (.bool (decide (X=X')))/\Below W.heap.size W w'):=fun W hb=>pZ Xv aa X X' W (by omega) (hX.below hb) (an.below hb)
 obtain⟨aX,cX,eX⟩:=hX.len;obtain⟨U,a1,b7⟩:=an.len;have KS:Hid (∀W,Below w.heap.size w W->zC 301 #[Sv,a9] W fun e w'=>e=.returned (.bool (decide (S=S')))/\Below W.heap.size W w'):=fun W hb=>I9 Sv a9 S S' W (by omega) (hS.below hb) (ak.below hb)
 obtain⟨aS,cS,eS⟩:=hS.len;obtain⟨T,a0,b6⟩:=ak.len
 have HE:decide (pr=E/\p=p'/\R=R'/\X=X'/\S=S')=((((pr:Nat):Int)==(E:Int))&&(p.toList==p'.toList)&&(decide (R=R'))&&(decide (X=X'))&&(decide (S=S'))):=by
  rw[gi];simp only[oC,fC,Oc,BV,and_assoc]
 rw[HE];clear HE;clear hR ad;clear hX an;clear hS ak;subst eR;subst b5;subst eX;subst b7;subst eS;subst b6;generalize bb:(((pr:Nat):Int)==(E:Int))=b0;generalize ab:(p.toList==p'.toList)=b1;generalize decide (R=R')=b2 at*;generalize decide (X=X')=b3 at*;generalize decide (S=S')=b4 at*;generalize R.length=nR at*;generalize R'.length=a2 at*;generalize X.length=nX at*;generalize X'.length=a4 at*;generalize S.length=nS at*;generalize S'.length=a3 at*;have t0:=Li (.agg #[zI (E:Nat),tS p',.slice O a2 V,.slice U a4 a1,.slice T a3 a0]) (w.alloc (.cells #[zI (pr:Nat),tS p,.slice aR nR cR,.slice aX nX cX,.slice aS nS cS] 216));have ab:Below w.heap.size w (w.alloc (.cells #[zI (pr:Nat),tS p,.slice aR nR cR,.slice aX nX cX,.slice aS nS cS] 216)):=(ae _ _).alloc (ah _) _;have HB:Hid (Below w.heap.size w ((w.alloc (.cells #[zI (pr:Nat),tS p,.slice aR nR cR,.slice aX nX cX,.slice aS nS cS] 216)).alloc (.cells #[zI (E:Nat),tS p',.slice O a2 V,.slice U a4 a1,.slice T a3 a0] 216))):=ab.alloc ab.size _
 have HC:Hid (∀W,Below ((w.alloc (.cells #[zI (pr:Nat),tS p,.slice aR nR cR,.slice aX nX cX,.slice aS nS cS] 216)).alloc (.cells #[zI (E:Nat),tS p',.slice O a2 V,.slice U a4 a1,.slice T a3 a0] 216)).heap.size ((w.alloc (.cells #[zI (pr:Nat),tS p,.slice aR nR cR,.slice aX nX cX,.slice aS nS cS] 216)).alloc (.cells #[zI (E:Nat),tS p',.slice O a2 V,.slice U a4 a1,.slice T a3 a0] 216)) W->W.cell? (tD w.heap.size 0)=some (zI (pr:Nat))/\W.cell? (tD w.heap.size 1)=some (tS p)/\W.cell? (tD w.heap.size 2)=some (.slice aR nR cR)/\W.cell? (tD w.heap.size 3)=some (.slice aX nX cX)/\W.cell? (tD w.heap.size 4)=some (.slice aS nS cS)/\W.cell? (tD (w.heap.size+1) 0)=some (zI (E:Nat))/\W.cell? (tD (w.heap.size+1) 1)=some (tS p')/\W.cell? (tD (w.heap.size+1) 2)=some (.slice O a2 V)/\W.cell? (tD (w.heap.size+1) 3)=some (.slice U a4 a1)/\W.cell? (tD (w.heap.size+1) 4)=some (.slice T a3 a0)):=fun W hb=>by
  refine⟨?_,?_,?_,?_,?_,?_,?_,?_,?_,?_⟩<;>(rw[hb.cell (by simp<;>omega)];simp[go_sem])
 clear ab;go_enter func300,ntmps300;go_upto_region 4 with fail;clear t0;generalize b8:((w.alloc (.cells #[zI (pr:Nat),tS p,.slice aR nR cR,.slice aX nX cX,.slice aS nS cS] 216)).alloc (.cells #[zI (E:Nat),tS p',.slice O a2 V,.slice U a4 a1,.slice T a3 a0] 216))=G at*;generalize a7:w.heap.size=bx at*;clear b8;obtain⟨x0,x1,x2,x3,x4,y0,y1,y2,y3,y4⟩:=HC.out G (ae _ _);have a5:=zH HB;clear HB;cases b0
 ·go_wp2
  go_ret;exact⟨rfl,by have h:=a5.out;first|exact h|(rw[<-a7] at h;exact h)⟩
 ·cases b1
  ·go_wp2
   go_ret;exact⟨rfl,by have h:=a5.out;first|exact h|(rw[<-a7] at h;exact h)⟩
  ·go_wp2_with (go_at_call 297;fail)
   go_at_call 297;refine(KR.out _ (by have h:=a5.out;exact h)).mono ?_;rintro e v2 ⟨rfl,av⟩;have F:Hid (Below bx w v2):=(a5.out).trans (av.mono (by have h:=(a5.out).size;omega));have a6:=zH av;obtain⟨UI,UJ,UK,UL,UM,UN,UO,UQ,UR,US⟩:=HC.out v2 a6.out;cases b2
   ·go_wp2
    go_ret;exact⟨rfl,by have h:=F.out;first|exact h|(rw[<-a7] at h;exact h)⟩
   ·go_wp2_with (go_at_call 297;fail)
    go_at_call 297;refine(KX.out _ (by have h:=F.out;exact h)).mono ?_;rintro e v3 ⟨rfl,az⟩;have M:Hid (Below bx w v3):=(F.out).trans (az.mono (by have h:=(F.out).size;omega));have au:=zH (a6.out.trans (az.mono a6.out.size));obtain⟨UT,UU,UW,UX,UY,UZ,U0,U1,U3,U4⟩:=HC.out v3 au.out;cases b3
    ·go_wp2
     go_ret;exact⟨rfl,by have h:=M.out;first|exact h|(rw[<-a7] at h;exact h)⟩
    ·go_wp2_with (go_at_call 301;fail)
     go_at_call 301;refine(KS.out _ (by have h:=M.out;exact h)).mono ?_;rintro e v4 ⟨rfl,b9⟩;have aq:Hid (Below bx w v4):=(M.out).trans (b9.mono (by have h:=(M.out).size;omega));go_wp2;go_ret;exact⟨by simp,by have h:=aq.out;first|exact h|(rw[<-a7] at h;exact h)⟩
theorem LA(pr:Nat)(p:zA)(E:Option Addr)(nR O:Nat)(M:Option Addr)(nX U:Nat)(F:Option Addr)(V T:Nat)(w:zW):zC 300 #[.agg #[zI (pr:Nat),tS p,.slice E nR O,.slice M nX U,.slice F V T],.nilIface] w fun e w'=>e=.returned (.bool false)/\zB w w':=by
 have t0:=N7 (w.alloc (.cells #[zI (pr:Nat),tS p,.slice E nR O,.slice M nX U,.slice F V T] 216));have HB:Hid (zB w (w.alloc (.cells #[zI (pr:Nat),tS p,.slice E nR O,.slice M nX U,.slice F V T] 216))):=(ae _ _).alloc (ah _) _;go_enter func300,ntmps300;go_wp2;go_ret;exact⟨rfl,HB.out⟩
open Classical in
theorem LB(U E:Nat)(a0 Od:zV)(vs F:List zA)(w:zW)(aa:vs.length<=100000)(a2:RdA A gf w a0 vs)(QR:RdA A gf w Od F):
  zC 302 #[.agg #[zI (U:Nat),a0],.iface 219 (.agg #[zI (E:Nat),Od])] w fun e w'=>e=.returned (.bool (decide (U=E/\vs=F)))/\Below w.heap.size w w':=by
 have a5:Hid (∀W,Below w.heap.size w W->zC 60 #[a0,Od] W fun e w'=>e=.returned (.bool (decide (vs=F)))/\Below W.heap.size W w'):=fun W hb=>uT a0 Od vs F W (by omega) (a2.below hb) (QR.below hb)
 obtain⟨M,O,a6⟩:=a2.len;obtain⟨Ja,Jb,TX⟩:=QR.len
 have HE:decide (U=E/\vs=F)=((((U:Nat):Int)==(E:Int))&&(decide (vs=F))):=by
  rw[gi];simp only[oC,fC,BV]
 rw[HE];clear HE;clear a2 QR;subst a6;subst TX;generalize a9:(((U:Nat):Int)==(E:Int))=b0;generalize decide (vs=F)=b1 at*;generalize vs.length=T at*;generalize F.length=Jc at*;have t0:=Lj (.agg #[zI (E:Nat),.slice Ja Jc Jb]) (w.alloc (.cells #[zI (U:Nat),.slice M T O] 219));have a1:Below w.heap.size w (w.alloc (.cells #[zI (U:Nat),.slice M T O] 219)):=(ae _ _).alloc (ah _) _;have HB:Hid (Below w.heap.size w ((w.alloc (.cells #[zI (U:Nat),.slice M T O] 219)).alloc (.cells #[zI (E:Nat),.slice Ja Jc Jb] 219))):=a1.alloc a1.size _
 have HC:Hid (∀W,Below ((w.alloc (.cells #[zI (U:Nat),.slice M T O] 219)).alloc (.cells #[zI (E:Nat),.slice Ja Jc Jb] 219)).heap.size ((w.alloc (.cells #[zI (U:Nat),.slice M T O] 219)).alloc (.cells #[zI (E:Nat),.slice Ja Jc Jb] 219)) W->W.cell? (tD w.heap.size 0)=some (zI (U:Nat))/\W.cell? (tD w.heap.size 1)=some (.slice M T O)/\W.cell? (tD (w.heap.size+1) 0)=some (zI (E:Nat))/\W.cell? (tD (w.heap.size+1) 1)=some (.slice Ja Jc Jb)):=fun W hb=>by
  refine⟨?_,?_,?_,?_⟩<;>(rw[hb.cell (by simp<;>omega)];simp[go_sem])
 clear a1;go_enter func302,ntmps302;go_upto_region 4 with fail;clear t0;generalize a7:((w.alloc (.cells #[zI (U:Nat),.slice M T O] 219)).alloc (.cells #[zI (E:Nat),.slice Ja Jc Jb] 219))=G at*;generalize a4:w.heap.size=bx at*;clear a7;obtain⟨x0,x1,y0,y1⟩:=HC.out G (ae _ _);have V:=zH HB;clear HB;cases b0
 ·go_wp2
  go_ret;exact⟨rfl,by have h:=V.out;first|exact h|(rw[<-a4] at h;exact h)⟩
 ·go_wp2_with (go_at_call 60;fail)
  go_at_call 60;refine(a5.out _ (by have h:=V.out;exact h)).mono ?_;rintro e v1 ⟨rfl,a8⟩;have a3:Hid (Below bx w v1):=(V.out).trans (a8.mono (by have h:=(V.out).size;omega));go_wp2;go_ret;exact⟨by simp,by have h:=a3.out;first|exact h|(rw[<-a4] at h;exact h)⟩
theorem LC(O:Nat)(E:Option Addr)(M F:Nat)(w:zW):zC 302 #[.agg #[zI (O:Nat),.slice E M F],.nilIface] w fun e w'=>e=.returned (.bool false)/\zB w w':=by
 have t0:=N8 (w.alloc (.cells #[zI (O:Nat),.slice E M F] 219));have T:Hid (zB w (w.alloc (.cells #[zI (O:Nat),.slice E M F] 219))):=(ae _ _).alloc (ah _) _;go_enter func302,ntmps302;go_wp2;go_ret;exact⟨rfl,T.out⟩
open Classical in
theorem Fy(a2 BW:zV)(ms E:List Mo)(a3 wJ:zV)(ps F:List Pb)(w:zW)(az:ms.length<=100000)(b2:ps.length<=100000)(a6:RdA A Sm.mc w a2 ms)(a7:RdA A aW w a3 ps)(Fz:RdA A Sm.mc w BW E)(FA:RdA A aW w wJ F):
  zC 303 #[.agg #[a2,a3],.iface 221 (.agg #[BW,wJ])] w fun e w'=>e=.returned (.bool (decide (ms=E/\ps=F)))/\Below w.heap.size w w':=by
 have ad:Hid (∀W,Below w.heap.size w W->zC 297 #[a2,BW] W fun e w'=>e=.returned (.bool (decide (ms=E)))/\Below W.heap.size W w'):=fun W hb=>pZ a2 BW ms E W (by omega) (a6.below hb) (Fz.below hb)
 obtain⟨M,T,an⟩:=a6.len;obtain⟨uU,uV,QS⟩:=Fz.len;have ak:Hid (∀W,Below w.heap.size w W->zC 299 #[a3,wJ] W fun e w'=>e=.returned (.bool (decide (ps=F)))/\Below W.heap.size W w'):=fun W hb=>DU a3 wJ ps F W (by omega) (a7.below hb) (FA.below hb)
 obtain⟨O,U,aq⟩:=a7.len;obtain⟨mA,mB,QT⟩:=FA.len
 have HE:decide (ms=E/\ps=F)=((decide (ms=E))&&(decide (ps=F))):=by
  rw[gi];simp only[oC,fC]
 rw[HE];clear HE;clear a6 Fz;clear a7 FA;subst an;subst QS;subst aq;subst QT;generalize decide (ms=E)=b0 at*;generalize decide (ps=F)=b1 at*;generalize ms.length=V at*;generalize E.length=uW at*;generalize ps.length=a0 at*;generalize F.length=mC at*;have t0:=Ll (.agg #[.slice uU uW uV,.slice mA mC mB]) (w.alloc (.cells #[.slice M V T,.slice O a0 U] 221));have a5:Below w.heap.size w (w.alloc (.cells #[.slice M V T,.slice O a0 U] 221)):=(ae _ _).alloc (ah _) _;have HB:Hid (Below w.heap.size w ((w.alloc (.cells #[.slice M V T,.slice O a0 U] 221)).alloc (.cells #[.slice uU uW uV,.slice mA mC mB] 221))):=a5.alloc a5.size _
 have HC:Hid (∀W,Below ((w.alloc (.cells #[.slice M V T,.slice O a0 U] 221)).alloc (.cells #[.slice uU uW uV,.slice mA mC mB] 221)).heap.size ((w.alloc (.cells #[.slice M V T,.slice O a0 U] 221)).alloc (.cells #[.slice uU uW uV,.slice mA mC mB] 221)) W->W.cell? (tD w.heap.size 0)=some (.slice M V T)/\W.cell? (tD w.heap.size 1)=some (.slice O a0 U)/\W.cell? (tD (w.heap.size+1) 0)=some (.slice uU uW uV)/\W.cell? (tD (w.heap.size+1) 1)=some (.slice mA mC mB)):=fun W hb=>by
  refine⟨?_,?_,?_,?_⟩<;>(rw[hb.cell (by simp<;>omega)];simp[go_sem])
 clear a5;go_enter func303,ntmps303;go_upto_region 4 with fail;clear t0;generalize au:((w.alloc (.cells #[.slice M V T,.slice O a0 U] 221)).alloc (.cells #[.slice uU uW uV,.slice mA mC mB] 221))=G at*;generalize aa:w.heap.size=bx at*;clear au;obtain⟨x0,x1,y0,y1⟩:=HC.out G (ae _ _);have a4:=zH HB;clear HB
 go_wp2_with (go_at_call 297;fail)
 go_at_call 297;refine(ad.out _ (by have h:=a4.out;exact h)).mono ?_;rintro e v0 ⟨rfl,ab⟩;have a1:Hid (Below bx w v0):=(a4.out).trans (ab.mono (by have h:=(a4.out).size;omega));have a9:=zH ab;obtain⟨TY,T2,T3,T4⟩:=HC.out v0 a9.out;cases b0
 ·go_wp2
  go_ret;exact⟨rfl,by have h:=a1.out;first|exact h|(rw[<-aa] at h;exact h)⟩
 ·go_wp2_with (go_at_call 299;fail)
  go_at_call 299;refine(ak.out _ (by have h:=a1.out;exact h)).mono ?_;rintro e v1 ⟨rfl,av⟩;have a8:Hid (Below bx w v1):=(a1.out).trans (av.mono (by have h:=(a1.out).size;omega));go_wp2;go_ret;exact⟨by simp,by have h:=a8.out;first|exact h|(rw[<-aa] at h;exact h)⟩
theorem FB(E:Option Addr)(T M:Nat)(F:Option Addr)(U O:Nat)(w:zW):zC 303 #[.agg #[.slice E T M,.slice F U O],.nilIface] w fun e w'=>e=.returned (.bool false)/\zB w w':=by
 have t0:=N9 (w.alloc (.cells #[.slice E T M,.slice F U O] 221));have V:Hid (zB w (w.alloc (.cells #[.slice E T M,.slice F U O] 221))):=(ae _ _).alloc (ah _) _;go_enter func303,ntmps303;go_wp2;go_ret;exact⟨rfl,V.out⟩
open Classical in
theorem Jd(a0 BW:zV)(ms V:List Mo)(a5 wJ:zV)(w:zW)(ad:ms.length<=100000)(a3:RdA A Sm.mc w a0 ms)(Fz:RdA A Sm.mc w BW V)(ab:∃a n c,a5=.slice a n c)(T5:∃a n c,wJ=.slice a n c):
  zC 296 #[.agg #[a0,a5],.iface 86 (.agg #[BW,wJ])] w fun e w'=>e=.returned (.bool (decide (ms=V)))/\Below w.heap.size w w':=by
 have a6:Hid (∀W,Below w.heap.size w W->zC 297 #[a0,BW] W fun e w'=>e=.returned (.bool (decide (ms=V)))/\Below W.heap.size W w'):=fun W hb=>pZ a0 BW ms V W (by omega) (a3.below hb) (Fz.below hb)
 obtain⟨E,M,a7⟩:=a3.len;obtain⟨uU,uV,QS⟩:=Fz.len;obtain⟨F,U,O,rfl⟩:=ab;obtain⟨mA,mC,mB,rfl⟩:=T5;clear a3 Fz;subst a7;subst QS;generalize decide (ms=V)=b0 at*;generalize ms.length=T at*;generalize V.length=uW at*;have t0:=Lq (.agg #[.slice uU uW uV,.slice mA mC mB]) (w.alloc (.cells #[.slice E T M,.slice F U O] 86));have a2:Below w.heap.size w (w.alloc (.cells #[.slice E T M,.slice F U O] 86)):=(ae _ _).alloc (ah _) _;have HB:Hid (Below w.heap.size w ((w.alloc (.cells #[.slice E T M,.slice F U O] 86)).alloc (.cells #[.slice uU uW uV,.slice mA mC mB] 86))):=a2.alloc a2.size _
 have HC:Hid (∀W,Below ((w.alloc (.cells #[.slice E T M,.slice F U O] 86)).alloc (.cells #[.slice uU uW uV,.slice mA mC mB] 86)).heap.size ((w.alloc (.cells #[.slice E T M,.slice F U O] 86)).alloc (.cells #[.slice uU uW uV,.slice mA mC mB] 86)) W->W.cell? (tD w.heap.size 0)=some (.slice E T M)/\W.cell? (tD w.heap.size 1)=some (.slice F U O)/\W.cell? (tD (w.heap.size+1) 0)=some (.slice uU uW uV)/\W.cell? (tD (w.heap.size+1) 1)=some (.slice mA mC mB)):=fun W hb=>by
  refine⟨?_,?_,?_,?_⟩<;>(rw[hb.cell (by simp<;>omega)];simp[go_sem])
 clear a2;go_enter func296,ntmps296;go_upto_region 4 with fail;clear t0;generalize a8:((w.alloc (.cells #[.slice E T M,.slice F U O] 86)).alloc (.cells #[.slice uU uW uV,.slice mA mC mB] 86))=G at*;generalize a9:w.heap.size=bx at*;clear a8;obtain⟨x0,x1,y0,y1⟩:=HC.out G (ae _ _);have a1:=zH HB;clear HB
 go_wp2_with (go_at_call 297;fail)
 go_at_call 297;refine(a6.out _ (by have h:=a1.out;exact h)).mono ?_;rintro e v0 ⟨rfl,aa⟩;have a4:Hid (Below bx w v0):=(a1.out).trans (aa.mono (by have h:=(a1.out).size;omega));go_wp2;go_ret;exact⟨by simp,by have h:=a4.out;first|exact h|(rw[<-a9] at h;exact h)⟩
theorem Je(E:Option Addr)(T M:Nat)(F:Option Addr)(U O:Nat)(w:zW):zC 296 #[.agg #[.slice E T M,.slice F U O],.nilIface] w fun e w'=>e=.returned (.bool false)/\zB w w':=by
 have t0:=Oa (w.alloc (.cells #[.slice E T M,.slice F U O] 86));have V:Hid (zB w (w.alloc (.cells #[.slice E T M,.slice F U O] 86))):=(ae _ _).alloc (ah _) _;go_enter func296,ntmps296;go_wp2;go_ret;exact⟨rfl,V.out⟩
open Classical in
theorem LD(a2 Oe:zV)(ns E:List zA)(a3 wJ:zV)(ps F:List Pb)(w:zW)(az:ns.length<=100000)(b2:ps.length<=100000)(a6:RdA A gf w a2 ns)(a7:RdA A aW w a3 ps)(Ih:RdA A gf w Oe E)(FA:RdA A aW w wJ F):
  zC 298 #[.agg #[a2,a3],.iface 89 (.agg #[Oe,wJ])] w fun e w'=>e=.returned (.bool (decide (ns=E/\ps=F)))/\Below w.heap.size w w':=by
 have ad:Hid (∀W,Below w.heap.size w W->zC 60 #[a2,Oe] W fun e w'=>e=.returned (.bool (decide (ns=E)))/\Below W.heap.size W w'):=fun W hb=>uT a2 Oe ns E W (by omega) (a6.below hb) (Ih.below hb)
 obtain⟨M,T,an⟩:=a6.len;obtain⟨Jf,Jg,T6⟩:=Ih.len;have ak:Hid (∀W,Below w.heap.size w W->zC 299 #[a3,wJ] W fun e w'=>e=.returned (.bool (decide (ps=F)))/\Below W.heap.size W w'):=fun W hb=>DU a3 wJ ps F W (by omega) (a7.below hb) (FA.below hb)
 obtain⟨O,U,aq⟩:=a7.len;obtain⟨mA,mB,QT⟩:=FA.len
 have HE:decide (ns=E/\ps=F)=((decide (ns=E))&&(decide (ps=F))):=by
  rw[gi];simp only[oC,fC]
 rw[HE];clear HE;clear a6 Ih;clear a7 FA;subst an;subst T6;subst aq;subst QT;generalize decide (ns=E)=b0 at*;generalize decide (ps=F)=b1 at*;generalize ns.length=V at*;generalize E.length=Jh at*;generalize ps.length=a0 at*;generalize F.length=mC at*;have t0:=Lt (.agg #[.slice Jf Jh Jg,.slice mA mC mB]) (w.alloc (.cells #[.slice M V T,.slice O a0 U] 89));have a5:Below w.heap.size w (w.alloc (.cells #[.slice M V T,.slice O a0 U] 89)):=(ae _ _).alloc (ah _) _;have HB:Hid (Below w.heap.size w ((w.alloc (.cells #[.slice M V T,.slice O a0 U] 89)).alloc (.cells #[.slice Jf Jh Jg,.slice mA mC mB] 89))):=a5.alloc a5.size _
 have HC:Hid (∀W,Below ((w.alloc (.cells #[.slice M V T,.slice O a0 U] 89)).alloc (.cells #[.slice Jf Jh Jg,.slice mA mC mB] 89)).heap.size ((w.alloc (.cells #[.slice M V T,.slice O a0 U] 89)).alloc (.cells #[.slice Jf Jh Jg,.slice mA mC mB] 89)) W->W.cell? (tD w.heap.size 0)=some (.slice M V T)/\W.cell? (tD w.heap.size 1)=some (.slice O a0 U)/\W.cell? (tD (w.heap.size+1) 0)=some (.slice Jf Jh Jg)/\W.cell? (tD (w.heap.size+1) 1)=some (.slice mA mC mB)):=fun W hb=>by
  refine⟨?_,?_,?_,?_⟩<;>(rw[hb.cell (by simp<;>omega)];simp[go_sem])
 clear a5;go_enter func298,ntmps298;go_upto_region 4 with fail;clear t0;generalize au:((w.alloc (.cells #[.slice M V T,.slice O a0 U] 89)).alloc (.cells #[.slice Jf Jh Jg,.slice mA mC mB] 89))=G at*;generalize aa:w.heap.size=bx at*;clear au;obtain⟨x0,x1,y0,y1⟩:=HC.out G (ae _ _);have a4:=zH HB;clear HB
 go_wp2_with (go_at_call 60;fail)
 go_at_call 60;refine(ad.out _ (by have h:=a4.out;exact h)).mono ?_;rintro e v0 ⟨rfl,ab⟩;have a1:Hid (Below bx w v0):=(a4.out).trans (ab.mono (by have h:=(a4.out).size;omega));have a9:=zH ab;obtain⟨TY,T2,T3,T4⟩:=HC.out v0 a9.out;cases b0
 ·go_wp2
  go_ret;exact⟨rfl,by have h:=a1.out;first|exact h|(rw[<-aa] at h;exact h)⟩
 ·go_wp2_with (go_at_call 299;fail)
  go_at_call 299;refine(ak.out _ (by have h:=a1.out;exact h)).mono ?_;rintro e v1 ⟨rfl,av⟩;have a8:Hid (Below bx w v1):=(a1.out).trans (av.mono (by have h:=(a1.out).size;omega));go_wp2;go_ret;exact⟨by simp,by have h:=a8.out;first|exact h|(rw[<-aa] at h;exact h)⟩
theorem LF(E:Option Addr)(T M:Nat)(F:Option Addr)(U O:Nat)(w:zW):zC 298 #[.agg #[.slice E T M,.slice F U O],.nilIface] w fun e w'=>e=.returned (.bool false)/\zB w w':=by
 have t0:=Ob (w.alloc (.cells #[.slice E T M,.slice F U O] 89));have V:Hid (zB w (w.alloc (.cells #[.slice E T M,.slice F U O] 89))):=(ae _ _).alloc (ah _) _;go_enter func298,ntmps298;go_wp2;go_ret;exact⟨rfl,V.out⟩
