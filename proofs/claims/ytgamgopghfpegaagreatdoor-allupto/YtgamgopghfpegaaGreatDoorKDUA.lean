import Derived.Test.YtgamgopghfpegaaGreatDoorKRUB
import Derived.Test.YtgamgopghfpegaaGreatDoorKCB
set_option linter.all false
open Go.Proofs.Tryz
set_option maxRecDepth 100000
set_option maxHeartbeats 16000000
namespace Go.Proofs.YtgamgopghfpegaaGreatDoor
open Go.RowKit
section
variable{w w':zW}
def Ir(n:Nat)(r:Option (Nat×Nat)):zV:=
 match r with
 |some (a,k)=>.agg #[.int .i64 n,.int .i64 a,.int .i64 k]
 |none=>.agg #[.int .i64 n,.int .i64 0,.int .i64 0]
namespace Mf
def byteOf(k:Nat):UInt8:=if k=5 then 112 else if k=6 then 118 else 62
def fb(f:List Nat):zA:=⟨(f.map byteOf).toArray⟩
def Bj(z:Bool)(x:zA):zA:=match Tx.shape z x.data.toList with
 |none=>⟨#[]⟩
 |some f=>fb f
theorem N9(z:Bool)(x:zA)w:zC 194 #[x,z] w fun e w'=>e=.returned ((Bj z x))∧w'=w:=by
 unfold Bj;cases h:Tx.shape z x.data.toList with
 |some M=>
  rcases eu h with⟨rfl,e,rfl⟩|⟨rfl,⟨e,rfl⟩|⟨e|e,rfl⟩|⟨e,rfl⟩⟩
  all_goals
   obtain rfl:=mY e;clear h e;go_enter func194,ntmps194;go_wp2;go_ret;exact⟨rfl,rfl⟩
 |none=>
  have f:∀l,(_=l→_≠none)→_:=fun l E=>jf fun e=>E e (e▸h)
  cases z
  ·have D:=f [109,111,100,117,108,101] (fun _=>aA)
   have F:=f [114,101,113,117,105,114,101] (fun _=>aA);have G:=f [101,120,99,108,117,100,101] (fun _=>aA);have I:=f [114,101,112,108,97,99,101] (fun _=>aA);clear h f;go_enter func194,ntmps194;go_wp2;go_ret;simp
  ·have D:=f [118,101,114,115,105,111,110] (fun _=>aA)
   clear h f;go_enter func194,ntmps194;go_wp2;go_ret;simp
theorem Rf{b o:Nat}{v:zV}(h:w.cell? (b,o)=v):∀f o2 D,(((w.alloc f).alloc o2).alloc D).cell? (b,o)=v:=fun f o2 D=>by
 have E:b<_:=cr w _ h;rw[World.cell?_alloc_lt _ _ _ aJ,World.cell?_alloc_lt _ _ _ aJ,World.cell?_alloc_lt _ _ _ E];exact h
theorem GN(w:zW)f o2 D:Below w w (((w.alloc f).alloc o2).alloc D):=(((af _ _).alloc (ai _) _).alloc ah _).alloc aJ _
theorem pB(n U G m T S:Nat)(f:zA)(O:Int)w(Y:f.size≤4)(a0:0<m)(V:f=⟨#[]⟩∨(f.toList==[])=false∧m≠f.size+1)(a:Nat)(k:Nat)
  (D:f=⟨#[]⟩→k=3∧w.cell? (G,0)=some (.int .i64 a)) (E:f≠⟨#[]⟩→k=4∧(f.size+1<m→w.cell? (G,f.size+1)=some (.int .i64 a))∧(m<f.size+1→O=a)):
  zC 193 #[.agg #[n,.slice (some (U,0)) m T,.slice (some (G,0)) m S,O],f] w fun e w'=>e=.returned (.agg #[n,a,k])∧Below w w w':=by
 have F:=zH (GN w);have a1:(0)<(m:Int):=ae;rcases V with rfl|⟨hf,hm⟩
 ·obtain⟨rfl,h⟩:=D rfl
  have R:=Rf h;clear D E h;go_enter func193,ntmps193;go_wp2;exact aL (by simp[results,results193,go_sem]) rfl ⟨rfl,F.out _ _ _⟩
 ·obtain⟨rfl,I,M⟩:=E (fun e=>by simp_all)
  have a2:(m !=(f.size:Int)+1)=true:=aJ;rcases Nat.lt_or_gt_of_ne hm with h|h
  ·have hx:¬(m>(f.size:Int)+1):=ae
   obtain rfl:=M h;clear D E I M;go_enter func193,ntmps193;go_wp2;exact aL (by simp[results,results193,go_sem]) rfl ⟨rfl,F.out _ _ _⟩
  ·have hx:f.size+1<(m:Int):=ae
   have R:=Rf (I h);clear D E I M;go_enter func193,ntmps193;go_wp2;exact aL (by simp[results,results193,go_sem]) rfl ⟨rfl,F.out _ _ _⟩
end Mf
end
namespace Mf
variable{w w':zW}{z:Bool}
def mE(f:List Nat)(ws:Wl)(k i:Nat):Option (Nat×Nat):=
 match Tx.misfit Pv.aK (5+k) (f.drop i) ((aH ws).drop i) with
 |some a=>some (a,5+k)
 |none=>if k=0 then (match Tx.misfit Pv.aK 6 f (aH ws) with|some a=>some (a,6)|none=>match Tx.misfit Pv.aK 7 f (aH ws) with|some a=>some (a,7)|none=>none)
  else if k=1 then (match Tx.misfit Pv.aK 7 f (aH ws) with|some a=>some (a,7)|none=>none) else none
theorem KJ f ws k(E:k<2):mE f ws k f=mE f ws (k+1) 0:=by
 have D:Tx.misfit Pv.aK (5+k) (f.drop f) ((aH ws).drop f)=none:=by
  rw[List.drop_length];rfl
 unfold mE
 grind
theorem Oa f ws:mE f ws 2 f=none:=by
 have D:Tx.misfit Pv.aK (5+2) (f.drop f) ((aH ws).drop f)=none:=by
  rw[List.drop_length];rfl
 unfold mE;rw[D]
 rfl
theorem Ob{f:List Nat}{ws:Wl}{k i:Nat}(E:i<f)(F:i<ws)(he:f[i]=5+k)(D:Tx.fit Pv.aK (5+k) ws[i].2=false):mE f ws k i=(ws[i].1,5+k):=by
 unfold mE;rw[oD _ _ f ws i E F,ay ⟨he,D⟩]
theorem KL{f:List Nat}{ws:Wl}{k i:Nat}(D:i<f)(E:i<ws)(h:¬(f[i]=5+k∧Tx.fit Pv.aK (5+k) ws[i].2=false)):mE f ws k i=mE f ws k (i+1):=by
 unfold mE;rw[oD _ _ f ws i D E,au h]
theorem Oc(f:List Nat)(ws:Wl):mE f ws 0 0=match Tx.misfit Pv.aK 5 f (aH ws) with
   |some a=>some (a,5)
   |none=>match Tx.misfit Pv.aK 6 f (aH ws) with
    |some a=>some (a,6)
    |none=>match Tx.misfit Pv.aK 7 f (aH ws) with
     |some a=>some (a,7)
     |none=>none:=by
 rfl
theorem Iu f:(fb f).size=f:=by
 show(f.map byteOf).toArray.size=_;simp
theorem S7 f i(h:i<(fb f).size)(D:i<f):(fb f)[i]=byteOf f[i]:=by
 have e:(fb f)=f.map byteOf:=rfl;have E:i<(fb f).data.toList:=by rw[e];simpa using D
 have F:(fb f)[i]=(fb f).data.toList[i]:=rfl
 grind
theorem GQ q(f:q=5∨q=6∨q=7):(((byteOf q).toNat:Int)==112)=(q==5)∧(((byteOf q).toNat:Int)==118)=(q==6)∧(((byteOf q).toNat:Int)==62)=(q==7):=by
 rcases f with rfl|rfl|rfl<;>exact⟨rfl,rfl,rfl⟩
def Bn(f:List Nat)(ws:Wl)(k:Nat):Option (Nat×Nat):=if k<3 then mE f ws k 0 else none
theorem al4(w:zW)a b c d:((((w.alloc a).alloc b).alloc c).alloc d).heap[w.heap.size]?=a∧((((w.alloc a).alloc b).alloc c).alloc d).heap[w.heap.size+1]?=b∧((((w.alloc a).alloc b).alloc c).alloc d).heap[w.heap.size+2]?=c∧((((w.alloc a).alloc b).alloc c).alloc d).heap[w.heap.size+3]?=d∧Below w w ((((w.alloc a).alloc b).alloc c).alloc d):=by
 have f:(w.alloc a)=w.heap.size+1:=ah;have D:((w.alloc a).alloc b)=w.heap.size+2:=ah;have E:(((w.alloc a).alloc b).alloc c)=w.heap.size+3:=ah;have h:∀(W:zW)(o:Obj) k,_→(W.alloc o).heap[k]?=_:=fun W o k F=>aO _ _ _ F
 refine⟨?_,?_,?_,?_,(GN w a b c).alloc (GN w a b c).size d⟩
 ·rw[h _ _ _ ae,h _ _ _ ae,h _ _ _ ae];exact fdn _ _
 ·rw[h _ _ _ ae,h _ _ _ ae,←f];exact fdn _ _
 ·rw[h _ _ _ ae,←D];exact fdn _ _
 ·rw[←E];exact fdn _ _
theorem zX{W:zW}{r:Nat}{t}{x y z}(h:W.heap[r]?=some (.cells #[x,y,z] t)):(W.cell? (r,0)=x∧W.frozen? (r,0)=false)∧(W.cell? (r,1)=y∧W.frozen? (r,1)=false)∧(W.cell? (r,2)=z∧W.frozen? (r,2)=false):=⟨fdc h rfl,fdc h rfl,fdc h rfl⟩
theorem GR(n gw ga cw ca:Nat)(ks:List Nat)(hks:∀k∈ks,k=5∨k=6∨k=7)(hl1:1≤ks.length)(hl4:ks.length≤4)(x0:Nat×zA)(ws:Wl)(hws:ws.length=ks.length)(hsz:∀x∈ws,x.2.size≤4000)(en:Int)(w:zW)
  (h0:dt w gw (ks.length+1) (fun j=>.string ((x0::ws).getD j pad).2)) (h1:dt w ga (ks.length+1) (fun j=>.int .i64 ((x0::ws).getD j pad).1)) (hl:gw<w.heap.size∧ga<w.heap.size):
  zC 193 #[.agg #[.int .i64 n,.slice (some ⟨gw,0,none⟩) (ks.length+1) cw,.slice (some ⟨ga,0,none⟩) (ks.length+1) ca,.int .i64 en],.string (fb ks)] w fun e w'=>e=.returned (Ir n (mE ks ws 0 0))∧zB w w':=by
 have HR:Hid (Bn ks ws 0=mE ks ws 0 0):=rfl;generalize mE ks ws 0 0=R at HR ⊢;have hfs:=Iu ks
 have HP:Hid (∀i (hi:i<(fb ks).size),∃(hk:i<ks.length)(hw:i<ws.length),(((((fb ks)[i].toNat:Int)==112)=(ks[i]==5))∧((((fb ks)[i].toNat:Int)==118)=(ks[i]==6))∧((((fb ks)[i].toNat:Int)==62)=(ks[i]==7)))∧(ks[i]=5∨ks[i]=6∨ks[i]=7)∧ws[i].2.size≤4000∧w.cell? ⟨gw,i+1,none⟩=some (.string ws[i].2)∧w.cell? ⟨ga,i+1,none⟩=some (.int .i64 ws[i].1)):=fun i hi=>by
  have hk:i<ks.length:=by rw[←hfs];exact hi
  have hw:i<ws.length:=by rw[hws];exact hk
  have hq:=hks ks[i] (dH hk);have hgd:(x0::ws).getD (i+1) pad=ws[i]:=getD_at (l:=ws) hw;have a:=h0.at' (i+1) ae;have b:=h1.at' (i+1) ae;simp only[hgd] at a b;exact⟨hk,hw,by rw[S7 ks i hi hk];exact GQ _ hq,hq,hsz _ (dH hw),a,b⟩
 have hne:((fb ks).toList==[])=false:=jf (fun e=>by
  have h0:(fb ks).data.toList.length=0:=by rw[e];rfl
  rw[←bD] at h0;omega)
 have HE:Hid (∀k,mE ks ws k (fb ks).size=mE ks ws k ks.length):=fun k=>by rw[hfs]
 have hx:=al4 w (.cells #[.int .i64 n,.slice (some ⟨gw,0,none⟩) (ks.length+1) cw,.slice (some ⟨ga,0,none⟩) (ks.length+1) ca,.int .i64 en] 254) (.cells #[.int .i64 0,.int .i64 0,.int .i64 0] 273) (.cells #[.int .i64 n,.int .i64 0,.int .i64 0] 273) (.cells #[.int .i64 5,.int .i64 6,.int .i64 7] 3);rw[←hfs] at hx ⊢;have hf4:(fb ks).size≤4:=ae;clear hks hsz hws hl1 hl4 hfs h0 h1;generalize fb ks=f at*;go_enter func193,ntmps193;go_wp2;have HX:=zH hx;clear hx;generalize (((w.alloc (.cells #[.int .i64 n,.slice (some ⟨gw,0,none⟩) (f.size+1) cw,.slice (some ⟨ga,0,none⟩) (f.size+1) ca,.int .i64 en] 254)).alloc (.cells #[.int .i64 0,.int .i64 0,.int .i64 0] 273)).alloc (.cells #[.int .i64 n,.int .i64 0,.int .i64 0] 273)).alloc (.cells #[.int .i64 5,.int .i64 6,.int .i64 7] 3)=W0 at*;go_loopg [8] 3 (fun gg s wr=>∃k:Nat,k≤3∧3-k≤gg∧s=.int .i64 k∧Hid (zB W0 wr)∧Hid (Bn ks ws k=R))
 case atStart=>exact⟨0,ae,ae,rfl,af _ _,HR⟩
 case round=>
  clear HR;obtain⟨k,hk,hgk,rfl,HBk,HR⟩:=hrel;by_cases hk3:k<3
  ·have HRi:Hid (mE ks ws k 0=R):=by
    have:=HR.out;unfold Bn at this;rw[ay hk3] at this;exact this
   have HNx:Hid (mE ks ws k ks.length=Bn ks ws (k+1)):=by
    show _=_;unfold Bn;rcases(by omega:k<2∨k=2) with e|e
    ·rw[ay ae];exact KJ ks ws k e
    ·rw[e,au ae];exact Oa ks ws
   have hm:∀cc:Int,((⟨#[112,118,62]⟩:zA)[k]'hk3).toNat=if k=0 then 112 else if k=1 then 118 else 62:=fun _=>by
    rcases(by omega:k=0∨k=1∨k=2) with rfl|rfl|rfl<;>rfl
   clear HR hm;obtain⟨K,hK⟩:∃K,K=k:=⟨k,rfl⟩;rw[←hK] at HRi HNx;rcases(by omega:k=0∨k=1∨k=2) with rfl|rfl|rfl
   all_goals
    clear hk3 hk;go_wp2;go_loopg [9] f.size (fun gg s wi=>∃i:Nat,i≤f.size∧f.size-i≤gg∧s=.int .i64 i∧Hid (zB W0 wi)∧Hid (mE ks ws K i=R))
    case atStart=>exact⟨0,ae,ae,rfl,HBk,HRi⟩
    case round=>
     clear HRi HBk;obtain⟨i,hi,hgi,rfl,HBi,HRi⟩:=hrel;by_cases hlt:i<f.size
     ·have fD:(i:Int)<(f.size:Int):=ae
      obtain⟨hki,hwi,⟨p1,p2,p3⟩,hq,hs4,c2,hga⟩:=HP.out i hlt;have hbw:=HX.out.2.2.2.2.trans (HBi.out.mono HX.out.2.2.2.2.size);have c1:wr.cell? ⟨w.heap.size,1,none⟩=some (.slice (some ⟨gw,0,none⟩) (f.size+1) cw):=(fdc ((HBi.out.block _ (blt HX.out.1)).trans HX.out.1) rfl).1;have c2:wr.cell? ⟨gw,i+1,none⟩=some (.string ws[i].2):=by rw[hbw.cell (p:=⟨gw,i+1,none⟩) hl.1];exact c2
      have HA:=zH hga;have HMiss:Hid (¬(ks[i]=5+K∧Tx.fit Pv.aK (5+K) ws[i].2.data.toList=false)→mE ks ws K (i+1)=R):=fun h=>by rw[←KL hki hwi h];exact HRi.out
      have HHit:Hid (ks[i]=5+K→Tx.fit Pv.aK (5+K) ws[i].2.data.toList=false→R=some (ws[i].1,5+K)):=fun e h=>by rw[←HRi.out];exact Ob hki hwi e h
      clear HRi hga hbw;generalize ws[i].1=a at*;generalize ws[i].2=x at*;generalize ks[i]=q at*;generalize hcc:(f[i].toNat:Int)=cc at*;clear hki hwi;have kp:=fun W=>qV x W ae
      have kv:=fun W=>qj x W
      have HF:Hid (Tx.fit Pv.aK 5 x.data.toList=Pv.aK x.data.toList∧Tx.fit Pv.aK 6 x.data.toList=(Pv.parse x.data.toList).isSome∧Tx.fit Pv.aK 7 x.data.toList=(x.toList==[61,62])):=⟨rfl,rfl,by rw[cP];rfl⟩;generalize Pv.aK x.data.toList=o5 at*;generalize (Pv.parse x.data.toList).isSome=o6 at*;generalize ho7:(x.toList==[61,62])=o7 at*;have p4:(cc==(((⟨#[112,118,62]⟩:zA)[0]'(aA)).toNat:Int))=(q==5):=p1;have p5:(cc==(((⟨#[112,118,62]⟩:zA)[1]'(aA)).toNat:Int))=(q==6):=p2;have p6:(cc==(((⟨#[112,118,62]⟩:zA)[2]'(aA)).toNat:Int))=(q==7):=p3;rcases hq with rfl|rfl|rfl
      all_goals
       simp only[Nat.reduceBEq] at p1 p2 p3 p4 p5 p6
       first
        |(go_wp2_with (go_at_call 40;fail)
          go_at_call 40;refine(kp _).mono ?_;intro e w1 h1;rw[h1.1,h1.2];clear h1;have HB1:=HBi;cases o5)
        |(go_wp2_with (go_at_call 56;fail)
          go_at_call 56;refine(kv _).mono ?_;rintro e w1 ⟨rfl,hb⟩;have HB1:=zH (HBi.out.trans (hb.mono HBi.out.size));clear hb;cases o6)
        |(have HB1:=HBi
          cases o7)
       all_goals
        clear kp kv;go_upto_region 26 with fail;go_quiet (fail);generalize hW:World.drewN _ _=W1;have HB2:Hid (zB W0 W1):=by rw[←hW];exact⟨HB1.out.os,HB1.out.tape,HB1.out.output,HB1.out.size,HB1.out.block⟩
        clear hW HB1
        first
         |(have HMs:=zH (HMiss.out (fun h=>by
            have h1:=h.1;have h2:=h.2;simp only[hK,Nat.reduceAdd,HF.out.1,HF.out.2.1,HF.out.2.2] at h1 h2
            first|exact absurd h1 aA|exact absurd h2 aA))
           clear HMiss HHit HF;go_wp2;go_roundg (f.size-(i+1))
           case measure=>omega
           case rel=>exact⟨i+1,ae,ae,by first|rfl|go_num,HB2,HMs⟩)
         |(have HHt:=zH (HHit.out (by rw[hK]) (by simp only[hK,Nat.reduceAdd,HF.out.1,HF.out.2.1,HF.out.2.2]))
           clear HMiss HHit HF;obtain⟨⟨x0',_⟩,⟨x1',v1'⟩,⟨x2',v2'⟩⟩:=zX ((HB2.out.block _ (blt HX.out.2.2.1)).trans HX.out.2.2.1);obtain⟨⟨y0',z0'⟩,⟨y1',z1'⟩,⟨y2',z2'⟩⟩:=zX ((HB2.out.block _ (blt HX.out.2.1)).trans HX.out.2.1);obtain⟨⟨k0',_⟩,⟨k1',_⟩,⟨k2',_⟩⟩:=zX ((HB2.out.block _ (blt HX.out.2.2.2.1)).trans HX.out.2.2.2.1);have l2':W1.cell? ⟨w.heap.size,2,none⟩=some (.slice (some ⟨ga,0,none⟩) (f.size+1) ca):=(fdc ((HB2.out.block _ (blt HX.out.1)).trans HX.out.1) rfl).1;have hbw:=HX.out.2.2.2.2.trans (HB2.out.mono HX.out.2.2.2.2.size);have av':W1.cell? ⟨ga,i+1,none⟩=some (.int .i64 a):=by rw[hbw.cell (p:=⟨ga,i+1,none⟩) hl.2];exact HA.out
           go_wp2
           (try rw[dY])
           exact aL (v:=Ir n R) (by rw[HHt.out,hK];simp[results,results193,go_sem,y0',y1',y2',Ir]) rfl ⟨rfl,((((hbw.setCell aJ _).setCell aJ _).setCell ah _).setCell ah _).setCell ah _⟩)
     ·have fD:¬((i:Int)<(f.size:Int)):=ae
      have HN:Hid (Bn ks ws (K+1)=R):=by
       show _=_;rw[←HNx.out,←HE.out,←(by omega:i=f.size)];exact HRi.out
      clear HRi;go_wp2;go_roundg (3-(K+1))
      case measure=>omega
      case rel=>exact⟨K+1,ae,ae,by rw[hK];first|rfl|go_num,HBi,HN⟩
  ·obtain rfl:k=3:=ae
   obtain rfl:none=R:=HR.out;obtain⟨⟨x0',_⟩,⟨x1',_⟩,⟨x2',_⟩⟩:=zX ((HBk.out.block _ (blt HX.out.2.2.1)).trans HX.out.2.2.1);obtain⟨⟨y0',z0'⟩,⟨y1',z1'⟩,⟨y2',z2'⟩⟩:=zX ((HBk.out.block _ (blt HX.out.2.1)).trans HX.out.2.1);have hbw:=HX.out.2.2.2.2.trans (HBk.out.mono HX.out.2.2.2.2.size);go_wp2;exact aL (v:=.agg #[.int .i64 n,.int .i64 0,.int .i64 0]) (by simp[results,results193,go_sem,y0',y1',y2']) rfl ⟨rfl,((hbw.setCell ah _).setCell ah _).setCell ah _⟩
end Mf
namespace Mf
variable{w w':zW}{z:Bool}
def Long(l:Wl):Prop:=2≤l.length∧l.length≤5∧((wd l 0).data.toList≠Tx.wR→(wd l 0).data.toList≠Tx.wV→(wd l 0).data.toList≠Tx.wM→3≤l.length)
theorem Iv{l}{D}(h:Ok z l D):Long l:=by
 have f:=h.len;unfold Long;rcases eu h.sh with⟨_,e,rfl⟩|⟨_,⟨e,rfl⟩|⟨e|e,rfl⟩|⟨e,rfl⟩⟩<;>simp at f<;>rw[e]<;>refine⟨ae,ae,fun a b c=>?_⟩<;>first|omega|exact absurd rfl a|exact absurd rfl b|exact absurd rfl c
theorem Od{l g:Wl}(D:l≠[])(f:g≠[]):Tx.again (aH l) (aH g)=((wd g 0).toList==(wd l 0).toList&&(wd g 1).toList==(wd l 1).toList&&((wd l 0).toList==[114,101,113,117,105,114,101]||(wd l 0).toList==[118,101,114,115,105,111,110]||(wd l 0).toList==[109,111,100,117,108,101]||(wd g 2).toList==(wd l 2).toList)):=by
 unfold Tx.again;rw[su D,su f,qZ,qZ,qZ,qZ];simp only[cP]
 rfl
theorem KM(ob cap n U ga cw ca:Nat)(en:Int)l(a6:Long l)(good:List OLn)xs B w(hg:good.length≤2001)
  (ho:w.ownsRow 0 254 4 (.slice (some (ob,0)) good cap) good xs) (hl:gi w B good xs) (h2:∀g∈good,Long g.2)
  (hv:dt w U l (fun j=>(l.getD j pad).2)):
  zC 195 #[.agg #[n,.slice (some (U,0)) l cw,.slice (some (ga,0)) l ca,en],.slice (some (ob,0)) good cap] w fun e w'=>e=.returned (((dr good).any fun x=>Tx.again (aH l) x.2))∧Below w w w':=by
 have HL:Hid (∀j,∀hj:_,∃Y cj S O,w.cell? (ob,j*4)=good[j].1∧w.cell? ⟨ob,j*4+1,none⟩=some (.slice (some (Y,0)) good[j].2 cj)∧w.cell? (ob,j*4+2)=some (.slice (some ⟨S,0,none⟩) good[j].2 O)∧w.cell? (ob,j*4+3)=(Tx.fin (aH good[j].2))∧dt w Y good[j].2 (fun i=>.string (good[j].2.getD i pad).2)∧Y<w∧Long good[j].2):=fun j hj=>by
  obtain⟨Y,cj,S,O,a0,a1,a2,a3,_,hv,a8⟩:=pS hl ho j hj
  grind
 have yR:=(ho.lt ob rfl).2;have az:_∧_:=⟨a6.1,a6.2.1⟩;have HW:=zH hv;have ad:=zH a6;have FE:=cr w _ (hv.at' 0 ae);obtain⟨R,hR⟩:∃R,((dr good).any fun x=>Tx.again (aH l) x.2)=R:=⟨_,rfl⟩;have HR:Hid (((dr good).drop 0).any _=R):=hR;rw[hR];clear ho hl h2 hv hR a6;generalize ab:l.length=m at*;go_enter func195,ntmps195;go_wp2;have V:Hid ((w.alloc (.cells #[n,_,.slice (some (ga,0)) m ca,en] 254)).cell? ⟨_,1,none⟩=some (.slice (some (U,0)) m cw)∧zB w (w.alloc (.cells #[n,.slice (some (U,0)) m cw,.slice (some (ga,0)) m ca,en] 254))):=⟨(fdc (fdn _ _) rfl).1,(af _ _).alloc (ai _) _⟩;generalize w.alloc _=W0 at*;go_loopg [5] good (fun gg s wr=>∃j:Nat,j≤good.length∧good.length-j≤gg∧s=.int .i64 j∧Hid (wr.cell? ⟨w.heap.size,1,none⟩=some (.slice (some ⟨U,0,none⟩) m cw)∧zB w wr)∧Hid (((dr good).drop j).any (fun x=>Tx.again (aH l) x.2)=R))
 case atStart=>exact⟨0,ae,ae,rfl,V,HR⟩
 case round=>
  clear V HR;obtain⟨j,hj,aq,rfl,V,HR⟩:=hrel;by_cases a8:j<good
  ·obtain⟨Y,cj,S,O,a0,a1,a2,a3,a4,UD,QA⟩:=HL.out j a8
   have F:=V.out.2;have d0:=(F.cell yR).trans a0;have d1:=(F.cell yR).trans a1;have d2:=(F.cell yR).trans a2;have d3:=(F.cell yR).trans a3;have fD:j<(good:Int):=ae
   have f:Hid ((Tx.again (aH l) (aH good[j].2)||((dr good).drop (j+1)).any (fun x=>Tx.again (aH l) x.2))=R):=by
    have:=HR.out;rw[bN (by simp[dr];exact a8),List.any_cons] at this;show _=_;simpa[dr] using this
   clear HR;generalize (Tx.fin (aH good[j].2):Nat)=fi at*;generalize (good[j].1:Nat)=nj at*;generalize good[j].2=g at*;have HG:Hid (_∧_):=⟨a4,QA⟩;have aa:_∧_:=⟨QA.1,QA.2.1⟩;rw[Od (fun e=>by rw[e] at ab;simp at ab;omega) (fun e=>by rw[e] at aa;simp at aa)] at f;clear QA a4;generalize av:g.length=gm at*;go_upto_region 5 with fail;have q1:(wr.alloc (.cells #[nj,_,.slice (some (S,0)) gm O,fi] 254)).cell? ⟨_,1,none⟩=some (.slice (some (Y,0)) gm cj):=(fdc (fdn _ _) rfl).1;have a7:zB wr (wr.alloc (.cells #[nj,.slice (some (Y,0)) gm cj,.slice (some (S,0)) gm O,fi] 254)):=(af _ _).alloc (ai _) _;generalize wr.alloc _=W1 at*;have D:Hid (_∧_):=⟨(a7.cell (cr wr _ V.out.1)).trans V.out.1,F.trans (a7.mono V.out.2.size)⟩;have HV:Hid ((∀i,_→W1.cell? _=(wd l i))∧∀i,_→W1.cell? _=(wd g i)):=⟨fun i hi=>(D.out.2.cell FE).trans (HW.out.at' i hi),fun i hi=>(D.out.2.cell UD).trans (HG.out.1.at' i hi)⟩
   have I:Hid ((wd g 0).toList=(wd l 0).toList→((wd l 0).toList==[114,101,113,117,105,114,101])=false→((wd l 0).toList==[118,101,114,115,105,111,110])=false→((wd l 0).toList==[109,111,100,117,108,101])=false→2<m∧2<gm):=fun e a b c=>by
    simp only[cP,bX] at e a b c;have h1:=ad.out.2.2 a b c;have h2:=HG.out.2.2.2 (by rw[e];exact a) (by rw[e];exact b) (by rw[e];exact c);omega
   have p1:=D.out.1;have p2:=HV.out.1 0 ae;have p3:=HV.out.1 1 ae;have p4:=HV.out.2 0 ae;have p5:=HV.out.2 1 ae;have b0:(1)<(m:Int):=ae;have an:(1)<(gm:Int):=ae;clear a0 a1 a2 a3 d0 d1 d2 d3 F a7 V UD;generalize wd g 0=y0 at*;generalize wd g 1=y1 at*;generalize wd l 0=x0 at*;generalize wd l 1=x1 at*;have KD:∀q,Hid ((W1.drewN q).cell? _=_∧zB w (W1.drewN q)):=fun q=>⟨D.out.1,D.out.2.os,D.out.2.tape,D.out.2.output,D.out.2.size,D.out.2.block⟩
   by_cases hc:(y0.toList==x0.toList)=true∧(y1.toList==x1.toList)=true
   ·obtain⟨e0,e1⟩:=hc
    have HE:Hid (y0.toList=x0.toList):=by show _=_;simpa using e0
    rw[e0,e1] at f;go_quiet (fail);generalize T:W1.drewN _=G;have E:Hid (G.cell? (w,1)=some (.slice (some (U,0)) m cw)∧zB w G):=by rw[←T];exact KD _
    have r1:=E.out.1;have r2:G.cell? (U,0)=x0:=by rw[←T];exact p2
    have r3:G.cell? (wr,1)=some (.slice (some (Y,0)) gm cj):=by rw[←T];exact q1
    have M:Hid ((2<m→G.cell? (U,2)=(wd l 2))∧(2<gm→G.cell? (Y,2)=(wd g 2))):=by
     rw[←T];exact⟨fun h=>HV.out.1 2 h,fun h=>HV.out.2 2 h⟩
    have KD:∀q,Hid ((G.drewN q).cell? _=_∧zB w (G.drewN q)):=fun q=>⟨E.out.1,E.out.2.os,E.out.2.tape,E.out.2.output,E.out.2.size,E.out.2.block⟩
    clear T p1 p2 p3 p4 p5 q1 HV D e0 e1;generalize wd l 2=x2 at*;generalize wd g 2=y2 at*;go_upto_region 6 with fail;cases f1:(x0.toList==[114,101,113,117,105,114,101]);cases f2:(x0.toList==[118,101,114,115,105,111,110]);cases f3:(x0.toList==[109,111,100,117,108,101])
    ·have a5:=I.out HE.out f1 f2 f3
     have Xg:(2)<(m:Int):=ae;have Xh:(2)<(gm:Int):=ae;have r4:=M.out.1 a5.1;have r5:=M.out.2 a5.2;rw[f1,f2,f3] at f;cases f4:(y2.toList==x2.toList)
     ·rw[f4] at f
      have a9:Hid (((dr good).drop (j+1)).any (fun x=>Tx.again (aH l) x.2)=R):=by show _=_;simpa using f.out
      clear f I M a5;go_quiet (fail);generalize T:G.drewN _=W3;have ak:Hid (W3.cell? (w,1)=some (.slice (some (U,0)) m cw)∧zB w W3):=by rw[←T];exact KD _
      clear T KD;go_wp2;go_roundg (good-(j+1))
      case measure=>omega
      grind
     ·rw[f4] at f
      obtain rfl:true=R:=iQ;clear f I M a5;go_quiet (fail);go_wp2;go_ret;exact⟨rfl,(KD _).out.2⟩
    all_goals
     simp only[*,Bool.true_or,Bool.or_true,Bool.and_true,Bool.false_or] at f;obtain rfl:true=R:=f.out;clear f I M;go_quiet (fail);go_wp2;go_ret;exact⟨rfl,(KD _).out.2⟩
   ·have a9:Hid (((dr good).drop (j+1)).any (fun x=>Tx.again (aH l) x.2)=R):=by
     have:=f.out;rw[Bool.eq_false_iff.2 (fun h=>hc (Bool.and_eq_true_iff.1 h)),Bool.false_and,Bool.false_or] at this;exact this
    clear f I
    have hd:(y0.toList==x0.toList)=false∨(y0.toList==x0.toList)=true∧(y1.toList==x1.toList)=false:=by
     cases e0:(y0.toList==x0.toList)
     ·simp
     ·exact Or.inr ⟨rfl,Bool.eq_false_iff.2 (fun h=>hc ⟨e0,h⟩)⟩
    clear hc;rcases hd with e0|⟨e0,e1⟩
    all_goals
     go_quiet (fail);generalize T:W1.drewN _=G;have E:Hid (G.cell? (w,1)=some (.slice (some (U,0)) m cw)∧zB w G):=by rw[←T];exact KD _
     clear T KD;go_wp2;go_roundg (good-(j+1))
     case measure=>omega
     case rel=>exact⟨_,ae,ae,by go_num,E,a9⟩
  ·have fD:(j<(good:Int))=False:=aJ
   obtain rfl:R=false:=by
    have:=HR.out;rw[gY (by simp[dr];omega)] at this;exact this.symm
   go_wp2;go_ret;exact⟨rfl,V.out.2⟩
end Mf
namespace Mf
variable{w w':zW}{z:Bool}
theorem nI:∀(f:List (List UInt8))(n:Nat)(y:Tx.Ln),y∈Tx.spoken n f→∃line∈f,y.2=Tx.words line
 |[],n,y,h=>by simp[Tx.spoken] at h
 |a::f,n,y,h=>by
  rw[Tx.spoken] at h
  split at h
  ·obtain⟨line,D,E⟩:=nI f _ y h
   grind
  ·rcases bI.1 h with e|e
   ·grind
   ·obtain⟨line,D,E⟩:=nI f _ y e
    grind
theorem E7{s:zA}{all}(h:dr all=Tx.bJ [] 1 [] false false 0 s):∀l∈all,∀x∈l.2,x.2.size≤s.size:=by
 intro l I x O;rw[Tx.qQ] at h
 have hm:(l.1,aH l.2)∈Tx.spoken 1 (Pv.spl 10 s):=by
  rw[←h];exact List.mem_map_of_mem I
 obtain⟨line,f,D⟩:=nI _ _ _ hm
 have M:(x.1,x.2.data.toList)∈Tx.words line:=by
  have E:=D;rw[←E];exact List.mem_map_of_mem O
 have F:=Tx.DZ M;have G:=Dr.spl_len 10 _ _ f;rw[←bD] at F G;omega
theorem KN{l:OLn}{F R E O}(I:l.2≠[])(hw:dt w F l.2 (fun j=>(l.2.getD j pad).2))(U:dt w E l.2 (fun j=>(l.2.getD j pad).1))(hl:F<w∧E<w)(hz:∀x∈l.2,x.2.size≤4000):
  zC 193 #[.agg #[l.1,.slice (some (F,0)) l.2 R,.slice (some (E,0)) l.2 O,(Tx.fin (aH l.2))],(Bj z (wd l.2 0))] w fun e w'=>e=(Ir l.1 (Tx.own z Pv.aK (aH l.2)))∧Below w w w':=by
 have f:=eB.2 I;unfold Tx.own Bj;rw[su I,pR];cases hs:Tx.shape z (wd l.2 0).data.toList with
 |none=>exact pB l.1 F E _ R O _ _ w aA f (Or.inl rfl) _ 3 (fun _=>⟨rfl,U.at' 0 f⟩) (fun h=>absurd rfl h)
 |some D=>
  have M:D.length≤4∧1≤D.length∧∀k∈D,k=5∨k=6∨k=7:=by rcases eu hs with⟨_,_,rfl⟩|⟨_,⟨_,rfl⟩|⟨_,rfl⟩|⟨_,rfl⟩⟩<;>simp
  have T:=Iu D;have G:fb D≠⟨#[]⟩:=fun e=>by rw[e] at T;have h:(⟨#[]⟩:zA).size=0:=rfl;omega
  have S:=jf (fun e=>G (mY e));simp only[ny];by_cases V:D+1<l.2.length
  ·rw[ay V]
   exact pB l.1 F E _ R O _ _ w ae f (Or.inr ⟨S,ae⟩) _ 4 (fun h=>absurd h G) (fun _=>⟨rfl,fun _=>by rw[T];exact U.at' _ V,fun h=>ae⟩)
  ·rw[au V]
   by_cases h2:l.2<D.length+1
   ·rw[ay h2]
    exact pB l.1 F E _ R O _ _ w ae f (Or.inr ⟨S,ae⟩) _ 4 (fun h=>absurd h G) (fun _=>⟨rfl,fun h=>ae,fun _=>rfl⟩)
   ·rw[au h2]
    have h3:l.2=D.length+1:=ae;obtain⟨n,l2⟩:=l;cases l2 with
    |nil=>exact absurd rfl I
    |cons x0 ws=>
     have Y:ws=D.length:=by simpa using h3
     simp only[h3] at hw U ⊢;have key:=GR n F E R O D M.2.2 M.2.1 M.1 x0 ws Y (fun x hx=>hz x (eJ _ hx)) (Tx.fin (aH (x0::ws))) w hw U hl;rw[Oc] at key;have ht:(aH (x0::ws)).tail=aH ws:=rfl;rw[ht];exact key
theorem S8{l:Wl}(f:l≠[])(h:Tx.own z Pv.aK (aH l)=none):∃D,Ok z l D:=by
 unfold Tx.own at h;rw[su f,pR] at h
 split at h
 ·cases h
 ·rename_i D E
  simp only at E
  repeat' split at h
  all_goals first|exact⟨D,E,ae,iQ,iQ,iQ⟩|cases h
theorem GU(lead f many:Bool)(l:Wl)(D:l≠[]):
  Tx.slip z Pv.aK lead f many (aH l)=if (!z&&(((wd l 0).data.toList==Tx.wM) !=lead)) then some ((l.getD 0 pad).1,2) else match Tx.own z Pv.aK (aH l) with
   |some x=>some x
   |none=>if f then some ((l.getD 0 pad).1,8) else if ((wd l 0).data.toList==Tx.wR&&many) then some ((l.getD 0 pad).1,9) else none:=by
 unfold Tx.slip;rw[su D]
 grind
end Mf
namespace Mf
variable{w w':zW}
theorem E8 n r(h:∀a k,r=some (a,k)→0<k):∃a k:Nat,Ir n r=.agg #[n,a,k]∧(r=(a,k)∧0<k∨r=none∧k=0):=by
 cases r with
 |none=>exact⟨0,0,rfl,Or.inr ⟨rfl,rfl⟩⟩
 |some x=>exact⟨x.1,x.2,rfl,Or.inl ⟨rfl,h _ _ rfl⟩⟩
theorem QB{z}{l:Wl}:∀a k,Tx.own z Pv.aK (aH l)=some (a,k)→0<k:=fun a k h=>by
 unfold Tx.own at h
 grind
theorem Iw{B}{l}{D F f E}(h:iJ w B l [l.1,.slice (some (D,0)) l.2 F,.slice (some (f,0)) l.2 E,(Tx.fin (aH l.2))]):l.2≠[]∧dt w D l.2 (fun j=>(l.2.getD j pad).2)∧dt w f l.2 (fun j=>(l.2.getD j pad).1)∧D<w∧f<w:=by
 obtain⟨_,_,_,_,e,G,I,M,O,R,_⟩:=h
 grind
theorem GV{S}{go}{gc n D M G F:Nat}{I:Int}{l}(hl:Long l){good:List OLn}{f}{sv}{T}(Y:good.length≤2001)(E:Sl S (.slice go good gc) sv good f T w)(V:∀g∈good,Long g.2)(hv:dt w D l (fun j=>(l.getD j pad).2)):
  zC 195 #[.agg #[n,.slice (some (D,0)) l G,.slice (some (M,0)) l F,I],.slice go good gc] w fun e w'=>e=.returned (((dr good).any fun x=>Tx.again (aH l) x.2))∧Below w w w':=by
 by_cases O:good=[]
 ·subst O
  have R:Hid (∀o,zB w (w.alloc o)):=fun o=>(af _ _).alloc (ai _) _
  have e:((dr []).any fun x=>Tx.again (aH l) x.2)=false:=rfl;rw[e];generalize l.length=m at*;go_enter func195,ntmps195;go_wp2;refine wp_loop_rounds 1 ?_;rw[pJ];go_wp2;go_ret;exact⟨rfl,R.out _⟩
 ·obtain⟨g,c,e⟩:=bo E.og (eB.2 O)
  injection e with U;subst U;exact KM g gc n D M G F I l hl good f _ w Y (cF E.og (aN _)) E.lie V hv
def SlP(z:Bool)(s:zA)(w w':zW)(E F:zV):Prop:=
 ∃(good:List OLn)(D:List zV)(f:List (Nat×Nat×Nat))(Wl:zW)(m q:Nat),zB w Wl∧
   (Tx.bJ [] 1 [] false false 0 s.data.toList).foldl (Tx.bK z Pv.aK 20) qf=⟨dr good,f,m,q⟩∧(∀g∈good,∃G,Ok z g.2 G)∧good.length≤2001∧f.length≤2001∧
   ((z=false∧m=0∧good=[]∧f=[]∧E=zN∧zB w w'∧w'.ownsRow w.heap.size 273 3 F 1 (cy [(0,0,2)]))∨(¬(z=false∧m=0)∧Sl Wl E F good D f w'))
theorem CM(z Z:Bool)(hZ:Z=z)(s:zA)w(hs:s.size≤2000):
  zC 171 #[s,z] w fun e w'=>∃gv sv,e=.returned (.tuple #[gv,sv])∧SlP Z s w w' gv sv:=by
 obtain⟨i1,hi⟩:=He;have HI:=zH hi;clear hi;obtain⟨i2,hi⟩:=Mr;have HJ:=zH hi;clear hi;have kl:=I4 s w hs;have da:¬(s.size:Int)>2000:=ae;go_enter func171,ntmps171
 go_wp2_with (go_at_call 192;fail)
 go_at_call 192;refine kl.mono ?_;rintro e Wl ⟨ov,all,xs,T,rfl,ad,cj,b5,Oe,lV,cc,hb⟩;clear kl;obtain⟨oa,oc,rfl⟩:=IZ b5;have HO:=zH b5;have c0:=zH (Oe.turn (ai _) (fun k hk _=>⟨rfl,hk⟩));have HB:=zH hb;have c3:Hid (∀l∈all,∀x∈l.2,x.2.size≤4000):=fun l hl x hx=>by have:=E7 ad l hl x hx;omega
 obtain⟨R,hR⟩:∃R,(Tx.bJ [] 1 [] false false 0 s.data.toList).foldl (Tx.bK Z Pv.aK 20) qf=R:=⟨_,rfl⟩
 have aq:Hid ((dr (all.drop 0)).foldl (Tx.bK Z Pv.aK 20) ⟨dr [],[],0,0⟩=R):=by
  show _=_;rw[List.drop_zero,ad];exact hR
 have HE:Hid (∀(good:List OLn) O Y m q w' gv sv,R=⟨_,Y,m,q⟩→_→_→_→_→SlP Z s w w' gv sv):=fun good O Y m q w' gv sv f h2 h3 h4 h5=>⟨good,O,Y,Wl,m,q,HB.out,hR.trans f,h2,h3,h4,h5⟩
 clear ad b5 Oe lV cc hb hR;by_cases h0:Z=false∧all.length=0
 ·obtain⟨f,h0⟩:=h0
  obtain rfl:z=false:=hZ.symm.trans f;have hq:((all:Int)==0)=true:=by simp[h0]
  obtain rfl:=List.length_eq_zero_iff.1 h0;have HX:Hid (SlP Z s w (Wl.alloc (.cells #[.int .i64 0,.int .i64 0,.int .i64 2] 273)) _ _):=HE.out [] [] [] 0 0 _ _ _ aq.out.symm (fun x hx=>by cases hx) ah ah (Or.inl ⟨f,rfl,rfl,rfl,rfl,HB.out.alloc HB.out.size _,cF (nC Wl 0 0 2) HB.out.size⟩);clear aq h0 HE;go_wp2;go_ret2;exact⟨_,_,rfl,HX.out⟩
 ·have HZ:=zH h0
  have bc:=zH hZ
  have hc:((all:Int)==0)=true→z=true:=fun h=>by
   grind
  have KF:Hid (∀x W,zC 194 #[.string x,z] W fun e w'=>e=(Bj Z x)∧w'=W):=fun x W=>by rw[hZ];exact N9 z x W
  clear h0 hZ;cases z<;>cases hq:((all.length:Int)==0)
  rotate_left
  ·cases hc hq
  all_goals
   clear hc;go_wp2;clear hq;go_loopg [7,8,9,10] all (fun gg g sl rq i wr=>∃(k:Nat)(good:List OLn)(O:List zV)(Y:List (Nat×Nat×Nat))(G:Nat),k≤all.length∧all.length-k≤gg∧i=.int .i64 k∧rq=.int .i64 G∧good.length≤k∧Y.length≤k∧G≤k∧Hid (Sl Wl g sl good O Y wr)∧Hid (∀g∈good,∃ks,Ok Z g.2 ks)∧Hid ((dr (all.drop k)).foldl (Tx.bK Z Pv.aK 20) ⟨dr good,Y,k,G⟩=R))
   case atStart=>exact⟨0,[],[],[],0,ae,ae,rfl,rfl,ah,ah,ae,Ms Wl,(fun x hx=>by cases hx),aq⟩
   case round=>
    clear aq;obtain⟨k,good,O,Y,G,hk,cs,rfl,rfl,ct,db,cx,HS,HG,b0⟩:=hrel;by_cases b4:k<all
    ·obtain⟨ob,rfl⟩:∃ob,oa=some ⟨ob,0,none⟩:=by
      obtain⟨g,c,e⟩:=bo HO.out ae;injection e with e1;exact⟨g,e1⟩
     obtain⟨gw,cw,ga,ca,a0,a1,a2,a3,b2,_,_⟩:=pS c0.out HO.out k b4;have ak:=HS.out.old;have yR:=(HO.out.lt ob rfl).2;have d0:=(ak.cell yR).trans a0;have d1:=(ak.cell yR).trans a1;have d2:=(ak.cell yR).trans a2;have d3:=(ak.cell yR).trans a3;have fD:k<(all:Int):=ae
     have bb:Hid ((dr (all.drop (k+1))).foldl (Tx.bK Z Pv.aK 20) (Tx.bK Z Pv.aK 20 ⟨dr good,Y,k,G⟩ (all[k].1,aH all[k].2))=R):=by
      have:=b0.out;rw[bN b4] at this;exact this
     have c4:=zH (c3.out _ (dH b4));clear b0 a0 a1 a2 a3;generalize all[k]=l at*;have bt:=zH b2;have an:Hid (∀W,zB Wl W→_):=fun W hb=>bt.out.turn hb.size (fun b c5 ht=>⟨hb.block b c5,ht⟩)
     have KO:=(Iw b2).1;have Rh:=eB.2 KO;obtain⟨xa,xk,b7,az⟩:=E8 l.1 (Tx.own Z _ (aH l.2)) QB;have D:Hid (Tx.slip Z _ (k==0) _ _ _=_∧_):=⟨GU _ ((dr good).any fun x=>Tx.again (aH l.2) x.2) (G==20) l.2 KO,az⟩
     have a6:Hid ((∀a q,Tx.slip Z Pv.aK (k==0) ((dr good).any fun x=>Tx.again (aH l.2) x.2) (G==20) (aH l.2)=(a,q)→(dr (all.drop (k+1))).foldl (Tx.bK Z Pv.aK 20) ⟨dr good,Y++[(l.1,a,q)],k+1,G⟩=R)∧(Tx.slip Z Pv.aK (k==0) ((dr good).any fun x=>Tx.again (aH l.2) x.2) (G==20) (aH l.2)=none→(dr (all.drop (k+1))).foldl (Tx.bK Z Pv.aK 20) ⟨dr (good++[l]),Y,k+1,if (wd l.2 0).toList==[114,101,113,117,105,114,101] then G+1 else G⟩=R)):=by
      have h3:=bb.out;refine⟨fun a q h=>?_,fun h=>?_⟩
      ·simp only[Tx.bK,h] at h3
       exact h3
      ·have e:(if (Tx.hd (aH l.2)).2=Tx.wR then G+1 else G)=if (wd l.2 0).toList==[114,101,113,117,105,114,101] then G+1 else G:=by
        rw[su KO,cP];by_cases e:(wd l.2 0).data.toList=[114,101,113,117,105,114,101]<;>simp[Tx.wR,e]
       simp only[Tx.bK,h,e] at h3;simpa[dr] using h3
     have kf:=fun W=>KF.out (wd l.2 0) W
     clear az b2 bb;go_upto_region 13 with fail;clear d0 d1 d2 d3;have ba:Hid ((wr.alloc (.cells #[l.1,.slice (some (gw,0)) l.2 cw,.slice (some (ga,0)) l.2 ca,(Tx.fin (aH l.2))] 254)).heap[_]?=_):=fdn _ _;have I:Hid (Sl Wl u7 u8 good O Y (wr.alloc (.cells #[l.1,.slice (some (gw,0)) l.2 cw,.slice (some (ga,0)) l.2 ca,(Tx.fin (aH l.2))] 254))):=HS.out.below ((af _ _).alloc (ai _) _);clear HS ak;generalize wr.alloc _=W1 at*
     have HP:Hid (∀W,zB W1 W→(W.cell? (wr,0)=some (.int .i64 l.1)∧W.cell? (wr,1)=some (.slice (some (gw,0)) l.2 cw)∧W.cell? ⟨wr,2,none⟩=some (.slice (some ⟨ga,0,none⟩) l.2 ca)∧W.cell? ⟨wr,3,none⟩=some (.int .i64 (Tx.fin (aH l.2)))∧W.cell? ⟨gw,0,none⟩=some (.string (wd l.2 0)))∧W.cell? ⟨ga,0,none⟩=some (.int .i64 (l.2.getD 0 pad).1)):=fun W hb=>by
      have h:=(hb.block _ (blt ba.out)).trans ba.out;have q:=Iw (an.out W (I.out.old.trans (hb.mono I.out.old.size)));exact⟨⟨(fdc h rfl).1,(fdc h rfl).1,(fdc h rfl).1,(fdc h rfl).1,q.2.1.at' 0 Rh⟩,q.2.2.1.at' 0 Rh⟩
     have ck:(0)<(l.2:Int):=ae
     go_cut [12] (fun xp wx=>∃xb,xp=.pointer (some ⟨xb,0,none⟩)∧Hid (zB W1 wx∧W1.heap.size≤xb∧wx.heap[xb]?=some (.cells #[.int .i64 l.1,.int .i64 xa,.int .i64 xk] 273)))
     case first=>
      obtain⟨⟨p0,p1,p2,p3,p4⟩,_⟩:=HP.out W1 (af _ _)
      have kw:∀W,zB W1 W→zC 193 #[.agg #[l.1,.slice (some (gw,0)) l.2 cw,.slice (some (ga,0)) l.2 ca,(Tx.fin (aH l.2))],(Bj Z (wd l.2 0))] W fun e w'=>e=.returned (.agg #[l.1,xa,xk])∧zB W w':=fun W hb=>by
       have q:=Iw (an.out W (I.out.old.trans (hb.mono I.out.old.size)));rw[←b7];exact KN q.1 q.2.1 q.2.2.1 q.2.2.2 c4.out
      have aa:=zH (fun W hb=>(HP.out W hb).1);clear b7 KO;generalize l.2.length=m at*;generalize wd l.2 0=x0 at*
      go_region_held3 (fun w'=>w'.cell? (wr,0)=l.1∧w'.cell? (wr,1)=some (.slice (some (gw,0)) m cw)∧w'.cell? ⟨wr,2,none⟩=some (.slice (some ⟨ga,0,none⟩) m ca)∧w'.cell? ⟨wr,3,none⟩=some (.int .i64 (Tx.fin (aH l.2)))∧w'.cell? ⟨gw,0,none⟩=some (.string x0))
       (first|exact⟨p0,p1,p2,p3,p4⟩|exact aa.out _ ((af _ _).drew)|exact aa.out _ (aD ((af _ _).drew) _)|exact aa.out _ a5|exact aa.out _ (aD a5 _)|exact aa.out _ (((a5.setCell ah _).setCell ah _).setCell ah _))
       (first|(go_at_call 194;refine(kf _).mono ?_;rintro e w2 ⟨rfl,rfl⟩)|(go_at_call 193;refine(kw _ ((af _ _).drew)).mono ?_;rintro e w3 ⟨rfl,sP⟩;have a5:=((af W1 W1).drew).trans sP;clear sP)|(go_at_call 193;refine(kw _ (aD ((af _ _).drew) _)).mono ?_;rintro e w3 ⟨rfl,sP⟩;have a5:=(aD ((af _ W1).drew) _).trans (sP.mono ah);have bn:w3.heap[W1.heap.size]?=some (.cells _ 273):=(sP.block _ ah).trans (fdn _ _);obtain⟨⟨z0,y0⟩,⟨z1,y1⟩,⟨z2,y2⟩⟩:=zX bn;clear sP))
      all_goals
       go_wp2_with fail
       go_meet
       first
        |exact⟨_,rfl,aD a5 _,a5.size,fdn _ _⟩
        |exact⟨_,rfl,((a5.setCell (ai _) _).setCell (ai _) _).setCell (ai _) _,ai _,fds (fds (fds bn 0 _) 1 _) 2 _⟩
     case rest=>
      obtain⟨xb,U,HC⟩:=hcut;rw[U];clear U kf b7;have fM:((wd l.2 0).toList==[109,111,100,117,108,101])=((wd l.2 0)==Tx.wM):=by rw[cP];rfl
      have fR:((wd l.2 0).toList==[114,101,113,117,105,114,101])=((wd l.2 0)==Tx.wR):=by rw[cP];rfl
      have cn:((k:Int)==0)=(k==0):=by rw[dJ];simp only[beq_iff_eq];omega
      have fq:((G:Int)==20)=(G==20):=by rw[dJ];simp only[beq_iff_eq];omega
      obtain⟨SL,bd⟩:∃S,Tx.slip Z Pv.aK (k==0) ((dr good).any fun x=>Tx.again (aH l.2) x.2) (G==20) (aH l.2)=S:=⟨_,rfl⟩;obtain⟨go,gc,cd⟩:=aC I.out.og;subst cd;have HA:Hid (_→∀W,_→Calls _ 195 #[.agg #[l.1,.slice _ _ cw,.slice (some (ga,0)) _ ca,(Tx.fin (aH l.2))],_] W fun e w'=>_∧_):=fun h W hb=>GV h ae (I.out.below hb) (fun g hg=>(HG.out g hg).elim fun _ h=>Iv h) (Iw (an.out W (I.out.old.trans (hb.mono I.out.old.size)))).2.1
      have a9:Hid (_→∃ks,Ok Z l.2 ks):=fun h=>S8 KO h
      rw[bd] at D a6;clear bd KO;generalize c9:((dr good).any fun x=>Tx.again (aH l.2) x.2)=du at*;clear c9;generalize Tx.own Z Pv.aK (aH l.2)=ow at*;generalize (l.2.getD 0 pad).1=a0 at*;generalize hm:l.2.length=m at*;generalize cf:wd l.2 0=x0 at*;generalize c6:(x0.data.toList==Tx.wM)=bM at*;generalize c7:(x0.data.toList==Tx.wR)=bR at*;generalize (k==0)=bk at*;generalize (G==20)=bq at*;rw[fR] at a6;clear c6 c7 cf
      obtain⟨ya,yk,HY⟩:∃ya yk:Nat,Hid (((!Z&&(bM !=bk))=true∧ya=a0∧yk=2)∨((!Z&&(bM !=bk))=false∧ya=xa∧yk=xk)):=by
       cases h:(!Z&&(bM !=bk))
       ·exact⟨xa,xk,Or.inr ⟨rfl,rfl,rfl⟩⟩
       ·exact⟨a0,2,Or.inl ⟨rfl,rfl,rfl⟩⟩
      obtain⟨⟨p0,p1,p2,p3,p4⟩,a4⟩:=HP.out wc HC.out.1;obtain⟨⟨e0,k0⟩,⟨e1,k1⟩,⟨e2,k2⟩⟩:=zX HC.out.2.2;have hd:(!_)=(bM !=bk):=rfl;generalize c8:(bM !=bk)=cb at*;clear c8
      go_upto_if 59 with fail
      go_cut [12] (fun xp wx=>xp=.pointer (some ⟨xb,0,none⟩)∧Hid (zB W1 wx∧wx.heap[xb]?=some (.cells #[.int .i64 l.1,.int .i64 ya,.int .i64 yk] 273)))
      case first=>
       rcases HY.out with⟨hc,rfl,rfl⟩|⟨hc,rfl,rfl⟩
       ·rw[bc.out] at hc
        first
         |(exfalso;simp at hc;done)
         |(obtain rfl:cb=true:=by simpa using hc
           clear hc;go_upto_region 15 with fail
           go_region
           go_wp2_with fail
           go_meet
           exact⟨rfl,(((HC.out.1.setCell HC.out.2.1 _).setCell HC.out.2.1 _).setCell HC.out.2.1 _).drew,fds (fds (fds HC.out.2.2 0 _) 1 _) 2 _⟩)
       ·rw[bc.out] at hc
        (try (simp at hc;subst hc))
        (try clear hc)
        go_wp2_with fail
        go_meet
        exact⟨rfl,HC.out.1,HC.out.2.2⟩
      case rest=>
       obtain⟨U,HD⟩:=hcut;rw[U];have a7:=zH HC.out.2.1;clear U p0 p1 p2 p3 p4 a4 e0 k0 e1 k1 e2 k2 HC
       obtain⟨fa,fk,HF⟩:∃fa fk:Nat,Hid (SL=some (fa,fk)∧0<fk∨SL=none∧fa=ya∧fk=0):=by
        rcases hS:SL with _|⟨a,q⟩
        ·exact⟨ya,0,Or.inr ⟨rfl,rfl,rfl⟩⟩
        ·refine⟨a,q,Or.inl ⟨rfl,?_⟩⟩
         have h:=D.out.1;rw[hS] at h;rcases D.out.2 with⟨h2,hp⟩|⟨h2,_⟩
         all_goals
          rw[h2] at h
          (try simp only at h)
          repeat' split at h
          all_goals first|(simp only[jQ,qF] at h;omega)|cases h
       obtain⟨⟨p0,p1,p2,p3,p4⟩,a4⟩:=HP.out wc HD.out.1;obtain⟨⟨e0,k0⟩,⟨e1,k1⟩,⟨e2,k2⟩⟩:=zX HD.out.2
       go_upto_if 69 with fail
       go_cut [12] (fun xp wx=>xp=.pointer (some ⟨xb,0,none⟩)∧Hid (zB W1 wx∧wx.heap[xb]?=some (.cells #[.int .i64 l.1,.int .i64 fa,.int .i64 fk] 273)))
       case first=>
        by_cases ch:yk=0
        ·subst ch
         obtain⟨bh,b6⟩:(!Z&&cb)=false∧ow=none:=by
          rcases HY.out with⟨_,_,h⟩|⟨f,_,h2⟩
          ·cases h
          ·rcases D.out.2 with⟨_,h3⟩|⟨h3,_⟩
           ·omega
           ·exact⟨f,h3⟩
         obtain⟨ks,bm⟩:=a9.out b6;have ka:=HA.out (Iv bm) wc HD.out.1
         have av:Hid (SL=if du then some (a0,8) else if (bR&&bq) then (a0,9) else none):=by
          show _=_;rw[D.out.1,bh,b6]
          rfl
         clear bm b6 bh a9 D HY HA
         go_wp2_with (go_at_call 195;fail)
         go_at_call 195;refine ka.mono ?_;rintro e w4 ⟨rfl,b3⟩;have a8:=zH (HD.out.1.trans (b3.mono HD.out.1.size));have ab:=zH ((b3.block xb (blt HD.out.2)).trans HD.out.2);clear b3 ka p0 p1 p2 p3 p4 a4 e0 k0 e1 k1 e2 k2;obtain⟨⟨p0,p1,p2,p3,p4⟩,a4⟩:=HP.out w4 a8.out;obtain⟨⟨e0,k0⟩,⟨e1,k1⟩,⟨e2,k2⟩⟩:=zX ab.out
         have b9:Hid (∀a q,SL=(a,q)→fa=a∧fk=q):=fun a q h=>by
          rcases HF.out with⟨f,_⟩|⟨f,_⟩
          ·rw[h] at f;simp at f;omega
          ·rw[h] at f;cases f
         have b8:Hid (SL=none→fa=ya∧fk=0):=fun h=>by
          rcases HF.out with⟨f,_⟩|⟨_,f⟩
          ·rw[h] at f;cases f
          ·exact f
         cases du
         ·have hn:bR=false∨bR=true∧bq=false∨bR=true∧bq=true:=by cases bR<;>cases bq<;>simp
          rcases hn with rfl|⟨rfl,rfl⟩|⟨rfl,rfl⟩
          ·obtain⟨rfl,rfl⟩:=b8.out av.out
           go_wp2_with fail
           go_meet
           exact⟨rfl,a8.out,ab.out⟩
          ·obtain⟨rfl,rfl⟩:=b8.out av.out
           go_wp2_with fail
           go_meet
           exact⟨rfl,a8.out,ab.out⟩
          ·obtain⟨rfl,rfl⟩:=b9.out _ _ av.out
           go_upto_region 21 with fail
           go_region
           go_wp2_with fail
           go_meet
           exact⟨rfl,(((a8.out.setCell a7.out _).setCell a7.out _).setCell a7.out _).drew,fds (fds (fds ab.out 0 _) 1 _) 2 _⟩
         ·obtain⟨rfl,rfl⟩:=b9.out _ _ av.out
          go_upto_region 19 with fail
          go_region
          go_wp2_with fail
          go_meet
          exact⟨rfl,(((a8.out.setCell a7.out _).setCell a7.out _).setCell a7.out _).drew,fds (fds (fds ab.out 0 _) 1 _) 2 _⟩
        ·have cv:((yk:Int)==0)=false:=by rw[bX];omega
         obtain⟨rfl,rfl⟩:ya=fa∧yk=fk:=by
          have hS:SL=(ya,yk):=by
           rw[D.out.1];rcases HY.out with⟨f,rfl,rfl⟩|⟨f,rfl,rfl⟩
           ·rw[f];rfl
           ·rcases D.out.2 with⟨h3,_⟩|⟨_,h3⟩
            ·rw[f,h3];rfl
            ·omega
          rcases HF.out with⟨f,_⟩|⟨f,_⟩
          ·rw[hS] at f;simp at f;exact f
          ·rw[hS] at f;cases f
         go_wp2_with fail
         go_meet
         exact⟨rfl,HD.out.1,HD.out.2⟩
       case rest=>
        obtain⟨U,HT⟩:=hcut;rw[U];clear U p0 p1 p2 p3 p4 a4 e0 k0 e1 k1 e2 k2 HD;obtain⟨⟨e0,k0⟩,⟨e1,k1⟩,⟨e2,k2⟩⟩:=zX HT.out.2;have M:=zH (I.out.below HT.out.1);have cq:=M.out.old.size;rcases HF.out with⟨hS,hf⟩|⟨hS,_,rfl⟩
        ·have b1:=zH (a6.out.1 _ _ hS)
         have q1:(0)<(fk:Int):=ae;clear HF a6 D HY a9 HA HP hS
         go_wp2_with (at_builtin;refine bO _ rfl _ _ 213 rfl _ 273 i2 _ 3 24 underlying213 HJ.out.1 HJ.out.2.1 HJ.out.2.2.1 HJ.out.2.2.2 rfl aA _ _ _ rfl (M.out.os.alloc _) _ 1 1 [l.1,fa,fk] rfl rfl ?_ ?_ ?_ ?_ ?_ ?_)
         all_goals first
          |exact eC _ _ _ _ _
          |(show ∀u∈[Value.int .i64 (l.1:Int),Value.int .i64 (fa:Int),Value.int .i64 (fk:Int)],u.oneCell'=true;intro u hu;simp at hu;rcases hu with rfl|rfl|rfl<;>rfl)
          |(show Y.length+1≤maxLen;unfold maxLen;omega)
          |(show(Y.length+1)*24≤140737488355328;omega)
          |(show Wl.heap.size≤(wc.alloc _).heap.size;simp;omega)
          |(show Wl.heap.size≤wc.heap.size+1;omega)
          |skip
         intro dc w6 F E _ V
         have c2:=zH (M.out.slip _ (l.1,fa,fk) F E (by
          rcases V with e|e
          ·exact Or.inl e
          ·exact Or.inr (by rw[e];simp)))
         clear F E V M e0 e1 e2 k0 k1 k2;go_wp2;go_roundg (all-(k+1))
         case measure=>omega
         case rel=>exact⟨_,good,O,_,G,ae,ae,by go_num,rfl,ae,aJ,ae,c2,HG,b1⟩
        ·have b1:=zH (a6.out.2 hS)
         have bs:Hid (∀g∈good++[l],∃ks,Ok Z g.2 ks):=fun x hx=>by
          rcases bT.1 hx with h|h
          ·exact HG.out x h
          ·have e:x=l:=by simpa using h
           rw[e];refine a9.out ?_;have h:=D.out.1;rw[hS] at h;cases ow with
           |none=>rfl
           |some y=>simp only at h;split at h<;>cases h
         obtain⟨⟨p0,p1,p2,p3,p4⟩,a4⟩:=HP.out wc HT.out.1;have bv:=zH (an.out wc M.out.old);have cm:IntKind.i64.wrap (G+1)=G+1:=by simp[IntKind.wrap,IntKind.bits,IntKind.signed];omega
         clear HF a6 D HY a9 HA HP hS;cases bR
         all_goals
          go_wp2_with (at_builtin;refine bO _ rfl _ _ 250 rfl _ 254 i1 _ 4 64 underlying250 HI.out.1 HI.out.2.1 HI.out.2.2.1 HI.out.2.2.2 rfl aA _ _ _ rfl (M.out.og.alloc _) _ 1 1 [l.1,.slice (some (gw,0)) m cw,.slice (some (ga,0)) m ca,(Tx.fin (aH l.2))] rfl rfl ?_ ?_ ?_ ?_ ?_ ?_)
          all_goals first
           |exact je _ _ _ _ _ _
           |(show ∀u∈[Value.int .i64 (l.1:Int),Value.slice (some ⟨gw,0,none⟩) m cw,Value.slice (some ⟨ga,0,none⟩) m ca,Value.int .i64 (Tx.fin (aH l.2):Int)],u.oneCell'=true;intro u hu;simp at hu;rcases hu with rfl|rfl|rfl|rfl<;>rfl)
           |exact⟨rfl,rfl,rfl,rfl⟩
           |(show good.length+1≤maxLen;unfold maxLen;omega)
           |(show(good.length+1)*64≤140737488355328;omega)
           |(show Wl.heap.size≤(wc.alloc _).heap.size;simp;omega)
           |(show Wl.heap.size≤wc.heap.size+1;omega)
           |skip
          intro cp w5 F E _ V
          have c1:=zH (M.out.line _ bv.out F E (by
           rcases V with e|e
           ·exact Or.inl e
           ·exact Or.inr (by rw[e];simp)))
          clear F E V M e0 e1 e2 k0 k1 k2 p0 p1 p2 p3 p4 a4;go_wp2;go_roundg (all-(k+1))
          case measure=>omega
          case rel=>exact⟨_,_,_,Y,_,ae,ae,by go_num,by first|rfl|go_num,aJ,ae,by first|omega|(simp;omega),c1,bs,b1⟩
    ·have fD:¬(k<(all:Int)):=ae
     have bi:k=all:=ae;have HX:=zH (HE.out good O Y k G _ _ _ (by have h:=b0.out;rw[bi,List.drop_length] at h;rw[bi];exact h.symm) HG.out ae ae (Or.inr ⟨fun h=>HZ.out ⟨h.1,ae⟩,HS.out⟩));obtain⟨ga,gc,rfl⟩:=aC HS.out.og;obtain⟨sa,sc,rfl⟩:=aC HS.out.os;go_wp2;go_ret2;exact⟨_,_,rfl,HX.out⟩
theorem vL(z:Bool)(s:zA)w(E:s.size≤2000):zC 171 #[s,z] w fun e w'=>∃f D,e=.returned (.tuple #[f,D])∧SlP z s w w' f D:=CM z z rfl s w E
