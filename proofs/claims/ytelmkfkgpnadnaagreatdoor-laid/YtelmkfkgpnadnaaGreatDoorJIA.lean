import Derived.Test.YtelmkfkgpnadnaaGreatDoorJFA
import Derived.Test.YtelmkfkgpnadnaaGreatDoorJTA
import Derived.Deep.LoopGhost
import Derived.Test.YtelmkfkgpnadnaaGreatDoorJDB
set_option linter.all false
open Go.Proofs.Tryz
set_option maxRecDepth 100000
set_option maxHeartbeats 2000000
namespace Go.Proofs.YtelmkfkgpnadnaaGreatDoor
open Go.RowKit
theorem M9(at':Nat)(x:zA)(w:zW)(h1:at'≤4000)(h2:x.size≤4000):
  zC 215 #[.agg #[zI at',.string x]] w fun e w'=>e=.returned (zI ((at':Int)+(x.size:Int)))∧zB w w':=by
 go_enter func215,ntmps215;go_wp2;go_ret;exact⟨rfl,(ae _ _).alloc (ag _) _⟩
theorem jY(w:zW):
  zC 165 #[.string ⟨#[118,101,114,115,105,111,110]⟩] w fun e w'=>e=.returned (.tuple #[.slice (some ⟨w.heap.size,0,none⟩) 1 1,.bool true])∧w'=w.alloc (.cells #[zI 6] 3):=by
 go_enter func165,ntmps165;go_wp2;go_ret2;exact⟨rfl,rfl⟩
theorem yT(x:zA)(w:zW)(h:(x.toList==[118,101,114,115,105,111,110])=false):
  zC 165 #[.string x] w fun e w'=>e=.returned (.tuple #[zN,.bool false])∧w'=w:=by
 go_enter func165,ntmps165;go_wp2;go_ret2;exact⟨rfl,rfl⟩
theorem qA(pa wa:Option Addr)(np cp cw:Nat)(w:zW)(hp:np≤4):
  zC 171 #[.slice pa np cp,.slice wa (np+1) cw] w fun e w'=>e=.returned (zI (-1))∧w'=w:=by
 go_enter func171,ntmps171;go_wp2;go_ret;exact⟨rfl,rfl⟩
theorem qB(pa:Option Addr)(b o np cp n cw:Nat)(a:Int)(w:zW)(hp:np≤4)(hn:np+1<n)
  (hc:w.cell? ⟨b,o+(1+np)*2,none⟩=some (zI a)):
  zC 171 #[.slice pa np cp,.slice (some ⟨b,o,none⟩) n cw] w fun e w'=>e=.returned (zI a)∧w'=w:=by
 go_enter func171,ntmps171;go_wp2;go_ret;exact⟨rfl,rfl⟩
theorem sj(pa:Option Addr)(b o np cp n cw:Nat)(a:Nat)(x:zA)(w:zW)(hp:np≤4)(hn:n<np+1)(h1:1≤n)(ha:a≤4000)(hx:x.size≤4000)
  (hc:w.cell? ⟨b,o+(n-1)*2,none⟩=some (zI a)) (hc1:w.cell? ⟨b,o+(n-1)*2+1,none⟩=some (.string x)):
  zC 171 #[.slice pa np cp,.slice (some ⟨b,o,none⟩) n cw] w fun e w'=>e=.returned (zI ((a:Int)+(x.size:Int)))∧zB w w':=by
 obtain⟨m,rfl⟩:∃m,n=m+1:=⟨n-1,by omega⟩;rw[Nat.add_sub_cancel] at hc hc1;have ke:=fun W=>M9 a x W ha hx
 go_enter func171,ntmps171
 go_wp2_with (go_at_call 215;fail)
 go_at_call 215;refine(ke _).mono ?_;rintro e w' ⟨rfl,hb⟩;clear ke;go_wp2;go_ret;exact⟨rfl,hb⟩
def WAt(w:zW)(b o:Nat)(l:List (Nat×zA)):Prop:=b<w.heap.size∧∀j,∀h:j<l.length,w.cell? ⟨b,o+j*2,none⟩=some (zI l[j].1)∧w.cell? ⟨b,o+j*2+1,none⟩=some (.string l[j].2)
theorem WAt.below{w w':zW}{b o:Nat}{l:List (Nat×zA)}(h:WAt w b o l)(hb:zB w w'):WAt w' b o l:=
 ⟨bI h.1 hb.size,fun j hj=>⟨by rw[hb.cell (p:=⟨b,o+j*2,none⟩) h.1];exact(h.2 j hj).1,by rw[hb.cell (p:=⟨b,o+j*2+1,none⟩) h.1];exact(h.2 j hj).2⟩⟩
def KAt(w:zW)(p:Nat)(ps:List Nat):Prop:=p<w.heap.size∧∀j,∀h:j<ps.length,w.cell? ⟨p,j,none⟩=some (zI ps[j])
theorem KAt.below{w w':zW}{p:Nat}{ps:List Nat}(h:KAt w p ps)(hb:zB w w'):KAt w' p ps:=
 ⟨bI h.1 hb.size,fun j hj=>by rw[hb.cell (p:=⟨p,j,none⟩) h.1];exact h.2 j hj⟩
def Cx(r:Option Nat):Int:=match r with|some a=>a|none=>-1
theorem Cy(ip:List UInt8→Bool)(k:Nat)(ps:List Nat)(l:List (Nat×zA))(j:Nat)(h:j<ps.length)(h':j<l.length):
  Tx.misfit ip k (ps.drop j) ((aC l).drop j)=if ps[j]=k∧Tx.fit ip k l[j].2.data.toList=false then some l[j].1 else Tx.misfit ip k (ps.drop (j+1)) ((aC l).drop (j+1)):=by
 rw[dt h,dt (l:=aC l) (by simpa[aC] using h'),Tx.misfit];simp[aC]
theorem xg(ip:List UInt8→Bool)(k:Nat)(p b o np cp nw cw:Nat)(ps:List Nat)(l:List (Nat×zA))(w:zW)(hk:k≤9)(hnp:ps.length=np)(hnw:l.length=nw)(hl:np≤nw)(hp4:np≤4)
  (hP:KAt w p ps) (hW:WAt w b o l)
  (kf:∀j,∀h:j<l.length,∀W,zB w W→zC 216 #[zI k,.string l[j].2] W fun e w'=>e=.returned (.bool (Tx.fit ip k l[j].2.data.toList))∧zB W w'):
  zC 172 #[zI k,.slice (some ⟨p,0,none⟩) np cp,.slice (some ⟨b,o,none⟩) nw cw] w fun e w'=>e=.returned (zI (Cx (Tx.misfit ip k ps (aC l))))∧zB w w':=by
 have hR:Tx.misfit ip k (ps.drop 0) ((aC l).drop 0)=Tx.misfit ip k ps (aC l):=by simp
 generalize Tx.misfit ip k ps (aC l)=R at hR;have HR:Hid (Tx.misfit ip k (ps.drop 0) ((aC l).drop 0)=R):=hR;clear hR;have HP:Hid (KAt w p ps):=hP;have HW:Hid (WAt w b o l):=hW;clear hP hW;go_enter func172,ntmps172;go_wp2;go_loopg [11] np (fun gg f wr=>∃j:Nat,j≤np∧np-j≤gg∧f=zI j∧zB w wr∧Hid (Tx.misfit ip k (ps.drop j) ((aC l).drop j)=R))
 case atStart=>exact⟨0,by omega,by omega,rfl,ae _ _,HR⟩
 case round=>
  obtain⟨j,hj,hg,rfl,hbw,A⟩:=hrel;by_cases hlt:j<np
  ·have hlp:j<ps.length:=by omega
   have hlw:j<l.length:=by omega
   have hc:=(HP.out.below hbw).2 j hlp;have hc1:=((HW.out.below hbw).2 j hlw).1;have hc2:=((HW.out.below hbw).2 j hlw).2;have hst:=Cy ip k ps l j hlp hlw;rw[A.out] at hst;have hbl:b<wr.heap.size:=(HW.out.below hbw).1;have kj:=kf j hlw wr hbw;clear kf;generalize ps[j]=q at hc hst;generalize l[j].2=x at hc2 hst kj;generalize l[j].1=a at hc1 hst;by_cases hq:q=k
   ·subst hq
    have hq1:(((q:Nat):Int)==(q:Int))=true:=by simp
    cases hf:Tx.fit ip q x.data.toList
    ·rw[hf] at kj hst
     have HN:Hid (R=some a):=by show _=_;simpa using hst
     clear hst hf
     go_wp2_with (go_at_call 216;fail)
     go_at_call 216;refine kj.mono ?_;rintro e w' ⟨rfl,hb⟩;have hc3:w'.cell? ⟨b,o+j*2,none⟩=some (zI a):=by rw[hb.cell (p:=⟨b,o+j*2,none⟩) hbl];exact hc1
     have O7:zB w w':=hbw.trans (hb.mono hbw.size);clear kj hb hbw hc1 hc2 hc;go_wp2;go_ret;exact⟨by rw[HN.out];rfl,O7⟩
    ·rw[hf] at kj hst
     have HN:Hid (Tx.misfit ip q (ps.drop (j+1)) ((aC l).drop (j+1))=R):=by show _=_;rw[hst];simp
     clear hst hf
     go_wp2_with (go_at_call 216;fail)
     go_at_call 216;refine kj.mono ?_;rintro e w' ⟨rfl,hb⟩;have O7:zB w w':=hbw.trans (hb.mono hbw.size);clear kj hb hbw hc1 hc2 hc;go_wp2;go_roundg (np-(j+1))
     case measure=>omega
     case rel=>exact⟨j+1,by omega,by omega,by go_num,O7,HN⟩
   ·have hq1:(((q:Nat):Int)==(k:Int))=false:=eH.2 (by omega)
    have HN:Hid (Tx.misfit ip k (ps.drop (j+1)) ((aC l).drop (j+1))=R):=by show _=_;rw[hst,af (fun h=>hq h.1)]
    clear hst kj;go_wp2;go_roundg (np-(j+1))
    case measure=>omega
    case rel=>exact⟨j+1,by omega,by omega,by go_num,hbw,HN⟩
  ·have HN:Hid (R=none):=by
    show _=_;rw[←A.out,mI (by omega)]
    rfl
   go_wp2;go_ret;exact⟨by rw[HN.out];rfl,hbw⟩
theorem sr(ip:List UInt8→Bool)(x:zA)(w:zW)(hm:Ml w):
  zC 216 #[zI 6,.string x] w fun e w'=>e=.returned (.bool (Tx.fit ip 6 x.data.toList))∧zB w w':=by
 have hfit:Tx.fit ip 6 x.data.toList=(Pv.parse x.data.toList).isSome:=rfl;rw[hfit];cases h:Pv.parse x.data.toList with
 |none=>
  have k:=parseVersion_none x w hm h;show zC 216 #[zI 6,.string x] w fun e w'=>e=.returned (.bool false)∧zB w w'
  go_enter func216,ntmps216
  go_wp2_with (go_at_call 153;fail)
  go_at_call 153;refine k.mono ?_;rintro e w' ⟨rfl,hb⟩;clear k;go_wp2;go_ret;exact⟨rfl,hb.alloc hb.size _⟩
 |some v=>
  obtain⟨p,q,r,l,_,_,_,k⟩:=parseVersion_some x w hm v h;show zC 216 #[zI 6,.string x] w fun e w'=>e=.returned (.bool true)∧zB w w'
  go_enter func216,ntmps216
  go_wp2_with (go_at_call 153;fail)
  go_at_call 153;refine k.mono ?_;rintro e w' ⟨sl,rfl,hb,hsl⟩
  obtain⟨ad,n,c,rfl⟩:∃ad n c,sl=.slice ad n c:=by
   rcases hsl with⟨_,h⟩|⟨b,c,h,_⟩
   ·exact⟨_,_,_,h⟩
   ·exact⟨_,_,_,h⟩
  clear k hsl;go_wp2;go_ret;exact⟨rfl,hb.alloc hb.size _⟩
theorem Ez(x:zA)(w:zW):
  zC 216 #[zI 7,.string x] w fun e w'=>e=.returned (.bool (x.toList==[61,62]))∧zB w w':=by
 cases h:(x.toList==[61,62])
 all_goals
  go_enter func216,ntmps216;go_wp2;go_ret;exact⟨rfl,ae _ _⟩
theorem oT(f p v b:zA)(w:zW)(h:(f.toList==[114,101,113,117,105,114,101])=false):
  zC 174 #[.agg #[.string f,.string p,.string v,.string b]] w fun e w'=>e=.returned (.agg #[.string f,.string p,.string v])∧zB w w':=by
 go_enter func174,ntmps174;go_wp2;exact aI (v:=.agg #[.string f,.string p,.string v]) (by simp[results,results174,go_sem]) rfl ⟨rfl,((ae _ _).alloc (ag _) _).alloc (by simp) _⟩
theorem yU(f p v b:zA)(w:zW)(h:(f.toList==[114,101,113,117,105,114,101])=true):
  zC 174 #[.agg #[.string f,.string p,.string v,.string b]] w fun e w'=>e=.returned (.agg #[.string f,.string p,zE])∧zB w w':=by
 go_enter func174,ntmps174;go_wp2;exact aI (v:=.agg #[.string f,.string p,zE]) (by simp[results,results174,go_sem]) rfl ⟨rfl,((ae _ _).alloc (ag _) _).alloc (by simp) _⟩
theorem kW(p b o n c:Nat)(f v:zA)(w:zW)(hn:2≤n)(hn4:n≤4000)(hp:p<w.heap.size)(hb:b<w.heap.size)(hk:w.cell? ⟨p,0,none⟩=some (zI 6))(h1:w.cell? ⟨b,o+1,none⟩=some (.string f))(h3:w.cell? ⟨b,o+3,none⟩=some (.string v)):
  zC 173 #[.slice (some ⟨p,0,none⟩) 1 1,.slice (some ⟨b,o,none⟩) n c] w fun e w'=>e=.returned (.agg #[.string f,zE,.string v,zE])∧zB w w':=by
 have hal:∀ob:Obj,(w.alloc ob).cell? ⟨b,o+1,none⟩=some (.string f):=fun ob=>by
  rw[((ae w.heap.size w).alloc (ag _) ob).cell (p:=⟨b,o+1,none⟩) hb];exact h1
 have hB:∀ob ob':Obj,zB w ((w.alloc ob).alloc ob'):=fun ob ob'=>((ae w.heap.size w).alloc (ag _) ob).alloc (by simp) ob'
 have hk2:∀ob ob':Obj,((w.alloc ob).alloc ob').cell? ⟨p,0,none⟩=some (zI 6):=fun ob ob'=>by rw[(hB ob ob').cell (p:=⟨p,0,none⟩) hp];exact hk
 have h32:∀ob ob':Obj,((w.alloc ob).alloc ob').cell? ⟨b,o+(1+0)*2+1,none⟩=some (.string v):=fun ob ob'=>by rw[(hB ob ob').cell (p:=⟨b,o+(1+0)*2+1,none⟩) hb];exact h3
 go_enter func173,ntmps173
 go_wp2_with (rw[hal])
 refine il 2 ?_;rw[cE];have hk3:=hk2 (.cells #[zE,zE,zE,zE] 86) (.cells #[.string f,zE,zE,zE] 86);have h33:=h32 (.cells #[zE,zE,zE,zE] 86) (.cells #[.string f,zE,zE,zE] 86);clear hk2 h32 hal;go_wp2;rw[cE];go_wp2;exact aI (v:=.agg #[.string f,zE,.string v,zE]) (by simp[results,results173,go_sem]) rfl ⟨rfl,hB _ _⟩
