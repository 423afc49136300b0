import Derived.Maps.RangeWalk
import Derived.Maps.OwnSet
import Derived.Test.YtelmkfkgpnadnaaGreatDoorJEA
import Derived.Test.YtelmkfkgpnadnaaGreatDoorJWA
import Derived.DeepKeys4
import Derived.Deep.RegionHeld3
import Derived.Deep.RegionLaw
set_option linter.all false
open Go.Proofs.Tryz
set_option maxRecDepth 100000
set_option maxHeartbeats 4000000
namespace Go.Proofs.YtelmkfkgpnadnaaGreatDoor
section
open Go.ChangeMaps Go.MapKept
open Go.WideElems (Fit rd rg pl rd_val elemAt rd_key)
open Go.Maps (Keyed)
namespace Mp
def pair(x:MapEntry):zV×zV:=(x.key,x.val)
def noR(_:zV):Option (DataW Unit×List MemPlace):=some (.nil,[])
def MapAt(P:Program)(k:TypeId)(w:zW)(b:Nat)(L:List (zV×zV)):Prop:=
 ∃es clock,w.heap[b]?=some (.map es clock)∧Fit P k noR es clock∧(es.toList.map pair).Perm L
variable{P:Program}{k:TypeId}{w w':zW}{b r:Nat}{L L0 Lr:List (zV×zV)}{t e:TypeId}{key val old:zV}{kl:Lit}
theorem MapAt.lt(h:MapAt P k w b L):b<w.heap.size:=by
 obtain⟨es,clock,hb,_⟩:=h;exact(oq.1 hb).1
theorem MapAt.of_block(h:MapAt P k w b L)(e:w'.heap[b]?=w.heap[b]?):MapAt P k w' b L:=by
 obtain⟨es,clock,hb,r⟩:=h;exact⟨es,clock,e.trans hb,r⟩
theorem MapAt.perm(h:MapAt P k w b L)(e:L.Perm L0):MapAt P k w b L0:=by
 obtain⟨es,clock,hb,F,hp⟩:=h;exact⟨es,clock,hb,F,hp.trans e⟩
theorem made(w:zW)(P:Program)(k:TypeId):MapAt P k (w.alloc (.map #[] 0)) w.heap.size []:=
 ⟨#[],0,(MapKept.heap_alloc w _).1,⟨by simp,stamped_empty 0,by simp⟩,by simp⟩
theorem MapAt.apart(h:MapAt P k w b L):L.Pairwise (fun p q=>p.1≠q.1):=by
 obtain⟨es,clock,hb,F,hp⟩:=h;have h3:=((stamped_iff es clock).1 F.stamped).2.2;refine(hp.pairwise_iff (fun {_ _} hne=>Ne.symm hne)).1 ?_;rw[jC];exact h3
theorem MapAt.keys(h:MapAt P k w b L):∀p∈L,∃l,keyOf P k p.1=some l:=by
 obtain⟨es,clock,hb,F,hp⟩:=h;intro p hm;obtain⟨x,hx,rfl⟩:=bD.1 (hp.mem_iff.2 hm);obtain⟨y,hy⟩:=F.reads x hx;exact⟨_,rd_key hy⟩
theorem MapAt.look(c:Bool)(h:MapAt P k w b L)(K:Keyed P k)(ht:P.underlying t=some (.map k e)){z:zV}(hz:(zeroValue e).run P w=.ok z w)(hkey:keyOf P k key=some kl):
  ((Instr.lookup t (.map (some b)) key c).run P w=.ok (if c then .tuple #[z,.bool false] else z) w∧∀p∈L,p.1≠key)∨
  ∃v,(key,v)∈L∧(Instr.lookup t (.map (some b)) key c).run P w=.ok (if c then .tuple #[v,.bool true] else v) w:=by
 obtain⟨es,clock,hb,F,hp⟩:=h;rcases Maps.fit_look c K ht hz hb F hkey with⟨hrun,hn,_⟩|⟨e0,y,hm,hk,hrun,_⟩
 ·refine Or.inl ⟨hrun,fun p hpm=>?_⟩
  obtain⟨x,hx,rfl⟩:=bD.1 (hp.mem_iff.2 hpm);exact hn x hx
 ·refine Or.inr ⟨e0.val,hp.mem_iff.1 (bD.2 ⟨e0,hm,by rw[pair,hk]⟩),hrun⟩
theorem MapAt.look_none(c:Bool)(h:MapAt P k w b L)(K:Keyed P k)(ht:P.underlying t=some (.map k e)){z:zV}(hz:(zeroValue e).run P w=.ok z w)(hkey:keyOf P k key=some kl)(hn:∀p∈L,p.1≠key):
  (Instr.lookup t (.map (some b)) key c).run P w=.ok (if c then .tuple #[z,.bool false] else z) w:=by
 rcases h.look c K ht hz hkey with⟨h1,_⟩|⟨v,hm,_⟩
 ·exact h1
 ·exact absurd rfl (hn _ hm)
theorem uniq:∀{L:List (zV×zV)} (_:L.Pairwise (fun p q=>p.1≠q.1)) {key v u:zV} (_:(key,v)∈L) (_:(key,u)∈L),v=u
 |[],_,_,_,_,h1,_=>by cases h1
 |x::r,h,key,v,u,h1,h2=>by
  obtain⟨ha,hb⟩:=fB.1 h;rcases aV.1 h1 with e1|m1
  ·rcases aV.1 h2 with e2|m2
   ·have e3:=e1.trans e2.symm
    injection e3
   ·exact absurd (by rw[←e1]) (ha _ m2)
  ·rcases aV.1 h2 with e2|m2
   ·exact absurd (by rw[←e2]) (ha _ m1)
   ·exact uniq hb m1 m2
theorem MapAt.look_some(c:Bool)(h:MapAt P k w b L)(K:Keyed P k)(ht:P.underlying t=some (.map k e)){z:zV}(hz:(zeroValue e).run P w=.ok z w)(hkey:keyOf P k key=some kl){v:zV}(hm:(key,v)∈L):
  (Instr.lookup t (.map (some b)) key c).run P w=.ok (if c then .tuple #[v,.bool true] else v) w:=by
 rcases h.look c K ht hz hkey with⟨_,h1⟩|⟨u,hu,h1⟩
 ·exact absurd rfl (h1 _ hm)
 ·rw[uniq h.apart hm hu];exact h1
theorem MapAt.F6(h:MapAt P k w b L)(K:Keyed P k)(ht:P.underlying t=some (.map k e))(hn:L.length<maxLen)(hkey:keyOf P k key=some kl)(hne:∀p∈L,p.1≠key)(val:zV):
  ∃w',(Instr.mapUpdate t (.map (some b)) key val).run P w=.ok () w'∧w.mapTurned w' b∧MapAt P k w' b ((key,val)::L):=by
 obtain⟨es,clock,hb,F,hp⟩:=h;have JM:∀x∈es.toList,x.key≠key:=fun x hx=>hne _ (hp.mem_iff.1 (bD.2 ⟨x,hx,rfl⟩))
 have hsz:es.size<maxLen:=by
  have:=hp.length_eq;rw[bE,oB] at this;omega
 rcases K.find w hkey es.toList F.keys with⟨h1,h2⟩|⟨j,e0,h1,h2,h3⟩
 ·refine⟨setBlock w b (.map (es.push ⟨key,val,clock⟩) (clock+1)),?_,⟨es,clock,_,_,hb,rfl⟩,es.push ⟨key,val,clock⟩,clock+1,heap_setBlock_same hb _,⟨by simp;omega,stamped_push F.stamped h2,?_⟩,?_⟩
  ·simp[Instr.mapUpdate,run_underlying ht,MapKept.run_getObj_map hb,K.check w false hkey,h1,MapKept.run_setObj_map _ hb,Result.andThen,setBlock]
  ·intro x hx
   simp only[Array.toList_push,bJ,bQ] at hx;rcases hx with hx|rfl
   ·exact F.reads x hx
   ·exact⟨_,WideElems.rd_mk (R:=noR) hkey rfl⟩
  ·rw[Array.toList_push,eQ,List.map_singleton]
   exact(tK _ _).trans (hp.cons _)
 ·exact absurd h3 (JM e0 (jN h2))
theorem po{α:Type}:∀(l:List α)(j:Nat)(x:α),j<l.length→(l.set j x).Perm (x::l.eraseIdx j)
 |y::r,0,x,_=>by simp
 |y::r,j+1,x,h=>by
  simp only[List.set_cons_succ,List.eraseIdx_cons_succ];exact((po r j x (by simpa using h)).cons y).trans (List.Perm.swap _ _ _)
theorem nD{α:Type}:∀(l:List α)(j:Nat)(h:j<l.length),l.Perm (l[j]::l.eraseIdx j)
 |y::r,0,_=>by simp
 |y::r,j+1,h=>by
  simp only[List.getElem_cons_succ,List.eraseIdx_cons_succ];exact((nD r j (by simpa using h)).cons y).trans (List.Perm.swap _ _ _)
theorem MapAt.F7(h:MapAt P k w b L)(K:Keyed P k)(ht:P.underlying t=some (.map k e))(hkey:keyOf P k key=some kl)(hL:L.Perm ((key,old)::L0))(val:zV):
  ∃w',(Instr.mapUpdate t (.map (some b)) key val).run P w=.ok () w'∧w.mapTurned w' b∧MapAt P k w' b ((key,val)::L0):=by
 have hap:=h.apart;obtain⟨es,clock,hb,F,hp⟩:=h;have hm:(key,old)∈es.toList.map pair:=hp.mem_iff.2 (hL.mem_iff.2 (bz ..));obtain⟨x0,hx0,ex0⟩:=bD.1 hm;rcases K.find w hkey es.toList F.keys with⟨h1,h2⟩|⟨j,e0,h1,h2,h3⟩
 ·exact absurd (by injection ex0) (h2 x0 hx0)
 ·have hj:es[j]?=some e0:=by simpa using h2
  have hjl:j<es.toList.length:=(cq.1 h2).1;have QH:∀e',es[j]?=some e'→({e' with key:=key,val:=val}:MapEntry).key=e'.key:=fun e' he'=>by rw[hj] at he';cases he';exact h3.symm
  have Ot:(es.modify j (fun e'=>{e' with key:=key,val:=val})).toList=es.toList.set j {e0 with key:=key,val:=val}:=by rw[Array.toList_modify,modify_eq_set _ _ _ _ h2]
  have hgj:es.toList[j]=e0:=(cq.1 h2).2;refine⟨setBlock w b (.map (es.modify j (fun e'=>{e' with key:=key,val:=val})) clock),?_,⟨es,clock,_,_,hb,rfl⟩,es.modify j (fun e'=>{e' with key:=key,val:=val}),clock,heap_setBlock_same hb _,⟨by simpa using F.size,stamped_modify F.stamped _ _ (fun _ _=>rfl) (fun e' _ he'=>QH e' he'),?_⟩,?_⟩
  ·simp[Instr.mapUpdate,run_underlying ht,MapKept.run_getObj_map hb,K.check w false hkey,h1,hj,h3,K.stays w hkey,MapKept.run_setObj_map _ hb,Result.andThen,setBlock]
  ·intro x hx
   rw[Ot] at hx;rcases List.mem_or_eq_of_mem_set hx with hx|rfl
   ·exact F.reads x hx
   ·exact⟨_,WideElems.rd_mk (R:=noR) hkey rfl⟩
  ·rw[Ot]
   have e1:=(po es.toList j {e0 with key:=key,val:=val} hjl).map pair;have e2:=(nD es.toList j hjl).map pair;rw[hgj] at e2;simp only[bH] at e1 e2
   have e3:pair e0=(key,old):=by
    have m1:(key,e0.val)∈L:=hp.mem_iff.1 (bD.2 ⟨e0,jN h2,by rw[pair,h3]⟩);have m2:(key,old)∈L:=hL.mem_iff.2 (bz ..);rw[pair,h3,uniq hap m1 m2]
   rw[e3] at e2;have e4:((es.toList.eraseIdx j).map pair).Perm L0:=List.Perm.cons_inv ((e2.symm.trans hp).trans hL);exact e1.trans (e4.cons _)
theorem MapAt.CY(h:MapAt P k w b L)(K:Keyed P k)(ht:P.underlying t=some (.map k e))(hkey:keyOf P k key=some kl)(hL:L.Perm ((key,old)::L0))(ty:TypeId):
  ∃w',(Builtin.delete_ #[t,k] ty #[.map (some b),key]).run P w=.ok (.tuple #[]) w'∧w.mapTurned w' b∧MapAt P k w' b L0:=by
 have hap:=h.apart;obtain⟨es,clock,hb,F,hp⟩:=h;have hm:(key,old)∈es.toList.map pair:=hp.mem_iff.2 (hL.mem_iff.2 (bz ..));obtain⟨x0,hx0,ex0⟩:=bD.1 hm;rcases K.find w hkey es.toList F.keys with⟨h1,h2⟩|⟨j,e0,h1,h2,h3⟩
 ·exact absurd (by injection ex0) (h2 x0 hx0)
 ·have hjl:j<es.toList.length:=(cq.1 h2).1
  have hjs:j<es.size:=by simpa using hjl
  have hgj:es.toList[j]=e0:=(cq.1 h2).2
  have hsub:(es.eraseIdxIfInBounds j).toList=es.toList.eraseIdx j:=by
   unfold Array.eraseIdxIfInBounds;rw[dif_pos hjs];simp
  refine⟨setBlock w b (.map (es.eraseIdxIfInBounds j) clock),?_,⟨es,clock,_,_,hb,rfl⟩,es.eraseIdxIfInBounds j,clock,heap_setBlock_same hb _,⟨aP (MapFrom.size_erase es j) F.size,stamped_erase F.stamped j,?_⟩,?_⟩
  ·simp[Builtin.delete_,run_underlying ht,MapKept.run_getObj_map hb,K.check w _ hkey,h1,MapKept.run_setObj_map _ hb,Result.andThen,setBlock]
  ·intro x hx
   rw[hsub] at hx;exact F.reads x ((List.eraseIdx_sublist _ _).subset hx)
  ·rw[hsub]
   have e2:=(nD es.toList j hjl).map pair;rw[hgj] at e2;simp only[bH] at e2
   have e3:pair e0=(key,old):=by
    have m1:(key,e0.val)∈L:=hp.mem_iff.1 (bD.2 ⟨e0,jN h2,by rw[pair,h3]⟩);have m2:(key,old)∈L:=hL.mem_iff.2 (bz ..);rw[pair,h3,uniq hap m1 m2]
   rw[e3] at e2;exact List.Perm.cons_inv ((e2.symm.trans hp).trans hL)
theorem MapAt.len(h:MapAt P k w b L)(ht:P.underlying t=some (.map k e))(ty:TypeId):(Builtin.len_ #[t] ty #[.map (some b)]).run P w=.ok (.int .i64 L.length) w:=by
 obtain⟨es,clock,hb,F,hp⟩:=h;have e1:=hp.length_eq;rw[bE,oB] at e1;rw[←e1];simp[Builtin.len_,run_underlying ht,MapKept.run_getObj_map hb,goInt,Result.andThen]
def cM(P:Program)(k:TypeId)(w:zW)(b r:Nat)(L Lr:List (zV×zV)):Prop:=
 ∃es clock since seen c0,w.heap[b]?=some (.map es clock)∧Fit P k noR es clock∧(es.toList.map pair).Perm L∧w.heap[r]?=some (.mapIter (some b) since seen c0)∧(∀x∈es.toList,x.born<since)∧since≤c0∧since≤clock∧((leftOf es seen).toList.map pair).Perm Lr
theorem cM.owns(h:cM P k w b r L Lr):MapAt P k w b L:=by
 obtain⟨es,clock,_,_,_,hb,F,hp,_⟩:=h;exact⟨es,clock,hb,F,hp⟩
theorem cM.lt(h:cM P k w b r L Lr):r<w.heap.size:=by
 obtain⟨es,clock,since,seen,c0,_,_,_,hr,_⟩:=h;exact(oq.1 hr).1
theorem cM.ne(h:cM P k w b r L Lr):r≠b:=by
 obtain⟨es,clock,since,seen,c0,hb,_,_,hr,_⟩:=h;intro e;rw[e,hb] at hr;cases hr
theorem cM.of_block(h:cM P k w b r L Lr)(e1:w'.heap[b]?=w.heap[b]?)(e2:w'.heap[r]?=w.heap[r]?):cM P k w' b r L Lr:=by
 obtain⟨es,clock,since,seen,c0,hb,F,hp,hr,rest⟩:=h;exact⟨es,clock,since,seen,c0,e1.trans hb,F,hp,e2.trans hr,rest⟩
theorem MapAt.range(h:MapAt P k w b L)(ht:P.underlying t=some (.map k e)):
  ∃w',(Instr.range t (.map (some b))).run P w=.ok (.pointer (some ⟨w.heap.size,0,none⟩)) w'∧cM P k w' b w.heap.size L L∧w.grownBy w' none∧w'.heap.size=w.heap.size+1:=by
 have hlt:=h.lt;obtain⟨es,clock,hb,F,hp⟩:=h;refine⟨_,run_range_map w t k e b es clock ht hb,⟨es,clock,clock,#[],clock,((MapKept.heap_alloc w _).2 b hlt).trans hb,F,hp,(MapKept.heap_alloc w _).1,F.stamped.1,ag _,ag _,?_⟩,World.grownBy_alloc w _ none,by simp⟩
 have:leftOf es #[]=es:=by
  unfold leftOf;rw[Array.filter_eq_self];intro x _;simp
 rw[this];exact hp
theorem Hh{l:List MapEntry}(hn:(l.map (·.born)).Nodup){e:MapEntry}(he:e∈l):l.Perm (e::l.filter fun x=>!(x.born==e.born)):=by
 obtain⟨s,t,rfl⟩:=List.append_of_mem he;rw[eQ,bH,pN] at hn;obtain⟨_,h2,h3⟩:=hn;have h4:=(List.nodup_cons.1 h2).1
 have hs:s.filter (fun x=>!(x.born==e.born))=s:=List.filter_eq_self.2 fun x hx=>by
  have:=h3 x.born (bD.2 ⟨x,hx,rfl⟩) e.born (bz ..);simp[this]
 have ht:t.filter (fun x=>!(x.born==e.born))=t:=List.filter_eq_self.2 fun x hx=>by
  have:x.born≠e.born:=fun e1=>h4 (bD.2 ⟨x,hx,e1⟩)
  simp[this]
 rw[List.filter_append,List.filter_cons,hs,ht];simp
theorem cM.next(h:cM P k w b r L Lr)(ty:TypeId):
  (Lr=[]∧(Instr.next (zP r) false ty).run P w=.ok (.tuple #[.bool false]) w)∨
  ∃key v Lr' w',(key,v)∈L∧Lr.Perm ((key,v)::Lr')∧(Instr.next (zP r) false ty).run P w=.ok (.tuple #[.bool true,key,v]) w'∧
   cM P k w' b r L Lr'∧w.grownBy w' (some r)∧w'.heap.size=w.heap.size∧(Instr.entry (zP r)).run P w'=.ok (.tuple #[key,v]) w':=by
 have hne:=h.ne;obtain⟨es,clock,since,seen,c0,hb,F,hp,hr,hold,hsc,hsk,hl⟩:=h;rcases run_next_at (P:=P) w ty r b since c0 seen es clock hr hb hold hsc with⟨h0,hrun⟩|⟨e,he,w1,hal,hrun⟩
 ·refine Or.inl ⟨?_,hrun⟩
  have h1:=hl.length_eq;rw[bE,oB,h0] at h1;exact qL h1.symm
 ·obtain⟨hem,hes⟩:=mem_left he
  have hst:=(stamped_iff es clock).1 F.stamped;have hr1:w1.heap[r]?=some (.mapIter (some b) since seen c0):=by rcases hal with rfl|rfl<;>exact hr
  have hb1:w1.heap[b]?=some (.map es clock):=by rcases hal with rfl|rfl<;>exact hb
  have CF:=heap_set (o':=.mapIter (some b) since (seen.push e.born) clock) hr1;have hb':(setBlock w1 r (.mapIter (some b) since (seen.push e.born) clock)).heap[b]?=some (.map es clock):=(CF.2 b (fun e1=>hne e1.symm)).trans hb1
  have hlo:(leftOf es (seen.push e.born)).toList=(leftOf es seen).toList.filter (fun x=>!(x.born==e.born)):=by
   unfold leftOf;rw[Array.toList_filter,Array.toList_filter,List.filter_filter];refine List.filter_congr (fun x _=>?_);rw[contains_push];cases seen.contains x.born<;>cases (x.born==e.born)<;>rfl
  have hnd:((leftOf es seen).toList.map (·.born)).Nodup:=by
   unfold leftOf;rw[Array.toList_filter];exact hst.2.1.sublist (List.filter_sublist.map _)
  have hpk:=(Hh hnd he).map pair;rw[←hlo,bH] at hpk
  refine Or.inr ⟨e.key,e.val,(leftOf es (seen.push e.born)).toList.map pair,_,hp.mem_iff.1 (bD.2 ⟨e,hem,rfl⟩),hl.symm.trans hpk,hrun,
   ⟨es,clock,since,seen.push e.born,clock,hb',F,hp,CF.1,hold,hsk,hsk,kP _⟩,?_,?_,
   run_entry_at _ r b since seen es clock e CF.1 hb' hem hst.2.1⟩
  ·rcases hal with rfl|rfl<;>exact⟨rfl,rfl,rfl,by simp[setBlock],fun i _ hi=>CF.2 i (fun e1=>hi (by rw[e1]))⟩
  ·rcases hal with rfl|rfl<;>simp[setBlock]
end Mp
end
section
open Go.RowKit
namespace Ed
variable{w w':zW}
theorem CZ:laidOutB prog=true:=by kernel_rfl
theorem Pz:(188:TypeId)<prog.types.size:=gH (by kernel_rfl)
theorem Nl:(match prog.underlying 188 with|some (.array _ _)|some (.struct _)=>true|_=>false)=true:=by kernel_rfl
theorem Nn:prog.keyTypeAt 3 188=true:=by kernel_rfl
theorem Ka:prog.keyType 188=true:=by kernel_rfl
theorem F8:prog.types.size=466:=by kernel_rfl
theorem C0:prog.cellsOf 188=3:=by kernel_rfl
theorem Kb:prog.cellsOf 186=1:=by kernel_rfl
theorem F9:prog.cellsOf 9=1:=by kernel_rfl
theorem PD:WideMaps.KeyLaw prog 188:=deep_law_laid CZ (m:=3) (Nat.le_of_ble_eq_true rfl) Pz Nn Nl
theorem gP:Maps.Keyed prog 188:=Maps.Keyed.of_law PD
theorem pV(d:Nat)(s:zA)(h:s.size≤maxLen):prog.keyLits (d+1) 9 [.string s]=some [.string s.data.toList]:=by
 unfold Program.keyLits;rw[underlying9];show(if s.size≤maxLen then some [Lit.string s.data.toList] else none)=_;rw[ah h]
theorem EO(d:Nat)(k:Int)(h:(Lit.int .i64 k).wf=true):prog.keyLits (d+1) 186 [.int .i64 k]=some [.int .i64 k]:=by
 unfold Program.keyLits;rw[underlying186];show(if IntKind.i64=IntKind.i64∧(Lit.int .i64 k).wf=true then some [Lit.int .i64 k] else none)=_;rw[ah ⟨rfl,h⟩]
abbrev plc(k:Int)(p v:zA):zV:=.agg #[.int .i64 k,.string p,.string v]
abbrev txt(s:zA):zV:=.agg #[.string s,.bool true]
theorem sL(k:Int)(p v:zA)(hk:(Lit.int .i64 k).wf=true)(hp:p.size≤maxLen)(hv:v.size≤maxLen):∃l,keyOf prog 188 (plc k p v)=some l:=by
 have h1:prog.keyLits (prog.types.size+1) 188 [.int .i64 k,.string p,.string v]=some [.int .i64 k,.string p.data.toList,.string v.data.toList]:=by
  rw[F8];unfold Program.keyLits;rw[underlying188];simp only[C0,bX,jm];rw[ah ⟨trivial,by kernel_rfl⟩];simp only[List.mapM_cons,List.mapM_nil,F9,Kb,List.drop,List.take,EO 465 k hk,pV 465 p hp,pV 465 v hv]
  rfl
 refine⟨.string (keyBytes [.int .i64 k,.string p.data.toList,.string v.data.toList]),?_⟩;unfold keyOf;rw[underlying188];show(if (prog.keyType 188&&(Value.agg #[.int .i64 k,.string p,.string v]).formed prog 188)=true then (prog.keyLits (prog.types.size+1) 188 [.int .i64 k,.string p,.string v]).map (fun ls=>Lit.string (keyBytes ls)) else none)=_;rw[Ka,h1];rw[ah (by simp[Value.formed,underlying188,C0])]
 rfl
theorem nE(w:zW):(zeroValue 255).run prog w=.ok (.agg #[zE,.bool false]) w:=by kernel_rfl
abbrev sM(w:zW)(b:Nat)(L:List (zV×zV)):Prop:=Mp.MapAt prog 188 w b L
def Good(L:List (zV×zV)):Prop:=∀x∈L,∃(k:Int)(p v s:zA),x=(plc k p v,txt s)
def PE(k:Int):List zV→Bool
 | .int .i64 q::_=>q==k
 |_=>false
def gz(k:Int)(x:zV×zV):Bool:=match x.1 with
 | .agg cs=>PE k cs.toList
 |_=>false
structure aF(w:World)(sb mb rev:Nat)(L:List (zV×zV)):Prop where
 f0:Fd w sb 0 (.map (some mb))
 f1:Fd w sb 1 (.int .i64 rev)
 map:sM w mb L
 good:Good L
 ne:sb≠mb
variable{sb mb rev:Nat}{L:List (zV×zV)}
theorem aF.of_block(h:aF w sb mb rev L)(e1:w'.heap[sb]?=w.heap[sb]?)(e2:w'.heap[mb]?=w.heap[mb]?):aF w' sb mb rev L:=
 ⟨h.f0.of_block e1,h.f1.of_block e1,h.map.of_block e2,h.good,h.ne⟩
theorem aF.below(h:aF w sb mb rev L)(hb:Below w.heap.size w w'):aF w' sb mb rev L:=
 h.of_block (hb.block sb h.f0.lt) (hb.block mb h.map.lt)
end Ed
end
section
open Go.RowKit
namespace Ed
section
variable{P:Program}(w:zW){ops:Array Oper}{rest:List Oper}{o:Oper}{a:Act}{Q:Exit→Act→zW→Prop}
theorem nT(hg:o.guard=none)(m:Operand)(t:TypeId)(hop:o.op=Op.range t m)(k e:TypeId)(ht:P.underlying t=some (.map k e))(b:Nat)(L:List (zV×zV))
  (hm:a.eval m=.map (some b)) (h:Mp.MapAt P k w b L)
  (hK:∀w',Mp.cM P k w' b w.heap.size L L→w.grownBy w' none→w'.heap.size=w.heap.size+1→wpList P ops Q rest (a.put o.dst (.pointer (some ⟨w.heap.size,0,none⟩))) w'):
  wpList P ops Q (o::rest) a w:=by
 refine wpList_plain hg fun K' hK'=>?_
 obtain⟨w',hrun,r1,r2,r3⟩:=h.range ht;unfold Oper.wp;simp[execOp,hop,hm,hrun,Result.andThen];exact hK' _ _ (hK w' r1 r2 r3)
theorem vY(hg:o.guard=none)(it:Operand)(hop:o.op=Op.next it false)(k:TypeId)(b r:Nat)(L Lr:List (zV×zV))(hL:Good L)
  (hit:a.eval it=zP r) (h:Mp.cM P k w b r L Lr)
  (hDone:Lr=[]→wpList P ops Q rest (a.put o.dst (.tuple #[.bool false])) w)
  (hMore:∀(q:Int)(p v s:zA)(Lr':List (zV×zV))(w':zW),Lr.Perm ((plc q p v,txt s)::Lr')→Mp.cM P k w' b r L Lr'→w.grownBy w' (some r)→w'.heap.size=w.heap.size→
   (Instr.entry (zP r)).run P w'=.ok (.tuple #[plc q p v,txt s]) w'→wpList P ops Q rest (a.put o.dst (.tuple #[.bool true,plc q p v,txt s])) w'):
  wpList P ops Q (o::rest) a w:=by
 refine wpList_plain hg fun K' hK'=>?_
 unfold Oper.wp;rcases h.next o.type with⟨h0,hrun⟩|⟨key,v,Lr',w',hm,hp,hrun,hrg,hgr,hsz,hen⟩
 ·simp[execOp,hop,hit,hrun,Result.andThen]
  exact hK' _ _ (hDone h0)
 ·obtain⟨q,p,v,s,e⟩:=hL _ hm
  injection e with e1 e2;subst e1;subst e2;simp[execOp,hop,hit,hrun,Result.andThen];exact hK' _ _ (hMore q p v s Lr' w' hp hrg hgr hsz hen)
end
variable{w w':zW}{sb mb rev:Nat}{L:List (zV×zV)}
theorem Hj(k:Int)(w:zW)(h:aF w sb mb rev L)(hl:L.length≤100000):
  zC 154 #[zP sb,.int .i64 k] w fun e w'=>e=.returned (.int .i64 ((L.countP (gz k):Nat):Int))∧Below w.heap.size w w':=by
 have c0:=h.f0.1;have hM:sM w mb L:=h.map;have HG:Hid (Good L):=h.good;clear h;generalize hr:L.countP (gz k)=r;have HR:Hid (L.countP (gz k)=r):=hr;clear hr;go_enter func154,ntmps154
 go_wp2_with (first
  |(at_range;refine nT _ rfl _ 189 rfl 188 255 underlying189 mb L rfl hM ?_;intro w0 hrg0 hg0 hs0)
  |go_in)
 go_frame
 have hb0:Below w.heap.size w w0:=(ae _ _).grown hg0 (ag _) (fun j hj=>by cases hj);clear hM c0 hg0;go_loopg [5] L.length (fun gg nv wr=>∃(Lr:List (zV×zV))(n:Nat),nv=.int .i64 n∧Lr.length≤gg∧n+Lr.length≤L.length∧Hid (n+Lr.countP (gz k)=r)∧Hid (Mp.cM prog 188 wr mb w.heap.size L Lr)∧Below w.heap.size w wr)
 case atStart=>exact⟨L,0,rfl,ag _,by omega,by show _=_;rw[dX];exact HR.out,hrg0,hb0⟩
 case round=>
  obtain⟨Lr,n,rfl,hlen,hn,HC,HRg,hb⟩:=hrel
  go_wp2_with (first
   |(at_next;refine vY _ rfl _ rfl 188 mb w.heap.size L Lr HG.out rfl HRg.out ?_ ?_)
   |go_in)
  ·intro h0
   have HF:Hid ((n:Int)=r):=by
    have h1:=HC.out;rw[h0] at h1;show(n:Int)=r;simp at h1;omega
   clear HC HRg;go_wp2;go_ret;exact⟨gh HF.out,hb⟩
  ·intro q p v s Lr' w1 hp hrg hgr hsz hen
   have hb1:Below w.heap.size w w1:=hb.grown hgr hb.size (fun j hj=>by cases hj;exact ag _);have hl1:=hp.length_eq;have hc1:=hp.countP_eq (gz k);rw[List.countP_cons] at hc1;rw[bX] at hl1
   have HC1:Hid ((if (q==k)=true then n+1 else n)+Lr'.countP (gz k)=r):=by
    have h1:=HC.out;have e1:gz k (plc q p v,txt s)=(q==k):=rfl;rw[e1] at hc1;show _=r
    split
    ·rename_i e2;rw[ah e2] at hc1;omega
    ·rename_i e2;rw[af e2] at hc1;omega
   clear hc1 HC hgr;have HRg1:Hid (Mp.cM prog 188 w1 mb w.heap.size L Lr'):=hrg;clear hrg
   have QI:Hid (Mp.cM prog 188 (w1.alloc (.cells #[.int .i64 q,.string p,.string v] 188)) mb w.heap.size L Lr'):=
    HRg1.out.of_block (aG _ _ _ HRg1.out.owns.lt) (aG _ _ _ HRg1.out.lt)
   have hb2:Below w.heap.size w (w1.alloc (.cells #[.int .i64 q,.string p,.string v] 188)):=hb1.alloc hb1.size _;clear HRg1 HRg hp;cases hq:(q==k)
   ·rw[hq] at HC1
    go_wp2;go_roundg Lr'.length
    case measure=>omega
    case rel=>exact⟨Lr',n,rfl,ag _,by omega,HC1.out,QI,hb2⟩
   ·rw[hq] at HC1
    go_wp2;go_roundg Lr'.length
    case measure=>omega
    case rel=>exact⟨Lr',n+1,by go_num,ag _,by omega,HC1.out,QI,hb2⟩
end Ed
end
section
open Go.RowKit
namespace Ed
theorem toList_inj{a b:zA}(h:(a.toList==b.toList)=true):a=b:=by
 have h1:=eq_of_beq h;rw[dV,dV] at h1;cases a;cases b;simp at h1;simp[h1]
theorem iw{p v:zA}{x:Tt}:hit p v x=true↔x.path=p∧x.ver=v:=by
 unfold hit;rw[cG]
 constructor
 ·rintro⟨h1,h2⟩;exact⟨toList_inj h1,toList_inj h2⟩
 ·rintro⟨rfl,rfl⟩;simp
def ent(k:Int)(t:Tt):zV×zV:=(plc k t.path t.ver,txt t.s)
def dD(root:zA):List (zV×zV):=if root.size=0 then [] else [(plc 2 ⟨#[]⟩ ⟨#[]⟩,txt root)]
def fN(ms ix:List Tt)(root:zA):List (zV×zV):=ms.map (ent 0)++(ix.map (ent 1)++dD root)
inductive eY(L:List (zV×zV))(K:zV)(k:Int)(s:zA)(most:Nat):Int→Nat→List (zV×zV)→Prop
 |same:(K,txt s)∈L→eY L K k s most 0 0 L
 |other (old:zA) (L0:List (zV×zV)):L.Perm ((K,txt old)::L0)→(old.toList==s.toList)=false→eY L K k s most 0 1 ((K,txt s)::L0)
 |many:(∀x∈L,x.1≠K)→most≤L.countP (gz k)→eY L K k s most 4 0 L
 |fresh:(∀x∈L,x.1≠K)→L.countP (gz k)<most→eY L K k s most 0 1 ((K,txt s)::L)
inductive mq(L:List (zV×zV))(K:zV):Nat→List (zV×zV)→Prop
 |none:(∀x∈L,x.1≠K)→mq L K 0 L
 |there (old:zA) (L0:List (zV×zV)):L.Perm ((K,txt old)::L0)→mq L K 1 L0
def Off(k:Int)(A:List (zV×zV)):Prop:=∀x∈A,gz k x=false
variable{k:Int}{A C:List (zV×zV)}
theorem Off.ne(h:Off k A){x:zV×zV}(hx:x∈A)(p v:zA):x.1≠plc k p v:=fun e=>by
 have h1:=h x hx;obtain⟨a,b⟩:=x;have e1:a=plc k p v:=e;subst e1;have h2:(k==k)=false:=h1;simp at h2
theorem Off.count(h:Off k A):A.countP (gz k)=0:=by
 rw[List.countP_eq_zero];intro x hx;rw[h x hx]
 decide
theorem Kc(k:Int)(t:Tt):gz k (ent k t)=true:=by
 show(k==k)=true;simp
theorem Hk(k:Int)(l:List Tt):(l.map (ent k)).countP (gz k)=l.length:=by
 rw[List.countP_map];rw[show(gz k ∘ ent k)=fun _=>true from funext fun t=>Kc k t];simp
theorem iV{k q:Int}(hne:q≠k)(l:List Tt):Off k (l.map (ent q)):=fun x hx=>by
 obtain⟨t,_,rfl⟩:=bD.1 hx;show(q==k)=false;simp[hne]
theorem lf{k:Int}(hne:2≠k)(r:zA):Off k (dD r):=fun x hx=>by
 unfold dD at hx
 split at hx
 ·cases hx
 ·rw[bQ] at hx
  subst hx;show((2:Int)==k)=false;simp[hne]
theorem Off.append(h:Off k A)(h':Off k C):Off k (A++C):=fun x hx=>(bJ.1 hx).elim (h x) (h' x)
theorem Ga(k:Int):Off k []:=fun x hx=>by cases hx
theorem Np{k:Int}{t:Tt}{p v:zA}(h:(ent k t).1=plc k p v):hit p v t=true:=by
 simp only[ent,Value.agg.injEq,Array.mk.injEq,eG,Value.string.injEq,true_and,fS] at h;exact iw.2 h
theorem Hl(hA:Off k A)(hC:Off k C)(l:List Tt):(A++(l.map (ent k)++C)).countP (gz k)=l.length:=by
 rw[List.countP_append,List.countP_append,hA.count,hC.count,Hk];omega
theorem xI(hA:Off k A)(hC:Off k C){l:List Tt}{p v:zA}(h:l.findIdx? (hit p v)=none):∀x∈A++(l.map (ent k)++C),x.1≠plc k p v:=by
 intro x hx;rcases bJ.1 hx with hx|hx
 ·exact hA.ne hx p v
 ·rcases bJ.1 hx with hx|hx
  ·obtain⟨t,ht,rfl⟩:=bD.1 hx
   intro e;have h1:=Np e;rw[qP.1 h t ht] at h1;cases h1
  ·exact hC.ne hx p v
theorem middle(A C M:List (zV×zV))(x:zV×zV)(N:List (zV×zV))(h:M.Perm (x::N)):(A++(M++C)).Perm (x::(A++(N++C))):=by
 have h1:(M++C).Perm (x::(N++C)):=h.append_right C;exact(h1.append_left A).trans List.perm_middle
theorem zS(k:Int)(l:List Tt)(i:Nat)(h:i<l.length):(l.map (ent k)).Perm (ent k l[i]::(l.eraseIdx i).map (ent k)):=by
 have h1:=(Mp.nD l i h).map (ent k);exact h1
theorem zT(hA:Off k A)(hC:Off k C)(l:List Tt)(t:Tt)(most:Nat):
  ∃L',eY (A++(l.map (ent k)++C)) (plc k t.path t.ver) k t.s most (cC l t most).2.1 (cC l t most).2.2 L'∧L'.Perm (A++((cC l t most).1.map (ent k)++C)):=by
 unfold cC;cases hfi:l.findIdx? (hit t.path t.ver) with
 |none=>
  have hn:=xI hA hC hfi;have hc:=Hl hA hC l;by_cases hm:most≤l.length
  ·simp only[ah hm]
   exact⟨_,eY.many hn (by rw[hc];exact hm),kP _⟩
  ·simp only[af hm]
   refine⟨_,eY.fresh hn (by rw[hc];omega),?_⟩;refine(middle A C _ _ _ ?_).symm;rw[eQ];exact tK _ _
 |some i=>
  obtain⟨hil,hh,_⟩:=mM.1 hfi;obtain⟨e1,e2⟩:=iw.1 hh;have hgd:l.getD i t=l[i]:=by simp[List.getD,hil]
  simp only[hgd];cases hq:(l[i].s.toList==t.s.toList)
  ·have hp:=middle A C _ _ _ (zS k l i hil)
   have e3:ent k l[i]=(plc k t.path t.ver,txt l[i].s):=by rw[ent,e1,e2]
   rw[e3] at hp;simp only[jl,fC];refine⟨_,eY.other _ _ hp hq,?_⟩;have hml:i<(l.modify i (fun x=>{x with s:=t.s})).length:=by simpa using hil
   have hp2:=middle A C _ _ _ (zS k (l.modify i (fun x=>{x with s:=t.s})) i hml);have e4:(l.modify i (fun x=>{x with s:=t.s}))[i]={l[i] with s:=t.s}:=by simp
   have e5:(l.modify i (fun x=>{x with s:=t.s})).eraseIdx i=l.eraseIdx i:=by
    apply lF;intro j;simp only[List.getElem?_eraseIdx,List.getElem?_modify]
    split
    ·rename_i h
     have:i≠j:=by omega
     simp[this]
    ·rename_i h
     have:i≠j+1:=by omega
     simp[this]
   rw[e4,e5] at hp2
   have e6:ent k {l[i] with s:=t.s}=(plc k t.path t.ver,txt t.s):=by
    show(plc k l[i].path l[i].ver,txt t.s)=_;rw[e1,e2]
   rw[e6] at hp2;exact hp2.symm
  ·have e3:ent k l[i]=(plc k t.path t.ver,txt t.s):=by rw[ent,e1,e2,toList_inj hq]
   simp only[dK];refine⟨_,eY.same ?_,kP _⟩;rw[←e3];exact mK _ (gI _ (bD.2 ⟨_,bL hil,rfl⟩))
theorem jL{r:zA}(h:r.size=0):r=⟨#[]⟩:=by
 cases r with
 |mk d=>
  have:d=#[]:=Array.eq_empty_of_size_eq_zero h;rw[this]
theorem Kd(hA:Off 2 A)(root p:zA)(hp:p.size≠0):
  ∃L',eY (A++dD root) (plc 2 ⟨#[]⟩ ⟨#[]⟩) 2 p 1 0 (if (p.toList==root.toList)=true then (root,0) else (p,1)).2 L'∧L'.Perm (A++dD (if (p.toList==root.toList)=true then (root,0) else (p,1)).1):=by
 have ep:dD p=[(plc 2 ⟨#[]⟩ ⟨#[]⟩,txt p)]:=af hp;by_cases hr:root.size=0
 ·have er:dD root=[]:=ah hr
  have hq:(p.toList==root.toList)=false:=by
   cases h:(p.toList==root.toList)
   ·rfl
   ·exact absurd (by rw[toList_inj h];exact hr) hp
  rw[er,hq];simp only[jl,fC,gV];refine⟨_,eY.fresh (fun x hx=>hA.ne hx _ _) (by rw[hA.count];decide),?_⟩;rw[ep];exact(tK _ _).symm
 ·have er:dD root=[(plc 2 ⟨#[]⟩ ⟨#[]⟩,txt root)]:=af hr
  cases hq:(p.toList==root.toList)
  ·simp only[jl,fC]
   have hq2:(root.toList==p.toList)=false:=by
    cases h:(root.toList==p.toList)
    ·rfl
    ·rw[toList_inj h] at hq
     simp at hq
   refine⟨_,eY.other root A (by rw[er];exact tK _ _) hq2,?_⟩;rw[ep];exact(tK _ _).symm
  ·simp only[dK]
   refine⟨_,eY.same ?_,kP _⟩;rw[er,toList_inj hq];exact mK _ (bQ.2 rfl)
theorem Hm(hA:Off 2 A)(root p:zA)(hp:p.size=0):
  ∃L',mq (A++dD root) (plc 2 ⟨#[]⟩ ⟨#[]⟩) (if (p.toList==root.toList)=true then (root,0) else (p,1)).2 L'∧L'.Perm (A++dD (if (p.toList==root.toList)=true then (root,0) else (p,1)).1):=by
 have ep:dD p=[]:=ah hp;by_cases hr:root.size=0
 ·have er:dD root=[]:=ah hr
  have hq:(p.toList==root.toList)=true:=by rw[jL hp,jL hr];simp
  rw[hq];simp only[dK];refine⟨_,mq.none (fun x hx=>?_),kP _⟩;rw[er,gV] at hx;exact hA.ne hx _ _
 ·have er:dD root=[(plc 2 ⟨#[]⟩ ⟨#[]⟩,txt root)]:=af hr
  have hq:(p.toList==root.toList)=false:=by
   cases h:(p.toList==root.toList)
   ·rfl
   ·exact absurd (by rw[←toList_inj h];exact hp) hr
  rw[hq];simp only[jl,fC];refine⟨A,mq.there root A (by rw[er];exact tK _ _),?_⟩;rw[ep,gV]
theorem xJ(ms ix:List Tt)(root:zA):(fN ms ix root).length≤ms.length+ix.length+1:=by
 have h:(dD root).length≤1:=by
  unfold dD
  split<;>simp
 simp only[fN,bg,bE];omega
end Ed
end
section
open Go.RowKit
namespace Ed
variable{w w':zW}{sb mb rev:Nat}{L:List (zV×zV)}
theorem Good.perm{L L':List (zV×zV)}(h:Good L)(e:L.Perm L'):Good L':=fun x hx=>h x (e.mem_iff.2 hx)
theorem Good.tail{x:zV×zV}{L:List (zV×zV)}(h:Good (x::L)):Good L:=fun y hy=>h y (cK _ hy)
theorem Good.cons{L:List (zV×zV)}(h:Good L)(k:Int)(p v s:zA):Good ((plc k p v,txt s)::L):=fun y hy=>by
 rcases aV.1 hy with rfl|hy
 ·exact⟨_,_,_,_,rfl⟩
 ·exact h y hy
theorem iy{b:Nat}(h:w.mapTurned w' b):aj (fun x=>x=b) w w':=
 have hg:=h.grown
 ⟨hg.os,hg.tape,hg.output,hg.size,fun i hi hne=>hg.block i hi (fun e=>hne (by injection e))⟩
theorem aF.stored{s:zA}{most:Nat}{r:Int}{d:Nat}{L':List (zV×zV)}{k:Int}{p v:zA}(h:aF w sb mb rev L)(hS:eY L (plc k p v) k s most r d L')(hd:d=1)(hl:L.length≤100000)(hk:(Lit.int .i64 k).wf=true)(hp:p.size≤maxLen)(hv:v.size≤maxLen):
  ∃w',(Instr.mapUpdate 189 (.map (some mb)) (plc k p v) (txt s)).run prog w=.ok () w'∧aF w' sb mb rev L'∧aj (fun x=>x=mb) w w':=by
 obtain⟨kl,hkey⟩:=sL k p v hk hp hv;cases hS with
 |same _=>cases hd
 |other old L0 hp hne=>
  obtain⟨w1,hrun,ht,hm⟩:=h.map.F7 gP underlying189 hkey hp (txt s);have tb:=iy ht;have e1:=tb.block sb h.f0.lt h.ne;exact⟨w1,hrun,⟨h.f0.of_block e1,h.f1.of_block e1,hm,((h.good.perm hp).tail).cons _ _ _ _,h.ne⟩,tb⟩
 |many _ _=>cases hd
 |fresh hn _=>
  obtain⟨w1,hrun,ht,hm⟩:=h.map.F6 gP underlying189 (by unfold maxLen;omega) hkey hn (txt s);have tb:=iy ht;have e1:=tb.block sb h.f0.lt h.ne;exact⟨w1,hrun,⟨h.f0.of_block e1,h.f1.of_block e1,hm,h.good.cons _ _ _ _,h.ne⟩,tb⟩
theorem aF.bump(h:aF w sb mb rev L):aF (w.setCell ⟨sb,1,none⟩ (.int .i64 ((rev:Int)+1))) sb mb (rev+1) L:=
 ⟨h.f0.set (by decide),⟨ik _ _ _ h.f1.1,by rw[dT];exact h.f1.2⟩,h.map.of_block (aL _ _ _ _ (fun e=>h.ne e.symm)),h.good,h.ne⟩
def fI(W:zW)(b:Nat)(k:Int)(p v:zA):Prop:=Fd W b 0 (.int .i64 k)∧Fd W b 1 (.string p)∧Fd W b 2 (.string v)
theorem fI.of_block{W W':zW}{b:Nat}{k:Int}{p v:zA}(h:fI W b k p v)(e:W'.heap[b]?=W.heap[b]?):fI W' b k p v:=⟨h.1.of_block e,h.2.1.of_block e,h.2.2.of_block e⟩
theorem fI.lt{W:zW}{b:Nat}{k:Int}{p v:zA}(h:fI W b k p v):b<W.heap.size:=h.1.lt
theorem fI.below{W W':zW}{b:Nat}{k:Int}{p v:zA}(h:fI W b k p v)(hb:Below W.heap.size W W'):fI W' b k p v:=h.of_block (hb.block b h.lt)
theorem fI.new(w:zW)(k:Int)(p v:zA):fI (w.alloc (.cells #[.int .i64 k,.string p,.string v] 188)) w.heap.size k p v:=by
 have b0:(w.alloc (.cells #[.int .i64 k,.string p,.string v] 188)).heap[w.heap.size]?=some (.cells #[.int .i64 k,.string p,.string v] 188):=by
  show(w.heap.push _)[w.heap.size]?=_;simp
 refine⟨⟨?_,?_⟩,⟨?_,?_⟩,⟨?_,?_⟩⟩
 ·simp only[World.cell?,b0];rfl
 ·simp only[World.frozen?,b0];simp
 ·simp only[World.cell?,b0];rfl
 ·simp only[World.frozen?,b0];simp
 ·simp only[World.cell?,b0];rfl
 ·simp only[World.frozen?,b0];simp
theorem fI.set1{W:zW}{b:Nat}{k:Int}{p v:zA}(h:fI W b k p v):fI (W.setCell ⟨b,1,none⟩ (.string p)) b k p v:=
 ⟨h.1.set (by decide),⟨ik _ _ _ h.2.1.1,by rw[dT];exact h.2.1.2⟩,h.2.2.set (by decide)⟩
theorem fI.set2{W:zW}{b:Nat}{k:Int}{p v:zA}(h:fI W b k p v):fI (W.setCell ⟨b,2,none⟩ (.string v)) b k p v:=
 ⟨h.1.set (by decide),h.2.1.set (by decide),⟨ik _ _ _ h.2.2.1,by rw[dT];exact h.2.2.2⟩⟩
theorem Br(k:Int)(p v s:zA)(most:Nat)(r:Int)(d:Nat)(L':List (zV×zV))(w:zW)(h:aF w sb mb rev L)(hl:L.length≤100000)(hk:(Lit.int .i64 k).wf=true)(hp:p.size≤281474976710656)(hv:v.size≤281474976710656)(hs:s.size≤281474976710656)(hr:rev<4611686018427387904)
  (hS:eY L (plc k p v) k s most r d L'):
  zC 110 #[zP sb,plc k p v,.string s,.int .i64 most] w fun e w'=>e=.returned (.int .i64 r)∧aF w' sb mb (rev+d) L'∧aj (fun b=>b=sb∨b=mb) w w':=by
 obtain⟨kl,hkey⟩:=sL k p v hk (by unfold maxLen;omega) (by unfold maxLen;omega)
 obtain⟨old,th,qD,hold⟩:∃(old:zA)(th:Bool),(∀W,sM W mb L→(Instr.lookup 189 (.map (some mb)) (plc k p v) false).run prog W=.ok (.agg #[.string old,.bool th]) W)∧Hid (if th=true then (plc k p v,txt old)∈L else ∀x∈L,x.1≠plc k p v):=by
  rcases h.map.look false gP underlying189 (nE w) hkey with⟨_,hn⟩|⟨u,hu,_⟩
  ·exact⟨⟨#[]⟩,false,fun W hW=>hW.look_none false gP underlying189 (nE W) hkey hn,hn⟩
  ·obtain⟨q,p',v',s',e⟩:=h.good _ hu
   injection e with e1 e2;subst e2;exact⟨s',true,fun W hW=>hW.look_some false gP underlying189 (nE W) hkey hu,hu⟩
 have HS:Hid (aF w sb mb rev L):=h;clear h;have HSp:Hid (eY L (plc k p v) k s most r d L'):=hS;clear hS hkey;go_enter func110,ntmps110;go_upto_region 1 with fail;have HB1:Hid (Below w.heap.size w (w.alloc (.cells #[.int .i64 k,.string p,.string v] 188))):=(ae _ _).alloc (ag _) _;have HX1:Hid (fI (w.alloc (.cells #[.int .i64 k,.string p,.string v] 188)) w.heap.size k p v):=fI.new w k p v;have HS1:Hid (aF (w.alloc (.cells #[.int .i64 k,.string p,.string v] 188)) sb mb rev L):=HS.out.below HB1.out;have HZ1:Hid (w.heap.size<(w.alloc (.cells #[.int .i64 k,.string p,.string v] 188)).heap.size∧sb≠w.heap.size):=⟨by simp,by have:=HS.out.f0.lt;omega⟩;generalize w.alloc (.cells #[.int .i64 k,.string p,.string v] 188)=W1 at*;generalize hbx:w.heap.size=bx at*;obtain⟨⟨x0,_⟩,⟨x1,_⟩,⟨x2,_⟩⟩:=HX1.out;have c0:=HS1.out.f0.1;have l1:=qD W1 HS1.out.map;have l2:=qD W1.drew HS1.out.map;have l3:=qD (W1.alloc (.cells #[zE,.bool false] 255)).drew ((HS1.out.below ((ae _ _).alloc (ag _) _)).map);clear qD;obtain⟨⟨y0,_⟩,⟨y1,_⟩,⟨y2,_⟩⟩:=HX1.out.below ((ae _ _).alloc (ag _) (.cells #[zE,.bool false] 255));have d0:(W1.alloc (.cells #[zE,.bool false] 255)).cell? ⟨sb,0,none⟩=some (.map (some mb)):=(HS1.out.below ((ae _ _).alloc (ag _) _)).f0.1
 go_region
 all_goals
  have HB2:Hid (Below w.heap.size w (W1.alloc (.cells #[.string old,.bool th] 255)).drew):=by
   show Below w.heap.size w _;have h:=HB1.out;rw[←hbx] at h;exact(h.alloc h.size _).drew
  have hbW:Below W1.heap.size W1 (W1.alloc (.cells #[.string old,.bool th] 255)).drew:=((ae _ _).alloc (ag _) _).drew;have HS2:Hid (aF (W1.alloc (.cells #[.string old,.bool th] 255)).drew sb mb rev L):=HS1.out.below hbW;have HX2:Hid (fI (W1.alloc (.cells #[.string old,.bool th] 255)).drew bx k p v):=HX1.out.below hbW
  have HO2:Hid (∀W,Below (W1.alloc (.cells #[.string old,.bool th] 255)).drew.heap.size (W1.alloc (.cells #[.string old,.bool th] 255)).drew W→W.cell? ⟨W1.heap.size,0,none⟩=some (.string old)∧W.cell? ⟨W1.heap.size,1,none⟩=some (.bool th)):=fun W hb=>by
   have hbl:W1.heap.size<(W1.alloc (.cells #[.string old,.bool th] 255)).drew.heap.size:=by show W1.heap.size<(W1.heap.push _).size;simp
   exact⟨(hb.cell (p:=⟨W1.heap.size,0,none⟩) hbl).trans (by show(W1.alloc _).cell? _=_;simp),(hb.cell (p:=⟨W1.heap.size,1,none⟩) hbl).trans (by show(W1.alloc _).cell? _=_;simp)⟩
  clear hbW l1 l2 l3 x0 x1 x2 y0 y1 y2 c0 d0 HX1 HB1 HS1;generalize (W1.alloc (.cells #[.string old,.bool th] 255)).drew=W2 at*;generalize W1.heap.size=ob at*;obtain⟨⟨x0,_⟩,⟨x1,_⟩,⟨x2,_⟩⟩:=HX2.out;obtain⟨o0,o1⟩:=HO2.out W2 (ae _ _);have kc:=Hj k W2 HS2.out hl;generalize hcn:L.countP (gz k)=cn at kc;have HCN:Hid (L.countP (gz k)=cn):=hcn;clear hcn;cases th
  ·have hn:∀x∈L,x.1≠plc k p v:=by have h:=hold.out;simpa using h
   go_wp2_with (go_at_call 154;fail)
   go_at_call 154;refine kc.mono ?_;rintro e w3 ⟨rfl,hb3⟩;have HB3:Hid (Below w.heap.size w w3):=HB2.out.trans (hb3.mono HB2.out.size);have HS3:Hid (aF w3 sb mb rev L):=HS2.out.below hb3;have HX3:Hid (fI w3 bx k p v):=HX2.out.below hb3;obtain⟨p0,p1⟩:=HO2.out w3 hb3;clear kc x0 x1 x2 o0 o1 HX2 HO2 HS2 HB2 hb3;by_cases hmo:most≤cn
   ·have R6:(cn:Int)≥(most:Int):=by omega
    have HF:Hid (r=4∧d=0∧L'=L):=by
     have h:=HSp.out;cases h with
     |same hi=>exact absurd rfl (hn _ hi)
     |other PF L0 hp hne=>exact absurd rfl (hn _ (hp.mem_iff.2 (bz ..)))
     |many _ _=>exact⟨rfl,rfl,rfl⟩
     |fresh _ hc=>rw[HCN.out] at hc;omega
    have e:=HF.out;obtain⟨rfl,rfl,rfl⟩:=e;go_wp2;go_ret;exact⟨rfl,HS3.out,aj.of_below HB3.out⟩
   ·have R6:¬((cn:Int)≥(most:Int)):=by omega
    have HF:Hid (r=0∧d=1):=by
     have h:=HSp.out;cases h with
     |same hi=>exact absurd rfl (hn _ hi)
     |other PF L0 hp hne=>exact absurd rfl (hn _ (hp.mem_iff.2 (bz ..)))
     |many _ hc=>rw[HCN.out] at hc;exact absurd hc hmo
     |fresh _ _=>exact⟨rfl,rfl⟩
    have e:=HF.out;obtain⟨rfl,rfl⟩:=e;go_upto_region 6 with fail;have K3:(w3.cell? ⟨bx,1,none⟩=some (.string p)∧w3.frozen? ⟨bx,1,none⟩=false)∧(w3.cell? ⟨bx,2,none⟩=some (.string v)∧w3.frozen? ⟨bx,2,none⟩=false):=HX3.out.2
    go_region_held3 (fun w'=>(w'.cell? ⟨bx,1,none⟩=some (.string p)∧w'.frozen? ⟨bx,1,none⟩=false)∧(w'.cell? ⟨bx,2,none⟩=some (.string v)∧w'.frozen? ⟨bx,2,none⟩=false))
     (first|exact K3|exact KA.out.2|exact KB.out.2|exact KC.out.2|exact KD.out.2)
     (first
      |(go_at_call 155;(with_reducible show Calls _ _ #[Value.string p] _ _);refine(gZ p _ hp).mono ?_;rintro e wA ⟨rfl,hbA⟩;have KA:Hid (fI wA bx k p v):=HX3.out.below ((ae w3.heap.size w3).drew.trans hbA);have HBA:Hid (Below w3.heap.size w3 wA):=(ae w3.heap.size w3).drew.trans hbA;clear hbA)
      |(go_at_call 155;refine(gZ v _ hv).mono ?_;rintro e wB ⟨rfl,hbB⟩;have KB:Hid (fI wB bx k p v):=KA.out.below hbB;have HBB:Hid (Below w3.heap.size w3 wB):=HBA.out.trans (hbB.mono HBA.out.size);have KC:Hid (fI (wB.setCell ⟨bx,1,none⟩ (.string p)) bx k p v):=KB.out.set1;have KD:Hid (fI ((wB.setCell ⟨bx,1,none⟩ (.string p)).setCell ⟨bx,2,none⟩ (.string v)) bx k p v):=KC.out.set2;clear hbB))
    all_goals
     have hsl:sb<bx∧mb<bx:=by have h1:=HS.out.f0.lt;have h2:=HS.out.map.lt;omega
     have HT5:Hid (aj (fun b=>b=sb∨b=mb) w ((wB.setCell ⟨bx,1,none⟩ (.string p)).setCell ⟨bx,2,none⟩ (.string v))):=by
      have h1:aj (fun b=>b=sb∨b=mb) w wB:=(aj.of_below HB3.out).more HBB.out;exact(h1.set (a:=⟨bx,1,none⟩) (fun h=>by have h2:bx<w.heap.size:=h;omega) _).set (a:=⟨bx,2,none⟩) (fun h=>by have h2:bx<w.heap.size:=h;omega) _
     have HS5:Hid (aF ((wB.setCell ⟨bx,1,none⟩ (.string p)).setCell ⟨bx,2,none⟩ (.string v)) sb mb rev L):=by
      have e1:∀b,b≠bx→((wB.setCell ⟨bx,1,none⟩ (.string p)).setCell ⟨bx,2,none⟩ (.string v)).heap[b]?=wB.heap[b]?:=fun b hne=>by
       rw[aL _ _ _ _ hne,aL _ _ _ _ hne]
      exact(HS3.out.below HBB.out).of_block (e1 sb (by omega)) (e1 mb (by omega))
     have HX5:Hid (fI ((wB.setCell ⟨bx,1,none⟩ (.string p)).setCell ⟨bx,2,none⟩ (.string v)) bx k p v):=KD;clear KA KB KC KD HBA HBB HS3 HX3 HB3 K3;generalize (wB.setCell ⟨bx,1,none⟩ (.string p)).setCell ⟨bx,2,none⟩ (.string v)=W5 at*;go_upto_region 7 with fail;have K5:W5.cell? ⟨sb,0,none⟩=some (.map (some mb))∧W5.cell? ⟨bx,0,none⟩=some (.int .i64 k)∧W5.cell? ⟨bx,1,none⟩=some (.string p)∧W5.cell? ⟨bx,2,none⟩=some (.string v):=⟨HS5.out.f0.1,HX5.out.1.1,HX5.out.2.1.1,HX5.out.2.2.1⟩
     have kst:∀W,Below W5.heap.size W5 W→∃w7,(Instr.mapUpdate 189 (.map (some mb)) (plc k p v) (txt s)).run prog W=.ok () w7∧Hid (aF w7 sb mb rev L')∧Hid (aj (fun b=>b=sb∨b=mb) w w7)∧Hid (fI w7 bx k p v)∧Hid (aF W sb mb rev L)∧Hid (fI W bx k p v):=fun W hb=>by
      have h1:=HS5.out.below hb;obtain⟨w7,hrun,h2,h3⟩:=h1.stored HSp.out rfl hl hk (by unfold maxLen;omega) (by unfold maxLen;omega);refine⟨w7,hrun,h2,(HT5.out.more hb).trans h3 (fun _ _ e=>e) (fun _ _ e=>Or.inr e),(HX5.out.below hb).of_block (h3.block bx (bI HX5.out.lt hb.size) (by omega)),h1,HX5.out.below hb⟩
     clear HS5 HX5 HT5
     go_region_held3 (fun w'=>w'.cell? ⟨sb,0,none⟩=some (.map (some mb))∧w'.cell? ⟨bx,0,none⟩=some (.int .i64 k)∧w'.cell? ⟨bx,1,none⟩=some (.string p)∧w'.cell? ⟨bx,2,none⟩=some (.string v))
      (first|exact K5|exact⟨HS6.out.f0.1,HX6.out.1.1,HX6.out.2.1.1,HX6.out.2.2.1⟩|exact⟨HS7.out.f0.1,HX7.out.1.1,HX7.out.2.1.1,HX7.out.2.2.1⟩)
      (first|(go_at_call 155;refine(gZ s _ hs).mono ?_;rintro e w6 ⟨rfl,hb6⟩;obtain⟨w7,hrun,HS7,HT7,HX7,HS6,HX6⟩:=kst w6 ((ae W5.heap.size W5).drew.trans hb6);clear hb6))
     all_goals
      clear hrun kst K5 HX7 HS6 HX6;have g1:=HS7.out.f1.1;have g2:=HS7.out.f1.2;have e2:IntKind.i64.wrap ((rev:Int)+1)=(rev:Int)+1:=by simp[IntKind.wrap,IntKind.bits,IntKind.signed];omega
      have HS8:Hid (aF (w7.setCell ⟨sb,1,none⟩ (.int .i64 ((rev:Int)+1))) sb mb (rev+1) L'):=HS7.out.bump;have HT8:Hid (aj (fun b=>b=sb∨b=mb) w (w7.setCell ⟨sb,1,none⟩ (.int .i64 ((rev:Int)+1)))):=HT7.out.set (a:=⟨sb,1,none⟩) (fun _=>Or.inl rfl) _;clear HS7 HT7;go_wp2;go_ret;exact⟨rfl,HS8.out,HT8.out⟩
  ·have hin:(plc k p v,txt old)∈L:=by have h:=hold.out;simpa using h
   cases hq:(old.toList==s.toList)
   ·have HF:Hid (r=0∧d=1):=by
     have h:=HSp.out;cases h with
     |same hi=>
      have e:=Mp.uniq HS2.out.map.apart hin hi;injection e with e;simp only[Array.mk.injEq,eG,Value.string.injEq,fS] at e;rw[e] at hq;simp at hq
     |other PF L0 hp hne=>exact⟨rfl,rfl⟩
     |many hn _=>exact absurd rfl (hn _ hin)
     |fresh hn _=>exact absurd rfl (hn _ hin)
    have e:=HF.out;obtain⟨rfl,rfl⟩:=e;have HB3:Hid (Below w.heap.size w W2):=HB2;have HS3:Hid (aF W2 sb mb rev L):=HS2;have HX3:Hid (fI W2 bx k p v):=HX2;clear kc HB2 HS2 HX2 HO2;go_upto_region 6 with fail;have K3:(W2.cell? ⟨bx,1,none⟩=some (.string p)∧W2.frozen? ⟨bx,1,none⟩=false)∧(W2.cell? ⟨bx,2,none⟩=some (.string v)∧W2.frozen? ⟨bx,2,none⟩=false):=HX3.out.2
    go_region_held3 (fun w'=>(w'.cell? ⟨bx,1,none⟩=some (.string p)∧w'.frozen? ⟨bx,1,none⟩=false)∧(w'.cell? ⟨bx,2,none⟩=some (.string v)∧w'.frozen? ⟨bx,2,none⟩=false))
     (first|exact K3|exact KA.out.2|exact KB.out.2|exact KC.out.2|exact KD.out.2)
     (first
      |(go_at_call 155;(with_reducible show Calls _ _ #[Value.string p] _ _);refine(gZ p _ hp).mono ?_;rintro e wA ⟨rfl,hbA⟩;have KA:Hid (fI wA bx k p v):=HX3.out.below ((ae W2.heap.size W2).drew.trans hbA);have HBA:Hid (Below W2.heap.size W2 wA):=(ae W2.heap.size W2).drew.trans hbA;clear hbA)
      |(go_at_call 155;refine(gZ v _ hv).mono ?_;rintro e wB ⟨rfl,hbB⟩;have KB:Hid (fI wB bx k p v):=KA.out.below hbB;have HBB:Hid (Below W2.heap.size W2 wB):=HBA.out.trans (hbB.mono HBA.out.size);have KC:Hid (fI (wB.setCell ⟨bx,1,none⟩ (.string p)) bx k p v):=KB.out.set1;have KD:Hid (fI ((wB.setCell ⟨bx,1,none⟩ (.string p)).setCell ⟨bx,2,none⟩ (.string v)) bx k p v):=KC.out.set2;clear hbB))
    all_goals
     have hsl:sb<bx∧mb<bx:=by have h1:=HS.out.f0.lt;have h2:=HS.out.map.lt;omega
     have HT5:Hid (aj (fun b=>b=sb∨b=mb) w ((wB.setCell ⟨bx,1,none⟩ (.string p)).setCell ⟨bx,2,none⟩ (.string v))):=by
      have h1:aj (fun b=>b=sb∨b=mb) w wB:=(aj.of_below HB3.out).more HBB.out;exact(h1.set (a:=⟨bx,1,none⟩) (fun h=>by have h2:bx<w.heap.size:=h;omega) _).set (a:=⟨bx,2,none⟩) (fun h=>by have h2:bx<w.heap.size:=h;omega) _
     have HS5:Hid (aF ((wB.setCell ⟨bx,1,none⟩ (.string p)).setCell ⟨bx,2,none⟩ (.string v)) sb mb rev L):=by
      have e1:∀b,b≠bx→((wB.setCell ⟨bx,1,none⟩ (.string p)).setCell ⟨bx,2,none⟩ (.string v)).heap[b]?=wB.heap[b]?:=fun b hne=>by
       rw[aL _ _ _ _ hne,aL _ _ _ _ hne]
      exact(HS3.out.below HBB.out).of_block (e1 sb (by omega)) (e1 mb (by omega))
     have HX5:Hid (fI ((wB.setCell ⟨bx,1,none⟩ (.string p)).setCell ⟨bx,2,none⟩ (.string v)) bx k p v):=KD;clear KA KB KC KD HBA HBB HS3 HX3 HB3 K3;generalize (wB.setCell ⟨bx,1,none⟩ (.string p)).setCell ⟨bx,2,none⟩ (.string v)=W5 at*;go_upto_region 7 with fail;have K5:W5.cell? ⟨sb,0,none⟩=some (.map (some mb))∧W5.cell? ⟨bx,0,none⟩=some (.int .i64 k)∧W5.cell? ⟨bx,1,none⟩=some (.string p)∧W5.cell? ⟨bx,2,none⟩=some (.string v):=⟨HS5.out.f0.1,HX5.out.1.1,HX5.out.2.1.1,HX5.out.2.2.1⟩
     have kst:∀W,Below W5.heap.size W5 W→∃w7,(Instr.mapUpdate 189 (.map (some mb)) (plc k p v) (txt s)).run prog W=.ok () w7∧Hid (aF w7 sb mb rev L')∧Hid (aj (fun b=>b=sb∨b=mb) w w7)∧Hid (fI w7 bx k p v)∧Hid (aF W sb mb rev L)∧Hid (fI W bx k p v):=fun W hb=>by
      have h1:=HS5.out.below hb;obtain⟨w7,hrun,h2,h3⟩:=h1.stored HSp.out rfl hl hk (by unfold maxLen;omega) (by unfold maxLen;omega);refine⟨w7,hrun,h2,(HT5.out.more hb).trans h3 (fun _ _ e=>e) (fun _ _ e=>Or.inr e),(HX5.out.below hb).of_block (h3.block bx (bI HX5.out.lt hb.size) (by omega)),h1,HX5.out.below hb⟩
     clear HS5 HX5 HT5
     go_region_held3 (fun w'=>w'.cell? ⟨sb,0,none⟩=some (.map (some mb))∧w'.cell? ⟨bx,0,none⟩=some (.int .i64 k)∧w'.cell? ⟨bx,1,none⟩=some (.string p)∧w'.cell? ⟨bx,2,none⟩=some (.string v))
      (first|exact K5|exact⟨HS6.out.f0.1,HX6.out.1.1,HX6.out.2.1.1,HX6.out.2.2.1⟩|exact⟨HS7.out.f0.1,HX7.out.1.1,HX7.out.2.1.1,HX7.out.2.2.1⟩)
      (first|(go_at_call 155;refine(gZ s _ hs).mono ?_;rintro e w6 ⟨rfl,hb6⟩;obtain⟨w7,hrun,HS7,HT7,HX7,HS6,HX6⟩:=kst w6 ((ae W5.heap.size W5).drew.trans hb6);clear hb6))
     all_goals
      clear hrun kst K5 HX7 HS6 HX6;have g1:=HS7.out.f1.1;have g2:=HS7.out.f1.2;have e2:IntKind.i64.wrap ((rev:Int)+1)=(rev:Int)+1:=by simp[IntKind.wrap,IntKind.bits,IntKind.signed];omega
      have HS8:Hid (aF (w7.setCell ⟨sb,1,none⟩ (.int .i64 ((rev:Int)+1))) sb mb (rev+1) L'):=HS7.out.bump;have HT8:Hid (aj (fun b=>b=sb∨b=mb) w (w7.setCell ⟨sb,1,none⟩ (.int .i64 ((rev:Int)+1)))):=HT7.out.set (a:=⟨sb,1,none⟩) (fun _=>Or.inl rfl) _;clear HS7 HT7;go_wp2;go_ret;exact⟨rfl,HS8.out,HT8.out⟩
   ·have HF:Hid (r=0∧d=0∧L'=L):=by
     have h:=HSp.out;cases h with
     |same _=>exact⟨rfl,rfl,rfl⟩
     |other PF L0 hp hne=>
      have e:=Mp.uniq HS2.out.map.apart hin (hp.mem_iff.2 (bz ..));injection e with e;simp only[Array.mk.injEq,eG,Value.string.injEq,fS] at e;rw[e,hne] at hq;cases hq
     |many hn _=>exact absurd rfl (hn _ hin)
     |fresh hn _=>exact absurd rfl (hn _ hin)
    have e:=HF.out;obtain⟨rfl,rfl,rfl⟩:=e;clear kc;go_wp2;go_ret;exact⟨rfl,HS2.out,aj.of_below HB2.out⟩
