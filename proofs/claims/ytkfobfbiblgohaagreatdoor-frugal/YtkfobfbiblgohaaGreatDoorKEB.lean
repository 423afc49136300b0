import Derived.Test.YtkfobfbiblgohaaGreatDoorKEA
set_option linter.all false
open Go.Proofs.Tryz
set_option maxRecDepth 100000
set_option maxHeartbeats 4000000
namespace Go.Proofs.YtkfobfbiblgohaaGreatDoor
section
open Go.ChangeMaps Go.MapKept
open Go.WideElems (Fit rd rg pl rd_val elemAt rd_key)
open Go.Maps (Keyed)
namespace Mp
def pair(x:MapEntry):zV×zV:=(x.key,x.val)
def noR(_:zV):Option (DataW Unit×List MemPlace):=some (.nil,[])
def MapAt(P:Program)(k:TypeId)(w:zW)(b:Nat)(L:List (zV×zV)):Prop:=
 ∃E clock,w.heap[b]?=some (.map E clock)/\Fit P k noR E clock/\(E.toList.map pair).Perm L
variable{P:Program}{k:TypeId}{w w':zW}{b r:Nat}{L Z Y:List (zV×zV)}{t e:TypeId}{key val old:zV}{V:Lit}
theorem MapAt.lt(h:MapAt P k w b L):b<w.heap.size:=by
 obtain⟨F,clock,E,_⟩:=h;exact(ou.1 E).1
theorem MapAt.of_block(h:MapAt P k w b L)(e:w'.heap[b]?=w.heap[b]?):MapAt P k w' b L:=by
 obtain⟨E,clock,F,r⟩:=h;exact⟨E,clock,e.trans F,r⟩
theorem MapAt.perm(h:MapAt P k w b L)(e:L.Perm Z):MapAt P k w b Z:=by
 obtain⟨E,clock,M,F,O⟩:=h;exact⟨E,clock,M,F,O.trans e⟩
theorem made(w:zW)(P:Program)(k:TypeId):MapAt P k (w.alloc (.map #[] 0)) w.heap.size []:=
 ⟨#[],0,(MapKept.heap_alloc w _).1,⟨by simp,stamped_empty 0,by simp⟩,by simp⟩
theorem MapAt.apart(h:MapAt P k w b L):L.Pairwise (fun p q=>p.1≠q.1):=by
 obtain⟨M,clock,hb,F,T⟩:=h;have O:=((stamped_iff M clock).1 F.stamped).2.2;refine(T.pairwise_iff (fun {_ _} E=>Ne.symm E)).1 ?_;rw[pP];exact O
theorem MapAt.keys(h:MapAt P k w b L):∀p∈L,∃l,keyOf P k p.1=some l:=by
 obtain⟨T,clock,hb,F,E⟩:=h;intro p hm;obtain⟨x,M,rfl⟩:=aO.1 (E.mem_iff.2 hm);obtain⟨y,O⟩:=F.reads x M;exact⟨_,rd_key O⟩
theorem MapAt.look(c:Bool)(h:MapAt P k w b L)(K:Keyed P k)(ht:P.underlying t=some (.map k e)){z:zV}(hz:(zeroValue e).run P w=.ok z w)(M:keyOf P k key=some V):
  ((Instr.lookup t (.map (some b)) key c).run P w=.ok (if c then .tuple #[z,.bool false] else z) w/\∀p∈L,p.1≠key)\/
  ∃v,(key,v)∈L/\(Instr.lookup t (.map (some b)) key c).run P w=.ok (if c then .tuple #[v,.bool true] else v) w:=by
 obtain⟨es,clock,hb,F,T⟩:=h;rcases Maps.fit_look c K ht hz hb F M with⟨E,hn,_⟩|⟨e0,y,hm,hk,E,_⟩
 ·refine oE ⟨E,fun p O=>?_⟩
  obtain⟨x,hx,rfl⟩:=aO.1 (T.mem_iff.2 O);exact hn x hx
 ·refine oS ⟨e0.val,T.mem_iff.1 (aO.2 ⟨e0,hm,by rw[pair,hk]⟩),E⟩
theorem MapAt.look_none(c:Bool)(h:MapAt P k w b L)(K:Keyed P k)(O:P.underlying t=some (.map k e)){z:zV}(T:(zeroValue e).run P w=.ok z w)(E:keyOf P k key=some V)(M:∀p∈L,p.1≠key):
  (Instr.lookup t (.map (some b)) key c).run P w=.ok (if c then .tuple #[z,.bool false] else z) w:=by
 rcases h.look c K O T E with⟨F,_⟩|⟨v,hm,_⟩
 ·exact F
 ·exact absurd rfl (M _ hm)
theorem uniq:∀{L:List (zV×zV)} (_:L.Pairwise (fun p q=>p.1≠q.1)) {key v u:zV} (_:(key,v)∈L) (_:(key,u)∈L),v=u
 |[],_,_,_,_,F,_=>by cases F
 |x::r,h,key,v,u,F,T=>by
  obtain⟨ha,hb⟩:=lD.1 h;rcases aK.1 F with O|m1
  ·rcases aK.1 T with E|M
   ·have e3:=O.trans E.symm
    injection e3
   ·exact absurd (by rw[<-O]) (ha _ M)
  ·rcases aK.1 T with E|M
   ·exact absurd (by rw[<-E]) (ha _ m1)
   ·exact uniq hb m1 M
theorem MapAt.look_some(c:Bool)(h:MapAt P k w b L)(K:Keyed P k)(M:P.underlying t=some (.map k e)){z:zV}(T:(zeroValue e).run P w=.ok z w)(E:keyOf P k key=some V){v:zV}(hm:(key,v)∈L):
  (Instr.lookup t (.map (some b)) key c).run P w=.ok (if c then .tuple #[v,.bool true] else v) w:=by
 rcases h.look c K M T E with⟨_,F⟩|⟨u,O,F⟩
 ·exact absurd rfl (F _ hm)
 ·rw[uniq h.apart hm O];exact F
theorem MapAt.Gf(h:MapAt P k w b L)(K:Keyed P k)(ht:P.underlying t=some (.map k e))(hn:L.length<maxLen)(E:keyOf P k key=some V)(a0:∀p∈L,p.1≠key)(val:zV):
  ∃w',(Instr.mapUpdate t (.map (some b)) key val).run P w=.ok () w'/\w.mapTurned w' b/\MapAt P k w' b ((key,val)::L):=by
 obtain⟨M,clock,T,F,hp⟩:=h;have Hl:∀x∈M.toList,x.key≠key:=fun x O=>a0 _ (hp.mem_iff.1 (aO.2 ⟨x,O,rfl⟩))
 have a1:M.size<maxLen:=by
  have:=hp.length_eq;rw[bJ,oz] at this;omega
 rcases K.find w E M.toList F.keys with⟨h1,h2⟩|⟨j,e0,h1,h2,h3⟩
 ·refine⟨setBlock w b (.map (M.push ⟨key,val,clock⟩) (clock+1)),?_,⟨M,clock,_,_,T,rfl⟩,M.push ⟨key,val,clock⟩,clock+1,heap_setBlock_same T _,⟨by simp;omega,stamped_push F.stamped h2,?_⟩,?_⟩
  ·simp[Instr.mapUpdate,run_underlying ht,MapKept.run_getObj_map T,K.check w false E,h1,MapKept.run_setObj_map _ T,Result.andThen,setBlock]
  ·intro x O
   simp only[Array.toList_push,bh,bI] at O;rcases O with O|rfl
   ·exact F.reads x O
   ·exact⟨_,WideElems.rd_mk (R:=noR) E rfl⟩
  ·rw[Array.toList_push,eK,List.map_singleton]
   exact(uh _ _).trans (hp.cons _)
 ·exact absurd h3 (Hl e0 (iQ h2))
theorem oO{α:Type}:∀(l:List α)(j:Nat)(x:α),j<l.length->(l.set j x).Perm (x::l.eraseIdx j)
 |y::r,0,x,_=>by simp
 |y::r,j+1,x,h=>by
  simp only[List.set_cons_succ,List.eraseIdx_cons_succ];exact((oO r j x (by simpa using h)).cons y).trans (List.Perm.swap _ _ _)
theorem mW{α:Type}:∀(l:List α)(j:Nat)(h:j<l.length),l.Perm (l[j]::l.eraseIdx j)
 |y::r,0,_=>by simp
 |y::r,j+1,h=>by
  simp only[List.getElem_cons_succ,List.eraseIdx_cons_succ];exact((mW r j (by simpa using h)).cons y).trans (List.Perm.swap _ _ _)
theorem MapAt.Gg(h:MapAt P k w b L)(K:Keyed P k)(ht:P.underlying t=some (.map k e))(hkey:keyOf P k key=some V)(hL:L.Perm ((key,old)::Z))(val:zV):
  ∃w',(Instr.mapUpdate t (.map (some b)) key val).run P w=.ok () w'/\w.mapTurned w' b/\MapAt P k w' b ((key,val)::Z):=by
 have hap:=h.apart;obtain⟨es,clock,hb,F,hp⟩:=h;have hm:(key,old)∈es.toList.map pair:=hp.mem_iff.2 (hL.mem_iff.2 (bE ..));obtain⟨x0,hx0,ex0⟩:=aO.1 hm;rcases K.find w hkey es.toList F.keys with⟨h1,h2⟩|⟨j,e0,h1,h2,h3⟩
 ·exact absurd (by injection ex0) (h2 x0 hx0)
 ·have hj:es[j]?=some e0:=by simpa using h2
  have hjl:j<es.toList.length:=(dB.1 h2).1;have RP:∀e',es[j]?=some e'->({e' with key:=key,val:=val}:MapEntry).key=e'.key:=fun e' he'=>by rw[hj] at he';cases he';exact h3.symm
  have Po:(es.modify j (fun e'=>{e' with key:=key,val:=val})).toList=es.toList.set j {e0 with key:=key,val:=val}:=by rw[Array.toList_modify,modify_eq_set _ _ _ _ h2]
  have hgj:es.toList[j]=e0:=(dB.1 h2).2;refine⟨setBlock w b (.map (es.modify j (fun e'=>{e' with key:=key,val:=val})) clock),?_,⟨es,clock,_,_,hb,rfl⟩,es.modify j (fun e'=>{e' with key:=key,val:=val}),clock,heap_setBlock_same hb _,⟨by simpa using F.size,stamped_modify F.stamped _ _ (fun _ _=>rfl) (fun e' _ he'=>RP e' he'),?_⟩,?_⟩
  ·simp[Instr.mapUpdate,run_underlying ht,MapKept.run_getObj_map hb,K.check w false hkey,h1,hj,h3,K.stays w hkey,MapKept.run_setObj_map _ hb,Result.andThen,setBlock]
  ·intro x hx
   rw[Po] at hx;rcases List.mem_or_eq_of_mem_set hx with hx|rfl
   ·exact F.reads x hx
   ·exact⟨_,WideElems.rd_mk (R:=noR) hkey rfl⟩
  ·rw[Po]
   have e1:=(oO es.toList j {e0 with key:=key,val:=val} hjl).map pair;have e2:=(mW es.toList j hjl).map pair;rw[hgj] at e2;simp only[bQ] at e1 e2
   have e3:pair e0=(key,old):=by
    have m1:(key,e0.val)∈L:=hp.mem_iff.1 (aO.2 ⟨e0,iQ h2,by rw[pair,h3]⟩);have m2:(key,old)∈L:=hL.mem_iff.2 (bE ..);rw[pair,h3,uniq hap m1 m2]
   rw[e3] at e2;have e4:((es.toList.eraseIdx j).map pair).Perm Z:=List.Perm.cons_inv ((e2.symm.trans hp).trans hL);exact e1.trans (e4.cons _)
theorem MapAt.C6(h:MapAt P k w b L)(K:Keyed P k)(ht:P.underlying t=some (.map k e))(M:keyOf P k key=some V)(hL:L.Perm ((key,old)::Z))(ty:TypeId):
  ∃w',(Builtin.delete_ #[t,k] ty #[.map (some b),key]).run P w=.ok (.tuple #[]) w'/\w.mapTurned w' b/\MapAt P k w' b Z:=by
 have a2:=h.apart;obtain⟨E,clock,hb,F,hp⟩:=h;have hm:(key,old)∈E.toList.map pair:=hp.mem_iff.2 (hL.mem_iff.2 (bE ..));obtain⟨x0,a5,a1⟩:=aO.1 hm;rcases K.find w M E.toList F.keys with⟨h1,T⟩|⟨j,e0,h1,T,h3⟩
 ·exact absurd (by injection a1) (T x0 a5)
 ·have a0:j<E.toList.length:=(dB.1 T).1
  have a4:j<E.size:=by simpa using a0
  have a3:E.toList[j]=e0:=(dB.1 T).2
  have O:(E.eraseIdxIfInBounds j).toList=E.toList.eraseIdx j:=by
   unfold Array.eraseIdxIfInBounds;rw[dif_pos a4];simp
  refine⟨setBlock w b (.map (E.eraseIdxIfInBounds j) clock),?_,⟨E,clock,_,_,hb,rfl⟩,E.eraseIdxIfInBounds j,clock,heap_setBlock_same hb _,⟨aN (MapFrom.size_erase E j) F.size,stamped_erase F.stamped j,?_⟩,?_⟩
  ·simp[Builtin.delete_,run_underlying ht,MapKept.run_getObj_map hb,K.check w _ M,h1,MapKept.run_setObj_map _ hb,Result.andThen,setBlock]
  ·intro x hx
   rw[O] at hx;exact F.reads x ((List.eraseIdx_sublist _ _).subset hx)
  ·rw[O]
   have e2:=(mW E.toList j a0).map pair;rw[a3] at e2;simp only[bQ] at e2
   have e3:pair e0=(key,old):=by
    have m1:(key,e0.val)∈L:=hp.mem_iff.1 (aO.2 ⟨e0,iQ T,by rw[pair,h3]⟩);have m2:(key,old)∈L:=hL.mem_iff.2 (bE ..);rw[pair,h3,uniq a2 m1 m2]
   rw[e3] at e2;exact List.Perm.cons_inv ((e2.symm.trans hp).trans hL)
theorem MapAt.len(h:MapAt P k w b L)(T:P.underlying t=some (.map k e))(ty:TypeId):(Builtin.len_ #[t] ty #[.map (some b)]).run P w=.ok (.int .i64 L.length) w:=by
 obtain⟨es,clock,M,F,O⟩:=h;have E:=O.length_eq;rw[bJ,oz] at E;rw[<-E];simp[Builtin.len_,run_underlying T,MapKept.run_getObj_map M,goInt,Result.andThen]
def cM(P:Program)(k:TypeId)(w:zW)(b r:Nat)(L Y:List (zV×zV)):Prop:=
 ∃F clock E seen M,w.heap[b]?=some (.map F clock)/\Fit P k noR F clock/\(F.toList.map pair).Perm L/\w.heap[r]?=some (.mapIter (some b) E seen M)/\(∀x∈F.toList,x.born<E)/\E<=M/\E<=clock/\((leftOf F seen).toList.map pair).Perm Y
theorem cM.owns(h:cM P k w b r L Y):MapAt P k w b L:=by
 obtain⟨E,clock,_,_,_,M,F,O,_⟩:=h;exact⟨E,clock,M,F,O⟩
theorem cM.lt(h:cM P k w b r L Y):r<w.heap.size:=by
 obtain⟨O,clock,E,seen,M,_,_,_,F,_⟩:=h;exact(ou.1 F).1
theorem cM.ne(h:cM P k w b r L Y):r≠b:=by
 obtain⟨T,clock,E,seen,O,M,_,_,F,_⟩:=h;intro e;rw[e,M] at F;cases F
theorem cM.of_block(h:cM P k w b r L Y)(O:w'.heap[b]?=w.heap[b]?)(T:w'.heap[r]?=w.heap[r]?):cM P k w' b r L Y:=by
 obtain⟨es,clock,E,seen,M,hb,F,hp,hr,J⟩:=h;exact⟨es,clock,E,seen,M,O.trans hb,F,hp,T.trans hr,J⟩
theorem MapAt.range(h:MapAt P k w b L)(ht:P.underlying t=some (.map k e)):
  ∃w',(Instr.range t (.map (some b))).run P w=.ok (.pointer (some (tD w.heap.size 0))) w'/\cM P k w' b w.heap.size L L/\w.grownBy w' none/\w'.heap.size=w.heap.size+1:=by
 have M:=h.lt;obtain⟨E,clock,O,F,T⟩:=h;refine⟨_,run_range_map w t k e b E clock ht O,⟨E,clock,clock,#[],clock,((MapKept.heap_alloc w _).2 b M).trans O,F,T,(MapKept.heap_alloc w _).1,F.stamped.1,ah _,ah _,?_⟩,World.grownBy_alloc w _ none,by simp⟩
 have:leftOf E #[]=E:=by
  unfold leftOf;rw[Array.filter_eq_self];intro x _;simp
 rw[this];exact T
theorem Hv{l:List MapEntry}(F:(l.map (·.born)).Nodup){e:MapEntry}(he:e∈l):l.Perm (e::l.filter fun x=>!(x.born==e.born)):=by
 obtain⟨s,t,rfl⟩:=List.append_of_mem he;rw[eK,bQ,iB] at F;obtain⟨_,O,T⟩:=F;have h4:=(List.nodup_cons.1 O).1
 have hs:s.filter (fun x=>!(x.born==e.born))=s:=List.filter_eq_self.2 fun x E=>by
  have:=T x.born (aO.2 ⟨x,E,rfl⟩) e.born (bE ..);simp[this]
 have ht:t.filter (fun x=>!(x.born==e.born))=t:=List.filter_eq_self.2 fun x E=>by
  have:x.born≠e.born:=fun M=>h4 (aO.2 ⟨x,E,M⟩)
  simp[this]
 rw[List.filter_append,List.filter_cons,hs,ht];simp
theorem cM.next(h:cM P k w b r L Y)(ty:TypeId):
  (Y=[]/\(Instr.next (zP r) false ty).run P w=.ok (.tuple #[.bool false]) w)\/
  ∃key v a1 w',(key,v)∈L/\Y.Perm ((key,v)::a1)/\(Instr.next (zP r) false ty).run P w=.ok (.tuple #[.bool true,key,v]) w'/\
   cM P k w' b r L a1/\w.grownBy w' (some r)/\w'.heap.size=w.heap.size/\(Instr.entry (zP r)).run P w'=.ok (.tuple #[key,v]) w':=by
 have aa:=h.ne;obtain⟨O,clock,E,seen,c0,hb,F,hp,hr,a0,ad,a5,hl⟩:=h;rcases run_next_at (P:=P) w ty r b E c0 seen O clock hr hb a0 ad with⟨h0,M⟩|⟨e,he,w1,T,M⟩
 ·refine oE ⟨?_,M⟩
  have h1:=hl.length_eq;rw[bJ,oz,h0] at h1;exact qJ h1.symm
 ·obtain⟨a3,ak⟩:=mem_left he
  have a6:=(stamped_iff O clock).1 F.stamped;have ab:w1.heap[r]?=some (.mapIter (some b) E seen c0):=by rcases T with rfl|rfl<;>exact hr
  have a7:w1.heap[b]?=some (.map O clock):=by rcases T with rfl|rfl<;>exact hb
  have CW:=heap_set (o':=.mapIter (some b) E (seen.push e.born) clock) ab;have a2:(setBlock w1 r (.mapIter (some b) E (seen.push e.born) clock)).heap[b]?=some (.map O clock):=(CW.2 b (fun e1=>aa e1.symm)).trans a7
  have a8:(leftOf O (seen.push e.born)).toList=(leftOf O seen).toList.filter (fun x=>!(x.born==e.born)):=by
   unfold leftOf;rw[Array.toList_filter,Array.toList_filter,List.filter_filter];refine List.filter_congr (fun x _=>?_);rw[contains_push];cases seen.contains x.born<;>cases (x.born==e.born)<;>rfl
  have a9:((leftOf O seen).toList.map (·.born)).Nodup:=by
   unfold leftOf;rw[Array.toList_filter];exact a6.2.1.sublist (List.filter_sublist.map _)
  have a4:=(Hv a9 he).map pair;rw[<-a8,bQ] at a4
  refine oS ⟨e.key,e.val,(leftOf O (seen.push e.born)).toList.map pair,_,hp.mem_iff.1 (aO.2 ⟨e,a3,rfl⟩),hl.symm.trans a4,M,
   ⟨O,clock,E,seen.push e.born,clock,a2,F,hp,CW.1,a0,a5,a5,jc _⟩,?_,?_,
   run_entry_at _ r b E seen O clock e CW.1 a2 a3 a6.2.1⟩
  ·rcases T with rfl|rfl<;>exact⟨rfl,rfl,rfl,by simp[setBlock],fun i _ hi=>CW.2 i (fun e1=>hi (by rw[e1]))⟩
  ·rcases T with rfl|rfl<;>simp[setBlock]
end Mp
end
section
open Go.RowKit
namespace Ed
variable{w w':zW}
theorem C8:laidOutB prog=true:=by kernel_rfl
theorem P7:(100:TypeId)<prog.types.size:=gD (by kernel_rfl)
theorem NC:(match prog.underlying 100 with|some (.array _ _)|some (.struct _)=>true|_=>false)=true:=by kernel_rfl
theorem ND:prog.keyTypeAt 3 100=true:=by kernel_rfl
theorem Kr:prog.keyType 100=true:=by kernel_rfl
theorem Gh:prog.types.size=366:=by kernel_rfl
theorem C9:prog.cellsOf 100=3:=by kernel_rfl
theorem Ks:prog.cellsOf 98=1:=by kernel_rfl
theorem Gi:prog.cellsOf 9=1:=by kernel_rfl
theorem P8:WideMaps.KeyLaw prog 100:=deep_law_laid C8 (m:=3) (Nat.le_of_ble_eq_true rfl) P7 ND NC
theorem gY:Maps.Keyed prog 100:=Maps.Keyed.of_law P8
theorem pS(d:Nat)(s:zA)(h:s.size<=maxLen):prog.keyLits (d+1) 9 [tS s]=some [.string s.data.toList]:=by
 unfold Program.keyLits;rw[underlying9];show(if s.size<=maxLen then some [Lit.string s.data.toList] else none)=_;rw[aj h]
theorem E3(d:Nat)(k:Int)(h:(Lit.int .i64 k).wf=true):prog.keyLits (d+1) 98 [.int .i64 k]=some [.int .i64 k]:=by
 unfold Program.keyLits;rw[underlying98];show(if IntKind.i64=IntKind.i64/\(Lit.int .i64 k).wf=true then some [Lit.int .i64 k] else none)=_;rw[aj ⟨rfl,h⟩]
abbrev plc(k:Int)(p v:zA):zV:=.agg #[.int .i64 k,tS p,tS v]
abbrev txt(s:zA):zV:=.agg #[tS s,.bool true]
theorem sK(k:Int)(p v:zA)(F:(Lit.int .i64 k).wf=true)(M:p.size<=maxLen)(O:v.size<=maxLen):∃l,keyOf prog 100 (plc k p v)=some l:=by
 have E:prog.keyLits (prog.types.size+1) 100 [.int .i64 k,tS p,tS v]=some [.int .i64 k,.string p.data.toList,.string v.data.toList]:=by
  rw[Gh];unfold Program.keyLits;rw[underlying100];simp only[C9,bW,gU];rw[aj ⟨trivial,by kernel_rfl⟩];simp only[List.mapM_cons,List.mapM_nil,Gi,Ks,List.drop,List.take,E3 365 k F,pS 365 p M,pS 365 v O]
  rfl
 refine⟨.string (keyBytes [.int .i64 k,.string p.data.toList,.string v.data.toList]),?_⟩;unfold keyOf;rw[underlying100];show(if (prog.keyType 100&&(Value.agg #[.int .i64 k,tS p,tS v]).formed prog 100)=true then (prog.keyLits (prog.types.size+1) 100 [.int .i64 k,tS p,tS v]).map (fun T=>Lit.string (keyBytes T)) else none)=_;rw[Kr,E];rw[aj (by simp[Value.formed,underlying100,C9])]
 rfl
theorem mY(w:zW):(zeroValue 129).run prog w=.ok (.agg #[zE,.bool false]) w:=by kernel_rfl
abbrev sL(w:zW)(b:Nat)(L:List (zV×zV)):Prop:=Mp.MapAt prog 100 w b L
def Good(L:List (zV×zV)):Prop:=∀x∈L,∃(k:Int)(p v s:zA),x=(plc k p v,txt s)
def P9(k:Int):List zV->Bool
 | .int .i64 q::_=>q==k
 |_=>false
def gH(k:Int)(x:zV×zV):Bool:=match x.1 with
 | .agg cs=>P9 k cs.toList
 |_=>false
structure aD(w:World)(I mb G:Nat)(L:List (zV×zV)):Prop where
 f0:Fd w I 0 (.map (some mb))
 f1:Fd w I 1 (.int .i64 G)
 map:sL w mb L
 good:Good L
 ne:I≠mb
variable{I mb G:Nat}{L:List (zV×zV)}
theorem aD.of_block(h:aD w I mb G L)(E:w'.heap[I]?=w.heap[I]?)(F:w'.heap[mb]?=w.heap[mb]?):aD w' I mb G L:=
 ⟨h.f0.of_block E,h.f1.of_block E,h.map.of_block F,h.good,h.ne⟩
theorem aD.below(h:aD w I mb G L)(E:zB w w'):aD w' I mb G L:=
 h.of_block (E.block I h.f0.lt) (E.block mb h.map.lt)
end Ed
end
section
open Go.RowKit
namespace Ed
section
variable{P:Program}(w:zW){U:Array Oper}{J:List Oper}{o:Oper}{a:Act}{Q:Exit->Act->zW->Prop}
theorem nT(O:o.guard=none)(m:Operand)(t:TypeId)(M:o.op=Op.range t m)(k e:TypeId)(T:P.underlying t=some (.map k e))(b:Nat)(L:List (zV×zV))
  (hm:a.eval m=.map (some b)) (h:Mp.MapAt P k w b L)
  (hK:∀w',Mp.cM P k w' b w.heap.size L L->w.grownBy w' none->w'.heap.size=w.heap.size+1->wpList P U Q J (a.put o.dst (.pointer (some (tD w.heap.size 0)))) w'):
  wpList P U Q (o::J) a w:=by
 refine wpList_plain O fun K' F=>?_
 obtain⟨w',E,r1,r2,r3⟩:=h.range T;unfold Oper.wp;simp[execOp,M,hm,E,Result.andThen];exact F _ _ (hK w' r1 r2 r3)
theorem wH(hg:o.guard=none)(it:Operand)(a0:o.op=Op.next it false)(k:TypeId)(b r:Nat)(L Y:List (zV×zV))(hL:Good L)
  (hit:a.eval it=zP r) (h:Mp.cM P k w b r L Y)
  (M:Y=[]->wpList P U Q J (a.put o.dst (.tuple #[.bool false])) w)
  (O:∀(q:Int)(p v s:zA)(F:List (zV×zV))(w':zW),Y.Perm ((plc q p v,txt s)::F)->Mp.cM P k w' b r L F->w.grownBy w' (some r)->w'.heap.size=w.heap.size->
   (Instr.entry (zP r)).run P w'=.ok (.tuple #[plc q p v,txt s]) w'->wpList P U Q J (a.put o.dst (.tuple #[.bool true,plc q p v,txt s])) w'):
  wpList P U Q (o::J) a w:=by
 refine wpList_plain hg fun K' T=>?_
 unfold Oper.wp;rcases h.next o.type with⟨h0,E⟩|⟨key,v,F,w',hm,hp,E,a3,a2,a4,a1⟩
 ·simp[execOp,a0,hit,E,Result.andThen]
  exact T _ _ (M h0)
 ·obtain⟨q,p,v,s,e⟩:=hL _ hm
  injection e with e1 e2;subst e1;subst e2;simp[execOp,a0,hit,E,Result.andThen];exact T _ _ (O q p v s F w' hp a3 a2 a4 a1)
end
variable{w w':zW}{I mb G:Nat}{L:List (zV×zV)}
theorem Hw(k:Int)(w:zW)(h:aD w I mb G L)(hl:L.length<=100000):
  zC 72 #[zP I,.int .i64 k] w fun e w'=>e=.returned (.int .i64 ((L.countP (gH k):Nat):Int))/\zB w w':=by
 have c0:=h.f0.1;have hM:sL w mb L:=h.map;have HG:=zH h.good;clear h;generalize hr:L.countP (gH k)=r;have HR:=zH hr;clear hr;go_enter func72,ntmps72
 go_wp2_with (first
  |(at_range;refine nT _ rfl _ 108 rfl 100 129 underlying108 mb L rfl hM ?_;intro w0 a5 a2 aa)
  |go_in)
 go_frame
 have a6:zB w w0:=(ae _ _).grown a2 (ah _) (fun j hj=>by cases hj);clear hM c0 a2;go_loopg [5] L.length (fun gg nv wr=>∃(Y:List (zV×zV))(n:Nat),nv=.int .i64 n/\Y.length<=gg/\n+Y.length<=L.length/\Hid (n+Y.countP (gH k)=r)/\Hid (Mp.cM prog 100 wr mb w.heap.size L Y)/\zB w wr)
 case atStart=>exact⟨L,0,rfl,ah _,by omega,by show _=_;rw[dJ];exact HR.out,a5,a6⟩
 case round=>
  obtain⟨Y,n,rfl,a8,hn,HC,T,hb⟩:=hrel
  go_wp2_with (first
   |(at_next;refine wH _ rfl _ rfl 100 mb w.heap.size L Y HG.out rfl T.out ?_ ?_)
   |go_in)
  ·intro h0
   have HF:Hid ((n:Int)=r):=by
    have h1:=HC.out;rw[h0] at h1;show(n:Int)=r;simp at h1;omega
   clear HC T;go_wp2;go_ret;exact⟨ft HF.out,hb⟩
  ·intro q p v s E w1 hp a4 a3 ab a9
   have a0:zB w w1:=hb.grown a3 hb.size (fun j hj=>by cases hj;exact ah _);have a7:=hp.length_eq;have M:=hp.countP_eq (gH k);rw[List.countP_cons] at M;rw[bW] at a7
   have O:Hid ((if (q==k)=true then n+1 else n)+E.countP (gH k)=r):=by
    have h1:=HC.out;have e1:gH k (plc q p v,txt s)=(q==k):=rfl;rw[e1] at M;show _=r
    split
    ·rename_i e2;rw[aj e2] at M;omega
    ·rename_i e2;rw[ag e2] at M;omega
   clear M HC a3;have F:=zH a4;clear a4
   have RQ:Hid (Mp.cM prog 100 (w1.alloc (.cells #[.int .i64 q,tS p,tS v] 100)) mb w.heap.size L E):=
    F.out.of_block (aH _ _ _ F.out.owns.lt) (aH _ _ _ F.out.lt)
   have a1:zB w (w1.alloc (.cells #[.int .i64 q,tS p,tS v] 100)):=a0.alloc a0.size _;clear F T hp;cases hq:(q==k)
   ·rw[hq] at O
    go_wp2;go_roundg E.length
    case measure=>omega
    case rel=>exact⟨E,n,rfl,ah _,by omega,O.out,RQ,a1⟩
   ·rw[hq] at O
    go_wp2;go_roundg E.length
    case measure=>omega
    case rel=>exact⟨E,n+1,by go_num,ah _,by omega,O.out,RQ,a1⟩
end Ed
end
section
open Go.RowKit
namespace Ed
theorem toList_inj{a b:zA}(h:(a.toList==b.toList)=true):a=b:=by
 have E:=eq_of_beq h;rw[fc,fc] at E;cases a;cases b;simp at E;simp[E]
theorem fx{p v:zA}{x:Tt}:hit p v x=true↔x.path=p/\x.ver=v:=by
 unfold hit;rw[fC]
 constructor
 ·rintro⟨E,F⟩;exact⟨toList_inj E,toList_inj F⟩
 ·rintro⟨rfl,rfl⟩;simp
def ent(k:Int)(t:Tt):zV×zV:=(plc k t.path t.ver,txt t.s)
def dn(root:zA):List (zV×zV):=if root.size=0 then [] else [(plc 2 ⟨#[]⟩ ⟨#[]⟩,txt root)]
def dL(ms ix:List Tt)(root:zA):List (zV×zV):=ms.map (ent 0)++(ix.map (ent 1)++dn root)
inductive fy(L:List (zV×zV))(K:zV)(k:Int)(s:zA)(most:Nat):Int->Nat->List (zV×zV)->Prop
 |same:(K,txt s)∈L->fy L K k s most 0 0 L
 |other (old:zA) (Z:List (zV×zV)):L.Perm ((K,txt old)::Z)->(old.toList==s.toList)=false->fy L K k s most 0 1 ((K,txt s)::Z)
 |many:(∀x∈L,x.1≠K)->most<=L.countP (gH k)->fy L K k s most 4 0 L
 |fresh:(∀x∈L,x.1≠K)->L.countP (gH k)<most->fy L K k s most 0 1 ((K,txt s)::L)
inductive iE(L:List (zV×zV))(K:zV):Nat->List (zV×zV)->Prop
 |none:(∀x∈L,x.1≠K)->iE L K 0 L
 |there (old:zA) (Z:List (zV×zV)):L.Perm ((K,txt old)::Z)->iE L K 1 Z
def Off(k:Int)(A:List (zV×zV)):Prop:=∀x∈A,gH k x=false
variable{k:Int}{A C:List (zV×zV)}
theorem Off.ne(h:Off k A){x:zV×zV}(O:x∈A)(p v:zA):x.1≠plc k p v:=fun e=>by
 have F:=h x O;obtain⟨a,b⟩:=x;have E:a=plc k p v:=e;subst E;have M:(k==k)=false:=F;simp at M
theorem Off.count(h:Off k A):A.countP (gH k)=0:=by
 rw[List.countP_eq_zero];intro x E;rw[h x E]
 decide
theorem Kt(k:Int)(t:Tt):gH k (ent k t)=true:=by
 show(k==k)=true;simp
theorem Hy(k:Int)(l:List Tt):(l.map (ent k)).countP (gH k)=l.length:=by
 rw[List.countP_map];rw[show(gH k ∘ ent k)=fun _=>true from funext fun t=>Kt k t];simp
theorem ic{k q:Int}(E:q≠k)(l:List Tt):Off k (l.map (ent q)):=fun x F=>by
 obtain⟨t,_,rfl⟩:=aO.1 F;show(q==k)=false;simp[E]
theorem iu{k:Int}(F:2≠k)(r:zA):Off k (dn r):=fun x E=>by
 unfold dn at E
 split at E
 ·cases E
 ·rw[bI] at E
  subst E;show((2:Int)==k)=false;simp[F]
theorem Off.append(h:Off k A)(E:Off k C):Off k (A++C):=fun x F=>(bh.1 F).elim (h x) (E x)
theorem Bw(k:Int):Off k []:=fun x E=>by cases E
theorem NF{k:Int}{t:Tt}{p v:zA}(h:(ent k t).1=plc k p v):hit p v t=true:=by
 simp only[ent,Value.agg.injEq,Array.mk.injEq,eL,Value.string.injEq,true_and,fE] at h;exact fx.2 h
theorem Hz(E:Off k A)(F:Off k C)(l:List Tt):(A++(l.map (ent k)++C)).countP (gH k)=l.length:=by
 rw[List.countP_append,List.countP_append,E.count,F.count,Hy];omega
theorem sM(M:Off k A)(O:Off k C){l:List Tt}{p v:zA}(h:l.findIdx? (hit p v)=none):∀x∈A++(l.map (ent k)++C),x.1≠plc k p v:=by
 intro x E;rcases bh.1 E with E|E
 ·exact M.ne E p v
 ·rcases bh.1 E with E|E
  ·obtain⟨t,T,rfl⟩:=aO.1 E
   intro e;have F:=NF e;rw[qT.1 h t T] at F;cases F
  ·exact O.ne E p v
theorem middle(A C M:List (zV×zV))(x:zV×zV)(N:List (zV×zV))(h:M.Perm (x::N)):(A++(M++C)).Perm (x::(A++(N++C))):=by
 have E:(M++C).Perm (x::(N++C)):=h.append_right C;exact(E.append_left A).trans List.perm_middle
theorem uC(k:Int)(l:List Tt)(i:Nat)(h:i<l.length):(l.map (ent k)).Perm (ent k l[i]::(l.eraseIdx i).map (ent k)):=by
 have E:=(Mp.mW l i h).map (ent k);exact E
theorem zZ(hA:Off k A)(hC:Off k C)(l:List Tt)(t:Tt)(most:Nat):
  ∃L',fy (A++(l.map (ent k)++C)) (plc k t.path t.ver) k t.s most (cK l t most).2.1 (cK l t most).2.2 L'/\L'.Perm (A++((cK l t most).1.map (ent k)++C)):=by
 unfold cK;cases hfi:l.findIdx? (hit t.path t.ver) with
 |none=>
  have hn:=sM hA hC hfi;have hc:=Hz hA hC l;by_cases hm:most<=l.length
  ·simp only[aj hm]
   exact⟨_,fy.many hn (by rw[hc];exact hm),jc _⟩
  ·simp only[ag hm]
   refine⟨_,fy.fresh hn (by rw[hc];omega),?_⟩;refine(middle A C _ _ _ ?_).symm;rw[eK];exact uh _ _
 |some i=>
  obtain⟨E,hh,_⟩:=qO.1 hfi;obtain⟨M,O⟩:=fx.1 hh;have a0:l.getD i t=l[i]:=by simp[List.getD,E]
  simp only[a0];cases hq:(l[i].s.toList==t.s.toList)
  ·have hp:=middle A C _ _ _ (uC k l i E)
   have T:ent k l[i]=(plc k t.path t.ver,txt l[i].s):=by rw[ent,M,O]
   rw[T] at hp;simp only[jY,fN];refine⟨_,fy.other _ _ hp hq,?_⟩;have a1:i<(l.modify i (fun x=>{x with s:=t.s})).length:=by simpa using E
   have F:=middle A C _ _ _ (uC k (l.modify i (fun x=>{x with s:=t.s})) i a1);have e4:(l.modify i (fun x=>{x with s:=t.s}))[i]={l[i] with s:=t.s}:=by simp
   have e5:(l.modify i (fun x=>{x with s:=t.s})).eraseIdx i=l.eraseIdx i:=by
    apply mK;intro j;simp only[List.getElem?_eraseIdx,List.getElem?_modify]
    split
    ·rename_i h
     have:i≠j:=by omega
     simp[this]
    ·rename_i h
     have:i≠j+1:=by omega
     simp[this]
   rw[e4,e5] at F
   have e6:ent k {l[i] with s:=t.s}=(plc k t.path t.ver,txt t.s):=by
    show(plc k l[i].path l[i].ver,txt t.s)=_;rw[M,O]
   rw[e6] at F;exact F.symm
  ·have T:ent k l[i]=(plc k t.path t.ver,txt t.s):=by rw[ent,M,O,toList_inj hq]
   simp only[dD];refine⟨_,fy.same ?_,jc _⟩;rw[<-T];exact fD _ (dY _ (aO.2 ⟨_,ez E,rfl⟩))
theorem Aa(hA:Off k A)(hC:Off k C)(l:List Tt)(p v:zA):
  ∃F,iE (A++(l.map (ent k)++C)) (plc k p v) (dE l p v 0).2 F/\F.Perm (A++((dE l p v 0).1.map (ent k)++C)):=by
 unfold dE;rw[aj rfl];cases hfi:l.findIdx? (hit p v) with
 |none=>exact⟨_,iE.none (sM hA hC hfi),jc _⟩
 |some i=>
  obtain⟨E,hh,_⟩:=qO.1 hfi;obtain⟨O,T⟩:=fx.1 hh;have M:=middle A C _ _ _ (uC k l i E);have e3:ent k l[i]=(plc k p v,txt l[i].s):=by rw[ent,O,T]
  rw[e3] at M;exact⟨_,iE.there _ _ M,jc _⟩
theorem jU{r:zA}(h:r.size=0):r=⟨#[]⟩:=by
 cases r with
 |mk d=>
  have:d=#[]:=Array.eq_empty_of_size_eq_zero h;rw[this]
theorem Ku(hA:Off 2 A)(root p:zA)(hp:p.size≠0):
  ∃T,fy (A++dn root) (plc 2 ⟨#[]⟩ ⟨#[]⟩) 2 p 1 0 (if (p.toList==root.toList)=true then (root,0) else (p,1)).2 T/\T.Perm (A++dn (if (p.toList==root.toList)=true then (root,0) else (p,1)).1):=by
 have ep:dn p=[(plc 2 ⟨#[]⟩ ⟨#[]⟩,txt p)]:=ag hp;by_cases O:root.size=0
 ·have F:dn root=[]:=aj O
  have E:(p.toList==root.toList)=false:=by
   cases h:(p.toList==root.toList)
   ·rfl
   ·exact absurd (by rw[toList_inj h];exact O) hp
  rw[F,E];simp only[jY,fN,fM];refine⟨_,fy.fresh (fun x hx=>hA.ne hx _ _) (by rw[hA.count];decide),?_⟩;rw[ep];exact(uh _ _).symm
 ·have F:dn root=[(plc 2 ⟨#[]⟩ ⟨#[]⟩,txt root)]:=ag O
  cases E:(p.toList==root.toList)
  ·simp only[jY,fN]
   have M:(root.toList==p.toList)=false:=by
    cases h:(root.toList==p.toList)
    ·rfl
    ·rw[toList_inj h] at E
     simp at E
   refine⟨_,fy.other root A (by rw[F];exact uh _ _) M,?_⟩;rw[ep];exact(uh _ _).symm
  ·simp only[dD]
   refine⟨_,fy.same ?_,jc _⟩;rw[F,toList_inj E];exact fD _ (bI.2 rfl)
theorem Ia(hA:Off 2 A)(root p:zA)(M:p.size=0):
  ∃T,iE (A++dn root) (plc 2 ⟨#[]⟩ ⟨#[]⟩) (if (p.toList==root.toList)=true then (root,0) else (p,1)).2 T/\T.Perm (A++dn (if (p.toList==root.toList)=true then (root,0) else (p,1)).1):=by
 have ep:dn p=[]:=aj M;by_cases E:root.size=0
 ·have F:dn root=[]:=aj E
  have O:(p.toList==root.toList)=true:=by rw[jU M,jU E];simp
  rw[O];simp only[dD];refine⟨_,iE.none (fun x hx=>?_),jc _⟩;rw[F,fM] at hx;exact hA.ne hx _ _
 ·have F:dn root=[(plc 2 ⟨#[]⟩ ⟨#[]⟩,txt root)]:=ag E
  have O:(p.toList==root.toList)=false:=by
   cases h:(p.toList==root.toList)
   ·rfl
   ·exact absurd (by rw[<-toList_inj h];exact M) E
  rw[O];simp only[jY,fN];refine⟨A,iE.there root A (by rw[F];exact uh _ _),?_⟩;rw[ep,fM]
theorem xD(ms ix:List Tt)(root:zA):(dL ms ix root).length<=ms.length+ix.length+1:=by
 have h:(dn root).length<=1:=by
  unfold dn
  split<;>simp
 simp only[dL,aU,bJ];omega
end Ed
end
section
open Go.RowKit
namespace Ed
variable{w w':zW}{I mb G:Nat}{L:List (zV×zV)}
theorem Good.perm{L E:List (zV×zV)}(h:Good L)(e:L.Perm E):Good E:=fun x F=>h x (e.mem_iff.2 F)
theorem Good.tail{x:zV×zV}{L:List (zV×zV)}(h:Good (x::L)):Good L:=fun y E=>h y (cy _ E)
theorem Good.cons{L:List (zV×zV)}(h:Good L)(k:Int)(p v s:zA):Good ((plc k p v,txt s)::L):=fun y E=>by
 rcases aK.1 E with rfl|E
 ·exact⟨_,_,_,_,rfl⟩
 ·exact h y E
theorem iF{b:Nat}(h:w.mapTurned w' b):ai (fun x=>x=b) w w':=
 have E:=h.grown
 ⟨E.os,E.tape,E.output,E.size,fun i M F=>E.block i M (fun e=>F (by injection e))⟩
theorem aD.stored{s:zA}{most:Nat}{r:Int}{d:Nat}{L':List (zV×zV)}{k:Int}{p v:zA}(h:aD w I mb G L)(hS:fy L (plc k p v) k s most r d L')(hd:d=1)(hl:L.length<=100000)(hk:(Lit.int .i64 k).wf=true)(T:p.size<=maxLen)(hv:v.size<=maxLen):
  ∃w',(Instr.mapUpdate 108 (.map (some mb)) (plc k p v) (txt s)).run prog w=.ok () w'/\aD w' I mb G L'/\ai (fun x=>x=mb) w w':=by
 obtain⟨V,F⟩:=sK k p v hk T hv;cases hS with
 |same _=>cases hd
 |other old Z T a0=>
  obtain⟨w1,E,ht,hm⟩:=h.map.Gg gY underlying108 F T (txt s);have O:=iF ht;have M:=O.block I h.f0.lt h.ne;exact⟨w1,E,⟨h.f0.of_block M,h.f1.of_block M,hm,((h.good.perm T).tail).cons _ _ _ _,h.ne⟩,O⟩
 |many _ _=>cases hd
 |fresh hn _=>
  obtain⟨w1,E,ht,hm⟩:=h.map.Gf gY underlying108 (by unfold maxLen;omega) F hn (txt s);have O:=iF ht;have M:=O.block I h.f0.lt h.ne;exact⟨w1,E,⟨h.f0.of_block M,h.f1.of_block M,hm,h.good.cons _ _ _ _,h.ne⟩,O⟩
theorem aD.bump(h:aD w I mb G L):aD (w.setCell (tD I 1) (.int .i64 ((G:Int)+1))) I mb (G+1) L:=
 ⟨h.f0.set (by decide),⟨iC _ _ _ h.f1.1,by rw[dX];exact h.f1.2⟩,h.map.of_block (aL _ _ _ _ (fun e=>h.ne e.symm)),h.good,h.ne⟩
def fR(W:zW)(b:Nat)(k:Int)(p v:zA):Prop:=Fd W b 0 (.int .i64 k)/\Fd W b 1 (tS p)/\Fd W b 2 (tS v)
theorem fR.of_block{W W':zW}{b:Nat}{k:Int}{p v:zA}(h:fR W b k p v)(e:W'.heap[b]?=W.heap[b]?):fR W' b k p v:=⟨h.1.of_block e,h.2.1.of_block e,h.2.2.of_block e⟩
theorem fR.lt{W:zW}{b:Nat}{k:Int}{p v:zA}(h:fR W b k p v):b<W.heap.size:=h.1.lt
theorem fR.below{W W':zW}{b:Nat}{k:Int}{p v:zA}(h:fR W b k p v)(E:zB W W'):fR W' b k p v:=h.of_block (E.block b h.lt)
theorem fR.new(w:zW)(k:Int)(p v:zA):fR (w.alloc (.cells #[.int .i64 k,tS p,tS v] 100)) w.heap.size k p v:=by
 have E:(w.alloc (.cells #[.int .i64 k,tS p,tS v] 100)).heap[w.heap.size]?=some (.cells #[.int .i64 k,tS p,tS v] 100):=by
  show(w.heap.push _)[w.heap.size]?=_;simp
 refine⟨⟨?_,?_⟩,⟨?_,?_⟩,⟨?_,?_⟩⟩
 ·simp only[World.cell?,E];rfl
 ·simp only[World.frozen?,E];simp
 ·simp only[World.cell?,E];rfl
 ·simp only[World.frozen?,E];simp
 ·simp only[World.cell?,E];rfl
 ·simp only[World.frozen?,E];simp
theorem fR.set1{W:zW}{b:Nat}{k:Int}{p v:zA}(h:fR W b k p v):fR (W.setCell (tD b 1) (tS p)) b k p v:=
 ⟨h.1.set (by decide),⟨iC _ _ _ h.2.1.1,by rw[dX];exact h.2.1.2⟩,h.2.2.set (by decide)⟩
theorem fR.set2{W:zW}{b:Nat}{k:Int}{p v:zA}(h:fR W b k p v):fR (W.setCell (tD b 2) (tS v)) b k p v:=
 ⟨h.1.set (by decide),h.2.1.set (by decide),⟨iC _ _ _ h.2.2.1,by rw[dX];exact h.2.2.2⟩⟩
theorem Bz(k:Int)(p v s:zA)(most:Nat)(r:Int)(d:Nat)(L':List (zV×zV))(w:zW)(h:aD w I mb G L)(hl:L.length<=100000)(hk:(Lit.int .i64 k).wf=true)(hp:p.size<=281474976710656)(hv:v.size<=281474976710656)(hs:s.size<=281474976710656)(hr:G<4611686018427387904)
  (hS:fy L (plc k p v) k s most r d L'):
  zC 57 #[zP I,plc k p v,tS s,.int .i64 most] w fun e w'=>e=.returned (.int .i64 r)/\aD w' I mb (G+d) L'/\ai (fun b=>b=I\/b=mb) w w':=by
 obtain⟨V,ab⟩:=sK k p v hk (by unfold maxLen;omega) (by unfold maxLen;omega)
 obtain⟨old,th,qC,b7⟩:∃(old:zA)(th:Bool),(∀W,sL W mb L->(Instr.lookup 108 (.map (some mb)) (plc k p v) false).run prog W=.ok (.agg #[tS old,.bool th]) W)/\Hid (if th=true then (plc k p v,txt old)∈L else ∀x∈L,x.1≠plc k p v):=by
  rcases h.map.look false gY underlying108 (mY w) ab with⟨_,hn⟩|⟨u,hu,_⟩
  ·exact⟨⟨#[]⟩,false,fun W hW=>hW.look_none false gY underlying108 (mY W) ab hn,hn⟩
  ·obtain⟨q,p',v',s',e⟩:=h.good _ hu
   injection e with e1 e2;subst e2;exact⟨s',true,fun W hW=>hW.look_some false gY underlying108 (mY W) ab hu,hu⟩
 have HS:=zH h;clear h;have aq:=zH hS;clear hS ab;go_enter func57,ntmps57;go_upto_region 1 with fail;have b8:Hid (zB w (w.alloc (.cells #[.int .i64 k,tS p,tS v] 100))):=(ae _ _).alloc (ah _) _;have b6:Hid (fR (w.alloc (.cells #[.int .i64 k,tS p,tS v] 100)) w.heap.size k p v):=fR.new w k p v;have a6:=zH (HS.out.below b8.out);have bp:Hid (w.heap.size<(w.alloc (.cells #[.int .i64 k,tS p,tS v] 100)).heap.size/\I≠w.heap.size):=⟨by simp,by have:=HS.out.f0.lt;omega⟩;generalize w.alloc (.cells #[.int .i64 k,tS p,tS v] 100)=W1 at*;generalize bk:w.heap.size=E at*;obtain⟨⟨x0,_⟩,⟨x1,_⟩,⟨x2,_⟩⟩:=b6.out;have c0:=a6.out.f0.1;have l1:=qC W1 a6.out.map;have l2:=qC W1.drew a6.out.map;have l3:=qC (W1.alloc (.cells #[zE,.bool false] 129)).drew ((a6.out.below ((ae _ _).alloc (ah _) _)).map);clear qC;obtain⟨⟨y0,_⟩,⟨y1,_⟩,⟨y2,_⟩⟩:=b6.out.below ((ae _ _).alloc (ah _) (.cells #[zE,.bool false] 129));have d0:(W1.alloc (.cells #[zE,.bool false] 129)).cell? (tD I 0)=some (.map (some mb)):=(a6.out.below ((ae _ _).alloc (ah _) _)).f0.1
 go_region
 all_goals
  have ad:Hid (zB w (W1.alloc (.cells #[tS old,.bool th] 129)).drew):=by
   show zB w _;have h:=b8.out;try rw[<-bk] at h
   exact(h.alloc h.size _).drew
  have bc:zB W1 (W1.alloc (.cells #[tS old,.bool th] 129)).drew:=((ae _ _).alloc (ah _) _).drew;have a3:=zH (a6.out.below bc);have b1:=zH (b6.out.below bc)
  have b5:Hid (∀W,Below (W1.alloc (.cells #[tS old,.bool th] 129)).drew.heap.size (W1.alloc (.cells #[tS old,.bool th] 129)).drew W->W.cell? (tD W1.heap.size 0)=some (tS old)/\W.cell? (tD W1.heap.size 1)=some (.bool th)):=fun W hb=>by
   have bf:W1.heap.size<(W1.alloc (.cells #[tS old,.bool th] 129)).drew.heap.size:=by show W1.heap.size<(W1.heap.push _).size;simp
   exact⟨(hb.cell (p:=(tD W1.heap.size 0)) bf).trans (by show(W1.alloc _).cell? _=_;simp),(hb.cell (p:=(tD W1.heap.size 1)) bf).trans (by show(W1.alloc _).cell? _=_;simp)⟩
  clear bc l1 l2 l3 x0 x1 x2 y0 y1 y2 c0 d0 b6 b8 a6;generalize (W1.alloc (.cells #[tS old,.bool th] 129)).drew=W2 at*;generalize W1.heap.size=ob at*;obtain⟨⟨x0,_⟩,⟨x1,_⟩,⟨x2,_⟩⟩:=b1.out;obtain⟨o0,o1⟩:=b5.out W2 (ae _ _);have kc:=Hw k W2 a3.out hl;generalize bi:L.countP (gH k)=cn at kc;have bd:=zH bi;clear bi;cases th
  ·have hn:∀x∈L,x.1≠plc k p v:=by have h:=b7.out;simpa using h
   go_wp2_with (go_at_call 72;fail)
   go_at_call 72;refine kc.mono ?_;rintro e w3 ⟨rfl,b2⟩;have ak:=zH (ad.out.trans (b2.mono ad.out.size));have an:=zH (a3.out.below b2);have a8:=zH (b1.out.below b2);obtain⟨p0,p1⟩:=b5.out w3 b2;clear kc x0 x1 x2 o0 o1 b1 b5 a3 ad b2;by_cases bm:most<=cn
   ·have TQ:(cn:Int)>=(most:Int):=by omega
    have HF:Hid (r=4/\d=0/\L'=L):=by
     have h:=aq.out;cases h with
     |same hi=>exact absurd rfl (hn _ hi)
     |other Qa Z hp a0=>exact absurd rfl (hn _ (hp.mem_iff.2 (bE ..)))
     |many _ _=>exact⟨rfl,rfl,rfl⟩
     |fresh _ hc=>rw[bd.out] at hc;omega
    have e:=HF.out;obtain⟨rfl,rfl,rfl⟩:=e;go_wp2;go_ret;exact⟨rfl,an.out,ai.of_below ak.out⟩
   ·have TQ:¬((cn:Int)>=(most:Int)):=by omega
    have HF:Hid (r=0/\d=1):=by
     have h:=aq.out;cases h with
     |same hi=>exact absurd rfl (hn _ hi)
     |other Qa Z hp a0=>exact absurd rfl (hn _ (hp.mem_iff.2 (bE ..)))
     |many _ hc=>rw[bd.out] at hc;exact absurd hc bm
     |fresh _ _=>exact⟨rfl,rfl⟩
    have e:=HF.out;obtain⟨rfl,rfl⟩:=e;go_upto_region 6 with fail;have K3:(w3.cell? (tD E 1)=some (tS p)/\w3.frozen? (tD E 1)=false)/\(w3.cell? (tD E 2)=some (tS v)/\w3.frozen? (tD E 2)=false):=a8.out.2
    go_region_held3 (fun w'=>(w'.cell? (tD E 1)=some (tS p)/\w'.frozen? (tD E 1)=false)/\(w'.cell? (tD E 2)=some (tS v)/\w'.frozen? (tD E 2)=false))
     (first|exact K3|exact KA.out.2|exact KB.out.2|exact KC.out.2|exact KD.out.2)
     (first
      |(go_at_call 73;(with_reducible show Calls _ _ #[Value.string p] _ _);refine(il p _ hp).mono ?_;rintro e wA ⟨rfl,a9⟩;have KA:=zH (a8.out.below ((ae w3.heap.size w3).drew.trans a9));have a4:=zH ((ae w3.heap.size w3).drew.trans a9);clear a9)
      |(go_at_call 73;refine(il v _ hv).mono ?_;rintro e T ⟨rfl,aa⟩;have KB:=zH (KA.out.below aa);have a5:=zH (a4.out.trans (aa.mono a4.out.size));have KC:=zH KB.out.set1;have KD:=zH KC.out.set2;clear aa))
    all_goals
     have bn:I<E/\mb<E:=by have h1:=HS.out.f0.lt;have h2:=HS.out.map.lt;omega
     have az:Hid (ai (fun b=>b=I\/b=mb) w ((T.setCell (tD E 1) (tS p)).setCell (tD E 2) (tS v))):=by
      have h1:ai (fun b=>b=I\/b=mb) w T:=(ai.of_below ak.out).more a5.out;exact(h1.set (a:=(tD E 1)) (fun h=>by have h2:E<w.heap.size:=h;omega) _).set (a:=(tD E 2)) (fun h=>by have h2:E<w.heap.size:=h;omega) _
     have a7:Hid (aD ((T.setCell (tD E 1) (tS p)).setCell (tD E 2) (tS v)) I mb G L):=by
      have e1:∀b,b≠E->((T.setCell (tD E 1) (tS p)).setCell (tD E 2) (tS v)).heap[b]?=T.heap[b]?:=fun b a0=>by
       rw[aL _ _ _ _ a0,aL _ _ _ _ a0]
      exact(an.out.below a5.out).of_block (e1 I (by omega)) (e1 mb (by omega))
     have F:=zH KD;clear KA KB KC KD a4 a5 an a8 ak K3;generalize (T.setCell (tD E 1) (tS p)).setCell (tD E 2) (tS v)=W5 at*;go_upto_region 7 with fail;have K5:W5.cell? (tD I 0)=some (.map (some mb))/\W5.cell? (tD E 0)=some (.int .i64 k)/\W5.cell? (tD E 1)=some (tS p)/\W5.cell? (tD E 2)=some (tS v):=⟨a7.out.f0.1,F.out.1.1,F.out.2.1.1,F.out.2.2.1⟩
     have b4:∀W,zB W5 W->∃w7,(Instr.mapUpdate 108 (.map (some mb)) (plc k p v) (txt s)).run prog W=.ok () w7/\Hid (aD w7 I mb G L')/\Hid (ai (fun b=>b=I\/b=mb) w w7)/\Hid (fR w7 E k p v)/\Hid (aD W I mb G L)/\Hid (fR W E k p v):=fun W hb=>by
      have h1:=a7.out.below hb;obtain⟨w7,O,h2,h3⟩:=h1.stored aq.out rfl hl hk (by unfold maxLen;omega) (by unfold maxLen;omega);refine⟨w7,O,h2,(az.out.more hb).trans h3 (fun _ _ e=>e) (fun _ _ e=>oS e),(F.out.below hb).of_block (h3.block E (bP F.out.lt hb.size) (by omega)),h1,F.out.below hb⟩
     clear a7 F az
     go_region_held3 (fun w'=>w'.cell? (tD I 0)=some (.map (some mb))/\w'.cell? (tD E 0)=some (.int .i64 k)/\w'.cell? (tD E 1)=some (tS p)/\w'.cell? (tD E 2)=some (tS v))
      (first|exact K5|exact⟨av.out.f0.1,a1.out.1.1,a1.out.2.1.1,a1.out.2.2.1⟩|exact⟨M.out.f0.1,a2.out.1.1,a2.out.2.1.1,a2.out.2.2.1⟩)
      (first|(go_at_call 73;refine(il s _ hs).mono ?_;rintro e w6 ⟨rfl,b3⟩;obtain⟨w7,O,M,b0,a2,av,a1⟩:=b4 w6 ((ae W5.heap.size W5).drew.trans b3);clear b3))
     all_goals
      clear O b4 K5 a2 av a1;have g1:=M.out.f1.1;have g2:=M.out.f1.2;have e2:IntKind.i64.wrap ((G:Int)+1)=(G:Int)+1:=by simp[IntKind.wrap,IntKind.bits,IntKind.signed];omega
      have b9:=zH M.out.bump;have bb:Hid (ai (fun b=>b=I\/b=mb) w (w7.setCell (tD I 1) (.int .i64 ((G:Int)+1)))):=b0.out.set (a:=(tD I 1)) (fun _=>oE rfl) _;clear M b0;go_wp2;go_ret;exact⟨rfl,b9.out,bb.out⟩
  ·have au:(plc k p v,txt old)∈L:=by have h:=b7.out;simpa using h
   cases hq:(old.toList==s.toList)
   ·have HF:Hid (r=0/\d=1):=by
     have h:=aq.out;cases h with
     |same hi=>
      have e:=Mp.uniq a3.out.map.apart au hi;injection e with e;simp only[Array.mk.injEq,eL,Value.string.injEq,fE] at e;rw[e] at hq;simp at hq
     |other Qa Z hp a0=>exact⟨rfl,rfl⟩
     |many hn _=>exact absurd rfl (hn _ au)
     |fresh hn _=>exact absurd rfl (hn _ au)
    have e:=HF.out;obtain⟨rfl,rfl⟩:=e;have ak:=zH ad;have an:=zH a3;have a8:=zH b1;clear kc ad a3 b1 b5;go_upto_region 6 with fail;have K3:(W2.cell? (tD E 1)=some (tS p)/\W2.frozen? (tD E 1)=false)/\(W2.cell? (tD E 2)=some (tS v)/\W2.frozen? (tD E 2)=false):=a8.out.2
    go_region_held3 (fun w'=>(w'.cell? (tD E 1)=some (tS p)/\w'.frozen? (tD E 1)=false)/\(w'.cell? (tD E 2)=some (tS v)/\w'.frozen? (tD E 2)=false))
     (first|exact K3|exact KA.out.2|exact KB.out.2|exact KC.out.2|exact KD.out.2)
     (first
      |(go_at_call 73;(with_reducible show Calls _ _ #[Value.string p] _ _);refine(il p _ hp).mono ?_;rintro e wA ⟨rfl,a9⟩;have KA:=zH (a8.out.below ((ae W2.heap.size W2).drew.trans a9));have a4:=zH ((ae W2.heap.size W2).drew.trans a9);clear a9)
      |(go_at_call 73;refine(il v _ hv).mono ?_;rintro e T ⟨rfl,aa⟩;have KB:=zH (KA.out.below aa);have a5:=zH (a4.out.trans (aa.mono a4.out.size));have KC:=zH KB.out.set1;have KD:=zH KC.out.set2;clear aa))
    all_goals
     have bn:I<E/\mb<E:=by have h1:=HS.out.f0.lt;have h2:=HS.out.map.lt;omega
     have az:Hid (ai (fun b=>b=I\/b=mb) w ((T.setCell (tD E 1) (tS p)).setCell (tD E 2) (tS v))):=by
      have h1:ai (fun b=>b=I\/b=mb) w T:=(ai.of_below ak.out).more a5.out;exact(h1.set (a:=(tD E 1)) (fun h=>by have h2:E<w.heap.size:=h;omega) _).set (a:=(tD E 2)) (fun h=>by have h2:E<w.heap.size:=h;omega) _
     have a7:Hid (aD ((T.setCell (tD E 1) (tS p)).setCell (tD E 2) (tS v)) I mb G L):=by
      have e1:∀b,b≠E->((T.setCell (tD E 1) (tS p)).setCell (tD E 2) (tS v)).heap[b]?=T.heap[b]?:=fun b a0=>by
       rw[aL _ _ _ _ a0,aL _ _ _ _ a0]
      exact(an.out.below a5.out).of_block (e1 I (by omega)) (e1 mb (by omega))
     have F:=zH KD;clear KA KB KC KD a4 a5 an a8 ak K3;generalize (T.setCell (tD E 1) (tS p)).setCell (tD E 2) (tS v)=W5 at*;go_upto_region 7 with fail;have K5:W5.cell? (tD I 0)=some (.map (some mb))/\W5.cell? (tD E 0)=some (.int .i64 k)/\W5.cell? (tD E 1)=some (tS p)/\W5.cell? (tD E 2)=some (tS v):=⟨a7.out.f0.1,F.out.1.1,F.out.2.1.1,F.out.2.2.1⟩
     have b4:∀W,zB W5 W->∃w7,(Instr.mapUpdate 108 (.map (some mb)) (plc k p v) (txt s)).run prog W=.ok () w7/\Hid (aD w7 I mb G L')/\Hid (ai (fun b=>b=I\/b=mb) w w7)/\Hid (fR w7 E k p v)/\Hid (aD W I mb G L)/\Hid (fR W E k p v):=fun W hb=>by
      have h1:=a7.out.below hb;obtain⟨w7,O,h2,h3⟩:=h1.stored aq.out rfl hl hk (by unfold maxLen;omega) (by unfold maxLen;omega);refine⟨w7,O,h2,(az.out.more hb).trans h3 (fun _ _ e=>e) (fun _ _ e=>oS e),(F.out.below hb).of_block (h3.block E (bP F.out.lt hb.size) (by omega)),h1,F.out.below hb⟩
     clear a7 F az
     go_region_held3 (fun w'=>w'.cell? (tD I 0)=some (.map (some mb))/\w'.cell? (tD E 0)=some (.int .i64 k)/\w'.cell? (tD E 1)=some (tS p)/\w'.cell? (tD E 2)=some (tS v))
      (first|exact K5|exact⟨av.out.f0.1,a1.out.1.1,a1.out.2.1.1,a1.out.2.2.1⟩|exact⟨M.out.f0.1,a2.out.1.1,a2.out.2.1.1,a2.out.2.2.1⟩)
      (first|(go_at_call 73;refine(il s _ hs).mono ?_;rintro e w6 ⟨rfl,b3⟩;obtain⟨w7,O,M,b0,a2,av,a1⟩:=b4 w6 ((ae W5.heap.size W5).drew.trans b3);clear b3))
     all_goals
      clear O b4 K5 a2 av a1;have g1:=M.out.f1.1;have g2:=M.out.f1.2;have e2:IntKind.i64.wrap ((G:Int)+1)=(G:Int)+1:=by simp[IntKind.wrap,IntKind.bits,IntKind.signed];omega
      have b9:=zH M.out.bump;have bb:Hid (ai (fun b=>b=I\/b=mb) w (w7.setCell (tD I 1) (.int .i64 ((G:Int)+1)))):=b0.out.set (a:=(tD I 1)) (fun _=>oE rfl) _;clear M b0;go_wp2;go_ret;exact⟨rfl,b9.out,bb.out⟩
   ·have HF:Hid (r=0/\d=0/\L'=L):=by
     have h:=aq.out;cases h with
     |same _=>exact⟨rfl,rfl,rfl⟩
     |other Qa Z hp a0=>
      have e:=Mp.uniq a3.out.map.apart au (hp.mem_iff.2 (bE ..));injection e with e;simp only[Array.mk.injEq,eL,Value.string.injEq,fE] at e;rw[e,a0] at hq;cases hq
     |many hn _=>exact absurd rfl (hn _ au)
     |fresh hn _=>exact absurd rfl (hn _ au)
    have e:=HF.out;obtain⟨rfl,rfl,rfl⟩:=e;clear kc;go_wp2;go_ret;exact⟨rfl,a3.out,ai.of_below ad.out⟩
