import Derived.Below
import Derived.Deep.LoopGhost
import Derived.Deep.RegionHeld
set_option linter.all false
namespace Go.Proofs.YtgamgopghfpegaaGreatDoor
set_option linter.defProp false
def ai:=@Nat.le_refl
def au:=@if_neg
def dE:=@List.getElem?_eq_getElem
def iE:=@congrArg
def bj:=@List.length_append
def ay:=@if_pos
def bU:=@Nat.lt_of_lt_of_le
def dM:=@List.length_map
def dh:=@List.getElem?_eq_some_iff
def dF:=@List.length_cons
def aN:=@Nat.zero_le
def aP:=@Nat.le_trans
def fW:=@List.mem_singleton
def bS:=@List.mem_cons_self
def bN:=@List.drop_eq_getElem_cons
def bI:=@List.mem_cons
def bT:=@List.mem_append
def br:=@decide_eq_false
def eJ:=@List.mem_cons_of_mem
def eA:=@List.map_cons
def dC:=@List.mem_map
def cB:=@getElem!_pos
def dH:=@List.getElem_mem
def dD:=@Nat.mul_le_mul_right
def dI:=@List.not_mem_nil
def jr:=@Option.some.inj
def iT:=@List.length_singleton
def bu:=@decide_eq_true
def bW:=@Nat.le_succ
def fB:=@Nat.not_lt_zero
def lA:=@List.mem_append_left
def gX:=@List.append_assoc
def lB:=@List.pairwise_iff_getElem
def eY:=@List.map_append
def eL:=@Bool.and_eq_true
def fY:=@List.cons.injEq
def eM:=@List.pairwise_cons
def eB:=@List.length_pos_iff
def dQ:=@Nat.zero_add
def iU:=@List.reverse_reverse
def qE:=@List.getElem?_eq_none
def dJ:=@Bool.eq_iff_iff
def bX:=@beq_eq_false_iff_ne
def lC:=@List.take_succ_eq_append_getElem
def eO:=@List.mem_reverse
def ju:=@List.all_eq_true
def fZ:=@of_decide_eq_true
def od:=@List.flatMap_cons
def wJ:=@List.filter_cons_of_pos
def lD:=@List.eq_nil_of_length_eq_zero
def wK:=@List.mem_of_getElem?
def iV:=@Bool.false_eq_true
def oh:=@List.takeWhile_append_dropWhile
def mG:=@List.map_nil
def eP:=@List.append_nil
def fP:=@List.mem_range
def wL:=@Array.getElem?_eq_some_iff
def jN:=@List.getElem?_map
def Br:=@Array.getElem?_eq_getElem
def gY:=@List.drop_of_length_le
def mH:=@List.length_nil
def gH:=@Nat.lt_succ_self
def dR:=@Nat.add_mul
def jv:=@List.reverse_cons
def Fw:=@List.filter_cons_of_neg
def jw:=@List.pairwise_append
def tQ:=@List.singleton_append
def Fx:=@List.mem_append_right
def Bt:=@Array.getElem?_modify
def qF:=@Prod.mk.injEq
def jy:=@List.length_take
def Bu:=@List.cons_append
def fC:=@if_true
def qG:=@List.findIdx?_eq_some_iff_getElem
def qH:=@List.ext_getElem?
def cV:=@List.take_of_length_le
def Bv:=@List.perm_append_singleton
def oq:=@List.getElem_of_mem
def wN:=@Array.length_toList
def jO:=@List.foldl_cons
def wO:=@List.getElem?_append_left
def mI:=@Classical.byContradiction
def tT:=@Array.getElem?_toList
def qI:=@Array.extract_size
def dS:=@if_false
def ot:=@decide_eq_true_eq
def mJ:=@Nat.lt_succ_of_le
def mK:=@decide_eq_false_iff_not
def iF:=@and_true
def Bw:=@List.flatMap_append
def iW:=@List.all_cons
def Bz:=@List.take_length
def qJ:=@List.getElem_map
def lF:=@of_decide_eq_false
def BA:=@List.getElem?_eq_none_iff
def jP:=@List.nil_append
def ou:=@List.map_map
def jQ:=@Option.some.injEq
def qK:=@List.foldl_append
def tV:=@ByteArray.ext
def rF:=@List.reverse_append
def pF:=@Array.getElem?_push
def jb:=@List.Perm.refl
def pG:=@Array.toList_inj
def jd:=@of_eq_false
def eE:=@Nat.one_mul
def rG:=@List.drop_eq_nil_of_le
def rH:=@List.pairwise_map
abbrev zA:=ByteArray
end Go.Proofs.YtgamgopghfpegaaGreatDoor
namespace Go.Proofs.YtgamgopghfpegaaGreatDoor
theorem ae{p:Prop}(h:p:=by omega):p:=h
theorem aB{p:Prop}(h:p:=by kernel_rfl):p:=h
theorem aA{p:Prop}(h:p:=by decide):p:=h
theorem ah{p:Prop}(h:p:=by simp):p:=h
theorem ax{p:Prop}(h:p:=by grind):p:=h
theorem aJ{p:Prop}(h:p:=by simp;omega):p:=h
theorem iQ{p:Prop}(h:p:=by assumption):p:=h
instance:CoeOut World Nat:=⟨fun w=>w.heap.size⟩
instance {α:Type}:CoeOut (List α) Nat:=⟨List.length⟩
instance:Coe Int Value:=⟨fun n=>.int .i64 n⟩
instance:Coe Nat Value:=⟨fun n=>.int .i64 (n:Int)⟩
instance:Coe ByteArray Value:=⟨fun n=>.string n⟩
instance:Coe Bool Value:=⟨fun n=>.bool n⟩
instance (b k:Nat):CoeDep (Nat×Nat) (b,k) Addr:=⟨⟨b,k,none⟩⟩
instance (w:World) (k:Nat):CoeDep (World×Nat) (w,k) Addr:=⟨⟨w.heap.size,k,none⟩⟩
instance:Coe Value Ending:=⟨.returned⟩
instance:CoeOut ByteArray (List UInt8):=⟨fun n=>n.data.toList⟩
theorem _root_.Go.RowKit.Hid.o{p:Prop}(h:RowKit.Hid p):p:=h
theorem _root_.Go.Aside.o{p:Prop}(h:Aside p):p:=h
theorem _root_.Go.Shut.o{p:Prop}(h:Shut p):p:=h
