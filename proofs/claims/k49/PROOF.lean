import PyProof.Rows.All
import Wide.All
import OpenK.AllK
import Wide.FinOn
import Lean
import PyProof.EqAt
import PyProof.EqKinds
import PyProof.TupleCall
import PyProof.NeKinds
import PyProof.ListRange
import PyProof.MaxThree
import PyProof.DictWalks
import PyProof.Rows.SortWalk
import PyProof.Rows.TopTwo
import PyProof.RangeIter
import PyProof.ExcArgsOwn
import PyProof.ExcBaseAll.ValueError
import PyProof.ExcAttrAll.ValueError
import KE.KIsAll
import OpenK.KOwn
import PyProof.StrBlock
import PyProof.DictItems
import PyProof.DictItemsLoops
import PyProof.DictValues
import KE.KRevSl
import KE.KxWritten
import KE.KIntText
import KE.KWords
import PyProof.Rows.StrStrike
import PyProof.Rows.RegReprOcc
import PyProof.MeetsStr2
import PyProof.Rows.StrSplitAre
import PyProof.AttrMissHeap
import KE.KSortTup
import PyProof.ExcInit
import PyProof.ExcClass3
import OpenK.KMake
import PySem.Challenge.RW_hissroom_k49_refusals_apart
set_option autoImplicit true
set_option maxHeartbeats 40000000
set_option Elab.async false
set_option linter.all false
set_option maxRecDepth 100000
set_option genSizeOf false
set_option maxHeartbeats 4000000
theorem vk {α:Type _}{l:List α}{i:Nat}(h:i<l.length):l[i]?=some l[i]:=List.getElem?_eq_getElem h
theorem mW {α:Type _}{l:List α}{i:Nat}{a:α}(h:l[i]?=some a):∃ h:i<l.length,l[i]=a:=List.getElem?_eq_some_iff.mp h
theorem jf {α β:Type _}{as:List α}(f:α->β):(as.map f).length=as.length:=List.length_map f
theorem ET {α:Type _}{l:List α}{i:Nat}{a:α}(e:l[i]?=some a):a∈l:=List.mem_of_getElem? e
theorem mJ {α:Type _}{as bs:List α}:(as++bs).length=as.length+bs.length:=List.length_append
theorem tE {α:Type _}{l₁ l₂:List α}{i:Nat}(h:i<l₁.length):(l₁++l₂)[i]?=l₁[i]?:=List.getElem?_append_left h
theorem ou {α:Type _}{l₁ l₂:List α}{i:Nat}(h:l₁.length<=i):(l₁++l₂)[i]?=l₂[i - l₁.length]?:=List.getElem?_append_right h
theorem o6 {α:Type _}{a:α}(b:α){l:List α}(h:a∈l):a∈b::l:=List.mem_cons_of_mem b h
theorem MP {n:Nat}:(List.range n).length=n:=List.length_range
theorem VT (n:Nat):(n:Int).toNat=n:=Int.toNat_natCast n
theorem kJ {h:PySem.Heap}{a:PySem.Addr}{u:PySem.Obj}(v:PySem.Obj)(e:h.get? a=some u):(h.push v).get? a=some u:=PySem.Heap.get?_push_of_some v e
theorem fb {α β:Type}{M:PySem.Model}{A:PySem.Around}{E:PySem.Value->PySem.Shared->Prop}{s:PySem.Shared}{m:PySem.Sem α}{f:α->PySem.Sem β}{Q:β->PySem.Shared->Prop}(h:PySem.wpAny M A m (λa s=>PySem.wpAny M A (f a) Q E s) E s):PySem.wpAny M A (m>>=f) Q E s:=PySem.wpAny_bind h
theorem kG {h:PySem.Heap}{a:PySem.Addr}{o:PySem.Obj}(e:h.get? a=some o):a<h.objs.size:=PySem.Heap.lt_size e
theorem wd {α β:Type _}{f:α->β}{l:List α}{i:Nat}:(l.map f)[i]?=(l[i]?).map f:=List.getElem?_map ..
abbrev aa:=PySem.W.Frag
abbrev ae:=PySem.Program
abbrev af:=PySem.World
abbrev ah:=PySem.FuncData
abbrev ai:=PySem.Shared
abbrev aj:=PySem.Addr
abbrev ak:=PySem.Value
abbrev ao:=List.{0}
abbrev aq:=Option.{0}
abbrev ar:=@PySem.F.excBase_ValueError
abbrev au:=@Nat.le_refl
abbrev av:=@PySem.wpAny_pure
abbrev aw:=@decide_eq_false
abbrev az:=@if_neg
abbrev aA:=@List.getElem?_set_ne
abbrev aB:=@List.size_toArray
abbrev aC:=@PySem.Heap.get?_push_size
abbrev aD:=@if_pos
abbrev aF:=@Nat.ne_of_lt
abbrev aG:=@Nat.le_trans
abbrev aH:=@decide_eq_true
abbrev aI:=@List.mem_cons_self
abbrev aJ:=@List.getElem?_set_self
abbrev aK:=@List.map_cons
abbrev aL:=@Nat.lt_of_lt_of_le
abbrev aM:=@Bool.false_ne_true
abbrev aO:=@Nat.sub_self
abbrev aP:=@PyProof.Rows.boot_isinstance
abbrev aQ:=@List.mem_append_right
abbrev aR:=@List.length_set
abbrev aS:=@List.map_append
abbrev aT:=@List.length_cons
abbrev aU:=@List.length_singleton
abbrev aV:=@List.take_left
abbrev aW:=@Option.some.inj
abbrev aX:=@PySem.wpAny_field
abbrev aY:=@Nat.le_add_right
abbrev aZ:=@PySem.Heap.get?_update_other
abbrev a6:=@List.mem_of_mem_take
abbrev a8:=@List.map_map
abbrev a9:=@List.append_assoc
abbrev ba:=@List.length_take
abbrev bc:=@List.length_replicate
abbrev bf:=@PySem.wpAny_mono
abbrev bg:=@List.append_nil
abbrev bh:=@Nat.ne_of_gt
abbrev bj:=@PyProof.Rows.callWith_type1
abbrev bo:=@PySem.wpAny_holding
abbrev bp:=@Nat.zero_le
abbrev bq:=@PySem.Heap.size_push
abbrev br:=@List.flatMap_cons
abbrev bt:=@PySem.Heap.get?_update_self
abbrev bu:=@PySem.wpAny_Call_Name_kw
abbrev bw:=@PySem.wpAny_newObj_type
abbrev bx:=@PySem.F.plainAttrs_list
abbrev bz:=@Ne.symm
abbrev bA:=@PySem.W.mg_none_of
abbrev bB:=@Nat.lt_succ_of_lt
abbrev bC:=@List.getElem?_take_of_lt
abbrev bD:=@List.find?_cons
abbrev bE:=@List.not_mem_nil
abbrev bF:=@List.getD_eq_getElem?_getD
abbrev bG:=@congrArg
abbrev bH:=@List.take_of_length_le
abbrev bI:=@PySem.wpAny_seqItems
abbrev bJ:=@Nat.lt_irrefl
abbrev bL:=@PySem.wpAny_truthy_bool
abbrev bM:=@Nat.add_sub_cancel_left
abbrev bN:=@List.filter_cons
abbrev bO:=@PySem.Calls.callWith_builtin
abbrev bP:=@List.nodup_append
abbrev bQ:=@List.mem_cons
abbrev bR:=@Nat.lt_of_le_of_lt
abbrev bS:=@PySem.wpAny_callSpecial?_slot
abbrev bT:=@List.mem_append_left
abbrev bU:=@Int.eq_ofNat_of_zero_le
abbrev bV:=@List.any_cons
abbrev bW:=@PyProof.Rows.boot_list
abbrev bX:=@Nat.le_succ_of_le
abbrev bY:=@List.forIn_cons
abbrev bZ:=@PySem.W.mg_of
abbrev b7:=@List.set_append_right
abbrev b8:=@PySem.wpAny_setField_rec
abbrev b9:=@Nat.lt_succ_self
abbrev cb:=@List.length_drop
abbrev cc:=@PySem.Calls.spliced_cons
abbrev cf:=@PySem.F.type_list_append
abbrev cj:=@PySem.F.slot_list_append
abbrev ck:=@PySem.wpAny_loadPart_at
abbrev cm:=@PyProof.Rows.boot_tuple
abbrev cn:=@List.idxOf_cons
abbrev cp:=@List.map_congr_left
abbrev cq:=@List.length_reverse
abbrev cu:=@Array.length_toList
abbrev cw:=@PySem.wpAny_call_entry
abbrev cx:=@List.all_eq_true
abbrev cy:=@PySem.F.slot_tuple_iterator_next
abbrev cz:=@Bool.false_eq_true
abbrev cA:=@List.drop_eq_getElem_cons
abbrev cC:=@PySem.wpAny_passesOwn
abbrev cD:=@PySem.Calls.spliced_nil
abbrev cE:=@PySem.Calls.evalArgs_plain
abbrev cF:=@PySem.wpAny_comprehension_free
abbrev cG:=@List.length_filterMap_le
abbrev cI:=@PySem.plainObj_wpAny_Assign_Attribute
abbrev cJ:=@PySem.mem_of_lookup
abbrev cK:=@List.getElem_of_mem
abbrev cL:=@List.getElem?_range
abbrev cM:=@List.filterMap_cons
abbrev cO:=@PySem.wpAny_Call_method0_late
abbrev cP:=@PySem.W.kia_one
abbrev cQ:=@Bool.and_eq_true
abbrev cU:=@PySem.F.plainAttrs_str
abbrev cV:=@PyProof.Rows.boot_bool
abbrev cW:=@List.contains_cons
abbrev cX:=@beq_false_of_ne
abbrev cY:=@Nat.min_eq_left
abbrev cZ:=@Bool.eq_iff_iff
abbrev c4:=@PySem.wpAny_standAt
abbrev c6:=@PySem.PassesOwn.leaving
abbrev c7:=@List.reverse_cons
abbrev c8:=@PySem.wpAny_setField
abbrev c9:=@or_false
abbrev dc:=@PySem.codeAny_call_builtin
abbrev de:=@PySem.W.looks_findIn
abbrev df:=@List.set_append_left
abbrev dg:=@PySem.wpAny_execs_cons
abbrev dh:=@beq_self_eq_true
abbrev di:=@List.lookup_cons
abbrev dj:=@PySem.wpAny_isSubtype_exc
abbrev dk:=@PySem.evalArgs_none
abbrev dm:=@PySem.F.plain_extend_loop
abbrev dn:=@PySem.wpAny_updateSeq
abbrev dq:=@PySem.wpAny_execs_nil
abbrev dt:=@PySem.pushCells_keeps
abbrev dw:=@List.count_cons
abbrev dz:=@PySem.wpAny_call
abbrev dA:=@PySem.typeIs_str
abbrev dD:=@PySem.tupleKind_room_in1
abbrev dE:=@PySem.Obj.data_mapFields
abbrev dF:=@List.zip_cons_cons
abbrev dG:=@List.lookup_append
abbrev dH:=@PySem.Calls.Constant_str
abbrev dN:=@PySem.wpAny_of_eq
abbrev dO:=@PySem.wpAny_Call_method_late
abbrev dP:=@of_decide_eq_true
abbrev dQ:=@if_false
abbrev dR:=@PySem.codeAny_mono
abbrev dU:=@PySem.W.callWith_K
abbrev dW:=@PySem.boot_len
abbrev dX:=@Nat.lt_trans
abbrev dY:=@Nat.le_of_lt
abbrev dZ:=@List.set_set
abbrev d7:=@List.idxOf_append
abbrev d8:=@Bool.or_true
namespace L2
def jS {a b:Prop}{G:Prop}(q_:a/\b)(k:a->b->G):G:=by obtain⟨h0,h1⟩:=q_;exact k h0 h1
def rh {a b c:Prop}{G:Prop}(q_:a/\b/\c)(k:a->b->c->G):G:=by obtain⟨h0,h1,h2⟩:=q_;exact k h0 h1 h2
def Nu {a b c d:Prop}{G:Prop}(q_:a/\b/\c/\d)(k:a->b->c->d->G):G:=by obtain⟨h0,h1,h2,h3⟩:=q_;exact k h0 h1 h2 h3
def QS {a b c d e:Prop}{G:Prop}(q_:a/\b/\c/\d/\e)(k:a->b->c->d->e->G):G:=by obtain⟨h0,h1,h2,h3,h4⟩:=q_;exact k h0 h1 h2 h3 h4
def rf {a b c d e f:Prop}{G:Prop}(q_:a/\b/\c/\d/\e/\f)(k:a->b->c->d->e->f->G):G:=by obtain⟨h0,h1,h2,h3,h4,h5⟩:=q_;exact k h0 h1 h2 h3 h4 h5
def kZ {ny:Sort _}{a:ny->Prop}{G:Prop}(q_:∃ x,a x)(k:∀ x,a x->G):G:=by obtain⟨x,h0⟩:=q_;exact k x h0
def eS {ny:Sort _}{a b:ny->Prop}{G:Prop}(q_:∃ x,a x/\b x)(k:∀ x,a x->b x->G):G:=by obtain⟨x,h0,h1⟩:=q_;exact k x h0 h1
def oy {ny:Sort _}{a b c:ny->Prop}{G:Prop}(q_:∃ x,a x/\b x/\c x)(k:∀ x,a x->b x->c x->G):G:=by obtain⟨x,h0,h1,h2⟩:=q_;exact k x h0 h1 h2
def JP {ny:Sort _}{a b c d:ny->Prop}{G:Prop}(q_:∃ x,a x/\b x/\c x/\d x)(k:∀ x,a x->b x->c x->d x->G):G:=by obtain⟨x,h0,h1,h2,h3⟩:=q_;exact k x h0 h1 h2 h3
def QR {ny:Sort _}{a b c d e:ny->Prop}{G:Prop}(q_:∃ x,a x/\b x/\c x/\d x/\e x)(k:∀ x,a x->b x->c x->d x->e x->G):G:=by obtain⟨x,h0,h1,h2,h3,h4⟩:=q_;exact k x h0 h1 h2 h3 h4
def JO {ny:Sort _}{qj:Sort _}{a:ny->qj->Prop}{G:Prop}(q_:∃ x y,a x y)(k:∀ x y,a x y->G):G:=by obtain⟨x,y,h0⟩:=q_;exact k x y h0
def mD {ny:Sort _}{qj:Sort _}{a b:ny->qj->Prop}{G:Prop}(q_:∃ x y,a x y/\b x y)(k:∀ x y,a x y->b x y->G):G:=by obtain⟨x,y,h0,h1⟩:=q_;exact k x y h0 h1
def fw {ny:Sort _}{qj:Sort _}{a b c:ny->qj->Prop}{G:Prop}(q_:∃ x y,a x y/\b x y/\c x y)(k:∀ x y,a x y->b x y->c x y->G):G:=by obtain⟨x,y,h0,h1,h2⟩:=q_;exact k x y h0 h1 h2
def jX {ny:Sort _}{qj:Sort _}{a b c d:ny->qj->Prop}{G:Prop}(q_:∃ x y,a x y/\b x y/\c x y/\d x y)(k:∀ x y,a x y->b x y->c x y->d x y->G):G:=by obtain⟨x,y,h0,h1,h2,h3⟩:=q_;exact k x y h0 h1 h2 h3
def JN {ny:Sort _}{qj:Sort _}{a b c d e:ny->qj->Prop}{G:Prop}(q_:∃ x y,a x y/\b x y/\c x y/\d x y/\e x y)(k:∀ x y,a x y->b x y->c x y->d x y->e x y->G):G:=by obtain⟨x,y,h0,h1,h2,h3,h4⟩:=q_;exact k x y h0 h1 h2 h3 h4
def e2a6 {ny:Sort _}{qj:Sort _}{a b c d e f:ny->qj->Prop}{G:Prop}(q_:∃ x y,a x y/\b x y/\c x y/\d x y/\e x y/\f x y)(k:∀ x y,a x y->b x y->c x y->d x y->e x y->f x y->G):G:=by obtain⟨x,y,h0,h1,h2,h3,h4,h5⟩:=q_;exact k x y h0 h1 h2 h3 h4 h5
def Nt {ny:Sort _}{qj:Sort _}{vG:Sort _}{a b:ny->qj->vG->Prop}{G:Prop}(q_:∃ x y z,a x y z/\b x y z)(k:∀ x y z,a x y z->b x y z->G):G:=by obtain⟨x,y,z,h0,h1⟩:=q_;exact k x y z h0 h1
def tj {ny:Sort _}{qj:Sort _}{vG:Sort _}{a b c:ny->qj->vG->Prop}{G:Prop}(q_:∃ x y z,a x y z/\b x y z/\c x y z)(k:∀ x y z,a x y z->b x y z->c x y z->G):G:=by obtain⟨x,y,z,h0,h1,h2⟩:=q_;exact k x y z h0 h1 h2
def Gw {ny:Sort _}{qj:Sort _}{vG:Sort _}{a b c d:ny->qj->vG->Prop}{G:Prop}(q_:∃ x y z,a x y z/\b x y z/\c x y z/\d x y z)(k:∀ x y z,a x y z->b x y z->c x y z->d x y z->G):G:=by obtain⟨x,y,z,h0,h1,h2,h3⟩:=q_;exact k x y z h0 h1 h2 h3
def JM {ny:Sort _}{qj:Sort _}{vG:Sort _}{a b c d e:ny->qj->vG->Prop}{G:Prop}(q_:∃ x y z,a x y z/\b x y z/\c x y z/\d x y z/\e x y z)(k:∀ x y z,a x y z->b x y z->c x y z->d x y z->e x y z->G):G:=by obtain⟨x,y,z,h0,h1,h2,h3,h4⟩:=q_;exact k x y z h0 h1 h2 h3 h4
def e3a6 {ny:Sort _}{qj:Sort _}{vG:Sort _}{a b c d e f:ny->qj->vG->Prop}{G:Prop}(q_:∃ x y z,a x y z/\b x y z/\c x y z/\d x y z/\e x y z/\f x y z)(k:∀ x y z,a x y z->b x y z->c x y z->d x y z->e x y z->f x y z->G):G:=by obtain⟨x,y,z,h0,h1,h2,h3,h4,h5⟩:=q_;exact k x y z h0 h1 h2 h3 h4 h5
def ZE {ny:Sort _}{qj:Sort _}{vG:Sort _}{EW:Sort _}{a b:ny->qj->vG->EW->Prop}{G:Prop}(q_:∃ x y z u,a x y z u/\b x y z u)(k:∀ x y z u,a x y z u->b x y z u->G):G:=by obtain⟨x,y,z,u,h0,h1⟩:=q_;exact k x y z u h0 h1
def fF {ny:Sort _}{qj:Sort _}{vG:Sort _}{EW:Sort _}{a b c d:ny->qj->vG->EW->Prop}{G:Prop}(q_:∃ x y z u,a x y z u/\b x y z u/\c x y z u/\d x y z u)(k:∀ x y z u,a x y z u->b x y z u->c x y z u->d x y z u->G):G:=by obtain⟨x,y,z,u,h0,h1,h2,h3⟩:=q_;exact k x y z u h0 h1 h2 h3
def y6 {ny:Sort _}{qj:Sort _}{vG:Sort _}{EW:Sort _}{a b c d e f:ny->qj->vG->EW->Prop}{G:Prop}(q_:∃ x y z u,a x y z u/\b x y z u/\c x y z u/\d x y z u/\e x y z u/\f x y z u)(k:∀ x y z u,a x y z u->b x y z u->c x y z u->d x y z u->e x y z u->f x y z u->G):G:=by obtain⟨x,y,z,u,h0,h1,h2,h3,h4,h5⟩:=q_;exact k x y z u h0 h1 h2 h3 h4 h5
def e4a8 {ny:Sort _}{qj:Sort _}{vG:Sort _}{EW:Sort _}{a b c d e f g h:ny->qj->vG->EW->Prop}{G:Prop}(q_:∃ x y z u,a x y z u/\b x y z u/\c x y z u/\d x y z u/\e x y z u/\f x y z u/\g x y z u/\h x y z u)(k:∀ x y z u,a x y z u->b x y z u->c x y z u->d x y z u->e x y z u->f x y z u->g x y z u->h x y z u->G):G:=by obtain⟨x,y,z,u,h0,h1,h2,h3,h4,h5,h6,h7⟩:=q_;exact k x y z u h0 h1 h2 h3 h4 h5 h6 h7
def e5a4 {ny:Sort _}{qj:Sort _}{vG:Sort _}{EW:Sort _}{Tu:Sort _}{a b c d:ny->qj->vG->EW->Tu->Prop}{G:Prop}(q_:∃ x y z u v,a x y z u v/\b x y z u v/\c x y z u v/\d x y z u v)(k:∀ x y z u v,a x y z u v->b x y z u v->c x y z u v->d x y z u v->G):G:=by obtain⟨x,y,z,u,v,h0,h1,h2,h3⟩:=q_;exact k x y z u v h0 h1 h2 h3
def ZD {ny:Sort _}{qj:Sort _}{vG:Sort _}{EW:Sort _}{Tu:Sort _}{a b c d e:ny->qj->vG->EW->Tu->Prop}{G:Prop}(q_:∃ x y z u v,a x y z u v/\b x y z u v/\c x y z u v/\d x y z u v/\e x y z u v)(k:∀ x y z u v,a x y z u v->b x y z u v->c x y z u v->d x y z u v->e x y z u v->G):G:=by obtain⟨x,y,z,u,v,h0,h1,h2,h3,h4⟩:=q_;exact k x y z u v h0 h1 h2 h3 h4
def Nr {ny:Sort _}{qj:Sort _}{vG:Sort _}{EW:Sort _}{Tu:Sort _}{a b c d e f:ny->qj->vG->EW->Tu->Prop}{G:Prop}(q_:∃ x y z u v,a x y z u v/\b x y z u v/\c x y z u v/\d x y z u v/\e x y z u v/\f x y z u v)(k:∀ x y z u v,a x y z u v->b x y z u v->c x y z u v->d x y z u v->e x y z u v->f x y z u v->G):G:=by obtain⟨x,y,z,u,v,h0,h1,h2,h3,h4,h5⟩:=q_;exact k x y z u v h0 h1 h2 h3 h4 h5
def ZC {ny:Sort _}{qj:Sort _}{vG:Sort _}{EW:Sort _}{Tu:Sort _}{a b c d e f g:ny->qj->vG->EW->Tu->Prop}{G:Prop}(q_:∃ x y z u v,a x y z u v/\b x y z u v/\c x y z u v/\d x y z u v/\e x y z u v/\f x y z u v/\g x y z u v)(k:∀ x y z u v,a x y z u v->b x y z u v->c x y z u v->d x y z u v->e x y z u v->f x y z u v->g x y z u v->G):G:=by obtain⟨x,y,z,u,v,h0,h1,h2,h3,h4,h5,h6⟩:=q_;exact k x y z u v h0 h1 h2 h3 h4 h5 h6
open PySem PySem.Spec PyProof.Rows
abbrev Key:=Sum Int Str
def xB:Key->ak->Bool
 |.inl k,v=>Value.isInt k v
 |.inr x,v=>Value.isStrOf x v
def keyH (w:af):Key->Int
 |.inl k=>hashInt k
 |.inr x=>hashStr w x
def iJ:∀ {k:Key} {v:ak},xB k v=true->(∃ i t,k=Sum.inl i/\v=Value.int i t)\/(∃ x t,k=Sum.inr x/\v=Value.str x t)
 | .inl i,v,h=>by obtain⟨t,e⟩:=Value.isInt_shape (k:=i) (v:=v) h;exact .inl ⟨i,t,rfl,e⟩
 | .inr x,v,h=>by obtain⟨t,e⟩:=Value.isStrOf_shape (x:=x) (v:=v) h;exact .inr ⟨x,t,rfl,e⟩
def Jo (i:Int)(t:Tok):xB (.inl i) (.int i t)=true:=by simp[xB,Value.isInt]
def uK (x:Str)(t:Tok):xB (.inr x) (.str x t)=true:=by simp[xB,Value.isStrOf]
def Vm (a b:Int):decide ((Sum.inl a:Key)=Sum.inl b)=(a==b):=by
 by_cases e:a=b
 .subst e;simp
 .have h:¬ (Sum.inl a:Key)=Sum.inl b:=λq=>e<|Sum.inl.inj q;rw[aw h];exact(beq_eq_false_iff_ne.mpr e).symm
def Vi (a b:Str):decide ((Sum.inr a:Key)=Sum.inr b)=decide (a=b):=by
 by_cases e:a=b
 .subst e;simp
 .have h:¬ (Sum.inr a:Key)=Sum.inr b:=λq=>e<|Sum.inr.inj q;rw[aw h,aw e]
def Vk (a:Int)(b:Str):decide ((Sum.inl a:Key)=Sum.inr b)=false:=aw (λq=>nomatch q)
def Vj (a:Str)(b:Int):decide ((Sum.inr a:Key)=Sum.inl b)=false:=aw (λq=>nomatch q)
def gW (prog:ae)(w:af):PySem.KeyKind prog w Key where
 is:=xB
 hash:=keyH w
 inj:=λv a b ha hb=>by
  rcases iJ ha with⟨i,t,rfl,rfl⟩|⟨x,t,rfl,rfl⟩
  .rcases iJ hb with⟨j,u,rfl,e⟩ | ⟨y,u,rfl,e⟩
   .injection e with e1 _;rw[e1]
   .exact nomatch e
  .rcases iJ hb with⟨j,u,rfl,e⟩ | ⟨y,u,rfl,e⟩
   .exact nomatch e
   .injection e with e1 _;rw[e1]
 byValue:=λk v h=>by rcases iJ h with⟨i,t,rfl,rfl⟩|⟨x,t,rfl,rfl⟩<;> rfl
 pyHash:=λhv h=>by
  rcases iJ hv with⟨i,t,rfl,rfl⟩|⟨x,t,rfl,rfl⟩
  .exact wpAny_pyHash_int h
  .exact wpAny_pyHash_str h
 eqBool:=λhu hv h=>by
  rcases iJ hu with⟨i,t,rfl,rfl⟩|⟨x,t,rfl,rfl⟩
  .rcases iJ hv with⟨j,u,rfl,rfl⟩ | ⟨y,u,rfl,rfl⟩
   .rw[Vm]at h;exact wpAny_eqBool_int h
   .rw[Vk]at h;exact SeqAt.EqAt.int_str i t y u _ _ _ _ h
  .rcases iJ hv with⟨j,u,rfl,rfl⟩ | ⟨y,u,rfl,rfl⟩
   .rw[Vj]at h;exact SeqAt.EqAt.str_int x t j u _ _ _ _ h
   .rw[Vi]at h;exact wpAny_eqBool_str h
 «strs»:=λk x t v h=>by
  rcases iJ h with⟨i,u,rfl,e⟩|⟨y,u,rfl,e⟩
  .exact nomatch e
  .injection e with e1 _;subst e1;cases v<;>rfl
def Dz (prog:ae)(w:af)(i:Int)(t:Tok):(gW prog w).is (.inl i) (.int i t)=true:=Jo i t
def Dy (prog:ae)(w:af)(x:Str)(t:Tok):(gW prog w).is (.inr x) (.str x t)=true:=uK x t
inductive V where
 |gw|bl (b:Bool)|int (i:Int)|str (x:Str)|GD (b:Array UInt8)|SK (b:UInt64)|ref (a:aj)|ty (n:String)
 deriving DecidableEq
def fM:V->ak->Prop
 |.gw,u=>u=Value.none
 |.bl b,u=>u=Value.bool b
 |.int i,u=>∃ t,u=Value.int i t
 |.str x,u=>∃ t,u=Value.str x t
 |.GD b,u=>∃ t,u=Value.bytes b t
 |.SK b,u=>∃ t,u=Value.float b t
 |.ref a,u=>u=Value.ref a
 |.ty n,u=>u=Value.type n
abbrev fH:ao V->ao ak->Prop:=Paired fM
theorem fH.length {xs:ao V}{us:ao ak}(r:fH xs us):xs.length=us.length:=Paired.length r
theorem fH.get:∀ {xs:ao V} {us:ao ak} {i:Nat} {x:V},fH xs us->xs[i]?=some x->∃ u,us[i]?=some u/\fM x u
 |_,_,_,_,.nil,e=>by cases e
 |_,_,0,_,.cons r _,e=>by simp at e;subst e;exact⟨_,rfl,r⟩
 | _,_,i+1,x,.cons _ t,e=>by obtain⟨u,h1,h2⟩:=fH.get (i:=i) (x:=x) t (by simpa using e);exact⟨u,by simpa using h1,h2⟩
theorem fH.set {x:V}{u:ak}(r:fM x u):∀ {xs:ao V} {us:ao ak} (i:Nat),fH xs us->fH (xs.set i x) (us.set i u)
 |_,_,_,.nil=>.nil
 |_,_,0,.cons _ t=>.cons r t
 |_,_,i+1,.cons q t=>.cons q (fH.set r i t)
def fH.append {xs ys:ao V}{us ws:ao ak}(h:fH xs us)(s:fH ys ws):fH (xs++ys) (us++ws):=by
 induction h with
 |nil=>exact s
 |cons r t ih=>exact .cons r ih
theorem fH.take:∀ {xs:ao V} {us:ao ak} (n:Nat),fH xs us->fH (xs.take n) (us.take n)
 |_,_,0,_=>.nil
 |_,_,_+1,.nil=>.nil
 |_,_,n+1,.cons r t=>.cons r (fH.take n t)
theorem fH.drop:∀ {xs:ao V} {us:ao ak} (n:Nat),fH xs us->fH (xs.drop n) (us.drop n)
 |_,_,0,r=>r
 |_,_,_+1,.nil=>.nil
 |_,_,n+1,.cons _ t=>fH.drop n t
def fH.none_of:∀ {xs:ao V} {us:ao ak} {i:Nat},fH xs us->xs[i]?=none->us[i]?=none:=λ{xs us i} r e=>by have h1:=r.length;have h2:xs.length<=i:=List.getElem?_eq_none_iff.mp e;exact List.getElem?_eq_none_iff.mpr (by lia)
def p9:aq V->aq ak->Prop
 |some v,some u=>fM v u
 |none,none=>True
 |_,_=>False
def KV {κ:Type}:ao (κ×V)->ao (κ×ak)->Prop:=Paired λ(p:κ×V) (q:κ×ak)=>p.1=q.1/\fM p.2 q.2
def kV:Key->V
 |.inl i=>.int i
 |.inr x=>.str x
inductive HO where
 |lst (xs:List V)
 |tup (xs:List V)
 |dK (eP:List (Key×V))|dT (eP:List (List Key×V))
 |set (S:Int->Bool) (n:Nat)
 |ins (C dx:aj) (fs:List (Str×V))
 |own (x:aj)
 |xd (fs:List (Str×V))
 |met (f x:aj)
 |rng (lo hi:Int)
 |vm (o:Obj) (u:HO)
 |RT (ps:Array ak)
 |ext (φ:Heap->Prop)
abbrev Hp:=aj->aq HO
def upd (H:Hp)(a:aj)(o:HO):Hp:=λb=>if b=a then some o else H b
def eZ {H:Hp}{a:aj}{o:HO}:upd H a o a=some o:=by delta upd;rw[aD rfl]
def e9 {H:Hp}{a b:aj}{o:HO}(h:b≠a):upd H a o b=H b:=by delta upd;rw[az h]
def Yx {H:Hp}{a b:aj}{o u:HO}(h:H a=some o)(h':H b=some u)(d:o≠u):a≠b:=by intro e;subst e;rw[h]at h';exact d (aW h')
def fS {H:Hp}{a b:aj}{o:HO}(h:H a=some o)(h':H b=none):a≠b:=by intro e;subst e;rw[h]at h';cases h'
section
variable (P:ae)(w:af)
def iQ (H:Hp)(h:Heap)(a:aj):HO->Prop
 |.lst xs=>xs.length<=sizeLine/\∃(fu:ao ak) (n:Nat),fH xs fu/\h.get? a=some { cls:=.type "list",data:=.seq fu.toArray n}
 |.tup xs=>xs.length<=sizeLine/\∃ fu:ao ak,fH xs fu/\IsTup h a fu.toArray
 |.dK eP=>eP.length<=sizeLine/\(a==sysModules)=false/\∃ vs,KV eP vs/\h.DictOf (gW P w) a vs
 | .dT eP=>eP.length<=sizeLine/\(a==sysModules)=false/\∃ xs:ao (ao Key×aj×ak),
  Paired (λ(p:ao Key×V) (q:ao Key×aj×ak)=>p.1=q.1/\H q.2.1=some (.tup<|p.1.map kV)/\fM p.2 q.2.2) eP xs /\
  ∃ o es ep,h.get? a=some o/\o.ExactDict/\o.data=.dict es ep/\es.toList=xs.map (entryOfKey<|tupleKind<|gW P w)/\(xs.map (·.1)).Nodup
 |.set S n=>h.SetOf (intKind P w) a S n
 | .ins C dx fs=>H dx=some (.own a)/\fs.length<=1000/\dx≠a/\h.get? a=some (W.instObj C dx) /\
  ∃ mA,h.Ns1 dx mA/\(∀ f,p9 (fs.lookup f) (mA f))/\PySem.Within mA (fs.map (·.1))
 |.own _=>∃ o,h.get? a=some o
 |.xd fs=>∃ mA,h.Ns1 a mA/\∀ f,p9 (fs.lookup f) (mA f)
 |.rng lo hi=>∃ t u v,h.get? a=some { cls:=.type "range",data:=.fields #[.int lo t,.int hi u,.int 1 v]}
 |.vm o u=>h.get? a=some o/\iQ H h a u
 |.RT ps=>h.get? a=some { cls:=.none,data:=.fields ps}
 |.met f x=>h.get? a=some (W.methodObj (.ref f)<|.ref x)
 |.ext φ=>φ h/\(∃ o,h.get? a=some o)/\∀ h1 h2:Heap,φ h1->(∀ o,h1.get? a=some o->h2.get? a=some o)->φ h2
def rA (H:Hp)(h:Heap):Prop:=∀ a o,H a=some o->iQ P w H h a o
end
section
variable {P:ae}{w:af}{H H':Hp}{h h':Heap}{a:aj}{o:HO}
theorem iQ.lt (x:iQ P w H h a o):a<h.objs.size:=by
 cases o with
 |lst xs=>obtain⟨_,_,_,_,e⟩:=x;exact kG e
 |tup xs=>obtain⟨_,_,_,p⟩:=x;exact p.lt
 |dK eP=>obtain⟨_,_,_,_,o,_,_,e,_⟩:=x;exact kG e
 |dT eP=>obtain⟨_,_,_,_,o,_,_,e,_⟩:=x;exact kG e
 |set S n=>obtain⟨o,_,_,_,e,_⟩:=x;exact kG e
 |ins C dx fs=>obtain⟨_,_,_,e,_⟩:=x;exact kG e
 |own y=>obtain⟨_,e⟩:=x;exact kG e
 |xd fs=>obtain⟨_,⟨_,_,_,e,_⟩,_⟩:=x;exact kG e
 |rng lo hi=>obtain⟨_,_,_,e⟩:=x;exact kG e
 |vm ob u=>obtain⟨e,_⟩:=x;exact kG e
 |RT ps=>exact kG (show h.get? a=some _ from x)
 |met f y=>exact kG (show h.get? a=some _ from x)
 |ext φ=>obtain⟨_,⟨_,e⟩,_⟩:=x;exact kG e
def Paired.YF {α β:Type}{F G:α->β->Prop}{l₁:ao α}{l₂:ao β}(h:Paired F l₁ l₂)(f:∀ a b,F a b->G a b):Paired G l₁ l₂:=by
 induction h with
 |nil=>exact .nil
 |cons r t ih=>exact .cons (f _ _ r) ih
def iQ.uu (x:iQ P w H h a o)(k:∀ b u,(b=a\/H b=some (.own a))->h.get? b=some u->h'.get? b=some u)
 (ho:∀ b,H b=some (.own a)->H' b=some (.own a)) (ht:∀ b xs,H b=some (.tup xs)->H' b=some (.tup xs)):iQ P w H' h' a o:=by
 induction o with
 |lst xs=>obtain⟨z,fu,n,r,e⟩:=x;exact⟨z,fu,n,r,k _ _ (.inl rfl) e⟩
 |tup xs=>obtain⟨z,fu,r,ob,e,c⟩:=x;exact⟨z,fu,r,ob,k _ _ (.inl rfl) e,c⟩
 |dK eP=>obtain⟨z,y,vs,r,ob,es,ep,e,c⟩:=x;exact⟨z,y,vs,r,ob,es,ep,k _ _ (.inl rfl) e,c⟩
 | dT eP =>obtain⟨z,y,xs,r,ob,es,ep,e,c⟩:=x;exact⟨z,y,xs,Paired.YF r λp q z=>⟨z.1,ht _ _ z.2.1,z.2.2⟩,ob,es,ep,k _ _ (.inl rfl) e,c⟩
 |set S n=>obtain⟨ob,es,ep,t,e,c⟩:=x;exact⟨ob,es,ep,t,k _ _ (.inl rfl) e,c⟩
 | ins C dx fs =>obtain⟨d,z,ne,e,mA,⟨od,es,ep,e2,c⟩,r⟩:=x;exact⟨ho _ d,z,ne,k _ _ (.inl rfl) e,mA,⟨od,es,ep,k _ _ (.inr d) e2,c⟩,r⟩
 |own y=>obtain⟨ob,e⟩:=x;exact⟨ob,k _ _ (.inl rfl) e⟩
 |xd fs=>obtain⟨mA,⟨od,es,ep,e,c⟩,r⟩:=x;exact⟨mA,⟨od,es,ep,k _ _ (.inl rfl) e,c⟩,r⟩
 |rng lo hi=>obtain⟨t,u,v,e⟩:=x;exact⟨t,u,v,k _ _ (.inl rfl) e⟩
 |vm ob u ih=>obtain⟨e,q⟩:=x;exact⟨k _ _ (.inl rfl) e,ih q⟩
 | RT ps =>have e:h.get? a=some { cls:=.none,data:=.fields ps}:=x;exact k a _ (.inl rfl) e
 | met f y =>have e:h.get? a=some (W.methodObj (.ref f)<|.ref y):=x;exact k a _ (.inl rfl) e
 |ext φ=>obtain⟨p,⟨o,e⟩,st⟩:=x;exact⟨st _ _ p λo q=>k _ _ (.inl rfl) q,⟨o,k _ _ (.inl rfl) e⟩,st⟩
theorem rA.lt (x:rA P w H h)(e:H a=some o):a<h.objs.size:=(x a o e).lt
def rA.fresh (x:rA P w H h)(e:h.objs.size<=a):H a=none:=by
 cases q:H a with
 |none=>rfl
 |some u=>exact absurd (aL (x.lt q) e) (bJ _)
def rA.eI (x:rA P w H h)(k:∀ b u,h.get? b=some u->h'.get? b=some u):rA P w H h':=λa o e =>(x a o e).uu (λb u _ q=>k b u q) (λ_ q=>q) λ_ _ q=>q
def rA.laid (x:rA P w H h)(k:∀ b u,h.get? b=some u->h'.get? b=some u)(hp:h.objs.size<=a)(new:iQ P w (upd H a o) h' a o):rA P w (upd H a o) h':=λb u e=>by
 have hn:=x.fresh hp;by_cases hb:b=a
 .subst hb;rw[eZ]at e;cases e;exact new
 .rw[e9 hb]at e;exact(x b u e).uu (λc v _ q=>k c v q) (λc q=>by rw[e9 (fS q hn)];exact q) λc xs q=>by rw[e9 (fS q hn)];exact q
end
def Rd (H:Hp)(a:aj)(u:HO):Prop:=H a=some u\/∃ o,H a=some (.vm o u)
def Rd.ok {P:ae}{w:af}{H:Hp}{h:Heap}{a:aj}{u:HO}(r:Rd H a u)(x:rA P w H h):iQ P w H h a u:=by
 rcases r with r|⟨o,r⟩
 .exact x a u r
 .obtain⟨_,q⟩:=x a _ r;exact q
def Mut:aq HO->Prop
 |some (.lst _)=>True
 |some (.dK _)=>True
 |some (.dT _)=>True
 |some (.set _ _)=>True
 |some (.ins _ _ _)=>True
 |some (.ext _)=>True
 |_=>False
section
variable {P:ae}{w:af}{H:Hp}{h h':Heap}{x e:aj}{o':HO}
def rA.write (ok:rA P w H h)(mu:Mut (H x))(he:e=x\/H e=some (.own x))(k:∀ b u,b≠e->h.get? b=some u->h'.get? b=some u)(W5:∃ u,h'.get? e=some u)
 (new:iQ P w (upd H x o') h' x o'):rA P w (upd H x o') h':=λb u q=>by
 have Ys:∀ c y,H c=some (.own y)->c≠x:=λc y r z=>by subst z;rw[r]at mu;exact mu
 have ntup:∀ c xs,H c=some (.tup xs)->c≠x:=λc xs r z=>by subst z;rw[r]at mu;exact mu
 by_cases hb:b=x
 .subst hb;rw[eZ]at q;cases q;exact new
 .rw[e9 hb]at q;by_cases VQ:b=e
  .have q':H b=some (.own x):=by
    rcases he with z|z
    .exact absurd (VQ.trans z) hb
    .rw[VQ];exact z
   rw[q]at q';cases q'
   obtain⟨v,hv⟩:=W5
   exact⟨v,VQ▸hv⟩
  .refine(ok b u q).uu (λc v hc r=>k c v ?_ r) (λc r=>by rw[e9 (Ys c b r)];exact r) λc xs r=>by rw[e9 (ntup c xs r)];exact r
   rcases hc with rfl|hc
   .exact VQ
   .rintro rfl;rcases he with z|z
    .exact Ys c b hc z
    .rw[hc]at z;cases z;exact hb rfl
end
structure Un (fs ex:List aj)(H H':Hp)(h h':Heap):Prop where
 keep:∀ b o,h.get? b=some o->H b=none->b∉fs->b∉ex->h'.get? b=some o
 slot:∀ b o,h.get? b=some o->H b=none->b∈fs->b∉ex->∃ sl,h'.get? b=some { o with slots:=sl}
 free:∀ b o,h.get? b=some o->H b=none->b∉ex->H' b=none
 there:∀ b o,h.get? b=some o->b∉ex->∃ o',h'.get? b=some o'
 sD:∀ b xs,H b=some (.tup xs)->H' b=some (.tup xs)
 sd:∀ b o u,H b=some (.vm o u)->H' b=some (.vm o u)
 sE:∀ b ps,H b=some (.RT ps)->∃ more,H' b=some (.RT<|ps++more)
section
variable {fs QL ex ex':ao aj}{H H1 H2:Hp}{h h1 h2 h':Heap}{a x e:aj}{o:HO}
def Un.any (u:Un fs ex H H1 h h1){b:aj}{ob:Obj}(q:h.get? b=some ob)(n:H b=none)(hx:b∉ex):∃ sl,h1.get? b=some { ob with slots:=sl}:=by
 by_cases hb:b∈fs
 .exact u.slot b ob q n hb hx
 .exact⟨ob.slots,u.keep b ob q n hb hx⟩
def Un.eI (k:∀ b u,h.get? b=some u->h'.get? b=some u):Un fs ex H H h h' :=
 ⟨λb ob q _ _ _=>k b ob q,λb ob q _ _ _=>⟨ob.slots,k b ob q⟩,λ_ _ _ n _=>n,λb ob q _=>⟨ob,k b ob q⟩,λ_ _ q=>q,λ_ _ _ q=>q,λ_ ps q=>⟨#[],by rw[q];simp⟩⟩
def Un.refl:Un fs ex H H h h:=Un.eI λ_ _ q=>q
def Un.laid (k:∀ b u,h.get? b=some u->h'.get? b=some u)(hp:h.objs.size<=a)(hn:H a=none):Un fs ex H (upd H a o) h h' where
 keep:=λb u q _ _ _=>k b u q
 slot:=λb u q _ _ _=>⟨u.slots,k b u q⟩
 free:=λb u q n _=>by rw[e9 (aF<|aL (kG q) hp)];exact n
 there:=λb u q _=>⟨u,k b u q⟩
 sD:=λb xs q=>by rw[e9 (fS q hn)];exact q
 sd:=λb u xs q=>by rw[e9 (fS q hn)];exact q
 sE:=λb ps q=>⟨#[],by rw[e9 (fS q hn),q];simp⟩
def Un.write (mu:Mut (H x))(he:e=x\/H e=some (.own x))(k:∀ b u,b≠e->h.get? b=some u->h'.get? b=some u)(W5:∃ u,h'.get? e=some u):Un fs ex H (upd H x o) h h':=by
 have hx:∀ b,H b=none->b≠x:=λb n z=>by subst z;rw[n]at mu;exact mu
 have hb:∀ b,H b=none->b≠e:=λb n z=>by
  subst z;rcases he with r|r
  .exact hx b n r
  .rw[n]at r;cases r
 have hm:∀ b u,H b=some u->¬ Mut (some u)->b≠x:=λb u q nm z=>by subst z;rw[q]at mu;exact nm mu
 refine⟨λb u q n _ _=>k b u (hb b n) q,λb u q n _ _=>⟨u.slots,k b u (hb b n) q⟩,λb u q n _=>by rw[e9 (hx b n)];exact n,λb u q _=>?_,
  λb xs q=>by rw[e9 (hm b _ q λz=>z)];exact q,λb u xs q=>by rw[e9 (hm b _ q λz=>z)];exact q,λb ps q=>⟨#[],by rw[e9 (hm b _ q λz=>z),q];simp⟩⟩
 by_cases VQ:b=e
 .subst VQ;exact W5
 .exact⟨u,k b u VQ q⟩
end
def trk (h:Heap)(H:Hp):ao aj:=(List.range h.objs.size).filter λa=>(H a).isSome
def Bm (h:Heap)(H:Hp):Heap:=W.hideAll h (trk h H)
def JB (h:Heap)(H:Hp):(Bm h H).objs.size=h.objs.size:=W.hideAll_size _ _
def MH {h:Heap}{H:Hp}{b:aj}{o:Obj}(e:h.get? b=some o)(n:H b=none):(Bm h H).get? b=some o :=
 W.hideAll_get _ e λhm=>by have q:(H b).isSome=true:=(List.mem_filter.mp hm).2;rw[n]at q;simp at q
def Qu {h:Heap}{H:Hp}{b:aj}{o:Obj}(e:(Bm h H).get? b=some o):h.get? b=some o/\H b=none:=by
 have e':h.get? b=some o:=W.of_hideAll (trk h H) e;refine⟨e',?_⟩;cases q:H b with
 |none=>rfl
 | some x =>have hm:b∈trk h H:=List.mem_filter.mpr ⟨List.mem_range.mpr<|kG e',by simp[q]⟩;have z:(Bm h H).get? b=none:=W.hideAll_none (trk h H) hm;rw[z]at e;cases e
def RA (g h:Heap)(L:aj):ao (aj×Obj):=(List.range h.objs.size).filterMap λa=>if a=L\/(g.get? a).isSome=true then none else(h.get? a).map λo=>(a,o)
def rest (g h:Heap)(L d:aj):ao (aj×Obj):=(RA g h L).filter λp=>decide (p.1≠d)
structure Mod (K:aa)(mg:Str->Option ak)(eB:Heap):Prop where
 Kn:K.In eB
 glob:eB.Ns mainGlobals mg
 blt:∃ mb,eB.Ns builtinsNs mb/\∀ x:Str,x ≠ "__name__"->mb x=bootBuiltins x
 nolimit:eB.NoLimit
structure Cx where
 prog:ae
 w:af
 K:aa
 mg:Str->Option ak
 eB:Heap
 A:Around
 N:List Str
 s₀:ai
 H₀:Hp
 env:Env
 eM:List Env
 stack:List Env
 ex:List aj
 fn:Str->Bool
 gE:Bool
 pn:List (aj×Obj)
 xe:ak->ai->Prop
def zF (l:ao Env):ao aj:=l.filterMap (·.frame)
abbrev Cx.fs (X:Cx):ao aj:=zF X.eM
def To (sc:Scope)(x:Str):Prop:=sc.names.lookup x=some .local\/sc.names.lookup x=some .cell\/sc.names.lookup x=some .free
def Loc (sc:Scope)(x:Str):Prop:=sc.names.lookup x=some .local\/sc.names.lookup x=some .cell
def Look (env:Env)(h:Heap)(m:Str->aq ak)(x:Str)(u:ak):Prop :=
 (env.kindOf x=some .local/\m x=some u)\/((env.kindOf x=some .cell\/env.kindOf x=some .free)/\∃ c,env.cells.lookup x=some c/\h.IsCell c (some u))
structure Cx.Ok (X:Cx):Prop where
 mod:Mod X.K X.mg X.eB
 kind:X.env.scope.kind=.function
 glob:X.env.globals=mainGlobals
 blt:X.env.builtins=builtinsNs
 above:X.s₀.heap.objs.size<=X.env.locals
 inj:∀ x y c,X.env.cells.lookup x=some c->X.env.cells.lookup y=some c->x=y
 has:∀ x,(X.env.kindOf x=some .cell\/X.env.kindOf x=some .free)->∃ c,X.env.cells.lookup x=some c
 Ws:∀ x c,X.fn x=true->X.env.cells.lookup x=some c->X.s₀.heap.objs.size<=c
 hd:X.gE=true->X.A.handled=none
 frames:X.A.frames=some X.stack
 WU:X.stack=X.eM\/(X.stack=X.env::X.eM/\X.env.frame=some X.env.locals)
 y3:∀ b∈X.ex,b≠X.env.locals/\∀ x c,X.env.cells.lookup x=some c->c≠b
 bs:∀ b o,X.eB.get? b=some o->X.s₀.heap.get? b=some o/\X.H₀ b=none
 Ia:X.eB.objs.size<=X.s₀.heap.objs.size
 Du:∀ b o,X.eB.get? b=some o->b∉X.ex
 D4:∀ b∈X.ex,b∉X.fs
 r9:X.s₀.heap.FunFrames X.eB X.eM
 OU:∀ b∈X.fs,X.H₀ b=none
structure Inv (X:Cx)(ee:List (aj×Obj))(σ:List (Option V))(H:Hp)(s:ai):Prop where
 ok:X.Ok
 os:s.os=X.s₀.os
 bare:AllBare s.gens
 eB:Un X.fs X.ex X.H₀ H X.s₀.heap s.heap
 loc:∃ m,s.heap.Ns X.env.locals m/\∀(i:Nat) (x:Str) (v:V),X.N[i]?=some x->σ[i]?=some (some v)->To X.env.scope x->∃ u,fM v u/\Look X.env s.heap m x u
 cell:∀ x c,X.env.cells.lookup x=some c->∃ v,s.heap.IsCell c v
 free:H X.env.locals=none
 ky:∀ x c,X.env.cells.lookup x=some c->H c=none
 pin:∀ p∈X.pn++ee,s.heap.get? p.1=some p.2/\H p.1=none/\p.1≠X.env.locals/\p.1∉X.fs/\∀ v,p.2.data≠.cell v
 fB:rA X.prog X.w H s.heap
 len:σ.length=X.N.length
section
variable {X:Cx}{ee:ao (aj×Obj)}{σ:ao (aq V)}{H H':Hp}{s:ai}{h':Heap}
def Cx.Ok.nofr (ok:X.Ok){b:aj}{o:Obj}(e:X.eB.get? b=some o):b∉X.fs:=λhb=>by have:=(ok.r9.mem hb).1;rw[e]at this;cases this
theorem Inv.bs (I:Inv X ee σ H s):∀ b o,X.eB.get? b=some o->s.heap.get? b=some o/\H b=none:=λb o e =>⟨I.eB.keep b o (I.ok.bs b o e).1 (I.ok.bs b o e).2 (I.ok.nofr e)<|I.ok.Du b o e,I.eB.free b o (I.ok.bs b o e).1 (I.ok.bs b o e).2<|I.ok.Du b o e⟩
def Inv.bk (I:Inv X ee σ H s):∀ b o,X.eB.get? b=some o->s.heap.get? b=some o:=λb o e=>(I.bs b o e).1
theorem Inv.mod (I:Inv X ee σ H s):Mod X.K X.mg X.eB:=I.ok.mod
def Inv.om (I:Inv X ee σ H s):X.K.In s.heap:=I.ok.mod.Kn.keeps I.bk
theorem Inv.lt (I:Inv X ee σ H s):X.env.locals<s.heap.objs.size:=let ⟨_,hn,_⟩:=I.loc;hn.lt
def Inv.sz (I:Inv X ee σ H s):X.s₀.heap.objs.size<=s.heap.objs.size:=aG I.ok.above (dY I.lt)
def Inv.nofs (I:Inv X ee σ H s){a:aj}(h:s.heap.objs.size<=a):a∉X.fs:=λhb=>by obtain⟨_,o,ho,_⟩:=I.ok.r9.mem hb;exact absurd (aL (kG ho)<|aG I.sz h) (bJ _)
def Inv.Rk (I:Inv X ee σ H s):∀ x c,X.env.cells.lookup x=some c->c≠X.env.locals:=λx c e z=>by refine mD (I.cell x c e) λv o ho hd=>?_;obtain⟨m,⟨o',es,ep,zA,DM,_⟩,_⟩:=I.loc;rw[z,zA]at ho;cases ho;rw[DM]at hd;cases hd
theorem Inv.r9 (I:Inv X ee σ H s):s.heap.FunFrames X.eB X.eM:=by
 have all:∀(l:ao Env),(∀ b∈zF l,b∈X.fs)->X.s₀.heap.FunFrames X.eB l->s.heap.FunFrames X.eB l:=by
  intro l;induction l with
  |nil=>intro _ _;trivial
  | cons env r ih =>intro hs hl;obtain⟨hk,⟨L,o,hf,hn,ho,hd⟩,hr⟩:=hl;have hL:L∈X.fs:=hs L (by delta zF;rw[cM,hf];exact aI);obtain⟨sl,e⟩:=I.eB.slot L o ho (I.ok.OU L hL) hL λz=>I.ok.D4 L z hL;exact⟨hk,⟨L,_,hf,hn,e,hd⟩,ih (λb hb=>hs b (by delta zF;rw[cM,hf];exact o6 _ hb)) hr⟩
 exact all X.eM (λ_ hb=>hb) I.ok.r9
theorem Inv.stack (I:Inv X ee σ H s):s.heap.FunFrames X.eB X.stack:=by
 rcases I.ok.WU with e|⟨e,hf⟩
 .rw[e];exact I.r9
 .rw[e];refine eS I.loc λm hn _=>?_;refine .cons (by rw[I.ok.kind];decide) hf hn ?_ I.r9;exact Heap.get?_none_of_le (aG I.ok.Ia I.ok.above)
def Inv.wG (I:Inv X ee σ H s):∀ b∈zF X.stack,b∈X.env.locals::X.fs:=λb hb=>by
 rcases I.ok.WU with e|⟨e,hf⟩
 .rw[e]at hb;exact o6 _ hb
 .rw[e]at hb;delta zF at hb;rw[cM,hf]at hb;exact hb
def Inv.rH (I:Inv X ee σ H s):∀ b∈zF X.stack,H b=none:=λb hb=>by
 rcases List.mem_cons.mp (I.wG b hb)with e|hb
 .rw[e];exact I.free
 .obtain⟨_,o,ho,_⟩:=I.ok.r9.mem hb;exact I.eB.free b o ho (I.ok.OU b hb) λz=>I.ok.D4 b z hb
def Inv.step {g':Array GenState}{t':Nat}{d':Drawn}{ch:ao aj}(I:Inv X ee σ H s)
 (Hu:∀ b∈ch,(b∈X.ex\/X.s₀.heap.objs.size<=b)/\b≠X.env.locals/\(∀ x c,X.env.cells.lookup x=some c->c≠b)/\∀ p∈X.pn++ee,p.1≠b)
 (keep:∀ b o,b≠X.env.locals->b∉X.fs->b∉ch->s.heap.get? b=some o->H b=none->h'.get? b=some o)
 (slot:∀ b o,b≠X.env.locals->b∈X.fs->b∉ch->s.heap.get? b=some o->H b=none->∃ sl,h'.get? b=some { o with slots:=sl}) (free:∀ b o,b∉ch->s.heap.get? b=some o->H b=none->H' b=none)
 (there:∀ b o,b∉ch->s.heap.get? b=some o->∃ o',h'.get? b=some o')
 (sD:∀ b xs,H b=some (.tup xs)->H' b=some (.tup xs)) (sd:∀ b o u,H b=some (.vm o u)->H' b=some (.vm o u)) (sE:∀ b ps,H b=some (.RT ps)->∃ more,H' b=some (.RT<|ps++more))
 (ns:∀ m,s.heap.Ns X.env.locals m->h'.Ns X.env.locals m) (fB:rA X.prog X.w H' h') (hg:AllBare g'):
 Inv X ee σ H' {s with heap:=h',gens:=g',drawn:=d',toks:=t'}:=by
 have neL:∀ b o,X.s₀.heap.get? b=some o->b≠X.env.locals:=λb o e=>aF<|aL (kG e) I.ok.above;have Cm:∀ b o,X.s₀.heap.get? b=some o->b∉X.ex->b∉ch:=λb o e hx hb=>by
  rcases(Hu b hb).1 with z|z
  .exact hx z
  .exact absurd (aL (kG e) z) (bJ _)
 have cellK:∀ x c,X.env.cells.lookup x=some c->∀ v,s.heap.IsCell c v->h'.IsCell c v:=λx c e v h_=>eS h_ λo ho hd=>by
  have Yz:c∉ch:=λz=>(Hu c z).2.2.1 x c e rfl;by_cases hc:c∈X.fs
  .obtain⟨sl,q⟩:=slot c o (I.Rk x c e) hc Yz ho<|I.ky x c e;exact⟨_,q,hd⟩
  .exact⟨o,keep c o (I.Rk x c e) hc Yz ho<|I.ky x c e,hd⟩
 refine⟨I.ok,I.os,hg,⟨λb o e n hb hx=>?_,λb o e n hb hx=>?_,λb o e n hx=>?_,λb o e hx=>?_,λb xs e=>sD b xs<|I.eB.sD b xs e,λb o xs e=>sd b o xs<|I.eB.sd b o xs e,λb ps e=>?_⟩,?_,λx c e=>?_,?_,λx c e=>?_,λp hp=>?_,fB,I.len⟩
 .exact keep b o (neL b o e) hb (Cm b o e hx) (I.eB.keep b o e n hb hx) (I.eB.free b o e n hx)
 .obtain⟨sl,e1⟩:=I.eB.slot b o e n hb hx;obtain⟨XO,e2⟩:=slot b _ (neL b o e) hb (Cm b o e hx) e1<|I.eB.free b o e n hx;exact⟨XO,e2⟩
 .obtain⟨o',e1⟩:=I.eB.there b o e hx;exact free b o' (Cm b o e hx) e1 (I.eB.free b o e n hx)
 .obtain⟨o',e1⟩:=I.eB.there b o e hx;exact there b o' (Cm b o e hx) e1
 .obtain⟨m1,e1⟩:=I.eB.sE b ps e;obtain⟨m2,e2⟩:=sE b _ e1;exact⟨m1++m2,by rw[e2,Array.append_assoc]⟩
 .refine eS I.loc λm hn hl=>?_;refine⟨m,ns m hn,λi x v e1 e2 e3=>?_⟩;refine eS (hl i x v e1 e2 e3) λu r l=>?_;refine⟨u,r,?_⟩;rcases l with l|⟨k,c,e,z⟩
  .exact .inl l
  .exact .inr ⟨k,c,e,cellK x c e _ z⟩
 .obtain⟨v,z⟩:=I.cell x c e;exact⟨v,cellK x c e v z⟩
 .obtain⟨m,⟨o,_,_,ho,_⟩,_⟩:=I.loc;exact free _ o (λz=>(Hu _ z).2.1 rfl) ho I.free
 .refine mD (I.cell x c e) λv o ho hd=>?_;exact free c o (λz=>(Hu c z).2.2.1 x c e rfl) ho (I.ky x c e)
 .refine QS (I.pin p hp) λe n ne nf d=>?_;have Yz:p.1∉ch:=λz=>(Hu p.1 z).2.2.2 p hp rfl;exact⟨keep p.1 p.2 ne nf Yz e n,free p.1 p.2 Yz e n,ne,nf,d⟩
def Inv.un {t':Nat}(I:Inv X ee σ H s)(u:Un X.fs [] H H' s.heap h')(fB:rA X.prog X.w H' h'):Inv X ee σ H' { s with heap:=h',toks:=t'}:=by
 obtain⟨m,⟨o,es,ep,ho,r⟩,_⟩:=id I.loc;obtain⟨sl,hL⟩:=u.any ho I.free (by simp);exact I.step (g':=s.gens) (d':=s.drawn) (ch:=[]) (λ_ z=>nomatch z) (λb o _ hb _ e n=>u.keep b o e n hb<|by simp) (λb o _ hb _ e n=>u.slot b o e n hb<|by simp) (λb o _ e n=>u.free b o e n<|by simp) (λb o _ e=>u.there b o e<|by simp) u.sD u.sd u.sE (λm' hm=>by
  refine Nt hm λo' yD ep' zA r'=>?_
  rw[ho]at zA;cases zA
  exact⟨_,yD,ep',hL,r'⟩) fB I.bare
def Inv.call {g':Array GenState}{t':Nat}{d':Drawn}{ch:ao aj}(I:Inv X ee σ H s)(u:Un (zF X.stack) ch H H' s.heap h')(fB:rA X.prog X.w H' h')(hg:AllBare g')
 (Hu:∀ b∈ch,(b∈X.ex\/X.s₀.heap.objs.size<=b)/\b≠X.env.locals/\(∀ x c,X.env.cells.lookup x=some c->c≠b)/\∀ p∈X.pn++ee,p.1≠b):
 Inv X ee σ H' {s with heap:=h',gens:=g',drawn:=d',toks:=t'}:=by
 obtain⟨m,⟨o,es,ep,ho,r⟩,_⟩:=id I.loc;obtain⟨sl,hL⟩:=u.any ho I.free λz=>(Hu _ z).2.1 rfl;exact I.step (ch:=ch) Hu (λb o hL hb hc e n=>u.keep b o e n (λz=>(List.mem_cons.mp<|I.wG b z).elim hL hb) hc) (λb o _ _ hc e n=>u.any e n hc) (λb o hc e n=>u.free b o e n hc) (λb o hc e=>u.there b o e hc) u.sD u.sd u.sE (λm' hm=>by
  refine Nt hm λo' yD ep' zA r'=>?_
  rw[ho]at zA;cases zA
  exact⟨_,yD,ep',hL,r'⟩) fB hg
def Inv.turned {t':Nat}{it:aj}(I:Inv X ee σ H s)(k:∀ b o,b≠it->s.heap.get? b=some o->h'.get? b=some o)(hn:H it=none)(hL:it≠X.env.locals)
 (h1:it∈X.ex\/X.s₀.heap.objs.size<=it) (h2:∀ x c,X.env.cells.lookup x=some c->c≠it) (h3:∀ p∈X.pn++ee,p.1≠it):Inv X ee σ H {s with heap:=h',toks:=t'}:=by
 have nit:∀ b u,H b=some u->b≠it:=λb u e z=>by rw[z,hn]at e;cases e
 refine I.step (g':=s.gens) (d':=s.drawn) (ch:=[it]) (λb hb=>?_) (λb o _ _ hc e _=>k b o (λz=>hc<|by simp[z]) e) (λb o _ _ hc e _=>⟨o.slots,k b o (λz=>hc<|by simp[z]) e⟩) (λ_ _ _ _ n=>n)
  (λb o hc e=>⟨o,k b o (λz=>hc<|by simp[z]) e⟩) (λ_ _ e=>e) (λ_ _ _ e=>e) (λb ps e=>⟨#[],by rw[e];simp⟩) (λm hm=>?_) (λb u e=>?_) I.bare
 .have e:b=it:=by simpa using hb
  subst e
  exact⟨h1,hL,h2,h3⟩
 .refine Nt hm λo es ep ho r=>?_;exact⟨o,es,ep,k _ o (bz hL) ho,r⟩
 .refine(I.fB b u e).uu (λc v hc q=>k c v ?_ q) (λ_ q=>q) λ_ _ q=>q;rcases hc with z|z
  .rw[z];exact nit b u e
  .exact nit c _ z
def Inv.tok (I:Inv X ee σ H s)(t:Nat):Inv X ee σ H {s with toks:=t}:=I.un (h':=s.heap) (t':=t) Un.refl I.fB
theorem Inv.eI {t':Nat}(I:Inv X ee σ H s)(k:∀ b u,s.heap.get? b=some u->h'.get? b=some u):Inv X ee σ H {s with heap:=h',toks:=t'}:=I.un (Un.eI k) (I.fB.eI k)
theorem Inv.laid {a:aj}{o:HO}{t':Nat}(I:Inv X ee σ H s)(k:∀ b u,s.heap.get? b=some u->h'.get? b=some u)(hp:s.heap.objs.size<=a)(new:iQ X.prog X.w (upd H a o) h' a o):
 Inv X ee σ (upd H a o) {s with heap:=h',toks:=t'}:=I.un (Un.laid k hp<|I.fB.fresh hp) (I.fB.laid k hp new)
theorem Inv.write {x e:aj}{o:HO}{t':Nat}(I:Inv X ee σ H s)(mu:Mut (H x))(he:e=x\/H e=some (.own x))(k:∀ b u,b≠e->s.heap.get? b=some u->h'.get? b=some u)(W5:∃ u,h'.get? e=some u)
 (new:iQ X.prog X.w (upd H x o) h' x o):Inv X ee σ (upd H x o) {s with heap:=h',toks:=t'}:=I.un (Un.write mu he k W5) (I.fB.write mu he k W5 new)
def Inv.weak {gL:ao (aq V)}(I:Inv X ee σ H s)(hl:gL.length=σ.length)(w:∀(i:Nat) v,gL[i]?=some (some v)->σ[i]?=some (some v)):Inv X ee gL H s :=
 ⟨I.ok,I.os,I.bare,I.eB,let ⟨m,hn,VJ⟩:=I.loc;⟨m,hn,λi x v e1 e2 e3=>VJ i x v e1 (w i v e2) e3⟩,I.cell,I.free,I.ky,I.pin,I.fB,hl.trans I.len⟩
def Inv.pQ {pins':ao (aj×Obj)}(I:Inv X ee σ H s)(h:∀ p∈pins',s.heap.get? p.1=some p.2/\H p.1=none/\p.1≠X.env.locals/\p.1∉X.fs/\∀ v,p.2.data≠.cell v):Inv X pins' σ H s :=
 ⟨I.ok,I.os,I.bare,I.eB,I.loc,I.cell,I.free,I.ky,λp hp=>(List.mem_append.mp hp).elim (λz=>I.pin p<|bT _ z)<|h p,I.fB,I.len⟩
def xu {N:ao Str}(hN:N.Nodup){i j:Nat}{x:Str}(a:N[i]?=some x)(b:N[j]?=some x):i=j:=by obtain⟨h1,e1⟩:=mW a;obtain⟨h2,e2⟩:=mW b;exact(List.getElem_inj hN).mp (e1.trans e2.symm)
def zh {M:Model}{A:Around}{E:ak->ai->Prop}{i:Nat}{x:Str}{v:V}{u:ak}{Q:Unit->ai->Prop}(I:Inv X ee σ H s)(hN:X.N.Nodup)(hi:X.N[i]?=some x)(hx:Loc X.env.scope x)(r:fM v u)
 (h:∀ s',Inv X ee (σ.set i<|some v) H s'->(∃ a,Heap.SameBut a s.heap s'.heap/\(a=X.env.locals\/X.env.cells.lookup x=some a))->Q () s') (hf:X.fn x=true\/X.env.scope.names.lookup x=some .local:=by first|exact .inl rfl|exact .inr rfl|assumption):wpAny M A (storeName X.env x u) Q E s:=by
 refine eS (id I.loc) λm hn hl=>?_;have VP:(X.env.scope.kind==.class||(X.env.scope.kind==.module&&X.env.locals != X.env.globals))=false:=by rw[I.ok.kind];rfl
 have Zd:i<σ.length:=by rw[I.len];exact(mW hi).1
 have Rk:=I.Rk;have tracked:∀ {a:aj} {h':Heap},(∃ o,s.heap.get? a=some o/\H a=none)->Heap.SameBut a s.heap h'->rA X.prog X.w H h':=λ{a h'} ha hs b ob e=>by
  obtain⟨_,_,SA⟩:=ha;refine(I.fB b ob e).uu (λc w' hc q=>(hs.2 c ?_).trans q) (λ_ q=>q) λ_ _ q=>q;rintro rfl;rcases hc with rfl|hc
  .rw[SA]at e;cases e
  .rw[SA]at hc;cases hc
 rcases hx with hk|hk
 .refine wpAny_storeName_local hk hn (λh' hn' hs=>?_) VP;obtain⟨oL,_,_,hoL,_⟩:=id hn;refine h _ ⟨I.ok,I.os,I.bare,⟨λb o e n hb hx=>?_,λb o e n hb hx=>?_,I.eB.free,λb o e hx=>?_,I.eB.sD,I.eB.sd,I.eB.sE⟩,⟨_,hn',λj y v' e1 e2 e3=>?_⟩,λy c e=>?_,I.free,I.ky,λp hp=>?_,tracked ⟨oL,hoL,I.free⟩ hs,by simpa using I.len⟩ ⟨_,hs,.inl rfl⟩
  .exact(hs.2 b<|aF<|aL (kG e) I.ok.above).trans (I.eB.keep b o e n hb hx)
  .obtain⟨sl,e1⟩:=I.eB.slot b o e n hb hx;exact⟨sl,(hs.2 b<|aF<|aL (kG e) I.ok.above).trans e1⟩
  .obtain⟨o',e1⟩:=I.eB.there b o e hx;exact⟨o',(hs.2 b<|aF<|aL (kG e) I.ok.above).trans e1⟩
  .by_cases hj:j=i
   .subst hj;rw[hi]at e1;cases e1;rw[aJ Zd]at e2;cases e2;exact⟨u,r,.inl ⟨hk,by simp⟩⟩
   .rw[aA (bz hj)]at e2;refine eS (hl j y v' e1 e2 e3) λu' r' q=>?_;refine⟨u',r',?_⟩;rcases q with⟨k,e⟩|⟨k,c,e,z⟩
    .refine .inl ⟨k,?_⟩;have:y≠x:=λe=>hj<|xu hN e1<|e▸hi;simp[this,e]
    .exact .inr ⟨k,c,e,z.sameBut hs<|Rk y c e⟩
  .obtain⟨w',z⟩:=I.cell y c e;exact⟨w',z.sameBut hs<|Rk y c e⟩
  .refine QS (I.pin p hp) λe n ne nf d=>?_;exact⟨(hs.2 p.1 ne).trans e,n,ne,nf,d⟩
 .have hfn:X.fn x=true:=by
   rcases hf with z|z
   .exact z
   .rw[z]at hk;cases hk
  obtain⟨c,hc⟩:=I.ok.has x (.inl hk)
  obtain⟨w',z⟩:=I.cell x c hc
  refine wpAny_storeName_cell I.ok.kind hk hc z (λh' vj hs=>?_)
  refine eS (id z) λoc hoc hocd=>?_
  refine h {s with heap:=h'} ⟨I.ok,I.os,I.bare,⟨λb o e n hb hx=>?_,λb o e n hb hx=>?_,I.eB.free,λb o e hx=>?_,I.eB.sD,I.eB.sd,I.eB.sE⟩,⟨m,hn.sameBut hs<|bz<|Rk x c hc,λj y v' e1 e2 e3=>?_⟩,λy c' e=>?_,I.free,I.ky,λp hp=>?_,tracked ⟨oc,hoc,I.ky x c hc⟩ hs,by simpa using I.len⟩ ⟨c,hs,.inr hc⟩
  .exact(hs.2 b<|aF<|aL (kG e)<|I.ok.Ws x c hfn hc).trans (I.eB.keep b o e n hb hx)
  .obtain⟨sl,e1⟩:=I.eB.slot b o e n hb hx;exact⟨sl,(hs.2 b<|aF<|aL (kG e)<|I.ok.Ws x c hfn hc).trans e1⟩
  .obtain⟨o',e1⟩:=I.eB.there b o e hx;exact⟨o',(hs.2 b<|aF<|aL (kG e)<|I.ok.Ws x c hfn hc).trans e1⟩
  .by_cases hj:j=i
   .subst hj;rw[hi]at e1;cases e1;rw[aJ Zd]at e2;cases e2;exact⟨u,r,.inr ⟨.inl hk,c,hc,vj⟩⟩
   .rw[aA (bz hj)]at e2;refine eS (hl j y v' e1 e2 e3) λu' r' q=>?_;refine⟨u',r',?_⟩;rcases q with q|⟨k,c',e,z'⟩
    .exact .inl q
    .refine .inr ⟨k,c',e,z'.sameBut hs ?_⟩;rintro rfl;exact hj (xu hN e1<|I.ok.inj _ _ _ e hc▸hi)
  .by_cases OS:c'=c
   .subst OS;exact⟨_,vj⟩
   .obtain⟨w2,z2⟩:=I.cell y c' e;exact⟨w2,z2.sameBut hs OS⟩
  .refine QS (I.pin p hp) λe n ne nf d=>?_;refine⟨(hs.2 p.1 ?_).trans e,n,ne,nf,d⟩;intro q;rw[q,hoc]at e;have q':oc=p.2:=aW e;exact d w' (q'▸hocd)
def qE {M:Model}{A:Around}{E:ak->ai->Prop}{i:Nat}{x:Str}{v:V}{u:ak}{Q:Unit->ai->Prop}(I:Inv X ee σ H s)(hN:X.N.Nodup)(hi:X.N[i]?=some x)(hx:Loc X.env.scope x)(r:fM v u)
 (h:∀ s',Inv X ee (σ.set i<|some v) H s'->Q () s') (hf:X.fn x=true\/X.env.scope.names.lookup x=some .local:=by first|exact .inl rfl|exact .inr rfl|assumption):wpAny M A (storeName X.env x u) Q E s:=
 zh I hN hi hx r (λs' I' _=>h s' I') hf
def Inv.zP {s':ai}{ch:ao aj}(I:Inv X ee σ H s)(ho:s'.os=s.os)(u:Un (zF X.stack) ch H H' s.heap s'.heap)(fB:rA X.prog X.w H' s'.heap)(hg:AllBare s'.gens)
 (Hu:∀ b∈ch,(b∈X.ex\/X.s₀.heap.objs.size<=b)/\b≠X.env.locals/\(∀ x c,X.env.cells.lookup x=some c->c≠b)/\∀ p∈X.pn++ee,p.1≠b):Inv X ee σ H' s':=by
 obtain⟨h',g',d',t',o'⟩:=s';have e:o'=s.os:=ho;subst e;exact I.call (g':=g') (t':=t') (d':=d') u fB hg Hu
end
abbrev XK:=ak->aq aj->Hp->Prop
abbrev St:=ao (aq V)
abbrev VK:=V->Hp->Prop
abbrev TE:=St->Hp->VK->Prop
abbrev TT:=St->Hp->(Bool->Hp->Prop)->Prop
abbrev TA:=St->Hp->(ao V->Hp->Prop)->Prop
structure Ends where
 nx:St->Hp->Prop
 rt:VK
 bk:St->Hp->Prop:=λ_ _=>False
 ct:St->Hp->Prop:=λ_ _=>False
abbrev TS:=Ends->St->Hp->Prop
def EP (X:Cx)(ee:ao (aj×Obj))(σ:St)(Q:VK)(u:ak)(s':ai):Prop:=∃ v H',Inv X ee σ H' s'/\fM v u/\Q v H'
def TP (X:Cx)(ee:ao (aj×Obj))(σ:St)(Q:Bool->Hp->Prop)(b:Bool)(s':ai):Prop:=∃ H',Inv X ee σ H' s'/\Q b H'
def AP (X:Cx)(ee:ao (aj×Obj))(σ:St)(Q:ao V->Hp->Prop)(us:ao ak)(s':ai):Prop:=∃ vs H',Inv X ee σ H' s'/\fH vs us/\Q vs H'
def SP (X:Cx)(ee:ao (aj×Obj))(D:Ends)(f:Flow)(s':ai):Prop :=
 match f with
 |.next=>∃ gL H',Inv X ee gL H' s'/\D.nx gL H'
 |.brk=>∃ gL H',Inv X ee gL H' s'/\D.bk gL H'
 |.cont=>∃ gL H',Inv X ee gL H' s'/\D.ct gL H'
 |.ret u=>∃ v gL H',Inv X ee gL H' s'/\fM v u/\D.rt v H'
def PE (X:Cx)(e:Expr)(t:TE):Prop :=
 ∀(ee:ao (aj×Obj)) (s:ai) (σ:St) (H:Hp) (Q:VK),Inv X ee σ H s->t σ H Q->wpAny (model X.prog X.w) X.A (eval e X.env) (EP X ee σ Q) X.xe s
def PT (X:Cx)(e:Expr)(t:TT):Prop :=
 ∀(ee:ao (aj×Obj)) (s:ai) (σ:St) (H:Hp) (Q:Bool->Hp->Prop),Inv X ee σ H s->t σ H Q->wpAny (model X.prog X.w) X.A (isTrue e X.env<|eval e X.env) (TP X ee σ Q) X.xe s
def PW (X:Cx)(e:Expr)(t:TT):Prop :=
 ∀(whole:Sem ak) (ee:ao (aj×Obj)) (s:ai) (σ:St) (H:Hp) (Q:Bool->Hp->Prop),Inv X ee σ H s->t σ H Q->wpAny (model X.prog X.w) X.A (isTrue e X.env whole) (TP X ee σ Q) X.xe s
def PW.pt {X:Cx}{e:Expr}{t:TT}(h:PW X e t):PT X e t:=h _
def PA (X:Cx)(es:ao Expr)(t:TA):Prop :=
 ∀(pos:Pos) (ee:ao (aj×Obj)) (s:ai) (σ:St) (H:Hp) (Q:ao V->Hp->Prop),Inv X ee σ H s->t σ H Q->wpAny (model X.prog X.w) X.A (spliced<|backTo pos<|starEach es X.env) (AP X ee σ Q) X.xe s
def PS (X:Cx)(st:Stmt)(t:TS):Prop :=
 ∀(ee:ao (aj×Obj)) (s:ai) (σ:St) (H:Hp) (D:Ends),Inv X ee σ H s->t D σ H->wpAny (model X.prog X.w) X.A (exec st X.env) (SP X ee D) X.xe s
def yt (X:Cx)(st:ao Stmt)(t:TS):Prop :=
 ∀(ee:ao (aj×Obj)) (s:ai) (σ:St) (H:Hp) (D:Ends),Inv X ee σ H s->t D σ H->wpAny (model X.prog X.w) X.A (execs st X.env) (SP X ee D) X.xe s
def gg {α:Type}{t:Sem α}{Q Q':α->ai->Prop}{M:Model}{A:Around}{E:ak->ai->Prop}{s:ai}(h:wpAny M A t Q E s)(hQ:∀ a s,Q a s->Q' a s):wpAny M A t Q' E s:=bf h hQ λ_ _ x=>x
section
variable {X:Cx}
def bin {a b:Expr}{ta tb:TE}(ha:PE X a ta)(hb:PE X b tb){ee:ao (aj×Obj)}{s:ai}{σ:St}{H:Hp}{R:V->V->Hp->Prop}(I:Inv X ee σ H s)(h:ta σ H λx H1=>tb σ H1 λy H2=>R x y H2)
 {α:Type} {Q:α->ai->Prop} {f:ak->ak->Sem α}
 (hf:∀ v u s2 x y H2,Inv X ee σ H2 s2->fM x v->fM y u->R x y H2->wpAny (model X.prog X.w) X.A (f v u) Q X.xe s2):
 wpAny (model X.prog X.w) X.A (eval a X.env) (λv s₁=>wpAny (model X.prog X.w) X.A (eval b X.env) (λu s₂=>wpAny (model X.prog X.w) X.A (f v u) Q X.xe s₂) X.xe s₁) X.xe s:=by
 refine gg (ha ee s σ H _ I h) λv s1 h_=>fw h_ λx H1 I1 r1 q1=>?_;refine gg (hb ee s1 σ H1 _ I1 q1) λu s2 h_=>fw h_ λy H2 I2 r2 q2=>?_;exact hf v u s2 x y H2 I2 r1 r2 q2
def Xs (i:Nat):TE:=λσ H Q=>∃ v,σ[i]?=some (some v)/\Q v H
def tC (v:V):TE:=λ_ H Q=>Q v H
def A0 {i:Nat}{x:Str}{pos:Pos}(hN:X.N[i]?=some x)(hv:To X.env.scope x)(hd:(x==("__debug__" : Str))=false:=by decide)(yY:(x==("__classdict__" : Str))=false:=by decide):PE X (.Name x pos) (Xs i):=by
 intro ee s σ H Q I h;refine eS h λv e h=>?_;refine eS I.loc λm hn hl=>?_;refine eS (hl i x v hN e hv) λu r l=>?_;have fin:EP X ee σ Q u s:=⟨v,H,I,r,h⟩;rcases l with⟨hk,hm⟩|⟨hk,c,hc,vi⟩
 .exact wpAny_Name (wpAny_loadName_local I.ok.kind hk hn hm fin) hd
 .rcases hk with hk | hk
  .exact wpAny_Name (wpAny_loadName_cell I.ok.kind hk hc vi fin) hd
  .exact wpAny_Name (wpAny_loadName_free I.ok.kind hk hc vi fin yY) hd
def gF {i j pos}:PE X (.Constant (.int i) j pos) (tC<|.int i):=λ_ _ _ H _ I h=>wpAny_Constant_int ⟨.int i,H,I.tok _,⟨_,rfl⟩,h⟩
def LQ {b j pos}:PE X (.Constant (.bool b) j pos) (tC<|.bl b):=λ_ _ _ H _ I h=>Constant_bool ⟨.bl b,H,I,rfl,h⟩
def UN {j pos}:PE X (.Constant .none j pos) (tC .gw):=λ_ _ _ H _ I h=>Constant_none ⟨.gw,H,I,rfl,h⟩
def UM {x j pos}:PE X (.Constant (.str x) j pos) (tC<|.str x):=λ_ _ _ H _ I h=>dH ⟨.str x,H,I.tok _,⟨_,rfl⟩,h⟩
def Gl (X:Cx)(x:Str):Prop:=X.env.kindOf x=some .globalImplicit
def lg {E:ak->ai->Prop}{ee:ao (aj×Obj)}{s:ai}{σ:St}{H:Hp}{x:Str}{u:ak}{pos:Pos}{Q:ak->ai->Prop}(I:Inv X ee σ H s)(hg:Gl X x)(hm:X.mg x=some u)(h:Q u s)
 (hd:(x==("__debug__" : Str))=false:=by decide):wpAny (model X.prog X.w) X.A (eval (.Name x pos) X.env) Q E s:=
 Calls.Name_function_global I.ok.kind hg (Calls.loadGlobal_global (I.ok.glob▸I.mod.glob.keeps I.bk) hm h) hd
def nN {E:ak->ai->Prop}{ee:ao (aj×Obj)}{s:ai}{σ:St}{H:Hp}{x:Str}{u:ak}{pos:Pos}{Q:ak->ai->Prop}(I:Inv X ee σ H s)(hg:Gl X x)(hm:X.mg x=none)(hv:bootBuiltins x=some u)(h:Q u s)
 (hn:x ≠ "__name__":=by decide) (hd:(x==("__debug__" : Str))=false:=by decide):wpAny (model X.prog X.w) X.A (eval (.Name x pos) X.env) Q E s:=by
 refine eS I.mod.blt λmb h1 h2=>?_;exact Calls.Name_function_global I.ok.kind hg (Calls.loadGlobal_builtin (I.ok.glob▸I.mod.glob.keeps I.bk) hm (I.ok.blt▸h1.keeps I.bk) ((h2 x hn).trans hv) h) hd
def He {x:Str}{v:V}{u:ak}{pos:Pos}(hg:Gl X x)(hm:X.mg x=some u)(r:fM v u)(hd:(x==("__debug__" : Str))=false:=by decide):PE X (.Name x pos) (tC v) :=
 λ_ _ _ H _ I h=>lg I hg hm ⟨v,H,I,r,h⟩ hd
def ji {x:Str}{v:V}{u:ak}{pos:Pos}(hg:Gl X x)(hm:X.mg x=none)(hv:bootBuiltins x=some u)(r:fM v u)(hn:x ≠ "__name__":=by decide)(hd:(x==("__debug__" : Str))=false:=by decide):PE X (.Name x pos) (tC v) :=
 λ_ _ _ H _ I h=>nN I hg hm hv ⟨v,H,I,r,h⟩ hn hd
variable {a b:Expr}{ta tb:TE}{pos:Pos}
def PC (X:Cx)(op:CmpOp)(a b:Expr)(t:TE):Prop :=
 ∀(ee:ao (aj×Obj)) (s:ai) (σ:St) (H:Hp) (Q:VK),Inv X ee σ H s->t σ H Q ->
  wpAny (model X.prog X.w) X.A (eval a X.env) (λv s₁=>wpAny (model X.prog X.w) X.A (eval b X.env) (λu s₂=>wpAny (model X.prog X.w) X.A (compareOp op v u) (EP X ee σ Q) X.xe s₂) X.xe s₁) X.xe s
def Dv (b:Expr){op:CmpOp}(h:op≠.In)(h2:op≠.NotIn):behindInMarks op b=false:=by
 have e1:(op==CmpOp.In)=false:=by cases op<;>first|rfl|exact absurd rfl h
 have e2:(op==CmpOp.NotIn)=false:=by cases op<;>first|rfl|exact absurd rfl h2
 cases b<;>simp[behindInMarks,e1,e2]
def Xx (ta:TE):TE:=λσ H Q=>ta σ H λx H1=>Q (.bl<|decide (x=.gw)) H1
def RX (ta:TE):TE:=λσ H Q=>ta σ H λx H1=>Q (.bl<|!decide (x=.gw)) H1
def fM.Dr {x:V}{v:ak}(r:fM x v):(v==Value.none)=decide (x=.gw):=by
 cases x with
 |gw=>subst r;rfl
 |bl _=>subst r;rfl
 |int _=>obtain⟨t,rfl⟩:=r;rfl
 |str _=>obtain⟨t,rfl⟩:=r;rfl
 |GD _=>obtain⟨t,rfl⟩:=r;rfl
 |SK _=>obtain⟨t,rfl⟩:=r;rfl
 |ref _=>subst r;rfl
 |ty _=>subst r;rfl
def US {j pos'}(ha:PE X a ta):PC X .Is a (.Constant .none j pos') (Xx ta):=by intro ee s σ H Q I h;refine gg (ha ee s σ H _ I h) λv s1 h_=>fw h_ λx H1 I1 r1 q1=>?_;exact Constant_none (is_none_gen ⟨.bl _,H1,I1,by rw[r1.Dr];rfl,q1⟩)
def Hh {j pos'}(ha:PE X a ta):PC X .IsNot a (.Constant .none j pos') (RX ta):=by intro ee s σ H Q I h;refine gg (ha ee s σ H _ I h) λv s1 h_=>fw h_ λx H1 I1 r1 q1=>?_;exact Constant_none (isnot_none_gen ⟨.bl _,H1,I1,by rw[r1.Dr];rfl,q1⟩)
def tB (t:TE):TT:=λσ H Q=>t σ H λx H1=>∃ c,x=.bl c/\Q c H1
def UQ {op:CmpOp}{t:TE}(h:PC X op a b t)(h1:behindInMarks op b=false:=by first|exact Dv _ rfl rfl|rfl):PE X (.Compare a [op] [b] pos) t:=λee s σ H Q I hw=>wpAny_Compare1 (h ee s σ H Q I hw) h1
def AX {op:CmpOp}{t:TE}(h:PC X op a b t)(h1:behindInMarks op b=false:=by first | exact Dv _ rfl rfl | rfl):PT X (.Compare a [op] [b] pos) (tB t):=by intro ee s σ H Q I hw;refine wpAny_isTrue_Compare1 (gg (h ee s σ H _ I hw) λv s1 h1=>gg h1 λu s2 h2=>gg h2 λc s3 h_=>fw h_ λx H1 I1 r1 q1=>?_) h1;obtain⟨d,rfl,q⟩:=q1;subst r1;exact bL ⟨H1,I1,q⟩
variable {tA tB':TT}{rest:ao Expr}
def XF (t u:TT):TT:=λσ H Q=>t σ H λc H1=>if c=true then u σ H1 Q else Q false H1
def tOr (t u:TT):TT:=λσ H Q=>t σ H λc H1=>if c=true then Q true H1 else u σ H1 Q
def tNot (t:TT):TT:=λσ H Q=>t σ H λc H1=>Q (!c) H1
def pw_and1 (ha:PT X a tA):PW X (.BoolOp .And [a] pos) tA:=by
 intro wh ee s σ H Q I h;refine isTrue_and (gg (ha ee s σ H Q I h) λc s1 e=>?_);cases c with
 |true=>exact isTrue_and_nil e
 |false=>exact e
def pw_or1 (ha:PT X a tA):PW X (.BoolOp .Or [a] pos) tA:=by
 intro wh ee s σ H Q I h;refine isTrue_or (gg (ha ee s σ H Q I h) λc s1 e=>?_);cases c with
 |false=>exact isTrue_or_nil e
 |true=>exact e
def pw_and (ha:PT X a tA)(hb:PW X (.BoolOp .And (b::rest) pos) tB'):PW X (.BoolOp .And (a::b::rest) pos) (XF tA tB'):=by
 intro wh ee s σ H Q I h;refine isTrue_and (gg (ha ee s σ H _ I h) λc s1 h_=>eS h_ λH1 I1 q1=>?_);cases c with
 |true=>exact hb wh ee s1 σ H1 Q I1 q1
 |false=>exact⟨H1,I1,q1⟩
def pw_or (ha:PT X a tA)(hb:PW X (.BoolOp .Or (b::rest) pos) tB'):PW X (.BoolOp .Or (a::b::rest) pos) (tOr tA tB'):=by
 intro wh ee s σ H Q I h;refine isTrue_or (gg (ha ee s σ H _ I h) λc s1 h_=>eS h_ λH1 I1 q1=>?_);cases c with
 |true=>exact⟨H1,I1,q1⟩
 |false=>exact hb wh ee s1 σ H1 Q I1 q1
def Uy (ha:PT X a tA):PT X (.UnaryOp .Not a pos) (tNot tA):=by intro ee s σ H Q I h;exact isTrue_not (ha ee s σ H (λc H1=>Q (!c) H1) I h)
def Fl {op}{t:TE}(h:PE X a t):PE X (.BoolOp op [a] pos) t:=λee s σ H Q I hw=>BoolOp_one (h ee s σ H Q I hw)
def tIf (t:TT)(ta tb:TE):TE:=λσ H Q=>t σ H λc H1=>if c=true then ta σ H1 Q else tb σ H1 Q
def LL {c:Expr}(hc:PT X c tA)(ha:PE X a ta)(hb:PE X b tb):PE X (.IfExp c a b pos) (tIf tA ta tb):=by
 intro ee s σ H Q I h;refine wpAny_IfExp (gg (hc ee s σ H _ I h) λd s1 h_=>eS h_ λH1 I1 q1=>?_);cases d with
 |true=>exact ha ee s1 σ H1 Q I1 q1
 |false=>exact hb ee s1 σ H1 Q I1 q1
end
def qv (K:aa)(H:Hp)(a:aj)(xs:ao V):Prop :=
 Rd H a (.lst xs) \/
  ∃(o:Obj) (fu:Array ak) (n:Nat),K.lookup a=some o/\o.cls=.type "list"/\o.dict=none/\o.data=.seq fu n/\fu.size<=sizeLine/\fH xs fu.toList
def Cs (K:aa)(H:Hp)(a:aj)(xs:ao V):Prop :=
 Rd H a (.tup xs) \/
  ∃(o:Obj) (fu:Array ak) (n:Nat),K.lookup a=some o/\o.cls=.type "tuple"/\o.data=.seq fu n/\fu.size<=sizeLine/\fH xs fu.toList
def absV:ak->aq V
 |.none=>some .gw
 |.bool b=>some (.bl b)
 |.int i _=>some (.int i)
 |.str x _=>some (.str x)
 |.bytes b _=>some (.GD b)
 |.float b _=>some (.SK b)
 |.ref a=>some (.ref a)
 |.type n=>some (.ty n)
 |_=>none
def fM.abs {x:V}{u:ak}(r:fM x u):absV u=some x:=by
 cases x with
 |gw=>subst r;rfl
 |bl _=>subst r;rfl
 |int _=>obtain⟨t,rfl⟩:=r;rfl
 |str _=>obtain⟨t,rfl⟩:=r;rfl
 |GD _=>obtain⟨t,rfl⟩:=r;rfl
 |SK _=>obtain⟨t,rfl⟩:=r;rfl
 |ref _=>subst r;rfl
 |ty _=>subst r;rfl
theorem fM.inj {x y:V}{u:ak}(r:fM x u)(q:fM y u):x=y:=aW (r.abs.symm.trans q.abs)
theorem fH.inj {xs ys:ao V}{us:ao ak}(h:fH xs us)(g:fH ys us):xs=ys:=by
 induction h generalizing ys with
 |nil=>cases g;rfl
 | cons r t ih =>
  cases g with
  |cons r' t'=>rw[r.inj r',ih t']
section
variable {X:Cx}{ee:ao (aj×Obj)}{σ:St}{H:Hp}{s:ai}{a:aj}{xs ys:ao V}
def qv.of {K:aa}(h:H a=some (.lst xs)):qv K H a xs:=.inl (.inl h)
def Cs.of {K:aa}(h:H a=some (.tup xs)):Cs K H a xs:=.inl (.inl h)
def Inv.list (I:Inv X ee σ H s)(h:qv X.K H a xs):∃ fu:ao ak,fH xs fu/\PlainL s.heap a fu.toArray/\xs.length<=sizeLine:=by
 rcases h with h|⟨o,fu,n,hk,hc,hd,hs,hz,r⟩
 .obtain⟨z,fu,n,r,e⟩:=h.ok I.fB;exact⟨fu,r,⟨_,n,e,rfl,rfl,rfl⟩,z⟩
 .refine⟨fu.toList,r,⟨o,n,I.om a o hk,hc,hd,by simpa using hs⟩,?_⟩;have e:=r.length;simp only[cu]at e;lia
def Inv.tuple (I:Inv X ee σ H s)(h:Cs X.K H a xs):∃ fu:ao ak,fH xs fu/\IsTup s.heap a fu.toArray/\xs.length<=sizeLine:=by
 rcases h with h|⟨o,fu,n,hk,hc,hs,hz,r⟩
 .obtain⟨z,fu,r,p⟩:=h.ok I.fB;exact⟨fu,r,p,z⟩
 .refine⟨fu.toList,r,⟨o,I.om a o hk,hc,n,by simpa using hs⟩,?_⟩;have e:=r.length;simp only[cu]at e;lia
def Inv.Md (I:Inv X ee σ H s)(h:qv X.K H a xs)(h':qv X.K H a ys):xs=ys:=by
 obtain⟨fu,r,⟨o,n,e,_,_,d⟩,_⟩:=I.list h;obtain⟨its',r',⟨o',n',e',_,_,d'⟩,_⟩:=I.list h';rw[e]at e';cases e';rw[d]at d';injection d' with d1 _;have:fu=its':=by simpa using bG Array.toList d1
 subst this;exact r.inj r'
end
abbrev Cx.yG (X:Cx)(E:ak->ai->Prop):Cx:={ X with xe:=E}
abbrev Cx.U8 (X:Cx):Cx:=X.yG λ_ _=>False
theorem Cx.Ok.yG {X:Cx}(ok:X.Ok)(E:ak->ai->Prop):(X.yG E).Ok :=
 ⟨ok.mod,ok.kind,ok.glob,ok.blt,ok.above,ok.inj,ok.has,ok.Ws,ok.hd,ok.frames,ok.WU,ok.y3,ok.bs,ok.Ia,ok.Du,ok.D4,ok.r9,ok.OU⟩
def Cx.Ok.qz {X:Cx}{E:ak->ai->Prop}(ok:(X.yG E).Ok):X.Ok :=
 ⟨ok.mod,ok.kind,ok.glob,ok.blt,ok.above,ok.inj,ok.has,ok.Ws,ok.hd,ok.frames,ok.WU,ok.y3,ok.bs,ok.Ia,ok.Du,ok.D4,ok.r9,ok.OU⟩
section
variable {X:Cx}{ee:ao (aj×Obj)}{σ:St}{H:Hp}{s:ai}{E:ak->ai->Prop}
theorem Inv.yG (I:Inv X ee σ H s)(E:ak->ai->Prop):Inv (X.yG E) ee σ H s:=⟨I.ok.yG E,I.os,I.bare,I.eB,I.loc,I.cell,I.free,I.ky,I.pin,I.fB,I.len⟩
theorem Inv.qz (I:Inv (X.yG E) ee σ H s):Inv X ee σ H s:=⟨I.ok.qz,I.os,I.bare,I.eB,I.loc,I.cell,I.free,I.ky,I.pin,I.fB,I.len⟩
theorem SP.qz {D:Ends}{f:Flow}{s':ai}(h:SP (X.yG E) ee D f s'):SP X ee D f s':=by
 cases f with
 |next=>obtain⟨gL,H',I,q⟩:=h;exact⟨gL,H',I.qz,q⟩
 |brk=>obtain⟨gL,H',I,q⟩:=h;exact⟨gL,H',I.qz,q⟩
 |cont=>obtain⟨gL,H',I,q⟩:=h;exact⟨gL,H',I.qz,q⟩
 |ret u=>obtain⟨v,gL,H',I,r,q⟩:=h;exact⟨v,gL,H',I.qz,r,q⟩
theorem yt.U8 {st:ao Stmt}{t:TS}(h:yt X.U8 st t):yt X st t:=λee s σ H D I hw =>bf (h ee s σ H D (I.yG _) hw) (λ_ _ q=>q.qz) λ_ _ z=>False.elim z
end
section
variable {X:Cx}{st:Stmt}{rest:ao Stmt}{t u:TS}{e:Expr}{te:TE}{pos:Pos}
def Xw:TS:=λD σ H=>D.nx σ H
def TN (t u:TS):TS:=λD σ H=>t { D with nx:=u D} σ H
def ni:yt X [] Xw:=λ_ _ σ H _ I h=>dq ⟨σ,H,I,h⟩
def gN (h1:PS X st t)(h2:yt X rest u):yt X (st::rest) (TN t u):=by
 intro ee s σ H D I h;refine dg (gg (h1 ee s σ H { D with nx:=u D} I h) λf s1 q=>?_);cases f with
 | next =>refine mD q λgL H' I' q=>?_;exact h2 ee s1 gL H' D I' q
 |ret v=>exact q
 |brk=>exact q
 |cont=>exact q
def lY (h1:PS X st t):yt X [st] t:=by
 intro ee s σ H D I h;refine dg (gg (h1 ee s σ H D I h) λf s1 q=>?_);cases f with
 |next=>exact dq q
 |ret v=>exact q
 |brk=>exact q
 |cont=>exact q
def Inv.quiet {ee:ao (aj×Obj)}{σ:St}{H:Hp}{s:ai}(I:Inv X ee σ H s):interactive X.env=false:=by simp[interactive,I.ok.kind]
def Xz (te:TE):TS:=λD σ H=>te σ H λ_ H1=>D.nx σ H1
def PV (he:PE X e te)(hs:swapsWith e none pos.line X.env=pure false:=by rfl):PS X (.Expr e pos) (Xz te):=by intro ee s σ H D I h;exact wpAny_Expr_any (gg (he ee s σ H _ I h) λv s1 h_=>fw h_ λx H1 I1 r1 q1=>⟨σ,H1,I1,q1⟩) I.quiet hs
def tRet (te:TE):TS:=λD σ H=>te σ H D.rt
def oW (he:PE X e te):PS X (.Return (some e) pos) (tRet te):=by intro ee s σ H D I h;exact wpAny_Return_some (gg (he ee s σ H _ I h) λv s1 h_=>fw h_ λx H1 I1 r1 q1=>⟨x,σ,H1,I1,r1,q1⟩)
def Xy (c:TT)(t u:TS):TS:=λD σ H=>c σ H λb H1=>if b=true then t D σ H1 else u D σ H1
def u9 {c:Expr}{a b:ao Stmt}{tc:TT}(hc:PT X c tc)(ha:yt X a t)(hb:yt X b u):PS X (.If c a b pos) (Xy tc t u):=by
 intro ee s σ H D I h;refine wpAny_If (gg (hc ee s σ H _ I h) λd s1 h_=>eS h_ λH1 I1 q1=>?_);cases d with
 |true=>exact ha ee s1 σ H1 D I1 q1
 |false=>exact hb ee s1 σ H1 D I1 q1
def TQ:TS:=λ_ _ _=>False
def LD:PS X st TQ:=λ_ _ _ _ _ _ h=>h.elim
end
abbrev TG:=V->St->Hp->(St->Hp->Prop)->Prop
abbrev EC:=ao V->St->Hp->(St->Hp->Prop)->Prop
def PG (X:Cx)(target:Expr)(t:TG):Prop :=
 ∀(ee:ao (aj×Obj)) (s:ai) (σ:St) (H:Hp) (v:V) (u:ak) (Q:St->Hp->Prop),Inv X ee σ H s->fM v u->t v σ H Q ->
  wpAny (model X.prog X.w) X.A (assign target X.env u) (λ_ s'=>∃ gL H',Inv X ee gL H' s'/\Q gL H') X.xe s
def Kw (X:Cx)(ts:ao Expr)(t:EC):Prop :=
 ∀(ee:ao (aj×Obj)) (s:ai) (σ:St) (H:Hp) (vs:ao V) (us:ao ak) (Q:St->Hp->Prop),Inv X ee σ H s->fH vs us->t vs σ H Q ->
  wpAny (model X.prog X.w) X.A (assignInOrder ((assignEach ts X.env).map (·.2)) us) (λ_ s'=>∃ gL H',Inv X ee gL H' s'/\Q gL H') X.xe s
abbrev JZ:=V->V->V->Hp->(Hp->Prop)->Prop
def RE (X:Cx)(t:JZ):Prop :=
 ∀(ee:ao (aj×Obj)) (s:ai) (σ:St) (H:Hp) (o i v:V) (ov iv u:ak) (Q:Hp->Prop),Inv X ee σ H s->fM o ov->fM i iv->fM v u->t o i v H Q ->
  wpAny (model X.prog X.w) X.A (setItem ov iv u) (λ_ s'=>∃ H',Inv X ee σ H' s'/\Q H') X.xe s
abbrev RC:=V->V->Hp->VK->Prop
def Xg (X:Cx)(op:Operator)(t:RC):Prop :=
 ∀(ee:ao (aj×Obj)) (s:ai) (σ:St) (H:Hp) (x y:V) (v u:ak) (Q:VK),Inv X ee σ H s->fM x v->fM y u->t x y H Q ->
  wpAny (model X.prog X.w) X.A (inplaceOp op v u) (EP X ee σ Q) X.xe s
section
variable {X:Cx}{pos:Pos}
def xN (i:Nat):TG:=λv σ H Q=>Q (σ.set i<|some v) H
def vW {i:Nat}{x:Str}(hN:X.N.Nodup)(hi:X.N[i]?=some x)(hx:Loc X.env.scope x)(hf:X.fn x=true\/X.env.scope.names.lookup x=some .local:=by first | exact .inl rfl | exact .inr rfl | assumption):PG X (.Name x pos) (xN i):=by intro ee s σ H v u Q I r h;exact wpAny_assign_Name (qE I hN hi hx r (λs' I'=>⟨_,H,I',h⟩) hf)
def gNil:EC:=λvs σ H Q=>vs=[]/\Q σ H
def Zn (t:TG)(u:EC):EC:=λvs σ H Q=>∃ v r,vs=v::r/\t v σ H λgL H'=>u r gL H' Q
def Qc:Kw X [] gNil:=by intro ee s σ H vs us Q I r h;obtain⟨e,h⟩:=h;subst e;cases r;exact assignInOrder_nil ⟨σ,H,I,h⟩
def LH {e:Expr}{es:ao Expr}{t:TG}{u:EC}(h1:PG X e t)(h2:Kw X es u)
 (hs:(assignEach (e::es) X.env).map (·.2)=assign e X.env::(assignEach es X.env).map (·.2):=by rfl):Kw X (e::es) (Zn t u):=by
 intro ee s σ H vs us Q I r h;obtain⟨v,vr,e1,h⟩:=h;subst e1;cases r with
 | cons r rr =>rw[hs];refine assignInOrder_cons (gg (h1 ee s σ H _ _ _ I r h) λ_ s1 h_=>mD h_ λCt H1 I1 q1=>?_);exact h2 ee s1 Ct H1 _ _ Q I1 rr q1
def gTup (K:aa)(n:Nat)(t:EC):TG:=λv σ H Q=>∃ a xs,v=.ref a/\Cs K H a xs/\xs.length=n/\t xs σ H Q
def UK {es:ao Expr}{k:Nat}{t:EC}{n:Nat}(hc:X.gE=true)(h:Kw X es t)
 (hn:(assignEach es X.env).length=n:=by rfl) (Cq:(assignEach es X.env).findIdx? (·.1)=none:=by rfl):PG X (.Tuple es k pos) (gTup X.K n t):=by
 intro ee s σ H v u Q I r hw;obtain⟨a,xs,e1,hq,hl,hw⟩:=hw;subst e1;subst r;refine oy (I.tuple hq) λfu rv ht hz=>?_;refine assign_Tuple_tuple (I.ok.hd hc) ht (by simp[hn,<- hl,rv.length]) Cq λh' hx=>?_;have I1:Inv X ee σ H {s with heap:=h'}:=I.eI (t':=s.toks) λb o e=>hx b o (aF<|kG e) e;exact h ee _ σ H xs _ Q I1 (by simpa using rv) hw
def gSub (to ti:TE)(t:JZ):TG:=λv σ H Q=>to σ H λo H1=>ti σ H1 λi H2=>t o i v H2 λH3=>Q σ H3
def AZ {o i:Expr}{to ti:TE}{t:JZ}(ho:PE X o to)(hi:PE X i ti)(hs:RE X t)
 (ha:∀ v,assign (.Subscript o i pos) X.env v=(do
   let ov <- holding [v] (eval o X.env)
   let iv <- holding [v,ov] (eval i X.env)
   standAt pos
   holding [v,ov,iv] (setItem ov iv v)
   release [v,ov,iv] []):=by intro _;rfl):PG X (.Subscript o i pos) (gSub to ti t):=by
 intro ee s σ H v u Q I r h
 rw[ha]
 refine fb (bo<|gg (ho ee s σ H _ I h) λov s1 h_=>fw h_ λx H1 I1 r1 q1=>?_)
 refine fb (bo<|gg (hi ee s1 σ H1 _ I1 q1) λiv s2 h_=>fw h_ λy H2 I2 r2 q2=>?_)
 refine fb (c4<|fb<|bo<|gg (hs ee s2 σ H2 x y v ov iv u _ I2 r1 r2 r q2) λ_ s3 h_=>eS h_ λH3 I3 q3=>?_)
 exact wpAny_release ⟨σ,H3,I3,q3⟩
def T2 (te:TE)(g:TG):TS:=λD σ H=>te σ H λx H1=>g x σ H1 D.nx
def xf {tg e:Expr}{te:TE}{g:TG}(he:PE X e te)(hg:PG X tg g)(hs:swapsWithSole [tg] e pos.line X.env=pure false:=by rfl)(hw:swappedStores [tg] e X.env=pure none:=by rfl)
 (h1:(assignEach [tg] X.env).map (·.2)=[assign tg X.env]:=by rfl):PS X (.Assign [tg] e pos) (T2 te g):=by
 intro ee s σ H D I h;refine wpAny_Assign_stores (gg (he ee s σ H _ I h) λv s1 h_=>fw h_ λx H1 I1 r1 q1=>?_) hs hw;rw[h1];exact gg (hg ee s1 σ H1 x v _ I1 r1 q1) λ_ s2 q=>q
def uC {i:Nat}{x:Str}{e:Expr}{te:TE}{pos':Pos}(hN:X.N.Nodup)(hi:X.N[i]?=some x)(hx:Loc X.env.scope x)(he:PE X e te)(hs:swapsWith e (some<|.Name x pos') pos.line X.env=pure false:=by rfl)(hf:X.fn x=true\/X.env.scope.names.lookup x=some .local:=by first | exact .inl rfl | exact .inr rfl | assumption):
 PS X (.Assign [.Name x pos'] e pos) (T2 te<|xN i):=by
 intro ee s σ H D I h;refine wpAny_Assign_Name (gg (he ee s σ H _ I h) λv s1 h_=>fw h_ λy H1 I1 r1 q1=>?_) hs;exact qE I1 hN hi hx r1 (λs2 I2=>⟨_,H1,I2,q1⟩) hf
def tAug (i:Nat)(te:TE)(ti:RC):TS:=λD σ H=>∃ x,σ[i]?=some (some x)/\te σ H λy H1=>ti x y H1 λz H2=>D.nx (σ.set i<|some z) H2
def UD {i:Nat}{x:Str}{e:Expr}{te:TE}{op:Operator}{ti:RC}{pos':Pos}(hN:X.N.Nodup)(hi:X.N[i]?=some x)(hx:Loc X.env.scope x)(he:PE X e te)(ho:Xg X op ti)(hf:X.fn x=true\/X.env.scope.names.lookup x=some .local:=by first | exact .inl rfl | exact .inr rfl | assumption):
 PS X (.AugAssign (.Name x pos') op e pos) (tAug i te ti):=by
 intro ee s σ H D I h;refine eS h λv e1 h=>?_;refine eS I.loc λm hn hl=>?_;have vis:To X.env.scope x:=by rcases hx with k|k;exact .inl k;exact .inr (.inl k)
 refine eS (hl i x v hi e1 vis) λu r l=>?_;refine wpAny_AugAssign_Name ?_;have go:wpAny (model X.prog X.w) X.A (eval e X.env) (λw s₂=>wpAny (model X.prog X.w) X.A (inplaceOp op u w) (λr s₃=>wpAny (model X.prog X.w) X.A (storeName X.env x r) (λ_=>SP X ee D .next) X.xe s₃) X.xe s₂) X.xe s:=by refine gg (he ee s σ H _ I h) λw s1 h_=>fw h_ λy H1 I1 r1 q1=>?_;refine gg (ho ee s1 σ H1 v y u w _ I1 r r1 q1) λz s2 h_=>fw h_ λzv H2 I2 r2 q2=>?_;exact qE I2 hN hi hx r2 (λs3 I3=>⟨_,H2,I3,q2⟩) hf
 rcases l with⟨hk,hm⟩|⟨hk,c,hc,vi⟩
 .exact wpAny_loadName_local I.ok.kind hk hn hm go
 .rcases hk with hk | hk
  .exact wpAny_loadName_cell I.ok.kind hk hc vi go
  .rcases hx with k | k
   .have:X.env.scope.names.lookup x=some .free:=hk;rw[k]at this;cases this
   .have:X.env.scope.names.lookup x=some .free:=hk;rw[k]at this;cases this
def XE (to ti te:TE)(O9:V->V->Hp->VK->Prop)(tip:RC)(O8:JZ):TS:=λD σ H=>to σ H λo H1=>ti σ H1 λi H2=>O9 o i H2 λx H3=>te σ H3 λy H4=>tip x y H4 λz H5=>O8 o i z H5 λH6=>D.nx σ H6
def aap (X:Cx)(t:V->V->Hp->VK->Prop):Prop :=
 ∀(ee:ao (aj×Obj)) (s:ai) (σ:St) (H:Hp) (o i:V) (ov iv:ak) (Q:VK),Inv X ee σ H s->fM o ov->fM i iv->t o i H Q ->
  wpAny (model X.prog X.w) X.A (getItem ov iv) (EP X ee σ Q) X.xe s
def PY {o i e:Expr}{to ti te:TE}{O9:V->V->Hp->VK->Prop}{tip:RC}{O8:JZ}{op:Operator}{vH:Pos}(ho:PE X o to)(hi:PE X i ti)(hg:aap X O9)(he:PE X e te)(hp:Xg X op tip)(hs:RE X O8)
 (ha:∀ ov iv new,augStore i ov iv new=(do holding [new,ov,iv] (setItem ov iv new);release [new,ov,iv] [];pure .next):=by intros;rfl):PS X (.AugAssign (.Subscript o i vH) op e pos) (XE to ti te O9 tip O8):=by
 intro ee s σ H D I h;refine wpAny_AugAssign_SubscriptAny (gg (ho ee s σ H _ I h) λov s1 h_=>fw h_ λx1 H1 I1 r1 q1=>?_) ha;refine gg (hi ee s1 σ H1 _ I1 q1) λiv s2 h_=>fw h_ λx2 H2 I2 r2 q2=>?_;refine gg (hg ee s2 σ H2 x1 x2 ov iv _ I2 r1 r2 q2) λold s3 h_=>fw h_ λx3 H3 I3 r3 q3=>?_;refine gg (he ee s3 σ H3 _ I3 q3) λv s4 h_=>fw h_ λx4 H4 I4 r4 q4=>?_;refine gg (hp ee s4 σ H4 x3 x4 old v _ I4 r3 r4 q4) λnew s5 h_=>fw h_ λx5 H5 I5 r5 q5=>?_;exact gg (hs ee s5 σ H5 x1 x2 x5 ov iv new _ I5 r1 r2 r5 q5) λ_ s6 h_=>eS h_ λH6 I6 q6=>⟨σ,H6,I6,q6⟩
def ipI (f:Int->Int->Int):RC:=λx y H Q=>∃ i j,x=.int i/\y=.int j/\Q (.int<|f i j) H
def Vy:Xg X .Add (ipI λi j=>i+j):=by intro ee s σ H x y v u Q I r1 r2 h;refine fw h λi j e1 e2 q=>?_;subst e1;subst e2;obtain⟨t,rfl⟩:=r1;obtain⟨t',rfl⟩:=r2;exact iadd_int ⟨.int _,H,I.tok _,⟨_,rfl⟩,q⟩
end
section
variable {X:Cx}{pos:Pos}
def TM (c:TT)(tb:TS):TS:=λD σ H=>∃ W:Nat->St->Hp->Prop,(∃ m,W m σ H)/\∀ m σ H,W m σ H ->
 c σ H λb H1=>if b=true then ∃ N:St->Hp->Prop,(∀ gL H',N gL H'->∃ m',m'<m/\W m' gL H')/\tb { D with nx:=N,ct:=N,bk:=D.nx} σ H1 else D.nx σ H1
def LC {c:Expr}{body:ao Stmt}{tc:TT}{tb:TS}(hp:PassesOwn (model X.prog X.w) X.A X.env X.xe)(hc:PT X c tc)(hb:yt X body tb):PS X (.While c body [] pos) (TM tc tb):=by
 intro ee s σ H D I h;obtain⟨W,⟨m0,w0⟩,turn⟩:=h;refine wpAny_While (codeAny_whileLoop (λn s'=>∃ gL H',Inv X ee gL H' s'/\W n gL H') ?_ m0 ⟨σ,H,I,w0⟩);refine λn s1 h_=>mD h_ λCt H1 I1 w1=>?_;refine cC hp (gg (hc ee s1 Ct H1 _ I1<|turn n Ct H1 w1) λb s2 h_=>eS h_ λH2 I2 q2=>?_);cases b with
 | true =>
  refine eS q2 λN hN q2=>?_;rw[aD rfl];refine cC hp (gg (hb ee s2 Ct H2 _ I2 q2) λf s3 q3=>?_);cases f with
  | next =>refine mD q3 λGR H3 I3 n3=>?_;refine eS (hN GR H3 n3) λm' hm w3=>?_;exact⟨m',hm,GR,H3,I3,w3⟩
  | cont =>refine mD q3 λGR H3 I3 n3=>?_;refine eS (hN GR H3 n3) λm' hm w3=>?_;exact⟨m',hm,GR,H3,I3,w3⟩
  |brk=>exact q3
  |ret v=>exact q3
 | false =>rw[az aM];exact dq ⟨Ct,H2,I2,q2⟩
end
structure It where
 go:Nat->Hp->Prop
 KC:Nat->Hp->V->Hp->Prop
 stop:Nat->Hp->Prop
def nk (X:Cx)(ee:ao (aj×Obj))(H:Hp)(b:aj):Prop :=
 H b=none/\b≠X.env.locals/\b∉X.fs/\(b∈X.ex\/X.s₀.heap.objs.size<=b)/\(∀ x c,X.env.cells.lookup x=some c->c≠b)/\∀ p∈X.pn++ee,p.1≠b
def Inv.Bo {X:Cx}{ee:ao (aj×Obj)}{σ:St}{H H':Hp}{s:ai}{b:aj}(I:Inv X ee σ H s)(hb:s.heap.objs.size<=b)(hn:H' b=none):nk X ee H' b:=by
 refine⟨hn,bh<|aL I.lt hb,I.nofs hb,.inr<|aG I.sz hb,λx c e z=>?_,λp hp z=>?_⟩
 .obtain⟨v,q⟩:=I.cell x c e;exact absurd (aL q.lt<|z▸hb) (bJ _)
 .exact absurd (aL (kG (I.pin p hp).1)<|z▸hb) (bJ _)
structure Turn (P:ae)(w:af)(K:aa)(tg:Expr)(J:It)(fp:List aj)(it:aj)(tn:Nat->Heap->Prop)(CM:Cx->Prop:=λX=>X.gE=true):Prop where
 mem:it∈fp
 obj:∀ i h,tn i h->∀ b∈fp,∃ o,h.get? b=some o/\∀ v,o.data≠.cell v
 keep:∀ i h h',tn i h->(∀ b∈fp,∀ o,h.get? b=some o->h'.get? b=some o)->tn i h'
 item:∀(X:Cx),X.prog=P->X.w=w->X.K=K->CM X->∀(i:Nat) (ee:List (aj×Obj)) (s:ai) (σ:St) (H:Hp) (E:ak->ai->Prop),Inv X ee σ H s->(∀ b∈fp,nk X ee H b)->tn i s.heap->J.go i H ->
  wpAny (model P w) X.A (pyNext<|.ref it) (λr s1=>∃ u,r=some u /\
   wpAny (model P w) X.A (letOwnedTupleGo tg (.ref it) u) (λ_ s2=>∃ x H',Inv X ee σ H' s2/\fM x u/\J.KC i H x H'/\tn (i+1) s2.heap/\∀ b∈fp,H' b=none) E s1) E s
 done:∀(X:Cx),X.prog=P->X.w=w->X.K=K->CM X->∀(i:Nat) (ee:List (aj×Obj)) (s:ai) (σ:St) (H:Hp) (E:ak->ai->Prop),Inv X ee σ H s->(∀ b∈fp,nk X ee H b)->tn i s.heap->J.stop i H ->
  wpAny (model P w) X.A (pyNext<|.ref it) (λr s1=>r=none/\Inv X ee σ H s1) E s
 self:∀(A:Around) (i:Nat) (s:ai) (Q:ak->ai->Prop) (E:ak->ai->Prop),tn i s.heap->Q (.ref it) s->wpAny (model P w) A (pyIter<|.ref it) Q E s
abbrev TI:=St->Hp->(It->Hp->Prop)->Prop
def PIE (X:Cx)(ee:ao (aj×Obj))(σ:St)(tg:Expr)(R:It->Hp->Prop)(Sv:ak)(s2:ai):Prop :=
 ∃(it:aj) (fp:ao aj) (tn:Nat->Heap->Prop) (J:It) (H':Hp),Sv=.ref it/\Inv X ee σ H' s2/\Turn X.prog X.w X.K tg J fp it tn/\tn 0 s2.heap/\(∀ b∈fp,nk X ee H' b)/\R J H'
def PI (X:Cx)(tg iter:Expr)(wi:TI):Prop :=
 ∀(ee:ao (aj×Obj)) (s:ai) (σ:St) (H:Hp) (R:It->Hp->Prop),Inv X ee σ H s->wi σ H R ->
  wpAny (model X.prog X.w) X.A (eval iter X.env) (λv s1=>wpAny (model X.prog X.w) X.A (pyIter v) (PIE X ee σ tg R) X.xe s1) X.xe s
def zD {M:Model}{A:Around}{E:ak->ai->Prop}{s:ai}{tg:Expr}{it:aj}{u:ak}{o:Obj}{n:String}{vs:Array ak}{Q:Unit->ai->Prop}(ho:s.heap.get? it=some o)(hc:o.cls=.type n)(hd:o.data=.fields vs)
 (hn:["enumerate","zip","dict_itemiterator","dict_reverseitemiterator","odict_iterator","itertools.zip_longest","itertools.pairwise"].contains n=false) (hQ:Q () s):wpAny M A (letOwnedTupleGo tg (.ref it) u) Q E s:=by
 delta letOwnedTupleGo;cases tg <;> first
  |exact av hQ
  | (cases u <;> first
      |exact av hQ
      | (refine fb (wpAny_load ho ?_)
         rw[hc,hd]
         show wpAny M A (if(["enumerate","zip","dict_itemiterator","dict_reverseitemiterator","odict_iterator","itertools.zip_longest","itertools.pairwise"].contains n&&vs[0]?==some (rawInt _))=true then _ else _) Q E s
         rw[az (by intro h;rw[hn,Bool.false_and]at h;cases h)]
         exact av hQ))
def Itl (K:aa)(a:aj):It :=
 ⟨λi H=>∃ xs x,qv K H a xs/\xs[i]?=some x,λi H x H'=>H'=H/\∀ xs,qv K H a xs->xs[i]?=some x,λi H=>∃ xs,qv K H a xs/\xs.length<=i⟩
def Itr (lo:Int)(n:Nat):It:=⟨λi _=>i<n,λi H x H'=>H'=H/\x=.int (lo+i),λi _=>n<=i⟩
def Iu {P:ae}{w:af}{K:aa}{tg:Expr}(a it:aj):Turn P w K tg (Itl K a) [it] it (λi h=>h.IsListIter it a i) where
 mem:=by simp
 obj:=λi h st b hb=>by
  have e:b=it:=by simpa using hb
  subst e;refine oy st λo e c d=>?_;exact⟨o,e,λv z=>by rw[d]at z;cases z⟩
 keep:=λi h h' st k=>st.at λo e=>k it (by simp) o e
 item:=by intro X hP hw hK hc i ee s σ H E I hf st hg;subst hP hw hK;refine mD hg λxs x hq hx=>?_;refine oy (I.list hq) λfu rv p hz=>?_;refine eS (rv.get hx) λu hu ru=>?_;refine rf (hf it<|by simp) λf0 f1 f2 f3 f4 f5=>?_;refine wpAny_pyNext_list_item st p.isList (x:=u) (by simpa using hu) λh' Ci sb=>?_;have I1:Inv X ee σ H {s with heap:=h'}:=I.turned (t':=s.toks) (λb o hb e=>(sb.2 b hb).trans e) f0 f1 f3 f4 f5;refine oy (id Ci) λo e c d=>?_;exact⟨u,rfl,zD (s:={s with heap:=h'}) e c d rfl ⟨x,H,I1,ru,⟨rfl,λys hy=>by rw[I.Md hy hq];exact hx⟩,Ci,λb hb=>(hf b hb).1⟩⟩
 done:=by intro X hP hw hK hc i ee s σ H E I hf st hg;subst hP hw hK;obtain⟨xs,hq,hx⟩:=hg;refine oy (I.list hq) λfu rv p hz=>?_;refine rf (hf it<|by simp) λf0 f1 f2 f3 f4 f5=>?_;have hl:=rv.length;exact wpAny_pyNext_list_end (I.ok.hd hc) st p.isList (by simp;lia) λh' eb=>⟨rfl,I.turned (t':=s.toks) (λb o hb e=>eb b o hb e) f0 f1 f3 f4 f5⟩
 self:=λ_ _ _ _ _ st h=>wpAny_pyIter_listiter st h
def pH {P:ae}{w:af}{K:aa}{tg:Expr}(it:aj)(lo:Int)(n:Nat):Turn P w K tg (Itr lo n) [it] it (λi h=>IsRangeIter h it (lo+(i:Nat)*1) ((n:Int) - (i:Nat)) 1) where
 mem:=by simp
 obj:=λi h st b hb=>by
  have e:b=it:=by simpa using hb
  subst e;exact⟨_,st,λv z=>by
   have z':Data.fields _=Data.cell v:=z
   cases z'⟩
 keep:=λi h h' st k=>k it (by simp) _ st
 item:=by intro X hP hw hK hc i ee s σ H E I hf st hg;subst hP hw hK;refine rf (hf it<|by simp) λf0 f1 f2 f3 f4 f5=>?_;have W:=Walks.range (prog:=X.prog) (w:=X.w) (I.ok.hd hc) it lo 1 n;refine W.item i s _ _ hg st λv h' tk hv Ci kk=>?_;obtain⟨t,rfl⟩:=hv;have I1:Inv X ee σ H {s with heap:=h',toks:=tk}:=I.turned (λb o hb e=>kk b o (by simpa using hb) e) f0 f1 f3 f4 f5;refine⟨_,rfl,zD (s:={s with heap:=h',toks:=tk}) (n:= "range_iterator") Ci rfl rfl rfl ⟨.int<|lo+i,H,I1,⟨t,?_⟩,⟨rfl,rfl⟩,Ci,λb hb=>(hf b hb).1⟩⟩;rw[Int.mul_one]
 done:=by intro X hP hw hK hc i ee s σ H E I hf st hg;subst hP hw hK;refine rf (hf it<|by simp) λf0 f1 f2 f3 f4 f5=>?_;exact wpAny_pyNext_range_end (I.ok.hd hc) st (by have:n<=i:=hg;lia) λh' eb=>⟨rfl,I.turned (t':=s.toks) (λb o hb e=>eb b o hb e) f0 f1 f3 f4 f5⟩
 self:=λ_ _ _ _ _ st h=>wpAny_pyIter_rangeiter st h
section
variable {X:Cx}{tg:Expr}
def Y4 (K:aa)(tl:TE):TI:=λσ H R=>tl σ H λx H1=>∃ a,x=.ref a/\(∃ xs,qv K H1 a xs)/\R (Itl K a) H1
def Qb {l:Expr}{tl:TE}(hl:PE X l tl):PI X tg l (Y4 X.K tl):=by
 intro ee s σ H R I h;refine gg (hl ee s σ H _ I h) λv s1 h_=>fw h_ λx H1 I1 r1 q1=>?_;obtain⟨a,e,⟨xs,hq⟩,q⟩:=q1;subst e;subst r1;refine oy (I1.list hq) λfu rv p hz=>?_;refine wpAny_pyIter_list p.isList ?_;refine⟨s1.heap.objs.size,[s1.heap.objs.size],_,_,H1,rfl,I1.eI (t':=s1.toks) λb o e=>kJ _ e,Iu a _,⟨_,aC _ rfl,rfl,rfl⟩,λb hb=>?_,q⟩;have e:b=s1.heap.objs.size:=by simpa using hb
 subst e;exact I1.Bo (au _) (I1.fB.fresh<|au _)
def CU {ee:ao (aj×Obj)}{σ:St}{H:Hp}{s:ai}{R:It->Hp->Prop}{E:ak->ai->Prop}{lo hi:Int}{t u v:Tok}{tk:Nat}(I:Inv X ee σ H s)(h1:-(2 ^ 62)<=lo)(h2:lo<2 ^ 62)(h3:-(2 ^ 62)<=hi)(h4:hi<2 ^ 62)
 (q:R (Itr lo (hi - lo).toNat) H):wpAny (model X.prog X.w) X.A (pyIter<|.ref s.heap.objs.size) (PIE X ee σ tg R) E {s with heap:=s.heap.push { cls:=.type "range",data:=.fields #[.int lo t,.int hi u,.int 1 v]},toks:=tk}:=by
 refine wpAny_pyIter_range (IsRange.new ..) (small_one h1 h2 h3 h4) ?_;have I1:Inv X ee σ H {s with heap:=s.heap.push { cls:=.type "range",data:=.fields #[.int lo t,.int hi u,.int 1 v]},toks:=tk}:=I.eI λb o e=>kJ _ e;refine⟨(s.heap.push { cls:=.type "range",data:=.fields #[.int lo t,.int hi u,.int 1 v]}).objs.size,[(s.heap.push { cls:=.type "range",data:=.fields #[.int lo t,.int hi u,.int 1 v]}).objs.size],_,_,H,rfl,
  I1.eI (t':=tk) λb o e=>kJ _ e,pH _ lo (hi - lo).toNat,?_,λb hb=>?_,q⟩
 .have e1:lo+((0:Nat):Int)*1=lo:=by simp
  have e2:(((hi - lo).toNat:Nat):Int) - ((0:Nat):Int)=Builtin.Range.rangeSize lo hi 1:=by rw[rangeSize_one];split<;>lia
  rw[e1,e2]
  exact aC _ rfl
 .have e:b=(s.heap.push { cls:=.type "range",data:=.fields #[.int lo t,.int hi u,.int 1 v]}).objs.size:=by simpa using hb
  subst e
  exact I1.Bo (au _) (I1.fB.fresh<|au _)
def Y3 (ta:TA):TI:=λσ H R=>ta σ H λvs H1=>∃ j:Int,vs=[.int j] /\ -(2 ^ 62)<=j/\j<2 ^ 62/\R (Itr 0 j.toNat) H1
def Y2 (ta:TA):TI:=λσ H R=>ta σ H λvs H1=>∃ i j:Int,vs=[.int i,.int j]/\(-(2 ^ 62)<=i/\i<2 ^ 62 /\ -(2 ^ 62)<=j/\j<2 ^ 62)/\R (Itr i (j - i).toNat) H1
def IW {a:Expr}{ta:TA}{p pos:Pos}(hg:Gl X "range")(hm:X.mg "range"=none)(ha:PA X [a] ta)(hs:starEach [a] X.env=[(false,eval a X.env)]:=by rfl):PI X tg (.Call (.Name "range" p) [a] [] pos) (Y3 ta):=by
 intro ee s σ H R I h;refine Call_ (nN I hg hm boot_range<|bj (gg (ha pos ee s σ H _ I h) λus s1 h_=>fw h_ λvs H1 I1 r1 q1=>?_) hs rfl);obtain⟨j,e,q1,q2,q⟩:=q1;subst e;cases r1 with
 | cons r rr =>cases rr;obtain⟨t,rfl⟩:=r;exact call_range_1 (CU I1 (Int.ofNat_nonneg _) (Int.ofNat_nonneg _) q1 q2<|by simpa using q)
def IV {a b:Expr}{ta:TA}{p pos:Pos}(hg:Gl X "range")(hm:X.mg "range"=none)(ha:PA X [a,b] ta)(hs:starEach [a,b] X.env=[(false,eval a X.env),(false,eval b X.env)]:=by rfl)(uM:starEach [b] X.env=[(false,eval b X.env)]:=by rfl):
 PI X tg (.Call (.Name "range" p) [a,b] [] pos) (Y2 ta):=by
 intro ee s σ H R I h;refine Call_ (nN I hg hm boot_range<|bj (gg (ha pos ee s σ H _ I h) λus s1 h_=>fw h_ λvs H1 I1 r1 q1=>?_) (by rw[hs,uM]) (by rw[uM];rfl));obtain⟨i,j,e,⟨q1,q2,q3,q4⟩,q⟩:=q1;subst e;cases r1 with
 | cons r rr =>
  cases rr with
  | cons r' rr =>cases rr;obtain⟨t,rfl⟩:=r;obtain⟨t',rfl⟩:=r';exact call_range_2 (CU I1 q1 q2 q3 q4 q)
def tFor (wi:TI)(g:TG)(tb:TS):TS:=λD σ H=>wi σ H λJ H1=>∃ W:Nat->Nat->St->Hp->Prop,(∃ m,W 0 m σ H1)/\∀ i m σ H,W i m σ H ->
 (J.stop i H/\D.nx σ H)\/(J.go i H/\∃ N:St->Hp->Prop,(∀ gL H',N gL H'->∃ m',m'<m/\W (i+1) m' gL H')/\∀ x H',J.KC i H x H'->g x σ H' λpD H2=>tb { D with nx:=N,ct:=N,bk:=D.nx} pD H2)
def uD (fp:ao aj)(h:Heap):ao (aj×Obj):=fp.filterMap λb=>(h.get? b).map λo=>(b,o)
def mC {fp:ao aj}{h:Heap}{b:aj}{o:Obj}(hb:b∈fp)(e:h.get? b=some o):(b,o)∈uD fp h:=List.mem_filterMap.mpr ⟨b,hb,by rw[e];rfl⟩
def Jj {fp:ao aj}{h:Heap}{p:aj×Obj}(hp:p∈uD fp h):p.1∈fp/\h.get? p.1=some p.2:=by
 refine eS (List.mem_filterMap.mp hp) λb hb e=>?_;cases q:h.get? b with
 |none=>rw[q]at e;cases e
 | some o =>rw[q]at e;have e':(b,o)=p:=aW e;subst e';exact⟨hb,q⟩
def Inv.pinned {ee:ao (aj×Obj)}{σ:St}{H:Hp}{s:ai}{fp:ao aj}(I:Inv X ee σ H s)(hf:∀ b∈fp,nk X ee H b)(ho:∀ b∈fp,∃ o,s.heap.get? b=some o/\∀ v,o.data≠.cell v):Inv X (ee++uD fp s.heap) σ H s :=
 I.pQ λp hp=>(List.mem_append.mp hp).elim (λz=>I.pin p<|aQ _ z) λz=>by obtain⟨hb,e⟩:=Jj z;refine Nu (hf p.1 hb) λf0 f1 f2 _=>?_;refine eS (ho p.1 hb) λo e' d=>?_;rw[e]at e';cases e';exact⟨e,f0,f1,f2,d⟩
def Inv.qA {ee pl:ao (aj×Obj)}{σ:St}{H:Hp}{s:ai}(I:Inv X (ee++pl) σ H s):Inv X ee σ H s:=I.pQ λp hp=>I.pin p (aQ _<|bT _ hp)
def UB {iter:Expr}{body:ao Stmt}{wi:TI}{g:TG}{tb:TS}{pos:Pos}(hp:PassesOwn (model X.prog X.w) X.A X.env X.xe)(hc:X.gE=true)(hi:PI X tg iter wi)(hg:PG X tg g)(hb:yt X body tb)
 (hs:∀ x,foldedSetIterable iter X.env x=pure x:=by intro _;rfl):PS X (.For tg iter body [] pos) (tFor wi g tb):=by
 intro ee s σ H D I h;refine wpAny_For (gg (hi ee s σ H _ I h) λv s1 h1=>gg h1 λSv s2 h2=>?_) hs;obtain⟨it,fp,tn,J,H2,e,I2,T,G1,f2,W,⟨m0,w0⟩,turn⟩:=h2;subst e;have wH:∀ {H':Hp},(∀ b∈fp,H' b=none)->∀ b∈fp,nk X ee H' b:=λhn b hb=>⟨hn b hb,(f2 b hb).2⟩;refine codeAny_forLoop_any (λn s'=>∃ i gL H',Inv X ee gL H' s'/\tn i s'.heap/\(∀ b∈fp,H' b=none)/\W i n gL H') ?_ m0 ⟨0,σ,H2,I2,G1,λb hb=>(f2 b hb).1,w0⟩;refine λn s3 h_=>Gw h_ λi GR H3 I3 OJ SI w3=>?_;rcases turn i n GR H3 w3 with⟨stop,qn⟩|⟨go,N,hN,step⟩
 .refine cC hp (gg (T.done X rfl rfl rfl hc i ee s3 GR H3 X.xe I3 (wH SI) OJ stop) λr s4 h_=>jS h_ λhr I4=>?_);subst hr;exact dq ⟨GR,H3,I4,qn⟩
 .refine cC hp (gg (T.item X rfl rfl rfl hc i ee s3 GR H3 X.xe I3 (wH SI) OJ go) λr s4 h_=>eS h_ λu hr h4=>?_);subst hr;refine cC hp (gg h4 λ_ s5 h_=>JN h_ λx H5 I5 r5 y5 K5 Zp=>?_);have I5':=I5.pinned (wH Zp)<|T.obj _ _ K5;refine cC hp (gg (hg _ s5 GR H5 x u _ I5' r5<|step x H5 y5) λ_ s6 h_=>mD h_ λOG H6 I6 q6=>?_);refine cC hp (gg (hb _ s6 OG H6 _ I6 q6) λf s7 q7=>?_);have again:∀ {Ky:St} {H7:Hp},Inv X (ee++uD fp s5.heap) Ky H7 s7->N Ky H7->∃ m,m<n/\∃ i gL H',Inv X ee gL H' s7/\tn i s7.heap/\(∀ b∈fp,H' b=none)/\W i m gL H':=λ{Ky H7} I7 n7=>by refine eS (hN Ky H7 n7) λm' hm w7=>?_;refine⟨m',hm,i+1,Ky,H7,I7.qA,T.keep _ _ _ K5 λb hb o e=>(I7.pin (b,o)<|aQ _<|aQ _<|mC hb e).1,λb hb=>?_,w7⟩;refine eS (T.obj _ _ K5 b hb) λo e d=>?_;exact(I7.pin (b,o)<|aQ _<|aQ _<|mC hb e).2.1
  cases f with
  |next=>obtain⟨Ky,H7,I7,n7⟩:=q7;exact again I7 n7
  |cont=>obtain⟨Ky,H7,I7,n7⟩:=q7;exact again I7 n7
  |brk=>obtain⟨Ky,H7,I7,q7⟩:=q7;exact⟨Ky,H7,I7.qA,q7⟩
  |ret v=>obtain⟨x7,Ky,H7,I7,r7,q7⟩:=q7;exact⟨x7,Ky,H7,I7.qA,r7,q7⟩
end
abbrev R2:=V->V->Hp->VK->Prop
def lj (X:Cx)(f:ak->ak->Sem ak)(r:R2):Prop :=
 ∀(ee:ao (aj×Obj)) (s:ai) (σ:St) (H:Hp) (x y:V) (v u:ak) (Q:VK),Inv X ee σ H s->fM x v->fM y u->r x y H Q ->
  wpAny (model X.prog X.w) X.A (f v u) (EP X ee σ Q) X.xe s
def UnR (X:Cx)(f:ak->Sem ak)(r:V->Hp->VK->Prop):Prop :=
 ∀(ee:ao (aj×Obj)) (s:ai) (σ:St) (H:Hp) (x:V) (v:ak) (Q:VK),Inv X ee σ H s->fM x v->r x H Q ->
  wpAny (model X.prog X.w) X.A (f v) (EP X ee σ Q) X.xe s
def jg (X:Cx)(f:ak)(r:ao V->Hp->VK->Prop):Prop :=
 ∀(ee:ao (aj×Obj)) (s:ai) (σ:St) (H:Hp) (xs:ao V) (us:ao ak) (Q:VK),Inv X ee σ H s->fH xs us->r xs H Q ->
  wpAny (model X.prog X.w) X.A (call f us) (EP X ee σ Q) X.xe s
def TruR (X:Cx)(r:V->Hp->(Bool->Hp->Prop)->Prop):Prop :=
 ∀(ee:ao (aj×Obj)) (s:ai) (σ:St) (H:Hp) (x:V) (v:ak) (Q:Bool->Hp->Prop),Inv X ee σ H s->fM x v->r x H Q ->
  wpAny (model X.prog X.w) X.A (truthy v) (TP X ee σ Q) X.xe s
def WS (r:R2)(ta tb:TE):TE:=λσ H Q=>ta σ H λx H1=>tb σ H1 λy H2=>r x y H2 Q
def tUn (r:V->Hp->VK->Prop)(ta:TE):TE:=λσ H Q=>ta σ H λx H1=>r x H1 Q
def rI (C:Int->Int->Prop)(g:Int->Int->V):R2:=λx y H Q=>∃ i j,x=.int i/\y=.int j/\C i j/\Q (g i j) H
def PL (g:Int->Int->V):R2:=λx y H Q=>∃ i j,x=.int i/\y=.int j/\Q (g i j) H
def rU (g:Int->V):V->Hp->VK->Prop:=λx H Q=>∃ i,x=.int i/\Q (g i) H
section
variable {X:Cx}{a b c:Expr}{ta tb tc:TE}{pos:Pos}
def Rv (ha:PE X a ta)(hb:PE X b tb){ee:ao (aj×Obj)}{s:ai}{σ:St}{H:Hp}{R:V->V->Hp->Prop}(I:Inv X ee σ H s)
 (h:ta σ H λx H1=>tb σ H1 λy H2=>R x y H2) {Q:ak->ai->Prop} {f:ak->ak->Sem ak}
 (hf:∀ v u s2 x y H2,Inv X ee σ H2 s2->fM x v->fM y u->R x y H2->wpAny (model X.prog X.w) X.A (f v u) Q X.xe s2):
 wpAny (model X.prog X.w) X.A (eval a X.env) (λv s₁=>wpAny (model X.prog X.w) X.A (eval b X.env) (λu s₂=>wpAny (model X.prog X.w) X.A (f v u) Q X.xe s₂) X.xe s₁) X.xe s:=by
 refine gg (ha ee s σ H _ I h) λv s1 h_=>fw h_ λx H1 I1 r1 q1=>?_;refine gg (hb ee s1 σ H1 _ I1 q1) λu s2 h_=>fw h_ λy H2 I2 r2 q2=>?_;exact hf v u s2 x y H2 I2 r1 r2 q2
def lM {op:Operator}{r:R2}(ho:lj X (binaryOp op) r)(ha:PE X a ta)(hb:PE X b tb):PE X (.BinOp a op b pos) (WS r ta tb):=by intro ee s σ H Q I h;exact wpAny_BinOp (Rv ha hb I h λv u s2 x y H2 I2 rx ry q=>ho ee s2 σ H2 x y v u Q I2 rx ry q)
def Yg {op:UnaryOp}{r:V->Hp->VK->Prop}(ho:UnR X (unaryOp op) r)(ha:PE X a ta):PE X (.UnaryOp op a pos) (tUn r ta):=by intro ee s σ H Q I h;exact UnaryOp_ (gg (ha ee s σ H _ I h) λv s1 h_=>fw h_ λx H1 I1 r1 q1=>ho ee s1 σ H1 x v Q I1 r1 q1)
def opI {f:ak->ak->Sem ak}{C:Int->Int->Prop}{g:Int->Int->Int}
 (rule:∀(i j:Int) (t u:Tok) (s:ai) (Q:ak->ai->Prop) (E:ak->ai->Prop),C i j->Q (.int (g i j) s.toks) {s with toks:=s.toks+1}->wpAny (model X.prog X.w) X.A (f (.int i t)<|.int j u) Q E s):
 lj X f (rI C λi j=>.int<|g i j):=by
 intro ee s σ H x y v u Q I rx ry h;refine jX h λi j fE qk hc q=>?_;subst fE;subst qk;obtain⟨t,rfl⟩:=rx;obtain⟨t',rfl⟩:=ry;exact rule i j t t' s _ _ hc ⟨.int<|g i j,H,I.tok _,⟨_,rfl⟩,q⟩
def Yq {f:ak->ak->Sem ak}{g:Int->Int->Int}
 (rule:∀(i j:Int) (t u:Tok) (s:ai) (Q:ak->ai->Prop) (E:ak->ai->Prop),Q (.int (g i j) s.toks) {s with toks:=s.toks+1}->wpAny (model X.prog X.w) X.A (f (.int i t)<|.int j u) Q E s):
 lj X f (PL λi j=>.int<|g i j):=by
 intro ee s σ H x y v u Q I rx ry h;refine fw h λi j fE qk q=>?_;subst fE;subst qk;obtain⟨t,rfl⟩:=rx;obtain⟨t',rfl⟩:=ry;exact rule i j t t' s _ _ ⟨.int<|g i j,H,I.tok _,⟨_,rfl⟩,q⟩
def Qk {f:ak->ak->Sem ak}{g:Int->Int->Bool}
 (rule:∀(i j:Int) (t u:Tok) (s:ai) (Q:ak->ai->Prop) (E:ak->ai->Prop),Q (.bool<|g i j) s->wpAny (model X.prog X.w) X.A (f (.int i t)<|.int j u) Q E s):
 lj X f (PL λi j=>.bl<|g i j):=by
 intro ee s σ H x y v u Q I rx ry h;refine fw h λi j fE qk q=>?_;subst fE;subst qk;obtain⟨t,rfl⟩:=rx;obtain⟨t',rfl⟩:=ry;exact rule i j t t' s _ _ ⟨.bl<|g i j,H,I,rfl,q⟩
def aaz (i j:Int):Prop:=0<j/\j<1073741824
def aay (i j:Int):Prop:=0<=j/\j<=1000000/\i.natAbs<2 ^ 64
def OF (i j:Int):Prop:=(-(2 ^ 64)<i/\i<2 ^ 64)\/(-(2 ^ 64)<j/\j<2 ^ 64)
def OF.ok {i j:Int}(h:OF i j):IntMulOk i j:=by
 rcases h with⟨h1,h2⟩|⟨h1,h2⟩
 .exact .of_left (intBits_le_64 h1 h2)
 .exact .of_right (intBits_le_64 h1 h2)
def U3:lj X (binaryOp .Add) (PL λi j=>.int<|i+j):=Yq λ_ _ _ _ _ _ _ q=>add_int q
def UY:lj X (binaryOp .Sub) (PL λi j=>.int<|i - j):=Yq λ_ _ _ _ _ _ _ q=>sub_int q
def U0:lj X (binaryOp .Mult) (rI OF λi j=>.int<|i*j):=opI λ_ _ _ _ _ _ _ hc q=>mul_int q hc.ok
def Qj:lj X (binaryOp .FloorDiv) (rI aaz λi j=>.int<|i / j):=opI λi j _ _ _ _ _ hc q=>by have h1:(0:Int)<j:=hc.1;have h2:j<1073741824:=hc.2;exact floordiv_int (by lia) (by rw[Int.fdiv_eq_ediv_of_nonneg i (by lia)];exact q) (.inl<|PyProof.noPylong_small<|by lia)
def U1:lj X (binaryOp .Mod) (rI (λ_ j=>0<j) λi j=>.int<|i%j):=opI λi j _ _ _ _ _ hc q=>by have h1:(0:Int)<j:=hc;exact mod_int' (by lia) (by rw[Int.fmod_eq_emod_of_nonneg i (by lia)];exact q)
def UZ:lj X (binaryOp .Pow) (rI aay λi j=>.int<|i ^ j.toNat):=opI λ_ _ _ _ _ _ _ hc q=>pow_int_small hc.1 hc.2.1 hc.2.2 q
def unI {f:ak->Sem ak}{g:Int->Int}
 (rule:∀(i:Int) (t:Tok) (s:ai) (Q:ak->ai->Prop) (E:ak->ai->Prop),Q (.int (g i) s.toks) {s with toks:=s.toks+1}->wpAny (model X.prog X.w) X.A (f<|.int i t) Q E s):
 UnR X f (rU λi=>.int<|g i):=by
 intro ee s σ H x v Q I rx h;obtain⟨i,rfl,q⟩:=h;obtain⟨t,rfl⟩:=rx;exact rule i t s _ _ ⟨.int<|g i,H,I.tok _,⟨_,rfl⟩,q⟩
def Tw:UnR X (unaryOp .USub) (rU λi=>.int<|-i):=unI λ_ _ _ _ _ q=>neg_int q
end
def XS:V->V->Bool
 |.gw,.gw=>true|.gw,.int _=>true|.int _,.gw=>true|.gw,.bl _=>true|.bl _,.gw=>true|.gw,.str _=>true|.str _,.gw=>true
 |.int _,.int _=>true|.bl _,.bl _=>true|.str _,.str _=>true|.GD _,.GD _=>true
 |.int _,.str _=>true|.str _,.int _=>true|.bl _,.str _=>true|.str _,.bl _=>true
 |_,_=>false
def rEq:R2:=λx y H Q=>XS x y=true/\Q (.bl<|decide (x=y)) H
def rNe:R2:=λx y H Q=>XS x y=true/\Q (.bl<|!decide (x=y)) H
def HL {i j:Int}:decide (V.int i=V.int j)=(i==j):=by rw[cZ];simp
def ND {i j:Bool}:decide (V.bl i=V.bl j)=(i==j):=by rw[cZ];simp
def HK {i j:Str}:decide (V.str i=V.str j)=(i==j):=by rw[cZ];simp
def HM {i j:Array UInt8}:decide (V.GD i=V.GD j)=(i.toList==j.toList):=by rw[cZ];cases i;cases j;simp
section
variable {X:Cx}{a b c:Expr}{ta tb tc:TE}{pos:Pos}
def gB {ee:ao (aj×Obj)}{σ:St}{H:Hp}{s:ai}{Q:VK}{k k':Bool}(I:Inv X ee σ H s)(q:Q (.bl k) H)(e:k=k'):EP X ee σ Q (.bool k') s:=by subst e;exact⟨.bl k,H,I,rfl,q⟩
def Sg:lj X (compareOp .Eq) rEq:=by
 intro ee s σ H x y v u Q I rx ry h;obtain⟨hs,q⟩:=h;cases x with
 | gw =>
  cases rx;cases y with
  |gw=>subst ry;exact PySem.EqNone.eq_none_none (gB I q<|by simp)
  |bl j=>subst ry;exact PySem.EqNone.eq_none_bool (gB I q<|by simp)
  |int j=>obtain⟨t',rfl⟩:=ry;exact PySem.EqNone.eq_none_int (gB I q<|by simp)
  |str j=>obtain⟨t',rfl⟩:=ry;exact PySem.EqNone.eq_none_str (gB I q<|by simp)
  |_=>exact absurd (show false=true from hs) aM
 | bl i =>
  subst rx;cases y with
  |gw=>subst ry;exact PySem.EqNone.eq_bool_none (gB I q<|by simp)
  |bl j=>cases ry;exact eq_bool (gB I q ND)
  |str j=>obtain⟨t',rfl⟩:=ry;exact PySem.EqMixed.eq_bool_str (gB I q<|by simp)
  |_=>exact absurd (show false=true from hs) aM
 | int i =>
  obtain⟨t,rfl⟩:=rx;cases y with
  |gw=>cases ry;exact PySem.EqNone.eq_int_none (gB I q<|by simp)
  |int j=>obtain⟨t',rfl⟩:=ry;exact eq_int (gB I q HL)
  |str j=>obtain⟨t',rfl⟩:=ry;exact PySem.EqMixed.eq_int_str (gB I q<|by simp)
  |_=>exact absurd (show false=true from hs) aM
 | str i =>
  obtain⟨t,rfl⟩:=rx;cases y with
  |gw=>cases ry;exact PySem.EqNone.eq_str_none (gB I q<|by simp)
  |bl j=>cases ry;exact PySem.EqMixed.eq_str_bool (gB I q<|by simp)
  |int j=>obtain⟨t',rfl⟩:=ry;exact PySem.EqMixed.eq_str_int (gB I q<|by simp)
  |str j=>obtain⟨t',rfl⟩:=ry;exact eq_str (gB I q HK)
  |_=>exact absurd (show false=true from hs) aM
 | GD i =>
  obtain⟨t,rfl⟩:=rx;cases y with
  |GD j=>obtain⟨t',rfl⟩:=ry;exact W.eq_bytes (gB I q HM)
  |_=>exact absurd (show false=true from hs) aM
 |_=>cases y<;>exact absurd (show false=true from hs) aM
def Yl:lj X (compareOp .NotEq) rNe:=by
 intro ee s σ H x y v u Q I rx ry h;obtain⟨hs,q⟩:=h;cases x with
 | gw =>
  cases rx;cases y with
  |gw=>subst ry;exact PySem.EqNone.ne_none_none (gB I q<|by simp)
  |bl j=>subst ry;exact PySem.EqNone.ne_none_bool (gB I q<|by simp)
  |int j=>obtain⟨t',rfl⟩:=ry;exact PySem.EqNone.ne_none_int (gB I q<|by simp)
  |str j=>obtain⟨t',rfl⟩:=ry;exact PySem.EqNone.ne_none_str (gB I q<|by simp)
  |_=>exact absurd (show false=true from hs) aM
 | bl i =>
  subst rx;cases y with
  |gw=>subst ry;exact PySem.EqNone.ne_bool_none (gB I q<|by simp)
  |bl j=>subst ry;exact ne_bool (gB I q<|bG not ND)
  |str j=>obtain⟨t',rfl⟩:=ry;exact PySem.EqMixed.ne_bool_str (gB I q<|by simp)
  |_=>exact absurd (show false=true from hs) aM
 | int i =>
  obtain⟨t,rfl⟩:=rx;cases y with
  |gw=>subst ry;exact PySem.EqNone.ne_int_none (gB I q<|by simp)
  |int j=>obtain⟨t',rfl⟩:=ry;exact ne_int (gB I q<|bG not HL)
  |str j=>obtain⟨t',rfl⟩:=ry;exact PySem.EqMixed.ne_int_str (gB I q<|by simp)
  |_=>exact absurd (show false=true from hs) aM
 | str i =>
  obtain⟨t,rfl⟩:=rx;cases y with
  |gw=>cases ry;exact PySem.EqNone.ne_str_none (gB I q<|by simp)
  |bl j=>cases ry;exact PySem.EqMixed.ne_str_bool (gB I q<|by simp)
  |int j=>obtain⟨t',rfl⟩:=ry;exact PySem.EqMixed.ne_str_int (gB I q<|by simp)
  |str j=>obtain⟨t',rfl⟩:=ry;exact ne_str (gB I q<|bG not HK)
  |_=>exact absurd (show false=true from hs) aM
 | GD i =>
  obtain⟨t,rfl⟩:=rx;cases y with
  |GD j=>obtain⟨t',rfl⟩:=ry;exact W.ne_bytes (gB I q<|bG not HM)
  |_=>exact absurd (show false=true from hs) aM
 |_=>cases y<;>exact absurd (show false=true from hs) aM
def Ym:lj X (compareOp .Lt) (PL λi j=>.bl<|decide (i<j)):=Qk λ_ _ _ _ _ _ _ q=>lt_int q
def Yn:lj X (compareOp .LtE) (PL λi j=>.bl<|decide (i<=j)):=Qk λ_ _ _ _ _ _ _ q=>le_int q
def Yo:lj X (compareOp .Gt) (PL λi j=>.bl<|decide (j<i)):=Qk λ_ _ _ _ _ _ _ q=>gt_int q
def Yp:lj X (compareOp .GtE) (PL λi j=>.bl<|decide (j<=i)):=Qk λ_ _ _ _ _ _ _ q=>ge_int q
def Jc:lj X (compareOp .In) (λx y H Q=>∃ i j,x=.str i/\y=.str j/\Q (.bl<|!(Builtin.Str.occurrences j i 0 j.length 1).isEmpty) H):=by intro ee s σ H x y v u Q I rx ry h;refine fw h λi j fE qk q=>?_;subst fE;subst qk;obtain⟨t,rfl⟩:=rx;obtain⟨t',rfl⟩:=ry;exact in_str (gB I q rfl)
def lj.or {f:ak->ak->Sem ak}{r r':R2}(h:lj X f r)(h':lj X f r'):lj X f (λx y H Q=>r x y H Q\/r' x y H Q):=by
 intro ee s σ H x y v u Q I rx ry q;rcases q with q|q
 .exact h ee s σ H x y v u Q I rx ry q
 .exact h' ee s σ H x y v u Q I rx ry q
def jq (b:Expr){op:CmpOp}(h:op≠.In:=by decide)(h2:op≠.NotIn:=by decide):behindInMarks op b=false:=by
 have e1:(op==CmpOp.In)=false:=by cases op<;>first|rfl|exact absurd rfl h
 have e2:(op==CmpOp.NotIn)=false:=by cases op<;>first|rfl|exact absurd rfl h2
 cases b<;>simp[behindInMarks,e1,e2]
def vX {op:CmpOp}{r:R2}(ho:lj X (compareOp op) r)(ha:PE X a ta)(hb:PE X b tb)(hm:behindInMarks op b=false):PE X (.Compare a [op] [b] pos) (WS r ta tb):=by intro ee s σ H Q I h;exact wpAny_Compare1 (Rv ha hb I h λv u s2 x y H2 I2 rx ry q=>ho ee s2 σ H2 x y v u Q I2 rx ry q) hm
def Xu (t:TE):TT:=λσ H Q=>t σ H λx H'=>∃ k,x=.bl k/\Q k H'
def T1 (r r':R2)(ta tb tc:TE):TE:=λσ H Q=>ta σ H λx H1=>tb σ H1 λy H2=>r x y H2 λz H3=>∃ k,z=.bl k /\
 (if k=true then tc σ H3 λw' H4=>r' y w' H4 Q else Q (.bl false) H3)
def LP {op WX:CmpOp}{r r':R2}(ho:lj X (compareOp op) r)(zA:lj X (compareOp WX) r')(ha:PE X a ta)(hb:PE X b tb)(hc:PE X c tc)
 (hm:lastMarks [op,WX] [b,c]=false:=by with_unfolding_all rfl):PE X (.Compare a [op,WX] [b,c] pos) (T1 r r' ta tb tc):=by
 intro ee s σ H Q I h;refine Compare_chain (gg (ha ee s σ H _ I h) λv s1 h_=>fw h_ λx H1 I1 r1 q1=>chain_link (gg (hb ee s1 σ H1 _ I1 q1) λu s2 h_=>fw h_ λy H2 I2 r2 q2 =>
  gg (ho ee s2 σ H2 x y v u _ I2 r1 r2 q2) λd s3 ⟨z,H3,I3,r3,k,e,q3⟩=>?_)) hm
 subst e;subst r3;refine bL ?_;cases k with
 |false=>exact ite_ff ⟨.bl false,H3,I3,rfl,q3⟩
 |true=>exact ite_tt (chain_last<|gg (hc ee s3 σ H3 _ I3 q3) λw' s4 h_=>fw h_ λz' H4 I4 r4 q4=>zA ee s4 σ H4 y z' u w' Q I4 r2 r4 q4)
def aam (K:aa)(x:V)(H:Hp)(k:Bool):Prop :=
 match x with
 |.gw=>k=false
 |.bl b=>k=b
 |.int i=>k=(i != 0)
 |.str y=>y.length<=sizeLine/\k=((y.length:Int) != 0)
 |.GD y=>y.size<=sizeLine/\k=((y.size:Int) != 0)
 |.ref p=>(∃ xs,qv K H p xs/\k=!xs.isEmpty)\/(∃ xs,Cs K H p xs/\k=!xs.isEmpty)\/∃ eP,H p=some (.dK eP)/\k=!eP.isEmpty
 |_=>False
def FL {κ:Type}{eP:ao (κ×V)}{vs:ao (κ×ak)}(r:KV eP vs):(!vs.isEmpty)=!eP.isEmpty:=by cases r<;>rfl
def xE {xs:ao V}{fu:ao ak}(r:fH xs fu):(!fu.toArray.isEmpty)=!xs.isEmpty:=by cases r<;>simp
def qR:(sizeLine:Nat)<2 ^ 63:=by rw[sizeLine_eq];decide
def TC:TruR X (λx H Q=>∃ k,aam X.K x H k/\Q k H):=by
 intro ee s σ H x v Q I rx h;obtain⟨k,e,q⟩:=h;have hl:=qR;have hs:sizeLine=16777216:=sizeLine_eq;cases x with
 | gw =>subst rx;have e':k=false:=e;subst e';exact truthy_none ⟨H,I,q⟩
 | bl b =>subst rx;have e':k=b:=e;subst e';exact bL ⟨H,I,q⟩
 | int i =>obtain⟨t,rfl⟩:=rx;have e':k=(i != 0):=e;subst e';exact PySem.P.truthy_int ⟨H,I,q⟩
 | str y =>obtain⟨t,rfl⟩:=rx;obtain⟨hy,e'⟩:y.length<=sizeLine/\k=((y.length:Int) != 0):=e;subst e';exact PySem.P.truthy_str (by lia) ⟨H,I.tok _,q⟩
 | GD y =>obtain⟨t,rfl⟩:=rx;obtain⟨hy,e'⟩:y.size<=sizeLine/\k=((y.size:Int) != 0):=e;subst e';exact W.truthy_bytes (by lia) ⟨H,I.tok _,q⟩
 | ref p =>
  subst rx;have e':(∃ xs,qv X.K H p xs/\k=!xs.isEmpty)\/(∃ xs,Cs X.K H p xs/\k=!xs.isEmpty)\/∃ eP,H p=some (.dK eP)/\k=!eP.isEmpty:=e;rcases e' with⟨xs,hx,e'⟩|⟨xs,hx,e'⟩|⟨eP,hx,e'⟩
  .subst e';refine oy (I.list hx) λfu r pl hz=>?_;have hlen:=r.length;exact wpAny_truthy_list pl.isList (by simp only[aB];lia) ⟨H,I.tok _,by rw[xE r];exact q⟩
  .subst e';refine oy (I.tuple hx) λfu r pl hz=>?_;have hlen:=r.length;exact truthy_tuple pl (by simp only[aB];lia) ⟨H,I.tok _,by rw[xE r];exact q⟩
  .subst e';obtain⟨hz,hS,vs,r,m⟩:eP.length<=sizeLine/\(p==sysModules)=false/\∃ vs,KV eP vs/\s.heap.DictOf (gW X.prog X.w) p vs:=I.fB p _ hx;have hlen:eP.length=vs.length:=Paired.length r;exact wpAny_truthy_dict hS m (by lia) ⟨H,I.tok _,by rw[FL r];exact q⟩
 |_=>exact(show False from e).elim
def LA (ha:PE X a ta)(he:∀ whole,isTrue a X.env whole=(do let v <- whole;standAt a.pos;holding [v] (truthy v))):
 PT X a (λσ H Q=>ta σ H λx H'=>∃ k,aam X.K x H' k/\Q k H'):=by
 intro ee s σ H Q I h;exact isTrue_plain (gg (ha ee s σ H _ I h) λv s1 h_=>fw h_ λx H1 I1 r1 q1=>TC ee s1 σ H1 x v Q I1 r1 q1) (he _)
def Fo:lj X (binaryOp .Add) (λx y H Q=>∃ i j,x=.str i/\y=.str j/\i.length+j.length<=sizeLine/\Q (.str<|i++j) H):=by intro ee s σ H x y v u Q I rx ry h;refine jX h λi j fE qk hz q=>?_;subst fE;subst qk;obtain⟨t,rfl⟩:=rx;obtain⟨t',rfl⟩:=ry;exact add_str (λt' tk=>⟨.str<|i++j,H,I.tok _,⟨_,rfl⟩,q⟩) hz
def vals1 {x:V}{us:ao ak}(r:fH [x] us):∃ u,us=[u]/\fM x u:=by
 cases r with
 |cons r1 r2=>cases r2;exact⟨_,rfl,r1⟩
def vals2 {x y:V}{us:ao ak}(r:fH [x,y] us):∃ u w',us=[u,w']/\fM x u/\fM y w':=by
 cases r with
 | cons r1 r2 =>
  cases r2 with
  |cons r3 r4=>cases r4;exact⟨_,_,rfl,r1,r3⟩
def JV (hc:X.gE=true):jg X (.builtin "max") (λxs H Q=>∃ i j,xs=[.int i,.int j]/\Q (.int<|if j>i then j else i) H):=by
 intro ee s σ H xs us Q I r h;refine mD h λi j fE q=>?_;subst fE;obtain⟨u,w',rfl,⟨t,rfl⟩,⟨t',rfl⟩⟩:=vals2 r;refine max_two_ints (I.ok.hd hc) λh' tk k=>⟨_,H,I.eI k,?_,q⟩;by_cases hj:j>i
 .rw[aD hj,aD hj];exact⟨_,rfl⟩
 .rw[az hj,az hj];exact⟨_,rfl⟩
end
structure GJ (h:Heap)(x dx C:aj)(mA:Str->Option ak):Prop where
 obj:h.get? x=some (W.instObj C dx)
 ns:h.Ns1 dx mA
 ne:dx≠x
def zw {h:Heap}{dx:aj}{mA:Str->aq ak}(n:h.Ns1 dx mA):∃ od,h.get? dx=some od/\∀ name,W.lookIn name od=some (mA name):=by
 refine JM n λo es ep ho hd hk _ hm=>?_;refine⟨o,ho,λname=>?_⟩;have e:=hm name;unfold nsFind findBy at e;rw[<- Array.find?_toList]at e;delta W.lookIn;rw[hd];dsimp only;split
 .rename_i y q;rw[q]at e;exact bG some e
 .rename_i q;rw[q]at e;have a:es.toList.any (·.refKey)=false:=by rw[List.any_eq_false];intro y hy;refine JO (hk y<|Array.mem_toList_iff.mp hy) λz t VL=>?_;simp[DictEntry.refKey,VL]
  have a':¬ es.toList.any (·.refKey)=true:=a▸aM;rw[az a'];exact bG some e
def GJ.look {h:Heap}{x dx C:aj}{mA:Str->aq ak}(I:GJ h x dx C mA):∃ od,W.InstAt h x (W.instObj C dx) C (some od)/\∀ name,W.lookIn name od=some (mA name) :=
 eS (zw I.ns) λod ho hl=>⟨od,⟨I.obj,rfl,rfl,ho⟩,hl⟩
section
variable {prog:ae}{w:af}{A:Around}{E:ak->ai->Prop}{s:ai}{K:aa}{x dx C f:aj}{mA:Str->aq ak}{name:Str}{v:ak}
def get_map {expr:Bool}{Q:ak->ai->Prop}(X:K.In s.heap)(I:GJ s.heap x dx C mA)(hg:W.plainGet K C name=true)(hh:W.hasDictIn K C=true)
 (ha:W.findIn K (.ref C) name=some none) (hv:mA name=some v) (VC:W.handedIn v=true) (h:Q v {s with toks:=s.toks+1}):
 wpAny (model prog w) A (getAttr (.ref x) name expr) Q E s:=by
 refine eS I.look λod J hl=>?_;exact W.get_value X J (W.plainGet_of hg).1 (W.findObj_own hh ha rfl (by rw[hl,hv])) VC h
def MQ {pl:Sem Bool}{Q:ak×ao ak->ai->Prop}(X:K.In s.heap)(I:GJ s.heap x dx C mA)(hg:W.plainGet K C name=true)
 (hf:W.findIn K (.ref C) name=some (some<|.ref f)) (ht:W.isFn K (.ref f)=true) (hv:mA name=none) (h:Q (.ref f,[.ref x]) s):
 wpAny (model prog w) A (getMethod (.ref x) name pl) Q E s:=by
 refine eS I.look λod J hl=>?_;exact W.method_fn X J (W.plainGet_of hg).1 (W.plainGet_of hg).2 hf (beq_iff_eq.mp ht) (by show(W.lookIn name od).map (·.isSome)=some false;rw[hl,hv];rfl) h
def Px {ns:ao Str}{Q:Unit->ai->Prop}(X:K.In s.heap)(I:GJ s.heap x dx C mA)
 (hs:W.findIn K (.ref C) "__setattr__"=some (some<|.builtin "object.__setattr__")) (hp:W.plainOver K C=true) (ht:W.takerIn K C name=some none) (hh:W.hasDictIn K C=true)
 (hw:PySem.Within mA ns) (hsz:ns.length<=sizeLine)
 (h:∀ h',GJ h' x dx C (λy=>if y=name then some v else mA y)->Heap.SameBut dx s.heap h'->Q () {s with heap:=h',toks:=s.toks+2}):
 wpAny (model prog w) A (setAttr (.ref x) name v) Q E s:=by
 refine eS I.look λod J hl=>?_;refine W.set_plain X J hs (W.osa_open (s:={s with toks:=s.toks+1}) (r:=none) X J hp ht λb=>?_);refine eS (W.any_some hh) λcd hc DM=>?_;have hx:s.heap.get? x=some ⟨.ref C,some dx,.plain,#[]⟩:=I.obj;refine fb<|av<|fb<|fb<|wpAny_loadPart hx<|fb<|W.Looks.here (s:={s with toks:=s.toks+1}) (W.looks_clsIn X hc) ?_;rw[DM];refine av (a:=some dx)<|fb<|av<|fb ?_;refine wpAny_nsSet1 (s:={s with toks:=s.toks+1}) I.ns λh' FT uM=>?_;refine tj (FT.count<|PySem.Within.cons name v hw) λoD esD epD VH Zh JE=>?_;refine fb (wpAny_lookBehind VH (Zh▸pastItsLine_dict (aG JE (by rw[aT];lia))) ?_);exact av (h _ ⟨(uM.2 _<|bz I.ne).trans I.obj,FT,I.ne⟩ uM)
def L9 {R:Result->ai->Prop}{vs:ao ak}{kw:ao (Str×ak)}(X:K.In s.heap)(hm:W.makesIn K C=true)
 (hi:W.findIn K (.ref C) "__init__"=some (some<|.ref f)) (hf:W.typeIn K (.ref f)=some (.type "function"))
 (h:codeAny (model prog w) (A.under<|.builtin "type.__call__" ⟨.ref C::vs,kw⟩) (.call (.ref f) ⟨.ref (s.heap.objs.size+1)::vs,kw⟩) (W.InitBack (s.heap.objs.size+1) R)
   {s with heap:=(s.heap.push W.emptyDict).push (W.instObj C s.heap.objs.size)}):
 codeAny (model prog w) A (.call (.ref C) ⟨vs,kw⟩) R s:=by
 obtain⟨hh,g,d,t,os⟩:=s;exact W.make_core (W.makes_of X hm) (de X hi) (λself=>W.bind_fn X self hf) (.inl rfl) h
end
def lT (f:Str)(v:V):ao (Str×V)->ao (Str×V)
 |[]=>[(f,v)]
 |(g,x)::r=>if g=f then(g,v)::r else(g,x)::lT f v r
theorem oG (f g:Str)(v:V):∀ fs:ao (Str×V),(lT f v fs).lookup g=if g=f then some v else fs.lookup g
 | []=>by
  show List.lookup g [(f,v)]=_;by_cases h:g=f
  .have hb:(g==f)=true:=beq_iff_eq.mpr h;simp only[List.lookup,hb,aD h]
  .have hb:(g==f)=false:=beq_eq_false_iff_ne.mpr h;simp only[List.lookup,hb,az h]
 | (k,x)::r=>by
  have ih:=oG f g v r;rw[show lT f v ((k,x)::r)=(if k=f then(k,v)::r else(k,x)::lT f v r)from rfl];by_cases hk:k=f
  .rw[aD hk];by_cases h:g=k
   .have hb:(g==k)=true:=beq_iff_eq.mpr h;simp only[List.lookup,hb,aD (h.trans hk)]
   .have hb:(g==k)=false:=beq_eq_false_iff_ne.mpr h;simp only[List.lookup,hb,az (λe:g=f=>h<|e.trans hk.symm)]
  .rw[az hk];by_cases h:g=k
   .have hb:(g==k)=true:=beq_iff_eq.mpr h;simp only[List.lookup,hb,az (λe:g=f=>hk<|h.symm.trans e)]
   .have hb:(g==k)=false:=beq_eq_false_iff_ne.mpr h;simp only[List.lookup,hb];exact ih
theorem pf (f:Str)(v:V):∀ fs:ao (Str×V),f∈(lT f v fs).map (·.1)/\∀ g,g∈fs.map (·.1)->g∈(lT f v fs).map (·.1)
 |[]=>⟨by simp[lT],λg h=>by simp at h⟩
 | (k,x)::r=>by
  obtain⟨i1,i2⟩:=pf f v r;rw[show lT f v ((k,x)::r)=(if k=f then(k,v)::r else(k,x)::lT f v r)from rfl];by_cases hk:k=f
  .rw[aD hk];subst hk;exact⟨by simp,λg h=>by simpa using h⟩
  .rw[az hk];refine⟨?_,λg h=>?_⟩
   .rw[aK];exact o6 _ i1
   .rw[aK]at h ⊢
    rcases List.mem_cons.mp h with e|e
    .exact List.mem_cons.mpr (.inl e)
    .exact o6 _ (i2 g e)
theorem vf (f:Str)(v:V):∀ fs:ao (Str×V),(lT f v fs).length<=fs.length+1
 |[]=>by simp[lT]
 | (k,x)::r=>by
  have ih:=vf f v r;rw[show lT f v ((k,x)::r)=(if k=f then(k,v)::r else(k,x)::lT f v r)from rfl];by_cases hk:k=f
  .rw[aD hk,aT,aT];lia
  .rw[az hk,aT,aT];lia
def p9.some_of {v:V}{o:aq ak}(r:p9 (some v) o):∃ u,o=some u/\fM v u:=by
 cases o with
 |none=>exact(show False from r).elim
 |some u=>exact⟨u,rfl,r⟩
def p9.none_of {o:aq ak}(r:p9 none o):o=none:=by
 cases o with
 |none=>rfl
 |some u=>exact(show False from r).elim
def zB {v:V}{u:ak}(r:fM v u):W.handedIn u=true:=by
 cases v with
 |gw=>cases(show u=Value.none from r);rfl
 |bl b=>cases(show u=Value.bool b from r);rfl
 |int i=>obtain⟨t,e⟩:=(show ∃ t,u=Value.int i t from r);subst e;rfl
 |str x=>obtain⟨t,e⟩:=(show ∃ t,u=Value.str x t from r);subst e;rfl
 |GD b=>obtain⟨t,e⟩:=(show ∃ t,u=Value.bytes b t from r);subst e;rfl
 |SK b=>obtain⟨t,e⟩:=(show ∃ t,u=Value.float b t from r);subst e;rfl
 |ref a=>cases(show u=Value.ref a from r);rfl
 |ty n=>cases(show u=Value.type n from r);rfl
section
variable {P:ae}{w:af}{H H':Hp}{h h':Heap}{a C dx:aj}{fs QL:ao (Str×V)}
def v9 (fB:rA P w H h)(e:H a=some (.ins C dx fs)):∃ mA,GJ h a dx C mA/\(∀ f,p9 (fs.lookup f) (mA f))/\PySem.Within mA (fs.map (·.1))/\fs.length<=1000/\H dx=some (.own a):=by obtain⟨d,z,ne,ob,mA,n,r,q⟩:=(show iQ P w H h a (.ins C dx fs)from fB a _ e);exact⟨mA,⟨ob,n,ne⟩,r,q,z,d⟩
end
structure wt (K:aa)(C:aj):Prop where
 pg:W.plainGet K C Str.empty=true
 hd:W.hasDictIn K C=true
 po:W.plainOver K C=true
 sa:W.findIn K (.ref C) "__setattr__"=some (some<|.builtin "object.__setattr__")
def wt.get {K:aa}{C:aj}(c:wt K C)(f:Str):W.plainGet K C f=true:=c.pg
def n8 (K:aa)(C:aj)(f:Str):Prop:=W.findIn K (.ref C) f=some none
def n8.Xp {K:aa}{C:aj}{f:Str}(n:n8 K C f):W.takerIn K C f=some none:=by delta W.takerIn;rw[show W.findIn K (.ref C) f=some none from n];rfl
structure Meth (K:aa)(C:aj)(m:Str)(f:aj):Prop where
 at_:W.findIn K (.ref C) m=some (some<|.ref f)
 fn:W.isFn K (.ref f)=true
 kp:W.keepIn K (.ref f)=true
section
variable {X:Cx}{ee:ao (aj×Obj)}{σ:St}{H:Hp}{s:ai}{a C dx:aj}{fs:ao (Str×V)}{f:Str}{v:V}{A:Around}{E:ak->ai->Prop}
def xK {b:Bool}{Q:ak->ai->Prop}(I:Inv X ee σ H s)(e:H a=some (.ins C dx fs))(c:wt X.K C)(n:n8 X.K C f)(l:fs.lookup f=some v)
 (h:∀ u s',Inv X ee σ H s'->fM v u->Q u s'):wpAny (model X.prog X.w) A (getAttr (.ref a) f b) Q E s:=by
 refine QR (v9 I.fB e) λmA O r _ _ _=>?_;refine eS (p9.some_of (v:=v) (o:=mA f)<|l▸r f) λu hu ru=>?_;exact get_map I.om O (c.get f) c.hd n hu (zB ru) (h u _ (I.tok _) ru)
def sZ {m:Str}{g:aj}{pl:Sem Bool}{Q:ak×ao ak->ai->Prop}(I:Inv X ee σ H s)(e:H a=some (.ins C dx fs))(c:wt X.K C)(k:Meth X.K C m g)(l:fs.lookup m=none)
 (h:Q (.ref g,[.ref a]) s):wpAny (model X.prog X.w) A (getMethod (.ref a) m pl) Q E s:=by
 refine QR (v9 I.fB e) λmA O r _ _ _=>?_;have hn:mA m=none:=p9.none_of<|l▸r m;exact MQ I.om O (c.get m) k.at_ k.fn hn h
def wL {y:V}{u:ak}{Q:Unit->ai->Prop}(I:Inv X ee σ H s)(e:H a=some (.ins C dx fs))(c:wt X.K C)(n:n8 X.K C f)(hl:fs.length<1000)(ry:fM y u)
 (h:∀ s',Inv X ee σ (upd H a<|.ins C dx<|lT f y fs) s'->Q () s'):wpAny (model X.prog X.w) A (setAttr (.ref a) f u) Q E s:=by
 refine QR (v9 I.fB e) λmA O r wi _ ho=>?_;have hz:(fs.map (·.1)).length<=sizeLine:=by rw[jf,sizeLine_eq];lia
 refine Px I.om O c.sa c.po n.Xp c.hd wi hz λh' O' sb=>h _ ?_;have hd:∃ o,h'.get? dx=some o:=let ⟨o,_,_,e',_⟩:=O'.ns;⟨o,e'⟩
 refine I.write (x:=a) (e:=dx) (e▸True.intro) (.inr ho) (λb q hb z=>(sb.2 b hb).trans z) hd ?_;refine⟨by rw[e9 O.ne];exact ho,?_,O.ne,O'.obj,_,O'.ns,λg=>?_,λg hg=>?_⟩
 .have:=vf f y fs;lia
 .rw[oG];by_cases q:g=f
  .rw[aD q,aD q];exact ry
  .rw[az q,az q];exact r g
 .by_cases q:g=f
  .rw[q];exact(pf f y fs).1
  .refine(pf f y fs).2 g (wi g λz=>hg ?_);show(if g=f then some u else mA g)=none;rw[az q];exact z
def Inv.made (I:Inv X ee σ H s):Inv X ee σ (upd (upd H s.heap.objs.size<|.own<|s.heap.objs.size+1) (s.heap.objs.size+1)<|.ins C s.heap.objs.size [])
 {s with heap:=(s.heap.push W.emptyDict).push (W.instObj C s.heap.objs.size)}:=by
 have e1:(s.heap.push W.emptyDict).get? s.heap.objs.size=some W.emptyDict:=aC s.heap rfl;have e2:((s.heap.push W.emptyDict).push<|W.instObj C s.heap.objs.size).get? (s.heap.objs.size+1)=some (W.instObj C s.heap.objs.size):=by have:=aC (s.heap.push W.emptyDict) (o:=W.instObj C s.heap.objs.size) rfl;rwa [bq]at this
 have e3:(s.heap.push W.emptyDict).Ns s.heap.objs.size (λ_=>none):=⟨W.emptyDict,#[],_,e1,rfl,(λe he=>absurd he<|by simp),λ_=>rfl⟩;have I1:=I.laid (a:=s.heap.objs.size) (o:=.own<|s.heap.objs.size+1) (h':=s.heap.push W.emptyDict) (t':=s.toks) (λb u q=>kJ _ q) (au _) ⟨_,e1⟩;refine I1.laid (a:=s.heap.objs.size+1) (o:=.ins C s.heap.objs.size []) (t':=s.toks) (λb u q=>kJ _ q) (Nat.le_of_eq<|bq _ _) ?_;have ne:s.heap.objs.size≠s.heap.objs.size+1:=aF<|b9 _;refine⟨by rw[e9 ne,eZ],bp _,ne,e2,λ_=>none,(Heap.Ns1.of_empty e3).at λo q=>kJ _ q,λ_=>True.intro,λy hy=>absurd rfl hy⟩
def Ic {prog:ae}{w:af}{env:Env}{e:Expr}{f:Str}{pos:Pos}{s:ai}{Q:ak->ai->Prop}(hb:attributeBase e f env (eval e env)=eval e env)
 (h:wpAny (model prog w) A (eval e env) (λo s₁=>wpAny (model prog w) A (getAttr o f true) Q E s₁) E s):wpAny (model prog w) A (eval (.Attribute e f pos) env) Q E s:=
 Attribute_any_ h (by rw[arm_eval_Attribute,hb])
end
def tFld (K:aa)(ta:TE)(f:Str):TE:=λσ H Q=>ta σ H λx H1=>∃ a C dx fs v,x=.ref a/\H1 a=some (.ins C dx fs)/\wt K C/\n8 K C f/\fs.lookup f=some v/\Q v H1
def sFld (K:aa)(ta tv:TE)(f:Str):TS:=λD σ H=>tv σ H λy H1=>ta σ H1 λx H2=>∃ a C dx fs,x=.ref a/\H2 a=some (.ins C dx fs)/\wt K C/\n8 K C f/\fs.length<1000 /\
 D.nx σ (upd H2 a<|.ins C dx<|lT f y fs)
def aat (X:Cx)(op:Operator)(rd:V->V->Hp->VK->Prop):Prop :=
 ∀(ee:ao (aj×Obj)) (s:ai) (σ:St) (H:Hp) (x y:V) (u v:ak) (Q:VK),Inv X ee σ H s->fM x u->fM y v->rd x y H Q->wpAny (model X.prog X.w) X.A (inplaceOp op u v) (EP X ee σ Q) X.xe s
def G7 (K:aa)(ta tv:TE)(rd:V->V->Hp->VK->Prop)(f:Str):TS:=λD σ H=>ta σ H λx H1=>∃ a C dx fs v,x=.ref a/\H1 a=some (.ins C dx fs)/\wt K C/\n8 K C f/\fs.lookup f=some v /\
 tv σ H1 λy H2=>rd v y H2 λz H3=>∃ V2 QL,H3 a=some (.ins C V2 QL)/\QL.length<1000/\D.nx σ (upd H3 a<|.ins C V2<|lT f z QL)
section
variable {X:Cx}{o e value:Expr}{f:Str}{pos pos' vH:Pos}{ta tv:TE}
def UP (he:PE X e ta)(hb:attributeBase e f X.env (eval e X.env)=eval e X.env):PE X (.Attribute e f pos) (tFld X.K ta f):=by intro ee s σ H Q I h;refine Ic hb (gg (he ee s σ H _ I h) λu s1 FP=>?_);obtain⟨x,H1,I1,rx,a,C,dx,fs,v,ex,ea,c,n,l,q⟩:=FP;subst ex;obtain rfl:u=Value.ref a:=rx;exact xK I1 ea c n l λu' s2 I2 ru=>⟨v,H1,I2,ru,q⟩
def UC (ha:PE X o ta)(hv:PE X value tv)(hs:swapsWith value (some<|.Attribute o f pos') pos.line X.env=pure false):PS X (.Assign [.Attribute o f pos'] value pos) (sFld X.K ta tv f):=by intro ee s σ H D I h;refine cI (gg (hv ee s σ H _ I h) λu s1 h_=>fw h_ λy H1 I1 ry q=>gg (ha ee s1 σ H1 _ I1 q) λov s2 QF=>?_) hs;obtain⟨x,H2,I2,rx,a,C,dx,fs,ex,ea,c,n,l,q2⟩:=QF;subst ex;obtain rfl:ov=Value.ref a:=rx;exact wL I2 ea c n l ry λs3 I3=>⟨σ,_,I3,q2⟩
def IS {op:Operator}{rd:V->V->Hp->VK->Prop}(ha:PE X o ta)(hv:PE X value tv)(hop:aat X op rd):PS X (.AugAssign (.Attribute o f vH) op value pos) (G7 X.K ta tv rd f):=by intro ee s σ H D I h;refine wpAny_AugAssign_AttributeAny (gg (ha ee s σ H _ I h) λov s1 MC=>?_);obtain⟨x,H1,I1,rx,a,C,dx,fs,v,ex,ea,c,n,l,q⟩:=MC;subst ex;obtain rfl:ov=Value.ref a:=rx;refine xK I1 ea c n l λu s2 I2 ru=>gg (hv ee s2 σ H1 _ I2 q) λw3 s3 h_=>fw h_ λy H2 I3 ry q3=>gg (hop ee s3 σ H2 v y u w3 _ I3 ru ry q3) λw4 s4 MB=>?_;obtain⟨z,H3,I4,rz,V2,QL,ea',l',q4⟩:=MB;exact wL I4 ea' c n l' rz λs5 I5=>⟨σ,_,I5,q4⟩
def rAdd:V->V->Hp->VK->Prop:=λx y H Q=>∃ i j,x=.int i/\y=.int j/\Q (.int<|i+j) H
def Vz:aat X .Add rAdd:=by refine λee s σ H x y u v Q I rx ry h_=>fw h_ λi j fE qk q=>?_;subst fE;subst qk;obtain⟨t,rfl⟩:=(show ∃ t,u=Value.int i t from rx);obtain⟨t',rfl⟩:=(show ∃ t',v=Value.int j t' from ry);exact PyProof.Rows.iadd_int ⟨.int<|i+j,H,I.tok _,⟨_,rfl⟩,q⟩
def Sk {pl:Sem Bool}{m:Str}{fZ:Pos}{args:ao Expr}{ee:ao (aj×Obj)}{s:ai}{σ:St}{H:Hp}{Q:ak->ai->Prop}{te:TE}(he:PE X e te)(I:Inv X ee σ H s)
 (h:te σ H λx H1=>∃ a C dx fs g,x=.ref a/\H1 a=some (.ins C dx fs)/\wt X.K C/\Meth X.K C m g/\fs.lookup m=none /\
   ∀ s1,Inv X ee σ H1 s1->wpAny (model X.prog X.w) X.A (callWith pos (.ref g) [.ref a] (backTo pos<|starEach args X.env)<|backToKw pos<|keywordEach [] X.env) Q X.xe s1)
 (ht:eval (.Call (.Attribute e m fZ) args [] pos) X.env=(do
   let ov <- eval e X.env
   standAt fZ.atName
   let (f,first) <- holding [ov] (getMethod ov m pl)
   callWith pos f first (backTo pos<|starEach args X.env) (backToKw pos<|keywordEach [] X.env))):
 wpAny (model X.prog X.w) X.A (eval (.Call (.Attribute e m fZ) args [] pos) X.env) Q X.xe s:=by
 refine W.methodCall_KW (pl:=pl) (gg (he ee s σ H _ I h) λu s1 MA=>?_) ht;obtain⟨x,H1,I1,rx,a,C,dx,fs,g,ex,ea,c,k,l,q⟩:=MA;subst ex;obtain rfl:u=Value.ref a:=rx;exact sZ I1 ea c k l (q s1 I1)
end
section
variable {X:Cx}{ee:ao (aj×Obj)}{σ:St}{H:Hp}{s:ai}{A:Around}{E:ak->ai->Prop}{Q:ak->ai->Prop}{c:ak}{b:Bool}
inductive kO (K:aa)(H:Hp):V->ak->Prop where
 |gw:kO K H .gw (.type "NoneType")
 |bl (x:Bool):kO K H (.bl x) (.type "bool")
 |int (i:Int):kO K H (.int i) (.type "int")
 |str (x:Str):kO K H (.str x) (.type "str")
 |SK (x:UInt64):kO K H (.SK x) (.type "float")
 |lst {a:aj} {xs:List V} (e:H a=some (.lst xs)):kO K H (.ref a) (.type "list")
 |vm {a:aj} {o:Obj} {xs:List V} (e:H a=some (.vm o<|.lst xs)):kO K H (.ref a) (.type "list")
 |tup {a:aj} {xs:List V} (e:H a=some (.tup xs)):kO K H (.ref a) (.type "tuple")
 |dK {a:aj} {eP:List (Key×V)} (e:H a=some (.dK eP)):kO K H (.ref a) (.type "dict")
 |dT {a:aj} {eP:List (List Key×V)} (e:H a=some (.dT eP)):kO K H (.ref a) (.type "dict")
 | ins {a C dx:aj} {fs:List (Str×V)} (e:H a=some (.ins C dx fs)) (cl:wt K C) (ha:W.findIn K (.ref C) "__class__"=some (some<|.builtin "object.__class__"))
  (hn:W.specialIn K (.builtin "object.__class__") "__get__"=some (some<|.builtin "getset_descriptor.__get__")) (htk:W.takesIn K (.builtin "object.__class__")=some true)
  (hm:W.mroIn K C (.type "object")=some true):kO K H (.ref a) (.ref C)
def Jr {x:V}{u t:ak}(I:Inv X ee σ H s)(rx:fM x u)(ty:kO X.K H x t)(e:W.kitOne X.K t c=some b)(h:∀ tk,Q (.bool b) { s with toks:=tk}):
 wpAny (model X.prog X.w) A (call (.builtin "isinstance") [u,c]) Q E s:=by
 cases ty with
 |gw=>cases(show u=Value.none from rx);exact cP W.kitx_none I.om True.intro e (λz=>nomatch z) h
 |bl y=>cases(show u=Value.bool y from rx);exact cP W.kitx_bool I.om True.intro e (λz=>nomatch z) h
 |int i=>obtain⟨t,q⟩:=(show ∃ t,u=Value.int i t from rx);subst q;exact cP W.kitx_int I.om True.intro e (λz=>nomatch z) h
 |str y=>obtain⟨t,q⟩:=(show ∃ t,u=Value.str y t from rx);subst q;exact cP W.kitx_str I.om True.intro e (λz=>nomatch z) h
 |SK y=>obtain⟨t,q⟩:=(show ∃ t,u=Value.float y t from rx);subst q;exact cP W.kitx_float I.om True.intro e (λz=>nomatch z) h
 | @lst a xs ea =>cases(show u=Value.ref a from rx);obtain⟨_,_,n,_,h1⟩:=(show iQ X.prog X.w H s.heap a (.lst xs)from I.fB a _ ea);exact cP W.kitx_list I.om ⟨_,h1,rfl⟩ e (λz=>nomatch z) h
 | @vm a ob xs ea =>cases(show u=Value.ref a from rx);obtain⟨_,_,_,n,_,h1⟩:=(show iQ X.prog X.w H s.heap a (.vm ob<|.lst xs)from I.fB a _ ea);exact cP W.kitx_list I.om ⟨_,h1,rfl⟩ e (λz=>nomatch z) h
 | @tup a xs ea =>cases(show u=Value.ref a from rx);obtain⟨_,_,_,p⟩:=(show iQ X.prog X.w H s.heap a (.tup xs)from I.fB a _ ea);refine oy p λo h1 h2 _=>?_;exact cP W.kitx_tuple I.om ⟨o,h1,h2⟩ e (λz=>nomatch z) h
 | @dK a eP ea =>cases(show u=Value.ref a from rx);obtain⟨_,_,vs,_,p⟩:=(show iQ X.prog X.w H s.heap a (.dK eP)from I.fB a _ ea);refine tj p λo es ep h1 h2 _=>?_;exact cP W.kitx_dict I.om ⟨o,h1,h2.1⟩ e (λz=>nomatch z) h
 | @dT a eP ea =>cases(show u=Value.ref a from rx);obtain⟨_,_,xs,_,o,es,ep,h1,h2,_⟩:=(show iQ X.prog X.w H s.heap a (.dT eP)from I.fB a _ ea);exact cP W.kitx_dict I.om ⟨o,h1,h2.1⟩ e (λz=>nomatch z) h
 | @ins a C dx fs ea cl ha hn htk hm =>cases(show u=Value.ref a from rx);refine eS (v9 I.fB ea) λmA O _=>?_;refine eS O.look λod J _=>?_;exact cP (W.kitx_own (cl.get _) cl.hd ha hn htk hm) I.om J e (λz=>nomatch z) h
end
structure iq (k:Nat)(A:Around):Prop where
 hd:A.handled=none
 dp:A.depth+3*k+5<recursionLimit
 un:A.units+16*k+200<cLine
def iq.mono {j k:Nat}{A:Around}(r:iq k A)(h:j<=k):iq j A:=⟨r.hd,by have:=r.dp;lia,by have:=r.un;lia⟩
theorem iq.deeper {k:Nat}{A:Around}(r:iq (k+1) A)(env:Env):iq k (A.deeper env) :=
 ⟨r.hd,by have:=r.dp;show A.depth+1+3*k+5<_;lia,by have:=r.un;show A.units+3+16*k+200<_;lia⟩
def FJ {A:Around}{C:aj}{us:ao ak}{kw:ao (Str×ak)}:(A.under<|.builtin "type.__call__" ⟨.ref C::us,kw⟩).depth=A.depth+1:=by first|rfl|simp[Around.under,Code.weight,Code.isCreation,Code.isGuard,Code.isCaller,Code.frames,Code.isFrame,guardIds]
def FI {A:Around}{C:aj}{us:ao ak}{kw:ao (Str×ak)}:(A.under<|.builtin "type.__call__" ⟨.ref C::us,kw⟩).units=A.units+1:=by first|rfl|simp[Around.under,Code.cUnits,Code.frames,Code.isFrame]
def iq.make {k:Nat}{A:Around}(r:iq (k+1) A)(C:aj)(us:ao ak)(kw:ao (Str×ak)):iq k (A.under<|.builtin "type.__call__" ⟨.ref C::us,kw⟩) :=
 ⟨r.hd,by have:=r.dp;rw[FJ];lia,by have:=r.un;rw[FI];lia⟩
theorem iq.depth {k:Nat}{A:Around}(r:iq k A):A.depth<recursionLimit:=by have:=r.dp;lia
theorem iq.units {k:Nat}{A:Around}(r:iq k A):A.units+64<cLine:=by have:=r.un;lia
def Pd:TA:=λ_ H Q=>Q [] H
def K1 (ta:TE)(tr:TA):TA:=λσ H Q=>ta σ H λx H1=>tr σ H1 λxs H2=>Q (x::xs) H2
section
variable {X:Cx}{e:Expr}{es:ao Expr}{te:TE}{t:TA}{pos:Pos}
def hU:PA X [] Pd:=λ_ _ _ _ H Q I h=>cD ⟨[],H,I,.nil,h⟩
def fh (ha:PE X e te)(hr:PA X es t)(hs:starEach (e::es) X.env=(false,eval e X.env)::starEach es X.env:=by rfl):PA X (e::es) (K1 te t):=by intro pos ee s σ H Q I h;rw[hs];refine cc (gg (ha ee s σ H _ I h) λu s1 h_=>fw h_ λx H1 I1 r1 q1=>?_);exact gg (hr pos ee s1 σ H1 _ I1 q1) λus s2 h_=>fw h_ λxs H2 I2 r2 q2=>⟨x::xs,H2,I2,.cons r1 r2,q2⟩
def tTup (t:TA):TE:=λσ H Q=>t σ H λxs H1=>xs.length<=sizeLine/\∀ p,H1 p=none->Q (.ref p) (upd H1 p<|.tup xs)
def tLst (t:TA):TE:=λσ H Q=>t σ H λxs H1=>xs.length<=sizeLine/\∀ p,H1 p=none->Q (.ref p) (upd H1 p<|.lst xs)
def UL {x1}(h:PA X es t):PE X (.Tuple es x1 pos) (tTup t):=by intro ee s σ H Q I hq;refine wpAny_Tuple_spliced (gg (h pos ee s σ H _ I hq) λus s1 h_=>jX h_ λxs H1 I1 r z q=>⟨r.length▸z,?_⟩);have hf:H1 s1.heap.objs.size=none:=I1.fB.fresh<|au _;refine⟨.ref s1.heap.objs.size,upd H1 s1.heap.objs.size<|.tup xs,I1.laid (t':=s1.toks) (λb u e=>kJ _ e) (au _) ?_,rfl,q _ hf⟩;exact⟨z,us,r,⟨_,aC _ rfl,rfl,_,rfl⟩⟩
def LJ (h:PA X es t):PE X (.List es pos) (tLst t):=by intro ee s σ H Q I hq;refine wpAny_List_spliced (gg (h pos ee s σ H _ I hq) λus s1 h_=>jX h_ λxs H1 I1 r z q=>⟨r.length▸z,?_⟩);have hf:H1 s1.heap.objs.size=none:=I1.fB.fresh<|au _;refine⟨.ref s1.heap.objs.size,upd H1 s1.heap.objs.size<|.lst xs,I1.laid (t':=s1.toks) (λb u e=>kJ _ e) (au _) ?_,rfl,q _ hf⟩;exact⟨z,us,0,r,aC _ rfl⟩
end
abbrev Sp:=ao V->Hp->VK->XK->Prop
abbrev Kk:=ao Env->Hp->ai->XK->ak->ai->Prop
structure Cd (P:ae)(w:af)(K:aa)(mg:Str->Option ak)(eB:Heap)(A:Around)(eM:List Env)(s:ai)(H:Hp):Prop where
 frames:A.frames=some eM
 mod:Mod K mg eB
 bs:∀ b o,eB.get? b=some o->s.heap.get? b=some o/\H b=none
 Ia:eB.objs.size<=s.heap.objs.size
 r9:s.heap.FunFrames eB eM
 OU:∀ b∈zF eM,H b=none
 fB:rA P w H s.heap
 bare:AllBare s.gens
def CE (eM:ao Env)(P:ae)(w:af)(H:Hp)(s:ai)(Q:VK)(u:ak)(s':ai):Prop :=
 ∃ v H',s'.os=s.os/\AllBare s'.gens/\Un (zF eM) [] H H' s.heap s'.heap/\rA P w H' s'.heap/\fM v u/\Q v H'
def CR (CX:Kk)(eM:ao Env)(P:ae)(w:af)(H:Hp)(s:ai)(Q:VK)(E:XK)(r:Result)(s':ai):Prop :=
 match r with
 |.ok (.ret u)=>CE eM P w H s Q u s'
 |.ok _=>False
 |.error e=>CX eM H s E e s'
structure fA (P:ae)(w:af)(K:aa)(mg:Str->Option ak)(eB:Heap)(CX:Kk)(k:Nat)(f:aj)(fd:ah)(ps:List Str)(sp:Sp):Prop where
 len:∀ vs H Q E,sp vs H Q E->vs.length=ps.length
 run:∀(A:Around) (eM:List Env) (s:ai) (H:Hp) (args:Args) (us:List ak) (vs:List V) (Q:VK) (E:XK),iq k A->Cd P w K mg eB A eM s H->BindsTo s fd args (ps.zip us)->fH vs us->sp vs H Q E ->
  codeAny (model P w) A (.call (.ref f) args) (CR CX eM P w H s Q E) s
def fA.imp {P:ae}{w:af}{K:aa}{mg:Str->aq ak}{eB:Heap}{CX:Kk}{k:Nat}{f:aj}{fd:ah}{ps:ao Str}{sp sp':Sp}(F:fA P w K mg eB CX k f fd ps sp)
 (h:∀ vs H Q E,sp' vs H Q E->sp vs H Q E):fA P w K mg eB CX k f fd ps sp':=
 ⟨λvs H Q E q=>F.len vs H Q E<|h _ _ _ _ q,λA eM s H args us vs Q E hr he hb hv hs=>F.run A eM s H args us vs Q E hr he hb hv<|h _ _ _ _ hs⟩
def Cd.make {P:ae}{w:af}{K:aa}{mg:Str->aq ak}{eB:Heap}{A:Around}{eM:ao Env}{s:ai}{H:Hp}(e:Cd P w K mg eB A eM s H)(C:aj)(us:ao ak)(kw:ao (Str×ak)):
 Cd P w K mg eB (A.under<|.builtin "type.__call__" ⟨.ref C::us,kw⟩) eM s H:=⟨by first|exact e.frames|(simpa [Around.under,Code.envs,Code.isFrame,pushEnvs]using e.frames),e.mod,e.bs,e.Ia,e.r9,e.OU,e.fB,e.bare⟩
section
variable {X:Cx}{ee:ao (aj×Obj)}{σ:St}{H:Hp}{s s':ai}
def Inv.QQ (I:Inv X ee σ H s):Cd X.prog X.w X.K X.mg X.eB X.A X.stack s H :=
 ⟨I.ok.frames,I.ok.mod,I.bs,aG I.ok.Ia I.sz,I.stack,I.rH,I.fB,I.bare⟩
def Inv.after {Q:VK}{u:ak}(I:Inv X ee σ H s)(h:CE X.stack X.prog X.w H s Q u s'):EP X ee σ Q u s':=by refine e2a6 h λv H' os bare un fB r q=>?_;obtain⟨hh,g,d,t,os'⟩:=s';obtain rfl:os'=s.os:=os;exact⟨v,H',I.call (h':=hh) (g':=g) (d':=d) (t':=t) (ch:=[]) un fB bare λb z=>absurd z<|by simp,r,q⟩
end
def RZ (sp:Sp)(dvs:ao V)(E:XK)(t:TA):TE:=λσ H Q=>t σ H λvs H1=>sp (vs++dvs) H1 Q E
def CF (C:aj)(m:Str)(sp:Sp)(dvs:ao V)(E:XK)(ta:TE)(t:TA):TE:=λσ H Q=>ta σ H λx H1=>∃ a dx fs,x=.ref a/\H1 a=some (.ins C dx fs)/\fs.lookup m=none /\
 t σ H1 λvs H2=>sp (x::(vs++dvs)) H2 Q E
def KZ (C:aj)(sp:Sp)(dvs:ao V)(E:XK)(t:TA):TE:=λσ H Q=>t σ H λvs H1=>∀ x dx,H1 x=none->H1 dx=none->dx≠x ->
 sp (.ref x::(vs++dvs)) (upd (upd H1 dx<|.own x) x<|.ins C dx []) (λv H2=>v=.gw/\Q (.ref x) H2) E
def Binds (K:aa)(fd:ah)(ps:ao Str)(ds:ao ak):Prop :=
 ∀(s:ai) (us:ao ak),K.In s.heap->(us++ds).length=ps.length->BindsTo s fd ⟨us,[]⟩ (ps.zip<|us++ds)
def Binds.all {K:aa}{fd:ah}{ps:ao Str}(h:∀ us:ao ak,us.length=ps.length->bindArgs fd ⟨us,[]⟩=pure (ps.zip us)):Binds K fd ps []:=λs us _ hl=>by
 rw[bg]at hl ⊢
 exact .of_eq (h us hl)
def Passes (CX:Kk)(X:Cx)(E:XK):Prop:=∀(ee:ao (aj×Obj)) (σ:St) (H:Hp) (s:ai) (e:ak) (s':ai),Inv X ee σ H s->CX X.stack H s E e s'->X.xe e s'
section
variable {X:Cx}{CX:Kk}{k:Nat}{f C:aj}{fd:ah}{ps:ao Str}{sp:Sp}{dvs:ao V}{ds:ao ak}{E:XK}{x m:Str}{p pos fZ:Pos}{e o:Expr}{es:ao Expr}{ta:TE}{t:TA}
def xa {ee:ao (aj×Obj)}{σ:St}{H:Hp}{s:ai}{Q:VK}{us:ao ak}{vs:ao V}(F:fA X.prog X.w X.K X.mg X.eB CX k f fd ps sp)(hr:iq k X.A)(hb:Binds X.K fd ps ds)(hd:fH dvs ds)(hx:Passes CX X E)
 (I:Inv X ee σ H s) (r:fH vs us) (h:sp (vs++dvs) H Q E):wpAny (model X.prog X.w) X.A (call (.ref f) us) (EP X ee σ Q) X.xe s:=by
 have r2:fH (vs++dvs) (us++ds):=r.append hd;have hl:(us++ds).length=ps.length:=r2.length▸F.len _ _ _ _ h;refine dz (dR (F.run X.A X.stack s H ⟨us,[]⟩ (us++ds) (vs++dvs) Q E hr I.QQ (hb s us I.om hl) r2 h) λr s' hq=>?_);cases r with
 |error e=>exact hx ee σ H s e s' I hq
 | ok fl =>
  cases fl with
  |ret u=>exact I.after hq
  |next=>exact False.elim hq
  |brk=>exact False.elim hq
  |cont=>exact False.elim hq
def Hg (F:fA X.prog X.w X.K X.mg X.eB CX k f fd ps sp)(hr:iq k X.A)(hg:Gl X x)(hm:X.mg x=some (.ref f))(hk:W.keepIn X.K (.ref f)=true)(hb:Binds X.K fd ps ds)(hd:fH dvs ds)(hx:Passes CX X E)
 (ha:PA X (e::es) t) (sY:(x==("__debug__" : Str))=false:=by decide) (he:starEach (e::es) X.env=(false,eval e X.env)::starEach es X.env:=by rfl) (lU:(backTo pos<|starEach es X.env).any (·.1)=false:=by rfl):
 PE X (.Call (.Name x p) (e::es) [] pos) (RZ sp dvs E t):=by
 intro ee s σ H Q I h;refine bu<|lg I hg hm ?_ sY;refine dU (h₀:=X.eB) I.ok.mod.Kn hk (gg (ha pos ee s σ H _ I h) λus s1 h_=>fw h_ λvs H1 I1 r q=>⟨I1.om,?_⟩) he lU;exact xa F hr hb hd hx I1 r q
def A1 {pl:Sem Bool}(he:PE X o ta)(c:wt X.K C)(hm:Meth X.K C m f)(F:fA X.prog X.w X.K X.mg X.eB CX k f fd ps sp)(hr:iq k X.A)(hb:Binds X.K fd ps ds)(hd:fH dvs ds)(hx:Passes CX X E)(ha:PA X (e::es) t)
 (Cq:starEach (e::es) X.env=(false,eval e X.env)::starEach es X.env:=by rfl) (lU:(backTo pos<|starEach es X.env).any (·.1)=false:=by rfl)
 (ht:eval (.Call (.Attribute o m fZ) (e::es) [] pos) X.env=(do
   let ov <- eval o X.env
   standAt fZ.atName
   let (f,first) <- holding [ov] (getMethod ov m pl)
   callWith pos f first (backTo pos<|starEach (e::es) X.env) (backToKw pos<|keywordEach [] X.env)):=by rfl):
 PE X (.Call (.Attribute o m fZ) (e::es) [] pos) (CF C m sp dvs E ta t):=by
 intro ee s σ H Q I h;refine W.methodCall_KW (pl:=pl) (gg (he ee s σ H _ I h) λu s1 Sy=>?_) ht;obtain⟨x,H1,I1,rx,a,dx,fs,ex,ea,l,q⟩:=Sy;subst ex;obtain rfl:u=Value.ref a:=rx;refine sZ I1 ea c hm l ?_;refine dU (first:=[.ref a]) (h₀:=X.eB) I.ok.mod.Kn hm.kp (gg (ha pos ee s1 σ H1 _ I1 q) λus s2 h_=>fw h_ λvs H2 I2 r q2=>⟨I2.om,?_⟩) Cq lU;exact xa (us:=.ref a::us) (vs:=.ref a::vs) F hr hb hd hx I2 (.cons rfl r) q2
def Di {pl:Sem Bool}(he:PE X o ta)(c:wt X.K C)(hm:Meth X.K C m f)(F:fA X.prog X.w X.K X.mg X.eB CX k f fd ps sp)(hr:iq k X.A)(hb:Binds X.K fd ps ds)(hd:fH dvs ds)(hx:Passes CX X E)
 (ht:eval (.Call (.Attribute o m fZ) [] [] pos) X.env=(do
   let ov <- eval o X.env
   standAt fZ.atName
   let (f,first) <- holding [ov] (getMethod ov m pl)
   callWith pos f first (backTo pos<|starEach [] X.env) (backToKw pos<|keywordEach [] X.env)):=by rfl):
 PE X (.Call (.Attribute o m fZ) [] [] pos) (CF C m sp dvs E ta Pd):=by
 intro ee s σ H Q I h;refine W.methodCall_KW (pl:=pl) (gg (he ee s σ H _ I h) λu s1 FQ=>?_) ht;obtain⟨x,H1,I1,rx,a,dx,fs,ex,ea,l,q⟩:=FQ;subst ex;obtain rfl:u=Value.ref a:=rx;refine sZ I1 ea c hm l ?_;exact W.callWith_K0 (first:=[.ref a]) I1.om hm.kp (xa (us:=[.ref a]) (vs:=[.ref a]) F hr hb hd hx I1 (.cons rfl .nil) q)
structure Mk (K:aa)(C f:aj):Prop where
 makes:W.makesIn K C=true
 init:W.findIn K (.ref C) "__init__"=some (some<|.ref f)
 fn:W.isFn K (.ref f)=true
 kp:W.keepIn K (.ref C)=true
def Ln {ee:ao (aj×Obj)}{σ:St}{H:Hp}{s:ai}{Q:VK}{us:ao ak}{vs:ao V}(M:Mk X.K C f)(F:fA X.prog X.w X.K X.mg X.eB CX k f fd ps sp)(hr:iq (k+1) X.A)(hb:Binds X.K fd ps ds)(hd:fH dvs ds)
 (hx:Passes CX X E) (I:Inv X ee σ H s) (r:fH vs us)
 (h:∀ x dx,H x=none->H dx=none->dx≠x->sp (.ref x::(vs++dvs)) (upd (upd H dx<|.own x) x<|.ins C dx []) (λv H2=>v=.gw/\Q (.ref x) H2) E):
 wpAny (model X.prog X.w) X.A (call (.ref C) us) (EP X ee σ Q) X.xe s:=by
 have hq:=h (s.heap.objs.size+1) s.heap.objs.size (I.fB.fresh<|Nat.le_succ _) (I.fB.fresh<|au _)<|aF<|b9 _;have I2:=Inv.made (C:=C) I;have r2:fH (V.ref (s.heap.objs.size+1)::(vs++dvs)) (Value.ref (s.heap.objs.size+1)::(us++ds)):=.cons rfl (r.append hd);have hl:(Value.ref (s.heap.objs.size+1)::us++ds).length=ps.length:=by have e:=r2.length;rw[F.len _ _ _ _ hq]at e;exact e.symm
 refine dz (L9 (f:=f) I.om M.makes M.init (beq_iff_eq.mp M.fn) (dR (F.run _ X.stack _ _ ⟨Value.ref (s.heap.objs.size+1)::us,[]⟩ (Value.ref (s.heap.objs.size+1)::(us++ds)) _ _ E (hr.make C us [])
  (I2.QQ.make C us []) (hb _ (Value.ref (s.heap.objs.size+1)::us) I2.om hl) r2 hq) λr s' DJ=>?_))
 cases r with
 |error e=>exact hx ee σ _ _ e s' I2 DJ
 | ok fl =>
  cases fl with
  | ret u =>refine jX (I2.after DJ) λv H' I3 rv ev q3=>?_;subst ev;exact⟨rv,⟨V.ref<|s.heap.objs.size+1,H',I3,rfl,q3⟩⟩
  |next=>exact False.elim DJ
  |brk=>exact False.elim DJ
  |cont=>exact False.elim DJ
def A3 (M:Mk X.K C f)(F:fA X.prog X.w X.K X.mg X.eB CX k f fd ps sp)(hr:iq (k+1) X.A)(hg:Gl X x)(hm:X.mg x=some (.ref C))(hb:Binds X.K fd ps ds)(hd:fH dvs ds)(hx:Passes CX X E)
 (ha:PA X (e::es) t) (sY:(x==("__debug__" : Str))=false:=by decide) (he:starEach (e::es) X.env=(false,eval e X.env)::starEach es X.env:=by rfl) (lU:(backTo pos<|starEach es X.env).any (·.1)=false:=by rfl):
 PE X (.Call (.Name x p) (e::es) [] pos) (KZ C sp dvs E t):=by
 intro ee s σ H Q I h;refine bu<|lg I hg hm ?_ sY;refine dU (h₀:=X.eB) I.ok.mod.Kn M.kp (gg (ha pos ee s σ H _ I h) λus s1 h_=>fw h_ λvs H1 I1 r q=>⟨I1.om,?_⟩) he lU;exact Ln M F hr hb hd hx I1 r q
end
structure eR (N P:List Str)(sc:Scope):Prop where
 kind:sc.kind=.function
 co:sc.isCoroutine=false
 gen:sc.isGenerator=false
 nd:N.Nodup
 pre:N.take P.length=P
 par:∀ x∈P,sc.names.lookup x=some .local\/sc.names.lookup x=some .cell
 Va:∀ y∈sc.names,y.2≠.free
theorem zZ {kindOf:Str->aq NameKind}{x:Str}:∀ {binds:ao (Str×ak)} {m:Str->aq ak},(∀ v,(x,v)∉binds)->bindL kindOf binds m x=m x
 |[],_,_=>rfl
 | (n,v)::r,m,h=>by
  unfold bindL;rw[zZ λw hw=>h w<|o6 _ hw];split
  .have:x≠n:=by rintro rfl;exact h v aI
   simp[this]
  .rfl
theorem Aa {kindOf:Str->aq NameKind}{x:Str}:∀ {binds:ao (Str×ak)} {m:Str->aq ak},(∀ v,(x,v)∉binds)->bindC kindOf binds m x=m x
 |[],_,_=>rfl
 | (n,v)::r,m,h=>by
  unfold bindC;rw[Aa λw hw=>h w<|o6 _ hw];split
  .rfl
  .have:x≠n:=by rintro rfl;exact h v aI
   simp[this]
theorem z9 {kindOf:Str->aq NameKind}{x:Str}{v:ak}:∀ {P:ao Str} {vs:ao ak} {i:Nat} {m:Str->aq ak},P.Nodup->P[i]?=some x->vs[i]?=some v->kindOf x=some .local ->
 bindL kindOf (P.zip vs) m x=some v
 |[],_,_,_,_,h,_,_=>by contradiction
 |_::_,[],_,_,_,_,h,_=>by cases h
 | p::P,w::vs,0,m,nd,h1,h2,hk=>by simp at h1 h2;subst h1;subst h2;show bindL kindOf ((p,w)::P.zip vs) m p=_;unfold bindL;rw[zZ λv hv=>(List.nodup_cons.mp nd).1 (List.of_mem_zip hv).1,aD hk];simp
 | p::P,w::vs,i+1,m,nd,h1,h2,hk=>by unfold bindL;exact z9 (i:=i) (List.nodup_cons.mp nd).2 (by simpa using h1) (by simpa using h2) hk
theorem Ab {kindOf:Str->aq NameKind}{x:Str}{v:ak}:∀ {P:ao Str} {vs:ao ak} {i:Nat} {m:Str->aq ak},P.Nodup->P[i]?=some x->vs[i]?=some v->kindOf x≠some .local ->
 bindC kindOf (P.zip vs) m x=some v
 |[],_,_,_,_,h,_,_=>by contradiction
 |_::_,[],_,_,_,_,h,_=>by cases h
 | p::P,w::vs,0,m,nd,h1,h2,hk=>by simp at h1 h2;subst h1;subst h2;show bindC kindOf ((p,w)::P.zip vs) m p=_;unfold bindC;rw[Aa λv hv=>(List.nodup_cons.mp nd).1 (List.of_mem_zip hv).1,az hk];simp
 | p::P,w::vs,i+1,m,nd,h1,h2,hk=>by unfold bindC;exact Ab (i:=i) (List.nodup_cons.mp nd).2 (by simpa using h1) (by simpa using h2) hk
def start (N:ao Str)(vs:ao V):St:=vs.map some++List.replicate (N.length - vs.length) none
def px (CX:Kk)(P:ae)(w:af)(K:aa)(mg:Str->aq ak)(eB:Heap)(N:ao Str)(qual:Str)(scope:Scope)(f:aj)(cd:ak)(A:Around)(eM:ao Env)(s:ai)(H:Hp)(E:XK):Cx where
 prog:=P
 w:=w
 K:=K
 mg:=mg
 eB:=eB
 A:=A.deeper (envOfC qual scope s.heap.objs.size f cd)
 N:=N
 s₀:=s
 H₀:=H
 env:=envOfC qual scope s.heap.objs.size f cd
 eM:=eM
 stack:=envOfC qual scope s.heap.objs.size f cd::eM
 ex:=[]
 gE:=true
 fn:=λ_=>true
 pn:=[]
 xe:=λe s'=>wpAny (model P w) (A.deeper<|envOfC qual scope s.heap.objs.size f cd) (leaving (envOfC qual scope s.heap.objs.size f cd) e) (λ_ WV=>CX eM H s E e WV) (λe' WV=>CX eM H s E e' WV) s'
def pz {sc:Scope}{n:Nat}{x:Str}(h:sc.names.lookup x=some .cell):∃ c,(cellsFrom n sc.names []).lookup x=some c:=by have q:=W.cellsFrom_some sc.names n []<|.inl h;exact Option.isSome_iff_exists.mp q
def zz {CX:Kk}{P:ae}{w:af}{K:aa}{mg:Str->aq ak}{eB:Heap}{N ps:ao Str}{qual:Str}{scope:Scope}{f:aj}{cd:ak}{A:Around}{eM:ao Env}{s s1:ai}{H:Hp}{E:XK}{us:ao ak}{vs:ao V}
 (S:eR N ps scope) (hd:A.handled=none) (e0:Cd P w K mg eB A eM s H) (hl:vs.length=ps.length) (r:fH vs us)
 (x:InCallC s s.heap.objs.size (bindL (envOfC qual scope s.heap.objs.size f cd).kindOf (ps.zip us) λ_=>none) (cellsFrom (s.heap.objs.size+1) scope.names []) (bindC (envOfC qual scope s.heap.objs.size f cd).kindOf (ps.zip us) λ_=>none) s1):
 Inv (px CX P w K mg eB N qual scope f cd A eM s H E) [] (start N vs) H s1:=by
 have lU:ps.length<=N.length:=by have:=bG List.length S.pre;rw[ba]at this;lia
 refine mD x.done λh1 tk fE hk=>?_;subst fE;have Yt:∀ b:aj,b∉(px CX P w K mg eB N qual scope f cd A eM s H E).ex:=λb z=>absurd (show b∈([]:ao aj)from z) (by simp);refine⟨⟨e0.mod,S.kind,rfl,rfl,au _,λy z c h1 h2=>?_,λy hy=>?_,λy c _ h=>?_,λ_=>hd,Around.frames_deeper e0.frames,.inr ⟨rfl,rfl⟩,λb z=>absurd z<|Yt b,e0.bs,e0.Ia,λb _ _=>Yt b,λb z=>absurd z<|Yt b,e0.r9,e0.OU⟩,
  rfl,e0.bare,Un.eI hk,⟨_,x.toInCall.ns,λi y v h1 h2 h3=>?_⟩,λy c h=>⟨_,x.cell y c h⟩,e0.fB.fresh (au _),λy c h=>?_,λp hp=>absurd (show p∈([]:ao (aj×Obj))from hp)<|by simp,e0.fB.eI hk,?_⟩
 .exact name_of_addr x.apart (cJ h1) (cJ h2)
 .have hy:scope.names.lookup y=some .cell\/scope.names.lookup y=some .free:=hy;rcases hy with hy|hy
  .exact pz hy
  .exact absurd rfl (S.Va _<|cJ hy)
 .exact dY (x.above y c<|cJ h)
 .have hi:i<vs.length:=by
   unfold start at h2;by_cases hi:i<vs.length
   .exact hi
   .rw[ou (by simpa using hi)]at h2;rw[List.getElem?_replicate]at h2;split at h2<;>cases h2
  have ha:vs[i]?=some v:=by
   unfold start at h2;rw[tE (by simpa using hi),wd]at h2;cases e:vs[i]? with
   |none=>rw[e]at h2;cases h2
   |some a=>rw[e]at h2;cases h2;rfl
  refine eS (r.get ha) λu hu rv=>?_
  have hp:ps[i]?=some y:=by rw[<- S.pre,bC (by lia)];exact h1
  have ndP:ps.Nodup:=S.pre▸S.nd.sublist (List.take_sublist _ _)
  refine⟨u,rv,?_⟩
  rcases S.par y (ET hp)with k|k
  .exact .inl ⟨k,z9 ndP hp hu k⟩
  .refine kZ (pz (n:=s.heap.objs.size+1) k) λc e=>?_;refine .inr ⟨.inl k,c,e,?_⟩;have q:=x.cell y c e;rw[Ab ndP hp hu (by show scope.names.lookup y≠_;rw[k];decide)]at q;exact q
 .exact e0.fB.fresh (dY<|x.above y c<|cJ h)
 .delta start;show _=N.length;rw[mJ,jf,bc];lia
def SJ {CX:Kk}{P:ae}{w:af}{K:aa}{mg:Str->aq ak}{eB:Heap}{k:Nat}{f:aj}{name qual:Str}{params:Arguments}{body:ao Stmt}{scope:Scope}{dV kV doc pm hZ ct oc:ak}{an od:aq aj}
 {OL:Array (aq ak)} {N ps:ao Str} {sp:Sp} (lk:K.lookup f=some ⟨oc,od,.func<|W.fnOf name qual params body scope dV kV doc pm an hZ ct,OL⟩) (yY:W.codeIn K hZ qual=true) (S:eR N ps scope)
 (len:∀ vs H Q E,sp vs H Q E->vs.length=ps.length)
 (qW:∀(A:Around) (eM:ao Env) (s:ai) (H:Hp) (vs:ao V) (Q:VK) (E:XK),iq k (A.deeper<|envOfC qual scope s.heap.objs.size f hZ)->sp vs H Q E ->
   ∃ t,yt (px CX P w K mg eB N qual scope f hZ A eM s H E) body t/\t { nx:=λ_ H'=>Q .gw H',rt:=Q} (start N vs) H):
 fA P w K mg eB CX (k+1) f (W.fnOf name qual params body scope dV kV doc pm an hZ ct) ps sp:=by
 refine⟨len,λA eM s H args us vs Q E hr e0 hb r Kq=>?_⟩;have hl:=len _ _ _ _ Kq;have KX:K.In s.heap:=e0.mod.Kn.keeps λb o e=>(e0.bs b o e).1;have lim:s.heap.NoLimit:=e0.mod.nolimit.keeps λb o e=>(e0.bs b o e).1;have MG:∀ y∈ps.zip us,scope.names.lookup y.1=some .local\/(scope.names.lookup y.1=some .cell/\((cellsFrom (s.heap.objs.size+1) scope.names []).lookup y.1).isSome=true):=λ⟨n,v⟩ hy=>by
  rcases S.par n (List.of_mem_zip hy).1 with q|q
  .exact .inl q
  .exact .inr ⟨q,W.cellsFrom_some _ _ _<|.inl q⟩
 refine codeAny_call_function hr.depth (KX _ _ lk) rfl S.co S.gen rfl (W.codeRec_of KX yY)<|hb _ _ _ _ ?_;refine wpAny_newFunctionEnv_cells S.kind MG λenv he s1 x=>?_;subst he;refine⟨lim.keeps x.toInCall.keep,codeAny_func ?_⟩;refine eS (qW A eM s H vs Q E (hr.deeper _) Kq) λt ht hq=>?_;have I:Inv (px CX P w K mg eB N qual scope f hZ A eM s H E) [] (start N vs) H s1:=zz S hr.hd e0 hl r x;refine bf (ht [] s1 (start N vs) H _ I hq) (λfl s' hs=>?_) λe s' hs=>hs;have fin:∀ {gL:St} {H':Hp} {v:V} {u:ak},Inv (px CX P w K mg eB N qual scope f hZ A eM s H E) [] gL H' s'->fM v u->Q v H'->CE eM P w H s Q u s' :=
  λ{gL H' v u} J rv q=>⟨v,H',J.os,J.bare,J.eB,J.fB,rv,q⟩
 cases fl with
 | ret u =>refine tj hs λv gL H' J rv q=>?_;exact fin J rv q
 | next =>refine mD hs λgL H' J q=>?_;exact fin (v:=V.gw) (u:=Value.none) J rfl q
 | brk =>refine mD hs λ_ _ _ q=>?_;exact False.elim q
 | cont =>refine mD hs λ_ _ _ q=>?_;exact False.elim q
section
variable {X:Cx}{x:Str}{p pos:Pos}{e:Expr}{es:ao Expr}{t:TA}{id T:String}{r:ao V->Hp->VK->Prop}
def tCB (r:ao V->Hp->VK->Prop)(t:TA):TE:=λσ H Q=>t σ H λvs H1=>r vs H1 Q
def gv (hc:jg X (.builtin id) r)(hg:Gl X x)(hm:X.mg x=none)(hv:bootBuiltins x=some (.builtin id))(ha:PA X (e::es) t)(hn:x ≠ "__name__":=by decide)(sY:(x==("__debug__" : Str))=false:=by decide)
 (he:starEach (e::es) X.env=(false,eval e X.env)::starEach es X.env:=by rfl) (lU:(backTo pos<|starEach es X.env).any (·.1)=false:=by rfl):PE X (.Call (.Name x p) (e::es) [] pos) (tCB r t):=by
 intro ee s σ H Q I h;refine bu<|nN I hg hm hv ?_ hn sY;exact PyProof.Rows.callWith_builtin1 (gg (ha pos ee s σ H _ I h) λus s1 h_=>fw h_ λvs H1 I1 r1 q1=>hc ee s1 σ H1 vs us Q I1 r1 q1) he lU
def zo (hc:jg X (.type T) r)(hg:Gl X x)(hm:X.mg x=none)(hv:bootBuiltins x=some (.type T))(ha:PA X (e::es) t)(hn:x ≠ "__name__":=by decide)(sY:(x==("__debug__" : Str))=false:=by decide)
 (he:starEach (e::es) X.env=(false,eval e X.env)::starEach es X.env:=by rfl) (lU:(backTo pos<|starEach es X.env).any (·.1)=false:=by rfl):PE X (.Call (.Name x p) (e::es) [] pos) (tCB r t):=by
 intro ee s σ H Q I h;refine bu<|nN I hg hm hv ?_ hn sY;exact bj (gg (ha pos ee s σ H _ I h) λus s1 h_=>fw h_ λvs H1 I1 r1 q1=>hc ee s1 σ H1 vs us Q I1 r1 q1) he lU
end
end L2
namespace HT
open PySem PyProof.Rows
section
variable {prog:ae}{w:af}{A:Around}{E:ak->ai->Prop}{s:ai}
def jK (n d:Nat):aq Int->Nat
 |none=>d
 |some v=>if v<0 then(v+(n:Int)).toNat else min v.toNat n
def tO (n d:Nat):jK n d none=d:=rfl
def rN (n d k:Nat):jK n d (some (k:Int))=min k n:=by show(if(k:Int)<0 then((k:Int)+(n:Int)).toNat else min (k:Int).toNat n)=min k n;rw[az (by lia),VT]
def AM (n d:Nat)(hd:d<=n)(o:aq Int):jK n d o<=n:=by
 cases o with
 |none=>exact hd
 | some v =>
  show(if v<0 then(v+(n:Int)).toNat else min v.toNat n)<=n;by_cases hv:v<0
  .rw[aD hv];lia
  .rw[az hv];exact Nat.min_le_right _ _
def HU (v:Int)(n d:Nat):(if v<0 then max (v+(n:Int)) 0 else min v (n:Int))=((jK n d (some v):Nat):Int):=by
 show(if v<0 then max (v+(n:Int)) 0 else min v (n:Int))=(((if v<0 then(v+(n:Int)).toNat else min v.toNat n):Nat):Int);by_cases hv:v<0
 .simp only[aD hv];lia
 .simp only[az hv];lia
def GF (lo hi:aq Int)(n:Nat):Builtin.Slice.sliceAdjust lo hi 1 (n:Int)=(((jK n 0 lo:Nat):Int),((jK n n hi:Nat):Int)):=by
 have h1:¬ ((1:Int)<0):=by lia
 unfold Builtin.Slice.sliceAdjust;simp only[h1,dQ];refine Prod.ext ?_ ?_
 .cases lo with
  |none=>rfl
  |some v=>exact HU v n 0
 .cases hi with
  |none=>rfl
  |some v=>exact HU v n n
def Fj (i j:Nat):Builtin.Slice.slicePlaces (i:Int) (j:Int) 1=j - i:=by
 unfold Builtin.Slice.slicePlaces;have h1:(1:Int)>0:=by lia
 simp only[h1,if_true,Int.ediv_one];split<;>lia
def wK {v:ak}{o:aq Int}{Q:aq Int->ai->Prop}(p:IsPart v o)(h:Q o s):wpAny (model prog w) A (Builtin.Slice.slicePartIndex v) Q E s:=by
 cases p with
 |none=>exact slicePart_none h
 |int i t=>exact slicePart_int h
def uw {sl:aj}{vl vu:ak}{lo hi:aq Int}{n:Nat}{Q:Int×Int×Nat->ai->Prop}(hs:s.heap.IsSliceOf sl vl vu .none)(pl:IsPart vl lo)(pu:IsPart vu hi)
 (h:Q (((jK n 0 lo:Nat):Int),1,jK n n hi - jK n 0 lo) s):wpAny (model prog w) A (Builtin.Slice.sliceApplied (.ref sl)<|pure (n:Int)) Q E s:=by
 obtain⟨os,OP,W6,SD⟩:=id hs;unfold Builtin.Slice.sliceApplied Builtin.Slice.sliceFields;refine fb<|fb<|aX OP SD (x:=vl) rfl (fb<|aX OP SD (x:=vu) rfl (fb<|aX OP SD (x:=.none) rfl (av ?_)));refine fb<|slicePart_none ?_;show wpAny _ _ (if((1:Int)==0)=true then _ else _) _ _ s;rw[az (by decide)];refine fb<|wK pl<|fb<|wK pu<|fb<|av ?_;show wpAny _ _ (match Builtin.Slice.sliceAdjust lo hi 1 (n:Int)with|(lo,hi)=>pure (lo,(1:Int),Builtin.Slice.slicePlaces lo hi 1)) _ _ s;rw[GF lo hi n];show wpAny _ _ (pure (((jK n 0 lo:Nat):Int),(1:Int),Builtin.Slice.slicePlaces ((jK n 0 lo:Nat):Int) ((jK n n hi:Nat):Int) 1)) _ _ s;rw[Fj];exact av h
def LG (xs:Array ak)(i k:Nat):((List.range k).filterMap λ(m:Nat)=>xs[((i:Int)+(m:Int)*1).toNat]?).toArray=((xs.toList.drop i).take k).toArray:=by
 have e:(λ(m:Nat)=>xs[((i:Int)+(m:Int)*1).toNat]?)=λm=>xs[i+m]?:=by
  funext m;have:((i:Int)+(m:Int)*1).toNat=i+m:=by lia
  rw[this]
 rw[e];have:=pick_run xs i k;rw[List.filterMap_map]at this;have e2:((λx=>xs[x]?) ∘ λx=>i+x)=λm=>xs[i+m]?:=rfl;rw[e2]at this;rw[this]
def ua {t sl:aj}{items:Array ak}{vl vu:ak}{lo hi:aq Int}{Q:ak->ai->Prop}(ht:IsTup s.heap t items)(hs:s.heap.IsSliceOf sl vl vu .none)(pl:IsPart vl lo)(pu:IsPart vu hi)
 (hw:¬ (jK items.size 0 lo=0/\jK items.size items.size hi=items.size))
 (h:Q (.ref s.heap.objs.size) {s with heap:=s.heap.push { cls:=.type "tuple",data:=.seq ((items.toList.drop<|jK items.size 0 lo).take<|jK items.size items.size hi - jK items.size 0 lo).toArray}})
 (hsz:items.size<=sizeLine):wpAny (model prog w) A (getItem (.ref t)<|.ref sl) Q E s:=by
 have Ht:sizeOk (.seq ((items.toList.drop<|jK items.size 0 lo).take<|jK items.size items.size hi - jK items.size 0 lo).toArray):=by show((items.toList.drop<|jK items.size 0 lo).take<|jK items.size items.size hi - jK items.size 0 lo).toArray.size<=sizeLine;rw[aB,ba,cb,cu];lia
 have hj:jK items.size items.size hi<=items.size:=AM _ _ (au _) hi;obtain⟨os,OP,W6,SD⟩:=id hs;have hTs:s.TypeIs (.ref sl) "slice":=⟨os,OP,W6⟩;unfold getItem;try with_reducible refine bo ?_
 first|refine fb (av ?_)|skip
 refine fb (wpAny_sequenceKey ht.typeIs (by decide) ?_);refine fb (bS (name:=Str.ofString "__getitem__") ht.typeIs PyProof.Rows.slot_tuple_getitem
  (cw PyProof.Rows.slot_tuple_getitem ht.typeIs entry_tuple_getitem ?_<|args_tuple_getitem _ _))
 show wpAny _ _ (Builtin.Tuple.tupleItemsOf (.ref t)>>=_) _ _ s;refine fb<|tupleItemsOf_ ht ?_;refine fb<|wpAny_typeOf hTs ?_;rw[aD (by decide)];refine fb<|uw hs pl pu ?_;have hno:¬ ((((jK items.size 0 lo:Nat):Int)==0&&(1:Int)==1&&(jK items.size items.size hi - jK items.size 0 lo)==items.size)=true):=by intro q;rw[cQ,cQ]at q;have q1:((jK items.size 0 lo:Nat):Int)=0:=eq_of_beq q.1.1;have q2:jK items.size items.size hi - jK items.size 0 lo=items.size:=eq_of_beq q.2;exact hw ⟨by lia,by lia⟩
 show wpAny _ _ (if(((jK items.size 0 lo:Nat):Int)==0&&(1:Int)==1&&(jK items.size items.size hi - jK items.size 0 lo)==items.size)=true then _ else _) _ _ s;rw[az hno,LG];first
  |exact fb (m:=Builtin.Tuple.tupleExact _) (bw (av ⟨_,rfl,av h⟩) Ht)
  |exact fb (m:=Builtin.Tuple.tupleExact _) (bw (fb<|av<|av ⟨_,rfl,av h⟩) Ht)
  |exact fb (fb (m:=Builtin.Tuple.tupleExact _)<|bw (av<|av ⟨_,rfl,av h⟩) Ht)
  |exact fb (fb (m:=Builtin.Tuple.tupleExact _)<|bw (av ⟨_,rfl,av h⟩) Ht)
end
end HT
namespace L2
open PySem PySem.Spec PyProof.Rows
abbrev TO:=St->Hp->(aq Int->Hp->Prop)->Prop
def PO (X:Cx)(e:aq Expr)(t:TO):Prop :=
 ∀(ee:ao (aj×Obj)) (s:ai) (σ:St) (H:Hp) (Q:aq Int->Hp->Prop),Inv X ee σ H s->t σ H Q ->
  wpAny (model X.prog X.w) X.A (evalPart e X.env) (λu s'=>∃ o H',Inv X ee σ H' s'/\IsPart u o/\Q o H') X.xe s
def Pc:TO:=λ_ H Q=>Q none H
section
variable {X:Cx}{e:Expr}{te:TE}{lo hi:aq Expr}{tl th:TO}{pos p2:Pos}
def Qa:PO X none Pc:=by intro ee s σ H Q I h;rw[evalPart_none];exact av ⟨none,H,I,.none,h⟩
def SlR (X:Cx)(r:V->aq Int->aq Int->Hp->VK->Prop):Prop :=
 ∀(ee:ao (aj×Obj)) (s:ai) (σ:St) (H:Hp) (x:V) (v vl vu:ak) (lo hi:aq Int) (sl:aj) (Q:VK),Inv X ee σ H s->fM x v->s.heap.IsSliceOf sl vl vu .none->IsPart vl lo->IsPart vu hi->r x lo hi H Q ->
  ∃ T id,typeLookup (.type T) "__getitem__"=pure (some<|.builtin id)/\s.TypeIs v T/\wpAny (model X.prog X.w) X.A (getItem v<|.ref sl) (EP X ee σ Q) X.xe s
def tSl (r:V->aq Int->aq Int->Hp->VK->Prop)(te:TE)(tl th:TO):TE:=λσ H Q=>te σ H λx H1=>tl σ H1 λl H2=>th σ H2 λu H3=>r x l u H3 Q
def Dh {r:V->aq Int->aq Int->Hp->VK->Prop}(hr:SlR X r)(he:PE X e te)(hl:PO X lo tl)(hu:PO X hi th):PE X (.Subscript e (.Slice lo hi none p2) pos) (tSl r te tl th):=by intro ee s σ H Q I h;refine Subscript_ (gg (he ee s σ H _ I h) λv s1 FP=>?_);obtain⟨x,H1,I1,r1,q1⟩:=FP;refine wpAny_Slice (gg (hl ee s1 σ H1 _ I1 q1) λvl s2 QF=>?_);obtain⟨l,H2,I2,pl,q2⟩:=QF;refine gg (hu ee s2 σ H2 _ I2 q2) λvu s3 MC=>?_;obtain⟨u,H3,I3,pu,q3⟩:=MC;rw[evalPart_none];refine av ?_;have I4:Inv X ee σ H3 { s3 with heap:=s3.heap.push { cls:=.type "slice",data:=.fields #[vl,vu,.none]}}:=I3.eI (t':=s3.toks) λb ob q=>kJ _ q;obtain⟨T,id,hT,ht,hg⟩:=hr ee { s3 with heap:=s3.heap.push { cls:=.type "slice",data:=.fields #[vl,vu,.none]}} σ H3 x v vl vu l u s3.heap.objs.size Q I4 r1 (Heap.IsSliceOf.new ..) pl pu q3;show wpAny (model X.prog X.w) X.A (subscriptTail e (.Slice lo hi none p2) v<|.ref s3.heap.objs.size) (EP X ee σ Q) X.xe { s3 with heap:=s3.heap.push { cls:=.type "slice",data:=.fields #[vl,vu,.none]}};exact tail_any (ops:=[.ref s3.heap.objs.size,v]) ht hT hg (by with_unfolding_all rfl)
def BR (xs:ao V)(lo hi:aq Int):ao V:=(xs.drop<|HT.jK xs.length 0 lo).take (HT.jK xs.length xs.length hi - HT.jK xs.length 0 lo)
def vp (xs:ao V)(lo hi:aq Int):(BR xs lo hi).length<=xs.length:=by unfold BR;rw[ba,cb];lia
def rSlT (K:aa):V->aq Int->aq Int->Hp->VK->Prop:=λx lo hi H Q=>∃ a xs,x=.ref a/\Cs K H a xs /\
 ¬ (HT.jK xs.length 0 lo=0/\HT.jK xs.length xs.length hi=xs.length)/\∀ p,H p=none->Q (.ref p) (upd H p<|.tup<|BR xs lo hi)
def Ui:SlR X (rSlT X.K):=by
 intro ee s σ H x v vl vu lo hi sl Q I rx hs pl pu h;obtain⟨a,xs,rfl,hx,hw,q⟩:=h;cases rx;obtain⟨fu,r,ht,hz⟩:=I.tuple hx;have hlen:fu.toArray.size=xs.length:=by rw[aB];exact r.length.symm
 refine⟨"tuple",_,PyProof.Rows.slot_tuple_getitem.lookup,ht.typeIs,?_⟩;refine HT.ua ht hs pl pu (by rw[hlen];exact hw) ?_ (by rw[hlen];exact hz);rw[hlen];refine⟨.ref s.heap.objs.size,_,I.laid (t':=s.toks) (o:=.tup<|BR xs lo hi) (λb ob q=>kJ _ q) (au _) ?_,rfl,q _<|I.fB.fresh<|au _⟩;exact⟨aG (vp xs lo hi) hz,_,(r.drop<|HT.jK xs.length 0 lo).take<|HT.jK xs.length xs.length hi - HT.jK xs.length 0 lo,IsTup.new _ _⟩
end
def QC (n:Nat)(i:Int):aq Nat:=if 0<=i then(if i<n then some i.toNat else none)else if -(n:Int)<=i then some (i+n).toNat else none
def wq {α:Type}(xs:ao α)(i:Int):aq α:=(QC xs.length i).bind λj=>xs[j]?
def Ho {n:Nat}{i:Int}{j:Nat}(h:QC n i=some j):seqIndex? i n=some j/\j<n /\ -(n:Int)<=i/\i<n:=by
 unfold QC at h;by_cases h0:0<=i
 .rw[aD h0]at h;by_cases h1:i<n
  .rw[aD h1]at h;have e:i.toNat=j:=aW h;exact⟨by rw[seqIndex_of h0 h1,e],by lia,by lia,h1⟩
  .rw[az h1]at h;cases h
 .rw[az h0]at h;by_cases h1:-(n:Int)<=i
  .rw[aD h1]at h;have e:(i+n).toNat=j:=aW h;exact⟨by rw[seqIndex_neg (by lia) h1,e],by lia,h1,by lia⟩
  .rw[az h1]at h;cases h
def B3 {α:Type}{xs:ao α}{i:Int}{v:α}(h:wq xs i=some v):∃ j,seqIndex? i xs.length=some j/\xs[j]?=some v/\j<xs.length /\ -(xs.length:Int)<=i/\i<xs.length:=by
 unfold wq at h;cases e:QC xs.length i with
 |none=>rw[e]at h;cases h
 | some j =>rw[e]at h;obtain⟨h1,h2,h3,h4⟩:=Ho e;exact⟨j,h1,h,h2,h3,h4⟩
def p7 {α:Type}{xs:ao α}{j:Nat}{v:α}(h:xs[j]?=some v):wq xs (j:Int)=some v:=by
 have hj:j<xs.length:=(mW h).1;have e:QC xs.length (j:Int)=some j:=by unfold QC;rw[aD (by lia),aD (by lia)];simp
 unfold wq;rw[e];exact h
def B6 (b:Expr):Prop:=∀ o i,subscripted b false o i=operate [o,i] (getItem o i)
def Ij (X:Cx)(r:R2):Prop :=
 ∀(value slice:Expr) (ee:ao (aj×Obj)) (s:ai) (σ:St) (H:Hp) (x y:V) (v u:ak) (Q:VK),Inv X ee σ H s->fM x v->fM y u->r x y H Q ->
  subscripted slice false v u=operate [v,u] (getItem v u)->wpAny (model X.prog X.w) X.A (subscriptTail value slice v u) (EP X ee σ Q) X.xe s
def B7 (X:Cx)(id:String)(r:V->ao V->Hp->VK->Prop):Prop :=
 ∀(ee:ao (aj×Obj)) (s:ai) (σ:St) (H:Hp) (x:V) (xs:ao V) (v:ak) (us:ao ak) (Q:VK),Inv X ee σ H s->fM x v->fH xs us->r x xs H Q ->
  wpAny (model X.prog X.w) X.A (call (.builtin id)<|v::us) (EP X ee σ Q) X.xe s
section
variable {X:Cx}{a b:Expr}{ta tb:TE}{pos:Pos}
def Ij.or {r r':R2}(h:Ij X r)(h':Ij X r'):Ij X (λx y H Q=>r x y H Q\/r' x y H Q):=by
 intro value slice ee s σ H x y v u Q I rx ry q hs;rcases q with q|q
 .exact h value slice ee s σ H x y v u Q I rx ry q hs
 .exact h' value slice ee s σ H x y v u Q I rx ry q hs
def qK {r:R2}(hr:Ij X r)(ha:PE X a ta)(hb:PE X b tb)(hs:B6 b):PE X (.Subscript a b pos) (WS r ta tb):=by intro ee s σ H Q I h;exact Subscript_ (Rv ha hb I h λv u s2 x y H2 I2 rx ry q=>hr a b ee s2 σ H2 x y v u Q I2 rx ry q<|hs _ _)
def X4 (K:aa):R2:=λx y H Q=>∃ p xs i v,x=.ref p/\y=.int i/\qv K H p xs/\wq xs i=some v/\Q v H
def X2 (K:aa):R2:=λx y H Q=>∃ p xs i v,x=.ref p/\y=.int i/\Cs K H p xs/\wq xs i=some v/\Q v H
def X3:R2:=λx y H Q=>∃ z i c,x=.str z/\y=.int i/\z.length<=sizeLine/\wq z.cps.toList i=some c/\Q (.str ⟨#[c]⟩) H
def QB:Ij X (X4 X.K):=by
 intro value slice ee s σ H x y v u Q I rx ry h hs;obtain⟨p,xs,i,z,rfl,rfl,hq,he,q⟩:=h;cases rx;obtain⟨t,rfl⟩:=ry;obtain⟨fu,r,pl,hz⟩:=I.list hq;obtain⟨j,h1,h2,h3,h4,h5⟩:=B3 he;obtain⟨w,ew,Lm⟩:=r.get h2;have hl:=r.length;have hn:=qR;have fin:EP X ee σ Q w s:=⟨z,H,I,Lm,q⟩;by_cases h0:0<=i
 .have hj:i.toNat=j:=by rw[seqIndex_of h0 h5]at h1;exact aW h1
  exact item_listR pl.isList h0 (by lia) (by rw[hj];simpa using ew) fin hs
 .have hj:(i+(fu.toArray.size:Int)).toNat=j:=by rw[seqIndex_neg (by lia) h4]at h1;rw[aB,<- hl];exact aW h1
  exact subscriptTail_builtinR (x:=w) pl.isList.typeIs slot_list_getitem.lookup
   (wpAny_getItem_list_neg (Q:=λr s'=>r=w/\EP X ee σ Q r s') pl.isList (by lia) (by rw[aB]<;> lia) (by lia) (by rw[hj];simpa using ew) ⟨rfl,fin⟩) hs
def Vo:Ij X (X2 X.K):=by
 intro value slice ee s σ H x y v u Q I rx ry h hs;obtain⟨p,xs,i,z,rfl,rfl,hq,he,q⟩:=h;cases rx;obtain⟨t,rfl⟩:=ry;obtain⟨fu,r,pl,hz⟩:=I.tuple hq;obtain⟨j,h1,h2,h3,h4,h5⟩:=B3 he;obtain⟨w,ew,Lm⟩:=r.get h2;have hl:=r.length;have hn:=qR;have fin:EP X ee σ Q w s:=⟨z,H,I,Lm,q⟩;exact subscriptTail_builtinR (x:=w) pl.typeIs slot_tuple_getitem.lookup
  (getItem_tuple (j:=j) (Q:=λr s'=>r=w/\EP X ee σ Q r s') pl (by lia) (by lia) (by rw[aB,<- hl];exact h1) (by simpa using ew) ⟨rfl,fin⟩) hs
def Vp:Ij X X3:=by
 intro value slice ee s σ H x y v u Q I rx ry h hs;obtain⟨z,i,c,rfl,rfl,hz,he,q⟩:=h;obtain⟨t,rfl⟩:=rx;obtain⟨t',rfl⟩:=ry;obtain⟨j,h1,h2,h3,h4,h5⟩:=B3 he;have hl:z.cps.toList.length=z.length:=by simp[Str.length]
 rw[hl]at h1 h4 h5;have hn:=qR;exact tail_any (dA s z t) slot_str_getitem.lookup (getItem_str (c:=c) (by
  have e1:decide (i < -(2 ^ 63:Int))=false:=aw (by lia)
  have e2:decide (i≥2 ^ 63)=false:=aw (by lia)
  rw[e1,e2,Bool.or_false]) (by rw[h1];simpa using h2) ⟨.str ⟨#[c]⟩,H,I.tok _,⟨_,rfl⟩,q⟩) hs
def rIx (K:aa):R2:=λx y H Q=>X4 K x y H Q\/X2 K x y H Q\/X3 x y H Q
def Vq:Ij X (rIx X.K):=QB.or (Vo.or Vp)
def FH (fu:ao ak)(n j:Nat)(u:ak):Obj.mapSeq (·.setIfInBounds j u) { cls:=.type "list",data:=.seq fu.toArray n}={ cls:=.type "list",data:=.seq (fu.set j u).toArray n}:=by simp[Obj.mapSeq]
theorem Inv.lst {ee:ao (aj×Obj)}{σ:St}{H:Hp}{s:ai}{p:aj}{xs:ao V}(I:Inv X ee σ H s)(h:H p=some (.lst xs)):
 ∃(fu:ao ak) (n:Nat),fH xs fu/\s.heap.get? p=some { cls:=.type "list",data:=.seq fu.toArray n}/\xs.length<=sizeLine:=by
 obtain⟨z,fu,n,r,e⟩:=I.fB p _ h;exact⟨fu,n,r,e,z⟩
def Inv.Ve {ee:ao (aj×Obj)}{σ:St}{H:Hp}{s:ai}{p:aj}{xs ys:ao V}{fu its':ao ak}{n n':Nat}{f:Obj->Obj}(I:Inv X ee σ H s)(h:H p=some (.lst xs))
 (ho:s.heap.get? p=some { cls:=.type "list",data:=.seq fu.toArray n}) (hf:f { cls:=.type "list",data:=.seq fu.toArray n}={ cls:=.type "list",data:=.seq its'.toArray n'}) (r:fH ys its') (hz:ys.length<=sizeLine) (t:Nat):
 Inv X ee σ (upd H p<|.lst ys) {s with heap:=s.heap.update p f,toks:=t}:=by
 have e:(s.heap.update p f).get? p=some { cls:=.type "list",data:=.seq its'.toArray n'}:=by rw[bt f ho (by rw[hf]<;> rfl),hf]
 refine I.write (x:=p) (e:=p) (by rw[h];trivial) (.inl rfl) (λb u hb q=>(aZ _ _<|bz hb).trans q) ⟨_,e⟩ ?_;exact⟨hz,its',n',r,e⟩
def X1:V->V->V->Hp->(Hp->Prop)->Prop:=λo i v H Q=>∃ p xs k j,o=.ref p/\i=.int k/\H p=some (.lst xs)/\QC xs.length k=some j/\Q (upd H p<|.lst<|xs.set j v)
def set_list:RE X X1:=by
 intro ee s σ H o i v ov iv u Q I ro ri rv h;obtain⟨p,xs,k,j,rfl,rfl,hp,hj,q⟩:=h;cases ro;obtain⟨t,rfl⟩:=ri;obtain⟨fu,n,r,ho,hz⟩:=I.lst hp;obtain⟨h1,h2,h3,h4⟩:=Ho hj;have hl:=r.length;have hn:=qR;have I':Inv X ee σ (upd H p<|.lst<|xs.set j v) { s with heap:=s.heap.update p (Obj.mapSeq (·.setIfInBounds j u))} :=
  I.Ve hp ho (FH fu n j u) (r.set rv j) (by rw[aR];exact hz) s.toks
 by_cases h0:0<=k
 .have hk:k.toNat=j:=by rw[seqIndex_of h0 h4]at h1;exact aW h1
  exact W.ki_setAt ho h0 (by lia) (by rw[aB,<- hl];exact h4) (by rw[hk];exact⟨_,I',q⟩)
 .have hk:(k+(fu.toArray.size:Int)).toNat=j:=by rw[seqIndex_neg (by lia) h3]at h1;rw[aB,<- hl];exact aW h1
  exact W.ki_setBack ho (by lia) (by rw[aB,<- hl];exact h3) (by lia) (by rw[hk];exact⟨_,I',q⟩)
def Aw (lo hi:aq Int)(n:Nat):(sliceBounds lo hi none n).1=((HT.jK n 0 lo:Nat):Int)/\(sliceBounds lo hi none n).2.1=((HT.jK n n hi:Nat):Int)/\(sliceBounds lo hi none n).2.2=1:=by
 refine⟨?_,?_,rfl⟩
 .cases lo with
  |none=>simp[sliceBounds,HT.jK]
  | some i =>
   simp only[sliceBounds,HT.jK,Option.getD_none,show(1:Int)>0 by decide,if_true];by_cases h:i<0
   .simp only[h,if_true]<;> lia
   .simp only[h,dQ]<;> lia
 .cases hi with
  |none=>simp[sliceBounds,HT.jK]
  | some i =>
   simp only[sliceBounds,HT.jK,Option.getD_none,show(1:Int)>0 by decide,if_true];by_cases h:i<0
   .simp only[h,if_true]<;> lia
   .simp only[h,dQ]<;> lia
def yK (fu:ao ak)(lo hi:aq Int):slicePick fu.toArray lo hi none=((fu.drop<|HT.jK fu.length 0 lo).take<|HT.jK fu.length fu.length hi - HT.jK fu.length 0 lo).toArray:=by obtain⟨h1,h2,h3⟩:=Aw lo hi fu.toArray.size;unfold slicePick;rw[h1,h2,h3];simp only[sliceRange_one,pick_run,aB]<;> rfl
def rSlL (K:aa):V->aq Int->aq Int->Hp->VK->Prop:=λx lo hi H Q=>∃ a xs,x=.ref a/\qv K H a xs/\∀ p,H p=none->Q (.ref p) (upd H p<|.lst<|BR xs lo hi)
def Pw:SlR X (rSlL X.K):=by intro ee s σ H x v vl vu lo hi sl Q I rx hs pl pu h;obtain⟨a,xs,rfl,hx,q⟩:=h;cases rx;obtain⟨fu,r,ht,hz⟩:=I.list hx;have hlen:=r.length;refine⟨"list",_,slot_list_getitem.lookup,ht.isList.typeIs,?_⟩;refine wpAny_getItem_list_slice ht.isList hs pl pu .none (by simp) ?_ (by rw[aB]<;> lia);rw[yK,<- hlen];refine⟨.ref s.heap.objs.size,_,I.laid (t':=s.toks) (o:=.lst<|BR xs lo hi) (λb ob q=>kJ _ q) (au _) ?_,rfl,q _<|I.fB.fresh<|au _⟩;exact⟨aG (vp xs lo hi) hz,_,0,(r.drop<|HT.jK xs.length 0 lo).take<|HT.jK xs.length xs.length hi - HT.jK xs.length 0 lo,aC _ rfl⟩
def m7:V->Bool
 |.gw=>true
 |.bl _=>true
 |.int _=>true
 |.str _=>true
 |_=>false
def QP:V->V->Bool
 |.gw,.gw=>true
 |.bl a,.bl b=>a==b
 |.bl a,.int b=>(if a then 1 else 0)==b
 |.int a,.bl b=>a==(if b then 1 else 0)
 |.int a,.int b=>a==b
 |.str a,.str b=>a==b
 |_,_=>false
def V1 {A:Around}{s:ai}{y x:V}{u v:ak}(ry:fM y u)(rx:fM x v)(fy:m7 y=true)(fx:m7 x=true):SeqAt.EqAt A s u v (QP y x):=by
 cases y with
 | gw =>
  cases ry;cases x with
  |gw=>cases rx;exact SeqAt.EqAt.same _
  |bl b=>cases rx;exact SeqAt.EqAt.none_bool b
  |int b=>obtain⟨t,rfl⟩:=rx;exact SeqAt.EqAt.none_int b t
  |str b=>obtain⟨t,rfl⟩:=rx;exact SeqAt.EqAt.none_str b t
  |_=>exact absurd (show false=true from fx) aM
 | bl a =>
  cases ry;cases x with
  |gw=>cases rx;exact SeqAt.EqAt.bool_none a
  |bl b=>cases rx;exact SeqAt.EqAt.bool_bool a b
  |int b=>obtain⟨t,rfl⟩:=rx;exact SeqAt.EqAt.bool_int a b t
  |str b=>obtain⟨t,rfl⟩:=rx;exact SeqAt.EqAt.bool_str a b t
  |_=>exact absurd (show false=true from fx) aM
 | int a =>
  obtain⟨t',rfl⟩:=ry;cases x with
  |gw=>cases rx;exact SeqAt.EqAt.int_none a t'
  |bl b=>cases rx;exact SeqAt.EqAt.int_bool a t' b
  |int b=>obtain⟨t,rfl⟩:=rx;exact SeqAt.EqAt.int_int a t' b t
  |str b=>obtain⟨t,rfl⟩:=rx;exact SeqAt.EqAt.int_str a t' b t
  |_=>exact absurd (show false=true from fx) aM
 | str a =>
  obtain⟨t',rfl⟩:=ry;cases x with
  |gw=>cases rx;exact SeqAt.EqAt.str_none a t'
  |bl b=>cases rx;exact SeqAt.EqAt.str_bool a t' b
  |int b=>obtain⟨t,rfl⟩:=rx;exact SeqAt.EqAt.str_int a t' b t
  |str b=>obtain⟨t,rfl⟩:=rx;exact SeqAt.EqAt.str_str a t' b t
  |_=>exact absurd (show false=true from fx) aM
 |_=>exact absurd (show false=true from fy) aM
def Gv (x:V)(u:ak):Bool:=match u with
 |.none=>QP .gw x
 |.bool b=>QP (.bl b) x
 |.int i _=>QP (.int i) x
 |.str z _=>QP (.str z) x
 |_=>false
def Np {x y:V}{u:ak}(r:fM y u)(f:m7 y=true):Gv x u=QP y x:=by
 cases y with
 |gw=>cases r;rfl
 |bl b=>cases r;rfl
 |int i=>obtain⟨t,rfl⟩:=r;rfl
 |str z=>obtain⟨t,rfl⟩:=r;rfl
 |_=>exact absurd (show false=true from f) aM
theorem ui {x:V}:∀ {xs:ao V} {us:ao ak},fH xs us->xs.all m7=true->us.any (Gv x)=xs.any λy=>QP y x
 |_,_,.nil,_=>rfl
 | y::xs,u::us,.cons r t,f=>by rw[List.all_cons,cQ]at f;rw[bV,bV,Np r f.1,ui t f.2]
theorem qO {A:Around}{s:ai}{x:V}{v:ak}(rx:fM x v)(fx:m7 x=true):∀ {xs:ao V} {us:ao ak},fH xs us->xs.all m7=true->∀ u∈us,SeqAt.EqAt A s u v (Gv x u)
 |_,_,.nil,_=>λu hu=>by cases hu
 | y::xs,u::us,.cons r t,f=>λu' hu=>by
  rw[List.all_cons,cQ]at f;rcases List.mem_cons.mp hu with rfl|hu
  .rw[Np r f.1];exact V1 r rx f.1 fx
  .exact qO rx fx t f.2 u' hu
def VA (x:V)(xs:ao V):Bool:=xs.any λy=>QP y x
def rIn (K:aa)(neg:Bool):R2:=λx y H Q=>∃ p xs,y=.ref p/\(qv K H p xs\/Cs K H p xs)/\m7 x=true/\xs.all m7=true/\Q (.bl<|if neg then !VA x xs else VA x xs) H
def Jd:lj X (compareOp .In) (rIn X.K false):=by
 intro ee s σ H x y v u Q I rx ry h;obtain⟨p,xs,rfl,hq,fx,fs,q⟩:=h;cases ry;rcases hq with hq|hq
 .obtain⟨fu,r,pl,hz⟩:=I.list hq;refine SeqAt.in_listAt (Gv x) pl.isList (λw hw=>qO rx fx r fs w<|by simpa using hw) ⟨.bl _,H,I,rfl,?_⟩;rw[show fu.toArray.any (Gv x)=fu.any (Gv x) by simp,ui r fs];exact q
 .obtain⟨fu,r,pl,hz⟩:=I.tuple hq;refine SeqAt.in_tupleAt (Gv x) pl (λw hw=>qO rx fx r fs w<|by simpa using hw) ⟨.bl _,H,I,rfl,?_⟩;rw[show fu.toArray.any (Gv x)=fu.any (Gv x) by simp,ui r fs];exact q
def A5:lj X (compareOp .NotIn) (rIn X.K true):=by
 intro ee s σ H x y v u Q I rx ry h;obtain⟨p,xs,rfl,hq,fx,fs,q⟩:=h;cases ry;rcases hq with hq|hq
 .obtain⟨fu,r,pl,hz⟩:=I.list hq;refine SeqAt.notIn_listAt (Gv x) pl.isList (λw hw=>qO rx fx r fs w<|by simpa using hw) ⟨.bl _,H,I,rfl,?_⟩;rw[show fu.toArray.any (Gv x)=fu.any (Gv x) by simp,ui r fs];exact q
 .obtain⟨fu,r,pl,hz⟩:=I.tuple hq;refine SeqAt.notIn_tupleAt (Gv x) pl (λw hw=>qO rx fx r fs w<|by simpa using hw) ⟨.bl _,H,I,rfl,?_⟩;rw[show fu.toArray.any (Gv x)=fu.any (Gv x) by simp,ui r fs];exact q
def A4:lj X (compareOp .NotIn) (λx y H Q=>∃ i j,x=.str i/\y=.str j/\Q (.bl<|!(!(Builtin.Str.occurrences j i 0 j.length 1).isEmpty)) H):=by intro ee s σ H x y v u Q I rx ry h;obtain⟨i,j,rfl,rfl,q⟩:=h;obtain⟨t,rfl⟩:=rx;obtain⟨t',rfl⟩:=ry;exact notIn_str ⟨.bl _,H,I,rfl,q⟩
def BY:jg X (.builtin "len") (λxs H Q=>∃ p ys,xs=[.ref p]/\(qv X.K H p ys\/Cs X.K H p ys)/\Q (.int ys.length) H):=by
 intro ee s σ H xs us Q I r h;obtain⟨p,ys,rfl,hq,q⟩:=h;obtain⟨u,rfl,rx⟩:=vals1 r;cases rx;have hn:=qR;rcases hq with hq|hq
 .obtain⟨fu,r',pl,hz⟩:=I.list hq;have hlen:=r'.length;exact Calls.call_len_list pl.isList (by simp only[aB]<;> lia) ⟨.int ys.length,H,I.tok _,⟨s.toks+1,by rw[aB,hlen]⟩,q⟩
 .obtain⟨fu,r',pl,hz⟩:=I.tuple hq;have hlen:=r'.length;exact len_tuple pl (by simp only[aB]<;> lia) ⟨.int ys.length,H,I.tok _,⟨s.toks+1,by rw[aB,hlen]⟩,q⟩
def BX:jg X (.builtin "len") (λxs H Q=>∃ z,xs=[.str z]/\z.length<=sizeLine/\Q (.int z.length) H):=by intro ee s σ H xs us Q I r h;obtain⟨z,rfl,hz,q⟩:=h;obtain⟨u,rfl,t,rfl⟩:=vals1 r;have hn:=qR;exact len_str (by lia) ⟨.int z.length,H,I.tok _,⟨_,rfl⟩,q⟩
def jg.or {f:ak}{r r':ao V->Hp->VK->Prop}(h:jg X f r)(h':jg X f r'):jg X f (λxs H Q=>r xs H Q\/r' xs H Q):=by
 intro ee s σ H xs us Q I rs q;rcases q with q|q
 .exact h ee s σ H xs us Q I rs q
 .exact h' ee s σ H xs us Q I rs q
def BW:jg X (.type "list") (λxs H Q=>∃ p ys,xs=[.ref p]/\(qv X.K H p ys\/Cs X.K H p ys)/\∀ l,H l=none->Q (.ref l) (upd H l<|.lst ys)):=by
 intro ee s σ H xs us Q I r h;obtain⟨p,ys,rfl,hq,q⟩:=h;obtain⟨u,rfl,rx⟩:=vals1 r;cases rx;have fin:∀(fu:ao ak),fH ys fu->ys.length<=sizeLine->∀(h':Heap) (c':Nat),(∀ b o',s.heap.get? b=some o'->h'.get? b=some o') ->
  h'.get? s.heap.objs.size=some { cls:=.type "list",dict:=none,data:=.seq fu.toArray c',slots:=#[]}->EP X ee σ Q (.ref s.heap.objs.size) {s with heap:=h'}:=λfu r' hz h' c' kp e=>
  ⟨.ref s.heap.objs.size,_,I.laid (t':=s.toks) kp (au _)<|show iQ X.prog X.w _ h' _ (.lst ys)from⟨hz,fu,c',r',e⟩,rfl,q _<|I.fB.fresh<|au _⟩
 rcases hq with hq|hq
 .obtain⟨fu,r',pl,hz⟩:=I.list hq;have hlen:=r'.length;obtain⟨o,ho,hc,n,hd⟩:=pl.isList;exact call_list_seq p (.inl rfl) ho hc hd (λh' c' kp e=>fin fu r' hz h' c' kp e) (by simp only[aB]<;> lia)
 .obtain⟨fu,r',pl,hz⟩:=I.tuple hq;have hlen:=r'.length;obtain⟨o,ho,hc,n,hd⟩:=pl;exact call_list_seq p (.inr rfl) ho hc hd (λh' c' kp e=>fin fu r' hz h' c' kp e) (by simp only[aB]<;> lia)
def tyV (K:aa)(T:String)(x:V)(H:Hp):Prop:=match x with
 |.str _=>T = "str"
 |.int _=>T = "int"
 | .ref p=>(T = "list"/\∃ xs,qv K H p xs)\/(T = "tuple"/\∃ o,K.lookup p=some o/\o.cls=.type "tuple"/\o.dict=none) \/
  (T = "dict"/\((∃ eP,H p=some (.dK eP))\/∃ eP,H p=some (.dT eP)))\/(T = "set"/\∃ S n,H p=some (.set S n))
 |_=>False
def EZ {ee:ao (aj×Obj)}{σ:St}{H:Hp}{s:ai}{T:String}{x:V}{v:ak}(I:Inv X ee σ H s)(r:fM x v)(ty:tyV X.K T x H):
 s.TypeIs v T/\∀ a,v=.ref a->∃ ob,s.heap.get? a=some ob/\ob.dict=none:=by
 cases x with
 | str z =>obtain⟨t,rfl⟩:=r;cases(show T = "str" from ty);exact⟨dA s z t,λ_ e=>nomatch e⟩
 | int i =>obtain⟨t,rfl⟩:=r;cases(show T = "int" from ty);exact⟨typeIs_int s i t,λ_ e=>nomatch e⟩
 | ref p =>
  cases r;rcases ty with⟨rfl,xs,hq⟩|⟨rfl,o,hk,hc,hd⟩|⟨rfl,hk⟩|⟨rfl,S,n,hk⟩
  .obtain⟨fu,_,pl,_⟩:=I.list hq;refine⟨pl.isList.typeIs,λa e=>?_⟩;cases e;obtain⟨o,n,e,c,hd,_⟩:=pl;exact⟨o,e,hd⟩
  .refine⟨⟨o,I.om p o hk,hc⟩,λa e=>?_⟩;cases e;exact⟨o,I.om _ o hk,hd⟩
  .have z:∃ o,s.heap.get? p=some o/\o.ExactDict:=by
    rcases hk with⟨eP,hk⟩|⟨eP,hk⟩
    .obtain⟨_,_,_,_,o,_,_,e,ex,_⟩:=I.fB p _ hk;exact⟨o,e,ex⟩
    .obtain⟨_,_,_,_,o,_,_,e,ex,_⟩:=I.fB p _ hk;exact⟨o,e,ex⟩
   obtain⟨o,e,ex⟩:=z
   refine⟨⟨o,e,ex.1⟩,λa e2=>?_⟩
   cases e2
   exact⟨o,e,ex.2.1⟩
  .obtain⟨o,_,_,_,e,ex,_⟩:=I.fB p _ hk;refine⟨⟨o,e,ex.1⟩,λa e2=>?_⟩;cases e2;exact⟨o,e,ex.2.1⟩
 |_=>exact False.elim ty
def XD (K:aa)(T:String)(r:V->ao V->Hp->VK->Prop)(to:TE):TE:=λσ H Q=>to σ H λx H1=>tyV K T x H1/\r x [] H1 Q
def tBM (K:aa)(T:String)(r:V->ao V->Hp->VK->Prop)(to:TE)(t:TA):TE:=λσ H Q=>to σ H λx H1=>tyV K T x H1/\t σ H1 λxs H2=>r x xs H2 Q
variable {o e:Expr}{es:ao Expr}{to:TE}{t:TA}{name:Str}{fZ fW:Pos}{T id:String}{r:V->ao V->Hp->VK->Prop}
def UR (pa:PlainAttrs T)(slot:Slot T name id)(Mx:typeOf (.builtin id)=pure (.type "method_descriptor"))(hm:B7 X id r)(ho:PE X o to)
 (iF:attributeBase o name X.env (eval o X.env)=eval o X.env:=by rfl) (iZ:(fZ.endLine==fW.line)=true:=by rfl):PE X (.Call (.Attribute o name fZ) [] [] fW) (XD X.K T r to):=by
 intro ee s σ H Q I h;refine cO iF iZ (gg (ho ee s σ H _ I h) λv s1 MB=>?_);obtain⟨x,H1,I1,r1,ty,q1⟩:=MB;obtain⟨h1,h2⟩:=EZ I1 r1 ty;exact⟨T,id,pa,slot,Mx,h1,h2,bO rfl (dk<|hm ee s1 σ H1 x [] v [] Q I1 r1 .nil q1)⟩
def Yh (pa:PlainAttrs T)(slot:Slot T name id)(Mx:typeOf (.builtin id)=pure (.type "method_descriptor"))(hm:B7 X id r)(ho:PE X o to)(ha:PA X (e::es) t)
 (iF:attributeBase o name X.env (eval o X.env)=eval o X.env:=by rfl)
 (xG:((backTo fW<|starEach (e::es) X.env).all (λx=>!x.1)&&(backToKw fW<|keywordEach [] X.env).all (λx=>x.1.isSome)
   && decide ((e::es).length+([]:ao Keyword).length+(if([]:ao Keyword).isEmpty then 0 else 1)<30))=true:=by rfl)
 (iZ:(fZ.endLine==fW.line)=true:=by rfl) (hs:starEach (e::es) X.env=(false,eval e X.env)::starEach es X.env:=by rfl) (xF:(backTo fW<|starEach es X.env).any (·.1)=false:=by rfl):
 PE X (.Call (.Attribute o name fZ) (e::es) [] fW) (tBM X.K T r to t):=by
 intro ee s σ H Q I h;refine dO iF xG iZ rfl (gg (ho ee s σ H _ I h) λv s1 MA=>?_);obtain⟨x,H1,I1,r1,ty,q1⟩:=MA;obtain⟨h1,h2⟩:=EZ I1 r1 ty;refine⟨T,id,pa,slot,Mx,h1,h2,?_⟩;have hA:=ha fW ee s1 σ H1 _ I1 q1;rw[hs]at hA ⊢
 refine bO (by show(false||(backTo fW<|starEach es X.env).any (·.1))=false;rw[xF]<;> rfl)<|cE ?_;exact gg hA λus s2 Sy=>by obtain⟨vs,H2,I2,r2,q2⟩:=Sy;exact hm ee s2 σ H2 x vs v us Q I2 r1 r2 q2
end
def MtM (X:Cx)(id:String)(r:V->ao V->Hp->VK->Prop):Prop :=
 ∀(ee:ao (aj×Obj)) (s:ai) (σ:St) (H:Hp) (x:V) (xs:ao V) (v:ak) (us:ao ak) (Q:VK),Inv X ee σ H s->fM x v->fH xs us->r x xs H Q ->
  wpAny (model X.prog X.w) X.A (call (.builtin id)<|v::us) (EP X ee σ Q) X.xe s
def fH.one {x:V}{us:ao ak}(h:fH [x] us):∃ u,us=[u]/\fM x u:=by
 cases h with
 |cons r t=>cases t;exact⟨_,rfl,r⟩
def fH.two {x y:V}{us:ao ak}(h:fH [x,y] us):∃ u v,us=[u,v]/\fM x u/\fM y v:=by
 cases h with
 |cons r t=>obtain⟨v,rfl,q⟩:=fH.one t;exact⟨_,v,rfl,r,q⟩
def fH.zero:∀ {us:ao ak},fH [] us->us=[]
 |_,.nil=>rfl
theorem fH.dropLast {xs:ao V}{us:ao ak}(h:fH xs us):fH xs.dropLast us.dropLast:=by
 induction h with
 |nil=>exact .nil
 | cons r t ih =>
  cases t with
  |nil=>exact .nil
  |cons q t'=>exact .cons r ih
def Gu {α:Type}(l:ao α):l.eraseIdx (l.length - 1)=l.dropLast:=by
 induction l with
 |nil=>rfl
 | cons a r ih =>
  cases r with
  |nil=>rfl
  | cons b r =>
   have e:(a::b::r).length - 1=((b::r).length - 1)+1:=by have h1:(a::b::r).length=r.length+2:=rfl;have h2:(b::r).length=r.length+1:=rfl;lia
   rw[e,List.eraseIdx_cons_succ,ih];all_goals rfl
section
variable {X:Cx}{ee:ao (aj×Obj)}{σ:St}{H:Hp}{s:ai}{l b:aj}{xs ys zs:ao V}
def Inv.Qv {fu its':ao ak}{n:Nat}{f:Array ak->Array ak}{t':Nat}(I:Inv X ee σ H s)(hH:H l=some (.lst xs))
 (e:s.heap.get? l=some { cls:=.type "list",data:=.seq fu.toArray n}) (hf:f fu.toArray=its'.toArray) (hv:fH ys its') (hz:ys.length<=sizeLine):
 Inv X ee σ (upd H l<|.lst ys) {s with heap:=s.heap.update l<|Obj.mapSeq f,toks:=t'}:=by
 have q:=PySem.IsL.update e f;rw[hf]at q;refine I.write (x:=l) (e:=l) (by rw[hH];exact trivial) (.inl rfl) (λb' u hb hu=>(aZ s.heap (Obj.mapSeq f)<|bz hb).trans hu) ⟨_,q⟩ ?_;exact⟨hz,its',_,hv,q⟩
def Inv.YH {fu:ao ak}{t':Nat}(I:Inv X ee σ H s)(hv:fH ys fu)(hz:ys.length<=sizeLine):
 Inv X ee σ (upd H s.heap.objs.size<|.lst ys) {s with heap:=s.heap.push { cls:=.type "list",data:=.seq fu.toArray},toks:=t'}:=
 I.laid (λ_ _ q=>kJ _ q) (au _) ⟨hz,fu,0,hv,aC _ rfl⟩
theorem Inv.fresh (I:Inv X ee σ H s):H s.heap.objs.size=none:=I.fB.fresh (au _)
def Inv.r8 (I:Inv X ee σ H s)(hH:H l=some (.lst xs)):xs.length<=sizeLine/\∃(fu:ao ak) (n:Nat),fH xs fu/\xs.length=fu.length/\s.heap.get? l=some { cls:=.type "list",data:=.seq fu.toArray n}:=by obtain⟨z,fu,n,r,e⟩:=I.fB l _ hH;exact⟨z,fu,n,r,r.length,e⟩
def xr {n:Nat}(h:n<=sizeLine):Builtin.List.listTooLong n=false:=by unfold Builtin.List.listTooLong;exact aw (by lia)
end
section
variable {X:Cx}
def PN:V->ao V->Hp->VK->Prop:=λx vs H Q=>∃ l xs y,x=.ref l/\vs=[y]/\H l=some (.lst xs)/\xs.length<sizeLine/\Q .gw (upd H l<|.lst<|xs++[y])
def Jm:MtM X "list.append" PN:=by intro ee s σ H x vs v us Q I rx rv h;obtain⟨l,xs,y,rfl,rfl,hH,hz,q⟩:=h;cases rx;obtain⟨u,rfl,ru⟩:=rv.one;obtain⟨z,fu,n,r,hl,e⟩:=I.r8 hH;refine call_meets F.slot_list_append ⟨_,e,rfl⟩ F.entry_list_append (F.args_list_append_2 _ _) (PySem.list_append l fu.toArray n u (by rw[aB];lia)) ⟨e,?_⟩;refine⟨.gw,_,I.Qv (its':=fu++[u]) hH e (by simp) (r.append<|.cons ru .nil) ?_,rfl,q⟩;rw[mJ,aU];lia
def PM:V->ao V->Hp->VK->Prop:=λx vs H Q=>∃ l b xs zs,x=.ref l/\vs=[.ref b]/\H l=some (.lst xs)/\H b=some (.lst zs)/\xs.length+zs.length<=sizeLine/\Q .gw (upd H l<|.lst<|xs++zs)
def Jl:MtM X "list.extend" PM:=by
 intro ee s σ H x vs v us Q I rx rv h;obtain⟨l,b,xs,zs,rfl,rfl,hH,hB,hz,q⟩:=h;cases rx;obtain⟨u,rfl,ru⟩:=rv.one;cases ru;obtain⟨z,fu,n,r,hl,e⟩:=I.r8 hH;obtain⟨z2,tY,n2,r2,Sz,e2⟩:=I.r8 hB;have hsz:fu.toArray.size+tY.toArray.size<=sizeLine:=by rw[aB,aB];lia
 have Y8:¬ (!fu.toArray.isEmpty&&Builtin.List.listTooLong (fu.toArray.size+tY.toArray.size))=true:=by rw[xr hsz,Bool.and_false];exact aM
 refine call_meets F.slot_list_extend ⟨_,e,rfl⟩ F.entry_list_extend (F.args_list_extend_2 _ _)
  (AutoSeq1.list_extend_list_list_0 l fu.toArray n b tY.toArray n2 Y8 (by rw[aB];lia)<|by lia) ⟨e,e2,?_⟩
 refine⟨.gw,_,I.Qv (its':=fu++tY) hH e (by simp) (r.append r2) ?_,rfl,q⟩;rw[mJ];lia
def rPop:V->ao V->Hp->VK->Prop:=λx vs H Q=>∃ l xs y,x=.ref l/\vs=[]/\H l=some (.lst xs)/\xs[xs.length - 1]?=some y/\Q y (upd H l<|.lst xs.dropLast)
def Vc:MtM X "list.pop" rPop:=by
 intro ee s σ H x vs v us Q I rx rv h;obtain⟨l,xs,y,rfl,rfl,hH,hy,q⟩:=h;cases rx;have hus:=rv.zero;subst hus;obtain⟨z,fu,n,r,hl,e⟩:=I.r8 hH;obtain⟨u,hu,ru⟩:=r.get hy;have hy':fu.toArray[fu.toArray.size - 1]?=some u:=by show fu.toArray[fu.length - 1]?=some u;rw[<- Array.getElem?_toList,<- hl];exact hu
 refine call_meets F.slot_list_pop ⟨_,e,rfl⟩ F.entry_list_pop (F.args_list_pop_1 _) (MeetsSeq.list_pop_last l fu.toArray n u hy' (by rw[aB];lia)) ⟨e,?_⟩;refine⟨y,_,I.Qv (its':=fu.dropLast) hH e ?_ r.dropLast ?_,ru,q⟩
 .show fu.toArray.eraseIdxIfInBounds (fu.toArray.size - 1)=fu.dropLast.toArray;rw[aB,List.eraseIdxIfInBounds_toArray,Gu]
 .rw[List.length_dropLast];lia
def rCat:R2:=λx y H Q=>∃ l b xs zs,x=.ref l/\y=.ref b/\H l=some (.lst xs)/\H b=some (.lst zs)/\xs.length+zs.length<=sizeLine/\∀ p,H p=none->Q (.ref p) (upd H p<|.lst<|xs++zs)
def U2:lj X (binaryOp .Add) rCat:=by
 intro ee s σ H x y v u Q I rx ry h;obtain⟨l,b,xs,zs,rfl,rfl,hH,hB,hz,q⟩:=h;cases rx;cases ry;obtain⟨z,fu,n,r,hl,e⟩:=I.r8 hH;obtain⟨z2,tY,n2,r2,Sz,e2⟩:=I.r8 hB;refine PySem.P.add_list e e2 ?_ (by rw[aB,aB];lia);have ea:fu.toArray++tY.toArray=(fu++tY).toArray:=by simp
 rw[ea];exact⟨.ref _,_,I.YH (t':=s.toks) (r.append r2) (by rw[mJ];lia),rfl,q _ I.fresh⟩
end
section
variable {prog:ae}{w:af}{A:Around}{E:ak->ai->Prop}{s:ai}
def IA (fu tY:ao ak)(a c:Nat):fu.toArray.extract 0 a++tY.toArray++fu.toArray.extract c fu.toArray.size=(fu.take a++tY++fu.drop c).toArray:=by
 apply Array.toList_inj.mp;first
  | (simp
     exact bH<|by simp)
  |simp[bH]
  |simp
end
end L2
namespace Att
open PySem PySem.W PySem.Calls PyProof.Rows
def vO {P:Params}{h:Heap}:∀(ns:ao Int) (vs:ao ak),WellAll P h vs (ns.map WData.int)->IntsAre vs ns:=by
 intro ns;induction ns with
 | nil =>intro vs w;rw[List.map_nil]at w;cases w;exact .nil
 | cons n ns ih =>
  intro vs w;rw[aK]at w;cases w with
  | cons a b =>cases a;exact .cons _ _ (ih _ b)
def IE {l:OpenLaw}{n:Nat}(hn:l.most=some n){P:Params}{h:Heap}{args:ao WData}{vals:ao ak}
 (pX:l.row.toRowW.claim.pre args=true) (hwl:WellAll P h vals args):
 ∃ a vs ns,vals=[Value.ref a]/\args=[WData.list (ns.map WData.int)]/\h.get? a=some { cls:=.type "list",data:=.seq vs.toArray}/\IntsAre vs ns/\ns.length<=n:=by
 have hsh:WShape.hasAll [] args [.list .int]=true:=(pre_splitW pX).1;have hc:l.pre.holds [] { args:=args}=true:=(pre_splitW pX).2;obtain⟨d,r,rfl,h1,h2⟩:=hasAllW_cons hsh;obtain rfl:=hasAllW_nil h2;obtain⟨xs,rfl,h3⟩:=hasW_list h1;obtain⟨ns,rfl⟩:=items_int h3;have hlen:ns.length<=n:=by
  unfold OpenLaw.pre at hc;have h4:(WTm.not<|.lt (.lit<|.int (n:Int))<|.len<|.arg 0).holds [] { args:=[.list (ns.map .int)]}=true:=by have h4:=(holds_andW hc).1;rw[hn]at h4;exact h4
  have h5:=condW_of h4<|w_not<|w_lt w_lit<|w_len_list<|w_arg rfl;rw[jf]at h5;refine Nat.le_of_not_lt λq=>?_;have q':(n:Int)<((ns.length:Nat):Int):=by lia
  first
   |(rw[aH q']at h5;exact absurd h5<|by decide)
   |(simp at h5;lia)
 cases hwl with
 | cons w1 w2 =>
  cases w2;cases w1 with
  |list ho hall=>exact⟨_,_,ns,rfl,rfl,ho,vO ns _ hall,hlen⟩
def IT (l:OpenLaw)(args:ao WData):l.row.toRowW.claim.post args (.bool true) args=true :=
 postW_of (r:=l.row.toRowW) (X:=(true==true))
  (show WShape.has [] (.bool true) .bool=true by first|rfl|decide|simp[WShape.has,WShape.arms,WShape.armsAll])
  (show(WTm.eq .res<|.lit<|.bool true).value [] { args:=args,res:=some<|.bool true,after:=args}=some (.bool<|true==true)from w_eq_bool (w_res rfl) w_lit) rfl
def Et {l:OpenLaw}{n:Nat}{q:ae}{loose:ao Str}{XP:(Str->aq ak)->Heap->Prop}{YP:af->Heap->Prop}{d:DefRec}
 (hn:l.most=some n) (hdf:d.params.defaults=[])
 (call:∀(w:af) (s₀ s₁:ai) (mg mb:Str->aq ak) (fa:aj) (o:Obj) (pm cd doc:ak) (a:aj) (vs:ao ak) (ns:ao Int),
   Ground q loose [] XP w s₀ mg mb s₁.heap->YP w s₁.heap ->
   s₁.heap.get? fa=some o->o.data=.func (docDef d.name d.params d.body d.scope pm cd doc)->s₁.heap.CodeRec cd d.name->mg d.name=some (.ref fa) ->
   s₁.heap.get? a=some { cls:=.type "list",data:=.seq vs.toArray}->IntsAre vs ns->ns.length<=n->s₁.gens=#[] ->
   codeAny (model l.prog w) callerA (.call (.ref fa) ⟨[.ref a],[]⟩) (λr s'=>r=.ok (.ret<|.bool true)/\OldK s₁.heap s'.heap/\s'.os=s₁.os/\AllBare s'.gens) s₁):
 WalkO q loose XP YP l.row.toRowW d [] (λf vs=>PySem.call f vs):=by
 intro w s₀ s₁ mg mb G Y fa o pm cd doc dV kV ho hd yY hD hmg hg args vals as pX hlay hrd hwl hlo;obtain rfl:dV=.none:=Dflts.none hD hdf;obtain rfl:kV=.none:=Dflts.noKw hD;obtain⟨a,vs,ns,rfl,rfl,VG,hints,hlen⟩:=IE hn pX hwl;refine enter_call (dR (call w s₀ s₁ mg mb fa o pm cd doc a vs ns G Y ho (fd_plain hd) yY hmg VG hints hlen hg) λr s' hq=>?_);obtain⟨rfl,h2,h3,h4⟩:=hq;exact⟨.inl ⟨.bool true,.bool true,[],rfl,λ_=>rfl,.bool true,IT l _,λ_=>⟨List.Pairwise.nil,λ_ hm=>(nomatch hm)⟩⟩,h2,h3,h4⟩
end Att
namespace L2
open PySem PySem.Spec PyProof.Rows
def Ir {vs:ao ak}{ns:ao Int}(h:IntsAre vs ns):fH (ns.map V.int) vs:=by
 induction h with
 |nil=>exact .nil
 |cons n t h ih=>exact .cons ⟨t,rfl⟩ ih
def WB (H:Hp):Prop:=∀ b,H b=none\/∃ o xs,H b=some (.vm o<|.lst xs)
def Mf {P:ae}{w:af}{K:aa}{mg mb:Str->aq ak}{CX:Kk}{k:Nat}{fa a:aj}{fd:ah}{x:Str}{sp:Sp}{s₁:ai}{vs:ao ak}{ns:ao Int}
 (KX:K.In s₁.heap) (OQ:s₁.heap.Ns mainGlobals mg) (hb:s₁.heap.Ns builtinsNs mb) (hbb:∀ x:Str,x ≠ "__name__"->mb x=bootBuiltins x) (hlim:s₁.heap.NoLimit) (hg:s₁.gens=#[])
 (ha:s₁.heap.get? a=some { cls:=.type "list",data:=.seq vs.toArray}) (hi:IntsAre vs ns) (hl:ns.length<=sizeLine) (hr:iq k callerA)
 (F:∀ eB:Heap,K.In eB->eB.Ns mainGlobals mg->fA P w K mg eB CX k fa fd [x] sp) (Zk:∀(s:ai) (u:ak),BindsTo s fd ⟨[u],[]⟩ [(x,u)])
 (Kq:∀ H:Hp,WB H->qv K H a (ns.map V.int)->sp [.ref a] H (λv _=>v=.bl true) λ_ _ _=>False)
 (hCX:∀ H e s',CX [] H s₁ (λ_ _ _=>False) e s'->False):
 codeAny (model P w) callerA (.call (.ref fa) ⟨[.ref a],[]⟩) (λr s'=>r=.ok (.ret<|.bool true)/\OldK s₁.heap s'.heap/\s'.os=s₁.os/\AllBare s'.gens) s₁:=by
 have rv:=Ir hi;have lenV:=hi.length;have core:∀ H:Hp,WB H->qv K H a (ns.map V.int)->rA P w H s₁.heap->(∀ b,H b≠none->b=a)->(H a≠none->K.lookup a=none) ->
  codeAny (model P w) callerA (.call (.ref fa) ⟨[.ref a],[]⟩) (λr s'=>r=.ok (.ret<|.bool true)/\OldK s₁.heap s'.heap/\s'.os=s₁.os/\AllBare s'.gens) s₁:=by
  intro H hO hS fB hA hK;have Ib:∀ {b:aj} {o:Obj},s₁.heap.get? b=some o->H b=none->(Bm s₁.heap H).get? b=some o:=λe n=>MH e n;have Yt:∀ {b:aj} {o:Obj} {es:Array DictEntry} {ep:Nat},s₁.heap.get? b=some o->o.data=.dict es ep->H b=none:=λ{b o es ep} e d=>by
   cases q:H b with
   |none=>rfl
   | some u =>have e':b=a:=hA b (by rw[q];simp);subst e';rw[ha]at e;cases e;have d':Data.seq vs.toArray _=Data.dict es ep:=d;cases d'
  have nsK:∀ {b:aj} {m:Str->aq ak},s₁.heap.Ns b m->(Bm s₁.heap H).Ns b m:=λ{b m} FQ=>by obtain⟨o,es,ep,e,d,r⟩:=FQ;exact⟨o,es,ep,Ib e<|Yt e d,d,r⟩
  have hKb:K.In (Bm s₁.heap H):=λb o e=>Ib (KX b o e) (by
   cases q:H b with
   |none=>rfl
   | some u =>
    have e':b=a:=hA b (by rw[q];simp)
    subst e'
    rw[hK (by rw[q];simp)]at e;cases e)
  have hM:Mod K mg (Bm s₁.heap H):=⟨hKb,nsK OQ,⟨mb,nsK hb,hbb⟩,let ⟨mc,h1,h2⟩:=hlim;⟨mc,nsK h1,h2⟩⟩;have e0:Cd P w K mg (Bm s₁.heap H) callerA [] s₁ H:=⟨rfl,hM,λb o e=>Qu e,Nat.le_of_eq<|JB _ _,trivial,λb hb=>absurd (show b∈([]:ao aj)from hb)<|by simp,fB,.of_eq hg⟩;refine dR ((F _ hKb<|nsK OQ).run callerA [] s₁ H ⟨[.ref a],[]⟩ [.ref a] [.ref a] _ _ hr e0 (Zk s₁<|.ref a) (.cons rfl .nil)<|Kq H hO hS) λr s' h=>?_;cases r with
  |error e=>exact(hCX H e s' h).elim
  | ok fl =>
   cases fl with
   |next=>exact False.elim h
   |brk=>exact False.elim h
   |cont=>exact False.elim h
   | ret u =>
    obtain⟨v,H',os,bare,un,hok',r',q⟩:=h;have q':v=.bl true:=q;subst q';obtain rfl:u=Value.bool true:=r';refine⟨rfl,OldK.of_keep λb o e=>?_,os,bare⟩;cases q:H b with
    |none=>exact un.keep b o e q (by intro z;exact absurd (show b∈([]:ao aj)from z)<|by simp) (by simp)
    | some u =>
     rcases hO b with z|⟨ob,xs,z⟩
     .rw[q]at z;cases z
     .have z2:=un.sd b ob _ z;obtain⟨e1,_⟩:=fB b _ z;obtain⟨e2,_⟩:=hok' b _ z2;rw[e]at e1;cases e1;exact e2
 cases hk:K.lookup a with
 | some o =>have e:=KX a o hk;rw[ha]at e;cases e;refine core (λ_=>none) (λ_=>.inl rfl) (.inr ⟨_,vs.toArray,_,hk,rfl,rfl,rfl,by rw[aB,lenV];exact hl,by simpa using rv⟩) (λb u z=>by have z':(none:aq HO)=some u:=z;cases z') (λb z=>absurd rfl z) λz=>absurd rfl z
 | none =>
  refine core (λb=>if b=a then some (.vm { cls:=.type "list",data:=.seq vs.toArray} (.lst<|ns.map V.int))else none) (λb=>?_) (.inl<|.inr ⟨{ cls:=.type "list",data:=.seq vs.toArray},aD rfl⟩) (λb u z=>?_) (λb z=>?_) λ_=>hk
  .by_cases hb:b=a
   .exact .inr ⟨_,_,aD hb⟩
   .exact .inl (az hb)
  .by_cases hb:b=a
   .have z':=(aD hb).symm.trans z;cases z';subst hb;exact⟨ha,by rw[jf];exact hl,vs,_,rv,ha⟩
   .have z':=(az hb).symm.trans z;cases z'
  .by_cases hb:b=a
   .exact hb
   .exact absurd (az hb) z
def O7 {l:W.OpenLaw}{n k:Nat}{q:ae}{loose:ao Str}{XP:(Str->aq ak)->Heap->Prop}{YP:af->Heap->Prop}{d:DefRec}{K:Params->aa}{CX:af->Kk}{sp:af->Sp}{x:Str}
 (hn:l.most=some n) (FT:n<=sizeLine) (hdf:d.params.defaults=[]) (hr:iq k callerA)
 (hY:∀(w:af) (h:Heap),YP w h->(K w.params).In h)
 (F:∀(w:af) (mg:Str->aq ak) (fa:aj) (h:Heap),(K w.params).In h->h.Ns mainGlobals mg->mg d.name=some (.ref fa) ->
   ∃ fd:ah,(∀(s:ai) (u:ak),BindsTo s fd ⟨[u],[]⟩ [(x,u)]) /\
    ∀ eB:Heap,(K w.params).In eB->eB.Ns mainGlobals mg->fA l.prog w (K w.params) mg eB (CX w) k fa fd [x] (sp w))
 (Kq:∀(w:af) (H:Hp) (a:aj) (ns:ao Int),ns.length<=n->WB H->qv (K w.params) H a (ns.map V.int)->sp w [.ref a] H (λv _=>v=.bl true) λ_ _ _=>False)
 (hCX:∀(w:af) (H:Hp) (s:ai) (e:ak) (s':ai),CX w [] H s (λ_ _ _=>False) e s'->False):
 W.WalkO q loose XP YP l.row.toRowW d [] (λf vs=>PySem.call f vs):=by
 refine Att.Et hn hdf λw s₀ s₁ mg mb fa o pm cd doc a vs ns G Y ho hd yY hmg VG hints hlen hg=>?_;have KX:=hY w _ Y;obtain⟨fd,hb,hF⟩:=F w mg fa _ KX G.T.g hmg;exact Mf KX G.T.g G.T.b G.T.builtins G.T.nolimit hg VG hints (aG hlen FT) hr hF hb (λH hO hS=>Kq w H a ns hlen hO hS) λH e s'=>hCX w H s₁ e s'
def jW (s:Stmt):Arguments:=match s with
 |.FunctionDef _ a _ _ _ _ _ _ _ _=>a
 |_=>{ posonlyargs:=[],args:=[],vararg:=none,kwonlyargs:=[],kw_defaults:=[],kwarg:=none,defaults:=[]}
def iI (s:Stmt):ao Stmt:=match s with
 |.FunctionDef _ _ b _ _ _ _ _ _ _=>b
 |_=>[]
def eG (s:Stmt):Scope:=match s with
 |.FunctionDef _ _ _ _ _ _ sc _ _ _=>sc
 |_=>{ kind:=.function,names:=[],isGenerator:=false,isCoroutine:=false}
abbrev nr:Kk:=λ_ _ _ _ _ _=>False
abbrev E0:XK:=λ_ _ _=>False
def Dj {X:Cx}:Passes nr X E0:=λ_ _ _ _ _ _ _ h=>h.elim
structure iS (K:aa)(x qual:Str)(st:Stmt)(f:aj)(fd:ah):Prop where
 ex:∃(oc:ak) (od:Option aj) (kV doc pm:ak) (an:Option aj) (hZ ct:ak) (OL:Array (Option ak)),
  fd=W.fnOf x qual (jW st) (iI st) (eG st) .none kV doc pm an hZ ct/\K.lookup f=some ⟨oc,od,.func fd,OL⟩/\W.codeIn K hZ qual=true
 kp:W.keepIn K (.ref f)=true
section
variable {P:ae}{w:af}{K:aa}{mg:Str->aq ak}{eB:Heap}
def iS.ok {x qual:Str}{st:Stmt}{f:aj}{fd:ah}{N ps:ao Str}{k:Nat}{sp:Sp}(F:iS K x qual st f fd)(S:eR N ps (eG st))(len:∀ vs H Q E,sp vs H Q E->vs.length=ps.length)
 (qW:∀(hZ:ak) (A:Around) (eM:ao Env) (s:ai) (H:Hp) (vs:ao V) (Q:VK) (E:XK),iq k (A.deeper<|envOfC qual (eG st) s.heap.objs.size f hZ)->sp vs H Q E ->
   ∃ t,yt (px nr P w K mg eB N qual (eG st) f hZ A eM s H E).U8 (iI st) t/\t { nx:=λ_ H'=>Q .gw H',rt:=Q} (start N vs) H):fA P w K mg eB nr (k+1) f fd ps sp:=by
 obtain⟨oc,od,kV,doc,pm,an,hZ,ct,OL,rfl,lk,yY⟩:=F.ex
 refine SJ lk yY S len λA eM s H vs Q E hr Kq=>?_
 obtain⟨t,h,q⟩:=qW hZ A eM s H vs Q E hr Kq
 exact⟨t,h.U8,q⟩
def iS.binds {x qual:Str}{st:Stmt}{f:aj}{fd:ah}{ps:ao Str}(F:iS K x qual st f fd)
 (h:∀(kV doc pm:ak) (an:aq aj) (hZ ct:ak) (us:ao ak),us.length=ps.length->bindArgs (W.fnOf x qual (jW st) (iI st) (eG st) .none kV doc pm an hZ ct) ⟨us,[]⟩=pure (ps.zip us)):Binds K fd ps []:=by
 obtain⟨oc,od,kV,doc,pm,an,hZ,ct,OL,rfl,lk,yY⟩:=F.ex;exact .all (h kV doc pm an hZ ct)
def VU {x qual:Str}{st:Stmt}{f:aj}{oc:ak}{od an:aq aj}{OL:Array (aq ak)}{kV doc pm hZ ct:ak}(l:K.lookup f=some ⟨oc,od,.func<|W.fnOf x qual (jW st) (iI st) (eG st) .none kV doc pm an hZ ct,OL⟩)
 (c:W.codeIn K hZ qual=true) (k:W.keepIn K (.ref f)=true):iS K x qual st f (W.fnOf x qual (jW st) (iI st) (eG st) .none kV doc pm an hZ ct):=⟨⟨oc,od,kV,doc,pm,an,hZ,ct,OL,rfl,l,c⟩,k⟩
end
def m6 {A:Around}{k:Nat}(hr:iq k A):A.units+1<cLine:=bR (Nat.add_le_add_left (by decide:1<=64) _) hr.units
section
variable {X:Cx}
def pv (i:Nat){x:Str}{pos:Pos}(hN:X.N[i]?=some x:=by rfl)(hv:To X.env.scope x:=by first | exact Or.inl rfl | exact Or.inr (Or.inl rfl) | exact Or.inr<|Or.inr rfl)(hd:(x==("__debug__" : Str))=false:=by decide)
 (yY:(x==("__classdict__" : Str))=false:=by decide):PE X (.Name x pos) (Xs i):=A0 hN hv hd yY
end
def gT (H H':Hp):Prop:=∀ b o,H b=some o->H' b=some o
def gT.refl (H:Hp):gT H H:=λ_ _ h=>h
def gT.trans {H H1 H2:Hp}(a:gT H H1)(b:gT H1 H2):gT H H2:=λc o h=>b c o (a c o h)
def gT.free {H H':Hp}(e:gT H H'){l:aj}(h:H' l=Option.none):H l=Option.none:=by
 cases q:H l with
 |none=>rfl
 | some o =>rw[e l o q]at h;cases h
end L2
namespace L2
open PySem PySem.W PyProof.Rows
noncomputable abbrev GS:=Fast.tw14082659384304107361
noncomputable abbrev wz:=Fast.tw14364793385576792824
noncomputable abbrev E4:=Fast.tw4187177175401517315
noncomputable abbrev S00 (w:af)(os:OsState):ai:=⟨boot_heap w.params,#[],boot_drawn,boot_toks,os⟩
def JY (P:Params):((boot_heap P).isNs mainGlobals,(boot_heap P).objs.size,(boot_heap P).nsMap mainGlobals "__annotations__")=(true,11,some (.ref 6)):=by kernel_rfl
def Qx {p q:ae}{loose:ao Str}{Xt:ai->Bool}{α:Type}{Yf:ai->α}{Ya:af->α}{N M:Nat}
 (e:opening p=plainProg p.main.scope.names) (hN:Nat.ble 600 N=true) (f:∀ s,fenceModules? p s=some s) (le:Nat.ble M N=true)
 (h:∀(w:af) (os:OsState),(GS wz p w 11 (some<|.ref 6) M (S00 w os)<|topStub p).map (λs =>
   (staticsOk (importedModules p.main.body) (boot_heap w.params) s.heap&&namesBound p s.heap&&gensDone s&&laidKept (boot_heap w.params) s.heap,E4 q loose (importedModules p.main.body) Xt true s,Yf s))=some (true,openGood q loose,Ya w)):
 LeftO p q loose Xt Yf Ya N:=λw=>by
 obtain⟨⟨h0,gs,d,k,os⟩,e1,e2⟩:=Option.map_eq_some_iff.mp<|boot_open e hN f w;obtain⟨rfl,rfl,rfl,rfl⟩:h0=boot_heap w.params/\gs=#[]/\d=boot_drawn/\k=boot_toks:=by simpa using e2
 have b:=JY w.params;simp at b;refine eS (Option.map_eq_some_iff.mp<|h w os) λs1 r e3=>?_;simp only[Prod.mk.injEq]at e3;have r':topRun treeTable p w 11 (some<|.ref 6) M (S00 w os) (topStub p)=some s1:=by rwa [show topRun=GS from Fast.te14082659384304107361,show treeTable=wz from Fast.te14364793385576792824]
 have r2:=topRun_mono (N - M) _ _ _ _ r';rw[show M+(N - M)=N by have:=Nat.le_of_ble_eq_true le;lia]at r2;have t:topFrom treeTable p w N ⟨boot_heap w.params,#[],boot_drawn,boot_toks,os⟩=some s1:=by delta topFrom;rw[b.1,b.2.1,b.2.2,r2];show(match staticsOk (importedModules p.main.body) (boot_heap w.params) s1.heap&&namesBound p s1.heap&&gensDone s1&&laidKept (boot_heap w.params) s1.heap with|true=>_|false=>_)=_;rw[e3.1]
 delta openEnds;rw[e1];show(topFrom treeTable p w N _).map _=_;rw[t];refine bG some<|Prod.ext ?_ e3.2.2;rw[<- e3.2.1];exact congrFun (congrFun (congrFun (congrFun (congrFun (congrFun Fast.te4187177175401517315 q) loose)<|importedModules p.main.body) Xt) true) s1
def jk (P:Params)(x:Str)(t:Nat)(v:ak):DictEntry:=⟨PyData.keyHash P x,.str x t,v⟩
def YG (P:Params)(nm:Str)(t:Nat)(es:ao (Str×Nat×ak)):Obj:=⟨.type "dict",none,.dict ((([("__name__",165,.str nm t),("__doc__",166,.none),("__package__",167,.none),("__loader__",168,.builtin "__main__.__loader__#opaque"),("__spec__",169,.none),("__annotations__",170,.ref 6),("__builtins__",171,.ref 4),("__file__",173,.str "/claim/cut.py" 172),("__cached__",174,.none)]:ao (Str×Nat×ak))++es).map λe=>jk P e.1 e.2.1 e.2.2).toArray<|es.length+9,#[]⟩
abbrev sS (x:String):Str:=Str.ofString x
abbrev me (x:String)(t:Nat)(v:ak):Str×Nat×ak:=(Str.ofString x,t,v)
abbrev ko (a:aj)(o:Obj):aj×Obj:=(a,o)
abbrev sr (a:aj):aq (aq ak):=some (some<|.ref a)
abbrev sn:aq (aq ak):=some none
def fnQ (x q:Str)(s:Stmt)(pm:ak)(c:aj):Obj:=⟨.type "function",none,.func<|fnOf x q (jW s) (iI s) (eG s) .none .none .none pm none (.ref c) .none,#[]⟩
def coQ (x q:Str)(t l a r1 r2:Nat)(v1 v2:ak)(r3 t2:Nat):Obj:=⟨.type "code",none,.fields #[.str x t,.str q (t+1),.str "/claim/cut.py" (t+2),.int l 0,.int a 0,.int 0 0,.int 0 0,.int 3 0,.ref r1,.bool true,.int 181 0,.ref r2,.none,v1,v2,.ref r3,.int t2 0,.int l 0,.str "/claim/cut.py" (t2+1)],#[]⟩
def MU {K:Frag}(l:K.lookup f=some (fnQ x q s pm c):=by kernel_rfl)(c':codeIn K (.ref c) q=true:=by kernel_rfl)(k:keepIn K (.ref f)=true:=by kernel_rfl):iS K x q s f (fnOf x q (jW s) (iI s) (eG s) .none .none .none pm none (.ref c) .none):=VU l c' k
def bn1 {α:Type}{P:ao α->Prop}(h:∀ a,P [a])(us:ao α)(e:us.length=1):P us:=by obtain⟨a,rfl⟩:=List.length_eq_one_iff.mp e;exact h a
def OW {α:Type}{P:ao α->Prop}{n:Nat}(h:∀ a us,us.length=n->P (a::us))(us:ao α)(e:us.length=n+1):P us:=by
 cases us with
 |nil=>cases e
 |cons a us=>exact h a us (Nat.succ.inj e)
def Rl (s:Stmt):ao Stmt:=match s with
 |.ClassDef _ _ _ b _ _ _ _ _ _ _=>b
 |_=>[]
def V6 (s:Stmt):Pos:=match s with
 |.FunctionDef _ _ _ _ _ _ _ _ _ p=>p
 |_=>⟨0,0,0,0⟩
end L2
namespace L2
open PySem PySem.Spec PyProof.Rows
def l8 (cells:ao (Str×aj)):ao (Str×NameKind)->ao (Str×aj)->ao (Str×aj)
 |[],acc=>acc
 |(n,k)::r,acc=>if k==.free then l8 cells r ((n,(cells.lookup n).getD 0)::acc)else l8 cells r acc
theorem tq (f:Str×NameKind->ao (Str×aj)->Sem (ForInStep<|ao<|Str×aj))
 (hf:∀ n k cs,f (n,k) cs=if k==.free then(do let a <- cellOf env n;pure (.yield<|(n,a)::cs))else pure (.yield cs)):
 ∀(names:ao (Str×NameKind)) (acc:ao (Str×aj)),(∀ y∈names,y.2=.free->∃ c,env.cells.lookup y.1=some c) ->
  forIn names acc f=pure (l8 env.cells names acc)
 |[],acc,_=>rfl
 | (n,k)::r,acc,h=>by
  rw[bY,hf];unfold l8;have hr:∀ y∈r,y.2=.free->∃ c,env.cells.lookup y.1=some c:=λy hy=>h y<|o6 _ hy;by_cases hk:(k==NameKind.free)=true
  .rw[aD hk,aD hk];refine kZ (h (n,k) aI<|by simpa using hk) λc hc=>?_;have vj:=hc;have e:cellOf env n=pure c:=by delta cellOf;rw[vj]
   rw[e,vj,pure_bind,pure_bind];exact tq f hf r _ hr
  .rw[az hk,az hk,pure_bind];exact tq f hf r _ hr
def mK (h:∀ y∈scope.names,y.2=.free->∃ c,env.cells.lookup y.1=some c):closureFor scope env=pure (l8 env.cells scope.names []):=by
 simp only[closureFor];rw[tq _ (λn k cs=>by
  by_cases hk:(k==NameKind.free)=true
  .simp
  .simp only[hk,cz,dQ]) scope.names [] h]
 rfl
theorem p4:∀ {names:ao (Str×NameKind)} {acc:ao (Str×aj)},(∀ y∈names,y.2=.free->∃ c,cells.lookup y.1=some c) ->
 ∀ n c,(n,c)∈l8 cells names acc->(n,c)∈acc\/cells.lookup n=some c
 |[],acc,_,n,c,h=>.inl h
 | (m,k)::r,acc,hf,n,c,h=>by
  unfold l8 at h;have hr:∀ y∈r,y.2=.free->∃ c,cells.lookup y.1=some c:=λy hy=>hf y<|o6 _ hy;split at h
  .rename_i hk;rcases p4 hr n c h with h|h
   .rcases List.mem_cons.mp h with e | h
    .cases e;refine kZ (hf (m,k) aI<|by simpa using hk) λc hc=>?_;have vj:=hc;exact .inr (by rw[vj];rfl)
    .exact .inl h
   .exact .inr h
  .exact p4 hr n c h
theorem tu:∀(names:ao (Str×NameKind)) (acc:ao (Str×aj)) (n:Str),(acc.lookup n).isSome=true->((l8 cells names acc).lookup n).isSome=true
 |[],acc,n,h=>h
 | (m,k)::r,acc,n,h=>by
  unfold l8;split
  .refine tu r _ n ?_;rw[di];cases n==m
   .exact h
   .rfl
  .exact tu r _ n h
theorem p5:∀(names:ao (Str×NameKind)) (acc:ao (Str×aj)) (n:Str),(n,NameKind.free)∈names->((l8 cells names acc).lookup n).isSome=true
 | (m,k)::r,acc,n,h=>by
  unfold l8;rcases List.mem_cons.mp h with e|h
  .cases e;refine tu r _ m ?_;simp
  .split
   .exact p5 r _ n h
   .exact p5 r _ n h
theorem mM:∀(names:ao (Str×NameKind)) (n:Nat) (a b:ao (Str×aj)),cellsFrom n names (a++b)=cellsFrom n names a++b
 |[],_,_,_=>rfl
 | (m,k)::r,n,a,b=>by
  unfold cellsFrom;split
  .exact mM r (n+1) ((m,n)::a) b
  .exact mM r n a b
def oE
 (h:Q (newEnv scope s.heap.objs.size env.globals (cellsFrom (s.heap.objs.size+1) scope.names cl) env.qual none .none (some env) builtinsNs) {s with heap:=pushCells (s.heap.push { cls:=.type "dict",data:=.dict #[]}) scope.names}):
 wpAny M A (newFunctionEnv scope env.globals cl [] env.qual none .none<|some env) Q E s:=by
 simp only[newFunctionEnv,Option.isSome_some,if_true];refine fb (wpAny_alloc<|fb<|wpAny_layCells _ (λname kind cells=>by cases hkc:kind==NameKind.cell<;>simp[hkc]) _ _ _ _ ?_);rw[show({s with heap:=s.heap.push { cls:=.type "dict",data:=.dict #[]}}:ai).heap.objs.size=s.heap.objs.size+1 from bq ..];exact fb (av<|av h)
def g9 (js:ao (aq Nat))(σ:St):St:=js.map λo=>o.bind λj=>(σ[j]?).join
def BU (XN:ao Str)(xsc:Scope)(N:ao Str)(js:ao (aq Nat))(sc:Scope):Bool :=
 (sc.kind==.function)&&(sc.names.all λy=>(y.2 != .local)||(sc.names.lookup y.1==some .local)) &&
 (sc.names.all λy=>(y.2 != .free)||(xsc.names.lookup y.1==some .cell)||(xsc.names.lookup y.1==some .free)) &&
 (js.length==N.length)&&decide N.Nodup &&
 ((N.zip js).all λp=>match p.2 with
   |none=>true
   |some j=>XN[j]?==some p.1&&sc.names.contains (p.1,NameKind.free)&&sc.names.lookup p.1==some .free&&!(sc.names.contains (p.1,NameKind.cell)))
structure kR (X:Cx)(N:List Str)(js:List (Option Nat))(sc:Scope):Prop where
 kind:sc.kind=.function
 loc:∀ y∈sc.names,y.2=.local->sc.names.lookup y.1=some .local
 free:∀ y∈sc.names,y.2=.free->X.env.kindOf y.1=some .cell\/X.env.kindOf y.1=some .free
 len:js.length=N.length
 nd:N.Nodup
 slot:∀(i:Nat) (x:Str) (j:Nat),N[i]?=some x->js[i]?=some (some j)->X.N[j]?=some x/\(x,NameKind.free)∈sc.names/\sc.names.lookup x=some .free/\(x,NameKind.cell)∉sc.names
def NZ (h:BU XN xsc N js sc=true)(hN:X.N=XN:=by rfl)(hs:X.env.scope=xsc:=by rfl):kR X N js sc:=by
 subst hN;subst hs;delta BU at h;simp only[cQ,cx,Bool.or_eq_true,bne_iff_ne,beq_iff_eq,decide_eq_true_eq]at h;obtain⟨⟨⟨⟨⟨h1,h2⟩,h3⟩,h4⟩,h5⟩,h6⟩:=h;refine⟨h1,λy hy e=>(h2 y hy).resolve_left λz=>z e,λy hy e=>?_,h4,h5,λi x j e1 e2=>?_⟩
 .rcases h3 y hy with(z | z) | z
  .exact absurd e z
  .exact .inl z
  .exact .inr z
 .have hm:(x,some j)∈N.zip js:=List.mem_iff_getElem?.mpr ⟨i,by rw[List.getElem?_zip_eq_some];exact⟨e1,e2⟩⟩;have q:=h6 _ hm;simp at q;exact⟨q.1.1.1,q.1.1.2,q.1.2,q.2⟩
theorem mL:∀(names:ao (Str×NameKind)) (n:Nat) (acc:ao (Str×aj)) (x:Str) (c:aj),(x,c)∈cellsFrom n names acc->(x,NameKind.cell)∈names\/(x,c)∈acc
 |[],_,_,_,_,h=>.inr h
 | (m,k)::r,n,acc,x,c,h=>by
  unfold cellsFrom at h;split at h
  .rename_i hk;rcases mL r _ _ x c h with h|h
   .exact .inl (o6 _ h)
   .rcases List.mem_cons.mp h with e | h
    .cases e;have JA:k=NameKind.cell:=by simpa using hk
     exact .inl (JA▸aI)
    .exact .inr h
  .rcases mL r _ _ x c h with h | h
   .exact .inl (o6 _ h)
   .exact .inr h
theorem ve {α β:Type}(g:Str->α->β):∀(l:ao (Str×α)) (x:Str),(l.map λp=>(p.1,g p.1 p.2)).lookup x=(l.lookup x).map (g x)
 |[],_=>rfl
 | (n,k)::r,x=>by
  rw[aK,di,di];cases hb:x==n with
  |true=>rw[beq_iff_eq.mp hb];rfl
  |false=>exact ve g r x
def uB (env:Env)(x:Str)(k:NameKind):NameKind:=if(k==.free&&env.scope.kind==.function&&env.kindOf x==some .cell)then .cell else k
def lZ:(relabel sc env).names.lookup x=(sc.names.lookup x).map (uB env x):=by rw[<- ve];congr 1;refine cp λp _=>?_;obtain⟨n,k⟩:=p;show(if _ then _ else _)=(n,uB env n k);delta uB;split<;>rfl
def CT (h:uB env x k=.cell\/uB env x k=.free):k=.cell\/k=.free:=by
 delta uB at h;split at h
 .rename_i q;simp at q;exact .inr q.1.1
 .exact h
def zj:uB env x .free=.cell\/uB env x .free=.free:=by
 delta uB;split
 .exact .inl rfl
 .exact .inr rfl
def ow (sc:Scope)(C:aj)(env:Env):Env where
 scope:=relabel sc env
 locals:=C
 globals:=env.globals
 cells:=cellsFrom (C+1) sc.names (l8 env.cells sc.names [])
 qual:=env.qual
 func:=none
 code:=env.code
 frame:=env.frame
 builtins:=env.builtins
def o8 (X:Cx)(N:ao Str)(sc:Scope)(fp:ao aj)(s:ai)(H:Hp):Cx where
 prog:=X.prog
 w:=X.w
 K:=X.K
 mg:=X.mg
 eB:=X.eB
 A:=X.A
 N:=N
 s₀:=s
 H₀:=H
 env:=ow sc (s.heap.objs.size+1) X.env
 eM:=X.stack
 stack:=X.stack
 ex:=fp
 fn:=λx=>sc.names.lookup x==some .cell
 gE:=X.gE
 pn:=[]
 xe:=λ_ _=>False
def t9 (sc:Scope)(h:Heap):Heap:=pushCells ((h.push { cls:=.type "list",dict:=none,data:=.seq ([]:ao ak).toArray}).push { cls:=.type "dict",data:=.dict #[]}) sc.names
def vh:∀ b o,h.get? b=some o->(t9 sc h).get? b=some o:=λb o e=>dt _ _ b o (kJ _<|kJ _ e)
def JD:(t9 sc h).get? h.objs.size=some { cls:=.type "list",dict:=none,data:=.seq ([]:ao ak).toArray} :=
 dt _ _ _ _ (kJ _<|aC _ rfl)
def xM {i:Nat}(h:(g9 js σ)[i]?=some (some v)):∃ j,js[i]?=some (some j)/\σ[j]?=some (some v):=by
 delta g9 at h;rw[wd]at h;cases e:js[i]? with
 |none=>rw[e]at h;cases h
 | some o =>
  rw[e]at h;cases o with
  |none=>cases h
  | some j =>
   refine⟨j,rfl,?_⟩;have h':(σ[j]?).join=some v:=aW h;cases q:σ[j]? with
   |none=>rw[q]at h';cases h'
   |some z=>rw[q]at h';have:z=some v:=h';rw[this]
section
variable {X:Cx}{ee:ao (aj×Obj)}{σ:St}{H:Hp}{s:ai}{N:ao Str}{js:ao (aq Nat)}{sc:Scope}{fp:ao aj}
def Mr (I:Inv X ee σ H s)(hc:kR X N js sc)(hf:∀ b∈fp,nk X ee H b)(ho:∀ b∈fp,∃ o,s.heap.get? b=some o)(tk:Nat):
 Inv (o8 X N sc fp s H) [] (g9 js σ) H {s with heap:=t9 sc s.heap,toks:=tk}:=by
 have hC:(s.heap.push { cls:=.type "list",dict:=none,data:=.seq ([]:ao ak).toArray}).objs.size=s.heap.objs.size+1:=bq ..
 have MX:∀ y∈sc.names,y.2=.free->∃ c,X.env.cells.lookup y.1=some c:=λy hy e=>I.ok.has y.1<|hc.free y hy e;have ok:=cellsFrom_ok sc.names ((s.heap.push { cls:=.type "list",dict:=none,data:=.seq ([]:ao ak).toArray}).push { cls:=.type "dict",data:=.dict #[]}) (s.heap.objs.size+1+1) [] ⟨λ_ _ hm=>(nomatch hm),List.Pairwise.nil⟩
  (by rw[bq,hC];exact au _)
 rw[bq,hC]at ok;have eC:(ow sc (s.heap.objs.size+1) X.env).cells=cellsFrom (s.heap.objs.size+1+1) sc.names []++l8 X.env.cells sc.names []:=mM sc.names _ [] _;have lk:∀ x c,(ow sc (s.heap.objs.size+1) X.env).cells.lookup x=some c->(x,c)∈cellsFrom (s.heap.objs.size+1+1) sc.names []\/X.env.cells.lookup x=some c:=λx c e=>by
  rw[eC]at e;rcases List.mem_append.mp (mem_of_lookup e)with h|h
  .exact .inl h
  .rcases p4 MX x c h with h | h
   .cases h
   .exact .inr h
 have big:∀(x:Str) (c:Nat),(x,c)∈cellsFrom (s.heap.objs.size+1+1) sc.names []->s.heap.objs.size+1+1<=c:=λx c h=>(ok.empty x c h).2;have small:∀(x:Str) (c:Nat),X.env.cells.lookup x=some c->c<s.heap.objs.size:=λx c h=>let ⟨_,q⟩:=I.cell x c h;q.lt
 have has:∀ x,((ow sc (s.heap.objs.size+1) X.env).kindOf x=some .cell\/(ow sc (s.heap.objs.size+1) X.env).kindOf x=some .free)->∃ c,(ow sc (s.heap.objs.size+1) X.env).cells.lookup x=some c:=λx h=>by
  have h':(relabel sc X.env).names.lookup x=some .cell\/(relabel sc X.env).names.lookup x=some .free:=h;rw[lZ]at h';rw[eC,dG];cases q:sc.names.lookup x with
  |none=>rw[q]at h';rcases h' with h'|h'<;>cases h'
  | some k =>
   rw[q]at h';have hk:=CT (env:=X.env) (x:=x) (k:=k) (h'.elim (λz=>.inl<|aW z) λz=>.inr<|aW z);rcases hk with rfl|rfl
   .obtain⟨c,vj⟩:=pz q;exact⟨c,by rw[vj];rfl⟩
   .have z:=p5 (cells:=X.env.cells) sc.names [] x<|mem_of_lookup q;obtain⟨c,vj⟩:=Option.isSome_iff_exists.mp z;cases q2:(cellsFrom (s.heap.objs.size+1+1) sc.names []).lookup x with
    |none=>exact⟨c,by rw[vj];rfl⟩
    |some d=>exact⟨d,rfl⟩
 have Km:(o8 X N sc fp s H).Ok:=by
  refine⟨I.ok.mod,hc.kind,I.ok.glob,I.ok.blt,Nat.le_succ _,λx y c h1 h2=>?_,has,λx c hx h=>?_,I.ok.hd,I.ok.frames,.inl rfl,λb hb=>⟨?_,λx c h=>?_⟩,I.bs,aG I.ok.Ia I.sz,λb o e hb=>?_,λb hb hs=>?_,I.stack,I.rH⟩
  .rcases lk x c h1 with g1 | g1 <;> rcases lk y c h2 with g2 | g2
   .exact name_of_addr ok.apart g1 g2
   .exact absurd (aL (small _ _ g2)<|aG (aY _ 2)<|big _ _ g1) (bJ _)
   .exact absurd (aL (small _ _ g1)<|aG (aY _ 2)<|big _ _ g2) (bJ _)
   .exact I.ok.inj x y c g1 g2
  .have Jy:sc.names.lookup x=some .cell:=by simpa [o8]using hx
   have h':(ow sc (s.heap.objs.size+1) X.env).cells.lookup x=some c:=h
   rw[eC,dG]at h'
   obtain⟨c2,vj⟩:=pz (n:=s.heap.objs.size+1+1) Jy
   rw[vj]at h'
   have e:c2=c:=aW h'
   subst e
   exact aG (aY _ 2) (big _ _<|mem_of_lookup vj)
  .obtain⟨o,e⟩:=ho b hb;exact aF (bB<|kG e)
  .obtain⟨o,e⟩:=ho b hb;have l:=kG e;rcases lk x c h with g|g
   .exact bh (aL l<|aG (aY _ 2)<|big _ _ g)
   .exact(hf b hb).2.2.2.2.1 x c g
  .rcases(hf b hb).2.2.2.1 with z | z
   .exact I.ok.Du b o e z
   .exact absurd (aL (kG e)<|aG I.ok.Ia z) (bJ _)
  .rcases List.mem_cons.mp (I.wG b hs)with z | z
   .exact(hf b hb).2.1 z
   .exact(hf b hb).2.2.1 z
 have tX:∀ b u,s.heap.get? b=some u->(t9 sc s.heap).get? b=some u:=vh;have nsC:(t9 sc s.heap).Ns (s.heap.objs.size+1) λ_=>none:=by have q:=(Heap.Ns.new (s.heap.push { cls:=.type "list",dict:=none,data:=.seq ([]:ao ak).toArray})<|.type "dict").keeps<|dt sc.names _;rw[hC]at q;exact q
 refine⟨Km,rfl,I.bare,Un.eI tX,⟨_,nsC,λi x v e1 e2 e3=>?_⟩,λx c h=>?_,I.fB.fresh<|Nat.le_succ _,λx c h=>?_,λp hp=>absurd (show p∈([]:ao (aj×Obj))from hp)<|by simp,I.fB.eI tX,?_⟩
 .refine eS (xM e2) λj hj hv=>?_;refine Nu (hc.slot i x j e1 hj) λg1 g2 g3 g4=>?_;have kx:=hc.free _ g2 rfl;refine eS I.loc λm hn hl=>?_;refine eS (hl j x v g1 hv<|.inr kx) λu r l=>?_;refine⟨u,r,?_⟩;rcases l with⟨z,_⟩|⟨_,c,OS,vi⟩
  .have z':X.env.kindOf x=some .local:=z;rcases kx with k|k<;>(have k':X.env.kindOf x=_:=k;rw[z']at k';cases k')
  .have kY:(ow sc (s.heap.objs.size+1) X.env).kindOf x=some .cell\/(ow sc (s.heap.objs.size+1) X.env).kindOf x=some .free:=by
    show(relabel sc X.env).names.lookup x=some .cell\/(relabel sc X.env).names.lookup x=some .free;rw[lZ,g3];rcases zj (env:=X.env) (x:=x)with q|q
    .exact .inl (show some (uB X.env x .free)=_ by rw[q])
    .exact .inr (show some (uB X.env x .free)=_ by rw[q])
   obtain⟨c',h'⟩:=has x kY
   refine .inr ⟨kY,c',h',?_⟩
   rcases lk x c' h' with g|g
   .rcases mL _ _ _ _ _ g with z | z
    .exact absurd z g4
    .cases z
   .rw[OS]at g;cases g;exact vi.keeps tX
 .rcases lk x c h with g | g
  .exact⟨_,(ok.empty x c g).1⟩
  .obtain⟨v,q⟩:=I.cell x c g;exact⟨v,q.keeps tX⟩
 .rcases lk x c h with g | g
  .exact I.fB.fresh (aG (aY _ 2)<|big _ _ g)
  .exact I.ky x c g
 .delta g9;rw[jf];exact hc.len
end
section
variable {X:Cx}{ee:ao (aj×Obj)}{σ:St}{H:Hp}{s:ai}
def Inv.adopt (I:Inv X ee σ H s)(hn:H D=none)(hL:D≠X.env.locals)(h1:X.s₀.heap.objs.size<=D)(h2:∀ x c,X.env.cells.lookup x=some c->c≠D)(h3:∀ p∈X.pn++ee,p.1≠D)
 (e:s.heap.get? D=some { cls:=.type "list",data:=.seq fu.toArray n}) (r:fH ys fu) (hz:ys.length<=sizeLine):Inv X ee σ (upd H D<|.lst ys) s:=by
 have ne:∀ b,b∉[D]->b≠D:=λb h z=>h (by simp[z]);refine I.step (g':=s.gens) (d':=s.drawn) (t':=s.toks) (h':=s.heap) (λb hb=>?_) (λb o _ _ _ q _=>q) (λb o _ _ _ q _=>⟨o.slots,q⟩) (λb o hb q z=>by rwa [e9 (ne b hb)]) (λb o _ q=>⟨o,q⟩)
  (λb xs q=>by rwa [e9 (fS q hn)]) (λb o u q=>by rwa [e9 (fS q hn)]) (λb ps q=>⟨#[],by rw[e9 (fS q hn),q];simp⟩) (λm q=>q) (λb u q=>?_) I.bare
 .have z:b=D:=by simpa using hb
  subst z
  exact⟨.inr h1,hL,h2,h3⟩
 .by_cases hb:b=D
  .subst hb;rw[eZ]at q;cases q;exact⟨hz,fu,n,r,e⟩
  .rw[e9 hb]at q;exact(I.fB b u q).uu (λc v _ z=>z) (λc z=>by rw[e9 (fS z hn)];exact z) λc xs z=>by rw[e9 (fS z hn)];exact z
def Kv (X:Cx)(ifs:ao Expr)(t:TT):Prop :=
 ∀(ee:ao (aj×Obj)) (s:ai) (σ:St) (H:Hp) (Q:Bool->Hp->Prop),Inv X ee σ H s->t σ H Q ->
  wpAny (model X.prog X.w) X.A (forIn ifs true λc r=>if r=true then do let ok <- isTrue c X.env (eval c X.env);pure (ForInStep.yield ok)else pure (ForInStep.yield r)) (TP X ee σ Q) X.xe s
def tYes:TT:=λ_ H Q=>Q true H
def Hc:Kv X [] tYes:=λ_ _ _ H _ I h=>wpAny_tests_nil ⟨H,I,h⟩
def PQ (h:PT X c t):Kv X [c] t:=λee s σ H Q I q=>wpAny_tests_one (h ee s σ H Q I q)
def Ext (σ gL:St):Prop:=σ.length=gL.length/\∀(i:Nat) v,σ[i]?=some (some v)->gL[i]?=some (some v)
def Ext.Yi:Ext (none::none::r) (v::u::r):=⟨rfl,λi z h=>by
 match i,h with
 |0,h=>simp at h
 |1,h=>simp at h
 |i+2,h=>simpa using h⟩
def KI (js:ao (aq Nat))(g:TG)(tt:TT)(te:TE)(J:It)(σ:St)(H1:Hp)(fin:ao V->Hp->Prop):Prop :=
 ∃ W:Nat->Nat->ao V->Hp->Prop,(∃ m,W 0 m [] H1)/\∀ i m ys H,W i m ys H ->
  (J.stop i H/\fin ys H)\/(J.go i H/\∀ x H',J.KC i H x H'->g x (g9 js σ) H' λpD H2=>Ext (g9 js σ) pD/\tt pD H2 λb H3 =>
    if b=true then te pD H3 λy H4=>ys.length<sizeLine/\∃ m',m'<m/\W (i+1) m' (ys++[y]) H4 else ∃ m',m'<m/\W (i+1) m' ys H3)
def BS (I:Nat->ai->Prop)
 (turn:∀ n s,I n s->wpAny (model prog w) A (pyNext it) (λr s₁=>match r with
   |none=>R (.ok .next) s₁
   | some v=>wpAny (model prog w) A (letOwnedTupleGo target it v) (λ_ CK=>wpAny (model prog w) A (assign target env v) (λ_ s₂ =>
    wpAny (model prog w) A (forIn ifs true λc r=>if r=true then do let ok <- isTrue c env (eval c env);pure (ForInStep.yield ok)else pure (ForInStep.yield r)) (λok s₃ =>
     if ok=true then wpAny (model prog w) A (eval elt env) (λx s₄ =>
      wpAny (model prog w) A (call (.builtin "list.append") [acc,x]) (λ_ s₅=>∃ m,m<n/\I m s₅) (λ_ _=>False) s₄) (λ_ _=>False) s₃
     else ∃ m,m<n/\I m s₃) (λ_ _=>False) s₂) (λ_ _=>False) CK) (λ_ _=>False) s₁) (λ_ _=>False) s)
 (n:Nat) (h:I n s):
 codeAny (model prog w) A (.compLoop (.ListComp elt [⟨target,iter,ifs,0⟩] scope pos) 0 it acc env) R s:=by
 refine codeAny_loop rfl I (λn s hI=>wpAny_noted<|fb<|c4<|fb<|bf (turn n s hI) (λr s₁ h₁=>?_) λ_ _ h'=>h'.elim) n h;cases r with
 |none=>exact av h₁
 | some v =>
  refine fb (bf h₁ (λ_ CK Mw=>fb<|bf Mw (λ_ s₂ h₂=>fb<|bf h₂ (λok s₃ h₃=>?_) λ_ _ h'=>h'.elim) λ_ _ h'=>h'.elim) λ_ _ h'=>h'.elim);cases ok with
  |false=>exact av ⟨rfl,h₃⟩
  | true =>exact fb (fb<|bf h₃ (λx s₄ h₄=>fb<|bf h₄ (λ_ s₅ h₅=>av<|av ⟨rfl,h₅⟩) λ_ _ h'=>h'.elim) λ_ _ h'=>h'.elim)
variable {N:ao Str}{js:ao (aq Nat)}{sc:Scope}{fp:ao aj}{tg elt iter:Expr}{ifs:ao Expr}{g:TG}{tt:TT}{te:TE}
def lobj (fu:ao ak)(n:Nat):Obj:={ cls:=.type "list",data:=.seq fu.toArray n}
def tm (I:Inv X ee σ H s)(hc:kR X N js sc)(gE:CM (o8 X N sc fp s H))
 (T:Turn X.prog X.w X.K tg J fp it tn CM) (st:tn 0 s.heap) (hf:∀ b∈fp,nk X ee H b)
 (hg:PG (o8 X N sc fp s H) tg g) (ht:Kv (o8 X N sc fp s H) ifs tt) (he:PE (o8 X N sc fp s H) elt te) (q:KI js g tt te J σ H fin)
 (hR:∀ s' H' ys m,Inv X ee σ (upd H' s.heap.objs.size<|.lst ys) s'->H' s.heap.objs.size=none->fin ys H'->s'.heap.Ns (s.heap.objs.size+1) m->H' (s.heap.objs.size+1)=none->R (.ok .next) s'):
 codeAny (model X.prog X.w) X.A (.compStart (.ListComp elt [⟨tg,iter,ifs,0⟩] sc pos) 0 (.ref it) (.ref s.heap.objs.size)<|ow sc (s.heap.objs.size+1) X.env) R {s with heap:=t9 sc s.heap,toks:=tk}:=by
 have W3:∀ b∈fp,∃ o,s.heap.get? b=some o:=λb hb=>let ⟨o,e,_⟩:=T.obj 0 s.heap st b hb;⟨o,e⟩
 have I0:=Mr I hc hf W3 tk;have Km:=I0.ok;obtain⟨W,⟨m0,w0⟩,turn⟩:=q;have small:∀ b∈fp,b≠s.heap.objs.size:=λb hb=>let ⟨o,e⟩:=W3 b hb;aF (kG e)
 have wH:∀ {fu:ao ak} {k:Nat} {H':Hp},(∀ b∈fp,H' b=none)->∀ b∈fp,nk (o8 X N sc fp s H) [(s.heap.objs.size,lobj fu k)] H' b:=λ{fu k H'} hn b hb =>
  ⟨hn b hb,(Km.y3 b hb).1,Km.D4 b hb,.inl hb,(Km.y3 b hb).2,λp hp=>by
   have e:p=(s.heap.objs.size,lobj fu k):=by simpa [o8]using hp
   rw[e];exact(small b hb).symm⟩
 have XH:tn 0 (t9 sc s.heap):=T.keep 0 _ _ st λb _ o e=>vh b o e;have I1:Inv (o8 X N sc fp s H) [(s.heap.objs.size,lobj [] 0)] (g9 js σ) H { s with heap:=t9 sc s.heap,toks:=tk}:=I0.pQ λp hp=>by
  have e:p=(s.heap.objs.size,lobj [] 0):=by simpa using hp
  subst e;refine⟨JD,I.fB.fresh<|au _,aF<|b9 _,λz=>?_,λv z=>by cases z⟩;obtain⟨_,o,ho,_⟩:=Km.r9.mem z;exact bJ _ (kG ho)
 have loop:codeAny (model X.prog X.w) X.A (.compLoop (.ListComp elt [⟨tg,iter,ifs,0⟩] sc pos) 0 (.ref it) (.ref s.heap.objs.size)<|ow sc (s.heap.objs.size+1) X.env) R { s with heap:=t9 sc s.heap,toks:=tk}:=by
  refine BS (λn s'=>∃ i ys fu k H',Inv (o8 X N sc fp s H) [(s.heap.objs.size,lobj fu k)] (g9 js σ) H' s'/\tn i s'.heap/\(∀ b∈fp,H' b=none)/\fH ys fu/\ys.length<=sizeLine/\W i n ys H') ?_ m0
   ⟨0,[],[],0,H,I1,XH,λb hb=>(hf b hb).1,.nil,bp _,w0⟩
  refine λn s3 h_=>Nr h_ λi ys fu k H3 I3 OJ SI rv hz w3=>?_;have len:=rv.length;rcases turn i n ys H3 w3 with⟨stop,qf⟩|⟨go,step⟩
  .refine gg (T.done (o8 X N sc fp s H) rfl rfl rfl gE i _ s3 _ H3 _ I3 (wH SI) OJ stop) λr s4 h_=>jS h_ λhr I4=>?_;subst hr;show R (.ok .next) s4;have hD:=I4.pin (s.heap.objs.size,lobj fu k)<|aQ _ aI;refine eS I4.loc λm OQ _=>?_;have IX:Inv X ee σ H3 s4:=I.zP (ch:=fp) I4.os I4.eB I4.fB I4.bare λb hb=>by refine rf (hf b hb) λf0 f1 f2 f3 f4 f5=>?_;exact⟨f3,f1,f4,f5⟩
   have neD:∀(b:aj) (o:Obj),s.heap.get? b=some o->b≠s.heap.objs.size:=λb o e=>aF<|kG e;refine hR s4 H3 ys m (IX.adopt hD.2.1 (bh I.lt) I.sz (λx c e=>?_) (λp hp=>neD _ _ (I.pin p hp).1) hD.1 rv hz) hD.2.1 qf OQ I4.free;obtain⟨v,q⟩:=I.cell x c e;exact aF q.lt
  .refine gg (T.item (o8 X N sc fp s H) rfl rfl rfl gE i _ s3 _ H3 _ I3 (wH SI) OJ go) λr s4 h_=>eS h_ λu hr h4=>?_;subst hr;refine gg h4 λ_ s5 h_=>JN h_ λx H5 I5 r5 y5 K5 Zp=>?_;have I5':=I5.pinned (wH Zp)<|T.obj _ _ K5;refine gg (hg _ s5 _ H5 x u _ I5' r5<|step x H5 y5) λ_ s6 ⟨OG,H6,I6,⟨Nj,q6⟩⟩=>?_;refine gg (ht _ s6 OG H6 _ I6 q6) λb s7 h_=>eS h_ λH7 I7 q7=>?_;have back:∀ {s':ai} {H':Hp},Inv (o8 X N sc fp s H) ([(s.heap.objs.size,lobj fu k)]++uD fp s5.heap) OG H' s'->tn (i+1) s'.heap/\(∀ b∈fp,H' b=none)/\Inv (o8 X N sc fp s H) [(s.heap.objs.size,lobj fu k)] (g9 js σ) H' s':=λ{s' H'} I'=>by refine⟨T.keep _ _ _ K5 λb hb o e=>(I'.pin (b,o)<|aQ _<|aQ _<|mC hb e).1,λb hb=>?_,(I'.weak Nj.1 Nj.2).qA⟩;refine eS (T.obj _ _ K5 b hb) λo e d=>?_;exact(I'.pin (b,o)<|aQ _<|aQ _<|mC hb e).2.1
   cases b with
   | false =>
    rw[az aM]at q7 ⊢
    refine eS q7 λm' hm w7=>?_;refine rh (back I7) λt7 f7 I7'=>?_;exact⟨m',hm,i+1,ys,fu,k,H7,I7',t7,f7,rv,hz,w7⟩
   | true =>
    rw[aD rfl]at q7 ⊢
    refine gg (he _ s7 OG H7 _ I7 q7) λy s8 FP=>?_;obtain⟨yv,H8,I8,ry,uq,m',hm,w8⟩:=FP;refine rh (back I8) λt8 f8 I8'=>?_;have hD:=I8'.pin (s.heap.objs.size,lobj fu k)<|aQ _ aI;have eD:s8.heap.get? s.heap.objs.size=some { cls:=.type "list",data:=.seq fu.toArray k}:=hD.1;refine call_meets F.slot_list_append ⟨_,eD,rfl⟩ F.entry_list_append (F.args_list_append_2 _ _) (PySem.list_append s.heap.objs.size fu.toArray k y (by rw[aB];lia)) ⟨eD,?_⟩;have q:=PySem.IsL.update eD (·.push y);have ZA:fu.toArray.push y=(fu++[y]).toArray:=by simp
    have keep:∀(b:aj) (o:Obj),b≠s.heap.objs.size->s8.heap.get? b=some o->(s8.heap.update s.heap.objs.size (Obj.mapSeq (·.push y))).get? b=some o:=λb o hb e=>(aZ s8.heap (Obj.mapSeq (·.push y))<|bz hb).trans e;have aab:∀ x c,(o8 X N sc fp s H).env.cells.lookup x=some c->c≠s.heap.objs.size:=λx c e z=>by refine mD (I8'.cell x c e) λv o ho hd=>?_;rw[z,eD]at ho;cases ho;cases hd
    have I9:Inv (o8 X N sc fp s H) [] (g9 js σ) H8 { s8 with heap:=s8.heap.update s.heap.objs.size (Obj.mapSeq (·.push y))} :=
     (I8'.pQ (pins':=[]) λp hp=>absurd hp<|by simp).turned (t':=s8.toks) keep hD.2.1 hD.2.2.1 (.inr<|au _) aab (λp hp=>absurd (show p∈([]:ao (aj×Obj))from hp)<|by simp)
    rw[ZA]at q;obtain⟨k',q'⟩:∃ k',(s8.heap.update s.heap.objs.size (Obj.mapSeq (·.push y))).get? s.heap.objs.size=some (lobj (fu++[y]) k'):=⟨_,q⟩;refine⟨m',hm,i+1,ys++[yv],fu++[y],k',H8,I9.pQ λp hp=>?_,T.keep _ _ _ t8 λb hb o e=>keep b o (small b hb) e,f8,rv.append<|.cons ry .nil,by rw[mJ,aU];lia,w8⟩;have e:p=(s.heap.objs.size,lobj (fu++[y]) k'):=by simpa using hp
    subst e;exact⟨q',hD.2.1,hD.2.2.1,hD.2.2.2.1,λv z=>by cases z⟩
 exact codeAny_compStart_list loop (T.self _ 0 _ _ _ XH loop)
def GX (wi:TI)(js:ao (aq Nat))(g:TG)(tt:TT)(te:TE):TE:=λσ H Q=>wi σ H λJ H1=>KI js g tt te J σ H1 λys H'=>∀ D,H' D=none->Q (.ref D) (upd H' D<|.lst ys)
def Hf (hc:kR X N js sc)(gE:X.gE=true)(hi:PI X tg iter wi)(hg:∀ fp s H,PG (o8 X N sc fp s H) tg g)(ht:∀ fp s H,Kv (o8 X N sc fp s H) ifs tt)(he:∀ fp s H,PE (o8 X N sc fp s H) elt te)
 (hs:∀ x,foldedSetIterable iter X.env x=pure x:=by intro _;rfl):PE X (.ListComp elt [⟨tg,iter,ifs,0⟩] sc pos) (GX wi js g tt te):=by
 intro ee s σ H Q I h;refine cF rfl hs (mK λy hy e=>I.ok.has y.1<|hc.free y hy e) hc.kind hc.loc (gg (hi ee s σ H _ I h) λv s1 h1=>gg h1 λSv s2 h2=>?_);refine Nr h2 λit fp tn J H2 e I2 T G1 f2 q=>?_;subst e;refine bw<|oE ?_;simp;refine tm I2 hc gE T G1 f2 (hg fp s2 H2) (ht fp s2 H2) (he fp s2 H2) q λs' H' ys m IX nD qf nC hn=>⟨m,nC,λh' sb=>?_⟩;have Cm:∀(b:aj) (o:Obj),s2.heap.get? b=some o->b≠s2.heap.objs.size+1:=λb o e=>aF<|bB<|kG e;have IY:Inv X ee σ (upd H' s2.heap.objs.size<|.lst ys) { s' with heap:=h'}:=IX.turned (t':=s'.toks) (it:=s2.heap.objs.size+1) (λb o hb e=>(sb.2 b hb).trans e) (by rwa [e9 (bh<|b9 _)])
  (bh<|bB I2.lt) (.inr<|bX I2.sz) (λx c e=>let ⟨v,z⟩:=I2.cell x c e;aF (bB z.lt)) (λp hp=>Cm _ _ (I2.pin p hp).1)
 exact⟨.ref _,_,IY,rfl,qf _ nD⟩
def Fh (hc:kR X N js sc)(gE:X.gE=true)(hN:X.N.Nodup)(Jy:X.N[i]?=some x)(hx:Loc X.env.scope x)(hi:PI X tg iter wi)(hg:∀ fp s H,PG (o8 X N sc fp s H) tg g)
 (ht:∀ fp s H,Kv (o8 X N sc fp s H) ifs tt) (he:∀ fp s H,PE (o8 X N sc fp s H) elt te) (My:swapsWith (.ListComp elt [⟨tg,iter,ifs,0⟩] sc pos) (some<|.Name x pos') E6.line X.env=pure true:=by rfl)
 (hs:∀ x,foldedSetIterable iter X.env x=pure x:=by intro _;rfl) (hf:X.fn x=true\/X.env.scope.names.lookup x=some .local:=by first|exact .inl rfl|exact .inr rfl|assumption):
 PS X (.Assign [.Name x pos'] (.ListComp elt [⟨tg,iter,ifs,0⟩] sc pos) E6) (T2 (GX wi js g tt te)<|xN i):=by
 intro ee s σ H D I h;rw[exec_Assign_Name_used _ _ _ _ My];refine fb<|c4<|fb ?_;refine fb (bf (cF rfl hs (mK λy hy e=>I.ok.has y.1<|hc.free y hy e) hc.kind hc.loc
  (gg (hi ee s σ H _ I h) λv s1 h1=>gg h1 λSv s2 h2=>?_)) (λ_ s' hq=>av<|av hq) λ_ _ e=>e)
 refine Nr h2 λit fp tn J H2 e I2 T G1 f2 q=>?_;subst e;refine bw<|oE ?_;have hC:(s2.heap.push { cls:=.type "list",dict:=none,data:=.seq ([]:ao ak).toArray}).objs.size=s2.heap.objs.size+1:=bq ..
 simp only[hC];refine tm I2 hc gE T G1 f2 (hg fp s2 H2) (ht fp s2 H2) (he fp s2 H2) q λs' H' ys m IX nD qf nC hn=>?_;have Cm:∀(b:aj) (o:Obj),s2.heap.get? b=some o->b≠s2.heap.objs.size+1:=λb o e=>aF<|bB<|kG e;have hnC:upd H' s2.heap.objs.size (.lst ys) (s2.heap.objs.size+1)=none:=by rw[e9 (bh<|b9 _)];exact hn
 refine wpAny_assign_Name (zh (v:=.ref s2.heap.objs.size) IX hN Jy hx rfl (λWV IZ ch=>?_) hf);refine eS ch λa sba ha=>?_;have hac:s2.heap.objs.size+1≠a:=by
  rcases ha with z|z
  .rw[z];exact bh (bB I2.lt)
  .let ⟨v,z⟩:=I2.cell x a z;exact bh (bB z.lt)
 refine⟨m,nC.sameBut sba hac,λh' sb=>?_⟩;have IY:Inv X ee (σ.set i<|some<|.ref s2.heap.objs.size) (upd H' s2.heap.objs.size<|.lst ys) { WV with heap:=h'}:=IZ.turned (t':=WV.toks) (λb o hb e=>(sb.2 b hb).trans e) hnC
  (bh<|bB I2.lt) (.inr<|bX I2.sz) (λx c e=>let ⟨v,z⟩:=I2.cell x c e;aF (bB z.lt)) (λp hp=>Cm _ _ (I2.pin p hp).1)
 exact⟨_,_,IY,qf _ nD⟩
end
open Builtin Builtin.Str
def kH {α:Type}(xs:ao α)(lo hi:aq Int):ao α:=(xs.drop<|HT.jK xs.length 0 lo).take (HT.jK xs.length xs.length hi - HT.jK xs.length 0 lo)
def Rn (n:Nat)(lo:aq Int):(match lo with | none=>(0:Int) | some i=>max 0<|min (if i<0 then i+(n:Int)else i) (n:Int))=((HT.jK n 0 lo:Nat):Int):=by
 cases lo with
 |none=>rfl
 |some i=>delta HT.jK;split<;>lia
def Ro (n:Nat)(hi:aq Int):(match hi with | none=>(n:Int) | some i=>max 0<|min (if i<0 then i+(n:Int)else i) (n:Int))=((HT.jK n n hi:Nat):Int):=by
 cases hi with
 |none=>rfl
 |some i=>delta HT.jK;split<;>lia
def pJ (lo hi:aq Int)(n:Nat):strSliceIndices lo hi 1 n=sliceRange ((HT.jK n 0 lo:Nat):Int) ((HT.jK n n hi:Nat):Int) 1:=by rw[<- Rn,<- Ro];cases lo<;>cases hi<;>rfl
def ID (x:Str)(lo hi:aq Int):(strSliceIndices lo hi 1 x.length).filterMap (x.cps[·]?)=kH x.cps.toList lo hi:=by
 have hl:x.cps.toList.length=x.length:=by simp[Str.length]
 delta kH;rw[hl];have ha:=HT.AM x.length 0 (bp _) lo;have hb:=HT.AM x.length x.length (au _) hi;by_cases VR:HT.jK x.length 0 lo<=HT.jK x.length x.length hi
 .rw[<- StrLaws.sliced_plain x VR hb,pJ,pJ];congr 2
  .rw[HT.rN,cY ha]
  .rw[HT.rN,cY hb]
 .rw[pJ];have e:HT.jK x.length x.length hi - HT.jK x.length 0 lo=0:=by lia
  rw[e,List.take_zero];delta sliceRange;have h1:¬ (((HT.jK x.length 0 lo:Nat):Int)<((HT.jK x.length x.length hi:Nat):Int)):=by lia
  simp[h1]
def Ei {α:Type}(xs:ao α)(lo hi:aq Int):(kH xs lo hi).length<=xs.length:=by delta kH;rw[ba,cb];lia
section
variable {X:Cx}
def rSlS:V->aq Int->aq Int->Hp->VK->Prop:=λx lo hi H Q=>∃ z:Str,x=.str z/\z.length<=sizeLine/\Q (.str ⟨(kH z.cps.toList lo hi).toArray⟩) H
def Uj:SlR X rSlS:=by
 intro ee s σ H x v vl vu lo hi sl Q I rx hs pl pu h;obtain⟨z,rfl,hz,q⟩:=h;obtain⟨t,rfl⟩:=rx;refine⟨"str",_,F.slot_str_getitem.lookup,dA _ _ _,?_⟩;obtain⟨l,el⟩:∃ l:aq (Int×Tok),vl=partValue l/\l.map (·.1)=lo:=by
  cases pl with
  |none=>exact⟨none,rfl,rfl⟩
  |int i t=>exact⟨some (i,t),rfl,rfl⟩
 obtain⟨u,eu⟩:∃ u:aq (Int×Tok),vu=partValue u/\u.map (·.1)=hi:=by
  cases pu with
  |none=>exact⟨none,rfl,rfl⟩
  |int i t=>exact⟨some (i,t),rfl,rfl⟩
 obtain⟨rfl,el⟩:=el;obtain⟨rfl,eu⟩:=eu;refine wpAny_getItem_str_slice (l:=l) (u:=u) (st:=none) hs rfl ?_;delta sliceMade;have e:slicePicked z l u none=strSliceIndices lo hi 1 z.length:=by delta slicePicked;rw[el,eu];rfl
 rw[e,ID];by_cases hc:(((none:aq (Int×Tok)).map (·.1)).getD 1==1&&(strSliceIndices lo hi 1 z.length).length==z.length)=true
 .rw[aD hc];refine⟨.str z,H,I,⟨_,rfl⟩,?_⟩;have vj:(strSliceIndices lo hi 1 z.length).length=z.length:=by simpa using hc
  have hl:z.cps.toList.length=z.length:=by simp[Str.length]
  have h3:kH z.cps.toList lo hi=z.cps.toList:=by
   rw[pJ]at vj;delta sliceRange at vj;have hb:=HT.AM z.length z.length (au _) hi;delta kH;rw[hl];by_cases uq:((HT.jK z.length 0 lo:Nat):Int)<((HT.jK z.length z.length hi:Nat):Int)
   .simp[uq]at vj;have a0:HT.jK z.length 0 lo=0:=by lia
    have b0:HT.jK z.length z.length hi=z.length:=by lia
    rw[a0,b0,List.drop_zero,Nat.sub_zero,<- hl,List.take_length]
   .simp[uq]at vj;have z0:z.cps.toList=[]:=List.length_eq_zero_iff.mp (by lia);rw[z0];simp
  have e2:(⟨(kH z.cps.toList lo hi).toArray⟩:Str)=z:=by rw[h3]
  rw[e2]at q;exact q
 .rw[az hc];refine⟨?_,.str _,H,I.tok _,⟨_,rfl⟩,q⟩;have hl:z.cps.toList.length=z.length:=by simp[Str.length]
  have:=Ei z.cps.toList lo hi;show(kH z.cps.toList lo hi).toArray.size<=sizeLine;rw[aB];lia
theorem Hb (c:Nat):∀(n:Nat) (acc:Array Nat),(List.replicate n #[c]).foldl (·++·) acc=acc++(List.replicate n c).toArray
 |0,acc=>rfl
 | n+1,acc=>by rw[List.replicate_succ,List.foldl_cons,Hb c n,List.replicate_succ];apply Array.toList_inj.mp;simp
def mul_one (c:Nat)(n:Int):Txt.mul ⟨#[c]⟩ n=⟨(List.replicate n.toNat c).toArray⟩:=by
 delta Txt.mul;by_cases h1:n<1
 .rw[aD h1];have e:n.toNat=0:=by lia
  rw[e];rfl
 .rw[az h1];by_cases h2:(n==1||(⟨#[c]⟩:Str).length==0)=true
  .rw[aD h2];have e:n=1:=by simpa [Str.length]using h2
   rw[e];rfl
  .rw[az h2];congr 1;have:=Hb c n.toNat #[];rw[this];apply Array.toList_inj.mp;simp
def Fm:lj X (binaryOp .Mult) (λx y H Q=>∃(c:Nat) (n:Int),x=.str ⟨#[c]⟩/\y=.int n /\ -1000000<=n/\n<=1000000/\Q (.str ⟨(List.replicate n.toNat c).toArray⟩) H):=by
 intro ee s σ H x y v u Q I rx ry h;obtain⟨c,n,rfl,rfl,h1,h2,q⟩:=h;obtain⟨t,rfl⟩:=rx;obtain⟨t',rfl⟩:=ry;refine SB.mul ⟨?_,λhn _=>?_,λhn _=>?_⟩ λt' k=>?_
 .rw[aw (by lia),aw (by lia)];rfl
 .have e:((⟨#[c]⟩:Str).length:Int)=1:=rfl;have:(1:Int)<=(2 ^ 63 - 1) / n:=(Int.le_ediv_iff_mul_le<|by lia).mpr (by lia);lia
 .have e:(⟨#[c]⟩:Str).length=1:=rfl;delta tooLong sizeLine;rw[aw (by lia)]
 .rw[mul_one];exact⟨.str _,H,I.tok _,⟨_,rfl⟩,q⟩
theorem zO (c:Nat):∀ l:ao Nat,countIn (.str ⟨#[c]⟩) (l.map λn=>PyData.str ⟨#[n]⟩)=((l.count c:Nat):Int)
 |[]=>rfl
 | n::r=>by
  have h:=cnt_cons c n r;unfold cnt at h;rw[h,zO c r,dw];by_cases e:n=c
  .lia
  .lia
def Ux:V->ao V->Hp->VK->Prop:=λx vs H Q=>∃(z:Str) (c:Nat),x=.str z/\vs=[.str ⟨#[c]⟩]/\Q (.int ((z.cps.toList.count c:Nat):Int)) H
def L4:B7 X "str.count" Ux:=by intro ee s σ H x vs v us Q I rx rv h;refine fw h λz c fE qk q=>?_;subst fE;subst qk;obtain⟨t,rfl⟩:=rx;refine eS rv.one λu fE ru=>?_;subst fE;obtain⟨t',rfl⟩:=ru;refine SC.count ?_;rw[count_is,zO];exact⟨.int _,H,I.tok _,⟨_,rfl⟩,q⟩
def Its (l:ao Nat):It:=⟨λi _=>i<l.length,λi H x H'=>H'=H/\∃ c,l[i]?=some c/\x=.str ⟨#[c]⟩,λi _=>i=l.length⟩
def CA {K:aa}{it:aj}{z:Str}{n:String}{St:Nat->Heap->Prop}
 (W:∀ A':Around,A'.handled=none->Walks P w A' it [it] [it] z.cps.size (SignAt z) St) (hn:["enumerate","zip","dict_itemiterator","dict_reverseitemiterator","odict_iterator","itertools.zip_longest","itertools.pairwise"].contains n=false)
 (ob:∀ i h,St i h->∃ o vs,h.get? it=some o/\o.cls=.type n/\o.data=.fields vs) (slf:∀(A:Around) (i:Nat) (s:ai) (Q:ak->ai->Prop) (E:ak->ai->Prop),St i s.heap->Q (.ref it) s->wpAny (model P w) A (pyIter<|.ref it) Q E s):Turn P w K tg (Its z.cps.toList) [it] it St where
 mem:=by simp
 obj:=λi h st b hb=>by
  have e:b=it:=by simpa using hb
  subst e;refine fw (ob i h st) λo vs e c d=>?_;exact⟨o,e,λv z=>by rw[d]at z;cases z⟩
 keep:=λi h h' st k=>(W { handled:=none,depth:=0,units:=0,frames:=none} rfl).frame i h h' st k
 item:=by intro X hP hw hK hc i ee s σ H E I hf st hg;subst hP hw hK;refine rf (hf it<|by simp) λf0 f1 f2 f3 f4 f5=>?_;have hg':i<z.cps.toList.length:=hg;refine(W X.A<|I.ok.hd hc).item i s _ _ (by simpa using hg') st λv h' tk hv Ci kk=>?_;refine mD hv λc u OS fE=>?_;subst fE;have I1:Inv X ee σ H {s with heap:=h',toks:=tk}:=I.turned (λb o hb e=>kk b o (by simpa using hb) e) f0 f1 f3 f4 f5;refine fw (ob _ _ Ci) λo vs e c' d=>?_;refine⟨_,rfl,zD e c' d hn ⟨.str ⟨#[c]⟩,H,I1,⟨u,rfl⟩,⟨rfl,c,by simpa using OS,rfl⟩,Ci,λb hb=>(hf b hb).1⟩⟩
 done:=by
  intro X hP hw hK hc i ee s σ H E I hf st hg;subst hP hw hK;refine rf (hf it<|by simp) λf0 f1 f2 f3 f4 f5=>?_;have e:i=z.cps.size:=by have:i=z.cps.toList.length:=hg;simpa using this
  subst e;exact(W X.A<|I.ok.hd hc).done s _ _ st λh' tk eb=>⟨rfl,I.turned (t':=tk) (λb o hb e=>eb b o (by simpa using hb) e) f0 f1 f3 f4 f5⟩
 self:=slf
def iStr (tl:TE):TI:=λσ H R=>tl σ H λx H1=>∃ z:Str,x=.str z/\R (Its z.cps.toList) H1
def UI (hl:PE X l tl):PI X tg l (iStr tl):=by
 intro ee s σ H R I h;refine gg (hl ee s σ H _ I h) λv s1 QF=>?_;obtain⟨x,H1,I1,r1,z,e,q⟩:=QF;subst e;obtain⟨t,rfl⟩:=r1;have fp:∀ b∈[s1.heap.objs.size],nk X ee H1 b:=λb hb=>by
  have e:b=s1.heap.objs.size:=by simpa using hb
  subst e;exact I1.Bo (au _) (I1.fB.fresh<|au _)
 have kp:∀(o:Obj),Inv X ee σ H1 { s1 with heap:=s1.heap.push o}:=λo=>I1.eI (t':=s1.toks) λb o' e=>kJ _ e;cases ha:z.cps.all (·<128)
 .refine wpAny_pyIter_wide ha ⟨s1.heap.objs.size,[s1.heap.objs.size],λi h=>h.IsStrIter s1.heap.objs.size "str_iterator" z t i,_,H1,rfl,kp _,CA (λA' hA=>Walks.strWide hA _ z t) rfl (λi h st=>let ⟨o,a,b,c⟩:=st;⟨o,_,a,b,c⟩) λ_ _ _ _ _ st h=>wpAny_pyIter_striter_wide st h,⟨_,aC _ rfl,rfl,rfl⟩,fp,q⟩
 .refine wpAny_pyIter_ascii ha ⟨s1.heap.objs.size,[s1.heap.objs.size],λi h=>h.IsStrIter s1.heap.objs.size "str_ascii_iterator" z t i,_,H1,rfl,kp _,CA (λA' hA=>Walks.strAscii hA _ z t) rfl (λi h st=>let ⟨o,a,b,c⟩:=st;⟨o,_,a,b,c⟩) λ_ _ _ _ _ st h=>wpAny_pyIter_striter_ascii st h,⟨_,aC _ rfl,rfl,rfl⟩,fp,q⟩
def N7:jg X (.builtin "isinstance") (λvs H Q=>∃ x T t b,vs=[x,.ty T]/\kO X.K H x t/\W.kitOne X.K t (.type T)=some b/\Q (.bl b) H):=by intro ee s σ H vs us Q I rv h;refine fF h λx T t b fE ty e q=>?_;subst fE;refine fw (vals2 rv) λu w' fE r1 r2=>?_;subst fE;subst r2;exact Jr I r1 ty e λtk=>⟨.bl b,H,I.tok tk,rfl,q⟩
end
end L2
namespace L2
open PySem PySem.Spec PyProof.Rows
open Builtin Builtin.Str
section
variable {X:Cx}
def lj.imp {f:ak->ak->Sem ak}{r r':R2}(h:lj X f r)(hi:∀ x y H Q,r' x y H Q->r x y H Q):lj X f r':=λee s σ H x y v u Q I r1 r2 q=>h ee s σ H x y v u Q I r1 r2 (hi x y H Q q)
def PE.imp (h:PE X e t)(hi:∀ σ H Q,t' σ H Q->t σ H Q):PE X e t':=λee s σ H Q I q=>h ee s σ H Q I (hi σ H Q q)
def PT.imp (h:PT X e t)(hi:∀ σ H Q,t' σ H Q->t σ H Q):PT X e t':=λee s σ H Q I q=>h ee s σ H Q I (hi σ H Q q)
def PG.imp (h:PG X e t)(hi:∀ v σ H Q,t' v σ H Q->t v σ H Q):PG X e t':=λee s σ H v u Q I r q=>h ee s σ H v u Q I r (hi v σ H Q q)
def Kw.imp (h:Kw X e t)(hi:∀ v σ H Q,t' v σ H Q->t v σ H Q):Kw X e t':=λee s σ H v u Q I r q=>h ee s σ H v u Q I r (hi v σ H Q q)
def PS.imp (h:PS X e t)(hi:∀ D σ H,t' D σ H->t D σ H):PS X e t':=λee s σ H D I q=>h ee s σ H D I (hi D σ H q)
def jg.imp (h:jg X f r)(hi:∀ vs H Q,r' vs H Q->r vs H Q):jg X f r':=λee s σ H vs us Q I rv q=>h ee s σ H vs us Q I rv (hi vs H Q q)
def B7.imp {id:String}(h:B7 X id r)(hi:∀ x vs H Q,r' x vs H Q->r x vs H Q):B7 X id r':=λee s σ H x vs v us Q I r1 rv q=>h ee s σ H x vs v us Q I r1 rv (hi x vs H Q q)
def aac (i:Nat):TE:=λσ H Q=>match σ[i]? with|some (some v)=>Q v H|_=>False
def l9 (i:Nat)(hN:X.N[i]?=some x:=by rfl)(hv:To X.env.scope x:=by first | exact Or.inl rfl | exact Or.inr (Or.inl rfl) | exact Or.inr<|Or.inr rfl)(hd:(x==("__debug__" : Str))=false:=by decide)
 (yY:(x==("__classdict__" : Str))=false:=by decide):PE X (.Name x pos) (aac i):=(A0 hN hv hd yY).imp λσ H Q q=>by
 delta aac at q;split at q
 .rename_i v e;exact⟨v,e,q⟩
 .exact q.elim
def Lz:R2:=λx y H Q=>match x,y with
 |.int i,.int j=>Q (.int<|i+j) H
 |.str i,.str j=>i.length+j.length<=sizeLine/\Q (.str<|i++j) H
 |.ref l,.ref b=>∃ xs zs,H l=some (.lst xs)/\H b=some (.lst zs)/\xs.length+zs.length<=sizeLine/\∀ p,H p=none->Q (.ref p) (upd H p<|.lst<|xs++zs)
 |_,_=>False
def Ou:lj X (binaryOp .Add) Lz:=(U3.or<|Fo.or U2).imp λx y H Q q=>by
 delta Lz at q;split at q
 .exact .inl ⟨_,_,rfl,rfl,q⟩
 .exact .inr (.inl ⟨_,_,rfl,rfl,q.1,q.2⟩)
 .obtain⟨xs,zs,a,b,c,d⟩:=q;exact .inr (.inr ⟨_,_,xs,zs,rfl,rfl,a,b,c,d⟩)
 .exact q.elim
def WW (C:Int->Int->Prop)(g:Int->Int->V):R2:=λx y H Q=>match x,y with
 |.int i,.int j=>C i j/\Q (g i j) H
 |_,_=>False
def AU (g:Int->Int->V):R2:=λx y H Q=>match x,y with
 |.int i,.int j=>Q (g i j) H
 |_,_=>False
def lj.i2 {f:ak->ak->Sem ak}{C:Int->Int->Prop}{g:Int->Int->V}(h:lj X f (rI C g)):lj X f (WW C g):=h.imp λx y H Q q=>by
 delta WW at q;split at q
 .exact⟨_,_,rfl,rfl,q.1,q.2⟩
 .exact q.elim
def lj.Y5 {f:ak->ak->Sem ak}{g:Int->Int->V}(h:lj X f (PL g)):lj X f (AU g):=h.imp λx y H Q q=>by
 delta AU at q;split at q
 .exact⟨_,_,rfl,rfl,q⟩
 .exact q.elim
def Iy:lj X (binaryOp .Sub) (AU λi j=>.int<|i - j):=UY.Y5
def Ls:R2:=λx y H Q=>match x,y with
 |.int i,.int j=>OF i j/\Q (.int<|i*j) H
 |.str z,.int n=>∃ c:Nat,z=⟨#[c]⟩ /\ -1000000<=n/\n<=1000000/\Q (.str ⟨(List.replicate n.toNat c).toArray⟩) H
 |_,_=>False
def mulC:lj X (binaryOp .Mult) Ls:=(U0.or Fm).imp λx y H Q q=>by
 delta Ls at q;split at q
 .exact .inl ⟨_,_,rfl,rfl,q.1,q.2⟩
 .obtain⟨c,rfl,a,b,d⟩:=q;exact .inr ⟨c,_,rfl,rfl,a,b,d⟩
 .exact q.elim
def divC:lj X (binaryOp .FloorDiv) (WW aaz λi j=>.int<|i / j):=Qj.i2
def yX:lj X (binaryOp .Mod) (WW (λ_ j=>0<j) λi j=>.int<|i%j):=U1.i2
def powC:lj X (binaryOp .Pow) (WW aay λi j=>.int<|i ^ j.toNat):=UZ.i2
def ltC:lj X (compareOp .Lt) (AU λi j=>.bl<|decide (i<j)):=Ym.Y5
def leC:lj X (compareOp .LtE) (AU λi j=>.bl<|decide (i<=j)):=Yn.Y5
def gtC:lj X (compareOp .Gt) (AU λi j=>.bl<|decide (j<i)):=Yo.Y5
def geC:lj X (compareOp .GtE) (AU λi j=>.bl<|decide (j<=i)):=Yp.Y5
def Lx (neg:Bool):R2:=λx y H Q=>match x,y with
 |.int i,.int j=>Q (.bl<|neg != decide (i=j)) H
 |.str i,.str j=>Q (.bl<|neg != decide (i=j)) H
 |.bl i,.bl j=>Q (.bl<|neg != decide (i=j)) H
 |_,_=>False
def uO [Decidable p][Decidable q](h:p↔q):decide p=decide q:=by
 by_cases hp:p
 .rw[aH hp,aH (h.mp hp)]
 .rw[aw hp,aw λz=>hp<|h.mpr z]
def dI {i j:Int}:decide (V.int i=V.int j)=decide (i=j):=uO (by simp)
def dS:decide (V.str i=V.str j)=decide (i=j):=uO (by simp)
def dB:decide (V.bl i=V.bl j)=decide (i=j):=uO (by simp)
def eqC:lj X (compareOp .Eq) (Lx false):=Sg.imp λx y H Q q=>by
 delta Lx at q;split at q
 .exact⟨rfl,by simpa using q⟩
 .exact⟨rfl,by simpa using q⟩
 .exact⟨rfl,by simpa using q⟩
 .exact q.elim
def Cm:lj X (compareOp .NotEq) (Lx true):=Yl.imp λx y H Q q=>by
 delta Lx at q;split at q
 .exact⟨rfl,by simpa using q⟩
 .exact⟨rfl,by simpa using q⟩
 .exact⟨rfl,by simpa using q⟩
 .exact q.elim
def cT (t:TE):TT:=λσ H Q=>t σ H λx H1=>match x with|.bl c=>Q c H1|_=>False
end
def bK (Q:Bool->Hp->Prop):VK:=λx H1=>match x with|.bl c=>Q c H1|_=>False
section
variable {X:Cx}{a b e:Expr}{t ta tb:TE}{pos:Pos}
def cB (t:TE):TT:=λσ H Q=>t σ H (bK Q)
def oC (ho:lj X (compareOp op) r)(ha:PE X a ta)(hb:PE X b tb)(hm:behindInMarks op b=false):PT X (.Compare a [op] [b] pos) (cB<|WS r ta tb):=by
 intro ee s σ H Q I h;refine wpAny_isTrue_Compare1 (Rv ha hb I h λv u s2 x y H2 I2 rx ry q=>gg (ho _ s2 σ H2 x y v u _ I2 rx ry q) λc s3 h_=>fw h_ λz H3 I3 r3 q3=>?_) hm;cases z with
 |bl d=>subst r3;exact bL ⟨H3,I3,q3⟩
 |_=>exact q3.elim
def tR (h:PE X e t)(he:∀ whole,isTrue e X.env whole=(do let v <- whole;standAt e.pos;holding [v] (truthy v)):=by intro _;rfl):PT X e (cB t):=by
 intro ee s σ H Q I hw;refine isTrue_plain (gg (h ee s σ H _ I hw) λv s1 h_=>fw h_ λx H1 I1 r1 q1=>?_)<|he _;cases x with
 |bl d=>subst r1;exact bL ⟨H1,I1,q1⟩
 |_=>exact q1.elim
def cAnd (ta tb:TE):TE:=λσ H Q=>ta σ H λx H1=>match x with|.bl c=>if c=true then tb σ H1 Q else Q (.bl false) H1|_=>False
def cNot (ta:TE):TE:=λσ H Q=>ta σ H λx H1=>match x with|.bl c=>Q (.bl<|!c) H1|_=>False
def vY {rest:ao Expr}(ha:PE X a ta)(hb:PE X (.BoolOp .And (b::rest) pos) tb):PE X (.BoolOp .And (a::b::rest) pos) (cAnd ta tb):=by
 intro ee s σ H Q I h;refine BoolOp_and (gg (ha ee s σ H _ I h) λv s1 h_=>fw h_ λx H1 I1 r1 q1=>?_);cases x with
 | bl c =>
  subst r1;refine bL ?_;cases c with
  |true=>exact hb ee s1 σ H1 Q I1 q1
  |false=>exact⟨.bl false,H1,I1,rfl,q1⟩
 |_=>exact q1.elim
def Qe (ha:PE X a ta):PE X (.UnaryOp .Not a pos) (cNot ta):=by
 intro ee s σ H Q I h;refine UnaryOp_ (gg (ha ee s σ H _ I h) λv s1 h_=>fw h_ λx H1 I1 r1 q1=>?_);cases x with
 |bl c=>subst r1;exact not_of (bL ⟨.bl<|!c,H1,I1,rfl,q1⟩)
 |_=>exact q1.elim
def opt {α:Type}(o:aq α)(k:α->Prop):Prop:=match o with|some v=>k v|none=>False
def gJ {α:Type}{o:aq α}{k:α->Prop}(h:opt o k):∃ v,o=some v/\k v:=by
 cases o with
 |none=>exact h.elim
 |some v=>exact⟨v,rfl,h⟩
def Uw:R2:=λx y H Q=>match x,y with
 |.ref p,.int i=>∃ xs,(H p=some (.lst xs)\/H p=some (.tup xs))/\opt (wq xs i) λv=>Q v H
 |.str z,.int i=>z.length<=sizeLine/\opt (wq z.cps.toList i) λc=>Q (.str ⟨#[c]⟩) H
 |_,_=>False
def Ij.imp (h:Ij X r)(hi:∀ x y H Q,r' x y H Q->r x y H Q):Ij X r':=λvalue slice ee s σ H x y v u Q I r1 r2 q=>h value slice ee s σ H x y v u Q I r1 r2 (hi x y H Q q)
def Mp:Ij X Uw:=Vq.imp λx y H Q q=>by
 delta Uw at q;split at q
 .refine eS q λxs h q=>?_;refine eS (gJ q) λv e q=>?_;rcases h with h|h
  .exact .inl ⟨_,xs,_,v,rfl,rfl,qv.of h,e,q⟩
  .exact .inr (.inl ⟨_,xs,_,v,rfl,rfl,Cs.of h,e,q⟩)
 .refine jS q λhz q=>?_;refine eS (gJ q) λv e q=>?_;exact .inr (.inr ⟨_,_,v,rfl,rfl,hz,e,q⟩)
 .exact q.elim
def XZ:V->aq Int->aq Int->Hp->VK->Prop:=λx lo hi H Q=>match x with
 |.ref p=>∃ xs,H p=some (.lst xs)/\∀ l,H l=none->Q (.ref l) (upd H l<|.lst<|BR xs lo hi)
 |.str z=>z.length<=sizeLine/\Q (.str ⟨(kH z.cps.toList lo hi).toArray⟩) H
 |_=>False
def slC:SlR X XZ:=by
 intro ee s σ H x v vl vu lo hi sl Q I rx hs pl pu h;delta XZ at h;split at h
 .refine eS h λxs h1 h2=>?_;exact Pw ee s σ H _ v vl vu lo hi sl Q I rx hs pl pu ⟨_,xs,rfl,qv.of h1,h2⟩
 .exact Uj ee s σ H _ v vl vu lo hi sl Q I rx hs pl pu ⟨_,rfl,h.1,h.2⟩
 .cases h
def cNo:TO:=λ_ H Q=>Q none H
def aad (t:TE):TO:=λσ H Q=>t σ H λx H1=>match x with|.int i=>Q (some i) H1|_=>False
def UG:PO X none cNo:=Qa
def LF (h:PE X e te):PO X (some e) (aad te):=by
 intro ee s σ H Q I hw;refine gg (h ee s σ H _ I hw) λu s1 h_=>fw h_ λx H1 I1 r1 q1=>?_;cases x with
 |int i=>obtain⟨t,rfl⟩:=r1;exact⟨some i,H1,I1,.int i t,q1⟩
 |_=>exact q1.elim
def Lv:ao V->Hp->VK->Prop:=λvs H Q=>match vs with
 |[.ref p]=>∃ xs,(H p=some (.lst xs)\/H p=some (.tup xs))/\Q (.int xs.length) H
 |[.str z]=>z.length<=sizeLine/\Q (.int z.length) H
 |_=>False
def Qw:jg X (.builtin "len") Lv:=(BY.or BX).imp λvs H Q q=>by
 delta Lv at q;split at q
 .refine eS q λxs h q=>?_;rcases h with h|h
  .exact .inl ⟨_,xs,rfl,.inl<|qv.of h,q⟩
  .exact .inl ⟨_,xs,rfl,.inr<|Cs.of h,q⟩
 .exact .inr ⟨_,rfl,q.1,q.2⟩
 .exact q.elim
def R8:JZ:=λo i v H Q=>match o,i with
 |.ref p,.int k=>∃ xs,H p=some (.lst xs)/\opt (QC xs.length k) λj=>Q (upd H p<|.lst<|xs.set j v)
 |_,_=>False
def setC:RE X R8:=by
 intro ee s σ H o i v ov iv u Q I ro ri rv h;delta R8 at h;split at h
 .refine eS h λxs hx q=>?_;refine eS (gJ q) λj e q=>?_;exact set_list ee s σ H _ _ v ov iv u Q I ro ri rv ⟨_,xs,_,j,rfl,rfl,hx,e,q⟩
 .cases h
def Sb:V->V->Hp->VK->Prop:=λo i H Q=>match o,i with
 |.ref p,.int k=>∃ xs,H p=some (.lst xs)/\0<=k/\opt (xs[k.toNat]?) λv=>Q v H
 |_,_=>False
def getC:aap X Sb:=by
 intro ee s σ H o i ov iv Q I ro ri h;delta Sb at h;split at h
 .refine oy h λxs hx h0 q=>?_;refine eS (gJ q) λv e q=>?_;subst ro;obtain⟨t,rfl⟩:=ri;obtain⟨z,fu,n,r,hl,ho⟩:=I.r8 hx;refine eS (r.get e) λw ew Lm=>?_;have uq:=(mW e).1;have hn:=qR;exact wpAny_getItem_list (⟨_,ho,rfl,n,rfl⟩:s.heap.IsList _ fu.toArray) h0 (by lia) (by simpa using ew) ⟨v,H,I,Lm,q⟩
 .cases h
def ipC (f:Int->Int->Int):RC:=λx y H Q=>match x,y with|.int i,.int j=>Q (.int<|f i j) H|_,_=>False
def Hr:Xg X .Add (ipC λi j=>i+j):=by
 intro ee s σ H x y v u Q I r1 r2 h;delta ipC at h;split at h
 .exact Vy ee s σ H _ _ v u Q I r1 r2 ⟨_,_,rfl,rfl,h⟩
 .cases h
def Oj (n:Nat)(t:EC):TG:=λv σ H Q=>match v with|.ref a=>∃ xs,H a=some (.tup xs)/\xs.length=n/\t xs σ H Q|_=>False
def Ep (t:TG)(u:EC):EC:=λvs σ H Q=>match vs with|v::r=>t v σ H λgL H'=>u r gL H' Q|[]=>False
def Ol:EC:=λvs σ H Q=>match vs with|[]=>Q σ H|_=>False
def AY {t:EC}(hc:X.gE=true)(h:Kw X es t)(hn:(assignEach es X.env).length=n:=by rfl)(Cq:(assignEach es X.env).findIdx? (·.1)=none:=by rfl):PG X (.Tuple es k pos) (Oj n t) :=
 (UK hc h hn Cq).imp λv σ H Q q=>by
  delta Oj at q;split at q
  .obtain⟨xs,a,b,c⟩:=q;exact⟨_,xs,rfl,Cs.of a,b,c⟩
  .exact q.elim
def pd {t:TG}(h1:PG X e t)(h2:Kw X es u)(hs:(assignEach (e::es) X.env).map (·.2)=assign e X.env::(assignEach es X.env).map (·.2):=by rfl):Kw X (e::es) (Ep t u) :=
 (LH h1 h2 hs).imp λv σ H Q q=>by
  delta Ep at q;split at q
  .exact⟨_,_,rfl,q⟩
  .exact q.elim
def xg:Kw X [] Ol:=Qc.imp λv σ H Q q=>by
 delta Ol at q;split at q
 .exact⟨rfl,q⟩
 .exact q.elim
def AV:V->ao V->Hp->VK->Prop:=λx vs H Q=>match x,vs with
 |.str z,[.str y]=>∃ c:Nat,y=⟨#[c]⟩/\Q (.int ((z.cps.toList.count c:Nat):Int)) H
 |_,_=>False
def NY:B7 X "str.count" AV:=L4.imp λx vs H Q q=>by
 delta AV at q;split at q
 .obtain⟨c,rfl,q⟩:=q;exact⟨_,c,rfl,rfl,q⟩
 .exact q.elim
def Sa (K:aa):ao V->Hp->VK->Prop:=λvs H Q=>match vs with
 |[x,.ty T]=>∃ t b,kO K H x t/\W.kitOne K t (.type T)=some b/\Q (.bl b) H
 |_=>False
def sU:jg X (.builtin "isinstance") (Sa X.K):=N7.imp λvs H Q q=>by
 delta Sa at q;split at q
 .obtain⟨t,b,h1,h2,h3⟩:=q;exact⟨_,_,t,b,rfl,h1,h2,h3⟩
 .exact q.elim
def Ff (K:aa):ao V->Hp->VK->Prop:=λvs H Q=>match vs with
 |[.ref p]=>∃ ys,qv K H p ys/\∀ l,H l=none->Q (.ref l) (upd H l<|.lst ys)
 |_=>False
def Sl:jg X (.type "list") (Ff X.K):=BW.imp λvs H Q q=>by
 delta Ff at q;split at q
 .obtain⟨ys,h1,h2⟩:=q;exact⟨_,ys,rfl,.inl h1,h2⟩
 .exact q.elim
def R9:ao V->Hp->VK->Prop:=λvs H Q=>∃ i j,vs=[.int i,.int j]/\Q (.int<|max i j) H
def YE (hc:X.gE=true):jg X (.builtin "max") R9:=(JV hc).imp λvs H Q q=>by
 refine mD q λi j fE q=>?_;subst fE;refine⟨_,_,rfl,?_⟩;have e:(if j>i then j else i)=max i j:=by split<;>lia
 rwa [e]
end
def ph {B:Prop}[Decidable c](h1:c->A)(h2:¬ c->B):if decide c=true then A else B:=by
 by_cases h:c
 .rw[aD (aH h)];exact h1 h
 .rw[az (by simp[h])];exact h2 h
def Hq {B:Prop}[Decidable c](h1:¬ c->A)(h2:c->B):if(true != decide c)=true then A else B:=by
 by_cases h:c
 .rw[az (by simp[h])];exact h2 h
 .rw[aD (by simp[h])];exact h1 h
def DD {B:Prop}[Decidable c](h1:c->A)(h2:¬ c->B):if(false != decide c)=true then A else B:=by
 by_cases h:c
 .rw[aD (by simp[h])];exact h1 h
 .rw[az (by simp[h])];exact h2 h
def Vv {B:Prop}(h1:b=true->A)(h2:b=false->B):if b=true then A else B:=by
 cases b with
 |true=>exact h1 rfl
 |false=>exact h2 rfl
def CNx (n i:Nat)(Pv:Nat->ao V->Hp->Prop)(ys:ao V):VK:=λy H4=>ys.length<sizeLine/\∃ m',m'<n - i/\(m'=n - (i+1)/\i+1<=n/\Pv (i+1) (ys++[y]) H4)
def cnx {n i:Nat}{Pv:Nat->ao V->Hp->Prop}{ys:ao V}{y:V}{H:Hp}(hi:i<n)(hl:ys.length<sizeLine)(p:Pv (i+1) (ys++[y]) H):CNx n i Pv ys y H:=⟨hl,n - (i+1),by lia,rfl,hi,p⟩
def CSk (n i:Nat)(Pv:Nat->ao V->Hp->Prop)(ys:ao V)(H3:Hp):Prop:=∃ m',m'<n - i/\(m'=n - (i+1)/\i+1<=n/\Pv (i+1) ys H3)
end L2
namespace L2
open PySem PySem.Spec PyProof.Rows
structure yw (P:ae)(w:af)(K:aa)(mg:Str->Option ak)(eB:Heap)(x:Str)(k:Nat)(ps:List Str)(sp:Sp):Prop where
 ex:∃ f fd,fA P w K mg eB nr k f fd ps sp/\mg x=some (.ref f)/\W.keepIn K (.ref f)=true/\Binds K fd ps []
def xh (C:yw X.prog X.w X.K X.mg X.eB x k ps sp)(hr:iq k X.A)(hg:Gl X x)(ha:PA X (e::es) t)
 (sY:(x==("__debug__" : Str))=false:=by decide) (he:starEach (e::es) X.env=(false,eval e X.env)::starEach es X.env:=by rfl) (lU:(backTo pos<|starEach es X.env).any (·.1)=false:=by rfl):
 PE X (.Call (.Name x p) (e::es) [] pos) (RZ sp [] E0 t):=by
 refine jX C.ex λf fd F hm hk hb=>?_;exact Hg F hr hg hm hk hb .nil Dj ha sY he lU
def tCut (t u:TS):TS:=λD σ H=>∃ M:St->Hp->Prop,t { D with nx:=M} σ H/\∀ gL H',M gL H'->u D gL H'
def PU {st:Stmt}{rest:ao Stmt}(h1:PS X st t)(h2:yt X rest u):yt X (st::rest) (tCut t u):=by
 intro ee s σ H D I h;refine eS h λM a b=>?_;refine dg (gg (h1 ee s σ H { D with nx:=M} I a) λf s1 q=>?_);cases f with
 | next =>refine mD q λgL H' I' q=>?_;exact h2 ee s1 gL H' D I' (b gL H' q)
 |ret v=>exact q
 |brk=>exact q
 |cont=>exact q
def eY {α:Type}{o:aq α}{k:α->Prop}{v:α}(e:o=some v)(h:k v):opt o k:=by rwa [e]
def OB (b:aj)(H H':Hp):Prop:=∀ c,c≠b->H' c=H c
def OB.refl:OB b H H:=λ_ _=>rfl
theorem OB.upd (h:OB b H H'):OB b H (L2.upd H' b o):=λc n=>by rw[e9 n];exact h c n
def pM:(0:Int)<2147483647:=by decide
def pN:(0:Int)<1000000007:=by decide
def OX (l:ao Nat):Prop:=∀ c∈l,c=111\/c=120
def OX.of (h:l.all (λc=>c==111||c==120)=true):OX l:=λc hc=>by have:=List.all_eq_true.mp h c hc;simpa using this
def r0 (a b:ao Nat):((⟨a.toArray⟩:Str)++(⟨b.toArray⟩:Str))=⟨(a++b).toArray⟩:=by show(⟨a.toArray++b.toArray⟩:Str)=_;congr 1;simp
def YJ (a:ao Nat):(⟨a.toArray⟩:Str).length=a.length:=by simp[Str.length]
def R0 (K:aa):Sp:=λvs H Q _=>∃(a:aj) (ns:ao Int),vs=[.ref a]/\qv K H a (ns.map V.int)/\ns.length<=63/\∀ H',Q (.bl true) H'
def Xa (b:Bool):(false != b)=b:=by cases b<;>rfl
def tne (b:Bool):(true != b)=!b:=by cases b<;>rfl
def iY (K:aa)(T:String):W.kitOne K (.type T) (.type T)=some true:=by delta W.kitOne;simp
def n9 (c:Bool)(h:Heap)(it a:aj)(k:Nat):Prop:=if c=true then h.IsTupleIter it a k else h.IsListIter it a k
def oA (c:Bool)(h:Heap)(a:aj)(fu:Array ak):Prop:=if c=true then h.IsTuple a fu else h.IsList a fu
theorem n9.extBut {c:Bool}{h h':Heap}{it a b:aj}{k:Nat}(x:n9 c h it a k)(hs:Heap.ExtBut b h h')(VR:it≠b):n9 c h' it a k:=by
 cases c with
 |true=>exact Heap.IsTupleIter.extBut x hs VR
 |false=>exact Heap.IsListIter.extBut x hs VR
theorem oA.extBut {c:Bool}{h h':Heap}{a b:aj}{fu:Array ak}(x:oA c h a fu)(hs:Heap.ExtBut b h h')(VR:a≠b):oA c h' a fu:=by
 cases c with
 |true=>exact Heap.IsTuple.extBut x hs VR
 |false=>exact Heap.IsList.extBut x hs VR
def oA.lt {c:Bool}{h:Heap}{a:aj}{fu:Array ak}(x:oA c h a fu):a≠h.objs.size:=by
 cases c with
 |true=>let ⟨o,e,_⟩:=x;exact aF (kG e)
 |false=>let ⟨o,e,_⟩:=x;exact aF (kG e)
def n9.ex {c:Bool}{h:Heap}{it a:aj}{k:Nat}(x:n9 c h it a k):∃ o,h.get? it=some o:=by
 cases c with
 |true=>let ⟨o,e,_⟩:=x;exact⟨o,e⟩
 |false=>let ⟨o,e,_⟩:=x;exact⟨o,e⟩
theorem n9.data {c:Bool}{h:Heap}{it a:aj}{k:Nat}(x:n9 c h it a k):∃ o,h.get? it=some o/\∀ v,o.data≠.cell v:=by
 cases c with
 |true=>let ⟨o,e,_,d⟩:=x;exact⟨o,e,λv z=>by rw[d]at z;cases z⟩
 |false=>let ⟨o,e,_,d⟩:=x;exact⟨o,e,λv z=>by rw[d]at z;cases z⟩
def n9.at {c:Bool}{h h':Heap}{it a:aj}{k:Nat}(x:n9 c h it a k)(e:∀ o,h.get? it=some o->h'.get? it=some o):n9 c h' it a k:=by
 cases c with
 |true=>let ⟨o,q,r⟩:=x;exact⟨o,e o q,r⟩
 |false=>let ⟨o,q,r⟩:=x;exact⟨o,e o q,r⟩
section
variable {prog:ae}{w:af}{A:Around}{E:ak->ai->Prop}{s:ai}
def FD {it t:aj}{i:Nat}{items}{x:ak}{Q:ak->ai->Prop}(hit:s.heap.IsTupleIter it t i)(ht:s.heap.IsTuple t items)(hx:items[i]?=some x)
 (hQ:∀ h',h'.IsTupleIter it t (i+1)->Heap.SameBut it s.heap h'->Q x {s with heap:=h'}):wpAny (model prog w) A (Builtin.SmallTypes.nextOf<|.ref it) Q E s:=by
 refine oy (id hit) λo ho hc hd=>?_;obtain⟨ol,hol,_,nl,hdl⟩:=ht;refine fb<|bS hit.typeIs cy<|cw cy hit.typeIs F.entry_tuple_iterator_next ?_<|F.args_tuple_iterator_next_1 _;show wpAny _ _ (field (.ref it) 0>>=_) _ _ s;refine fb<|aX ho hd (x:=.ref t) rfl ?_;refine fb<|aX ho hd (x:=.int i 0) rfl ?_;refine fb<|bI hol hdl ?_;simp only[VT,hx];refine fb (c8 ho hd (by simp)<|av ⟨x,rfl,av<|hQ _ ?_<|Heap.SameBut.update ..⟩);exact⟨_,bt _ ho<|Obj.isFreed_of_fields<|dE hd _,(Obj.cls_mapFields ..).trans hc,by rw[dE hd];simp[rawInt]⟩
def Jk {it t:aj}{i:Nat}{items}{Q:ak->ai->Prop}(hh:A.handled=none)(hit:s.heap.IsTupleIter it t i)(ht:s.heap.IsTuple t items)(hx:items[i]?=none)
 (hE:∀ h' e,Heap.ExtBut it s.heap h'->(∃ o,h'.get? e=some o/\o.cls=.type "StopIteration")->E (.ref e) {s with heap:=h'}):wpAny (model prog w) A (Builtin.SmallTypes.nextOf<|.ref it) Q E s:=by
 refine oy (id hit) λo ho hc hd=>?_;obtain⟨ol,hol,_,nl,hdl⟩:=ht;refine fb<|bS (name:=Str.ofString "__next__") hit.typeIs cy<|cw cy hit.typeIs F.entry_tuple_iterator_next ?_<|F.args_tuple_iterator_next_1 _;show wpAny _ _ (field (.ref it) 0>>=_) _ _ s;refine fb<|aX ho hd (x:=.ref t) rfl ?_;refine fb<|aX ho hd (x:=.int i 0) rfl ?_;refine fb<|bI hol hdl ?_;simp only[VT,hx];refine fb (wpAny_rule<|fb<|c8 ho hd (by simp) ?_);refine fb ?_;refine fb (bw ?_<|by size_fits);refine fb (m:=firstArgMember _ _) (dN (a:=Value.none) (by first|rfl|(simp only[firstArgMember];rfl)) ?_);refine bw ?_ (by size_fits);refine fb<|wpAny_handled ?_;first|rw[show A.in1.handled=none from hh]|rw[hh]
 refine fb<|av<|wpAny_throw ?_;exact hE _ _ (((Heap.SameBut.update ..).extBut.push _).push _) ⟨_,aC _ rfl,rfl⟩
def mB {c:Bool}{it l:aj}{i:Nat}{items:Array ak}{x:ak}{Q:ak->ai->Prop}(hit:n9 c s.heap it l i)(hl:oA c s.heap l items)(hx:items[i]?=some x)
 (hQ:∀ h',n9 c h' it l (i+1)->Heap.SameBut it s.heap h'->Q x {s with heap:=h'}):wpAny (model prog w) A (Builtin.SmallTypes.nextOf<|.ref it) Q E s:=by
 cases c with
 |true=>exact FD hit hl hx hQ
 |false=>exact wpAny_nextOf_list_item hit hl hx hQ
def rP {c:Bool}{it l:aj}{i:Nat}{items:Array ak}{Q:ak->ai->Prop}(hh:A.handled=none)(hit:n9 c s.heap it l i)(hl:oA c s.heap l items)(hx:items[i]?=none)
 (hE:∀ h' e,Heap.ExtBut it s.heap h'->(∃ o,h'.get? e=some o/\o.cls=.type "StopIteration")->E (.ref e) {s with heap:=h'}):wpAny (model prog w) A (Builtin.SmallTypes.nextOf<|.ref it) Q E s:=by
 cases c with
 |true=>exact Jk hh hit hl hx hE
 |false=>exact wpAny_nextOf_list_end hh hit hl hx hE
def ZK (z TO i1 i2:aj)(h h':Heap):Prop:=∀ d o,d≠z->d≠TO->d≠i1->d≠i2->h.get? d=some o->h'.get? d=some o
def ZK.trans {z TO i1 i2:aj}{h h1 h2:Heap}(a:ZK z TO i1 i2 h h1)(b:ZK z TO i1 i2 h1 h2):ZK z TO i1 i2 h h2:=λd o q1 q2 q3 q4 e=>b d o q1 q2 q3 q4 (a d o q1 q2 q3 q4 e)
abbrev qa (h:Heap)(z TI TO:aj)(f:ak)(bb:Bool):Prop:=h.get? z=some { cls:=.type "zip",dict:=none,data:=.fields #[f,.bool bb,.bool false,.ref TI,.ref TO],slots:=#[]}
structure ZG (c:Bool)(z TI TO i1 i2 l1 l2:aj)(f:ak)(bb:Bool)(a b:ak)(k1 k2:Nat)(xs ys:Array ak)(h:Heap):Prop where
 z:qa h z TI TO f bb
 ti:IsPair h TI (.ref i1) (.ref i2)
 to:IsPair h TO a b
 n1:n9 c h i1 l1 k1
 n2:n9 c h i2 l2 k2
 q1:oA c h l1 xs
 q2:oA c h l2 ys
section
variable {c:Bool}{z TI TO i1 i2 l1 l2:aj}{f f' a b x y:ak}{bb bb':Bool}{k1 k2:Nat}{xs ys:Array ak}{h h':Heap}
def ZG.mz (S:ZG c z TI TO i1 i2 l1 l2 f bb a b k1 k2 xs ys h)(D:ZipApart z TI TO i1 i2 l1 l2)(e:qa h' z TI TO f' bb')(k:Heap.ExtBut z h h'):ZG c z TI TO i1 i2 l1 l2 f' bb' a b k1 k2 xs ys h' :=
 ⟨e,k _ _ D.TIz S.ti,k _ _ D.TOz S.to,S.n1.extBut k D.i1z,S.n2.extBut k D.i2z,S.q1.extBut k D.l1z,S.q2.extBut k D.l2z⟩
def ZG.m1 {j:Nat}(S:ZG c z TI TO i1 i2 l1 l2 f bb a b k1 k2 xs ys h)(D:ZipApart z TI TO i1 i2 l1 l2)(e:n9 c h' i1 l1 j)(k:Heap.ExtBut i1 h h'):ZG c z TI TO i1 i2 l1 l2 f bb a b j k2 xs ys h' :=
 ⟨k _ _ D.i1z.symm S.z,k _ _ D.TIi1 S.ti,k _ _ D.TOi1 S.to,e,S.n2.extBut k D.i12.symm,S.q1.extBut k D.l1i1,S.q2.extBut k D.l2i1⟩
def ZG.m2 {j:Nat}(S:ZG c z TI TO i1 i2 l1 l2 f bb a b k1 k2 xs ys h)(D:ZipApart z TI TO i1 i2 l1 l2)(e:n9 c h' i2 l2 j)(k:Heap.ExtBut i2 h h'):ZG c z TI TO i1 i2 l1 l2 f bb a b k1 j xs ys h' :=
 ⟨k _ _ D.i2z.symm S.z,k _ _ D.TIi2 S.ti,k _ _ D.TOi2 S.to,S.n1.extBut k D.i12,e,S.q1.extBut k D.l1i2,S.q2.extBut k D.l2i2⟩
def ZG.mo (S:ZG c z TI TO i1 i2 l1 l2 f bb a b k1 k2 xs ys h)(D:ZipApart z TI TO i1 i2 l1 l2)(e:IsPair h' TO x y)(k:Heap.ExtBut TO h h'):ZG c z TI TO i1 i2 l1 l2 f bb x y k1 k2 xs ys h' :=
 ⟨k _ _ D.TOz.symm S.z,k _ _ D.TITO S.ti,e,S.n1.extBut k D.TOi1.symm,S.n2.extBut k D.TOi2.symm,S.q1.extBut k D.l1TO,S.q2.extBut k D.l2TO⟩
theorem ZG.push (S:ZG c z TI TO i1 i2 l1 l2 f bb a b k1 k2 xs ys h)(o:Obj):ZG c z TI TO i1 i2 l1 l2 f bb a b k1 k2 xs ys (h.push o) :=
 ⟨kJ _ S.z,kJ _ S.ti,kJ _ S.to,S.n1.at λ_ e=>kJ _ e,S.n2.at λ_ e=>kJ _ e,
  S.q1.extBut (λ_ _ _ e=>kJ _ e) (S.q1.lt),S.q2.extBut (λ_ _ _ e=>kJ _ e) (S.q2.lt)⟩
def wu (k:Heap.ExtBut z h h'):ZK z TO i1 i2 h h':=λd o q _ _ _ e=>k d o q e
def Tv (k:Heap.ExtBut TO h h'):ZK z TO i1 i2 h h':=λd o _ q _ _ e=>k d o q e
def Io (k:Heap.ExtBut i1 h h'):ZK z TO i1 i2 h h':=λd o _ _ q _ e=>k d o q e
def O4 (k:Heap.ExtBut i2 h h'):ZK z TO i1 i2 h h':=λd o _ _ _ q e=>k d o q e
end
section
variable {c:Bool}{z TI TO i1 i2 l1 l2:aj}{k k1 k2:Nat}{xs ys:Array ak}{x y a b f:ak}{bb:Bool}
def u3 {a:aj}{Q:aq Obj->ai->Prop}(h:Q (s.heap.get? a) s):wpAny (model prog w) A (loadIfAlive a) Q E s:=λΓ p _=>by exact h
def Hx {Q:Bool->ai->Prop}(hz:qa s.heap z TI TO f bb)(hf:f=.none\/∃ T0:aj,f=rawInt T0/\s.heap.get? T0=none)(q:Q true s):wpAny (model prog w) A (Builtin.SmallTypes.ownedTupleIsFree<|.ref z) Q E s:=by
 rcases hf with rfl|⟨T0,rfl,hd⟩
 .exact fb (aX hz rfl rfl (av q))
 .refine fb<|aX hz rfl rfl ?_;show wpAny _ _ (loadIfAlive T0>>=_) _ _ s;refine fb<|u3 ?_;rw[hd];exact av q
def HZ {Q:Bool->ai->Prop}{T0:aj}{o:Obj}(hz:qa s.heap z TI TO (rawInt T0) bb)(hd:s.heap.get? T0=some o)(q:∀ g,qa g z TI TO (rawInt T0) true->Heap.SameBut z s.heap g->Q false { s with heap:=g}):wpAny (model prog w) A (Builtin.SmallTypes.ownedTupleIsFree<|.ref z) Q E s:=by
 refine fb<|aX hz rfl rfl ?_;show wpAny _ _ (loadIfAlive T0>>=_) _ _ s;refine fb<|u3 ?_;rw[hd];refine fb<|aX hz rfl rfl ?_;cases bb with
 |true=>exact av (q s.heap hz ⟨rfl,λ_ _=>rfl⟩)
 |false=>exact fb (b8 hz (by simp) λg e t=>av<|q g e t)
def Aj {Q:ak->ai->Prop}(D:ZipApart z TI TO i1 i2 l1 l2)(S:ZG c z TI TO i1 i2 l1 l2 f bb a b k1 k2 xs ys s.heap)(hf:f=.none\/∃ T0:aj,f=rawInt T0/\s.heap.get? T0=none)(hx:xs[k1]?=some x)(hy:ys[k2]?=some y)
 (hQ:∀ h',ZG c z TI TO i1 i2 l1 l2 (rawInt s.heap.objs.size) false x y (k1+1) (k2+1) xs ys h'->IsPair h' s.heap.objs.size x y->h'.objs.size=s.heap.objs.size+1->ZK z TO i1 i2 s.heap h'->Q (.ref s.heap.objs.size) {s with heap:=h'}):
 wpAny (model prog w) A (Builtin.«zip.__next__» ⟨[.ref z],[]⟩) (λfin s'=>∃ v,fin=.done (.ret v)/\Q v s') E s:=by
 refine fb<|av<|fb<|aX S.z rfl (x:=.bool false) rfl (fb<|aX S.z rfl (x:=.ref TI) rfl (fb<|bI S.ti rfl ?_));refine fb (m:=Builtin.SmallTypes.ownedTupleIsFree<|.ref z)<|Hx S.z hf ?_;refine fb (wpAny_rule<|fb<|aX S.z rfl (x:=.ref TO) rfl (fb<|b8 S.z (by simp) λg1 e1 t1=>?_));have S1:=S.mz D (f':=.ellipsis) (bb':=bb) e1 t1.extBut;refine fb ?_;rw[show(#[Value.ref i1,Value.ref i2]:Array ak).toList.zipIdx=[(.ref i1,0),(.ref i2,1)]from rfl,bY];refine fb (fb<|wpAny_onRaise<|fb<|mB S1.n1 S1.q1 hx λg2 e2 t2=>av ?_);have S2:=S1.m1 D e2 t2.extBut;refine fb (bI S2.to rfl (fb<|wpAny_updateSeq_pair S2.to λg3 e3 t3=>fb<|wpAny_letGo<|av ?_));have S3:=S2.mo D (x:=x) (y:=b) e3 t3.extBut;dsimp only;rw[bY];refine fb (fb<|wpAny_onRaise<|fb<|mB S3.n2 S3.q2 hy λg4 e4 t4=>av ?_);have S4:=S3.m2 D e4 t4.extBut;refine fb (bI S4.to rfl (fb<|wpAny_updateSeq_pair S4.to λg5 e5 t5=>fb<|wpAny_letGo<|av ?_));have S5:=S4.mo D (x:=x) (y:=y) e5 t5.extBut;dsimp only;rw[List.forIn_nil];have sz:g5.objs.size=s.heap.objs.size:=t5.1.trans<|t4.1.trans<|t3.1.trans<|t2.1.trans t1.1;refine av<|fb<|bI S5.to rfl (fb<|wpAny_newTuple ?_);have S6:=S5.push { cls:=.type "tuple",data:=.seq #[x,y]};refine fb (fb<|b8 S6.z (by simp) λg7 e7 t7=>?_);have S7:=S6.mz D (f':=rawInt g5.objs.size) (bb':=bb) e7 t7.extBut;refine b8 S7.z (by simp) λg8 e8 t8=>?_;have S8:=S7.mz D (f':=rawInt g5.objs.size) (bb':=false) e8 t8.extBut;have zlt:g5.objs.size≠z:=bh<|kG S5.z;have hT:IsPair g8 g5.objs.size x y:=t8.extBut _ _ zlt<|t7.extBut _ _ zlt<|aC _ rfl;have z8:g8.objs.size=s.heap.objs.size+1:=by rw[t8.1,t7.1,bq,sz]
 have kk:ZK z TO i1 i2 s.heap g8:=((((((wu t1.extBut).trans<|Io t2.extBut).trans<|Tv t3.extBut).trans<|O4 t4.extBut).trans<|Tv t5.extBut).trans λd o _ _ _ _ e=>kJ _ e).trans<|(wu t7.extBut).trans<|wu t8.extBut;rw[sz]at S8 hT;refine av ⟨_,rfl,?_⟩;rw[sz];exact hQ g8 S8 hT z8 kk
def O5 {Q:ak->ai->Prop}{T0:aj}{o:Obj}(D:ZipApart z TI TO i1 i2 l1 l2)(S:ZG c z TI TO i1 i2 l1 l2 (rawInt T0) bb a b k1 k2 xs ys s.heap)(hd:s.heap.get? T0=some o)(hx:xs[k1]?=some x)(hy:ys[k2]?=some y)
 (hQ:∀ h',ZG c z TI TO i1 i2 l1 l2 (rawInt T0) true a b (k1+1) (k2+1) xs ys h'->IsPair h' s.heap.objs.size x y->h'.objs.size=s.heap.objs.size+1->ZK z TO i1 i2 s.heap h'->Q (.ref s.heap.objs.size) {s with heap:=h'}):
 wpAny (model prog w) A (Builtin.«zip.__next__» ⟨[.ref z],[]⟩) (λfin s'=>∃ v,fin=.done (.ret v)/\Q v s') E s:=by
 refine fb<|av<|fb<|aX S.z rfl (x:=.bool false) rfl (fb<|aX S.z rfl (x:=.ref TI) rfl (fb<|bI S.ti rfl ?_));refine fb (HZ S.z hd λg1 e1 t1=>?_);have S1:=S.mz D (bb':=true) e1 t1.extBut;show wpAny _ _ (forIn (#[Value.ref i1,Value.ref i2]:Array ak) (none,#[]) _>>=_) _ _ _;rw[<- Array.forIn_toList];refine fb ?_;rw[show(#[Value.ref i1,Value.ref i2]:Array ak).toList=[.ref i1,.ref i2]from rfl,bY];refine fb (fb<|bo<|fb<|mB (s:={s with heap:=g1}) S1.n1 S1.q1 hx λg2 e2 t2=>av<|av ?_);have S2:=S1.m1 D e2 t2.extBut;dsimp only;rw[bY];refine fb (fb<|bo<|fb<|mB (s:={s with heap:=g2}) S2.n2 S2.q2 hy λg3 e3 t3=>av<|av ?_);have S3:=S2.m2 D e3 t3.extBut;dsimp only;rw[List.forIn_nil];refine av (fb<|wpAny_newTuple (av ⟨_,rfl,?_⟩) (by show 2<=sizeLine;decide));have sz:g3.objs.size=s.heap.objs.size:=t3.1.trans<|t2.1.trans t1.1;have S4:=S3.push { cls:=.type "tuple",data:=.seq #[x,y]};have hT:IsPair (g3.push { cls:=.type "tuple",data:=.seq #[x,y]}) g3.objs.size x y:=aC _ rfl;have z4:(g3.push { cls:=.type "tuple",data:=.seq #[x,y]}).objs.size=s.heap.objs.size+1:=by rw[bq,sz]
 have kk:ZK z TO i1 i2 s.heap (g3.push { cls:=.type "tuple",data:=.seq #[x,y]}):=(((wu t1.extBut).trans<|Io t2.extBut).trans<|O4 t3.extBut).trans λd o _ _ _ _ e=>kJ _ e;rw[sz]at hT ⊢
 exact hQ _ S4 hT z4 kk
def ZZ (c:Bool)(z TI TO i1 i2 l1 l2:aj)(k:Nat)(h:Heap):Prop:=∃ f bb a b,qa h z TI TO f bb/\(f=.none\/∃ T0:aj,f=rawInt T0)/\IsPair h TI (.ref i1) (.ref i2)/\IsPair h TO a b/\n9 c h i1 l1 k/\n9 c h i2 l2 k
def ZZ.keep {k:Nat}{h h':Heap}(Z:ZZ c z TI TO i1 i2 l1 l2 k h)(kp:∀ b∈[z,TI,TO,i1,i2],∀ o,h.get? b=some o->h'.get? b=some o):ZZ c z TI TO i1 i2 l1 l2 k h':=by refine y6 Z λf bb a b h1 h2 h3 h4 h5 h6=>?_;exact⟨f,bb,a,b,kp z (by simp) _ h1,h2,kp TI (by simp) _ h3,kp TO (by simp) _ h4,h5.at λo e=>kp i1 (by simp) o e,h6.at λo e=>kp i2 (by simp) o e⟩
def pG {Q:Fin->ai->Prop}(hh:A.handled=none)(D:ZipApart z TI TO i1 i2 l1 l2)(S:ZG c z TI TO i1 i2 l1 l2 f bb a b k1 k2 xs ys s.heap)(hf:f=.none\/∃ T0:aj,f=rawInt T0/\s.heap.get? T0=none)(hx:xs[k1]?=none\/ys[k2]?=none)
 (hE:∀ h' e,ZK z TO i1 i2 s.heap h'->(∃ o,h'.get? e=some o/\o.cls=.type "StopIteration")->E (.ref e) {s with heap:=h'}):
 wpAny (model prog w) A (Builtin.«zip.__next__» ⟨[.ref z],[]⟩) Q E s:=by
 refine fb<|av<|fb<|aX S.z rfl (x:=.bool false) rfl (fb<|aX S.z rfl (x:=.ref TI) rfl (fb<|bI S.ti rfl ?_));refine fb<|Hx S.z hf ?_;refine fb (wpAny_rule<|fb<|aX S.z rfl (x:=.ref TO) rfl (fb<|b8 S.z (by simp) λg1 e1 t1=>?_));have S1:=S.mz D (f':=.ellipsis) (bb':=bb) e1 t1.extBut;refine fb ?_;rw[show(#[Value.ref i1,Value.ref i2]:Array ak).toList.zipIdx=[(.ref i1,0),(.ref i2,1)]from rfl,bY];cases ex:xs[k1]? with
 | none =>
  refine fb (fb<|wpAny_onRaise<|fb<|rP hh S1.n1 S1.q1 ex λg2 e t2 he=>?_);refine eS he λoe VF Zj=>?_;have ON:qa g2 z TI TO .ellipsis bb:=t2 _ _ D.i1z.symm S1.z;have hez:e≠z:=λq=>by subst q;rw[ON]at VF;cases VF;simp at Zj
  exact b8 ON (by simp) λg3 _ t3=>hE g3 e (((wu t1.extBut).trans<|Io t2).trans<|wu t3.extBut) ⟨oe,t3.extBut _ _ hez VF,Zj⟩
 | some x =>
  have hy:ys[k2]?=none:=by
   rcases hx with q|q
   .rw[ex]at q;cases q
   .exact q
  refine fb (fb<|wpAny_onRaise<|fb<|mB S1.n1 S1.q1 ex λg2 e2 t2=>av ?_);have S2:=S1.m1 D e2 t2.extBut;refine fb (bI S2.to rfl (fb<|wpAny_updateSeq_pair S2.to λg3 e3 t3=>fb<|wpAny_letGo<|av ?_));have S3:=S2.mo D (x:=x) (y:=b) e3 t3.extBut;dsimp only;rw[bY];refine fb (fb<|wpAny_onRaise<|fb<|rP hh S3.n2 S3.q2 hy λg4 e t4 he=>?_);refine eS he λoe VF Zj=>?_;have ON:qa g4 z TI TO .ellipsis bb:=t4 _ _ D.i2z.symm S3.z;have hez:e≠z:=λq=>by subst q;rw[ON]at VF;cases VF;simp at Zj
  exact b8 ON (by simp) λg5 _ t5=>hE g5 e ((((((wu t1.extBut).trans<|Io t2.extBut).trans<|Tv t3.extBut).trans<|O4 t4)).trans<|wu t5.extBut) ⟨oe,t5.extBut _ _ hez VF,Zj⟩
def Ai {Q:Fin->ai->Prop}{T0:aj}{o:Obj}(hh:A.handled=none)(D:ZipApart z TI TO i1 i2 l1 l2)(S:ZG c z TI TO i1 i2 l1 l2 (rawInt T0) bb a b k1 k2 xs ys s.heap)(hd:s.heap.get? T0=some o)(hx:xs[k1]?=none\/ys[k2]?=none)
 (hE:∀ h' e,ZK z TO i1 i2 s.heap h'->(∃ o,h'.get? e=some o/\o.cls=.type "StopIteration")->E (.ref e) {s with heap:=h'}):
 wpAny (model prog w) A (Builtin.«zip.__next__» ⟨[.ref z],[]⟩) Q E s:=by
 refine fb<|av<|fb<|aX S.z rfl (x:=.bool false) rfl (fb<|aX S.z rfl (x:=.ref TI) rfl (fb<|bI S.ti rfl ?_));refine fb (HZ S.z hd λg1 e1 t1=>?_);have S1:=S.mz D (bb':=true) e1 t1.extBut;show wpAny _ _ (forIn (#[Value.ref i1,Value.ref i2]:Array ak) (none,#[]) _>>=_) _ _ _;rw[<- Array.forIn_toList];refine fb ?_;rw[show(#[Value.ref i1,Value.ref i2]:Array ak).toList=[.ref i1,.ref i2]from rfl,bY];cases ex:xs[k1]? with
 |none=>exact fb (fb<|bo<|fb<|rP hh S1.n1 S1.q1 ex λg2 e t2 he=>hE g2 e ((wu t1.extBut).trans<|Io t2) he)
 | some x =>
  have hy:ys[k2]?=none:=by
   rcases hx with q|q
   .rw[ex]at q;cases q
   .exact q
  refine fb (fb<|bo<|fb<|mB (s:={s with heap:=g1}) S1.n1 S1.q1 ex λg2 e2 t2=>av<|av ?_);have S2:=S1.m1 D e2 t2.extBut;dsimp only;rw[bY];exact fb (fb<|bo<|fb<|rP (s:={s with heap:=g2}) hh S2.n2 S2.q2 hy λg3 e t3 he=>hE g3 e (((wu t1.extBut).trans<|Io t2.extBut).trans<|O4 t3) he)
def O2 {Q:ak->ai->Prop}(D:ZipApart z TI TO i1 i2 l1 l2)(Z:ZZ c z TI TO i1 i2 l1 l2 k s.heap)(q1:oA c s.heap l1 xs)(q2:oA c s.heap l2 ys)(hx:xs[k]?=some x)(hy:ys[k]?=some y)
 (hQ:∀ h',ZZ c z TI TO i1 i2 l1 l2 (k+1) h'->oA c h' l1 xs->oA c h' l2 ys->IsPair h' s.heap.objs.size x y->h'.objs.size=s.heap.objs.size+1->ZK z TO i1 i2 s.heap h'->Q (.ref s.heap.objs.size) {s with heap:=h'}):
 wpAny (model prog w) A (Builtin.«zip.__next__» ⟨[.ref z],[]⟩) (λfin s'=>∃ v,fin=.done (.ret v)/\Q v s') E s:=by
 refine y6 Z λf bb a b h1 h2 h3 h4 h5 h6=>?_;rcases h2 with rfl|⟨T0,rfl⟩
 .exact Aj D ⟨h1,h3,h4,h5,h6,q1,q2⟩ (.inl rfl) hx hy λh' S=>hQ h' ⟨_,_,_,_,S.z,.inr ⟨_,rfl⟩,S.ti,S.to,S.n1,S.n2⟩ S.q1 S.q2
 .cases hd:s.heap.get? T0 with
  |none=>exact Aj D ⟨h1,h3,h4,h5,h6,q1,q2⟩ (.inr ⟨T0,rfl,hd⟩) hx hy λh' S=>hQ h' ⟨_,_,_,_,S.z,.inr ⟨_,rfl⟩,S.ti,S.to,S.n1,S.n2⟩ S.q1 S.q2
  |some o=>exact O5 D ⟨h1,h3,h4,h5,h6,q1,q2⟩ hd hx hy λh' S=>hQ h' ⟨_,_,_,_,S.z,.inr ⟨_,rfl⟩,S.ti,S.to,S.n1,S.n2⟩ S.q1 S.q2
def O3 {Q:Fin->ai->Prop}(hh:A.handled=none)(D:ZipApart z TI TO i1 i2 l1 l2)(Z:ZZ c z TI TO i1 i2 l1 l2 k s.heap)(q1:oA c s.heap l1 xs)(q2:oA c s.heap l2 ys)(hx:xs[k]?=none\/ys[k]?=none)
 (hE:∀ h' e,ZK z TO i1 i2 s.heap h'->(∃ o,h'.get? e=some o/\o.cls=.type "StopIteration")->E (.ref e) {s with heap:=h'}):
 wpAny (model prog w) A (Builtin.«zip.__next__» ⟨[.ref z],[]⟩) Q E s:=by
 refine y6 Z λf bb a b h1 h2 h3 h4 h5 h6=>?_;rcases h2 with rfl|⟨T0,rfl⟩
 .exact pG hh D ⟨h1,h3,h4,h5,h6,q1,q2⟩ (.inl rfl) hx hE
 .cases hd:s.heap.get? T0 with
  |none=>exact pG hh D ⟨h1,h3,h4,h5,h6,q1,q2⟩ (.inr ⟨T0,rfl,hd⟩) hx hE
  |some o=>exact Ai hh D ⟨h1,h3,h4,h5,h6,q1,q2⟩ hd hx hE
def Ah {Q:aq ak->ai->Prop}(hz:qa s.heap z TI TO f bb)(h:wpAny (model prog w) A.in1 (Builtin.«zip.__next__» ⟨[.ref z],[]⟩) (λfin s'=>∃ v,fin=.done (.ret v)/\Q (some v) s') (λe s'=>(∃ o,∃ a,e=.ref a/\s'.heap.get? a=some o/\o.cls=.type "StopIteration")/\Q none s') s):wpAny (model prog w) A (pyNext<|.ref z) Q E s:=by have ty:s.TypeIs (.ref z) "zip":=⟨_,hz,rfl⟩;refine fb (wpAny_attempt<|bS ty F.slot_zip_next<|cw F.slot_zip_next ty F.entry_zip_next (bf h (λfin s' h_=>eS h_ λv e q=>⟨v,e,av q⟩) λe s' ⟨⟨o,a,he,ho,hc⟩,q⟩=>?_)<|F.args_zip_next_1 _);subst he;exact fb (wpAny_isInstance ⟨o,ho,hc⟩ isSubtype_stop<|av q)
end
end
def ED (c:Bool)(H:Hp)(a:aj)(xs:ao V):Prop:=if c=true then H a=some (.tup xs)else H a=some (.lst xs)
def ED.inj {c:Bool}{H:Hp}{a:aj}{xs ys:ao V}(h:ED c H a xs)(h':ED c H a ys):xs=ys:=by
 cases c with
 |true=>have h1:H a=some (.tup xs):=h;have h2:H a=some (.tup ys):=h';rw[h1]at h2;cases h2;rfl
 |false=>have h1:H a=some (.lst xs):=h;have h2:H a=some (.lst ys):=h';rw[h1]at h2;cases h2;rfl
def ED.ex {c:Bool}{H:Hp}{a:aj}{xs:ao V}(h:ED c H a xs):∃ o,H a=some o:=by
 cases c with
 |true=>exact⟨_,h⟩
 |false=>exact⟨_,h⟩
def ED.val {X:Cx}{ee:ao (aj×Obj)}{σ:St}{H:Hp}{s:ai}{c:Bool}{a:aj}{xs:ao V}(I:Inv X ee σ H s)(h:ED c H a xs):∃ fu:ao ak,fH xs fu/\oA c s.heap a fu.toArray:=by
 cases c with
 | true =>obtain⟨_,fu,r,p⟩:=(I.fB a _ h);exact⟨fu,r,p⟩
 | false =>obtain⟨_,fu,n,r,_,e⟩:=I.r8 h;exact⟨fu,r,⟨_,e,rfl,n,rfl⟩⟩
def Itz (c:Bool)(a1 a2:aj):It :=
 ⟨λi H=>∃ xs ys x y,ED c H a1 xs/\ED c H a2 ys/\xs[i]?=some x/\ys[i]?=some y,
  λi H v H'=>∃ T x y,v=.ref T/\H T=none/\H'=upd H T (.tup [x,y])/\(∀ xs,ED c H a1 xs->xs[i]?=some x)/\(∀ ys,ED c H a2 ys->ys[i]?=some y),
  λi H=>∃ xs ys,ED c H a1 xs/\ED c H a2 ys/\(xs.length<=i\/ys.length<=i)⟩
section
variable {X:Cx}{ee:ao (aj×Obj)}{σ:St}{H:Hp}{s:ai}
def Inv.KQ {ch:ao aj}{h'':Heap}{x y:V}{u v:ak}(I:Inv X ee σ H s)(fr:∀ b∈ch,nk X ee H b)(FK:∀ b o,b∉ch->s.heap.get? b=some o->h''.get? b=some o)(hT':IsPair h'' s.heap.objs.size u v)(ru:fM x u)(rv:fM y v):
 Inv X ee σ (upd H s.heap.objs.size<|.tup [x,y]) {s with heap:=h''}:=by
 have hn:=I.fB.fresh<|au _;refine I.step (g':=s.gens) (d':=s.drawn) (t':=s.toks) (h':=h'') (ch:=ch) (λb hb=>?_) (λb o _ _ hb e _=>FK b o hb e) (λb o _ _ hb e _=>⟨o.slots,FK b o hb e⟩)
  (λb o hb e n=>by rw[e9 (aF<|kG e)];exact n) (λb o hb e=>⟨o,FK b o hb e⟩)
  (λb zs e=>by rw[e9 (fS e hn)];exact e) (λb o u e=>by rw[e9 (fS e hn)];exact e) (λb ps e=>⟨#[],by rw[e9 (fS e hn),e];simp⟩) (λm hm=>?_) (λb o e=>?_) I.bare
 .refine rf (fr b hb) λf0 f1 f2 f3 f4 f5=>?_;exact⟨f3,f1,f4,f5⟩
 .refine Nt hm λo es ep ho rr=>?_;exact⟨o,es,ep,FK _ o (λq=>(fr _ q).2.1 rfl) ho,rr⟩
 .by_cases hb:b=s.heap.objs.size
  .subst hb;rw[eZ]at e;cases e;exact⟨by show 2<=sizeLine;decide,[u,v],.cons ru<|.cons rv .nil,⟨_,hT',rfl,0,rfl⟩⟩
  .rw[e9 hb]at e;refine(I.fB b o e).uu (λd v' hd q=>FK d v' (λhm=>?_) q) (λd q=>by rw[e9 (fS q hn)];exact q) λd zs q=>by rw[e9 (fS q hn)];exact q
   have nn:=(fr d hm).1;rcases hd with rfl|hd
   .rw[nn]at e;cases e
   .rw[nn]at hd;cases hd
def Inv.KR {ch:ao aj}{h'':Heap}(I:Inv X ee σ H s)(fr:∀ b∈ch,nk X ee H b)(FK:∀ b o,b∉ch->s.heap.get? b=some o->h''.get? b=some o):Inv X ee σ H { s with heap:=h''}:=by
 refine I.step (g':=s.gens) (d':=s.drawn) (t':=s.toks) (h':=h'') (λb hb=>?_) (λb o _ _ hb e _=>FK b o hb e) (λb o _ _ hb e _=>⟨o.slots,FK b o hb e⟩)
  (λb o hb e n=>n) (λb o hb e=>⟨o,FK b o hb e⟩) (λb zs e=>e) (λb o u e=>e) (λb ps e=>⟨#[],by rw[e];simp⟩) (λm hm=>?_) (λb o e=>?_) I.bare
 .refine rf (fr b hb) λf0 f1 f2 f3 f4 f5=>?_;exact⟨f3,f1,f4,f5⟩
 .refine Nt hm λo es ep ho rr=>?_;exact⟨o,es,ep,FK _ o (λq=>(fr _ q).2.1 rfl) ho,rr⟩
 .refine(I.fB b o e).uu (λd v' hd q=>FK d v' (λhm=>?_) q) (λd q=>q) λd zs q=>q;have nn:=(fr d hm).1;rcases hd with rfl|hd
  .rw[nn]at e;cases e
  .rw[nn]at hd;cases hd
end
def KO {P:ae}{w:af}{K:aa}{elts:ao Expr}{kk:Nat}{vH:Pos}{c:Bool}{z TI TO i1 i2 l1 l2:aj}(D:ZipApart z TI TO i1 i2 l1 l2):
 Turn P w K (.Tuple elts kk vH) (Itz c l1 l2) [z,TI,TO,i1,i2] z (λi h=>IsZip h z TI TO .none/\IsPair h TI (.ref i1) (.ref i2)/\(∃ a b,IsPair h TO a b)/\n9 c h i1 l1 i/\n9 c h i2 l2 i) where
 mem:=by simp
 obj:=λi h st b hb=>by
  obtain⟨hz,Kt,⟨a,b',Ks⟩,h1,h2⟩:=st;simp only[bQ,bE,c9]at hb;rcases hb with rfl|rfl|rfl|rfl|rfl
  .exact⟨_,hz,λv q=>by cases q⟩
  .exact⟨_,Kt,λv q=>by cases q⟩
  .exact⟨_,Ks,λv q=>by cases q⟩
  .exact h1.data
  .exact h2.data
 keep:=λi h h' st k=>by obtain⟨hz,Kt,⟨a,b',Ks⟩,h1,h2⟩:=st;exact⟨k z (by simp) _ hz,k TI (by simp) _ Kt,⟨a,b',k TO (by simp) _ Ks⟩,h1.at λo e=>k i1 (by simp) o e,h2.at λo e=>k i2 (by simp) o e⟩
 item:=by
  intro X hP hw hK hc i ee s σ H E I hf st hg;subst hP hw hK;obtain⟨hz,Kt,⟨a,b',Ks⟩,h1,h2⟩:=st;refine fF hg λxs ys x y q1 q2 ex ey=>?_;refine eS (q1.val I) λus r1 p1=>?_;refine eS (q2.val I) λws r2 p2=>?_;refine eS (r1.get ex) λu eu ru=>?_;refine eS (r2.get ey) λv ev rv=>?_;refine Ah hz (Aj D ⟨hz,Kt,Ks,h1,h2,p1,p2⟩ (.inl rfl) (by simpa using eu) (by simpa using ev) λh' S' hT _ hk=>?_);refine⟨_,rfl,wpAny_letOwnedTupleGo_zip S'.z λh'' e'' t''=>?_⟩;have S'':=S'.mz D (f':=.none) (bb':=false) e'' t''.extBut;have Tz:s.heap.objs.size≠z:=bh<|kG hz;have hT':IsPair h'' s.heap.objs.size u v:=t''.extBut _ _ Tz hT;have kp:ZK z TO i1 i2 s.heap h'':=hk.trans<|wu t''.extBut;have hn:H s.heap.objs.size=none:=I.fB.fresh<|au _;have fr:∀ b∈[z,TO,i1,i2],nk X ee H b:=λb hb=>hf b (by
   simp only[bQ,bE,c9]at hb ⊢
   rcases hb with q|q|q|q<;>simp[q])
  have FK:∀ b o,b∉[z,TO,i1,i2]->s.heap.get? b=some o->h''.get? b=some o:=λb o hb e=>kp b o (λq=>hb<|by simp[q]) (λq=>hb<|by simp[q]) (λq=>hb<|by simp[q]) (λq=>hb<|by simp[q]) e;have I1:Inv X ee σ (upd H s.heap.objs.size<|.tup [x,y]) {s with heap:=h''}:=I.KQ fr FK hT' ru rv;refine⟨.ref s.heap.objs.size,_,I1,rfl,⟨_,x,y,rfl,hn,rfl,λzs q=>by rw[q.inj q1];exact ex,λzs q=>by rw[q.inj q2];exact ey⟩,⟨S''.z,S''.ti,⟨_,_,S''.to⟩,S''.n1,S''.n2⟩,λb hb=>?_⟩;obtain⟨o,e,_⟩:∃ o,s.heap.get? b=some o/\True:=by
   simp only[bQ,bE,c9]at hb;rcases hb with rfl|rfl|rfl|rfl|rfl
   .exact⟨_,hz,trivial⟩
   .exact⟨_,Kt,trivial⟩
   .exact⟨_,Ks,trivial⟩
   .obtain⟨o,e⟩:=h1.ex;exact⟨o,e,trivial⟩
   .obtain⟨o,e⟩:=h2.ex;exact⟨o,e,trivial⟩
  rw[e9 (aF<|kG e)];exact(hf b hb).1
 done:=by
  intro X hP hw hK hc i ee s σ H E I hf st hg;subst hP hw hK;obtain⟨hz,Kt,⟨a,b',Ks⟩,h1,h2⟩:=st;refine fw hg λxs ys q1 q2 hx=>?_;refine eS (q1.val I) λus r1 p1=>?_;refine eS (q2.val I) λws r2 p2=>?_;have hl:=r1.length;have Sz:=r2.length;refine Ah hz (pG (I.ok.hd hc) D ⟨hz,Kt,Ks,h1,h2,p1,p2⟩ (.inl rfl) (by simp;lia) λh' e hk h_=>kZ h_ λo he=>⟨⟨o,e,rfl,he⟩,rfl,?_⟩);have fr:∀ b∈[z,TO,i1,i2],nk X ee H b:=λb hb=>hf b (by
   simp only[bQ,bE,c9]at hb ⊢
   rcases hb with q|q|q|q<;>simp[q])
  have FK:∀ b o,b∉[z,TO,i1,i2]->s.heap.get? b=some o->h'.get? b=some o:=λb o hb e=>hk b o (λq=>hb<|by simp[q]) (λq=>hb<|by simp[q]) (λq=>hb<|by simp[q]) (λq=>hb<|by simp[q]) e;exact I.KR fr FK
 self:=λ_ _ _ _ _ st h=>wpAny_pyIter_zip st.1 h
def sF (a:aj):Obj:={ cls:=.type "tuple_iterator",data:=.fields #[.ref a,.int 0 0]}
def zH (l1 l2:aj)(h:Heap):Heap :=
 ((((h.push<|sF l1).push<|sF l2).push { cls:=.type "tuple",data:=.seq #[.ref h.objs.size,.ref (h.push<|sF l1).objs.size]}).push { cls:=.type "tuple",data:=.seq #[.none,.none]}).push
  { cls:=.type "zip",data:=.fields #[.none,.bool false,.bool false,.ref ((h.push<|sF l1).push<|sF l2).objs.size,.ref (((h.push<|sF l1).push<|sF l2).push { cls:=.type "tuple",data:=.seq #[.ref h.objs.size,.ref (h.push<|sF l1).objs.size]}).objs.size]}
def Kz (l1 l2:aj)(xs ys:Array ak):Meets (Builtin.«zip.__new__» ⟨[.type "zip",.ref l1,.ref l2],[]⟩) (λ_ R s=>s.heap.IsTuple l1 xs/\s.heap.IsTuple l2 ys /\
 R (.ok<|.ret<|.ref<|s.heap.objs.size+4) {s with heap:=zH l1 l2 s.heap}):=
 .of_wp λprog w A R s h=>by
  obtain⟨hp,g,d,tk,os⟩:=s;refine rh h λhl1 Sz h=>?_;have hsub:=sub_zip;have t1:=hl1;have t2:Heap.IsTuple (Shared.heap ⟨hp.push { cls:=.type "tuple_iterator",data:=.fields #[.ref l1,.int 0 0]},g,d,tk,os⟩) l2 ys:=Heap.IsTuple.push Sz _;wp_walk using wpAny_pyIter_tuple t1,wpAny_pyIter_tuple t2;refine⟨_,rfl,?_⟩;have e:hp.objs.size+4=((((hp.push<|sF l1).push<|sF l2).push { cls:=.type "tuple",data:=.seq #[.ref hp.objs.size,.ref (hp.push<|sF l1).objs.size]}).push { cls:=.type "tuple",data:=.seq #[.none,.none]}).objs.size:=by simp only[bq]
  have h':R (.ok<|.ret<|.ref<|hp.objs.size+4) _:=h;rw[e]at h';exact h'
def Cv {prog:ae}{w:af}{A:Around}{E:ak->ai->Prop}{s:ai}{c:Bool}{l1 l2:aj}{xs ys:Array ak}{Q:ak->ai->Prop}(p1:oA c s.heap l1 xs)(p2:oA c s.heap l2 ys)
 (h:∀ h',IsZip h' (s.heap.objs.size+4) (s.heap.objs.size+2) (s.heap.objs.size+3) .none->IsPair h' (s.heap.objs.size+2) (.ref s.heap.objs.size) (.ref<|s.heap.objs.size+1)->IsPair h' (s.heap.objs.size+3) .none .none ->
   n9 c h' s.heap.objs.size l1 0->n9 c h' (s.heap.objs.size+1) l2 0->(∀ b o,s.heap.get? b=some o->h'.get? b=some o)->Q (.ref<|s.heap.objs.size+4) {s with heap:=h'}):
 wpAny (model prog w) A (call (.type "zip") [.ref l1,.ref l2]) Q E s:=by
 cases c with
 |false=>exact call_zip_2 p1 p2 λh' a1 a2 a3 a4 a5 _ a7=>h h' a1 a2 a3 a4 a5 a7
 | true =>
  refine callType_new F.called_zip rfl (F.typeCall_zip_2 _ _) (F.newCall_zip_2 _ _) (λobj=>F.args_object_init_3 obj _ _) F.entry_zip_new (Kz l1 l2 xs ys) ⟨p1,p2,?_⟩;have z1:(s.heap.push<|sF l1).objs.size=s.heap.objs.size+1:=bq ..
  have z2:((s.heap.push<|sF l1).push<|sF l2).objs.size=s.heap.objs.size+2:=by rw[bq,z1]
  have z3:(((s.heap.push<|sF l1).push<|sF l2).push { cls:=.type "tuple",data:=.seq #[.ref s.heap.objs.size,.ref (s.heap.push<|sF l1).objs.size]}).objs.size=s.heap.objs.size+3:=by rw[bq,z2]
  have z4:((((s.heap.push<|sF l1).push<|sF l2).push { cls:=.type "tuple",data:=.seq #[.ref s.heap.objs.size,.ref (s.heap.push<|sF l1).objs.size]}).push { cls:=.type "tuple",data:=.seq #[.none,.none]}).objs.size=s.heap.objs.size+4:=by rw[bq,z3]
  have g0:(zH l1 l2 s.heap).get? s.heap.objs.size=some (sF l1):=kJ _<|kJ _<|kJ _<|kJ _<|aC _ rfl;have g1:(zH l1 l2 s.heap).get? (s.heap.push<|sF l1).objs.size=some (sF l2):=kJ _<|kJ _<|kJ _<|aC _ rfl;have g2:(zH l1 l2 s.heap).get? ((s.heap.push<|sF l1).push<|sF l2).objs.size=some _:=kJ _<|kJ _<|aC _ rfl;have g3:(zH l1 l2 s.heap).get? (((s.heap.push<|sF l1).push<|sF l2).push { cls:=.type "tuple",data:=.seq #[.ref s.heap.objs.size,.ref (s.heap.push<|sF l1).objs.size]}).objs.size=some _:=kJ _<|aC _ rfl;have g4:(zH l1 l2 s.heap).get? ((((s.heap.push<|sF l1).push<|sF l2).push { cls:=.type "tuple",data:=.seq #[.ref s.heap.objs.size,.ref (s.heap.push<|sF l1).objs.size]}).push { cls:=.type "tuple",data:=.seq #[.none,.none]}).objs.size=some _:=aC _ rfl;rw[z1]at g1;rw[z2,z1]at g2;rw[z3]at g3;rw[z4,z2,z3]at g4;exact⟨⟨_,g4,rfl⟩,h _ g4 g2 g3 ⟨_,g0,rfl,rfl⟩ ⟨_,g1,rfl,rfl⟩ λb o e=>kJ _<|kJ _<|kJ _<|kJ _<|kJ _ e⟩
section
variable {X:Cx}
def iZip (ta:TA):TI:=λσ H R=>ta σ H λvs H1=>match vs with
 |[.ref a,.ref b]=>∃(c:Bool) (xs ys:ao V),ED c H1 a xs/\ED c H1 b ys/\R (Itz c a b) H1
 |_=>False
def UH {elts:ao Expr}{kk:Nat}{vH:Pos}{a b:Expr}{ta:TA}{p pos:Pos}(hg:Gl X "zip")(hm:X.mg "zip"=none)(ha:PA X [a,b] ta)(hs:starEach [a,b] X.env=[(false,eval a X.env),(false,eval b X.env)]:=by rfl)(uM:starEach [b] X.env=[(false,eval b X.env)]:=by rfl):
 PI X (.Tuple elts kk vH) (.Call (.Name "zip" p) [a,b] [] pos) (iZip ta):=by
 intro ee s σ H R I h;refine Call_ (nN I hg hm boot_zip<|bj (gg (ha pos ee s σ H _ I h) λus s1 MC=>?_) (by rw[hs,uM]) (by rw[uM];rfl));obtain⟨vs,H1,I1,r1,q1⟩:=MC;try dsimp only at q1
 split at q1
 .rename_i l1 l2;refine tj q1 λc xs ys q1 q2 q=>?_;refine fw r1.two λu1 u2 fE e1 e2=>?_;subst fE;subst e1;subst e2;refine eS (q1.val I1) λus r1 p1=>?_;refine eS (q2.val I1) λws r2 p2=>?_;have lt:∀ {l:aj} {o:HO},H1 l=some o->l<s1.heap.objs.size:=λe=>I1.fB.lt e;refine kZ q1.ex λo1 w1=>?_;refine kZ q2.ex λo2 w2=>?_;refine Cv p1 p2 λh' hz Kt Ks n1 n2 kp=>wpAny_pyIter_zip hz ?_;have I2:Inv X ee σ H1 { s1 with heap:=h'}:=I1.eI (t':=s1.toks) kp;refine⟨s1.heap.objs.size+4,_,_,_,H1,rfl,I2,KO (c:=c)<|zipApart_new (lt w1)<|lt w2,⟨hz,Kt,⟨_,_,Ks⟩,n1,n2⟩,λb hb=>?_,q⟩;have MM:s1.heap.objs.size<=b:=by
   simp at hb;rcases hb with e|e|e|e|e<;>subst e
   .exact aY ..
   .exact aY ..
   .exact aY ..
   .exact au _
   .exact aY ..
  exact I1.Bo MM (I1.fB.fresh MM)
 .exact q1.elim
def CY (g:ao Bool->Bool):ao V->Hp->VK->Prop:=λvs H Q=>match vs with
 |[.ref p]=>∃ bs:ao Bool,H p=some (.lst<|bs.map V.bl)/\Q (.bl<|g bs) H
 |_=>False
def range_all (bs:ao Bool):(List.range bs.length).all (λi=>bs.getD i true)=bs.all id:=by
 rw[cZ,cx,cx];constructor
 .intro h b hb;obtain⟨i,hi,e⟩:=cK hb;have:=h i (by simpa using hi);rw[bF,vk hi,e]at this;exact this
 .intro h i hi;have hi':i<bs.length:=by simpa using hi
  rw[bF,vk hi'];exact h _ (List.getElem_mem _)
def Wt (hc:X.gE=true):jg X (.builtin "all") (CY λbs=>bs.all id):=by
 intro ee s σ H vs us Q I rv h;delta CY at h;split at h
 .rename_i p;refine eS h λbs hp q=>?_;refine eS rv.one λu fE ru=>?_;subst fE;subst ru;obtain⟨z,fu,n,r,hl,e⟩:=I.r8 hp;have Vw:s.heap.IsList p fu.toArray:=⟨_,e,rfl,n,rfl⟩;have lt:p≠s.heap.objs.size:=aF<|kG e;refine call_all_walk (wpAny_pyIter_list Vw ⟨_,_,_,_,_,_,λi=>bs.getD i true,rfl,Walks.list (A:=X.A.in1) (I.ok.hd hc) s.heap.objs.size p lt fu.toArray,⟨⟨_,aC _ rfl,rfl,rfl⟩,Vw.push _⟩,?_,λh' tk kp=>?_⟩)
  .intro i v s' Q' E' hv hq;have VC:fu[i]?=some v:=by simpa using hv
   have hb:∃ b,bs[i]?=some b/\v=.bool b:=by
    cases eb:(bs.map V.bl)[i]? with
    |none=>have:=r.none_of eb;rw[VC]at this;cases this
    | some y =>
     refine eS (r.get eb) λu hu ry=>?_;rw[VC]at hu;cases hu;rw[wd]at eb;cases e2:bs[i]? with
     |none=>rw[e2]at eb;cases eb
     |some b=>rw[e2]at eb;cases eb;exact⟨b,rfl,ry⟩
   obtain⟨b,eb,rfl⟩:=hb;have e3:bs.getD i true=b:=by rw[bF,eb];rfl
   have DJ:Q' (bs.getD i true) s':=hq;rw[e3]at DJ;exact bL DJ
  .have I2:Inv X ee σ H { s with heap:=h',toks:=tk}:=I.eI λb o e'=>kp b o (by simpa using aF<|kG e')<|kJ _ e';have len:fu.toArray.size=bs.length:=by rw[aB,<- hl,jf]
   rw[len,range_all];exact⟨.bl _,H,I2,rfl,q⟩
 .cases h
def X6:R2:=λx y H Q=>match x,y with
 |.gw,.gw=>Q (.bl true) H
 |.int i,.int j=>Q (.bl<|decide (i=j)) H
 |.str i,.str j=>Q (.bl<|decide (i=j)) H
 |.bl i,.bl j=>Q (.bl<|decide (i=j)) H
 |_,_=>False
def eqN:lj X (compareOp .Eq) X6:=Sg.imp λx y H Q q=>by
 delta X6 at q;split at q
 .exact⟨rfl,by simpa using q⟩
 .exact⟨rfl,by rwa [dI]⟩
 .exact⟨rfl,dS▸q⟩
 .exact⟨rfl,dB▸q⟩
 .exact q.elim
end
section
variable {js:ao (aq Nat)}{g:TG}{tt:TT}{te:TE}{σ:St}{H:Hp}{fin:ao V->Hp->Prop}
def HS {c:Bool}{a1 a2:aj}{xs zs:ao V}(hn:xs.length=zs.length)(Pv:Nat->ao V->Hp->Prop)(h0:Pv 0 [] H)(hl:∀ i ys H,Pv i ys H->ED c H a1 xs/\ED c H a2 zs)
 (hs:∀ i x y ys H T,i<xs.length->xs[i]?=some x->zs[i]?=some y->Pv i ys H->H T=none->g (.ref T) (g9 js σ) (upd H T<|.tup [x,y]) λpD H2=>Ext (g9 js σ) pD/\tt pD H2 λb H3=>if b=true then te pD H3 (CNx xs.length i Pv ys)else CSk xs.length i Pv ys H3)
 (hd:∀ ys H,Pv xs.length ys H->fin ys H):KI js g tt te (Itz c a1 a2) σ H fin:=by
 refine⟨λi m ys H=>m=xs.length - i/\i<=xs.length/\Pv i ys H,⟨xs.length,rfl,bp _,h0⟩,?_⟩;refine λi m ys H h_=>rh h_ λfE hi p=>?_;subst fE;refine jS (hl i ys H p) λq1 q2=>?_;by_cases uq:i<xs.length
 .refine .inr ⟨⟨xs,zs,xs[i],zs[i]'(by lia),q1,q2,by simp[uq],by simp[show i<zs.length by lia]⟩,λv H' yl=>?_⟩;refine JM yl λT x y fE hT qk h1 h2=>?_;subst fE;subst qk;exact hs i x y ys H T uq (h1 xs q1) (h2 zs q2) p hT
 .have e:i=xs.length:=by lia
  subst e
  exact .inl ⟨⟨xs,zs,q1,q2,.inl<|au _⟩,hd ys H p⟩
end
inductive DV where
 |gw|bl (b:Bool)|int (i:Int)|str (z:Str)|lst (ds:List DV)|tup (ds:List DV)
mutual
def dep:DV->Nat
 |.lst ds=>y7 ds+1
 |.tup ds=>y7 ds+1
 |_=>0
def y7:List DV->Nat
 |[]=>0
 |d::ds=>max (dep d) (y7 ds)
end
mutual
def OH:DV->Nat
 |.lst ds=>max ds.length (yH ds)
 |.tup ds=>max ds.length (yH ds)
 |_=>0
def yH:List DV->Nat
 |[]=>0
 |d::ds=>max (OH d) (yH ds)
end
mutual
def Is (H:Hp):DV->V->Prop
 |.gw,v=>v=.gw
 |.bl b,v=>v=.bl b
 |.int i,v=>v=.int i
 |.str z,v=>v=.str z
 |.lst ds,v=>∃ p vs,v=.ref p/\H p=some (.lst vs)/\nc H ds vs
 |.tup ds,v=>∃ p vs,v=.ref p/\H p=some (.tup vs)/\nc H ds vs
def nc (H:Hp):List DV->List V->Prop
 |[],vs=>vs=[]
 |d::ds,vs=>∃ v r,vs=v::r/\Is H d v/\nc H ds r
end
mutual
theorem Is.mono {H H':Hp}(s:gT H H'):∀(d:DV) (v:V),Is H d v->Is H' d v
 |.gw,_,h=>h
 |.bl _,_,h=>h
 |.int _,_,h=>h
 |.str _,_,h=>h
 | .lst ds,_,h=>by obtain⟨p,vs,e,hp,q⟩:=h;exact⟨p,vs,e,s _ _ hp,nc.mono s ds vs q⟩
 | .tup ds,_,h=>by obtain⟨p,vs,e,hp,q⟩:=h;exact⟨p,vs,e,s _ _ hp,nc.mono s ds vs q⟩
theorem nc.mono {H H':Hp}(s:gT H H'):∀(ds:List DV) (vs:List V),nc H ds vs->nc H' ds vs
 |[],_,h=>h
 | d::ds,_,h=>by obtain⟨v,r,e,h1,h2⟩:=h;exact⟨v,r,e,Is.mono s d v h1,nc.mono s ds r h2⟩
end
theorem nc.len {H:Hp}:∀ {ds:ao DV} {vs:ao V},nc H ds vs->vs.length=ds.length
 |[],_,h=>by rw[show _=[]from h];rfl
 |d::ds,_,h=>by obtain⟨v,r,rfl,_,h2⟩:=h;rw[aT,aT,nc.len h2]
theorem nc.get {H:Hp}:∀ {ds:ao DV} {vs:ao V} {i:Nat} {v:V},nc H ds vs->vs[i]?=some v->∃ d,ds[i]?=some d/\Is H d v
 |[],_,i,v,h,e=>by rw[show _=[]from h]at e;contradiction
 | d::ds,_,0,v,h,e=>by obtain⟨v',r,rfl,h1,h2⟩:=h;simp at e;subst e;exact⟨d,rfl,h1⟩
 | d::ds,_,i+1,v,h,e=>by refine fw h λv' r fE h1 h2=>?_;subst fE;refine eS (nc.get h2<|by simpa using e) λd' e1 e2=>?_;exact⟨d',by simpa using e1,e2⟩
theorem ya:∀ {ds:ao DV} {i:Nat} {d:DV},ds[i]?=some d->dep d<=y7 ds
 |d::ds,0,d',h=>by simp at h;subst h;unfold y7;lia
 |d::ds,i+1,d',h=>by have:=ya (i:=i) (by simpa using h);unfold y7;lia
theorem wy:∀ {ds:ao DV} {i:Nat} {d:DV},ds[i]?=some d->OH d<=yH ds
 |d::ds,0,d',h=>by simp at h;subst h;unfold yH;lia
 |d::ds,i+1,d',h=>by have:=wy (i:=i) (by simpa using h);unfold yH;lia
def uv (n:Nat):Sp:=λvs H Q _=>match vs with
 |[x,y]=>∃ d,dep d<=n/\OH d<sizeLine/\Is H d x/\Is H d y/\∀ H',gT H H'->Q (.bl true) H'
 |_=>False
def spNo:Sp:=λ_ _ _ _=>False
def spS:Nat->Sp
 |0=>spNo
 |n+1=>uv n
theorem gT.upd {H:Hp}{p:aj}{o:HO}(h:H p=none):gT H (L2.upd H p o):=λb u e=>by rwa [e9 (fS e h)]
def HR {α:Type}{l:ao α}{n:Int}(h:0<=n):kH l none (some n)=l.take n.toNat:=by
 obtain⟨m,rfl⟩:∃ m:Nat,n=(m:Int):=⟨n.toNat,by lia⟩;delta kH;rw[HT.rN,HT.tO,List.drop_zero,Nat.sub_zero,VT];by_cases hm:m<=l.length
 .rw[cY hm]
 .rw[Nat.min_eq_right (by lia),List.take_length,bH (by lia)]
def zM {α:Type}{l:ao α}{n:Int}(h:0<=n):kH l (some n) none=l.drop n.toNat:=by
 obtain⟨m,rfl⟩:∃ m:Nat,n=(m:Int):=⟨n.toNat,by lia⟩;delta kH;rw[HT.rN,HT.tO,VT];by_cases hm:m<=l.length
 .rw[cY hm,bH (by rw[cb];lia)]
 .rw[Nat.min_eq_right (by lia),List.drop_of_length_le (au _),List.drop_of_length_le (by lia),List.take_nil]
section
variable {X:Cx}
def CW:V->ao V->Hp->VK->Prop:=λx vs H Q=>∃ l y xs,x=.ref l/\vs=[y]/\H l=some (.lst xs)/\xs.length<sizeLine/\Q .gw (upd H l<|.lst<|xs++[y])
def uh:B7 X "list.append" CW:=B7.imp Jm λx vs H Q q=>by refine JM q λl y xs fE qk a b c=>?_;subst fE;subst qk;exact⟨_,xs,_,rfl,rfl,a,b,c⟩
end
def rr (l:ao Nat):Nat->Nat×ao (Nat×Nat)
 |0=>(0,[])
 |i+1=>if l[i]?=some 120 then(i+1,if(rr l i).1<i then(rr l i).2++[((rr l i).1,i)]else(rr l i).2)else rr l i
def l4 (n:Int)(cs:ao Int):ao Int:=0::cs++[n]
inductive D where
 |gw|bl (b:Bool)|int (i:Int)|str (z:Str)|lst (ds:List D)|tup (ds:List D)|lh (ks:List Key) (ds:List D)|mr (k:Nat)|obj (C:aj) (ns:List Str) (ds:List D)|pF (ks:List Key) (ds:List D)|fn (a:aj)
inductive MO where
 |box|lst (ds:List D)|lh (ks:List Key) (ds:List D)|se (o:Obj) (eP:List (Key×V)) (ds:List D)|ins (C:aj) (ns:List Str) (ds:List D)|QT (ks:List (List Key)) (ds:List D)|gx (φ:List aj) (H:Hp)|exc (c:ak)|y3 (C:aj) (ns:List Str) (ds:List D)
inductive Pq where
 |v|i|s|l|m|b|t
def Ku:ao Pq->Type
 |[]=>Prop
 |.v::ps=>D->Ku ps
 |.i::ps=>Int->Ku ps
 |.s::ps=>Str->Ku ps
 |.m::ps=>Nat->Ku ps
 |.b::ps=>Bool->Ku ps
 |.l::ps|.t::ps=>ao D->Ku ps
def dM:(ps:ao Pq)->ao D->Ku ps->Prop
 |[],[],k=>k
 |.v::ps,n::ds,k|.i::ps,.int n::ds,k|.s::ps,.str n::ds,k|.l::ps,.lst n::ds,k|.m::ps,.mr n::ds,k|.b::ps,.bl n::ds,k|.t::ps,.tup n::ds,k=>dM ps ds (k n)
 |_,_,_=>False
def OM:(ps:ao Pq)->Ku ps->(ao D->Prop)->Prop
 |[],k,E=>E []/\k
 |.v::ps,k,E=>∃ x:D,OM ps (k x) λl=>E (x::l)
 |.i::ps,k,E=>∃ x:Int,OM ps (k x) λl=>E (.int x::l)
 |.s::ps,k,E=>∃ x:Str,OM ps (k x) λl=>E (.str x::l)
 |.l::ps,k,E=>∃ x:ao D,OM ps (k x) λl=>E (.lst x::l)
 |.m::ps,k,E=>∃ x:Nat,OM ps (k x) λl=>E (.mr x::l)
 |.b::ps,k,E=>∃ x:Bool,OM ps (k x) λl=>E (.bl x::l)
 |.t::ps,k,E=>∃ x:ao D,OM ps (k x) λl=>E (.tup x::l)
theorem DC:∀ {ps:ao Pq} {k:Ku ps} {E E':ao D->Prop},(∀ l,E l->E' l)->OM ps k E->OM ps k E'
 |[],k,E,E',h,x=>⟨h _ x.1,x.2⟩
 |.v::ps,k,E,E',h,⟨x,y⟩|.i::ps,k,E,E',h,⟨x,y⟩|.s::ps,k,E,E',h,⟨x,y⟩|.l::ps,k,E,E',h,⟨x,y⟩|.m::ps,k,E,E',h,⟨x,y⟩|.b::ps,k,E,E',h,⟨x,y⟩|.t::ps,k,E,E',h,⟨x,y⟩=>⟨x,DC (λl=>h _) y⟩
theorem dJ:∀ {ps:ao Pq} {ds:ao D} {k:Ku ps},dM ps ds k->OM ps k λl=>ds=l
 |[],[],k,h=>⟨rfl,h⟩
 |.v::ps,n::ds,k,h|.i::ps,.int n::ds,k,h|.s::ps,.str n::ds,k,h|.l::ps,.lst n::ds,k,h|.m::ps,.mr n::ds,k,h|.b::ps,.bl n::ds,k,h|.t::ps,.tup n::ds,k,h=>⟨n,DC (λl e=>by rw[e])<|dJ (ps:=ps) h⟩
abbrev MS:=ao MO
def Cn (μ:MS)(k:Nat):aq (ao D):=match μ[k]? with|some (.lst ds)=>some ds|_=>none
def pW (h:Cn μ k=some ds):μ[k]?=some (.lst ds):=by
 delta Cn at h;split at h
 .cases h;assumption
 .cases h
def qP (h:μ[k]?=some (.lst ds)):Cn μ k=some ds:=by delta Cn;rw[h]
def iR:Cn (μ++[.lst ds]) μ.length=some ds:=qP (by rw[ou (au _),aO];rfl)
abbrev DE:=ao (aq D)
mutual
def kP (φ:List aj)(H:Hp):D->V->Prop
 |.gw,v=>v=.gw
 |.bl b,v=>v=.bl b
 |.int i,v=>v=.int i
 |.str z,v=>v=.str z
 |.lst ds,v=>∃ p vs,v=.ref p/\p∉φ/\H p=some (.lst vs)/\fe φ H ds vs
 |.tup ds,v=>∃ p vs,v=.ref p/\p∉φ/\H p=some (.tup vs)/\fe φ H ds vs
 |.lh ks ds,v=>∃ p eP vs,v=.ref p/\p∉φ/\H p=some (.dK eP)/\eP.map (·.1)=ks/\vs=eP.map (·.2)/\fe φ H ds vs
 |.mr k,v=>∃ p,φ[k]?=some p/\v=.ref p
 |.obj C ns ds,v=>∃ p dx fs vs,v=.ref p/\p∉φ/\H p=some (.ins C dx fs)/\fs.map (·.1)=ns/\vs=fs.map (·.2)/\fe φ H ds vs
 |.pF ks ds,v=>∃ p o eP vs,v=.ref p/\p∉φ/\H p=some (.vm o<|.dK eP)/\eP.map (·.1)=ks/\vs=eP.map (·.2)/\fe φ H ds vs
 |.fn a,v=>v=.ref a
def fe (φ:List aj)(H:Hp):List D->List V->Prop
 |[],vs=>vs=[]
 |d::ds,vs=>∃ v r,vs=v::r/\kP φ H d v/\fe φ H ds r
end
structure Fr (φ:List aj)(H:Hp)(fO:List aj)(H':Hp):Prop where
 ext:∃ ψ,fO=φ++ψ/\∀ c∈ψ,H c=none
 keep:∀ c o,c∉φ->H c=some o->H' c=some o
 dom:∀ c,H' c=none->H c=none
def Fr.refl (φ:ao aj)(H:Hp):Fr φ H φ H:=⟨⟨[],by simp,λ_ h=>nomatch h⟩,λ_ _ _ h=>h,λ_ h=>h⟩
def Fr.trans (a:Fr φ H fo H1)(b:Fr fo H1 lQ H2):Fr φ H lQ H2:=by
 obtain⟨⟨ψ,rfl,Jw⟩,k1,d1⟩:=a;obtain⟨⟨χ,rfl,hχ⟩,k2,d2⟩:=b;refine⟨⟨ψ++χ,by simp,λc hc=>?_⟩,λc o hc e=>k2 c o (λh=>?_)<|k1 c o hc e,λc h=>d1 c<|d2 c h⟩
 .rcases List.mem_append.mp hc with h | h
  .exact Jw c h
  .exact d1 c (hχ c h)
 .rcases List.mem_append.mp h with h | h
  .exact hc h
  .rw[Jw c h]at e;cases e
def Fr.same (h:gT H H'):Fr φ H φ H':=⟨⟨[],by simp,λ_ h=>nomatch h⟩,λc o _ e=>h c o e,λc e=>h.free e⟩
def Fr.new (h:H p=none):Fr φ H φ (upd H p o):=.same (gT.upd h)
def Fr.put (h:p∈φ):Fr φ H φ (upd H p o) :=
 ⟨⟨[],by simp,λ_ h=>nomatch h⟩,λc u hc e=>by rw[e9 (λz=>hc (by rw[z];exact h))];exact e,λc e=>by
  delta upd at e
  split at e
  .cases e
  .exact e⟩
def Fr.snoc (h:H p=none):Fr φ H (φ++[p]) H:=⟨⟨[p],rfl,λc hc=>by rwa [List.mem_singleton.mp hc]⟩,λ_ _ _ e=>e,λ_ e=>e⟩
def Fr.xq (f:Fr φ H fO H')(h:p∉φ)(e:H p=some o):p∉fO:=by
 obtain⟨⟨ψ,rfl,Jw⟩,_,_⟩:=f;intro hc;rcases List.mem_append.mp hc with q|q
 .exact h q
 .rw[Jw p q]at e;cases e
def Fr.get (f:Fr φ H fO H'){k:Nat}(h:φ[k]?=some p):fO[k]?=some p:=by obtain⟨⟨ψ,rfl,Jw⟩,_,_⟩:=f;rwa [tE (mW h).1]
mutual
theorem kP.mono {φ fO:List aj}{H H':Hp}(f:Fr φ H fO H'):∀ {d:D} {v:V},kP φ H d v->kP fO H' d v
 |.gw,_,h=>h
 |.bl _,_,h=>h
 |.int _,_,h=>h
 |.str _,_,h=>h
 |.lst _,_,h=>by obtain⟨p,vs,e,n,hp,q⟩:=h;exact⟨p,vs,e,f.xq n hp,f.keep _ _ n hp,fe.mono f q⟩
 |.tup _,_,h=>by obtain⟨p,vs,e,n,hp,q⟩:=h;exact⟨p,vs,e,f.xq n hp,f.keep _ _ n hp,fe.mono f q⟩
 |.lh _ _,_,h=>by obtain⟨p,eP,vs,e,n,hp,q1,q2,q⟩:=h;exact⟨p,eP,vs,e,f.xq n hp,f.keep _ _ n hp,q1,q2,fe.mono f q⟩
 |.mr _,_,h=>by obtain⟨p,e,q⟩:=h;exact⟨p,f.get e,q⟩
 |.obj _ _ _,_,h=>by obtain⟨p,dx,fs,vs,e,n,hp,q1,q2,q⟩:=h;exact⟨p,dx,fs,vs,e,f.xq n hp,f.keep _ _ n hp,q1,q2,fe.mono f q⟩
 |.pF _ _,_,h=>by obtain⟨p,dx,fs,vs,e,n,hp,q1,q2,q⟩:=h;exact⟨p,dx,fs,vs,e,f.xq n hp,f.keep _ _ n hp,q1,q2,fe.mono f q⟩
 |.fn _,_,h=>h
theorem fe.mono {φ fO:List aj}{H H':Hp}(f:Fr φ H fO H'):∀ {ds:List D} {vs:List V},fe φ H ds vs->fe fO H' ds vs
 |[],_,h=>h
 |_::_,_,h=>by obtain⟨v,r,e,h1,h2⟩:=h;exact⟨v,r,e,kP.mono f h1,fe.mono f h2⟩
end
theorem fe.len:∀ {ds:ao D} {vs:ao V},fe φ H ds vs->vs.length=ds.length
 |[],_,h=>by rw[show _=[]from h];rfl
 |d::ds,_,h=>by obtain⟨v,r,rfl,_,h2⟩:=h;rw[aT,aT,fe.len h2]
theorem fe.get:∀ {ds:ao D} {vs:ao V} {i:Nat} {d:D},fe φ H ds vs->ds[i]?=some d->∃ v,vs[i]?=some v/\kP φ H d v
 |[],_,i,d,h,e=>by cases e
 |d::ds,_,0,d',h,e=>by obtain⟨v',r,rfl,h1,h2⟩:=h;simp at e;subst e;exact⟨v',rfl,h1⟩
 | d::ds,_,i+1,d',h,e=>by refine fw h λv' r fE h1 h2=>?_;subst fE;refine eS (fe.get h2<|by simpa using e) λv e1 e2=>?_;exact⟨v,by simpa using e1,e2⟩
def fe.QK {i:Nat}(h:fe φ H ds vs)(e:vs[i]?=some v):∃ d,ds[i]?=some d/\kP φ H d v:=by have hl:=h.len;have hi:=(mW e).1;refine eS (h.get (d:=ds[i]'(by lia))<|vk<|by lia) λu e1 e2=>?_;rw[e]at e1;cases e1;exact⟨_,vk<|by lia,e2⟩
theorem fe.app:∀ {ds es:ao D} {vs us:ao V},fe φ H ds vs->fe φ H es us->fe φ H (ds++es) (vs++us)
 |[],_,_,_,h,g=>by rw[show _=[]from h];exact g
 |d::ds,es,_,us,h,g=>by obtain⟨v,r,rfl,h1,h2⟩:=h;exact⟨v,r++us,rfl,h1,h2.app g⟩
theorem fe.take:∀ {ds:ao D} {vs:ao V} (n:Nat),fe φ H ds vs->fe φ H (ds.take n) (vs.take n)
 |_,_,0,_=>rfl
 |[],_,n+1,h=>by rw[show _=[]from h];rfl
 |d::ds,_,n+1,h=>by obtain⟨v,r,rfl,h1,h2⟩:=h;exact⟨v,r.take n,rfl,h1,h2.take n⟩
theorem fe.drop:∀ {ds:ao D} {vs:ao V} (n:Nat),fe φ H ds vs->fe φ H (ds.drop n) (vs.drop n)
 |_,_,0,h=>h
 |[],_,n+1,h=>by rw[show _=[]from h];rfl
 |d::ds,_,n+1,h=>by obtain⟨v,r,rfl,h1,h2⟩:=h;exact h2.drop n
theorem fe.bls:∀ {ns:ao Bool} {vs:ao V},fe φ H (ns.map D.bl) vs->vs=ns.map V.bl
 |[],_,h=>h
 |n::ns,_,h=>by obtain⟨v,r,rfl,h1,h2⟩:=h;rw[show v=.bl n from h1,fe.bls h2];rfl
def BxF (φ:ao aj)(H:Hp)(b:aj):Prop:=∃(q:aj) (ns:ao Int) (i r z:Int),H b=some (.lst [.ref q,.int i,.int r,.int z])/\H q=some (.lst<|ns.map V.int)/\q∉φ/\0<=i/\0<=z/\z<2147483647
def kF (p:aj)(c:ak)(h:Heap):Prop:=∃ oe vs,h.get? p=some oe/\oe.cls=c/\oe.data=.fields vs/\vs[2]?=some .none
def pZ (C:aj)(od:aq aj)(t:aj):Obj:={ cls:=.ref C,dict:=od,data:=.fields #[.ref t,.none,.none,.none,.bool false,.none]}
def Cr (e C:aj)(od:aq aj)(t:aj)(h:Heap):Prop:=h.get? e=some (pZ C od t)
def oz (dx:aj)(fs:ao (Str×V))(h:Heap):Prop:=∃ m,h.Ns1 dx m/\(∀ f,p9 (fs.lookup f) (m f))/\Within m (fs.map (·.1))
def zd (φ:ao aj)(H:Hp):MO->aj->Prop
 |.box,p=>BxF φ H p
 |.lst ds,p=>∃ vs,H p=some (.lst vs)/\fe φ H ds vs
 |.lh ks ds,p=>∃ eP vs,H p=some (.dK eP)/\eP.map (·.1)=ks/\vs=eP.map (·.2)/\fe φ H ds vs
 |.se o eP ds,p=>H p=some (.vm o<|.dK eP)/\fe φ H ds (eP.map (·.2))
 |.ins C ns ds,p=>∃ dx fs,H p=some (.ins C dx fs)/\fs.map (·.1)=ns/\fe φ H ds (fs.map (·.2))
 |.QT ks ds,p=>∃ eP,H p=some (.dT eP)/\eP.map (·.1)=ks/\fe φ H ds (eP.map (·.2))
 |.gx fi H0,p=>Fr fi H0 φ H/\H p=H0 p/\(∃ o,H p=some o)/\∀ zs,H p≠some (.tup zs)
 |.exc c,p=>H p=some (.ext<|kF p c)
 |.y3 C ns ds,p=>∃ dx t fs,H p=some (.ext<|Cr p C (some dx) t)/\H dx=some (.ext<|oz dx fs)/\dx∉φ/\fs.map (·.1)=ns/\fe φ H ds (fs.map (·.2))
structure fG (φ:List aj)(H:Hp)(μ:MS):Prop where
 nd:φ.Nodup
 len:φ.length=μ.length
 at_:∀(k:Nat) (m:MO),μ[k]?=some m->∃ p,φ[k]?=some p/\zd φ H m p
theorem zd.mono (f:Fr φ H fO H')(s:∀ o,H p=some o->H' p=some o)(h:zd φ H m p):zd fO H' m p:=by
 cases m with
 |box=>let ⟨q,ns,i,r,z,h1,h2,h3,h4⟩:=h;exact⟨q,ns,i,r,z,s _ h1,f.keep _ _ h3 h2,f.xq h3 h2,h4⟩
 |lst ds=>let ⟨vs,h1,h2⟩:=h;exact⟨vs,s _ h1,h2.mono f⟩
 |lh ks ds=>let ⟨eP,vs,h1,h2,h3,h4⟩:=h;exact⟨eP,vs,s _ h1,h2,h3,h4.mono f⟩
 |se o eP ds=>exact⟨s _ h.1,h.2.mono f⟩
 |ins C ns ds=>let ⟨dx,fs,h1,h2,h3⟩:=h;exact⟨dx,fs,s _ h1,h2,h3.mono f⟩
 |QT ks ds=>let ⟨eP,h1,h2,h3⟩:=h;exact⟨eP,s _ h1,h2,h3.mono f⟩
 |gx fi H0=>let ⟨h1,h2,⟨o,h3⟩,h4⟩:=h;exact⟨h1.trans f,(s _ h3).trans<|h3.symm.trans h2,⟨o,s _ h3⟩,λzs e=>h4 zs<|h3.trans<|(s _ h3).symm.trans e⟩
 |exc c=>exact s _ h
 |y3 C ns ds=>let ⟨dx,t,fs,h1,h2,h3,h4,h5⟩:=h;exact⟨dx,t,fs,s _ h1,f.keep _ _ h3 h2,f.xq h3 h2,h4,h5.mono f⟩
def zd.ex (h:zd φ H m p):∃ o,H p=some o:=by
 cases m with
 |box=>let ⟨q,ns,i,r,z,h1,_⟩:=h;exact⟨_,h1⟩
 |lst ds=>let ⟨vs,h1,_⟩:=h;exact⟨_,h1⟩
 |lh ks ds=>let ⟨eP,vs,h1,_⟩:=h;exact⟨_,h1⟩
 |se o eP ds=>exact⟨_,h.1⟩
 |ins C ns ds=>let ⟨dx,fs,h1,_⟩:=h;exact⟨_,h1⟩
 |QT ks ds=>let ⟨eP,h1,_⟩:=h;exact⟨_,h1⟩
 |gx fi H0=>exact h.2.2.1
 |exc c=>exact⟨_,h⟩
 |y3 C ns ds=>let ⟨dx,t,fs,h1,_⟩:=h;exact⟨_,h1⟩
theorem fG.same (h:fG φ H μ)(s:gT H H'):fG φ H' μ :=
 ⟨h.nd,h.len,λk m e=>let ⟨p,e1,e2⟩:=h.at_ k m e;⟨p,e1,e2.mono (.same s) λo q=>s _ _ q⟩⟩
def fG.mem (h:fG φ H μ)(hp:p∈φ):∃ o,H p=some o:=by obtain⟨k,hk,e⟩:=cK hp;refine eS (h.at_ k (μ[k]'(by have:=h.len;lia))<|vk _) λq e1 e2=>?_;rw[vk hk,e]at e1;cases e1;exact e2.ex
def fG.fresh (h:fG φ H μ)(hp:H p=none):p∉φ:=λq=>by refine kZ (h.mem q) λo e=>?_;rw[hp]at e;cases e
theorem fG.snoc (h:fG φ H μ)(hp:H p=none)(hm:zd (φ++[p]) (upd H p o) m p):fG (φ++[p]) (upd H p o) (μ++[m])/\Fr φ H (φ++[p]) (upd H p o):=by
 have f1:Fr φ H (φ++[p]) H:=.snoc hp;have f:Fr φ H (φ++[p]) (upd H p o):=⟨f1.ext,λc u hc e=>gT.upd hp _ _ e,λc e=>(gT.upd hp).free e⟩;refine⟨⟨?_,by rw[mJ,mJ,h.len];rfl,λk n e=>?_⟩,f⟩
 .rw[bP];exact⟨h.nd,by simp,λa ha b hb=>by rw[List.mem_singleton.mp hb];intro z;exact h.fresh hp<|z▸‹_›⟩
 .by_cases hk:k<μ.length
  .rw[tE hk]at e;let ⟨q,e1,e2⟩:=h.at_ k n e;exact⟨q,f.get e1,e2.mono f λu eu=>gT.upd hp _ _ eu⟩
  .have JA:k=μ.length:=by have:=(mW e).1;rw[mJ,aU]at this;lia
   subst JA
   rw[ou (au _),aO]at e
   cases e
   exact⟨p,by rw[ou (h.len▸au _),h.len,aO];rfl,hm⟩
theorem fG.put (h:fG φ H μ)(hk:φ[k]?=some p)(hm:zd φ (upd H p o) m p):fG φ (upd H p o) (μ.set k m):=by
 have hp:=ET hk;have f:Fr φ H φ (upd H p o):=.put hp;refine⟨h.nd,by rw[aR];exact h.len,λj n e=>?_⟩;by_cases hj:k=j
 .subst hj;have hl:k<μ.length:=by have:=(mW hk).1;have:=h.len;lia
  rw[aJ hl]at e;cases e;exact⟨p,hk,hm⟩
 .rw[aA hj]at e;let ⟨q,e1,e2⟩:=h.at_ j n e;refine⟨q,e1,e2.mono f λu eu=>?_⟩;rw[e9]
  .exact eu
  .intro z;subst z;have a1:=mW hk;have a2:=mW e1;refine kZ a1 λi1 r1=>?_;refine kZ a2 λi2 r2=>?_;rcases Nat.lt_or_gt_of_ne hj with z|z
   .exact List.pairwise_iff_getElem.mp h.nd k j i1 i2 z (r1.trans r2.symm)
   .exact List.pairwise_iff_getElem.mp h.nd j k i2 i1 z (r2.trans r1.symm)
def kQ (φ:ao aj)(H:Hp)(ρ:DE)(σ:St):Prop:=ρ.length=σ.length/\∀(i:Nat) (d:D),ρ[i]?=some (some d)->∃ v,σ[i]?=some (some v)/\kP φ H d v
theorem kQ.mono (f:Fr φ H fO H')(h:kQ φ H ρ σ):kQ fO H' ρ σ:=⟨h.1,λi d e=>let ⟨v,a,b⟩:=h.2 i d e;⟨v,a,b.mono f⟩⟩
theorem kQ.set (h:kQ φ H ρ σ)(hd:kP φ H d v)(i:Nat):kQ φ H (ρ.set i<|some d) (σ.set i<|some v):=by
 refine⟨by rw[aR,aR];exact h.1,λj e hj=>?_⟩;by_cases W4:i=j
 .subst W4;have hl:i<ρ.length:=by have:=(mW hj).1;rwa [aR]at this
  rw[aJ hl]at hj;cases hj;exact⟨v,aJ<|h.1▸‹_›,hd⟩
 .rw[aA W4]at hj;let ⟨u,a,b⟩:=h.2 j e hj;exact⟨u,by rwa [aA W4],b⟩
def lv (μ:MS):D->aq (ao D)
 |.lst ds=>some ds
 |.mr k=>Cn μ k
 |_=>none
def lc:D->ao D->MS->Prop
 |.mr k,ds=>λμ=>Cn μ k=some ds
 |_,_=>λ_=>True
def oF (M:fG φ H μ)(i:kP φ H d v)(h:lv μ d=some ds):∃ p vs,v=.ref p/\H p=some (.lst vs)/\fe φ H ds vs:=by
 cases d with
 |lst es=>cases h;obtain⟨p,vs,rfl,_,hp,ha⟩:=i;exact⟨p,vs,rfl,hp,ha⟩
 | mr k =>obtain⟨p,hp,rfl⟩:=i;have e:=pW h;obtain⟨q,e1,vs,hv,ha⟩:=M.at_ k _ e;rw[hp]at e1;cases e1;exact⟨p,vs,rfl,hv,ha⟩
 |_=>cases h
def Hm (M:fG φ H μ)(i:kP φ H d (.ref p))(h:lv μ d=some ds)(f:Fr φ H fO H')(M':fG fO H' fj)(c:lc d ds fj):∃ vs,H' p=some (.lst vs)/\fe fO H' ds vs:=by
 cases d with
 |lst es=>cases h;obtain⟨p',vs,e,n,hp,ha⟩:=i;cases e;exact⟨vs,f.keep _ _ n hp,ha.mono f⟩
 | mr k =>refine eS i λp' hp e=>?_;cases e;obtain⟨q,e1,vs,hv,ha⟩:=M'.at_ k _<|pW c;rw[f.get hp]at e1;cases e1;exact⟨vs,hv,ha⟩
 |_=>cases h
def YM (h:lv μ d=some ds):lc d ds μ:=by cases d<;>first|trivial|exact h
abbrev DK:=D->MS->Prop
abbrev De:=DE->MS->DK->Prop
abbrev DA:=DE->MS->(ao D->MS->Prop)->Prop
abbrev Dt:=DE->MS->(Bool->MS->Prop)->Prop
def uW (φ:ao aj)(H:Hp)(K:DK)(Q:VK):Prop:=∀ d fj fO v H',K d fj->Fr φ H fO H'->fG fO H' fj->kP fO H' d v->Q v H'
def uW.mono {K:DK}(h:uW φ H K Q)(f:Fr φ H fo H1):uW fo H1 K Q:=λd fj fO v H' k g m i=>h d fj fO v H' k (f.trans g) m i
def tD (w:De):TE:=λσ H Q=>∃ φ ρ μ K,kQ φ H ρ σ/\fG φ H μ/\w ρ μ K/\uW φ H K Q
def TZ (w:DA):TA:=λσ H Q=>∃ φ ρ μ K,kQ φ H ρ σ/\fG φ H μ/\w ρ μ K/\∀ ds fj fO vs H',K ds fj->Fr φ H fO H'->fG fO H' fj->fe fO H' ds vs->Q vs H'
def wF (w:Dt):TT:=λσ H Q=>∃ φ ρ μ K,kQ φ H ρ σ/\fG φ H μ/\w ρ μ K/\∀ b fj fO H',K b fj->Fr φ H fO H'->fG fO H' fj->Q b H'
section
variable {X:Cx}{a b e:Expr}{pos:Pos}
abbrev PD (X:Cx)(e:Expr)(w:De):Prop:=PE X e (tD w)
def ZP (i:Nat):De:=λρ μ K=>match ρ[i]? with|some (some d)=>K d μ|_=>False
def dC (d:D):De:=λ_ μ K=>K d μ
def dv (i:Nat)(hN:X.N[i]?=some x:=by rfl)(hv:To X.env.scope x:=by first | exact Or.inl rfl | exact Or.inr (Or.inl rfl) | exact Or.inr<|Or.inr rfl)(hd:(x==("__debug__" : Str))=false:=by decide)
 (yY:(x==("__classdict__" : Str))=false:=by decide):PD X (.Name x pos) (ZP i):=(A0 hN hv hd yY).imp λσ H Q q=>by
 refine fF q λφ ρ μ K E M w L=>?_;unfold ZP at w;split at w
 .rename_i d hd;refine eS (E.2 i d hd) λv e r=>?_;exact⟨v,e,L d μ φ v H w (.refl _ _) M r⟩
 .exact w.elim
def fc {i j pos}:PD X (.Constant (.int i) j pos) (dC<|.int i):=gF.imp λσ H Q h_=>fF h_ λφ ρ μ K E M w L=>L _ _ φ _ H w (.refl _ _) M rfl
def Q4 {b j pos}:PD X (.Constant (.bool b) j pos) (dC<|.bl b):=LQ.imp λσ H Q h_=>fF h_ λφ ρ μ K E M w L=>L _ _ φ _ H w (.refl _ _) M rfl
def Ta {j pos}:PD X (.Constant .none j pos) (dC .gw):=UN.imp λσ H Q h_=>fF h_ λφ ρ μ K E M w L=>L _ _ φ _ H w (.refl _ _) M rfl
def eQ {x j pos}:PD X (.Constant (.str x) j pos) (dC<|.str x):=UM.imp λσ H Q h_=>fF h_ λφ ρ μ K E M w L=>L _ _ φ _ H w (.refl _ _) M rfl
abbrev Ag:=D->D->MS->DK->Prop
def zJ (ro:Ag)(wa wb:De):De:=λρ μ K=>wa ρ μ λx eV=>wb ρ eV λy ik=>ro x y ik K
def p8 (r:R2)(ro:Ag):Prop:=∀ φ H x y dx dy μ K Q,fG φ H μ->kP φ H dx x->kP φ H dy y->ro dx dy μ K->uW φ H K Q->r x y H Q
def CG (so:p8 r ro)(h:tD (zJ ro wa wb) σ H Q):WS r (tD wa) (tD wb) σ H Q:=by refine fF h λφ ρ μ K E M w L=>?_;exact⟨φ,ρ,μ,_,E,M,w,λd1 eV fo v1 H1 k1 f1 M1 i1=>⟨fo,ρ,eV,_,E.mono f1,M1,k1,λd2 ik lQ v2 H2 k2 f2 M2 i2=>so lQ H2 v1 v2 d1 d2 ik K Q M2 (i1.mono f2) i2 k2<|L.mono<|f1.trans f2⟩⟩
def y8 (h:lj X (binaryOp op) r)(so:p8 r ro)(ha:PD X a wa)(hb:PD X b wb):PD X (.BinOp a op b pos) (zJ ro wa wb):=(lM h ha hb).imp λσ H Q q=>CG so q
def HQ (h:lj X (compareOp op) r)(so:p8 r ro)(ha:PD X a wa)(hb:PD X b wb)(hm:behindInMarks op b=false):PD X (.Compare a [op] [b] pos) (zJ ro wa wb):=(vX h ha hb hm).imp λσ H Q q=>CG so q
def d_ix (h:Ij X r)(so:p8 r ro)(ha:PD X a wa)(hb:PD X b wb)(hs:B6 b):PD X (.Subscript a b pos) (zJ ro wa wb):=(qK h ha hb hs).imp λσ H Q q=>CG so q
def sf (w:De):Dt:=λρ μ K=>w ρ μ λd fj=>match d with|.bl b=>K b fj|_=>False
def Ph (h:wF (sf w) σ H Q):cB (tD w) σ H Q:=by
 refine fF h λφ ρ μ K E M k L=>?_;refine⟨φ,ρ,μ,_,E,M,k,λd fj fO v H' k' f M' i=>?_⟩;cases d with
 |bl b=>subst i;exact L b fj fO H' k' f M'
 |_=>exact k'.elim
def l6 {w:De}(h:PD X e w)(he:∀ whole,isTrue e X.env whole=(do let v <- whole;standAt e.pos;holding [v] (truthy v)):=by intro _;rfl):PT X e (wF<|sf w):=(tR h he).imp λσ H Q q=>Ph q
def oK (h:lj X (compareOp op) r)(so:p8 r ro)(ha:PD X a wa)(hb:PD X b wb)(hm:behindInMarks op b=false):PT X (.Compare a [op] [b] pos) (wF<|sf<|zJ ro wa wb) :=
 (oC h ha hb hm).imp λσ H Q q=>by
  refine fF q λφ ρ μ K E M k L=>?_;refine CG so ⟨φ,ρ,μ,_,E,M,k,λd fj fO v H' k' f M' i=>?_⟩;cases d with
  |bl b=>subst i;exact L b fj fO H' k' f M'
  |_=>exact k'.elim
def NT (neg:Bool)(w:De):De:=λρ μ K=>w ρ μ λd fj=>match d with|.gw=>K (.bl<|!neg) fj|_=>K (.bl neg) fj
def Mq (i:kP φ H d v):decide (v=V.gw)=(match d with | .gw=>true | _=>false):=by
 cases d with
 |gw=>subst i;rfl
 |bl _=>subst i;rfl
 |int _=>subst i;rfl
 |str _=>subst i;rfl
 |lst _=>obtain⟨p,vs,rfl,_⟩:=i;rfl
 |tup _=>obtain⟨p,vs,rfl,_⟩:=i;rfl
 |lh _ _=>obtain⟨p,eP,vs,rfl,_⟩:=i;rfl
 |mr _=>obtain⟨p,_,rfl⟩:=i;rfl
 |obj _ _ _=>obtain⟨p,dx,fs,vs,rfl,_⟩:=i;rfl
 |pF _ _=>obtain⟨p,dx,fs,vs,rfl,_⟩:=i;rfl
 |fn _=>subst i;rfl
def TR (h:tD (NT false w) σ H Q):Xx (tD w) σ H Q:=by refine fF h λφ ρ μ K E M k L=>?_;refine⟨φ,ρ,μ,_,E,M,k,λd fj fO v H' k' f M' i=>?_⟩;show Q (.bl _) H';rw[Mq i];cases d<;>exact L _ fj fO _ H' k' f M' rfl
def GU (h:tD (NT true w) σ H Q):RX (tD w) σ H Q:=by refine fF h λφ ρ μ K E M k L=>?_;refine⟨φ,ρ,μ,_,E,M,k,λd fj fO v H' k' f M' i=>?_⟩;show Q (.bl _) H';rw[Mq i];cases d<;>exact L _ fj fO _ H' k' f M' rfl
end
section
variable {X:Cx}{a b e:Expr}{es:ao Expr}{pos:Pos}
def PA.imp (h:PA X es t)(hi:∀ σ H Q,t' σ H Q->t σ H Q):PA X es t':=λpos ee s σ H Q I q=>h pos ee s σ H Q I (hi σ H Q q)
def yt.imp {st:ao Stmt}(h:yt X st t)(hi:∀ D σ H,t' D σ H->t D σ H):yt X st t':=λee s σ H D I q=>h ee s σ H D I (hi D σ H q)
def BP:DA:=λ_ μ K=>K [] μ
def uc (wa:De)(wr:DA):DA:=λρ μ K=>wa ρ μ λx eV=>wr ρ eV λxs ik=>K (x::xs) ik
abbrev sA (X:Cx)(es:ao Expr)(w:DA):Prop:=PA X es (TZ w)
def fT:sA X [] BP:=hU.imp λσ H Q h_=>fF h_ λφ ρ μ K E M w L=>L [] μ φ [] H w (.refl _ _) M rfl
def eE (ha:PD X e wa)(hr:sA X es wr)(hs:starEach (e::es) X.env=(false,eval e X.env)::starEach es X.env:=by rfl):sA X (e::es) (uc wa wr):=(fh ha hr hs).imp λσ H Q q=>by refine fF q λφ ρ μ K E M w L=>?_;exact⟨φ,ρ,μ,_,E,M,w,λd1 eV fo v1 H1 k1 f1 M1 i1=>⟨fo,ρ,eV,_,E.mono f1,M1,k1,λds ik lQ vs H2 k2 f2 M2 i2=>L _ ik lQ _ H2 k2 (f1.trans f2) M2 ⟨v1,vs,rfl,i1.mono f2,i2⟩⟩⟩
def Wu {K:DK}(L:uW φ H K Q)(M:fG φ H μ)(h:fe φ H ds vs)(k:K (.lst ds) μ)(hp:H p=none):Q (.ref p) (upd H p<|.lst vs) :=
 L _ μ φ _ _ k (.new hp) (M.same<|gT.upd hp) ⟨p,vs,rfl,M.fresh hp,eZ,h.mono<|.new hp⟩
def Ot {K:DK}(L:uW φ H K Q)(M:fG φ H μ)(h:fe φ H ds vs)(k:K (.tup ds) μ)(hp:H p=none):Q (.ref p) (upd H p<|.tup vs) :=
 L _ μ φ _ _ k (.new hp) (M.same<|gT.upd hp) ⟨p,vs,rfl,M.fresh hp,eZ,h.mono<|.new hp⟩
def aaj {K:DK}(L:uW φ H K Q)(M:fG φ H μ)(h:fe φ H ds vs)(k:K (.mr μ.length) (μ++[.lst ds]))(hp:H p=none):Q (.ref p) (upd H p<|.lst vs):=by have f:Fr φ H (φ++[p]) (upd H p<|.lst vs):=⟨(Fr.snoc hp).ext,λc u _ e=>gT.upd hp _ _ e,λc e=>(gT.upd hp).free e⟩;obtain⟨M',_⟩:=M.snoc (m:=.lst ds) hp ⟨vs,eZ,h.mono f⟩;exact L _ _ _ _ _ k f M' ⟨p,by rw[ou (M.len▸au _),M.len,aO];rfl,rfl⟩
def nL (m:Bool)(ds:ao D)(μ:MS)(K:DK):Prop:=match m with|false=>K (.lst ds) μ|true=>K (.mr μ.length) (μ++[.lst ds])
def Ey {K:DK}(L:uW φ H K Q)(M:fG φ H μ)(h:fe φ H ds vs)(k:nL m ds μ K)(hp:H p=none):Q (.ref p) (upd H p<|.lst vs):=by
 cases m with
 |false=>exact Wu L M h k hp
 |true=>exact aaj L M h k hp
def dLst (m:Bool)(w:DA):De:=λρ μ K=>w ρ μ λds eV=>ds.length<=sizeLine/\nL m ds eV K
def dTup (w:DA):De:=λρ μ K=>w ρ μ λds eV=>ds.length<=sizeLine/\K (.tup ds) eV
def gG (m:Bool)(h:sA X es w):PD X (.List es pos) (dLst m w):=(LJ h).imp λσ H Q h_=>fF h_ λφ ρ μ K E M w L =>⟨φ,ρ,μ,_,E,M,w,λds eV fo vs H1 k1 f1 M1 i1=>⟨i1.len▸k1.1,λp hp=>Ey (L.mono f1) M1 i1 k1.2 hp⟩⟩
def lN {x1}(h:sA X es w):PD X (.Tuple es x1 pos) (dTup w):=(UL h).imp λσ H Q h_=>fF h_ λφ ρ μ K E M w L =>⟨φ,ρ,μ,_,E,M,w,λds eV fo vs H1 k1 f1 M1 i1=>⟨i1.len▸k1.1,λp hp=>Ot (L.mono f1) M1 i1 k1.2 hp⟩⟩
abbrev ot:=ao D->MS->DK->Prop
def kT (f:ot):Sp:=λvs H Q _=>∃ φ ds μ K,fe φ H ds vs/\fG φ H μ/\f ds μ K/\uW φ H K Q
def zL (f:ot)(w:DA):De:=λρ μ K=>w ρ μ λds eV=>f ds eV K
def Wb (C:yw X.prog X.w X.K X.mg X.eB x k ps (kT f))(hr:iq k X.A)(hg:Gl X x)(ha:sA X (e::es) w)
 (sY:(x==("__debug__" : Str))=false:=by decide) (he:starEach (e::es) X.env=(false,eval e X.env)::starEach es X.env:=by rfl) (lU:(backTo pos<|starEach es X.env).any (·.1)=false:=by rfl):
 PD X (.Call (.Name x p) (e::es) [] pos) (zL f w):=(xh C hr hg ha sY he lU).imp λσ H Q h_=>fF h_ λφ ρ μ K E M w L=>
 ⟨φ,ρ,μ,_,E,M,w,λds eV fo vs H1 k1 f1 M1 i1=>by show kT f (vs++[]) H1 Q E0;rw[bg];exact⟨fo,ds,eV,K,i1,M1,k1,L.mono f1⟩⟩
def mY (r:ao V->Hp->VK->Prop)(f:ot):Prop:=∀ φ H vs ds μ K Q,fG φ H μ->fe φ H ds vs->f ds μ K->uW φ H K Q->r vs H Q
def RY (so:mY r f)(h:tD (zL f w) σ H Q):tCB r (TZ w) σ H Q:=by refine fF h λφ ρ μ K E M w L=>?_;exact⟨φ,ρ,μ,_,E,M,w,λds eV fo vs H1 k1 f1 M1 i1=>so fo H1 vs ds eV K Q M1 i1 k1<|L.mono f1⟩
def yc {id:String}(hc:jg X (.builtin id) r)(so:mY r f)(hg:Gl X x)(hm:X.mg x=none)(hv:bootBuiltins x=some (.builtin id))(ha:sA X (e::es) w)(hn:x ≠ "__name__":=by decide)(sY:(x==("__debug__" : Str))=false:=by decide)
 (he:starEach (e::es) X.env=(false,eval e X.env)::starEach es X.env:=by rfl) (lU:(backTo pos<|starEach es X.env).any (·.1)=false:=by rfl):PD X (.Call (.Name x p) (e::es) [] pos) (zL f w):=
 (gv hc hg hm hv ha hn sY he lU).imp λσ H Q q=>RY so q
def NH (hc:jg X (.type T) r)(so:mY r f)(hg:Gl X x)(hm:X.mg x=none)(hv:bootBuiltins x=some (.type T))(ha:sA X (e::es) w)(hn:x ≠ "__name__":=by decide)(sY:(x==("__debug__" : Str))=false:=by decide)
 (he:starEach (e::es) X.env=(false,eval e X.env)::starEach es X.env:=by rfl) (lU:(backTo pos<|starEach es X.env).any (·.1)=false:=by rfl):PD X (.Call (.Name x p) (e::es) [] pos) (zL f w):=
 (zo hc hg hm hv ha hn sY he lU).imp λσ H Q q=>RY so q
abbrev O0:=D->ao D->MS->DK->Prop
def B5 (K:aa)(T:String)(r:V->ao V->Hp->VK->Prop)(f:O0):Prop:=∀ φ H x vs d ds μ K' Q,fG φ H μ->kP φ H d x->fe φ H ds vs->f d ds μ K'->uW φ H K' Q->r x vs H Q
def Tp (T:String)(μ:MS):D->Prop
 |.str _=>T = "str"
 |.lst _=>T = "list"
 |.lh _ _=>T = "dict"
 |.mr k=>match μ[k]? with|some (.lst _)=>T = "list" | some (.lh _ _)=>T = "dict" | _=>False
 |_=>False
def Tp.is (M:fG φ H μ)(i:kP φ H d v)(h:Tp T μ d):tyV Kf T v H:=by
 cases d with
 |str z=>subst i;exact h
 |lst ds=>obtain⟨p,vs,rfl,_,hp,_⟩:=i;exact .inl ⟨h,vs,qv.of hp⟩
 |lh ks ds=>obtain⟨p,eP,vs,rfl,_,hp,_⟩:=i;exact .inr (.inr<|.inl ⟨h,.inl ⟨eP,hp⟩⟩)
 | mr k =>
  obtain⟨p,hp,rfl⟩:=i;delta Tp at h;dsimp only at h;cases e:μ[k]? with
  |none=>rw[e]at h;exact h.elim
  | some m =>
   refine eS (M.at_ k m e) λq e1 e2=>?_;rw[hp]at e1;cases e1;rw[e]at h;cases m with
   |box=>exact h.elim
   |lst ds=>let ⟨vs,hv,_⟩:=e2;exact .inl ⟨h,vs,qv.of hv⟩
   |lh ks ds=>let ⟨eP,vs,hv,_⟩:=e2;exact .inr (.inr<|.inl ⟨h,.inl ⟨eP,hv⟩⟩)
   |_=>exact h.elim
 |_=>exact h.elim
def dMt (T:String)(f:O0)(wo:De)(w:DA):De:=λρ μ K=>wo ρ μ λx eV=>Tp T eV x/\w ρ eV λds ik=>f x ds ik K
def Ef {id:String}(pa:PlainAttrs T)(slot:Slot T name id)(Mx:typeOf (.builtin id)=pure (.type "method_descriptor"))(hm:B7 X id r)(so:B5 X.K T r f)(ho:PD X o wo)(ha:sA X (e::es) w)
 (iF:attributeBase o name X.env (eval o X.env)=eval o X.env:=by rfl)
 (xG:((backTo fW<|starEach (e::es) X.env).all (λx=>!x.1)&&(backToKw fW<|keywordEach [] X.env).all (λx=>x.1.isSome)
   && decide ((e::es).length+([]:ao Keyword).length+(if([]:ao Keyword).isEmpty then 0 else 1)<30))=true:=by rfl)
 (iZ:(fZ.endLine==fW.line)=true:=by rfl) (hs:starEach (e::es) X.env=(false,eval e X.env)::starEach es X.env:=by rfl) (xF:(backTo fW<|starEach es X.env).any (·.1)=false:=by rfl):
 PD X (.Call (.Attribute o name fZ) (e::es) [] fW) (dMt T f wo w):=(Yh pa slot Mx hm ho ha iF xG iZ hs xF).imp λσ H Q q=>by
 refine fF q λφ ρ μ K E M w L=>?_;exact⟨φ,ρ,μ,_,E,M,w,λd1 eV fo v1 H1 k1 f1 M1 i1=>⟨Tp.is M1 i1 k1.1,⟨fo,ρ,eV,_,E.mono f1,M1,k1.2,λds ik lQ vs H2 k2 f2 M2 i2=>so lQ H2 v1 vs d1 ds ik K Q M2 (i1.mono f2) i2 k2<|L.mono<|f1.trans f2⟩⟩⟩
def HN {id:String}(pa:PlainAttrs T)(slot:Slot T name id)(Mx:typeOf (.builtin id)=pure (.type "method_descriptor"))(hm:B7 X id r)(so:B5 X.K T r f)(ho:PD X o wo)
 (iF:attributeBase o name X.env (eval o X.env)=eval o X.env:=by rfl) (iZ:(fZ.endLine==fW.line)=true:=by rfl):PD X (.Call (.Attribute o name fZ) [] [] fW) (dMt T f wo BP):=(UR pa slot Mx hm ho iF iZ).imp λσ H Q q=>by
 refine fF q λφ ρ μ K E M w L=>?_;exact⟨φ,ρ,μ,_,E,M,w,λd1 eV fo v1 H1 k1 f1 M1 i1=>⟨Tp.is M1 i1 k1.1,so fo H1 v1 [] d1 [] eV K Q M1 i1 rfl k1.2<|L.mono f1⟩⟩
def dAnd (wa wb:De):De:=λρ μ K=>wa ρ μ λx eV=>match x with|.bl c=>if c=true then wb ρ eV K else K (.bl false) eV|_=>False
def dNot (wa:De):De:=λρ μ K=>wa ρ μ λx eV=>match x with|.bl c=>K (.bl<|!c) eV|_=>False
def Tc {rest:ao Expr}(ha:PD X a wa)(hb:PD X (.BoolOp .And (b::rest) pos) wb):PD X (.BoolOp .And (a::b::rest) pos) (dAnd wa wb):=(vY ha hb).imp λσ H Q q=>by
 refine fF q λφ ρ μ K E M w L=>?_;refine⟨φ,ρ,μ,_,E,M,w,λd1 eV fo v1 H1 k1 f1 M1 i1=>?_⟩;cases d1 with
 | bl c =>
  subst i1;cases c with
  |true=>exact⟨fo,ρ,eV,_,E.mono f1,M1,k1,L.mono f1⟩
  |false=>exact L _ eV fo _ H1 k1 f1 M1 rfl
 |_=>exact k1.elim
def SY {op}(h:PD X a w):PD X (.BoolOp op [a] pos) w:=Fl h
def S9 (ha:PD X a wa):PD X (.UnaryOp .Not a pos) (dNot wa):=(Qe ha).imp λσ H Q q=>by
 refine fF q λφ ρ μ K E M w L=>?_;refine⟨φ,ρ,μ,_,E,M,w,λd1 eV fo v1 H1 k1 f1 M1 i1=>?_⟩;cases d1 with
 |bl c=>subst i1;exact L _ eV fo _ H1 k1 f1 M1 rfl
 |_=>exact k1.elim
def dNeg (wa:De):De:=λρ μ K=>wa ρ μ λx eV=>match x with|.int i=>K (.int<|-i) eV|_=>False
def ZN (ha:PD X a wa):PD X (.UnaryOp .USub a pos) (dNeg wa):=(Yg Tw ha).imp λσ H Q q=>by
 refine fF q λφ ρ μ K E M w L=>?_;refine⟨φ,ρ,μ,_,E,M,w,λd1 eV fo v1 H1 k1 f1 M1 i1=>?_⟩;cases d1 with
 |int c=>subst i1;exact⟨c,rfl,L _ eV fo _ H1 k1 f1 M1 rfl⟩
 |_=>exact k1.elim
def SR (t u:Dt):Dt:=λρ μ K=>t ρ μ λc eV=>if c=true then u ρ eV K else K false eV
def V3 (t u:Dt):Dt:=λρ μ K=>t ρ μ λc eV=>if c=true then K true eV else u ρ eV K
def SQ (t:Dt):Dt:=λρ μ K=>t ρ μ λc eV=>K (!c) eV
abbrev GI (X:Cx)(e:Expr)(w:Dt):Prop:=PT X e (wF w)
def Pk (h:wF (SR t u) σ H Q):XF (wF t) (wF u) σ H Q:=by
 refine fF h λφ ρ μ K E M w L=>?_;refine⟨φ,ρ,μ,_,E,M,w,λb eV fo H1 k1 f1 M1=>?_⟩;cases b with
 |true=>exact⟨fo,ρ,eV,_,E.mono f1,M1,k1,λb ik lQ H2 k2 f2 M2=>L b ik lQ H2 k2 (f1.trans f2) M2⟩
 |false=>exact L _ eV fo H1 k1 f1 M1
def TX (h:wF (V3 t u) σ H Q):tOr (wF t) (wF u) σ H Q:=by
 refine fF h λφ ρ μ K E M w L=>?_;refine⟨φ,ρ,μ,_,E,M,w,λb eV fo H1 k1 f1 M1=>?_⟩;cases b with
 |false=>exact⟨fo,ρ,eV,_,E.mono f1,M1,k1,λb ik lQ H2 k2 f2 M2=>L b ik lQ H2 k2 (f1.trans f2) M2⟩
 |true=>exact L _ eV fo H1 k1 f1 M1
abbrev Xh (X:Cx)(e:Expr)(w:Dt):Prop:=PW X e (wF w)
def PW.imp (h:PW X e t)(hi:∀ σ H Q,t' σ H Q->t σ H Q):PW X e t':=λwh ee s σ H Q I q=>h wh ee s σ H Q I (hi σ H Q q)
def TL (h:GI X a t):Xh X (.BoolOp .And [a] pos) t:=pw_and1 h
def tG (h:GI X a t):Xh X (.BoolOp .Or [a] pos) t:=pw_or1 h
def Xr {rest:ao Expr}(ha:GI X a t)(hb:Xh X (.BoolOp .And (b::rest) pos) u):Xh X (.BoolOp .And (a::b::rest) pos) (SR t u):=(pw_and ha hb).imp λσ H Q q=>Pk q
def yJ {rest:ao Expr}(ha:GI X a t)(hb:Xh X (.BoolOp .Or (b::rest) pos) u):Xh X (.BoolOp .Or (a::b::rest) pos) (V3 t u):=(pw_or ha hb).imp λσ H Q q=>TX q
def CD (h:GI X a t):GI X (.UnaryOp .Not a pos) (SQ t):=(Uy h).imp λσ H Q q=>by refine fF q λφ ρ μ K E M w L=>?_;exact⟨φ,ρ,μ,_,E,M,w,λb eV fo H1 k1 f1 M1=>L _ eV fo H1 k1 f1 M1⟩
def dIf (t:Dt)(wa wb:De):De:=λρ μ K=>t ρ μ λc eV=>if c=true then wa ρ eV K else wb ρ eV K
def d_if (hc:GI X c t)(ha:PD X a wa)(hb:PD X b wb):PD X (.IfExp c a b pos) (dIf t wa wb):=(LL hc ha hb).imp λσ H Q q=>by
 refine fF q λφ ρ μ K E M w L=>?_;refine⟨φ,ρ,μ,_,E,M,w,λb eV fo H1 k1 f1 M1=>?_⟩;cases b with
 |true=>exact⟨fo,ρ,eV,_,E.mono f1,M1,k1,L.mono f1⟩
 |false=>exact⟨fo,ρ,eV,_,E.mono f1,M1,k1,L.mono f1⟩
def V8 {j pos'}(h:PD X a w):PD X (.Compare a [.IsNot] [.Constant .none j pos'] pos) (NT true w):=(UQ<|Hh h).imp λσ H Q q=>GU q
def GY (hi:∀ Q,tD w σ H Q->t σ H Q)(h:wF (sf w) σ H Q):tB t σ H Q:=by
 refine fF h λφ ρ μ K E M k L=>?_;refine hi _ ⟨φ,ρ,μ,_,E,M,k,λd fj fO v H' k' f M' i=>?_⟩;cases d with
 |bl b=>subst i;exact⟨b,rfl,L b fj fO H' k' f M'⟩
 |_=>exact k'.elim
def RV {j pos'}(h:PD X a w):GI X (.Compare a [.Is] [.Constant .none j pos'] pos) (sf<|NT false w):=(AX<|US h).imp λσ H Q q=>GY (λQ q=>TR q) q
def Ao {j pos'}(h:PD X a w):GI X (.Compare a [.IsNot] [.Constant .none j pos'] pos) (sf<|NT true w):=(AX<|Hh h).imp λσ H Q q=>GY (λQ q=>GU q) q
end
structure DN where
 nx:DE->MS->Prop
 rt:DK
 bk:DE->MS->Prop:=λ_ _=>False
 ct:DE->MS->Prop:=λ_ _=>False
abbrev Ds:=DN->DE->MS->Prop
def Oy (φ:ao aj)(H:Hp)(k:DE->MS->Prop)(q:St->Hp->Prop):Prop:=∀ jV fj fO gL H',k jV fj->Fr φ H fO H'->kQ fO H' jV gL->fG fO H' fj->q gL H'
def Oy.mono (h:Oy φ H k q)(f:Fr φ H fo H1):Oy fo H1 k q:=λjV fj fO gL H' a b c d=>h jV fj fO gL H' a (f.trans b) c d
structure LiN (φ:List aj)(H:Hp)(N:DN)(E:Ends):Prop where
 nx:Oy φ H N.nx E.nx
 rt:uW φ H N.rt E.rt
 bk:Oy φ H N.bk E.bk
 ct:Oy φ H N.ct E.ct
theorem LiN.mono (h:LiN φ H N E)(f:Fr φ H fo H1):LiN fo H1 N E:=⟨h.nx.mono f,h.rt.mono f,h.bk.mono f,h.ct.mono f⟩
def OI (w:Ds):TS:=λE σ H=>∃ φ ρ μ N,kQ φ H ρ σ/\fG φ H μ/\w N ρ μ/\LiN φ H N E
abbrev yF (X:Cx)(st:Stmt)(w:Ds):Prop:=PS X st (OI w)
abbrev zc (X:Cx)(st:ao Stmt)(w:Ds):Prop:=yt X st (OI w)
section
variable {X:Cx}{a b e:Expr}{es:ao Expr}{pos:Pos}{st:Stmt}{rest:ao Stmt}
def ZU:Ds:=λN ρ μ=>N.nx ρ μ
def Wd (t u:Ds):Ds:=λN ρ μ=>t { N with nx:=λjV fj=>u N jV fj} ρ μ
def Rb (t u:Ds):Ds:=λN ρ μ=>∃ M:DE->MS->Prop,t { N with nx:=M} ρ μ/\∀ jV fj,M jV fj->u N jV fj
def gb:zc X [] ZU:=ni.imp λE σ H h_=>fF h_ λφ ρ μ N A M w L=>L.nx ρ μ φ σ H w (.refl _ _) A M
def eK (h1:yF X st t)(h2:zc X rest u):zc X (st::rest) (Wd t u):=(gN h1 h2).imp λE σ H h_=>fF h_ λφ ρ μ N A M w L =>⟨φ,ρ,μ,_,A,M,w,⟨λjV fj fO gL H' k f A' M'=>⟨fO,jV,fj,N,A',M',k,L.mono f⟩,L.rt,L.bk,L.ct⟩⟩
def oN (h1:yF X st t)(h2:zc X rest u):zc X (st::rest) (Rb t u):=(gN h1 h2).imp λE σ H ⟨φ,ρ,μ,N,A,M,⟨P,w1,w2⟩,L⟩ =>⟨φ,ρ,μ,_,A,M,w1,⟨λjV fj fO gL H' k f A' M'=>⟨fO,jV,fj,N,A',M',w2 jV fj k,L.mono f⟩,L.rt,L.bk,L.ct⟩⟩
def eU (h:yF X st t):zc X [st] t:=lY h
def Wf:Ds:=λ_ _ _=>False
def PF:yF X st Wf:=LD.imp λE σ H h_=>fF h_ λφ ρ μ N A M w L=>w
def Z6 (w:De):Ds:=λN ρ μ=>w ρ μ λ_ fj=>N.nx ρ fj
def ft (h:PD X e w)(hs:swapsWith e none pos.line X.env=pure false:=by rfl):yF X (.Expr e pos) (Z6 w):=(PV h hs).imp λE σ H h_=>fF h_ λφ ρ μ N A M w L=>⟨φ,ρ,μ,_,A,M,w,λd eV fo v1 H1 k1 f1 M1 i1=>L.nx ρ eV fo σ H1 k1 f1 (A.mono f1) M1⟩
def dRet (w:De):Ds:=λN ρ μ=>w ρ μ N.rt
def fX (h:PD X e w):yF X (.Return (some e) pos) (dRet w):=(oW h).imp λE σ H h_=>fF h_ λφ ρ μ N A M w L=>⟨φ,ρ,μ,_,A,M,w,L.rt⟩
def JU (c:Dt)(t u:Ds):Ds:=λN ρ μ=>c ρ μ λb eV=>if b=true then t N ρ eV else u N ρ eV
def iu (hc:GI X c t)(h1:zc X body u)(h2:zc X orelse v):yF X (.If c body orelse pos) (JU t u v):=(u9 hc h1 h2).imp λE σ H h_=>fF h_ λφ ρ μ N A M w L =>
 ⟨φ,ρ,μ,_,A,M,w,λb eV fo H1 k1 f1 M1=>by
  cases b with
  |true=>exact⟨fo,ρ,eV,N,A.mono f1,M1,k1,L.mono f1⟩
  |false=>exact⟨fo,ρ,eV,N,A.mono f1,M1,k1,L.mono f1⟩⟩
def NP (i:Nat)(w:De):Ds:=λN ρ μ=>w ρ μ λd fj=>N.nx (ρ.set i<|some d) fj
def XU (hN:X.N.Nodup)(hi:X.N[i]?=some x)(hx:Loc X.env.scope x)(he:PD X e w)(hf:X.fn x=true\/X.env.scope.names.lookup x=some .local:=by first | exact .inl rfl | exact .inr rfl | assumption)
 (My:swapsWith e (some<|.Name x pos') pos.line X.env=pure false:=by rfl):yF X (.Assign [.Name x pos'] e pos) (NP i w):=(uC (pos':=pos') hN hi hx he My hf).imp λE σ H h_=>fF h_ λφ ρ μ N A M w L=>
 ⟨φ,ρ,μ,_,A,M,w,λd eV fo v1 H1 k1 f1 M1 i1=>L.nx _ eV fo _ H1 k1 f1 ((A.mono f1).set i1 i) M1⟩
abbrev DG:=D->DE->MS->(DE->MS->Prop)->Prop
abbrev Tq:=ao D->DE->MS->(DE->MS->Prop)->Prop
def OZ (g:TG)(w:DG)(S:ao Nat):Prop:=∀ φ H ρ σ μ d v K,kQ φ H ρ σ->fG φ H μ->kP φ H d v->w d ρ μ K->g v σ H λpD H2=>H2=H/\pD.length=σ.length/\(∀ i,i∉S->pD[i]?=σ[i]?)/\∃ qt,kQ φ H qt pD/\K qt μ
def Ow (g:EC)(w:Tq)(S:ao Nat):Prop:=∀ φ H ρ σ μ ds vs K,kQ φ H ρ σ->fG φ H μ->fe φ H ds vs->w ds ρ μ K->g vs σ H λpD H2=>H2=H/\pD.length=σ.length/\(∀ i,i∉S->pD[i]?=σ[i]?)/\∃ qt,kQ φ H qt pD/\K qt μ
def rq (g:TG):Prop:=∀ v σ H Q Q',(∀ gL H',Q gL H'->Q' gL H')->g v σ H Q->g v σ H Q'
def uV (g:EC):Prop:=∀ v σ H Q Q',(∀ gL H',Q gL H'->Q' gL H')->g v σ H Q->g v σ H Q'
def Nz (i:Nat):DG:=λd ρ μ K=>K (ρ.set i<|some d) μ
def SW (n:Nat)(t:Tq):DG:=λd ρ μ K=>match d with|.tup ds=>ds.length=n/\t ds ρ μ K|_=>False
def NA (t:DG)(u:Tq):Tq:=λds ρ μ K=>match ds with|d::r=>t d ρ μ λjV fj=>u r jV fj K|[]=>False
def SX:Tq:=λds ρ μ K=>match ds with|[]=>K ρ μ|_=>False
def vU (i:Nat):OZ (xN i) (Nz i) [i]:=λφ H ρ σ μ d v K E M h w=>⟨rfl,aR,λj hj=>aA λz=>hj<|by simp[z],_,E.set h i,w⟩
def pV (i:Nat):rq (xN i):=λv σ H Q Q' h q=>h _ _ q
def K8:Ow Ol SX []:=λφ H ρ σ μ ds vs K E M h w=>by
 cases ds with
 |nil=>subst h;exact⟨rfl,rfl,λ_ _=>rfl,ρ,E,w⟩
 |cons d r=>exact w.elim
def Bk:uV Ol:=λv σ H Q Q' h q=>by
 cases v with
 |nil=>exact h _ _ q
 |cons x r=>exact q
def v8 (h1:rq g)(h2:uV u):uV (Ep g u):=λv σ H Q Q' h q=>by
 cases v with
 |nil=>exact q
 |cons x r=>exact h1 _ _ _ _ _ (λgL H' q'=>h2 _ _ _ _ _ h q') q
def L6 (h2:uV u):rq (Oj n u):=λv σ H Q Q' h q=>by
 cases v with
 |ref a=>let ⟨xs,e,l,q⟩:=q;exact⟨xs,e,l,h2 _ _ _ _ _ h q⟩
 |_=>exact q
def As (h1:OZ g w S)(m1:rq g)(h2:Ow u y T)(m2:uV u):Ow (Ep g u) (NA w y) (S++T):=λφ H ρ σ μ ds vs K E M h k=>by
 cases ds with
 |nil=>exact k.elim
 | cons d r =>refine fw h λv vr fE hd hr=>?_;subst fE;refine m1 _ _ _ _ _ (λCt H1 MB=>?_)<|h1 φ H ρ σ μ d v _ E M hd k;obtain⟨e1,l1,n1,ρ1,E1,k1⟩:=MB;subst e1;refine m2 _ _ _ _ _ (λpD H2 MA=>?_)<|h2 φ H1 ρ1 Ct μ r vr K E1 M hr k1;obtain⟨e2,l2,n2,qt,E2,k2⟩:=MA;refine⟨e2,l2.trans l1,λi hi=>?_,qt,E2,k2⟩;rw[n2 i (λz=>hi<|aQ _ z),n1 i (λz=>hi<|bT _ z)]
def K7 (h2:Ow u y S):OZ (Oj n u) (SW n y) S:=λφ H ρ σ μ d v K E M h k=>by
 cases d with
 | tup ds =>refine jX h λp vs fE hn hp ha=>?_;subst fE;exact⟨vs,hp,ha.len▸k.1,h2 φ H ρ σ μ ds vs K E M ha k.2⟩
 |_=>exact k.elim
structure Tg (X:Cx)(tg:Expr)(g:TG)(w:DG)(S:List Nat):Prop where
 pg:PG X tg g
 so:OZ g w S
 mo:rq g
def dAsg (w:De)(g:DG):Ds:=λN ρ μ=>w ρ μ λd eV=>g d ρ eV N.nx
def lX (he:PD X e w)(hg:Tg X tg g y S)(hs:swapsWithSole [tg] e pos.line X.env=pure false:=by rfl)(hw:swappedStores [tg] e X.env=pure none:=by rfl)
 (h1:(assignEach [tg] X.env).map (·.2)=[assign tg X.env]:=by rfl):yF X (.Assign [tg] e pos) (dAsg w y):=(xf he hg.pg hs hw h1).imp λE σ H h_=>fF h_ λφ ρ μ N A M w L=>
 ⟨φ,ρ,μ,_,A,M,w,λd eV fo v1 H1 k1 f1 M1 i1=>hg.mo _ _ _ _ _ (λpD H2 ⟨e2,_,_,qt,E2,k2⟩=>by subst e2;exact L.nx qt eV fo pD _ k2 f1 E2 M1)<|hg.so fo H1 ρ σ eV d v1 _ (A.mono f1) M1 i1 k1⟩
def Ww (t:RC)(ro:Ag):Prop:=∀ φ H x y dx dy μ K Q,fG φ H μ->kP φ H dx x->kP φ H dy y->ro dx dy μ K->uW φ H K Q->t x y H Q
def Z9 (i:Nat)(w:De)(ro:Ag):Ds:=λN ρ μ=>match ρ[i]? with|some (some x)=>w ρ μ λy eV=>ro x y eV λz ik=>N.nx (ρ.set i<|some z) ik|_=>False
def R6 (hN:X.N.Nodup)(hi:X.N[i]?=some x)(hx:Loc X.env.scope x)(he:PD X e w)(ho:Xg X op ti)(so:Ww ti ro)(hf:X.fn x=true\/X.env.scope.names.lookup x=some .local:=by first | exact .inl rfl | exact .inr rfl | assumption):
 yF X (.AugAssign (.Name x pos') op e pos) (Z9 i w ro):=(UD (pos':=pos') hN hi hx he ho hf).imp λE σ H h_=>fF h_ λφ ρ μ N A M w L=>by
 delta Z9 at w;split at w
 .rename_i d hd;refine eS (A.2 i d hd) λv hv hdv=>?_;exact⟨v,hv,φ,ρ,μ,_,A,M,w,λd1 eV fo v1 H1 k1 f1 M1 i1=>so fo H1 _ _ d d1 eV _ _ M1 (hdv.mono f1) i1 k1 λd2 ik lQ v2 H2 k2 f2 M2 i2=>L.nx _ ik lQ _ H2 k2 (f1.trans f2) ((A.mono<|f1.trans f2).set i2 i) M2⟩
 .exact w.elim
def Wc (c:Dt)(b:Ds):Ds:=λN ρ μ=>∃ W:Nat->DE->MS->Prop,(∃ m,W m ρ μ)/\∀ m ρ μ,W m ρ μ ->
 c ρ μ λt eV=>if t=true then b { N with nx:=λjV fj=>∃ m',m'<m/\W m' jV fj,ct:=λjV fj=>∃ m',m'<m/\W m' jV fj,bk:=N.nx} ρ eV else N.nx ρ eV
def G5 (hp:PassesOwn (model X.prog X.w) X.A X.env X.xe)(hc:GI X c t)(hb:zc X body u):yF X (.While c body [] pos) (Wc t u):=(LC hp hc hb).imp λE σ H ⟨φ,ρ,μ,N,A,M,⟨W,⟨m0,w0⟩,turn⟩,L⟩=>by
 refine⟨λm gL H'=>∃ fO jV fj,Fr φ H fO H'/\kQ fO H' jV gL/\fG fO H' fj/\W m jV fj,⟨m0,φ,ρ,μ,.refl _ _,A,M,w0⟩,?_⟩;refine λm gL H' h_=>Gw h_ λfO jV fj f' A' M' w'=>?_;refine⟨fO,jV,fj,_,A',M',turn m jV fj w',λb eV fo H1 k1 f1 M1=>?_⟩;cases b with
 | true =>refine⟨λpD H2=>∃ m',m'<m/\∃ lQ qt ik,Fr φ H lQ H2/\kQ lQ H2 qt pD/\fG lQ H2 ik/\W m' qt ik,λpD H2 q=>q,fo,jV,eV,_,A'.mono f1,M1,k1,?_⟩;have nx:Oy fo H1 (λjV fj=>∃ m',m'<m/\W m' jV fj) λpD H2=>∃ m',m'<m/\∃ lQ qt ik,Fr φ H lQ H2/\kQ lQ H2 qt pD/\fG lQ H2 ik/\W m' qt ik:=λqt ik lQ pD H2 ⟨m',hm,w2⟩ f2 A2 M2=>⟨m',hm,lQ,qt,ik,(f'.trans f1).trans f2,A2,M2,w2⟩;exact⟨nx,L.rt.mono<|f'.trans f1,L.nx.mono<|f'.trans f1,nx⟩
 |false=>exact L.nx jV eV fo gL H1 k1 (f'.trans f1) (A'.mono f1) M1
def Wk (J:It)(φ:ao aj)(H:Hp)(ds:ao D)(c:MS->Prop):Prop:=∀ fO H' fj,Fr φ H fO H'->fG fO H' fj->c fj->∀ i,
 (∀ d,ds[i]?=some d->J.go i H'/\∀ x Oz,J.KC i H' x Oz->Fr fO H' fO Oz/\fG fO Oz fj/\kP fO Oz d x)/\(i=ds.length->J.stop i H')
abbrev DI:=DE->MS->(ao D->(MS->Prop)->MS->Prop)->Prop
def XB (w:DI):TI:=λσ H R=>∃ φ ρ μ K,kQ φ H ρ σ/\fG φ H μ/\w ρ μ K/\∀ ds c fj fO J H',K ds c fj->Fr φ H fO H'->fG fO H' fj->Wk J fO H' ds c->R J H'
abbrev J0 (X:Cx)(tg iter:Expr)(w:DI):Prop:=PI X tg iter (XB w)
def PI.imp (h:PI X tg iter t)(hi:∀ σ H Q,t' σ H Q->t σ H Q):PI X tg iter t':=λee s σ H Q I q=>h ee s σ H Q I (hi σ H Q q)
def Bp (g:DG)(b:Ds)(N:DN)(c:MS->Prop):ao D->DE->MS->Prop
 |[],ρ,μ=>c μ/\N.nx ρ μ
 |d::ds,ρ,μ=>c μ/\g d ρ μ λqt ik=>b { N with nx:=λjV fj=>Bp g b N c ds jV fj,ct:=λjV fj=>Bp g b N c ds jV fj,bk:=N.nx} qt ik
def dFor (wi:DI)(g:DG)(b:Ds):Ds:=λN ρ μ=>wi ρ μ λds c eV=>Bp g b N c ds ρ eV
def wX {tg iter:Expr}{body:ao Stmt}{wi:DI}{g:TG}{y:DG}{S:ao Nat}{u:Ds}(hp:PassesOwn (model X.prog X.w) X.A X.env X.xe)(hc:X.gE=true)(hi:J0 X tg iter wi)(hg:Tg X tg g y S)(hb:zc X body u)
 (hs:∀ x,foldedSetIterable iter X.env x=pure x:=by intro _;rfl):yF X (.For tg iter body [] pos) (dFor wi y u):=(UB hp hc hi hg.pg hb hs).imp λE σ H h_=>fF h_ λφ ρ μ N A M w L=>by
 refine⟨φ,ρ,μ,_,A,M,w,λds c eV fo J H1 k1 f1 M1 wk=>⟨λi m gL H'=>m=ds.length - i/\i<=ds.length/\∃ fO jV fj,Fr fo H1 fO H'/\kQ fO H' jV gL/\fG fO H' fj/\Bp y u N c (ds.drop i) jV fj,⟨ds.length,rfl,bp _,fo,ρ,eV,.refl _ _,A.mono f1,M1,k1⟩,?_⟩⟩;rintro i m gL H' ⟨rfl,hi,fO,jV,fj,f',A',M',w'⟩;by_cases uq:i<ds.length
 .rw[cA uq]at w';refine jS w' λc' w'=>?_;refine jS ((wk fO H' fj f' M' c' i).1 ds[i]<|vk uq) λgo KC=>?_;refine .inr ⟨go,λpD H2=>∃ lQ qt ik,Fr fo H1 lQ H2/\kQ lQ H2 qt pD/\fG lQ H2 ik/\Bp y u N c (ds.drop<|i+1) qt ik,λpD H2 q=>⟨ds.length - (i+1),by lia,rfl,uq,q⟩,λx H2 hy=>?_⟩;refine rh (KC x H2 hy) λf2 M2 i2=>?_;refine hg.mo _ _ _ _ _ (λGR H3 FQ=>?_)<|hg.so fO H2 jV gL fj _ x _ (A'.mono f2) M2 i2 w';obtain⟨e3,_,_,RO,E3,k3⟩:=FQ;subst e3;refine⟨fO,RO,fj,_,E3,M2,k3,?_⟩;have nx:Oy fO H3 (λjV fj=>Bp y u N c (ds.drop<|i+1) jV fj) λpD H2=>∃ lQ qt ik,Fr fo H1 lQ H2/\kQ lQ H2 qt pD/\fG lQ H2 ik/\Bp y u N c (ds.drop<|i+1) qt ik:=λqt ik lQ pD H2 w2 g2 A2 N2=>⟨lQ,qt,ik,(f'.trans f2).trans g2,A2,N2,w2⟩;have ff:=f1.trans<|f'.trans f2;exact⟨nx,L.rt.mono ff,L.nx.mono ff,nx⟩
 .have e:i=ds.length:=by lia
  subst e
  rw[List.drop_length]at w'
  exact .inl ⟨(wk fO H' fj f' M' w'.1 _).2 rfl,L.nx jV fj fO gL H' w'.2 (f1.trans f') A' M'⟩
end
def sG (js:ao (aq Nat))(ρ:DE):DE:=js.map λo=>o.bind λj=>(ρ[j]?).join
theorem kQ.g9 {φ:ao aj}{H:Hp}{ρ:DE}{σ:St}(h:kQ φ H ρ σ)(js:ao (aq Nat)):kQ φ H (sG js ρ) (g9 js σ):=by
 refine⟨by delta sG L2.g9;rw[jf,jf],λi d e=>?_⟩;unfold sG at e;rw[wd]at e;delta L2.g9;rw[wd];cases q:js[i]? with
 |none=>rw[q]at e;cases e
 | some o =>
  rw[q]at e;cases o with
  |none=>cases e
  | some j =>
   have e':(ρ[j]?).join=some d:=aW e;have e2:ρ[j]?=some (some d):=by
    cases z:ρ[j]? with
    |none=>rw[z]at e';cases e'
    |some y=>rw[z]at e';have:y=some d:=e';rw[this]
   refine eS (h.2 j d e2) λv hv hd=>?_;refine⟨v,?_,hd⟩;show some ((σ[j]?).join)=_;rw[hv];rfl
def Tf (ρ:DE)(y:DG)(t:Dt)(w:De)(d:D)(μ:MS)(K:aq D->MS->Prop):Prop:=y d ρ μ λqt ik=>t qt ik λb sC=>if b=true then w qt sC (λz Kl=>K (some z) Kl)else K none sC
def ud (it:D->MS->(aq D->MS->Prop)->Prop)(c:MS->Prop):ao D->MS->(ao D->MS->Prop)->Prop
 |[],μ,K=>c μ/\K [] μ
 |d::ds,μ,K=>c μ/\it d μ λo eV=>ud it c ds eV λys ik=>K (o.toList++ys) ik
def tT (S:ao Nat)(js:ao (aq Nat)):Bool:=S.all λi=>js[i]?==some none
def Ni (ho:tT S js=true)(hl:pD.length=(g9 js σ).length)(hn:∀ i,i∉S->pD[i]?=(g9 js σ)[i]?):Ext (g9 js σ) pD:=by
 refine⟨hl.symm,λi v e=>?_⟩;by_cases hi:i∈S
 .have q:=List.all_eq_true.mp ho i hi;have q':js[i]?=some none:=by simpa using q
  refine eS (xM e) λj e1 _=>?_;rw[q']at e1;cases e1
 .rwa [hn i hi]
def zK (m:Bool)(wi:DI)(js:ao (aq Nat))(y:DG)(t:Dt)(w:De):De:=λρ μ K=>wi ρ μ λds c eV=>ds.length<=sizeLine/\ud (Tf (sG js ρ) y t w) c ds eV λys ik=>nL m ys ik K
def Ap (so:OZ g y S)(mo:rq g)(ho:tT S js=true)(h:tD (zK m wi js y t w) σ H Q):GX (XB wi) js g (wF t) (tD w) σ H Q:=by
 refine fF h λφ ρ μ K A M k L=>?_;refine⟨φ,ρ,μ,_,A,M,k,λds c eV fo J H1 k1 f1 M1 wk=>?_⟩;refine jS k1 λhz k1=>?_;refine⟨λi n ys H'=>n=ds.length - i/\i<=ds.length/\ys.length<=i/\∃ fO zs fj,Fr fo H1 fO H'/\fe fO H' zs ys/\fG fO H' fj/\ud (Tf (sG js ρ) y t w) c (ds.drop i) fj λr ik=>nL m (zs++r) ik K,
  ⟨ds.length,rfl,bp _,bp _,fo,[],eV,.refl _ _,rfl,M1,k1⟩,?_⟩
 rintro i n ys H' ⟨rfl,hi,hy,fO,zs,fj,f',Z',M',w'⟩;by_cases uq:i<ds.length
 .rw[cA uq]at w';refine jS w' λc' w'=>?_;refine jS ((wk fO H' fj f' M' c' i).1 ds[i]<|vk uq) λgo KC=>?_;refine .inr ⟨go,λx H2 hy2=>?_⟩;refine rh (KC x H2 hy2) λf2 M2 i2=>?_;have E2:=((A.mono<|f1.trans<|f'.trans f2).g9 js);refine mo _ _ _ _ _ (λGR H3 FP=>?_)<|so fO H2 _ _ fj _ x _ E2 M2 i2 w';obtain⟨e3,l3,n3,RO,E3,k3⟩:=FP;refine⟨Ni ho l3 n3,?_⟩;subst e3;refine⟨fO,RO,fj,_,E3,M2,k3,λb Kl Tt H4 k4 f4 M4=>?_⟩;have ff:=f'.trans<|f2.trans f4;cases b with
  | true =>
   refine⟨Tt,RO,Kl,_,E3.mono f4,M4,k4,λd5 Xj φ5 v5 H5 k5 f5 M5 i5=>⟨by lia,ds.length - (i+1),by lia,rfl,uq,by rw[mJ,aU];lia,φ5,zs++[d5],Xj,ff.trans f5,(Z'.mono<|f2.trans<|f4.trans f5).app ⟨v5,[],rfl,i5,rfl⟩,M5,?_⟩⟩;have e:(λr ik=>nL m (zs++[d5]++r) ik K)=λr ik=>nL m (zs++((some d5).toList++r)) ik K:=by funext r ik;rw[a9];rfl
   rwa [e]
  | false =>exact⟨ds.length - (i+1),by lia,rfl,uq,by lia,Tt,zs,Kl,ff,Z'.mono<|f2.trans f4,M4,k4⟩
 .have e:i=ds.length:=by lia
  subst e
  rw[List.drop_length]at w'
  refine .inl ⟨(wk fO H' fj f' M' w'.1 _).2 rfl,λp hp=>?_⟩
  have q:nL m (zs++[]) fj K:=w'.2
  rw[bg]at q
  exact Ey (L.mono<|f1.trans f') M' Z' q hp
section
variable {X:Cx}{a b e:Expr}{es:ao Expr}{pos:Pos}
variable {N:ao Str}{js:ao (aq Nat)}{sc:Scope}{tg elt iter:Expr}{ifs:ao Expr}{g:TG}{y:DG}{S:ao Nat}{t:Dt}{w:De}
abbrev EE (X:Cx)(ifs:ao Expr)(t:Dt):Prop:=Kv X ifs (wF t)
def Kv.imp {t:TT}(h:Kv X ifs t)(hi:∀ σ H Q,t' σ H Q->t σ H Q):Kv X ifs t':=λee s σ H Q I q=>h ee s σ H Q I (hi σ H Q q)
def dYes:Dt:=λ_ μ K=>K true μ
def wA:EE X [] dYes:=Hc.imp λσ H Q h_=>fF h_ λφ ρ μ K A M k L=>L true μ φ H k (.refl _ _) M
def An (h:GI X c t):EE X [c] t:=PQ h
def Wa (m:Bool){wi:DI}(hc:kR X N js sc)(gE:X.gE=true)(so:OZ g y S)(mo:rq g)(ho:tT S js=true)(hi:J0 X tg iter wi)(hg:∀ fp s H,PG (o8 X N sc fp s H) tg g)(ht:∀ fp s H,EE (o8 X N sc fp s H) ifs t)(he:∀ fp s H,PD (o8 X N sc fp s H) elt w)
 (hs:∀ x,foldedSetIterable iter X.env x=pure x:=by intro _;rfl):PD X (.ListComp elt [⟨tg,iter,ifs,0⟩] sc pos) (zK m wi js y t w):=(Hf hc gE hi hg ht he hs).imp λσ H Q q=>Ap so mo ho q
def IH (m:Bool){wi:DI}{pos' E6:Pos}{i:Nat}{x:Str}(hc:kR X N js sc)(gE:X.gE=true)(so:OZ g y S)(mo:rq g)(ho:tT S js=true)(hN:X.N.Nodup)(Jy:X.N[i]?=some x)(hx:Loc X.env.scope x)(hi:J0 X tg iter wi)(hg:∀ fp s H,PG (o8 X N sc fp s H) tg g)
 (ht:∀ fp s H,EE (o8 X N sc fp s H) ifs t) (he:∀ fp s H,PD (o8 X N sc fp s H) elt w) (My:swapsWith (.ListComp elt [⟨tg,iter,ifs,0⟩] sc pos) (some<|.Name x pos') E6.line X.env=pure true:=by rfl)
 (hs:∀ x,foldedSetIterable iter X.env x=pure x:=by intro _;rfl) (hf:X.fn x=true\/X.env.scope.names.lookup x=some .local:=by first|exact .inl rfl|exact .inr rfl|assumption):
 yF X (.Assign [.Name x pos'] (.ListComp elt [⟨tg,iter,ifs,0⟩] sc pos) E6) (NP i<|zK m wi js y t w):=(Fh hc gE hN Jy hx hi hg ht he My hs hf).imp λE σ H h_=>fF h_ λφ ρ μ N A M w L=>
 Ap so mo ho ⟨φ,ρ,μ,_,A,M,w,λd eV fo v1 H1 k1 f1 M1 i1=>L.nx _ eV fo _ H1 k1 f1 ((A.mono f1).set i1 i) M1⟩
def dItL (w:De):DI:=λρ μ K=>w ρ μ λd eV=>opt (lv eV d) λds=>K ds (lc d ds) eV
def O6 (h:∀ fO H' fj,Fr φ H fO H'->fG fO H' fj->c fj->∃ vs,H' p=some (.lst vs)/\fe fO H' ds vs):Wk (Itl Kf p) φ H ds c:=λfO H' fj f M c' i=>by refine eS (h fO H' fj f M c') λvs hp ha=>?_;refine⟨λd hd=>?_,λhi=>⟨vs,qv.of hp,by rw[ha.len,hi];exact au _⟩⟩;refine eS (ha.get hd) λv hv hi=>?_;refine⟨⟨vs,v,qv.of hp,hv⟩,λx Oz hy=>?_⟩;refine jS hy λfE hy=>?_;subst fE;have e:=hy vs<|qv.of hp;rw[hv]at e;cases e;exact⟨.refl _ _,M,hi⟩
def uL (h:PD X a w):J0 X tg a (dItL w):=(Qb h).imp λσ H Q h_=>fF h_ λφ ρ μ K A M k L=>by refine⟨φ,ρ,μ,_,A,M,k,λd eV fo v1 H1 k1 f1 M1 i1=>?_⟩;refine eS (gJ k1) λds el k1=>?_;refine fw (oF M1 i1 el) λp vs fE hp ha=>?_;subst fE;exact⟨p,rfl,⟨vs,qv.of hp⟩,L ds _ eV fo _ H1 k1 f1 M1<|O6 λfO H' fj f M c=>Hm M1 i1 el f M c⟩
def pP (lo:Int)(n:Nat):ao D:=(List.range n).map λi=>D.int (lo+(i:Nat))
def Cw {lo:Int}:Wk (Itr lo n) φ H (pP lo n) λ_=>True:=λfO H' fj f M _ i=>by
 have hl:(pP lo n).length=n:=by delta pP;rw[jf,MP]
 refine⟨λd hd=>?_,λhi=>by rw[hl]at hi;exact Nat.le_of_eq hi.symm⟩;have hi:i<n:=by have:=(mW hd).1;lia
 refine⟨hi,λx Oz hy=>?_⟩;obtain⟨rfl,rfl⟩:=hy;refine⟨.refl _ _,M,?_⟩;unfold pP at hd;rw[wd,cL hi]at hd;cases hd;rfl
def Z2 (w:DA):DI:=λρ μ K=>w ρ μ λds eV=>match ds with
 |[.int j]=> -(2 ^ 62)<=j/\j<2 ^ 62/\K (pP 0 j.toNat) (λ_=>True) eV
 |_=>False
def Z1 (w:DA):DI:=λρ μ K=>w ρ μ λds eV=>match ds with
 |[.int i,.int j]=>(-(2 ^ 62)<=i/\i<2 ^ 62 /\ -(2 ^ 62)<=j/\j<2 ^ 62)/\K (pP i (j - i).toNat) (λ_=>True) eV
 |_=>False
def DF {w:DA}(hg:Gl X "range")(hm:X.mg "range"=none)(ha:sA X [a] w)(hs:starEach [a] X.env=[(false,eval a X.env)]:=by rfl):J0 X tg (.Call (.Name "range" p) [a] [] pos) (Z2 w):=(IW hg hm ha hs).imp λσ H Q h_=>fF h_ λφ ρ μ K A M k L=>by
 refine⟨φ,ρ,μ,_,A,M,k,λds eV fo vs H1 k1 f1 M1 i1=>?_⟩;split at k1
 .refine fw i1 λv r fE h1 h2=>?_;subst fE;subst h1;subst h2;exact⟨_,rfl,k1.1,k1.2.1,L _ _ eV fo _ H1 k1.2.2 f1 M1 Cw⟩
 .exact k1.elim
def Mv {w:DA}(hg:Gl X "range")(hm:X.mg "range"=none)(ha:sA X [a,b] w)(hs:starEach [a,b] X.env=[(false,eval a X.env),(false,eval b X.env)]:=by rfl)(uM:starEach [b] X.env=[(false,eval b X.env)]:=by rfl):J0 X tg (.Call (.Name "range" p) [a,b] [] pos) (Z1 w):=(IV hg hm ha hs uM).imp λσ H Q h_=>fF h_ λφ ρ μ K A M k L=>by
 refine⟨φ,ρ,μ,_,A,M,k,λds eV fo vs H1 k1 f1 M1 i1=>?_⟩;split at k1
 .obtain⟨v,r,rfl,h1,u,r',rfl,h2,h3⟩:=i1;subst h1;subst h2;subst h3;exact⟨_,_,rfl,k1.1,L _ _ eV fo _ H1 k1.2 f1 M1 Cw⟩
 .exact k1.elim
def dItS (w:De):DI:=λρ μ K=>w ρ μ λd eV=>match d with
 |.str z=>K (z.cps.toList.map λc=>D.str ⟨#[c]⟩) (λ_=>True) eV
 |_=>False
def Sx (h:PD X a w):J0 X tg a (dItS w):=(UI h).imp λσ H Q h_=>fF h_ λφ ρ μ K A M k L=>by
 refine⟨φ,ρ,μ,_,A,M,k,λd eV fo v1 H1 k1 f1 M1 i1=>?_⟩;split at k1
 .rename_i z;subst i1;refine⟨z,rfl,L _ _ eV fo _ H1 k1 f1 M1 λfO H' fj f M _ i=>⟨λd hd=>?_,λhi=>by rw[jf]at hi;exact hi⟩⟩;have hi:i<z.cps.toList.length:=by have:=(mW hd).1;rwa [jf]at this
  refine⟨hi,λx Oz hy=>?_⟩;obtain⟨rfl,c,hc,rfl⟩:=hy;rw[wd,hc]at hd;cases hd;exact⟨.refl _ _,M,rfl⟩
 .exact k1.elim
end
mutual
def yC (n:Nat):D->Prop
 |.lst ds=>r6 n ds
 |.tup ds=>r6 n ds
 |.lh _ ds=>r6 n ds
 |.mr k=>k<n
 |.obj _ _ ds=>r6 n ds
 |.pF _ ds=>r6 n ds
 |_=>True
def r6 (n:Nat):List D->Prop
 |[]=>True
 |d::ds=>yC n d/\r6 n ds
end
def zt (n:Nat):MO->Prop
 |.box=>True
 |.lst ds=>r6 n ds
 |.lh _ ds=>r6 n ds
 |.se _ _ ds=>r6 n ds
 |.ins _ _ ds=>r6 n ds
 |.QT _ ds=>r6 n ds
 |.gx fi _=>fi.length<=n
 |.exc _=>True
 |.y3 _ _ ds=>r6 n ds
def Fr.RU (f:Fr fi H0 φ H)(h:fi.length<=n):Fr fi H0 (φ.take n) H:=by obtain⟨⟨ψ,rfl,Jw⟩,k,d⟩:=f;exact⟨⟨ψ.take<|n - fi.length,by rw[List.take_append,bH h],λc hc=>Jw c<|a6 hc⟩,k,d⟩
def Fr.late (f:Fr fi H0 φ H)(h:fi.length<=j)(hp:φ[j]?=some p):H0 p=none:=by obtain⟨⟨ψ,rfl,Jw⟩,k,d⟩:=f;rw[ou h]at hp;exact Jw p (ET hp)
def Fr.Xq (f:Fr fi H0 φ H)(h:fi.length<=n)(hp:H0 p=none):Fr fi H0 (φ.take n++[p]) H:=by obtain⟨⟨ψ,e,Jw⟩,k,d⟩:=f.RU h;exact⟨⟨ψ++[p],by rw[e,a9],λc hc=>by rcases List.mem_append.mp hc with z|z;exact Jw c z;rwa [List.mem_singleton.mp z]⟩,k,d⟩
mutual
theorem kP.kN {n:Nat}{φ:List aj}{H:Hp}:∀ {d:D} {v:V},yC n d->kP φ H d v->kP (φ.take n) H d v
 |.gw,_,_,h=>h
 |.bl _,_,_,h=>h
 |.int _,_,_,h=>h
 |.str _,_,_,h=>h
 |.lst _,_,m,h=>by obtain⟨p,vs,e,nn,hp,q⟩:=h;exact⟨p,vs,e,λz=>nn<|a6 z,hp,fe.kN m q⟩
 |.tup _,_,m,h=>by obtain⟨p,vs,e,nn,hp,q⟩:=h;exact⟨p,vs,e,λz=>nn<|a6 z,hp,fe.kN m q⟩
 |.lh _ _,_,m,h=>by obtain⟨p,eP,vs,e,nn,hp,q1,q2,q⟩:=h;exact⟨p,eP,vs,e,λz=>nn<|a6 z,hp,q1,q2,fe.kN m q⟩
 |.mr k,_,m,h=>by obtain⟨p,e,q⟩:=h;exact⟨p,by rw[bC m];exact e,q⟩
 |.obj _ _ _,_,m,h=>by obtain⟨p,dx,fs,vs,e,nn,hp,q1,q2,q⟩:=h;exact⟨p,dx,fs,vs,e,λz=>nn<|a6 z,hp,q1,q2,fe.kN m q⟩
 |.pF _ _,_,m,h=>by obtain⟨p,dx,fs,vs,e,nn,hp,q1,q2,q⟩:=h;exact⟨p,dx,fs,vs,e,λz=>nn<|a6 z,hp,q1,q2,fe.kN m q⟩
 |.fn _,_,_,h=>h
theorem fe.kN {n:Nat}{φ:List aj}{H:Hp}:∀ {ds:List D} {vs:List V},r6 n ds->fe φ H ds vs->fe (φ.take n) H ds vs
 |[],_,_,h=>h
 |_::_,_,m,h=>by obtain⟨v,r,e,h1,h2⟩:=h;exact⟨v,r,e,kP.kN m.1 h1,fe.kN m.2 h2⟩
end
theorem fG.kN (h:fG φ H μ)(hm:∀(k:Nat) (m:MO),k<n->μ[k]?=some m->zt n m):fG (φ.take n) H (μ.take n):=by
 refine⟨h.nd.sublist<|List.take_sublist _ _,by rw[ba,ba,h.len],λk m e=>?_⟩;have hk:k<n:=by have:=(mW e).1;rw[ba]at this;lia
 rw[bC hk]at e;refine eS (h.at_ k m e) λp e1 e2=>?_;refine⟨p,by rwa [bC hk],?_⟩;have hb:=hm k m hk e;cases m with
 |box=>let ⟨q,ns,i,r,z,h1,h2,h3,h4⟩:=e2;exact⟨q,ns,i,r,z,h1,h2,λz=>h3<|a6 z,h4⟩
 |lst ds=>let ⟨vs,h1,h2⟩:=e2;exact⟨vs,h1,h2.kN hb⟩
 |lh ks ds=>let ⟨eP,vs,h1,h2,h3,h4⟩:=e2;exact⟨eP,vs,h1,h2,h3,h4.kN hb⟩
 |se o eP ds=>exact⟨e2.1,e2.2.kN hb⟩
 |ins C ns ds=>let ⟨dx,fs,h1,h2,h3⟩:=e2;exact⟨dx,fs,h1,h2,h3.kN hb⟩
 |QT ks ds=>let ⟨eP,h1,h2,h3⟩:=e2;exact⟨eP,h1,h2,h3.kN hb⟩
 |gx fi H0=>exact⟨e2.1.RU hb,e2.2⟩
 |exc c=>exact e2
 |y3 C ns ds=>let ⟨dx,t,fs,h1,h2,h3,h4,h5⟩:=e2;exact⟨dx,t,fs,h1,h2,λz=>h3<|a6 z,h4,h5.kN hb⟩
mutual
theorem kP.bound {φ:List aj}{H:Hp}:∀ {d:D} {v:V},kP φ H d v->yC φ.length d
 |.gw,_,_=>True.intro
 |.bl _,_,_=>True.intro
 |.int _,_,_=>True.intro
 |.str _,_,_=>True.intro
 |.lst _,_,h=>by obtain⟨p,vs,e,nn,hp,q⟩:=h;exact fe.bound q
 |.tup _,_,h=>by obtain⟨p,vs,e,nn,hp,q⟩:=h;exact fe.bound q
 |.lh _ _,_,h=>by obtain⟨p,eP,vs,e,nn,hp,q1,q2,q⟩:=h;exact fe.bound q
 |.mr k,_,h=>by obtain⟨p,e,q⟩:=h;exact(mW e).1
 |.obj _ _ _,_,h=>by obtain⟨p,dx,fs,vs,e,nn,hp,q1,q2,q⟩:=h;exact fe.bound q
 |.pF _ _,_,h=>by obtain⟨p,dx,fs,vs,e,nn,hp,q1,q2,q⟩:=h;exact fe.bound q
 |.fn _,_,_=>True.intro
theorem fe.bound {φ:List aj}{H:Hp}:∀ {ds:List D} {vs:List V},fe φ H ds vs->r6 φ.length ds
 |[],_,_=>True.intro
 |_::_,_,h=>by obtain⟨v,r,e,h1,h2⟩:=h;exact⟨kP.bound h1,fe.bound h2⟩
end
theorem fG.bound (h:fG φ H μ):∀(k:Nat) (m:MO),μ[k]?=some m->zt μ.length m:=λk m e=>by
 refine eS (h.at_ k m e) λp e1 e2=>?_;rw[<- h.len];cases m with
 |box=>exact True.intro
 |lst ds=>let ⟨vs,h1,h2⟩:=e2;exact h2.bound
 |lh ks ds=>let ⟨eP,vs,h1,h2,h3,h4⟩:=e2;exact h4.bound
 |se o eP ds=>exact e2.2.bound
 |ins C ns ds=>let ⟨dx,fs,h1,h2,h3⟩:=e2;exact h3.bound
 |QT ks ds=>let ⟨eP,h1,h2,h3⟩:=e2;exact h3.bound
 |gx fi H0=>obtain⟨⟨ψ,e,_⟩,_⟩:=e2.1;show fi.length<=φ.length;rw[e,mJ];lia
 |exc c=>exact True.intro
 |y3 C ns ds=>let ⟨dx,t,fs,h1,h2,h3,h4,h5⟩:=e2;exact h5.bound
def lH {fO:ao aj}(hp:p∈fO)(h:q∉fO):q∉fO.take n++[p]:=λz=>by
 rcases List.mem_append.mp z with z|z
 .exact h (a6 z)
 .exact h (by rwa [List.mem_singleton.mp z])
mutual
theorem kP.addP {n:Nat}{fO:List aj}{H:Hp}{p:aj}(hp:p∈fO):∀ {d:D} {v:V},yC n d->kP fO H d v->kP (fO.take n++[p]) H d v
 |.gw,_,_,h=>h
 |.bl _,_,_,h=>h
 |.int _,_,_,h=>h
 |.str _,_,_,h=>h
 |.lst _,_,m,h=>by obtain⟨q,vs,e,nn,hq,z⟩:=h;exact⟨q,vs,e,lH hp nn,hq,fe.pC hp m z⟩
 |.tup _,_,m,h=>by obtain⟨q,vs,e,nn,hq,z⟩:=h;exact⟨q,vs,e,lH hp nn,hq,fe.pC hp m z⟩
 |.lh _ _,_,m,h=>by obtain⟨q,eP,vs,e,nn,hq,q1,q2,z⟩:=h;exact⟨q,eP,vs,e,lH hp nn,hq,q1,q2,fe.pC hp m z⟩
 | .mr k,_,m,h=>by
  obtain⟨q,e,z⟩:=h;have hk:k<(fO.take n).length:=by rw[ba];have:=(mW e).1;have m':k<n:=m;lia
  exact⟨q,by rw[tE hk,bC m];exact e,z⟩
 |.obj _ _ _,_,m,h=>by obtain⟨q,dx,fs,vs,e,nn,hq,q1,q2,z⟩:=h;exact⟨q,dx,fs,vs,e,lH hp nn,hq,q1,q2,fe.pC hp m z⟩
 |.pF _ _,_,m,h=>by obtain⟨q,dx,fs,vs,e,nn,hq,q1,q2,z⟩:=h;exact⟨q,dx,fs,vs,e,lH hp nn,hq,q1,q2,fe.pC hp m z⟩
 |.fn _,_,_,h=>h
theorem fe.pC {n:Nat}{fO:List aj}{H:Hp}{p:aj}(hp:p∈fO):∀ {ds:List D} {vs:List V},r6 n ds->fe fO H ds vs->fe (fO.take n++[p]) H ds vs
 |[],_,_,h=>h
 |_::_,_,m,h=>by obtain⟨v,r,e,h1,h2⟩:=h;exact⟨v,r,e,kP.addP hp m.1 h1,fe.pC hp m.2 h2⟩
end
def yB (R:D->D->Prop)(ds es:ao D):Prop:=ds.length=es.length/\∀(i:Nat) (a b:D),ds[i]?=some a->es[i]?=some b->R a b
def EF (n:Nat)(μ:MS):Nat->D->D->Prop
 |0,d,d'=>d'=d/\yC n d
 |k+1,d,d'=>(d'=d/\yC n d)\/(∃ j ds es,d=.mr j/\n<=j/\μ[j]?=some (.lst ds)/\d'=.lst es/\yB (EF n μ k) ds es)\/(∃ ds es,d=.lst ds/\d'=.lst es/\yB (EF n μ k) ds es)\/(∃ ds es,d=.tup ds/\d'=.tup es/\yB (EF n μ k) ds es)\/(∃ j ks ds es,d=.mr j/\n<=j/\μ[j]?=some (.lh ks ds)/\d'=.lh ks es/\yB (EF n μ k) ds es)
theorem fe.xp:∀ {ds:ao D} {vs:ao V},ds.length=vs.length->(∀(i:Nat) (d:D) (v:V),ds[i]?=some d->vs[i]?=some v->kP φ H d v)->fe φ H ds vs
 | [],vs,hl,_=>by cases vs with
  |nil=>rfl
  |cons v r=>contradiction
 | d::ds,vs,hl,h=>by cases vs with
  |nil=>cases hl
  |cons v r=>exact⟨v,r,rfl,h 0 d v rfl rfl,fe.xp (by simpa using hl) λi a b e1 e2=>h (i+1) a b (by simpa using e1)<|by simpa using e2⟩
def EF.is (M:fG φ H μ)(ES:∀ {j:Nat} {p:aj},n<=j->φ[j]?=some p->p∉φ.take n):∀ {k:Nat} {d d':D} {v:V},EF n μ k d d'->kP φ H d v->kP (φ.take n) H d' v:=by
 intro k;induction k with
 |zero=>intro d d' v h i;obtain⟨rfl,hb⟩:=h;exact i.kN hb
 | succ k ih =>
  have all:∀ {ds es:ao D} {vs:ao V},yB (EF n μ k) ds es->fe φ H ds vs->fe (φ.take n) H es vs:=λ{ds es vs} ha hd =>fe.xp (by rw[hd.len,ha.1]) λi b v e1 e2=>by refine eS (hd.QK e2) λa e3 hv=>?_;exact ih (ha.2 i a b e3 e1) hv
  intro d d' v h i;rcases h with⟨rfl,hb⟩|⟨j,ds,es,rfl,hj,e,rfl,ha⟩|⟨ds,es,rfl,rfl,ha⟩|⟨ds,es,rfl,rfl,ha⟩|⟨j,ks,ds,es,rfl,hj,e,rfl,ha⟩
  .exact i.kN hb
  .obtain⟨p,hp,rfl⟩:=i;obtain⟨p',e1,vs,hv,hd⟩:=M.at_ j _ e;rw[hp]at e1;cases e1;exact⟨p,vs,rfl,ES hj hp,hv,all ha hd⟩
  .refine jX i λp vs fE hn hp hd=>?_;subst fE;exact⟨p,vs,rfl,λz=>hn<|a6 z,hp,all ha hd⟩
  .refine jX i λp vs fE hn hp hd=>?_;subst fE;exact⟨p,vs,rfl,λz=>hn<|a6 z,hp,all ha hd⟩
  .obtain⟨p,hp,rfl⟩:=i;obtain⟨p',e1,eP,vs,hv,h1,h2,hd⟩:=M.at_ j _ e;rw[hp]at e1;cases e1;exact⟨p,eP,vs,rfl,ES hj hp,hv,h1,h2,all ha hd⟩
def Cb (n:Nat)(μ:MS):Nat->D->D->Prop
 |0,d,d'=>d'=d/\yC n d
 |k+1,d,d'=>(d'=d/\yC n d)\/(∃ j ds es,d=.mr j/\n<=j/\μ[j]?=some (.lst ds)/\d'=.lst es/\yB (Cb n μ k) ds es)\/(∃ ds es,d=.lst ds/\d'=.lst es/\yB (Cb n μ k) ds es)\/(∃ ds es,d=.tup ds/\d'=.tup es/\yB (Cb n μ k) ds es)\/(∃ j o eP ds es,d=.mr j/\n<=j/\μ[j]?=some (.se o eP ds)/\d'=.pF (eP.map (·.1)) es/\yB (Cb n μ k) ds es)\/(∃ j C ns ds es,d=.mr j/\n<=j/\μ[j]?=some (.ins C ns ds)/\d'=.obj C ns es/\yB (Cb n μ k) ds es)
def Cb.is (M:fG φ H μ)(ES:∀ {j:Nat} {p:aj},n<=j->φ[j]?=some p->p∉φ.take n):∀ {k:Nat} {d d':D} {v:V},Cb n μ k d d'->kP φ H d v->kP (φ.take n) H d' v:=by
 intro k;induction k with
 |zero=>intro d d' v h i;obtain⟨rfl,hb⟩:=h;exact i.kN hb
 | succ k ih =>
  have all:∀ {ds es:ao D} {vs:ao V},yB (Cb n μ k) ds es->fe φ H ds vs->fe (φ.take n) H es vs:=λ{ds es vs} ha hd =>fe.xp (by rw[hd.len,ha.1]) λi b v e1 e2=>by refine eS (hd.QK e2) λa e3 hv=>?_;exact ih (ha.2 i a b e3 e1) hv
  intro d d' v h i;rcases h with⟨rfl,hb⟩|⟨j,ds,es,rfl,hj,e,rfl,ha⟩|⟨ds,es,rfl,rfl,ha⟩|⟨ds,es,rfl,rfl,ha⟩|⟨j,o,eP,ds,es,rfl,hj,e,rfl,ha⟩|⟨j,C,ns,ds,es,rfl,hj,e,rfl,ha⟩
  .exact i.kN hb
  .obtain⟨p,hp,rfl⟩:=i;obtain⟨p',e1,vs,hv,hd⟩:=M.at_ j _ e;rw[hp]at e1;cases e1;exact⟨p,vs,rfl,ES hj hp,hv,all ha hd⟩
  .refine jX i λp vs fE hn hp hd=>?_;subst fE;exact⟨p,vs,rfl,λz=>hn<|a6 z,hp,all ha hd⟩
  .refine jX i λp vs fE hn hp hd=>?_;subst fE;exact⟨p,vs,rfl,λz=>hn<|a6 z,hp,all ha hd⟩
  .refine eS i λp hp fE=>?_;subst fE;refine oy (M.at_ j _ e) λp' e1 hv hd=>?_;rw[hp]at e1;cases e1;exact⟨p,o,eP,_,rfl,ES hj hp,hv,rfl,rfl,all ha hd⟩
  .refine eS i λp hp fE=>?_;subst fE;obtain⟨p',e1,dx,fs,hv,h1,hd⟩:=M.at_ j _ e;rw[hp]at e1;cases e1;exact⟨p,dx,fs,_,rfl,ES hj hp,hv,h1,rfl,all ha hd⟩
inductive Fz (n:Nat)(K:DK):DK where
 |keep {d μ} (k:K d μ):Fz n K d μ
 |drop {d μ} (hd:yC n d) (hm:∀(j:Nat) (m:MO),j<n->μ[j]?=some m->zt n m) (k:K d (μ.take n)):Fz n K d μ
 |lst {j ds μ} (hj:n<=j) (e:μ[j]?=some (.lst ds)) (hd:r6 n ds) (hm:∀(j:Nat) (m:MO),j<n->μ[j]?=some m->zt n m) (k:K (.lst ds) (μ.take n)):Fz n K (.mr j) μ
 |one {j ds μ} (hj:n<=j) (e:μ[j]?=some (.lst ds)) (hd:r6 n ds) (hm:∀(j:Nat) (m:MO),j<n->μ[j]?=some m->zt n m) (k:K (.mr n) (μ.take n++[.lst ds])):Fz n K (.mr j) μ
 |deep {f d d' μ} (e:EF n μ f d d') (hm:∀(j:Nat) (m:MO),j<n->μ[j]?=some m->zt n m) (k:K d' (μ.take n)):Fz n K d μ
 |lh {j ks ds μ} (hj:n<=j) (e:μ[j]?=some (.lh ks ds)) (hd:r6 n ds) (hm:∀(j:Nat) (m:MO),j<n->μ[j]?=some m->zt n m) (k:K (.lh ks ds) (μ.take n)):Fz n K (.mr j) μ
 |obj {j C ns ds μ} (hj:n<=j) (e:μ[j]?=some (.ins C ns ds)) (hd:r6 n ds) (hm:∀(j:Nat) (m:MO),j<n->μ[j]?=some m->zt n m) (k:K (.obj C ns ds) (μ.take n)):Fz n K (.mr j) μ
 |pF {j o eP ds μ} (hj:n<=j) (e:μ[j]?=some (.se o eP ds)) (hd:r6 n ds) (hm:∀(j:Nat) (m:MO),j<n->μ[j]?=some m->zt n m) (k:K (.pF (eP.map (·.1)) ds) (μ.take n)):Fz n K (.mr j) μ
 |ZJ {f d d' μ} (e:Cb n μ f d d') (hm:∀(j:Nat) (m:MO),j<n->μ[j]?=some m->zt n m) (k:K d' (μ.take n)):Fz n K d μ
def uW.fz {K:DK}(M:fG φ H μ)(L:uW φ H K Q):uW φ H (Fz μ.length K) Q:=λd fj fO v H' k f M' i=>by
 have EU:fO.take μ.length=φ:=by obtain⟨⟨ψ,rfl,_⟩,_,_⟩:=f;rw[<- M.len,aV]
 have f0:Fr φ H (fO.take μ.length) H':=by rw[EU];exact⟨⟨[],by simp,λ_ h=>nomatch h⟩,f.keep,f.dom⟩
 have ES:∀ {j:Nat} {p:aj},μ.length<=j->fO[j]?=some p->p∉fO.take μ.length:=λ{j p} hj e hp=>by obtain⟨i,hi,ei⟩:=cK hp;rw[ba]at hi;rw[List.getElem_take]at ei;obtain⟨hj',ej⟩:=mW e;exact List.pairwise_iff_getElem.mp M'.nd i j (by lia) hj' (by lia) (ei.trans ej.symm)
 cases k with
 |keep k=>exact L d fj fO v H' k f M' i
 |drop hd hm k=>exact L d _ _ v H' k f0 (M'.kN hm) (i.kN hd)
 | @lst j ds _ hj e hd hm k =>refine eS i λp hp fE=>?_;subst fE;obtain⟨p',e1,vs,hv,ha⟩:=M'.at_ j _ e;rw[hp]at e1;cases e1;exact L _ _ _ _ H' k f0 (M'.kN hm) ⟨p,vs,rfl,ES hj hp,hv,ha.kN hd⟩
 | @one j ds _ hj e hd hm k =>
  refine eS i λp hp fE=>?_;subst fE;obtain⟨p',e1,vs,hv,ha⟩:=M'.at_ j _ e;rw[hp]at e1;cases e1;have M0:=M'.kN hm;have hpn:p∉φ:=by have:=ES hj hp;rwa [EU]at this
  have hH:H p=none:=by
   obtain⟨⟨ψ,rfl,Jw⟩,_,_⟩:=f;refine Jw p ?_;have q:=ET hp;rcases List.mem_append.mp q with q|q
   .exact absurd q hpn
   .exact q
  have M1:=M0;rw[EU]at M1;have f1:Fr φ H (φ++[p]) H':=⟨⟨[p],rfl,λc hc=>by rw[List.mem_singleton.mp hc];exact hH⟩,f.keep,f.dom⟩;have len:(fj.take μ.length).length=μ.length:=by rw[<- M1.len,M.len]
  have pin:p∈fO:=ET hp;have hdv:fe (φ++[p]) H' ds vs:=by have q:=fe.pC pin hd ha;rwa [EU]at q
  have M2:fG (φ++[p]) H' (fj.take μ.length++[.lst ds]):=by
   refine⟨?_,by rw[mJ,mJ,M1.len];rfl,λk m ek=>?_⟩
   .rw[bP];exact⟨M.nd,by simp,λa ha b hb=>by rw[List.mem_singleton.mp hb];intro z;exact hpn (by rw[<- z];exact ha)⟩
   .by_cases hk:k<μ.length
    .rw[tE (by rw[len];exact hk)]at ek;rw[bC hk]at ek;refine eS (M'.at_ k m ek) λq e1 e2=>?_;have e1':φ[k]?=some q:=by rw[<- EU,bC hk];exact e1
     refine⟨q,by rw[tE (by rw[M.len];exact hk)];exact e1',?_⟩;have hb:=hm k m hk ek;cases m with
     | box =>refine e5a4 e2 λb ns i r z h1 h2 h3 h4=>?_;exact⟨b,ns,i,r,z,h1,h2,by have:=lH (n:=μ.length) pin h3;rwa [EU]at this,h4⟩
     |lst es=>obtain⟨us,h1,h2⟩:=e2;exact⟨us,h1,by have:=fe.pC pin hb h2;rwa [EU]at this⟩
     |lh ks es=>obtain⟨eP,us,h1,h2,h3,h4⟩:=e2;exact⟨eP,us,h1,h2,h3,by have:=fe.pC pin hb h4;rwa [EU]at this⟩
     |se o eP es=>exact⟨e2.1,by have:=fe.pC pin hb e2.2;rwa [EU]at this⟩
     |ins C ns es=>obtain⟨dx,fs,h1,h2,h3⟩:=e2;exact⟨dx,fs,h1,h2,by have:=fe.pC pin hb h3;rwa [EU]at this⟩
     |QT ks es=>obtain⟨eP,h1,h2,h3⟩:=e2;exact⟨eP,h1,h2,by have:=fe.pC pin hb h3;rwa [EU]at this⟩
     |gx fi H0=>exact⟨by have:=e2.1.Xq (n:=μ.length) hb (p:=p)<|e2.1.late (aG hb hj) hp;rwa [EU]at this,e2.2⟩
     |exc c=>exact e2
     |y3 C ns es=>obtain⟨dx,t,fs,h1,h2,h3,h4,h5⟩:=e2;exact⟨dx,t,fs,h1,h2,by have:=lH (n:=μ.length) pin h3;rwa [EU]at this,h4,by have:=fe.pC pin hb h5;rwa [EU]at this⟩
    .have JA:k=μ.length:=by have:=(mW ek).1;rw[mJ,aU,len]at this;lia
     subst JA
     rw[ou (by rw[len];exact au _),len,aO]at ek
     cases ek
     exact⟨p,by rw[ou (by rw[M.len];exact au _),M.len,aO];rfl,vs,hv,hdv⟩
  exact L _ _ _ _ H' k f1 M2 ⟨p,by rw[ou (by rw[M.len];exact au _),M.len,aO];rfl,rfl⟩
 |@deep f' d d' _ e hm k=>exact L _ _ _ _ H' k f0 (M'.kN hm) (e.is M' ES i)
 | @lh j ks ds _ hj e hd hm k =>obtain⟨p,hp,rfl⟩:=i;obtain⟨p',e1,eP,vs,hv,h1,h2,ha⟩:=M'.at_ j _ e;rw[hp]at e1;cases e1;exact L _ _ _ _ H' k f0 (M'.kN hm) ⟨p,eP,vs,rfl,ES hj hp,hv,h1,h2,ha.kN hd⟩
 | @obj j C ns ds _ hj e hd hm k =>refine eS i λp hp fE=>?_;subst fE;obtain⟨p',e1,dx,fs,h1,h2,h3⟩:=M'.at_ j _ e;rw[hp]at e1;cases e1;exact L _ _ _ _ H' k f0 (M'.kN hm) ⟨p,dx,fs,_,rfl,ES hj hp,h1,h2,rfl,h3.kN hd⟩
 | @pF j o eP ds _ hj e hd hm k =>refine eS i λp hp fE=>?_;subst fE;obtain⟨p',e1,h1,h3⟩:=M'.at_ j _ e;rw[hp]at e1;cases e1;exact L _ _ _ _ H' k f0 (M'.kN hm) ⟨p,o,eP,_,rfl,ES hj hp,h1,rfl,rfl,h3.kN hd⟩
 |@ZJ f' d d' _ e hm k=>exact L _ _ _ _ H' k f0 (M'.kN hm) (e.is M' ES i)
def AQ (n:Nat)(K:DK):DN:={ nx:=λ_ fj=>Fz n K .gw fj,rt:=λd fj=>Fz n K d fj}
def oS (N:ao Str)(ds:ao D):DE:=ds.map some++List.replicate (N.length - ds.length) none
theorem kQ.start {φ:ao aj}{H:Hp}{N:ao Str}{ds:ao D}{vs:ao V}(h:fe φ H ds vs):kQ φ H (oS N ds) (start N vs):=by
 have hl:=h.len;delta oS L2.start;refine⟨by simp[hl],λi d e=>?_⟩;by_cases hi:i<ds.length
 .rw[tE (by rw[jf];exact hi),wd]at e;have e':ds[i]?=some d:=by
   cases q:ds[i]? with
   |none=>rw[q]at e;cases e
   |some z=>rw[q]at e;cases e;rfl
  refine eS (h.get e') λv hv hd=>?_;exact⟨v,by rw[tE (by rw[jf];lia),wd,hv];rfl,hd⟩
 .rw[ou (by rw[jf];lia)]at e;have:=ET e;have:=List.eq_of_mem_replicate this;cases this
section
variable {P:ae}{w:af}{K:aa}{mg:Str->aq ak}{eB:Heap}
def iS.okD {x qual:Str}{st:Stmt}{f:aj}{fd:ah}{N ps:ao Str}{k:Nat}{fs:ot}(F:iS K x qual st f fd)(S:eR N ps (eG st))(len:∀ ds μ Kd,fs ds μ Kd->ds.length=ps.length)
 (qW:∀(hZ:ak) (A:Around) (eM:ao Env) (s:ai) (H:Hp) (E:XK),iq k (A.deeper<|envOfC qual (eG st) s.heap.objs.size f hZ) ->
   ∃ W,zc (px nr P w K mg eB N qual (eG st) f hZ A eM s H E).U8 (iI st) W/\∀ ds μ Kd,(∀(j:Nat) (m:MO),μ[j]?=some m->zt μ.length m)->r6 μ.length ds->fs ds μ Kd->W (AQ μ.length Kd) (oS N ds) μ):fA P w K mg eB nr (k+1) f fd ps (kT fs):=by
 refine F.ok S (λvs H Q E h=>?_) (λhZ A eM s H vs Q E hr h=>?_)
 .refine fF h λφ ds μ Kd ha M hf L=>?_;rw[ha.len];exact len ds μ Kd hf
 .refine fF h λφ ds μ Kd ha M hf L=>?_;refine eS (qW hZ A eM s H E hr) λW hW q=>?_;exact⟨_,hW,φ,oS N ds,μ,AQ μ.length Kd,.start ha,M,q ds μ Kd M.bound (M.len▸ha.bound) hf,⟨λjV fj fO gL H' k' f' A' M'=>L.fz M .gw fj fO .gw H' k' f' M' rfl,L.fz M,λ_ _ _ _ _ k' _ _ _=>k'.elim,λ_ _ _ _ _ k' _ _ _=>k'.elim⟩⟩
end
def EX:typeLookup (.type "zip") "__len__"=pure none:=by kernel_rfl
def Cu:typeLookup (.type "zip") "__length_hint__"=pure none:=by kernel_rfl
def RB (z TI TO i1 i2 l1 l2:aj)(i:Nat)(xs ys:Array ak)(h:Heap):Prop:=ZZ false z TI TO i1 i2 l1 l2 i h/\oA false h l1 xs/\oA false h l2 ys
section
variable {P:ae}{w:af}{A:Around}{s:ai}{E:ak->ai->Prop}{z TI TO i1 i2 l1 l2:aj}{i:Nat}{xs ys:Array ak}{x y:ak}{Q:aq ak->ai->Prop}
def RB.next (Z:RB z TI TO i1 i2 l1 l2 i xs ys s.heap)(D:ZipApart z TI TO i1 i2 l1 l2)(hx:xs[i]?=some x)(hy:ys[i]?=some y)
 (hQ:∀ h',RB z TI TO i1 i2 l1 l2 (i+1) xs ys h'->IsPair h' s.heap.objs.size x y->ZK z TO i1 i2 s.heap h'->Q (some<|.ref s.heap.objs.size) {s with heap:=h'}):wpAny (model P w) A (pyNext<|.ref z) Q E s:=
 ZE Z.1 λ_ _ _ _ hz _=>Ah hz (O2 D Z.1 Z.2.1 Z.2.2 hx hy λh' a b c d _ e=>hQ h' ⟨a,b,c⟩ d e)
def RB.over (hh:A.handled=none)(Z:RB z TI TO i1 i2 l1 l2 i xs ys s.heap)(D:ZipApart z TI TO i1 i2 l1 l2)(hx:xs[i]?=none\/ys[i]?=none)
 (hQ:∀ h',ZK z TO i1 i2 s.heap h'->Q none {s with heap:=h'}):wpAny (model P w) A (pyNext<|.ref z) Q E s:=
 ZE Z.1 λ_ _ _ _ hz _=>Ah hz (O3 hh D Z.1 Z.2.1 Z.2.2 hx λh' e hk h_=>kZ h_ λo he=>⟨⟨o,e,rfl,he⟩,hQ h' hk⟩)
def RB.but {S:aj}{h h':Heap}(Z:RB z TI TO i1 i2 l1 l2 i xs ys h)(e:Heap.ExtBut S h h')(n:S∉[z,TI,TO,i1,i2,l1,l2]):RB z TI TO i1 i2 l1 l2 i xs ys h' :=
 ⟨Z.1.keep λb hb o q=>e b o (λr=>n (by simp only[bQ,bE,c9]at hb ⊢;lia)) q,Z.2.1.extBut e λr=>n<|by simp[r],Z.2.2.extBut e λr=>n<|by simp[r]⟩
end
section
variable {X:Cx}{ee:ao (aj×Obj)}{σ:St}
def vE (H:Hp)(xs ys:ao V)(us:ao V):Prop:=∀(i:Nat) (u:V),us[i]?=some u->∃ T x y,u=V.ref T/\H T=some (.tup [x,y])/\xs[i]?=some x/\ys[i]?=some y
def vE.same {H H':Hp}{xs ys us:ao V}(h:vE H xs ys us)(s:gT H H'):vE H' xs ys us:=λi u e=>let ⟨T,x,y,a,b,c⟩:=h i u e;⟨T,x,y,a,s _ _ b,c⟩
def KA {A:Around}{R:Result->ai->Prop}{z TI TO i1 i2 l1 l2 S:aj}{H0:Hp}{xs ys:ao V}{xv yv:ao ak}{res:ak}(hh:A.handled=none)(D:ZipApart z TI TO i1 i2 l1 l2)(rx:fH xs xv)(ry:fH ys yv)(hz1:xs.length<=sizeLine)
 (nS:S∉[z,TI,TO,i1,i2,l1,l2])
 (hR:∀ s' H' us fu c,Inv X ee σ H' s'->gT H0 H'->H' S=none->s'.heap.get? S=some (lobj fu c)->fH us fu->us.length=min xs.length ys.length->vE H' xs ys us->R (.ok<|.ret res) s'):
 ∀(k i:Nat) (s:ai) (H:Hp) (us:ao V) (fu:ao ak) (c:Nat),min xs.length ys.length - i=k->i<=min xs.length ys.length->us.length=i->Inv X ee σ H s->gT H0 H->(∀ b∈[z,TO,i1,i2,S],nk X ee H b)->s.heap.get? S=some (lobj fu c)->fH us fu->vE H xs ys us ->
  RB z TI TO i1 i2 l1 l2 i xv.toArray yv.toArray s.heap->codeAny (model X.prog X.w) A (.builtin "list.extend.loop" ⟨[.ref S,.ref z,res],[]⟩) R s:=by
 have lx:=rx.length
 have ly:=ry.length
 have Sj:S≠z/\S≠TO/\S≠i1/\S≠i2:=by simp only[bQ,bE,c9,not_or]at nS;exact⟨nS.1,nS.2.2.1,nS.2.2.2.1,nS.2.2.2.2.1⟩
 have zk:∀ {h h':Heap},ZK z TO i1 i2 h h'->∀ b o,b∉[z,TO,i1,i2]->h.get? b=some o->h'.get? b=some o:=λkk b o hb e=>kk b o (λq=>hb<|by simp[q]) (λq=>hb<|by simp[q]) (λq=>hb<|by simp[q]) (λq=>hb<|by simp[q]) e
 have sub:∀ b∈[z,TO,i1,i2],b∈[z,TO,i1,i2,S]:=λb hb=>by
  simp only[bQ,bE,c9]at hb ⊢
  rcases hb with q|q|q|q<;>simp[q]
 have SnI:S∉[z,TO,i1,i2]:=by simp only[bQ,bE,c9,not_or];exact⟨Sj.1,Sj.2.1,Sj.2.2.1,Sj.2.2.2⟩
 intro k
 induction k with
 | zero =>
  intro i s H us fu c hk hi hu I hS fp gS rv pr Z;have ei:i=min xs.length ys.length:=by lia
  refine codeAny_builtin F.entry_extend_loop ?_;rw[Around.under_plainId dm _];show wpAny _ A.in1 (pyNext (.ref z)>>=_) _ _ s;refine fb (Z.over (A:=A.in1) hh D (by simp;lia) λh' kk=>?_);have I':=I.KR (ch:=[z,TO,i1,i2]) (λb hb=>fp b<|sub b hb)<|zk kk;exact av (hR _ H us fu c I' hS (fp S<|by simp).1 (zk kk _ _ SnI gS) rv (hu.trans ei) pr)
 | succ k ih =>
  intro i s H us fu c hk hi hu I hS fp gS rv pr Z;have uq:i<min xs.length ys.length:=by lia
  obtain⟨x,ex⟩:∃ x,xs[i]?=some x:=⟨xs[i]'(by lia),vk _⟩;obtain⟨y,ey⟩:∃ y,ys[i]?=some y:=⟨ys[i]'(by lia),vk _⟩;refine eS (rx.get ex) λu eu ru=>?_;refine eS (ry.get ey) λv ev rv'=>?_;have lu:=rv.length;refine codeAny_builtin F.entry_extend_loop ?_;rw[Around.under_plainId dm _];show wpAny _ A.in1 (pyNext (.ref z)>>=_) _ _ s;refine fb (Z.next (A:=A.in1) D (by simpa using eu) (by simpa using ev) λh' Z' hT kk=>?_);have I':=I.KQ (ch:=[z,TO,i1,i2]) (λb hb=>fp b<|sub b hb) (zk kk) hT ru rv';have hn:H s.heap.objs.size=none:=I.fB.fresh<|au _;have S1:gT H (upd H s.heap.objs.size<|.tup [x,y]):=gT.upd hn;have neT:∀ b∈[z,TO,i1,i2,S],b≠s.heap.objs.size:=λb hb q=>by
   have nl:S<s.heap.objs.size:=kG gS;refine y6 Z.1 λ_ _ _ _ z1 _ _ z2 z3 z4=>?_;obtain⟨_,z3⟩:=z3.ex;obtain⟨_,z4⟩:=z4.ex;have nz:z<s.heap.objs.size:=kG z1;have n1:i1<s.heap.objs.size:=kG z3;have n2:i2<s.heap.objs.size:=kG z4;have n3:TO<s.heap.objs.size:=kG z2;simp only[bQ,bE,c9]at hb;rcases hb with e|e|e|e|e
   .exact aF nz (e.symm.trans q)
   .exact aF n3 (e.symm.trans q)
   .exact aF n1 (e.symm.trans q)
   .exact aF n2 (e.symm.trans q)
   .exact aF nl (e.symm.trans q)
  have Zm:=zk kk _ _ SnI gS;have fp':∀ b∈[z,TO,i1,i2,S],nk X ee (upd H s.heap.objs.size<|.tup [x,y]) b:=λb hb=>⟨by rw[e9 (neT b hb)];exact(fp b hb).1,(fp b hb).2⟩;show wpAny _ A.in1 (updateSeq S (·.push (Value.ref s.heap.objs.size))>>=_) _ _ _;refine fb (dn Zm rfl (av ⟨plainId_quiet dm _,?_⟩) (by rw[aB];lia) (by show(fu.toArray.push _).size<=sizeLine+1;rw[Array.size_push,aB];lia));have but:Heap.ExtBut S h' (h'.update S (Obj.mapSeq (·.push (Value.ref s.heap.objs.size)))):=λb o hb e=>(aZ _ _<|bz hb).trans e;have gS2:=bt (Obj.mapSeq (·.push (Value.ref s.heap.objs.size))) Zm rfl;have I2:=I'.KR (ch:=[S]) (h'':=h'.update S (Obj.mapSeq (·.push (Value.ref s.heap.objs.size)))) (λb hb=>by rw[List.mem_singleton.mp hb];exact fp' S<|by simp) λb o hb e=>but b o (λq=>hb<|by simp[q]) e;have e2:fu.toArray.push (Value.ref s.heap.objs.size)=(fu++[Value.ref s.heap.objs.size]).toArray:=by simp
  obtain⟨c',gS3⟩:∃ c',(h'.update S (Obj.mapSeq (·.push (Value.ref s.heap.objs.size)))).get? S=some (lobj (fu++[Value.ref s.heap.objs.size]) c'):=by have q:=PySem.IsL.update Zm (·.push (Value.ref s.heap.objs.size));rw[e2]at q;exact⟨_,q⟩
  refine ih (i+1) _ _ (us++[.ref s.heap.objs.size]) _ c' (by lia) uq (by rw[mJ,aU,hu]) I2 (hS.trans S1) fp' gS3 (rv.append<|.cons (show fM (V.ref s.heap.objs.size) _ from rfl) .nil) ?_ (Z'.but but nS)
  .intro j u' ej;by_cases hj:j<us.length
   .rw[tE hj]at ej;exact pr.same S1 j u' ej
   .rw[ou (by lia)]at ej;have hj0:j - us.length=0:=by have:=(mW ej).1;rw[aU]at this;lia
    rw[hj0]at ej;cases ej;have:j=i:=by lia
    subst this;exact⟨_,x,y,rfl,eZ,ex,ey⟩
def Mc {H:Hp}{s:ai}{a b:aj}{xs ys:ao V}{Q:VK}(I:Inv X ee σ H s)(gE:X.gE=true)(ha:H a=some (.lst xs))(hb:H b=some (.lst ys))
 (hQ:∀ l us H',H l=none->gT H H'->H' l=some (.lst us)->us.length=min xs.length ys.length->vE H' xs ys us->Q (.ref l) H'):
 wpAny (model X.prog X.w) X.A (call (.type "zip") [.ref a,.ref b]) (λv s1=>wpAny (model X.prog X.w) X.A (call (.type "list") [v]) (EP X ee σ Q) X.xe s1) X.xe s:=by
 obtain⟨z1,xv,n1,rx,lx,ea⟩:=I.r8 ha;obtain⟨z2,yv,n2,ry,ly,eb⟩:=I.r8 hb;have p1:oA false s.heap a xv.toArray:=⟨_,ea,rfl,n1,rfl⟩;have p2:oA false s.heap b yv.toArray:=⟨_,eb,rfl,n2,rfl⟩;have la:(a:Nat)<s.heap.objs.size:=kG ea;have lb:(b:Nat)<s.heap.objs.size:=kG eb;refine Cv p1 p2 λh' hz Kt Ks i1 i2 kp=>?_;have I1:Inv X ee σ H {s with heap:=h'}:=I.eI (t':=s.toks) kp;have D:ZipApart (s.heap.objs.size+4) (s.heap.objs.size+2) (s.heap.objs.size+3) s.heap.objs.size (s.heap.objs.size+1) a b:=zipApart_new la lb;refine callType_codes (Q₁:=λobj s₁=>obj=.ref h'.objs.size/\s₁={s with heap:=h'.push { cls:=.type "list",data:=.seq #[]}}) F.called_list (F.typeCall_list_1 _) F.entry_list_init (code_list_new _ ⟨rfl,rfl⟩) λobj s₁ h₁=>?_;obtain⟨rfl,rfl⟩:=h₁;have hS:(h'.push { cls:=.type "list",data:=.seq #[]}).get? h'.objs.size=some (lobj [] 0):=aC _ rfl;refine⟨⟨_,hS,rfl⟩,F.args_list_init_2 _ _,?_⟩;have I2:Inv X ee σ H {s with heap:=h'.push { cls:=.type "list",data:=.seq #[]}}:=I1.eI (t':=s.toks) λ_ _ e=>kJ _ e;have sz:s.heap.objs.size+4<h'.objs.size:=kG hz;have fpn:∀ c,s.heap.objs.size<=c->nk X ee H c:=λc hc=>I.Bo hc<|I.fB.fresh hc;refine fb ?_;delta Builtin.List.listItems;refine fb<|bI hS rfl (av ?_);show wpAny _ X.A.in1.in1 (updateSeq h'.objs.size (λ_=>#[])>>=λ_=>letGo (#[]:Array ak).toList.reverse>>=λ_=>Builtin.List.listExtendWith (.ref h'.objs.size) (.ref<|s.heap.objs.size+4) .none) _ _ _;refine fb<|dn hS rfl ?_;refine fb<|wpAny_letGo ?_;have fill:∀(g:Heap) (tk c:Nat),(∀ d o,d≠h'.objs.size->(h'.push { cls:=.type "list",data:=.seq #[]}).get? d=some o->g.get? d=some o)->g.get? h'.objs.size=some (lobj [] c) ->
  codeAny (model X.prog X.w) X.A.in1 (.builtin "list.extend.loop" ⟨[.ref h'.objs.size,.ref (s.heap.objs.size+4),.none],[]⟩) (wants (λr s₂=>r=.none/\EP X ee σ Q (.ref h'.objs.size) s₂) X.xe) {s with heap:=g,toks:=tk}:=λg tk c kg gS=>by
  have Sn:∀ d o,h'.get? d=some o->g.get? d=some o:=λd o e=>kg d o (aF<|kG e)<|kJ _ e;have I3:Inv X ee σ H {s with heap:=g,toks:=tk}:=I1.eI (t':=tk) Sn;have nS:h'.objs.size∉[s.heap.objs.size+4,s.heap.objs.size+2,s.heap.objs.size+3,s.heap.objs.size,s.heap.objs.size+1,a,b]:=by simp only[bQ,bE,c9,not_or];have sz':(s.heap.objs.size:Nat)+4<h'.objs.size:=sz;refine⟨?_,?_,?_,?_,?_,bh<|dX la<|by lia,bh<|dX lb<|by lia⟩<;> (intro q;lia)
  refine KA (A:=X.A.in1) (I.ok.hd gE) D rx ry z1 nS (H0:=H) ?_ _ 0 _ H [] [] c rfl (bp _) rfl I3 (gT.refl _) ?_ gS .nil (λi u e=>by simp at e) ⟨⟨_,_,_,_,Sn _ _ hz,.inl rfl,Sn _ _ Kt,Sn _ _ Ks,i1.at λ_ e=>Sn _ _ e,i2.at λ_ e=>Sn _ _ e⟩,⟨_,Sn _ _<|kp _ _ ea,rfl,n1,rfl⟩,⟨_,Sn _ _<|kp _ _ eb,rfl,n2,rfl⟩⟩
  .intro s' H' us fu c' I' S' Sj Zm rv lu pr;refine⟨rfl,?_⟩;have hfp:=fpn h'.objs.size (by lia);have I4:=I'.adopt (ys:=us) Sj hfp.2.1 (by have:=I.sz;lia) hfp.2.2.2.2.1 hfp.2.2.2.2.2 Zm rv (by lia);exact⟨.ref h'.objs.size,_,I4,rfl,hQ _ us _ (I.fB.fresh<|by lia) (S'.trans<|gT.upd Sj) eZ lu<|pr.same<|gT.upd Sj⟩
  .intro d hd;simp only[bQ,bE,c9]at hd;refine fpn d ?_;rcases hd with e|e|e|e|e<;>subst e<;>lia
 have hS₂:=bt (Obj.mapSeq λ_=>(#[]:Array ak)) hS rfl;have oth:∀(d:aj) (o:Obj),d≠h'.objs.size->(h'.push { cls:=.type "list",data:=.seq #[]}).get? d=some o->((h'.push { cls:=.type "list",data:=.seq #[]}).update h'.objs.size<|Obj.mapSeq λ_=>(#[]:Array ak)).get? d=some o :=
  λd o hd e=>(aZ _ _<|bz hd).trans e
 have ON:=oth _ _ (aF sz)<|kJ { cls:=.type "list",data:=.seq #[]} hz;have tyz:Shared.TypeIs {s with heap:=(h'.push { cls:=.type "list",data:=.seq #[]}).update h'.objs.size (Obj.mapSeq λ_=>(#[]:Array ak))} (.ref<|s.heap.objs.size+4) "zip":=⟨_,ON,rfl⟩;delta Builtin.List.listExtendWith;refine fb<|wpAny_typeOf tyz ?_;have e1:Builtin.List.listSameRef (.ref h'.objs.size) (.ref<|s.heap.objs.size+4)=false:=by simp only[Builtin.List.listSameRef];exact cX (bh sz)
 have e2:(Value.type "zip"==Value.type "list")=false:=by decide
 have e3:(Value.type "zip"==Value.type "tuple")=false:=by decide
 simp only[e1,e2,e3,Bool.or_false,cz,dQ];refine fb<|wpAny_pyIter_zip ON ?_;refine fb<|bo ?_;delta Builtin.List.listLengthHint;refine fb<|wpAny_specialOf tyz EX ?_;show wpAny _ _ (specialOf (Value.ref<|s.heap.objs.size+4) (Str.ofString "__length_hint__")>>=_) _ _ _;refine fb<|wpAny_specialOf tyz Cu ?_;refine av ?_;show wpAny _ _ (rule "list.extend.makes-room" >>= λ_=>Builtin.List.listTouch (.ref h'.objs.size) >>= λ_ =>
  again (.builtin "list.extend.loop" ⟨[.ref h'.objs.size,.ref (s.heap.objs.size+4),.none],[]⟩)) _ _ _
 refine fb<|wpAny_rule ?_;refine fb ?_;show wpAny _ _ (updateSeq h'.objs.size (·.push .none)>>=λ_=>updateSeq h'.objs.size (·.pop)) _ _ _;refine fb<|dn hS₂ rfl ?_;have hS₃:=bt (Obj.mapSeq (·.push Value.none)) hS₂ rfl;refine dn (hz:=by seq_fits) hS₃ rfl ?_;have hS₄:=bt (Obj.mapSeq (·.pop)) hS₃ rfl;refine av ⟨plainId_quiet dm _,fill _ s.toks _ (λd o hd e=>?_) hS₄⟩;exact(aZ _ _<|bz hd).trans ((aZ _ _<|bz hd).trans<|oth d o hd e)
end
def Ite (l:aj):It :=
 ⟨λi H=>∃ xs x,H l=some (.lst xs)/\xs[i]?=some x,
  λi H v H'=>∃ T x,v=.ref T/\H T=none/\H'=upd H T (.tup [.int i,x])/\∀ xs,H l=some (.lst xs)->xs[i]?=some x,
  λi H=>∃ xs,H l=some (.lst xs)/\i=xs.length⟩
section
variable {X:Cx}{a b e:Expr}{es:ao Expr}{pos:Pos}
def ab9 (ta:TA):TI:=λσ H R=>ta σ H λvs H1=>match vs with
 |[.ref l]=>∃ xs,H1 l=some (.lst xs)/\R (Ite l) H1
 |_=>False
def dItZ (w:DA):DI:=λρ μ K=>w ρ μ λds eV=>match ds with
 |[x,y]=>opt (lv eV x) λxs=>opt (lv eV y) λys=>K (List.zipWith (λa b=>D.tup [a,b]) xs ys) (λfj=>lc x xs fj/\lc y ys fj) eV
 |_=>False
def dLZ (m:Bool)(w:DA):De:=λρ μ K=>w ρ μ λds eV=>match ds with
 |[x,y]=>opt (lv eV x) λxs=>opt (lv eV y) λys=>nL m (List.zipWith (λa b=>D.tup [a,b]) xs ys) eV K
 |_=>False
def Hd {φ:ao aj}{H:Hp}{xs ys:ao D}{vx vy us:ao V}(ax:fe φ H xs vx)(ay:fe φ H ys vy)(hu:us.length=min vx.length vy.length)(nφ:∀(T:aj) (zs:ao V),H T=some (.tup zs)->T∉φ)(h:vE H vx vy us):fe φ H (List.zipWith (λa b=>D.tup [a,b]) xs ys) us:=by
 have key:∀(ds:ao D) (us:ao V),ds.length=us.length->(∀(i:Nat) (d:D) (u:V),ds[i]?=some d->us[i]?=some u->kP φ H d u)->fe φ H ds us:=by
  intro ds;induction ds with
  | nil=>intro us hl _;cases us with
   |nil=>rfl
   |cons _ _=>contradiction
  | cons d ds ih =>
   intro us hl hh;cases us with
   |nil=>cases hl
   |cons u us=>exact⟨u,us,rfl,hh 0 d u rfl rfl,ih us (by simpa using hl) λi d' u' e1 e2=>hh (i+1) d' u' (by simpa using e1)<|by simpa using e2⟩
 refine key _ _ (by rw[List.length_zipWith,hu,ax.len,ay.len]) λi d u e1 e2=>?_;refine Gw (h i u e2) λT x y fE hT hx hy=>?_;subst fE;refine eS (ax.QK hx) λdx ex ix=>?_;refine eS (ay.QK hy) λdy ey iy=>?_;rw[List.getElem?_zipWith,ex,ey]at e1;cases e1;exact⟨T,_,rfl,nφ T _ hT,hT,x,_,rfl,ix,y,_,rfl,iy,rfl⟩
def JS (m:Bool){w:DA}{p p2 P0:Pos}(gE:X.gE=true)(hg:Gl X "list")(hm:X.mg "list"=none)(VM:Gl X "zip")(QH:X.mg "zip"=none)(ha:sA X [a,b] w)(hs:starEach [a,b] X.env=[(false,eval a X.env),(false,eval b X.env)]:=by rfl)(uM:starEach [b] X.env=[(false,eval b X.env)]:=by rfl)
 (hs3:starEach [.Call (.Name "zip" p2) [a,b] [] P0] X.env=[(false,eval (.Call (.Name "zip" p2) [a,b] [] P0) X.env)]:=by rfl):
 PD X (.Call (.Name "list" p) [.Call (.Name "zip" p2) [a,b] [] P0] [] pos) (dLZ m w):=by
 intro ee s σ H Q I h;refine bu<|nN I hg hm boot_list ?_;refine fF h λφ ρ μ K A M k L=>?_;refine bj ?_ hs3 rfl;rw[hs3];refine cc ?_;have hq:TZ w σ H (λvs H1=>match vs with | [.ref a,.ref b]=>∃(xs ys:ao V),H1 a=some (.lst xs)/\H1 b=some (.lst ys)/\∀ l us H',H1 l=none->gT H1 H'->H' l=some (.lst us)->us.length=min xs.length ys.length->vE H' xs ys us->Q (.ref l) H' | _=>False):=by
  refine⟨φ,ρ,μ,_,A,M,k,λds eV fo vs H1 k1 f1 M1 i1=>?_⟩;split at k1
  .rename_i x y;refine eS (gJ k1) λxs ex k1=>?_;refine eS (gJ k1) λys ey k1=>?_
   .obtain⟨v,r,rfl,h1,u,r',rfl,h2,h3⟩:=i1;cases(show r'=[]from h3);refine fw (oF M1 h1 ex) λp1 vx fE hp1 ax=>?_;subst fE;refine fw (oF M1 h2 ey) λp2 vy fE VE ay=>?_;subst fE;refine⟨vx,vy,hp1,VE,λl us H' hl S' hu len pr=>?_⟩;have VJ:l∉fo:=M1.fresh hl;have M2:=M1.same S';have f2:Fr fo H1 fo H':=.same S';have nt:∀(T:aj) (zs:ao V),H' T=some (.tup zs)->T∉fo:=λT zs e hT=>by
     obtain⟨j,hj,ej⟩:=cK hT;refine eS (M2.at_ j (eV[j]'(by have:=M2.len;lia))<|vk _) λq e1 e2=>?_;rw[vk hj,ej]at e1;cases e1;revert e2;cases eV[j]'(by have:=M2.len;lia)with
     |box=>rintro⟨q,ns,i,r,z,h1,_⟩;rw[e]at h1;cases h1
     |lst ds=>rintro⟨vs,h1,_⟩;rw[e]at h1;cases h1
     |lh ks ds=>rintro⟨eP,vs,h1,_⟩;rw[e]at h1;cases h1
     |se o eP ds=>rintro⟨h1,_⟩;rw[e]at h1;cases h1
     |ins C ns ds=>rintro⟨dx,fs,h1,_⟩;rw[e]at h1;cases h1
     |QT ks ds=>rintro⟨eP,h1,_⟩;rw[e]at h1;cases h1
     |gx fi H0=>rintro⟨_,_,_,h4⟩;exact absurd e (h4 _)
     |exc c=>intro h1;rw[show _=_ from h1]at e;cases e
     |y3 C ns ds=>rintro⟨dx,t,fs,h1,_⟩;rw[e]at h1;cases h1
    have al:=Hd (ax.mono f2) (ay.mono f2) len nt pr;cases m with
    |false=>exact L _ eV fo _ H' k1 (f1.trans f2) M2 ⟨l,us,rfl,VJ,hu,al⟩
    | true =>
     have f3:Fr fo H1 (fo++[l]) H':=⟨(Fr.snoc (φ:=fo) hl).ext,λc o _ e=>S' c o e,λc e=>S'.free e⟩;have M3:fG (fo++[l]) H' (eV++[.lst (List.zipWith (λa b=>D.tup [a,b]) xs ys)]):=by
      have nt':∀(T:aj) (zs:ao V),H' T=some (.tup zs)->T∉fo++[l]:=λT zs e hT=>by
       rcases List.mem_append.mp hT with q|q
       .exact nt T zs e q
       .rw[List.mem_singleton.mp q,hu]at e;cases e
      have al':=Hd (ax.mono f3) (ay.mono f3) len nt' pr;refine⟨?_,by rw[mJ,mJ,M1.len];rfl,λk n e=>?_⟩
      .rw[bP];exact⟨M1.nd,by simp,λa ha b hb=>by rw[List.mem_singleton.mp hb];intro z;exact VJ (by rw[<- z];exact ha)⟩
      .by_cases hk:k<eV.length
       .rw[tE hk]at e;refine eS (M1.at_ k n e) λq e1 e2=>?_;exact⟨q,f3.get e1,e2.mono f3 λu eu=>S' _ _ eu⟩
       .have JA:k=eV.length:=by have:=(mW e).1;rw[mJ,aU]at this;lia
        subst JA
        rw[ou (au _),aO]at e
        cases e
        exact⟨l,by rw[ou (by rw[M1.len];exact au _),M1.len,aO];rfl,us,hu,al'⟩
     exact L _ _ (fo++[l]) _ H' k1 (f1.trans f3) M3 ⟨l,by rw[ou (by rw[M1.len];exact au _),M1.len,aO];rfl,rfl⟩
  .exact k1.elim
 refine Call_ (nN I VM QH boot_zip<|bj (gg (ha P0 ee s σ H _ I hq) λus s1 QF=>?_) (by rw[hs,uM]) (by rw[uM];rfl));obtain⟨vs,H1,I1,r1,q1⟩:=QF;try dsimp only at q1
 split at q1
 .rename_i l1 l2;refine fw q1 λxs ys h1 h2 q=>?_;refine fw r1.two λu1 u2 fE e1 e2=>?_;subst fE;subst e1;cases e2;exact gg (Mc I1 gE h1 h2 q) λv s2 hv=>cD hv
 .exact q1.elim
end
def uW.val {K:DK}(L:uW φ H K Q)(M:fG φ H μ)(k:K d μ)(i:kP φ H d v):Q v H:=L d μ φ v H k (.refl _ _) M i
def Wr (m:Bool):Ag:=λx y μ K=>match x,y with
 |.int i,.int j=>K (.int<|i+j) μ
 |.str i,.str j=>i.length+j.length<=sizeLine/\K (.str<|i++j) μ
 |x,y=>opt (lv μ x) λxs=>opt (lv μ y) λys=>xs.length+ys.length<=sizeLine/\nL m (xs++ys) μ K
def Ug:p8 Lz (Wr m):=λφ H x y dx dy μ K Q M hx hy k L=>by
 delta Wr at k;split at k
 .subst hx;subst hy;exact L.val M k rfl
 .subst hx;subst hy;exact⟨k.1,L.val M k.2 rfl⟩
 .refine eS (gJ k) λxs ex k=>?_;refine eS (gJ k) λys ey k=>?_;refine fw (oF M hx ex) λp vx fE hp ax=>?_;subst fE;refine fw (oF M hy ey) λq vy fE hq ay=>?_;subst fE;exact⟨vx,vy,hp,hq,by rw[ax.len,ay.len];exact k.1,λl hl=>Ey L M (ax.app ay) k.2 hl⟩
def dI2 (C:Int->Int->Prop)(g:Int->Int->D):Ag:=λx y μ K=>match x,y with
 |.int i,.int j=>C i j/\K (g i j) μ
 |_,_=>False
def yd (g:Int->Int->D):Ag:=λx y μ K=>match x,y with
 |.int i,.int j=>K (g i j) μ
 |_,_=>False
def Lc {g:Int->Int->Int}:p8 (WW C λi j=>.int<|g i j) (dI2 C λi j=>.int<|g i j):=λφ H x y dx dy μ K Q M hx hy k L=>by
 delta dI2 at k;split at k
 .subst hx;subst hy;exact⟨k.1,L.val M k.2 rfl⟩
 .exact k.elim
def Ud {g:Int->Int->Int}:p8 (AU λi j=>.int<|g i j) (yd λi j=>.int<|g i j):=λφ H x y dx dy μ K Q M hx hy k L=>by
 delta yd at k;split at k
 .subst hx;subst hy;exact L.val M k rfl
 .exact k.elim
def wJ {g:Int->Int->Bool}:p8 (AU λi j=>.bl<|g i j) (yd λi j=>.bl<|g i j):=λφ H x y dx dy μ K Q M hx hy k L=>by
 delta yd at k;split at k
 .subst hx;subst hy;exact L.val M k rfl
 .exact k.elim
def ZW:Ag:=λx y μ K=>match x,y with
 |.int i,.int j=>OF i j/\K (.int<|i*j) μ
 |.str z,.int n=>∃ c:Nat,z=⟨#[c]⟩ /\ -1000000<=n/\n<=1000000/\K (.str ⟨(List.replicate n.toNat c).toArray⟩) μ
 |_,_=>False
def wI:p8 Ls ZW:=λφ H x y dx dy μ K Q M hx hy k L=>by
 delta ZW at k;split at k
 .subst hx;subst hy;exact⟨k.1,L.val M k.2 rfl⟩
 .subst hx;subst hy;obtain⟨c,rfl,h1,h2,k⟩:=k;exact⟨c,rfl,h1,h2,L.val M k rfl⟩
 .exact k.elim
def Ra (neg:Bool):Ag:=λx y μ K=>match x,y with
 |.int i,.int j=>K (.bl<|neg != decide (i=j)) μ
 |.str i,.str j=>K (.bl<|neg != decide (i=j)) μ
 |.bl i,.bl j=>K (.bl<|neg != decide (i=j)) μ
 |_,_=>False
def Ar:p8 (Lx neg) (Ra neg):=λφ H x y dx dy μ K Q M hx hy k L=>by
 delta Ra at k;split at k
 .subst hx;subst hy;exact L.val M k rfl
 .subst hx;subst hy;exact L.val M k rfl
 .subst hx;subst hy;exact L.val M k rfl
 .exact k.elim
def dIx:Ag:=λx y μ K=>match x,y with
 |.str z,.int i=>z.length<=sizeLine/\opt (wq z.cps.toList i) λc=>K (.str ⟨#[c]⟩) μ
 |.tup ds,.int i=>opt (wq ds i) λd=>K d μ
 |x,.int i=>opt (lv μ x) λds=>opt (wq ds i) λd=>K d μ
 |_,_=>False
theorem fe.wq {φ:ao aj}{H:Hp}{ds:ao D}{vs:ao V}{i:Int}{d:D}(h:fe φ H ds vs)(e:wq ds i=some d):∃ v,wq vs i=some v/\kP φ H d v:=by
 delta L2.wq at e ⊢
 rw[h.len];cases q:QC ds.length i with
 |none=>rw[q]at e;cases e
 |some j=>rw[q]at e;exact h.get e
def XI:p8 Uw dIx:=λφ H x y dx dy μ K Q M hx hy k L=>by
 delta dIx at k;split at k
 .subst hx;subst hy;refine eS (gJ k.2) λc e k'=>?_;exact⟨k.1,eY e<|L.val M k' rfl⟩
 .subst hy;refine eS (gJ k) λd e k=>?_;refine jX hx λp vs fE _ hp ha=>?_;subst fE;refine eS (ha.wq e) λv ev iv=>?_;exact⟨vs,.inr hp,eY ev<|L.val M k iv⟩
 .subst hy;refine eS (gJ k) λds el k=>?_;refine eS (gJ k) λd e k=>?_;refine fw (oF M hx el) λp vs fE hp ha=>?_;subst fE;refine eS (ha.wq e) λv ev iv=>?_;exact⟨vs,.inl hp,eY ev<|L.val M k iv⟩
 .exact k.elim
abbrev DO:=DE->MS->(aq Int->MS->Prop)->Prop
def WT (w:DO):TO:=λσ H Q=>∃ φ ρ μ K,kQ φ H ρ σ/\fG φ H μ/\w ρ μ K/\∀ o fj fO H',K o fj->Fr φ H fO H'->fG fO H' fj->Q o H'
def dNo:DO:=λ_ μ K=>K none μ
def ZT (w:De):DO:=λρ μ K=>w ρ μ λd eV=>match d with|.int i=>K (some i) eV|_=>False
def cutD (ds:ao D)(lo hi:aq Int):ao D:=(ds.drop<|HT.jK ds.length 0 lo).take (HT.jK ds.length ds.length hi - HT.jK ds.length 0 lo)
def dSlc (m:Bool)(w:De)(l h:DO):De:=λρ μ K=>w ρ μ λx eV=>l ρ eV λlo ik=>h ρ ik λhi sC=>match x with
 |.str z=>z.length<=sizeLine/\K (.str ⟨(kH z.cps.toList lo hi).toArray⟩) sC
 |x=>opt (lv sC x) λds=>nL m (cutD ds lo hi) sC K
section
variable {X:Cx}{a b e:Expr}{es:ao Expr}{pos:Pos}
def PO.imp {e:aq Expr}{t t':TO}(h:PO X e t)(hi:∀ σ H Q,t' σ H Q->t σ H Q):PO X e t':=λee s σ H Q I q=>h ee s σ H Q I (hi σ H Q q)
def Fy:PO X none (WT dNo):=UG.imp λσ H Q h_=>fF h_ λφ ρ μ K A M k L=>L none μ φ H k (.refl _ _) M
def pR (h:PD X e w):PO X (some e) (WT<|ZT w):=(LF h).imp λσ H Q ⟨φ,ρ,μ,K,A,M,k,L⟩ =>
 ⟨φ,ρ,μ,_,A,M,k,λd eV fo v1 H1 k1 f1 M1 i1=>by
  cases d with
  |int i=>cases i1;exact L _ eV fo H1 k1 f1 M1
  |_=>exact k1.elim⟩
def fe.cut (h:fe φ H ds vs)(lo hi:aq Int):fe φ H (cutD ds lo hi) (BR vs lo hi):=by delta cutD BR;rw[h.len];exact(h.drop _).take _
def p0 (m:Bool){lo:aq Expr}(ha:PD X a w)(hl:PO X lo (WT l))(hh:PO X hi (WT h)):PD X (.Subscript a (.Slice lo hi none p) pos) (dSlc m w l h):=(Dh slC ha hl hh).imp λσ H Q h_=>fF h_ λφ ρ μ K A M k L=>by
 refine⟨φ,ρ,μ,_,A,M,k,λd eV fo v1 H1 k1 f1 M1 i1=>⟨fo,ρ,eV,_,A.mono f1,M1,k1,λlo ik lQ H2 k2 f2 M2=>⟨lQ,ρ,ik,_,A.mono<|f1.trans f2,M2,k2,λhi sC EN H3 k3 f3 M3=>?_⟩⟩⟩;have i3:=i1.mono<|f2.trans f3;have L3:=L.mono<|f1.trans<|f2.trans f3;split at k3
 .subst i3;exact⟨k3.1,L3.val M3 k3.2 rfl⟩
 .refine eS (gJ k3) λds el k=>?_;refine fw (oF M3 i3 el) λp vs fE hp ha=>?_;subst fE;exact⟨vs,hp,λl hl=>Ey L3 M3 (ha.cut lo hi) k hl⟩
end
def VZ:ot:=λds μ K=>match ds with
 |[.str z]=>z.length<=sizeLine/\K (.int z.length) μ
 |[.tup xs]=>K (.int xs.length) μ
 |[x]=>opt (lv μ x) λxs=>K (.int xs.length) μ
 |_=>False
def T9:mY Lv VZ:=λφ H vs ds μ K Q M h k L=>by
 delta VZ at k;split at k
 .obtain⟨v,r,rfl,h1,h2⟩:=h;subst h2;subst h1;exact⟨k.1,L.val M k.2 rfl⟩
 .obtain⟨v,r,rfl,h1,h2⟩:=h;subst h2;refine jX h1 λp vs fE _ hp ha=>?_;subst fE;exact⟨vs,.inr hp,ha.len▸L.val M k rfl⟩
 .obtain⟨v,r,rfl,h1,h2⟩:=h;subst h2;refine eS (gJ k) λxs el k=>?_;refine fw (oF M h1 el) λp vs fE hp ha=>?_;subst fE;exact⟨vs,.inl hp,ha.len▸L.val M k rfl⟩
 .exact k.elim
def fMax:ot:=λds μ K=>dM [.i,.i] ds λi j=>K (.int<|max i j) μ
def K9:mY R9 fMax:=λφ H vs ds μ K Q M h k L=>by obtain⟨_,_,rfl,k⟩:=dJ k;obtain⟨v,r,rfl,h1,u,r',rfl,h2,h3⟩:=h;cases h3;cases h1;cases h2;exact⟨_,_,rfl,L.val M k rfl⟩
def fAll (g:ao Bool->Bool):ot:=λds μ K=>dM [.v] ds λx=>∃ bs:ao Bool,lv μ x=some (bs.map D.bl)/\K (.bl<|g bs) μ
def E8 {g:ao Bool->Bool}:mY (CY g) (fAll g):=λφ H vs ds μ K Q M h k L=>by obtain⟨_,rfl,k⟩:=dJ k;obtain⟨v,r,rfl,h1,h2⟩:=h;cases h2;let ⟨bs,el,k⟩:=k;obtain⟨p,vs,rfl,hp,ha⟩:=oF M h1 el;exact⟨bs,by rw[hp,ha.bls],L.val M k rfl⟩
def Zx (m:Bool):ot:=λds μ K=>dM [.v] ds λx=>opt (lv μ x) λxs=>nL m xs μ K
def Pn:mY (Ff Kf) (Zx m):=λφ H vs ds μ K Q M h k L=>by obtain⟨_,rfl,k⟩:=dJ k;obtain⟨v,r,rfl,h1,h2⟩:=h;cases h2;let ⟨xs,el,k⟩:=gJ k;obtain⟨p,vs,rfl,hp,ha⟩:=oF M h1 el;exact⟨vs,qv.of hp,λl hl=>Ey L M ha k hl⟩
def Nf:O0:=λd ds μ K=>match d,ds with
 |.str z,[.str y]=>∃ c:Nat,y=⟨#[c]⟩/\K (.int ((z.cps.toList.count c:Nat):Int)) μ
 |_,_=>False
def CL:B5 Kf "str" AV Nf:=λφ H x vs d ds μ K Q M hx h k L=>by
 delta Nf at k;split at k
 .subst hx;obtain⟨v,r,rfl,h1,h2⟩:=h;subst h2;subst h1;obtain⟨c,rfl,k⟩:=k;exact⟨c,rfl,L.val M k rfl⟩
 .exact k.elim
def L5 (M:fG φ H μ)(hx:kP φ H (.mr k) x)(e:μ[k]?=some (.lst ds)):∃ p vs,x=.ref p/\φ[k]?=some p/\H p=some (.lst vs)/\fe φ H ds vs:=by refine eS hx λp hp fE=>?_;subst fE;obtain⟨q,e1,vs,hv,ha⟩:=M.at_ k _ e;rw[hp]at e1;cases e1;exact⟨p,vs,rfl,hp,hv,ha⟩
def FF {K:DK}(L:uW φ H K Q)(M:fG φ H μ)(hp:φ[k]?=some p)(ha:fe φ H ds vs)(hd:kP φ H d v)(kk:K d (μ.set k<|.lst ds)):Q v (upd H p<|.lst vs):=by have f:Fr φ H φ (upd H p<|.lst vs):=.put<|ET hp;exact L d _ φ v _ kk f (M.put hp ⟨_,eZ,ha.mono f⟩) (hd.mono f)
def HG:O0:=λd ds μ K=>match d,ds with
 |.mr k,[y]=>opt (Cn μ k) λxs=>xs.length<sizeLine/\K .gw (μ.set k<|.lst<|xs++[y])
 |_,_=>False
def o9:B5 Kf "list" CW HG:=λφ H x vs d ds μ K Q M hx h k L=>by
 delta HG at k;split at k
 .refine eS (gJ k) λxs em k=>?_
  .refine jX (L5 M hx<|pW em) λp us fE hp hv ha=>?_;subst fE;obtain⟨v,r,rfl,h1,h2⟩:=h;subst h2;exact⟨_,_,us,rfl,rfl,hv,ha.len▸k.1,FF (d:=.gw) L M hp (ha.app<|show fe φ H [_] [v]from⟨v,[],rfl,h1,rfl⟩) rfl k.2⟩
 .exact k.elim
section
variable {X:Cx}
def Lr:V->ao V->Hp->VK->Prop:=λx vs H Q=>match x,vs with
 |.ref l,[]=>∃ xs y,H l=some (.lst xs)/\xs[xs.length - 1]?=some y/\Q y (upd H l<|.lst xs.dropLast)
 |_,_=>False
def UE:B7 X "list.pop" Lr:=B7.imp Vc λx vs H Q q=>by
 delta Lr at q;split at q
 .obtain⟨xs,y,a,b,c⟩:=q;exact⟨_,xs,y,rfl,rfl,a,b,c⟩
 .exact q.elim
def xc:V->ao V->Hp->VK->Prop:=λx vs H Q=>match x,vs with
 |.ref l,[.ref b]=>∃ xs zs,H l=some (.lst xs)/\H b=some (.lst zs)/\xs.length+zs.length<=sizeLine/\Q .gw (upd H l<|.lst<|xs++zs)
 |_,_=>False
def QM:B7 X "list.extend" xc:=B7.imp Jl λx vs H Q q=>by
 delta xc at q;split at q
 .obtain⟨xs,zs,a,b,c,d⟩:=q;exact⟨_,_,xs,zs,rfl,rfl,a,b,c,d⟩
 .exact q.elim
end
theorem fe.dropLast (h:fe φ H ds vs):fe φ H ds.dropLast vs.dropLast:=by rw[List.dropLast_eq_take,List.dropLast_eq_take,h.len];exact h.take _
def Zv:O0:=λd ds μ K=>match d,ds with
 |.mr k,[]=>opt (Cn μ k) λxs=>opt (xs[xs.length - 1]?) λy=>K y (μ.set k<|.lst xs.dropLast)
 |_,_=>False
def E7:B5 Kf "list" Lr Zv:=λφ H x vs d ds μ K Q M hx h k L=>by
 delta Zv at k;split at k
 .refine eS (gJ k) λxs em k=>?_
  .refine jX (L5 M hx<|pW em) λp us fE hp hv ha=>?_;subst fE;subst h;refine eS (gJ k) λy ey k=>?_;refine eS (ha.get ey) λv ev iv=>?_;exact⟨us,v,hv,by rwa [ha.len],FF L M hp ha.dropLast iv k⟩
 .exact k.elim
def HF:O0:=λd ds μ K=>match d,ds with
 |.mr k,[y]=>opt (Cn μ k) λxs=>opt (lv μ y) λzs=>xs.length+zs.length<=sizeLine/\K .gw (μ.set k<|.lst<|xs++zs)
 |_,_=>False
def IC:B5 Kf "list" xc HF:=λφ H x vs d ds μ K Q M hx h k L=>by
 delta HF at k;split at k
 .refine eS (gJ k) λxs em k=>?_;refine eS (gJ k) λzs el k=>?_
  .refine jX (L5 M hx<|pW em) λp us fE hp hv ha=>?_;subst fE;obtain⟨v,r,rfl,h1,h2⟩:=h;subst h2;refine fw (oF M h1 el) λq ws fE hq hz=>?_;subst fE;exact⟨us,ws,hv,hq,by rw[ha.len,hz.len];exact k.1,FF (d:=.gw) L M hp (ha.app hz) rfl k.2⟩
 .exact k.elim
def Ub {f:Int->Int->Int}:Ww (ipC f) (yd λi j=>.int<|f i j):=λφ H x y dx dy μ K Q M hx hy k L=>by
 delta yd at k;split at k
 .subst hx;subst hy;exact L.val M k rfl
 .exact k.elim
mutual
def OV:D->D->Bool
 |.gw,.gw=>true
 |.bl a,.bl b=>a==b
 |.bl a,.int b=>(if a then 1 else 0)==b
 |.int a,.bl b=>a==(if b then 1 else 0)
 |.int a,.int b=>a==b
 |.str a,.str b=>a==b
 |.lst xs,.lst ys=>V5 xs ys
 |.tup xs,.tup ys=>V5 xs ys
 |_,_=>false
def V5:List D->List D->Bool
 |[],[]=>true
 |x::xs,y::ys=>OV x y&&V5 xs ys
 |_,_=>false
end
def yZ:D->Bool
 |.gw=>true
 |.bl _=>true
 |.int _=>true
 |.str _=>true
 |_=>false
section
variable {X:Cx}
def IM (neg:Bool):R2:=λx y H Q=>match x,y with
 |.str z,.str t=>∃ c:Nat,z=⟨#[c]⟩/\Q (.bl<|neg != decide (c∈t.cps.toList)) H
 |x,.ref p=>∃ xs,(H p=some (.lst xs)\/H p=some (.tup xs))/\m7 x=true/\xs.all m7=true/\Q (.bl<|neg != VA x xs) H
 |_,_=>False
def inC:lj X (compareOp .In) (IM false):=(Jc.or Jd).imp λx y H Q q=>by
 delta IM at q;split at q
 .obtain⟨c,rfl,q⟩:=q;exact .inl ⟨_,_,rfl,rfl,by rw[StrLaws.found_one];rw[Xa]at q;exact q⟩
 .refine JP q λxs h h1 h2 q=>?_;rw[Xa]at q;rcases h with h|h
  .exact .inr ⟨_,xs,rfl,.inl<|qv.of h,h1,h2,q⟩
  .exact .inr ⟨_,xs,rfl,.inr<|Cs.of h,h1,h2,q⟩
 .exact q.elim
def U9:lj X (compareOp .NotIn) (IM true):=(A4.or A5).imp λx y H Q q=>by
 delta IM at q;split at q
 .obtain⟨c,rfl,q⟩:=q;exact .inl ⟨_,_,rfl,rfl,by rw[StrLaws.found_one];rw[tne]at q;exact q⟩
 .refine JP q λxs h h1 h2 q=>?_;rw[tne]at q;rcases h with h|h
  .exact .inr ⟨_,xs,rfl,.inl<|qv.of h,h1,h2,q⟩
  .exact .inr ⟨_,xs,rfl,.inr<|Cs.of h,h1,h2,q⟩
 .exact q.elim
end
def dIn (neg:Bool):Ag:=λx y μ K=>match x,y with
 |.str z,.str t=>∃ c:Nat,z=⟨#[c]⟩/\K (.bl<|neg != decide (c∈t.cps.toList)) μ
 |x,y=>opt (lv μ y) λds=>yZ x=true/\ds.all yZ=true/\K (.bl<|neg != ds.any λd=>OV d x) μ
def FZ (i:kP φ H d v)(h:yZ d=true):m7 v=true:=by cases d<;>first|exact(Bool.noConfusion h)|(subst i;rfl)
def VW (i:kP φ H d v)(j:kP φ H e u)(h:yZ d=true)(h':yZ e=true):QP v u=OV d e:=by
 cases d <;> first
  |exact(Bool.noConfusion h)
  | (subst i
     cases e <;> first
      |exact(Bool.noConfusion h')
      |(subst j;rfl))
theorem Bq (i:kP φ H x v)(hx:yZ x=true):∀ {ds:ao D} {vs:ao V},fe φ H ds vs->ds.all yZ=true->vs.all m7=true/\VA v vs=ds.any λd=>OV d x
 |[],_,h,_=>by subst h;exact⟨rfl,rfl⟩
 | d::ds,_,h,f=>by
  obtain⟨u,r,rfl,h1,h2⟩:=h;rw[List.all_cons,cQ]at f;refine jS (Bq i hx h2 f.2) λa b=>?_;unfold VA at b ⊢
  rw[List.all_cons,bV,bV,a,b,FZ h1 f.1,VW h1 i f.1 hx];exact⟨rfl,rfl⟩
def R1:p8 (IM neg) (dIn neg):=λφ H x y dx dy μ K Q M hx hy k L=>by
 delta dIn at k;split at k
 .subst hx;subst hy;obtain⟨c,rfl,k⟩:=k;exact⟨c,rfl,L.val M k rfl⟩
 .refine JP (gJ k) λds el f1 f2 k=>?_;refine fw (oF M hy el) λp vs fE hp ha=>?_;subst fE;refine jS (Bq hx f1 ha f2) λa b=>?_;have fx:=FZ hx f1;have key:∃ xs,(H p=some (.lst xs)\/H p=some (.tup xs))/\m7 x=true/\xs.all m7=true/\Q (.bl<|neg != VA x xs) H:=⟨vs,.inl hp,fx,a,b▸L.val M k rfl⟩;cases x<;>exact key
def range_any (bs:ao Bool):(List.range bs.length).any (λi=>bs.getD i false)=bs.any id:=by
 rw[cZ,List.any_eq_true,List.any_eq_true];constructor
 .rintro⟨i,hi,e⟩;have hi':i<bs.length:=by simpa using hi
  rw[bF,vk hi']at e;exact⟨_,List.getElem_mem hi',e⟩
 .refine λh_=>eS h_ λb hb e=>?_;obtain⟨i,hi,e2⟩:=cK hb;refine⟨i,by simpa using hi,?_⟩;rwa [bF,vk hi,e2]
def anyC (hc:X.gE=true):jg X (.builtin "any") (CY λbs=>bs.any id):=by
 intro ee s σ H vs us Q I rv h;delta CY at h;split at h
 .rename_i p;refine eS h λbs hp q=>?_;refine eS rv.one λu fE ru=>?_;subst fE;subst ru;obtain⟨z,fu,n,r,hl,e⟩:=I.r8 hp;have Vw:s.heap.IsList p fu.toArray:=⟨_,e,rfl,n,rfl⟩;have lt:=aF<|kG e;refine call_any_walk (wpAny_pyIter_list Vw ⟨_,_,_,_,_,_,λi=>bs.getD i false,rfl,Walks.list (A:=X.A.in1) (I.ok.hd hc) s.heap.objs.size p lt fu.toArray,⟨⟨_,aC _ rfl,rfl,rfl⟩,Vw.push _⟩,?_,λh' tk kp=>?_⟩)
  .intro i v s' Q' E' hv hq;have VC:fu[i]?=some v:=by simpa using hv
   have hb:∃ b,bs[i]?=some b/\v=.bool b:=by
    cases eb:(bs.map V.bl)[i]? with
    |none=>have:=r.none_of eb;rw[VC]at this;cases this
    | some y =>
     refine eS (r.get eb) λu hu ry=>?_;rw[VC]at hu;cases hu;rw[wd]at eb;cases e2:bs[i]? with
     |none=>rw[e2]at eb;cases eb
     |some b=>rw[e2]at eb;cases eb;exact⟨b,rfl,ry⟩
   obtain⟨b,eb,rfl⟩:=hb;have e3:bs.getD i false=b:=by rw[bF,eb];rfl
   have DJ:Q' (bs.getD i false) s':=hq;rw[e3]at DJ;exact bL DJ
  .have I2:Inv X ee σ H { s with heap:=h',toks:=tk}:=I.eI λb o e'=>kp b o (by simpa using aF<|kG e')<|kJ _ e';have len:fu.toArray.size=bs.length:=by rw[aB,<- hl,jf]
   rw[len,range_any];exact⟨.bl _,H,I2,rfl,q⟩
 .cases h
def tyN:D->MS->aq String
 |.gw,_=>some "NoneType"
 |.bl _,_=>some "bool"
 |.int _,_=>some "int"
 |.str _,_=>some "str"
 |.lst _,_=>some "list"
 |.tup _,_=>some "tuple"
 |.lh _ _,_=>some "dict"
 |.mr k,μ=>match μ[k]? with|some (.lst _)=>some "list" | some (.lh _ _)=>some "dict" | _=>none
 |.obj _ _ _,_=>none
 |.pF _ _,_=>none
 |.fn _,_=>none
def Vx (t T:String):Bool:=t==T||(t == "bool"&&T == "int")
def dIsi (T:String)(w:De):De:=λρ μ K=>w ρ μ λd eV=>opt (tyN d eV) λt=>K (.bl<|Vx t T) eV
def Vg (K:aa)(ht:t∈["NoneType","bool","int","str","list","tuple","dict"])(hT:T∈["bool","int","str","list","tuple","dict"]):W.kitOne K (.type t) (.type T)=some (Vx t T):=by simp at ht hT;rcases ht with rfl|rfl|rfl|rfl|rfl|rfl|rfl<;>rcases hT with rfl|rfl|rfl|rfl|rfl|rfl<;>first|rfl|exact iY K _
def Tx (M:fG φ H μ)(i:kP φ H d v)(e:tyN d μ=some t):kO Kf H v (.type t)/\t∈["NoneType","bool","int","str","list","tuple","dict"]:=by
 cases d with
 |gw=>cases e;subst i;exact⟨.gw,by simp⟩
 |bl b=>cases e;subst i;exact⟨.bl b,by simp⟩
 |int b=>cases e;subst i;exact⟨.int b,by simp⟩
 |str b=>cases e;subst i;exact⟨.str b,by simp⟩
 |lst ds=>cases e;obtain⟨p,vs,rfl,_,hp,_⟩:=i;exact⟨.lst hp,by simp⟩
 |tup ds=>cases e;obtain⟨p,vs,rfl,_,hp,_⟩:=i;exact⟨.tup hp,by simp⟩
 |lh ks ds=>cases e;obtain⟨p,eP,vs,rfl,_,hp,_⟩:=i;exact⟨.dK hp,by simp⟩
 |obj _ _ _=>cases e
 |pF _ _=>cases e
 |fn _=>cases e
 | mr k =>
  delta tyN at e;dsimp only at e;obtain⟨p,hp,rfl⟩:=i;cases em:μ[k]? with
  |none=>rw[em]at e;cases e
  | some m =>
   rw[em]at e;refine eS (M.at_ k m em) λq e1 e2=>?_;rw[hp]at e1;cases e1;cases m with
   |box=>cases e
   |lst ds=>cases e;obtain⟨vs,hv,_⟩:=e2;exact⟨.lst hv,by simp⟩
   |lh ks ds=>cases e;obtain⟨eP,vs,hv,_⟩:=e2;exact⟨.dK hv,by simp⟩
   |_=>cases e
def Tb (hT:T∈["bool","int","str","list","tuple","dict"])(hg:Gl X "isinstance")(hm:X.mg "isinstance"=none)(VM:Gl X x)(QH:X.mg x=none)(hv:bootBuiltins x=some (.type T))(ha:PD X a w)(hn:x ≠ "__name__":=by decide)(hd:(x==("__debug__" : Str))=false:=by decide)
 (hs:starEach [a,.Name x p2] X.env=(false,eval a X.env)::starEach [.Name x p2] X.env:=by rfl) (uM:starEach [.Name x p2] X.env=(false,eval (.Name x p2) X.env)::starEach [] X.env:=by rfl) (lU:(backTo pos<|starEach [.Name x p2] X.env).any (·.1)=false:=by rfl):
 PD X (.Call (.Name "isinstance" p) [a,.Name x p2] [] pos) (dIsi T w):=
 (gv sU hg hm boot_isinstance (fh ha (fh (ji (v:=.ty T) VM QH hv rfl hn hd) hU uM) hs) (by decide) rfl hs lU).imp λσ H Q h_=>fF h_ λφ ρ μ K A M k L=>by refine⟨φ,ρ,μ,_,A,M,k,λd eV fo v1 H1 k1 f1 M1 i1=>?_⟩;refine eS (gJ k1) λt et k1=>?_;obtain⟨h1,h2⟩:=Tx M1 i1 et;exact⟨.type t,Vx t T,h1,Vg X.K h2 hT,L _ eV fo _ H1 k1 f1 M1 rfl⟩
def WQ (H:Hp)(b q:aj):Prop:=∃(ns:ao Int) (i r z:Int),H b=some (.lst [.ref q,.int i,.int r,.int z])/\H q=some (.lst<|ns.map V.int)/\q≠b/\0<=i/\0<=z/\z<2147483647
def vT:Sp:=λvs H Q _=>match vs with
 |[.ref b,.int n]=>∃ q,WQ H b q/\0<n/\n<1073741824/\∀ v H',0<=v->v<n->WQ H' b q->OB b H H'->Q (.int v) H'
 |_=>False
def u5 (h:vT vs H Q E):∃ b n q,vs=[.ref b,.int n]/\WQ H b q/\0<n/\n<1073741824/\∀ v H',0<=v->v<n->WQ H' b q->OB b H H'->Q (.int v) H':=by
 delta vT at h;split at h
 .obtain⟨q,h⟩:=h;exact⟨_,_,q,rfl,h⟩
 .cases h
def M9:ot:=λds μ K=>dM [.m,.i] ds λk n=>μ[k]?=some .box/\0<n/\n<1073741824/\∀ v,0<=v->v<n->K (.int v) μ
def KY (h:kT M9 vs H Q E):vT vs H Q E:=by
 obtain⟨φ,ds,μ,K,ha,M,k,L⟩:=h;obtain⟨kk,n,rfl,k⟩:=dJ k;obtain⟨v,r,rfl,h1,u,r',rfl,h2,h3⟩:=ha;cases h3;cases h2;obtain⟨b,hb,rfl⟩:=h1;obtain⟨em,hn,FT,k⟩:=k;obtain⟨b',e1,q,ns,i,r,z,g1,g2,g3,g4,g5,g6⟩:=M.at_ kk _ em;rw[hb]at e1;cases e1;have bin:=ET hb;have qb:q≠b:=λe=>g3 (by rwa [e]);refine⟨q,⟨ns,i,r,z,g1,g2,qb,g4,g5,g6⟩,hn,FT,λv H' v0 v1 B' ob=>?_⟩;obtain⟨U7,i',r',z',b1,b2,b3,b4,b5,b6⟩:=B';have f:Fr φ H φ H':=⟨⟨[],by simp,λ_ h=>nomatch h⟩,λc o hc e=>(ob c λe'=>hc<|by rwa [e']).trans e,λc e=>by
  by_cases hc:c=b
  .rw[hc,b1]at e;cases e
  .rw[<- ob c hc];exact e⟩
 refine L _ μ φ _ H' (k v v0 v1) f ⟨M.nd,M.len,λj m ej=>?_⟩ rfl;by_cases hj:j=kk
 .subst hj;rw[em]at ej;cases ej;exact⟨b,hb,q,U7,i',r',z',b1,b2,g3,b4,b5,b6⟩
 .obtain⟨p,e1,e2⟩:=M.at_ j m ej;refine⟨p,e1,e2.mono f λo eo=>?_⟩;have pb:p≠b:=λe=>by
   subst e;obtain⟨i1,r1⟩:=mW hb;obtain⟨i2,r2⟩:=mW e1;rcases Nat.lt_or_gt_of_ne hj with z|z
   .exact List.pairwise_iff_getElem.mp M.nd j kk i2 i1 z (r2.trans r1.symm)
   .exact List.pairwise_iff_getElem.mp M.nd kk j i1 i2 z (r1.trans r2.symm)
  rwa [ob p pb]
def Aq (K:aa):Sp:=λvs H Q _=>match vs with
 |[.ref a]=>∃ ns:ao Int,qv K H a (ns.map V.int)/\∀ b q H',WQ H' b q->H b=none->H q=none->gT H H'->Q (.ref b) H'
 |_=>False
def JX (h:WQ H b q):fG [b] H [.box]:=by
 refine y6 h λns i r z h1 h2 h3 h4 h5 h6=>?_;refine⟨by simp,rfl,λk m e=>?_⟩;cases k with
 |zero=>cases e;exact⟨b,rfl,q,ns,i,r,z,h1,h2,by simpa using h3,h4,h5,h6⟩
 |succ k=>cases e
mutual
def Lf:Nat->D->Prop
 |n+1,.lst ds=>ds.length<=100000/\R3 n ds
 |n+1,.tup ds=>ds.length<=100000/\R3 n ds
 |0,.lst _=>False
 |0,.tup _=>False
 |_,.lh _ _=>False
 |_,.mr _=>False
 |_,.obj _ _ _=>False
 |_,.pF _ _=>False
 |_,.fn _=>False
 |_,_=>True
def R3:Nat->List D->Prop
 |_,[]=>True
 |n,d::ds=>Lf n d/\R3 n ds
end
theorem G3:∀ {ds:ao D},(∀ d∈ds,Lf n d)->R3 n ds
 |[],_=>by trivial
 |d::ds,h=>⟨h d aI,G3 λx hx=>h x<|o6 _ hx⟩
def Au {n:Nat}{ds:ao D}(hl:ds.length<=100000)(h:∀ d∈ds,Lf n d):Lf (n+1) (.lst ds):=⟨hl,G3 h⟩
def Uh {n:Nat}{i:Int}:Lf n (.int i):=by cases n<;>trivial
def Le:Lf n (.str i):=by cases n<;>trivial
def XM:Lf n (.bl i):=by cases n<;>trivial
def Pu {n:Nat}{ns:ao Int}(h:ns.length<=100000):Lf (n+1) (.lst<|ns.map D.int):=Au (by rwa [jf]) λd hd=>by obtain⟨i,_,rfl⟩:=List.mem_map.mp hd;exact Uh
mutual
def vI:D->DV
 |.gw=>.gw
 |.bl b=>.bl b
 |.int i=>.int i
 |.str z=>.str z
 |.lst ds=>.lst (qD ds)
 |.tup ds=>.tup (qD ds)
 |_=>.gw
def qD:List D->List DV
 |[]=>[]
 |d::ds=>vI d::qD ds
end
theorem ur:∀ ds:ao D,(qD ds).length=ds.length
 |[]=>rfl
 |d::ds=>by unfold qD;rw[aT,aT,ur ds]
mutual
theorem qF {φ:List aj}{H:Hp}:∀ {n:Nat} {d:D},Lf n d->(∀ v,kP φ H d v->Is H (vI d) v)/\dep (vI d)<=n/\OH (vI d)<=100000:=λ{n d} h=>by
 cases d with
 | lst ds =>
  cases n with
  |zero=>exact absurd h id
  | succ n =>
   have h:_/\R3 n _:=h;obtain⟨a,b,c⟩:=Av (φ:=φ) (H:=H) h.2;refine⟨λv hv=>?_,?_,?_⟩
   .obtain⟨p,vs,rfl,_,hp,q⟩:=hv;unfold vI;exact⟨p,vs,rfl,hp,a vs q⟩
   .unfold vI dep;lia
   .have:=ur ds;unfold vI OH;lia
 | tup ds =>
  cases n with
  |zero=>exact absurd h id
  | succ n =>
   have h:_/\R3 n _:=h;obtain⟨a,b,c⟩:=Av (φ:=φ) (H:=H) h.2;refine⟨λv hv=>?_,?_,?_⟩
   .obtain⟨p,vs,rfl,_,hp,q⟩:=hv;unfold vI;exact⟨p,vs,rfl,hp,a vs q⟩
   .unfold vI dep;lia
   .have:=ur ds;unfold vI OH;lia
 |gw=>exact⟨λv hv=>hv,bp _,bp _⟩
 |bl b=>exact⟨λv hv=>hv,bp _,bp _⟩
 |int b=>exact⟨λv hv=>hv,bp _,bp _⟩
 |str b=>exact⟨λv hv=>hv,bp _,bp _⟩
 |lh _ _=>exact absurd h (by cases n<;>exact id)
 |mr _=>exact absurd h (by cases n<;>exact id)
 |obj _ _ _=>exact absurd h (by cases n<;>exact id)
 |pF _ _=>exact absurd h (by cases n<;>exact id)
 |fn _=>exact absurd h (by cases n<;>exact id)
theorem Av {φ:List aj}{H:Hp}:∀ {n:Nat} {ds:List D},R3 n ds->(∀ vs,fe φ H ds vs->nc H (qD ds) vs)/\y7 (qD ds)<=n/\yH (qD ds)<=100000:=λ{n ds} h=>by
 cases ds with
 |nil=>exact⟨λvs hv=>hv,bp _,bp _⟩
 | cons d ds =>
  unfold R3 at h;obtain⟨a,b,c⟩:=qF (φ:=φ) (H:=H) h.1;obtain⟨a',b',c'⟩:=Av (φ:=φ) (H:=H) h.2;refine⟨λvs hv=>?_,?_,?_⟩
  .obtain⟨v,r,rfl,h1,h2⟩:=hv;unfold qD;exact⟨v,r,rfl,a v h1,a' r h2⟩
  .unfold qD y7;lia
  .unfold qD yH;lia
end
def VV (μ:MS):D->aq D
 |.mr k=>(Cn μ k).map .lst
 |x=>some x
def Hw (M:fG φ H μ)(e:VV μ x=some d)(hs:Lf n d)(h:kP φ H x v):Is H (vI d) v:=by
 cases x with
 | mr k =>
  obtain⟨p,hp,rfl⟩:=h;have e':(Cn μ k).map D.lst=some d:=e;cases q:Cn μ k with
  |none=>rw[q]at e';cases e'
  | some ds =>
   rw[q]at e';cases e';obtain⟨p',e1,vs,hv,ha⟩:=M.at_ k _<|pW q;rw[hp]at e1;cases e1;cases n with
   |zero=>exact absurd hs id
   | succ n =>exact⟨p,vs,rfl,hv,(Av (H:=H) hs.2).1 vs ha⟩
 |gw=>cases e;exact(qF (H:=H) hs).1 v h
 |bl b=>cases e;exact(qF (H:=H) hs).1 v h
 |int b=>cases e;exact(qF (H:=H) hs).1 v h
 |str b=>cases e;exact(qF (H:=H) hs).1 v h
 |lst b=>cases e;exact(qF (H:=H) hs).1 v h
 |tup b=>cases e;exact(qF (H:=H) hs).1 v h
 |obj _ _ _=>cases e;exact(qF (H:=H) hs).1 v h
 |pF _ _=>cases e;exact(qF (H:=H) hs).1 v h
 |fn _=>cases e;exact(qF (H:=H) hs).1 v h
 |lh _ _=>cases e;exact absurd hs (by cases n<;>exact id)
def SM:ot:=λds μ K=>dM [.v,.v] ds λx y=>∃ d,VV μ x=some d/\VV μ y=some d/\Lf 5 d/\K (.bl true) μ
def Lk (h:kT SM vs H Q E):uv 5 vs H Q E:=by let ⟨φ,ds,μ,K,ha,M,k,L⟩:=h;obtain⟨_,_,rfl,k⟩:=dJ k;obtain⟨v,r,rfl,h1,u,r',rfl,h2,h3⟩:=ha;cases h3;let ⟨d,e1,e2,hs,k⟩:=k;obtain⟨a,b,c⟩:=qF (φ:=φ) (H:=H) hs;exact⟨vI d,b,bR c<|by decide,Hw M e1 hs h1,Hw M e2 hs h2,λH' S=>L _ μ φ _ H' k (.same S) (M.same S) rfl⟩
theorem zN (hc:c μ)(f:D->aq D):∀ {ds:ao D} {K:ao D->MS->Prop},(∀ d∈ds,∀(K':aq D->MS->Prop),K' (f d) μ->it d μ K')->K (ds.filterMap f) μ->ud it c ds μ K
 |[],K,_,k=>⟨hc,k⟩
 | d::ds,K,h,k=>⟨hc,h d aI _ (zN hc f (λx hx=>h x<|o6 _ hx) (by
  cases e:f d with
  |none=>rw[List.filterMap_cons_none e]at k;exact k
  |some y=>rw[List.filterMap_cons_some e]at k;exact k))⟩
theorem nT (Pv:ao D->DE->MS->Prop):∀ {ds:ao D} {ρ:DE} {μ:MS},Pv ds ρ μ->(∀ d SS ρ μ,Pv (d::SS) ρ μ->c μ/\∀(nx:DE->MS->Prop),(∀ jV fj,Pv SS jV fj->nx jV fj)->g d ρ μ λqt ik=>b { N with nx:=nx,ct:=nx,bk:=N.nx} qt ik)->(∀ ρ μ,Pv [] ρ μ->c μ/\N.nx ρ μ)->Bp g b N c ds ρ μ
 |[],ρ,μ,h,hs,hd=>hd ρ μ h
 | d::ds,ρ,μ,h,hs,hd=>by refine jS (hs d ds ρ μ h) λc' st=>?_;exact⟨c',st _ λjV fj h'=>nT Pv h' hs hd⟩
structure jY (mg:Str->Option ak):Prop where
 len:mg "len"=none
 range:mg "range"=none
 list:mg "list"=none
 isinstance:mg "isinstance"=none
 max:mg "max"=none
 min:mg "min"=none
 bool:mg "bool"=none
 tuple:mg "tuple"=none
 str:mg "str"=none
 int:mg "int"=none
 all:mg "all"=none
 any:mg "any"=none
 zip:mg "zip"=none
 enumerate:mg "enumerate"=none
 reversed:mg "reversed"=none
 dict:mg "dict"=none
 sorted:mg "sorted"=none
abbrev txt (l:ao Nat):Str:=⟨l.toArray⟩
structure Cuts (n:Int)(cs:List Int):Prop where
 inn:∀ c∈cs,1<=c/\c<n
 up:cs.Pairwise (·<·)
abbrev Tk:=ao Nat×Int
def jZ (t:Tk):D:=.tup [.str (txt t.1),.int t.2]
structure Af (n:Int)(ts:List Tk):Prop where
 nj:ts.length<=20
 ok:∀ t∈ts,(t.1.length:Int)=n/\OX t.1/\0<=t.2/\t.2<=60
def SN:ot:=λds μ K=>dM [.i,.v] ds λn x=>∃ cs:ao Int,lv μ x=some (cs.map D.int)/\cs.length<=1000/\K (.lst<|(l4 n cs).map D.int) μ
def Nq (n:Int)(cs:ao Int):[D.int 0]++cs.map D.int++[D.int n]=(l4 n cs).map D.int:=by delta l4;simp
def sz (h:n<=100000):n<=sizeLine:=aG h (by decide)
def T3 (h:n<=100000):n<sizeLine:=bR h (by decide)
def prs (es:ao Int):ao (Int×Int):=es.zip es.tail
def Ye (p:Int×Int):D:=.tup [.int p.1,.int p.2]
def HC:ot:=λds μ K=>dM [.i,.v] ds λn x=>∃ cs:ao Int,lv μ x=some (cs.map D.int)/\cs.length<=1000/\K (.lst<|(prs<|l4 n cs).map Ye) μ
def Rf (l:ao Nat)(a b:Int):ao Nat:=kH l (some a) (some b)
def bad (ts:ao Tk)(p:Int×Int):Bool:=ts.all λt=>decide (120∈Rf t.1 p.1 p.2)
def Es (es:ao Int)(ts:ao Tk):aq (Int×Int):=(prs es).find? (bad ts)
def Yk:aq (Int×Int)->D
 |some p=>Ye p
 |none=>.gw
def Ng:ot:=λds μ K=>dM [.i,.v,.v] ds λn x y=>∃(cs:ao Int) (ts:ao Tk),lv μ x=some (cs.map D.int)/\lv μ y=some (ts.map jZ)/\cs.length<=1000/\Af n ts/\n<=1000/\K (Yk<|Es (l4 n cs) ts) μ
def PK (lo:Int)(n:Nat):pP lo n=((List.range n).map λi=>lo+(i:Nat)).map D.int:=by rw[a8];rfl
def Lp (lo:Int)(n:Nat):(pP lo n).length=n:=by delta pP;rw[jf,MP]
def Ig {α β:Type}{g:α->β}{xs:ao α}{i:Nat}{a:α}(h:xs[i]?=some a):wq (xs.map g) (i:Int)=some (g a):=p7 (by rw[wd,h];rfl)
def rG (l:ao Nat):(txt l).length=l.length:=YJ l
def wj {α:Type}(l:ao α)(lo hi:aq Int):(kH l lo hi).length<=l.length:=Ei l lo hi
def gM:(μ++[x]).set μ.length y=μ++[y]:=by rw[b7 _ _ (au _),aO];rfl
def Qy:kQ [b] H (none::some (.mr 0)::List.replicate m none) (x::some (.ref b)::List.replicate m none):=by
 refine⟨by simp,λi d e=>?_⟩;cases i with
 |zero=>cases e
 | succ i =>
  cases i with
  |zero=>cases e;exact⟨_,rfl,b,rfl,rfl⟩
  | succ i =>have:=List.eq_of_mem_replicate<|ET e;cases this
def YN:DN:={ nx:=λ_ _=>False,rt:=λd _=>d=.bl true}
def Vf (B:WQ H b q)(w:W YN (none::some (.mr 0)::List.replicate m none) [.box])(k:∀ H',Q (.bl true) H'):OI W { nx:=λ_ H'=>Q .gw H',rt:=Q} (some (.ref a)::some (.ref b)::List.replicate m none) H :=
 ⟨[b],_,[.box],YN,Qy,JX B,w,⟨λ_ _ _ _ _ z=>z.elim,λd fj fO v H' kd _ _ i=>by subst kd;subst i;exact k H',λ_ _ _ _ _ z=>z.elim,λ_ _ _ _ _ z=>z.elim⟩⟩
section
variable {κ:Type}[DecidableEq κ]
def qy (eP:ao (κ×V))(k:κ):aq V:=(eP.find? λkv=>decide (kv.1=k)).map (·.2)
def putK (eP:ao (κ×V))(k:κ)(v:V):ao (κ×V) :=
 if(eP.any λkv=>decide (kv.1=k))=true then eP.map (λkv=>if kv.1=k then(kv.1,v)else kv)else eP++[(k,v)]
def SU (eP:ao (κ×V))(k:κ):ao (κ×V):=eP.filter λkv=>decide (kv.1≠k)
def qw {p:κ×V}{r:ao (κ×V)}{k:κ}(e:p.1=k):qy (p::r) k=some p.2:=by simp[qy,bD,e]
def qx {p:κ×V}{r:ao (κ×V)}{k:κ}(e:¬ p.1=k):qy (p::r) k=qy r k:=by simp[qy,bD,e]
theorem Cz (k:κ):∀ eP:ao (κ×V),(eP.any λkv=>decide (kv.1=k))=(qy eP k).isSome
 |[]=>rfl
 | p::r=>by
  rw[bV];by_cases e:p.1=k
  .simp only[qw e,aH e,Bool.true_or,Option.isSome_some]
  .rw[qx e,aw e,Bool.false_or];exact Cz k r
def qU (eP:ao (κ×V))(k:κ)(v:V):(putK eP k v).length<=eP.length+1:=by
 delta putK;split
 .rw[jf];lia
 .rw[mJ,aT,List.length_nil];lia
def p9.pj {o:aq V}{u:aq ak}(r:p9 o u):o.isSome=u.isSome:=by
 cases o with
 | none=>cases u with
  |none=>rfl
  |some _=>exact(show False from r).elim
 | some _=>cases u with
  |none=>exact(show False from r).elim
  |some _=>rfl
theorem p9.getD {o:aq V}{u:aq ak}{d:V}{d':ak}(r:p9 o u)(rd:fM d d'):fM (o.getD d) (u.getD d'):=by
 cases o with
 | none=>cases u with
  |none=>exact rd
  |some _=>exact(show False from r).elim
 | some _=>cases u with
  |none=>exact(show False from r).elim
  |some _=>exact r
def KV.val {eP:ao (κ×V)}{vs:ao (κ×ak)}(r:KV eP vs)(k:κ):p9 (qy eP k) (valueAt vs k):=by
 delta KV at r;induction r with
 |nil=>exact True.intro
 | @cons p q ps qs h t ih =>
  obtain⟨h1,h2⟩:=h;by_cases e:p.1=k
  .have e':q.1=k:=h1.symm.trans e;have b:valueAt (q::qs) k=some q.2:=by simp[valueAt,bD,e']
   rw[qw e,b];exact h2
  .have e':¬ q.1=k:=λz=>e<|h1.trans z;have b:valueAt (q::qs) k=valueAt qs k:=by simp[valueAt,bD,e']
   rw[qx e,b];exact ih
theorem KV.any {eP:ao (κ×V)}{vs:ao (κ×ak)}(r:KV eP vs)(k:κ):(eP.any λkv=>decide (kv.1=k))=vs.any λkv=>decide (kv.1=k):=by
 delta KV at r;induction r with
 |nil=>rfl
 |cons h t ih=>rw[bV,bV,ih,h.1]
def KV.Uv {eP:ao (κ×V)}{vs:ao (κ×ak)}(r:KV eP vs)(k:κ){y:V}{u:ak}(ry:fM y u):
 KV (eP.map λkv=>if kv.1=k then(kv.1,y)else kv) (vs.map λkv=>if kv.1=k then(kv.1,u)else kv):=by
 delta KV at r ⊢
 induction r with
 |nil=>exact .nil
 | @cons p q ps qs h t ih =>
  rw[aK,aK];refine .cons ?_ ih;refine jS h λh1 h2=>?_;by_cases e:p.1=k
  .rw[aD e,aD (h1.symm.trans e)];exact⟨h1,ry⟩
  .rw[az e,az (λz=>e<|h1.trans z)];exact⟨h1,h2⟩
def KV.put {eP:ao (κ×V)}{vs:ao (κ×ak)}(r:KV eP vs)(k:κ){y:V}{u:ak}(ry:fM y u):KV (putK eP k y) (stored vs k u):=by
 delta putK stored;rw[r.any k];by_cases e:(vs.any λkv=>decide (kv.1=k))=true
 .rw[aD e,aD e];exact r.Uv k ry
 .rw[az e,az e];exact Paired.snoc r ⟨rfl,ry⟩
def KV.drop {eP:ao (κ×V)}{vs:ao (κ×ak)}(r:KV eP vs)(k:κ):KV (SU eP k) (without vs k):=by
 delta KV at r ⊢
 delta SU without;induction r with
 |nil=>exact .nil
 | @cons p q ps qs h t ih =>
  obtain⟨h1,h2⟩:=h;rw[bN,bN];by_cases e:p.1=k
  .have a:¬ decide (p.1≠k)=true:=by simp[e]
   have b:¬ decide (q.1≠k)=true:=by simp[h1.symm.trans e]
   rw[az a,az b];exact ih
  .have e':¬ q.1=k:=λz=>e<|h1.trans z;have a:decide (p.1≠k)=true:=by simp[e]
   have b:decide (q.1≠k)=true:=by simp[e']
   rw[aD a,aD b];exact .cons ⟨h1,h2⟩ ih
theorem KV.length {eP:ao (κ×V)}{vs:ao (κ×ak)}(r:KV eP vs):eP.length=vs.length:=Paired.length r
end
def xC {P:ae}{w:af}{k:Key}{u:ak}(r:fM (kV k) u):(gW P w).is k u=true:=by
 cases k with
 |inl i=>obtain⟨t,e⟩:=(show ∃ t,u=Value.int i t from r);subst e;exact Dz P w i t
 |inr x=>obtain⟨t,e⟩:=(show ∃ t,u=Value.str x t from r);subst e;exact Dy P w x t
theorem zy {P:ae}{w:af}:∀ {ks:ao Key} {us:ao ak},fH (ks.map kV) us->ItemsAre (gW P w) ks us
 |[],_,r=>by rw[List.map_nil]at r;cases r;exact .nil
 | k::ks,_,r=>by
  rw[aK]at r;cases r with
  |cons h t=>exact .cons (xC h) (zy t)
abbrev KT (H:Hp):ao (ao Key×V)->ao (ao Key×aj×ak)->Prop:=Paired λp q=>p.1=q.1/\H q.2.1=some (.tup<|p.1.map kV)/\fM p.2 q.2.2
def KT.val {H:Hp}{eP:ao (ao Key×V)}{xs:ao (ao Key×aj×ak)}(r:KT H eP xs)(k:ao Key):p9 (qy eP k) ((atKey xs k).map (·.2)):=by
 induction r with
 |nil=>exact True.intro
 | @cons p q ps qs h t ih =>
  refine rh h λh1 _ h2=>?_;by_cases e:p.1=k
  .have e':q.1=k:=h1.symm.trans e;have b:atKey (q::qs) k=some q.2:=by simp[atKey,bD,e']
   rw[qw e,b];exact h2
  .have e':¬ q.1=k:=λz=>e<|h1.trans z;have b:atKey (q::qs) k=atKey qs k:=by simp[atKey,bD,e']
   rw[qx e,b];exact ih
def KT.Uv {H:Hp}{eP:ao (ao Key×V)}{xs:ao (ao Key×aj×ak)}(r:KT H eP xs)(k:ao Key){y:V}{u:ak}(ry:fM y u):
 KT H (eP.map λkv=>if kv.1=k then(kv.1,y)else kv) (xs.map<|putAt k u):=by
 induction r with
 |nil=>exact .nil
 | @cons p q ps qs h t ih =>
  rw[aK,aK];refine .cons ?_ ih;refine rh h λh1 h2 h3=>?_;delta putAt;by_cases e:p.1=k
  .rw[aD e,aD (h1.symm.trans e)];exact⟨h1,h2,ry⟩
  .rw[az e,az (λz=>e<|h1.trans z)];exact⟨h1,h2,h3⟩
def KT.put {H:Hp}{eP:ao (ao Key×V)}{xs:ao (ao Key×aj×ak)}(r:KT H eP xs)(k:ao Key){b:aj}{y:V}{u:ak}(hb:H b=some (.tup<|k.map kV))(ry:fM y u):
 KT H (putK eP k y) (storedH xs k b u):=by
 have e:(eP.any λkv=>decide (kv.1=k))=(atKey xs k).isSome:=by rw[Cz,(r.val k).pj,Option.isSome_map]
 delta putK storedH;rw[e];by_cases q:(atKey xs k).isSome=true
 .rw[aD q,aD q];exact r.Uv k ry
 .rw[az q,az q];exact Paired.snoc r ⟨rfl,hb,ry⟩
def KT.keeps {H H':Hp}{eP:ao (ao Key×V)}{xs:ao (ao Key×aj×ak)}(r:KT H eP xs)(ht:∀ b ys,H b=some (.tup ys)->H' b=some (.tup ys)):KT H' eP xs :=
 Paired.YF r λ_ _ z=>⟨z.1,ht _ _ z.2.1,z.2.2⟩
section
variable {P:ae}{w:af}{H:Hp}{h:Heap}{a:aj}
def R7 {u:HO}(ok:rA P w H h)(e:Rd H a u):iQ P w H h a u:=e.ok ok
def pw {eP:ao (Key×V)}(ok:rA P w H h)(e:Rd H a (.dK eP)):eP.length<=sizeLine/\(a==sysModules)=false/\∃ vs,KV eP vs/\h.DictOf (gW P w) a vs :=
 show iQ P w H h a (.dK eP)from R7 ok e
def SV {eP:ao (Key×V)}(ok:rA P w H h)(e:H a=some (.dK eP)):eP.length<=sizeLine/\(a==sysModules)=false/\∃ vs,KV eP vs/\h.DictOf (gW P w) a vs:=pw ok (.inl e)
def xA {ks:ao Key}(ok:rA P w H h)(e:H a=some (.tup<|ks.map kV)):(tupleKind<|gW P w).is h ks a:=by obtain⟨_,fu,r,o,h1,h2,n,h3⟩:=(show iQ P w H h a (.tup<|ks.map kV)from ok a _ e);exact⟨o,fu.toArray,n,h1,h2,h3,by simpa using zy r⟩
def D8 {eP:ao (ao Key×V)}(ok:rA P w H h)(e:Rd H a (.dT eP)):eP.length<=sizeLine/\(a==sysModules)=false /\
 ∃ xs,KT H eP xs/\h.DictOfH (tupleKind<|gW P w) a xs:=by
 obtain⟨z,y,xs,r,o,es,ep,h1,h2,h3,h4,h5⟩:=(show iQ P w H h a (.dT eP)from R7 ok e);refine⟨z,y,xs,r,o,es,ep,h1,h2,h3,h4,λx hx=>?_,h5⟩;have all:∀ {l:ao (ao Key×V)} {m:ao (ao Key×aj×ak)},KT H l m->∀ x∈m,(tupleKind<|gW P w).is h x.1 x.2.1:=by
  intro l m q;induction q with
  |nil=>intro x hx;exact nomatch hx
  | @cons p q ps qs hq t ih =>
   intro x hx;rcases List.mem_cons.mp hx with e|hx
   .subst e;exact xA ok (hq.1▸hq.2.1)
   .exact ih x hx
 exact all r x hx
def ZF {eP:ao (ao Key×V)}(ok:rA P w H h)(e:H a=some (.dT eP)):eP.length<=sizeLine/\(a==sysModules)=false /\
 ∃ xs,KT H eP xs/\h.DictOfH (tupleKind<|gW P w) a xs:=D8 ok (.inl e)
end
def EH (H:Hp)(a:aj)(y:V)(r:aq V):Prop :=
 (∃ eP k,Rd H a (.dK eP)/\y=kV k/\r=qy eP k)\/∃ eP k b,Rd H a (.dT eP)/\y=.ref b/\H b=some (.tup<|k.map kV)/\r=qy eP k
def OA (H:Hp)(a:aj)(y v:V)(H':Hp):Prop :=
 (∃ eP k,H a=some (.dK eP)/\y=kV k/\eP.length<sizeLine/\H'=upd H a (.dK<|putK eP k v)) \/
 ∃ eP k b,H a=some (.dT eP)/\y=.ref b/\H b=some (.tup<|k.map kV)/\eP.length<sizeLine/\H'=upd H a (.dT<|putK eP k v)
theorem OA.k {H:Hp}{a:aj}{eP:ao (Key×V)}{k:Key}{v:V}(e:H a=some (.dK eP))(hl:eP.length<sizeLine):OA H a (kV k) v (upd H a<|.dK<|putK eP k v):=.inl ⟨eP,k,e,rfl,hl,rfl⟩
section
variable {X:Cx}{ee:ao (aj×Obj)}{σ:St}{H:Hp}{s:ai}{a:aj}{y v:V}{u r:ak}{o:aq V}{A:Around}{E:ak->ai->Prop}
def Inv.big (I:Inv X ee σ H s):sysModules<s.heap.objs.size:=by have h:mainGlobals<s.heap.objs.size:=(I.mod.glob.keeps I.bk).lt;exact dX (by decide) h
def JT {Q:ak->ai->Prop}(hu:A.units+1<cLine)(I:Inv X ee σ H s)(g:EH H a y (some v))(ry:fM y u)(h:∀ w' s',Inv X ee σ H s'->fM v w'->Q w' s'):
 wpAny (model X.prog X.w) A (getItem (.ref a) u) Q E s:=by
 rcases g with⟨eP,k,e,ey,l⟩|⟨eP,k,b,e,ey,eb,l⟩
 .subst ey;obtain⟨z,hd,vs,rel,dd⟩:=pw I.fB e;refine eS (p9.some_of (v:=v) (o:=valueAt vs k)<|l▸rel.val k) λw' hw Lm=>?_;exact wpAny_getItem_of (xC ry) dd.mapOf hw (h w' _ (I.tok _) Lm)
 .subst ey;cases(show u=Value.ref b from ry);obtain⟨z,hd,xs,rel,dd⟩:=D8 I.fB e;refine eS (p9.some_of (v:=v) (o:=(atKey xs k).map (·.2))<|l▸rel.val k) λw' hw Lm=>?_;refine eS (Option.map_eq_some_iff.mp hw) λp hp VE=>?_;refine wpAny_getItem_heap (dD hu) (xA I.fB eb) dd hp ?_;rw[VE];exact h w' _ (I.tok _) Lm
def d_in {Q:ak->ai->Prop}(hu:A.units+1<cLine)(I:Inv X ee σ H s)(g:EH H a y o)(ry:fM y u)(h:∀ s',Inv X ee σ H s'->Q (.bool o.isSome) s'):
 wpAny (model X.prog X.w) A (compareOp .In u<|.ref a) Q E s:=by
 rcases g with⟨eP,k,e,ey,l⟩|⟨eP,k,b,e,ey,eb,l⟩
 .subst ey;obtain⟨z,hd,vs,rel,dd⟩:=pw I.fB e;refine wpAny_in_of (xC ry) hd dd.mapOf ?_;rw[<- (rel.val k).pj,<- l];exact h _ (I.tok _)
 .subst ey;cases(show u=Value.ref b from ry);obtain⟨z,hd,xs,rel,dd⟩:=D8 I.fB e;refine wpAny_in_heap (dD hu) (xA I.fB eb) hd dd ?_;have q:=(rel.val k).pj;rw[Option.isSome_map]at q;rw[<- q,<- l];exact h _ (I.tok _)
def QW {Q:ak->ai->Prop}(hu:A.units+1<cLine)(I:Inv X ee σ H s)(g:EH H a y o)(ry:fM y u)(h:∀ s',Inv X ee σ H s'->Q (.bool<|!o.isSome) s'):
 wpAny (model X.prog X.w) A (compareOp .NotIn u<|.ref a) Q E s:=by
 rcases g with⟨eP,k,e,ey,l⟩|⟨eP,k,b,e,ey,eb,l⟩
 .subst ey;obtain⟨z,hd,vs,rel,dd⟩:=pw I.fB e;refine wpAny_notIn_of (xC ry) hd dd.mapOf ?_;rw[<- (rel.val k).pj,<- l];exact h _ (I.tok _)
 .subst ey;cases(show u=Value.ref b from ry);obtain⟨z,hd,xs,rel,dd⟩:=D8 I.fB e;refine wpAny_notIn_heap (dD hu) (xA I.fB eb) hd dd ?_;have q:=(rel.val k).pj;rw[Option.isSome_map]at q;rw[<- q,<- l];exact h _ (I.tok _)
def wg {h':Heap}{t':Nat}{ob:HO}(I:Inv X ee σ H s)(mu:Mut (H a))(hs:Heap.SameBut a s.heap h')(he:∃ q,h'.get? a=some q)(new:iQ X.prog X.w (upd H a ob) h' a ob):
 Inv X ee σ (upd H a ob) {s with heap:=h',toks:=t'}:=
 I.write (x:=a) (e:=a) mu (.inl rfl) (λb q hb z=>(hs.2 b hb).trans z) he new
def BI {P:ae}{w:af}{H':Hp}{h':Heap}{eP:ao (Key×V)}{vs:ao (Key×ak)}(z:eP.length<=sizeLine)(hd:(a==sysModules)=false)(rel:KV eP vs)(dd:h'.DictOf (gW P w) a vs):
 iQ P w H' h' a (.dK eP):=⟨z,hd,vs,rel,dd⟩
def JR {H':Hp}{Q:Unit->ai->Prop}(hu:A.units+1<cLine)(I:Inv X ee σ H s)(g:OA H a y v H')(ry:fM y u)(rv:fM v r)(h:∀ s',Inv X ee σ H' s'->Q () s'):
 wpAny (model X.prog X.w) A (setItem (.ref a) u r) Q E s:=by
 rcases g with⟨eP,k,e,ey,l,eH⟩|⟨eP,k,b,e,ey,eb,l,eH⟩
 .subst ey eH;obtain⟨z,hd,vs,rel,dd⟩:=SV I.fB e;have hz:vs.length<=sizeLine:=rel.length▸z;have hl:(putK eP k v).length<=sizeLine:=by have:=qU eP k v;lia
  refine wpAny_setItem_pairs (hsz:=hz) (xC ry) dd λh' Gy hs=>h _ ?_;have he:∃ q,h'.get? a=some q:=let ⟨q,_,_,hq,_⟩:=Gy;⟨q,hq⟩
  exact wg I (e▸True.intro) hs he (BI hl hd (rel.put k rv) Gy)
 .subst ey eH;cases(show u=Value.ref b from ry);obtain⟨z,hd,xs,rel,dd⟩:=ZF I.fB e;have hz:xs.length<=sizeLine:=by rw[<- Paired.length rel];exact z
  have hl:(putK eP k v).length<=sizeLine:=by have:=qU eP k v;lia
  refine wpAny_setItem_heap (hsz:=hz) (dD hu) (xA I.fB eb) dd λh' Gy hs=>h _ ?_;refine e3a6 Gy λq es ep hq h2 h3 h4 _ h5=>?_;refine wg I (e▸True.intro) hs ⟨q,hq⟩ ⟨hl,hd,_,(rel.put k eb rv).keeps λc ys ec=>?_,q,es,ep,hq,h2,h3,h4,h5⟩;rw[e9 (Yx ec e λz=>nomatch z)];exact ec
end
section
variable {X:Cx}{ee:ao (aj×Obj)}{σ:St}{H:Hp}{s:ai}{a:aj}{eP:ao (Key×V)}{k:Key}{u:ak}{A:Around}{E:ak->ai->Prop}
def ZO {Q:ak->ai->Prop}(I:Inv X ee σ H s)(e:Rd H a (.dK eP))(h:∀ t s',Inv X ee σ H s'->Q (.int eP.length t) s'):wpAny (model X.prog X.w) A (call (.builtin "len") [.ref a]) Q E s:=by obtain⟨z,hd,vs,rel,dd⟩:=pw I.fB e;refine call_len_dict hd dd (by rw[<- rel.length];rw[sizeLine_eq]at z;lia) ?_;rw[<- rel.length];exact h _ _ (I.tok _)
end
def RG (i:Expr):Prop:=∀ ov iv,subscripted i false ov iv=operate [ov,iv] (getItem ov iv)
def GZ {prog:ae}{w:af}{A:Around}{E:ak->ai->Prop}{s:ai}{env:Env}{value slice:Expr}{pos:Pos}{T id:String}{Q:ak->ai->Prop}
 (hl:typeLookup (.type T) "__getitem__"=pure (some<|.builtin id)) (hs:RG slice)
 (h:wpAny (model prog w) A (eval value env) (λo s₁=>wpAny (model prog w) A (eval slice env) (λi s₂=>s₂.TypeIs o T/\wpAny (model prog w) A (getItem o i) Q E s₂) E s₁) E s):
 wpAny (model prog w) A (eval (.Subscript value slice pos) env) Q E s:=by
 refine Subscript_ (bf h (λo s₁ h₁=>bf h₁ (λi s₂ h₂=>?_) λ_ _ x=>x) λ_ _ x=>x);obtain⟨hT,h₂⟩:=h₂;delta subscriptTail;refine fb ?_;rw[getitemInPython_of_ne hT.not_modules];refine fb<|wpAny_specialOf hT hl ?_;have fin:wpAny (model prog w) A (subscripted slice false o i) (λr s₃=>wpAny (model prog w) A (letTemporaryGo value o r >>= λ_=>pure r) Q E s₃) E s₂:=by rw[hs o i];exact wpAny_operating (bf h₂ (λr s₃ h₃=>fb<|wpAny_letTemporaryGo<|av h₃) λ_ _ x=>x)
 first
  |exact av (fb fin)
  |exact fb (av<|fb fin)
  |exact fb fin
def Eb {X:Cx}{ee:ao (aj×Obj)}{σ:St}{H:Hp}{s:ai}{a:aj}{y:V}{o:aq V}(I:Inv X ee σ H s)(g:EH H a y o):s.TypeIs (.ref a) "dict":=by
 rcases g with⟨eP,k,e,_,_⟩|⟨eP,k,b,e,_,_,_⟩
 .obtain⟨_,_,vs,_,dd⟩:=pw I.fB e;exact dd.typeIs
 .obtain⟨_,_,xs,_,dd⟩:=D8 I.fB e;exact dd.typeIs
def XC (td ty:TE):TE:=λσ H Q=>td σ H λx H1=>ty σ H1 λy H2=>∃ a v,x=.ref a/\EH H2 a y (some v)/\Q v H2
def XA (ty td:TE):TE:=λσ H Q=>ty σ H λy H1=>td σ H1 λx H2=>∃ a o,x=.ref a/\EH H2 a y o/\Q (.bl o.isSome) H2
def GW (ty td:TE):TE:=λσ H Q=>ty σ H λy H1=>td σ H1 λx H2=>∃ a o,x=.ref a/\EH H2 a y o/\Q (.bl<|!o.isSome) H2
def XX (td ty tv:TE):TS:=λD σ H=>tv σ H λv H1=>td σ H1 λx H2=>ty σ H2 λy H3=>∃ a H4,x=.ref a/\OA H3 a y v H4/\D.nx σ H4
section
variable {X:Cx}{o i e value:Expr}{pos pos' vH:Pos}{td ty tv:TE}
def Qf (hu:X.A.units+1<cLine)(ho:PE X o td)(hi:PE X i ty)(hs:RG i):PE X (.Subscript o i pos) (XC td ty):=by intro ee s σ H Q I h;refine GZ PySem.F.slot_dict_getitem.lookup hs (gg (ho ee s σ H _ I h) λu s1 h_=>fw h_ λx H1 I1 rx q1=>gg (hi ee s1 σ H1 _ I1 q1) λiv s2 MC=>?_);obtain⟨y,H2,I2,ry,a,v,ex,g,q2⟩:=MC;subst ex;obtain rfl:u=Value.ref a:=rx;exact⟨Eb I2 g,JT hu I2 g ry λw' s3 I3 Lm=>⟨v,H2,I3,Lm,q2⟩⟩
def UT (hu:X.A.units+1<cLine)(hi:PE X i ty)(ho:PE X o td):PC X .In i o (XA ty td):=by intro ee s σ H Q I h;refine gg (hi ee s σ H _ I h) λiv s1 h_=>fw h_ λy H1 I1 ry q1=>gg (ho ee s1 σ H1 _ I1 q1) λu s2 MB=>?_;obtain⟨x,H2,I2,rx,a,ov,ex,g,q2⟩:=MB;subst ex;obtain rfl:u=Value.ref a:=rx;exact d_in hu I2 g ry λs3 I3=>⟨.bl ov.isSome,H2,I3,rfl,q2⟩
def Jb (hu:X.A.units+1<cLine)(hi:PE X i ty)(ho:PE X o td):PC X .NotIn i o (GW ty td):=by intro ee s σ H Q I h;refine gg (hi ee s σ H _ I h) λiv s1 h_=>fw h_ λy H1 I1 ry q1=>gg (ho ee s1 σ H1 _ I1 q1) λu s2 MA=>?_;obtain⟨x,H2,I2,rx,a,ov,ex,g,q2⟩:=MA;subst ex;obtain rfl:u=Value.ref a:=rx;exact QW hu I2 g ry λs3 I3=>⟨.bl<|!ov.isSome,H2,I3,rfl,q2⟩
def PX (hu:X.A.units+1<cLine)(ho:PE X o td)(hi:PE X i ty)(hv:PE X value tv)(hs:swapsWith value (some<|.Subscript o i pos') pos.line X.env=pure false):
 PS X (.Assign [.Subscript o i pos'] value pos) (XX td ty tv):=by
 intro ee s σ H D I h;refine wpAny_Assign_Subscript (gg (hv ee s σ H _ I h) λr s1 h_=>fw h_ λv H1 I1 rv q1=>gg (ho ee s1 σ H1 _ I1 q1) λu s2 h_=>fw h_ λx H2 I2 rx q2=>gg (hi ee s2 σ H2 _ I2 q2) λiv s3 Sy=>?_) hs;obtain⟨y,H3,I3,ry,a,H4,ex,g,q3⟩:=Sy;subst ex;obtain rfl:u=Value.ref a:=rx;exact JR hu I3 g ry rv λs4 I4=>⟨σ,H4,I4,q3⟩
end
def Ea {P:ae}{w:af}{H:Hp}(h:Heap)(hb:sysModules<h.objs.size):iQ P w H (h.push { cls:=.type "dict",data:=.dict #[]}) h.objs.size (.dK []) :=
 ⟨bp _,beq_eq_false_iff_ne.mpr<|bz<|aF hb,[],.nil,Heap.DictOf.new h⟩
def TY:TE:=λ_ H Q=>∀ p,H p=none->Q (.ref p) (upd H p<|.dK [])
section
variable {X:Cx}{pos:Pos}
def LM:PE X (.Dict [] [] pos) TY:=λee s σ H Q I h =>wpAny_Dict_empty ⟨.ref s.heap.objs.size,_,I.laid (a:=s.heap.objs.size) (o:=.dK []) (t':=s.toks) (λ_ _ q=>kJ _ q) (au _)<|Ea s.heap I.big,rfl,h _<|I.fB.fresh<|au _⟩
end
structure M1 (X:Cx)(o:Expr)(m:Str)(fZ:Pos)(e:Expr)(fW:Pos):Prop where
 eB:attributeBase o m X.env (eval o X.env)=eval o X.env
 nj:((backTo fW<|starEach [e] X.env).all (λx=>!x.1)&&(backToKw fW<|keywordEach [] X.env).all (λx=>x.1.isSome)
  && decide (([e]:List Expr).length+([]:List Keyword).length+(if([]:List Keyword).isEmpty then 0 else 1)<30))=true
 line:(fZ.endLine==fW.line)=true
 trees:backTo fW (starEach [e] X.env)=[(false,eval e X.env)]
structure M2 (X:Cx)(o:Expr)(m:Str)(fZ:Pos)(e f:Expr)(fW:Pos):Prop where
 eB:attributeBase o m X.env (eval o X.env)=eval o X.env
 nj:((backTo fW<|starEach [e,f] X.env).all (λx=>!x.1)&&(backToKw fW<|keywordEach [] X.env).all (λx=>x.1.isSome)
  && decide (([e,f]:List Expr).length+([]:List Keyword).length+(if([]:List Keyword).isEmpty then 0 else 1)<30))=true
 line:(fZ.endLine==fW.line)=true
 trees:backTo fW (starEach [e,f] X.env)=[(false,eval e X.env),(false,eval f X.env)]
section
variable {X:Cx}{ee:ao (aj×Obj)}{σ:St}{H:Hp}{s:ai}{a:aj}{eP:ao (Key×V)}{A:Around}{E:ak->ai->Prop}
def NO {Q:ak->ai->Prop}(I:Inv X ee σ H s)(e:Rd H a (.dK eP))(h:∀ p s',H p=none->Inv X ee σ (upd H p<|.dK eP) s'->Q (.ref p) s'):wpAny (model X.prog X.w) A (call (.type "dict") [.ref a]) Q E s:=by obtain⟨z,hd,vs,rel,dd⟩:=pw I.fB e;refine kt_call_dict hd dd (rel.length▸z) λh' Gy hs=>?_;refine h _ _ (I.fB.fresh<|au _) (I.laid (a:=s.heap.objs.size) (o:=.dK eP) (t':=s.toks) (λb q hq=>?_) (au _)<|BI z (beq_eq_false_iff_ne.mpr<|bz<|aF I.big) rel Gy);exact(hs.2 b<|aF<|kG hq).trans (kJ _ hq)
end
def yE (X:Cx)(N:ao Str)(sc:Scope)(fp:ao aj)(s:ai)(H:Hp):Cx where
 prog:=X.prog
 w:=X.w
 K:=X.K
 mg:=X.mg
 eB:=X.eB
 A:=X.A
 N:=N
 s₀:=s
 H₀:=H
 env:=ow sc s.heap.objs.size X.env
 eM:=X.stack
 stack:=X.stack
 ex:=fp
 fn:=λx=>sc.names.lookup x==some .cell
 gE:=X.gE
 pn:=[]
 xe:=λ_ _=>False
def xH (sc:Scope)(h:Heap):Heap:=pushCells (h.push { cls:=.type "dict",data:=.dict #[]}) sc.names
def vg:∀ b o,h.get? b=some o->(xH sc h).get? b=some o:=λb o e=>dt _ _ b o (kJ _ e)
section
variable {X:Cx}{ee:ao (aj×Obj)}{σ:St}{H:Hp}{s:ai}{N:ao Str}{js:ao (aq Nat)}{sc:Scope}{fp:ao aj}
def Js (I:Inv X ee σ H s)(hc:kR X N js sc)(hf:∀ b∈fp,nk X ee H b)(ho:∀ b∈fp,∃ o,s.heap.get? b=some o)(tk:Nat):
 Inv (yE X N sc fp s H) [] (g9 js σ) H {s with heap:=xH sc s.heap,toks:=tk}:=by
 have MX:∀ y∈sc.names,y.2=.free->∃ c,X.env.cells.lookup y.1=some c:=λy hy e=>I.ok.has y.1<|hc.free y hy e;have ok:=cellsFrom_ok sc.names (s.heap.push { cls:=.type "dict",data:=.dict #[]}) (s.heap.objs.size+1) [] ⟨λ_ _ hm=>(nomatch hm),List.Pairwise.nil⟩
  (by rw[bq];exact au _)
 rw[bq]at ok;have eC:(ow sc s.heap.objs.size X.env).cells=cellsFrom (s.heap.objs.size+1) sc.names []++l8 X.env.cells sc.names []:=mM sc.names _ [] _;have lk:∀ x c,(ow sc s.heap.objs.size X.env).cells.lookup x=some c->(x,c)∈cellsFrom (s.heap.objs.size+1) sc.names []\/X.env.cells.lookup x=some c:=λx c e=>by
  rw[eC]at e;rcases List.mem_append.mp (mem_of_lookup e)with h|h
  .exact .inl h
  .rcases p4 MX x c h with h | h
   .cases h
   .exact .inr h
 have big:∀(x:Str) (c:Nat),(x,c)∈cellsFrom (s.heap.objs.size+1) sc.names []->s.heap.objs.size+1<=c:=λx c h=>(ok.empty x c h).2;have small:∀(x:Str) (c:Nat),X.env.cells.lookup x=some c->c<s.heap.objs.size:=λx c h=>let ⟨_,q⟩:=I.cell x c h;q.lt
 have has:∀ x,((ow sc s.heap.objs.size X.env).kindOf x=some .cell\/(ow sc s.heap.objs.size X.env).kindOf x=some .free)->∃ c,(ow sc s.heap.objs.size X.env).cells.lookup x=some c:=λx h=>by
  have h':(relabel sc X.env).names.lookup x=some .cell\/(relabel sc X.env).names.lookup x=some .free:=h;rw[lZ]at h';rw[eC,dG];cases q:sc.names.lookup x with
  |none=>rw[q]at h';rcases h' with h'|h'<;>cases h'
  | some k =>
   rw[q]at h';have hk:=CT (env:=X.env) (x:=x) (k:=k) (h'.elim (λz=>.inl<|aW z) λz=>.inr<|aW z);rcases hk with rfl|rfl
   .obtain⟨c,vj⟩:=pz (n:=s.heap.objs.size+1) q;exact⟨c,by rw[vj];rfl⟩
   .have z:=p5 (cells:=X.env.cells) sc.names [] x<|mem_of_lookup q;obtain⟨c,vj⟩:=Option.isSome_iff_exists.mp z;cases q2:(cellsFrom (s.heap.objs.size+1) sc.names []).lookup x with
    |none=>exact⟨c,by rw[vj];rfl⟩
    |some d=>exact⟨d,rfl⟩
 have Km:(yE X N sc fp s H).Ok:=by
  refine⟨I.ok.mod,hc.kind,I.ok.glob,I.ok.blt,au _,λx y c h1 h2=>?_,has,λx c hx h=>?_,I.ok.hd,I.ok.frames,.inl rfl,λb hb=>⟨?_,λx c h=>?_⟩,I.bs,aG I.ok.Ia I.sz,λb o e hb=>?_,λb hb hs=>?_,I.stack,I.rH⟩
  .rcases lk x c h1 with g1 | g1 <;> rcases lk y c h2 with g2 | g2
   .exact name_of_addr ok.apart g1 g2
   .exact absurd (aL (small _ _ g2)<|aG (aY _ 1)<|big _ _ g1) (bJ _)
   .exact absurd (aL (small _ _ g1)<|aG (aY _ 1)<|big _ _ g2) (bJ _)
   .exact I.ok.inj x y c g1 g2
  .have Jy:sc.names.lookup x=some .cell:=by simpa [yE]using hx
   have h':(ow sc s.heap.objs.size X.env).cells.lookup x=some c:=h
   rw[eC,dG]at h'
   obtain⟨c2,vj⟩:=pz (n:=s.heap.objs.size+1) Jy
   rw[vj]at h'
   have e:c2=c:=aW h'
   subst e
   exact aG (aY _ 1) (big _ _<|mem_of_lookup vj)
  .obtain⟨o,e⟩:=ho b hb;exact aF (kG e)
  .obtain⟨o,e⟩:=ho b hb;have l:=kG e;rcases lk x c h with g|g
   .exact bh (aL l<|aG (aY _ 1)<|big _ _ g)
   .exact(hf b hb).2.2.2.2.1 x c g
  .rcases(hf b hb).2.2.2.1 with z | z
   .exact I.ok.Du b o e z
   .exact absurd (aL (kG e)<|aG I.ok.Ia z) (bJ _)
  .rcases List.mem_cons.mp (I.wG b hs)with z | z
   .exact(hf b hb).2.1 z
   .exact(hf b hb).2.2.1 z
 have tX:∀ b u,s.heap.get? b=some u->(xH sc s.heap).get? b=some u:=vg;have nsC:(xH sc s.heap).Ns s.heap.objs.size λ_=>none:=by have q:=(Heap.Ns.new s.heap<|.type "dict").keeps<|dt sc.names _;exact q
 refine⟨Km,rfl,I.bare,Un.eI tX,⟨_,nsC,λi x v e1 e2 e3=>?_⟩,λx c h=>?_,I.fB.fresh<|au _,λx c h=>?_,λp hp=>absurd (show p∈([]:ao (aj×Obj))from hp)<|by simp,I.fB.eI tX,?_⟩
 .refine eS (xM e2) λj hj hv=>?_;refine Nu (hc.slot i x j e1 hj) λg1 g2 g3 g4=>?_;have kx:=hc.free _ g2 rfl;refine eS I.loc λm hn hl=>?_;refine eS (hl j x v g1 hv<|.inr kx) λu r l=>?_;refine⟨u,r,?_⟩;rcases l with⟨z,_⟩|⟨_,c,OS,vi⟩
  .have z':X.env.kindOf x=some .local:=z;rcases kx with k|k<;>(have k':X.env.kindOf x=_:=k;rw[z']at k';cases k')
  .have kY:(ow sc s.heap.objs.size X.env).kindOf x=some .cell\/(ow sc s.heap.objs.size X.env).kindOf x=some .free:=by
    show(relabel sc X.env).names.lookup x=some .cell\/(relabel sc X.env).names.lookup x=some .free;rw[lZ,g3];rcases zj (env:=X.env) (x:=x)with q|q
    .exact .inl (show some (uB X.env x .free)=_ by rw[q])
    .exact .inr (show some (uB X.env x .free)=_ by rw[q])
   obtain⟨c',h'⟩:=has x kY
   refine .inr ⟨kY,c',h',?_⟩
   rcases lk x c' h' with g|g
   .rcases mL _ _ _ _ _ g with z | z
    .exact absurd z g4
    .cases z
   .rw[OS]at g;cases g;exact vi.keeps tX
 .rcases lk x c h with g | g
  .exact⟨_,(ok.empty x c g).1⟩
  .obtain⟨v,q⟩:=I.cell x c g;exact⟨v,q.keeps tX⟩
 .rcases lk x c h with g | g
  .exact I.fB.fresh (aG (aY _ 1)<|big _ _ g)
  .exact I.ky x c g
 .delta g9;rw[jf];exact hc.len
end
def y9 {D:aj}(I:Nat->ai->Prop)
 (turn:∀ n s,I n s->wpAny (model prog w) A (pyNext it) (λr s₁=>match r with
   |none=>R (.ok .next) s₁
   | some v=>wpAny (model prog w) A (letOwnedTupleGo target it v) (λ_ CK=>wpAny (model prog w) A (assign target env v) (λ_ s₂ =>
    wpAny (model prog w) A (forIn ifs true λc r=>if r=true then do let ok <- isTrue c env (eval c env);pure (ForInStep.yield ok)else pure (ForInStep.yield r)) (λok s₃ =>
     if ok=true then wpAny (model prog w) A (eval kx env) (λkv s₄=>wpAny (model prog w) A (eval vx env) (λvv s₅ =>
      wpAny (model prog w) A (dictSet D kv vv) (λ_ s₆=>∃ m,m<n/\I m s₆) (λ_ _=>False) s₅) (λ_ _=>False) s₄) (λ_ _=>False) s₃
     else ∃ m,m<n/\I m s₃) (λ_ _=>False) s₂) (λ_ _=>False) CK) (λ_ _=>False) s₁) (λ_ _=>False) s)
 (n:Nat) (h:I n s):
 codeAny (model prog w) A (.compLoop (.DictComp kx vx [⟨target,iter,ifs,0⟩] scope pos) 0 it (.ref D) env) R s:=by
 refine codeAny_loop rfl I (λn s hI=>wpAny_noted<|fb<|c4<|fb<|bf (turn n s hI) (λr s₁ h₁=>?_) λ_ _ h'=>h'.elim) n h;cases r with
 |none=>exact av h₁
 | some v =>
  refine fb (bf h₁ (λ_ CK Mw=>fb<|bf Mw (λ_ s₂ h₂=>fb<|bf h₂ (λok s₃ h₃=>?_) λ_ _ h'=>h'.elim) λ_ _ h'=>h'.elim) λ_ _ h'=>h'.elim);cases ok with
  |false=>exact av ⟨rfl,h₃⟩
  | true =>exact fb (fb<|bf h₃ (λx s₄ h₄=>fb<|bo<|bf h₄ (λy s₅ h₅=>fb<|c4<|bo<|bf h₅ (λ_ s₆ h₆=>av ⟨rfl,h₆⟩) λ_ _ h'=>h'.elim) λ_ _ h'=>h'.elim) λ_ _ h'=>h'.elim)
def KG (js:ao (aq Nat))(g:TG)(tt:TT)(tk tv:TE)(J:It)(σ:St)(D:aj)(H1:Hp)(fin:ao (Key×V)->Hp->Prop):Prop :=
 ∃ W:Nat->Nat->ao (Key×V)->Hp->Prop,(∃ m,W 0 m [] H1)/\∀ i m eP H,W i m eP H ->
  (J.stop i H/\fin eP H)\/(J.go i H/\∀ x H',J.KC i H x H'->g x (g9 js σ) H' λpD H2=>Ext (g9 js σ) pD/\tt pD H2 λb H3 =>
    if b=true then tk pD H3 λk H4=>tv pD H4 λv H5=>∃(kk:Key) (Mh:ao (Key×V)),k=kV kk/\H5 D=some (.dK Mh)/\Mh.length<sizeLine/\∃ m',m'<m/\W (i+1) m' (putK Mh kk v) (upd H5 D<|.dK<|putK Mh kk v)else ∃ m',m'<m/\W (i+1) m' eP H3)
section
variable {X:Cx}{ee:ao (aj×Obj)}{σ:St}{H:Hp}{s:ai}
def dict_set (I:Inv X ee σ H s)(e:H a=some (.dK eP))(l:eP.length<sizeLine)(ry:fM (kV k) u)(rv:fM v r)
 (h:∀ s',Inv X ee σ (upd H a<|.dK<|putK eP k v) s'->Q () s'):wpAny (model X.prog X.w) A (dictSet a u r) Q E s:=by
 obtain⟨z,hd,vs,rel,dd⟩:=SV I.fB e;have hz:vs.length<=sizeLine:=rel.length▸‹_›
 have hl:(putK eP k v).length<=sizeLine:=by have:=qU eP k v;lia
 refine wpAny_dictSet_pairs (xC ry) dd λh' Gy hs=>h _ ?_;have he:∃ q,h'.get? a=some q:=let ⟨q,_,_,hq,_⟩:=Gy;⟨q,hq⟩
 exact wg I (e▸True.intro) hs he (BI hl hd (rel.put k rv) Gy)
variable {N:ao Str}{js:ao (aq Nat)}{sc:Scope}{fp:ao aj}{tg kx vx iter:Expr}{ifs:ao Expr}{g:TG}{tt:TT}{tk tv:TE}
def Ej {D:aj}(I:Inv X ee σ H s)(hc:kR X N js sc)(gE:X.gE=true)
 (T:Turn X.prog X.w X.K tg J fp it tn) (st:tn 0 s.heap) (hf:∀ b∈fp,nk X ee H b)
 (hg:PG (yE X N sc fp s H) tg g) (ht:Kv (yE X N sc fp s H) ifs tt) (hk:PE (yE X N sc fp s H) kx tk) (hv:PE (yE X N sc fp s H) vx tv) (q:KG js g tt tk tv J σ D H fin)
 (hR:∀ s' H' eP m,Inv X ee σ H' s'->fin eP H'->s'.heap.Ns s.heap.objs.size m->H' s.heap.objs.size=none->R (.ok .next) s'):
 codeAny (model X.prog X.w) X.A (.compStart (.DictComp kx vx [⟨tg,iter,ifs,0⟩] sc pos) 0 (.ref it) (.ref D)<|ow sc s.heap.objs.size X.env) R {s with heap:=xH sc s.heap,toks:=tok}:=by
 have W3:∀ b∈fp,∃ o,s.heap.get? b=some o:=λb hb=>let ⟨o,e,_⟩:=T.obj 0 s.heap st b hb;⟨o,e⟩
 have I0:=Js I hc hf W3 tok;have Km:=I0.ok;obtain⟨W,⟨m0,w0⟩,turn⟩:=q;have wH:∀ {H':Hp},(∀ b∈fp,H' b=none)->∀ b∈fp,nk (yE X N sc fp s H) [] H' b:=λ{H'} hn b hb =>⟨hn b hb,(Km.y3 b hb).1,Km.D4 b hb,.inl hb,(Km.y3 b hb).2,λp hp=>absurd (show p∈([]:ao (aj×Obj))from hp)<|by simp⟩
 have XH:tn 0 (xH sc s.heap):=T.keep 0 _ _ st λb _ o e=>vg b o e;have loop:codeAny (model X.prog X.w) X.A (.compLoop (.DictComp kx vx [⟨tg,iter,ifs,0⟩] sc pos) 0 (.ref it) (.ref D)<|ow sc s.heap.objs.size X.env) R { s with heap:=xH sc s.heap,toks:=tok}:=by
  refine y9 (λn s'=>∃ i eP H',Inv (yE X N sc fp s H) [] (g9 js σ) H' s'/\tn i s'.heap/\(∀ b∈fp,H' b=none)/\W i n eP H') ?_ m0
   ⟨0,[],H,I0,XH,λb hb=>(hf b hb).1,w0⟩
  refine λn s3 h_=>Gw h_ λi eP H3 I3 OJ SI w3=>?_;rcases turn i n eP H3 w3 with⟨stop,qf⟩|⟨go,step⟩
  .refine gg (T.done (yE X N sc fp s H) rfl rfl rfl gE i _ s3 _ H3 _ I3 (wH SI) OJ stop) λr s4 h_=>jS h_ λhr I4=>?_;subst hr;refine eS I4.loc λm OQ _=>?_;have IX:=I.zP (ch:=fp) I4.os I4.eB I4.fB I4.bare λb hb=>by refine rf (hf b hb) λf0 f1 f2 f3 f4 f5=>?_;exact⟨f3,f1,f4,f5⟩
   exact hR s4 H3 eP m IX qf OQ I4.free
  .refine gg (T.item (yE X N sc fp s H) rfl rfl rfl gE i _ s3 _ H3 _ I3 (wH SI) OJ go) λr s4 h_=>eS h_ λu hr h4=>?_;subst hr;refine gg h4 λ_ s5 h_=>JN h_ λx H5 I5 r5 y5 K5 Zp=>?_;have I5':=I5.pinned (wH Zp)<|T.obj _ _ K5;refine gg (hg _ s5 _ H5 x u _ I5' r5<|step x H5 y5) λ_ s6 ⟨OG,H6,I6,⟨Nj,q6⟩⟩=>?_;refine gg (ht _ s6 OG H6 _ I6 q6) λb s7 h_=>eS h_ λH7 I7 q7=>?_;have back:∀ {s':ai} {H':Hp},Inv (yE X N sc fp s H) ([]++uD fp s5.heap) OG H' s'->tn (i+1) s'.heap/\(∀ b∈fp,H' b=none)/\Inv (yE X N sc fp s H) [] (g9 js σ) H' s':=λ{s' H'} I'=>by refine⟨T.keep _ _ _ K5 λb hb o e=>(I'.pin (b,o)<|aQ _<|aQ _<|mC hb e).1,λb hb=>?_,(I'.weak Nj.1 Nj.2).qA⟩;refine eS (T.obj _ _ K5 b hb) λo e d=>?_;exact(I'.pin (b,o)<|aQ _<|aQ _<|mC hb e).2.1
   cases b with
   | false =>refine eS q7 λm' hm w7=>?_;refine rh (back I7) λt7 f7 I7'=>?_;exact⟨m',hm,i+1,eP,H7,I7',t7,f7,w7⟩
   | true =>refine gg (hk _ s7 OG H7 _ I7 q7) λy s8 h_=>fw h_ λyk H8 I8 ry q8=>gg (hv _ s8 OG H8 _ I8 q8) λz s9 FQ=>?_;obtain⟨zv,H9,I9,rz,kk,Mh,ek,eD,hl,m',hm,w9⟩:=FQ;subst ek;refine dict_set (X:=yE X N sc fp s H) I9 eD hl ry rz λs10 I10=>?_;refine rh (back I10) λt8 f8 I8'=>?_;exact⟨m',hm,i+1,_,_,I8',t8,f8,w9⟩
 exact codeAny_compStart_dict loop (T.self _ 0 _ _ _ XH loop)
def K2 (wi:TI)(js:ao (aq Nat))(g:TG)(tt:TT)(tk tv:TE):TE:=λσ H Q=>wi σ H λJ H1=>∀ D,H1 D=none->KG js g tt tk tv J σ D (upd H1 D<|.dK []) λ_ H'=>Q (.ref D) H'
end
def vN:D->aq Key
 |.int i=>some (.inl i)
 |.str z=>some (.inr z)
 |_=>none
def rQ (e:vN d=some k)(i:kP φ H d v):v=kV k:=by
 cases d with
 |int n=>cases e;exact i
 |str z=>cases e;exact i
 |_=>cases e
def dput (eP:ao (Key×D))(k:Key)(d:D):ao (Key×D):=if(eP.any λkv=>decide (kv.1=k))=true then eP.map (λkv=>if kv.1=k then(kv.1,d)else kv)else eP++[(k,d)]
def ub (eP:ao (Key×D))(k:Key):aq D:=(eP.find? λkv=>decide (kv.1=k)).map (·.2)
def Nx (eP:ao (Key×D))(k:Key)(d:D):(dput eP k d).length<=eP.length+1:=by
 delta dput;split
 .rw[jf];lia
 .rw[mJ,aU];lia
def NS (ρ:DE)(y:DG)(t:Dt)(wk wv:De)(d:D)(μ:MS)(K:aq (Key×D)->MS->Prop):Prop:=y d ρ μ λqt ik=>t qt ik λb sC=>if b=true then wk qt sC λkd Kl=>opt (vN kd) λk=>wv qt Kl λv Xj=>K (some (k,v)) Xj else K none sC
def Fr.Si (f:Fr φ H fO H')(hl:fO.length=φ.length):fO=φ:=by obtain⟨⟨ψ,rfl,_⟩,_,_⟩:=f;rw[mJ]at hl;have:ψ=[]:=List.length_eq_zero_iff.mp (by lia);rw[this,bg]
section
variable {X:Cx}{a b e:Expr}{es:ao Expr}{pos:Pos}
variable {N:ao Str}{js:ao (aq Nat)}{sc:Scope}{tg kx vx iter:Expr}{ifs:ao Expr}{g:TG}{y:DG}{S:ao Nat}{t:Dt}{wk wv:De}
def D7:∀ {ds:ao D} {eP:ao (Key×V)} {k:Key} {d:D},eP.map (·.1)=ks->fe φ H ds (eP.map (·.2))->ub (ks.zip ds) k=some d->∃ v,qy eP k=some v/\kP φ H d v:=by
 intro ds eP;induction eP generalizing ks ds with
 |nil=>intro k d h1 h2 h3;subst h1;cases h3
 | cons p eP ih =>
  intro k d h1 h2 h3;cases ks with
  |nil=>cases h1
  | cons k0 ks =>
   cases ds with
   |nil=>cases h2
   | cons d0 ds =>
    refine fw h2 λv r e h4 h5=>?_;simp at h1 e;refine jS e λfE qk=>?_;subst fE;subst qk;obtain⟨rfl,h1⟩:=h1;rw[dF]at h3;delta ub at h3;rw[bD]at h3;by_cases hk:p.1=k
    .simp only[hk,decide_true]at h3;cases h3;exact⟨p.2,qw hk,h4⟩
    .simp only[hk,decide_false]at h3;refine eS (ih h1 h5 h3) λv a b=>?_;exact⟨v,by rwa [qx hk],b⟩
end
def clN (l:ao Nat)(e:Nat):Nat:=e+((l.drop e).takeWhile (·==111)).length
def Zr (es:ao Int)(l:ao Nat)(e:Int):Int:=(es.filter λx=>decide (x<=(clN l e.toNat:Int))).foldl max e
def ownE (es:ao Int)(ts:ao Tk)(a e:Int):Int:=ts.foldl (λm t=>if t.2<=a then max m (Zr es t.1 e)else m) e
def UW (es:ao Int)(ts:ao Tk)(a:Int):ao Int:=es.map (ownE es ts a)
def rowAt (es row:ao Int)(x:Int):Int:=(row[es.idxOf x]?).getD 0
def Yw (es:ao Int)(ts:ao Tk)(before:ao Int)(a:Int):ao Int:=List.zipWith (λfar mid=>max far<|rowAt es before mid) (UW es ts a) before
def Lo (es:ao Int)(ts:ao Tk):Nat->ao Int
 |0=>UW es ts 0
 |a+1=>Yw es ts (Lo es ts a) ((a:Int)+1)
structure yq (n:Int)(cs:List Int)(ts:List Tk):Prop where
 n1:1<=n
 n2:n<=1000
 nj:cs.length<=1000
 cuts:Cuts n cs
 takes:Af n ts
section
variable {X:Cx}{N:ao Str}{sc:Scope}{js:ao (aq Nat)}{tg iter kx vx:Expr}{ifs:ao Expr}{g:TG}{tt:TT}{tk tv:TE}
def LO (hc:kR X N js sc)(gE:X.gE=true)(hi:PI X tg iter wi)(hg:∀ fp s H,PG (yE X N sc fp s H) tg g)
 (ht:∀ fp s H,Kv (yE X N sc fp s H) ifs tt) (hk:∀ fp s H,PE (yE X N sc fp s H) kx tk) (hv:∀ fp s H,PE (yE X N sc fp s H) vx tv)
 (hs:∀ x,foldedSetIterable iter X.env x=pure x:=by intro _;rfl):PE X (.DictComp kx vx [⟨tg,iter,ifs,0⟩] sc pos) (K2 wi js g tt tk tv):=by
 intro ee s σ H Q I h;refine cF (use:=none) rfl hs (mK λy hy e=>I.ok.has y.1<|hc.free y hy e) hc.kind hc.loc (gg (hi ee s σ H _ I h) λv s1 h1=>gg h1 λSv s2 h2=>?_);refine Nr h2 λit fp tn J H2 e I2 T G1 f2 q=>?_;subst e;refine bw<|oE ?_;have hD:=I2.fB.fresh<|au _;have I3:Inv X ee σ (upd H2 s2.heap.objs.size<|.dK []) { s2 with heap:=s2.heap.push { cls:=.type "dict",data:=.dict #[]}}:=I2.laid (t':=s2.toks) (λ_ _ q=>kJ _ q) (au _)<|Ea s2.heap I2.big;have hC:(s2.heap.push { cls:=.type "dict",data:=.dict #[]}).objs.size=s2.heap.objs.size+1:=bq ..
 have OJ:tn 0 (s2.heap.push { cls:=.type "dict",data:=.dict #[]}):=T.keep 0 _ _ G1 λb _ o e=>kJ _ e;have W3:∀ b∈fp,b≠s2.heap.objs.size:=λb hb=>let ⟨o,e,_⟩:=T.obj 0 s2.heap G1 b hb;aF (kG e)
 have f3:∀ b∈fp,nk X ee (upd H2 s2.heap.objs.size<|.dK []) b:=λb hb=>⟨by rw[e9 (W3 b hb)];exact(f2 b hb).1,(f2 b hb).2⟩;refine Ej I3 hc gE T OJ f3 (hg fp _ _) (ht fp _ _) (hk fp _ _) (hv fp _ _) (q s2.heap.objs.size hD) λs' H' eP m IX qf nC hn=>?_;have uq:s2.heap.objs.size<(s2.heap.push { cls:=.type "dict",data:=.dict #[]}).objs.size:=hC▸b9 _;have Cm:∀(b:aj) (o:Obj),s2.heap.get? b=some o->b≠(s2.heap.push { cls:=.type "dict",data:=.dict #[]}).objs.size:=λb o e=>aF<|dX (kG e) uq;refine⟨m,nC,λh' sb=>?_⟩;have IY:Inv X ee σ H' { s' with heap:=h'}:=IX.turned (t':=s'.toks) (λb o hb e=>(sb.2 b hb).trans e) hn
  (bh<|dX I2.lt uq) (.inr<|dY<|bR I2.sz uq) (λx c e=>let ⟨v,z⟩:=I2.cell x c e;aF (dX z.lt uq)) (λp hp=>Cm _ _ (I2.pin p hp).1)
 exact⟨.ref _,_,IY,rfl,qf⟩
variable {y:DG}{S:ao Nat}{t:Dt}{wk wv:De}
end
def IK (lo:Int)(n:Nat):pP lo (n+1)=.int lo::pP (lo+1) n:=by
 delta pP;rw[List.range_succ_eq_map,aK,a8];congr 1
 .simp
 .refine cp λi _=>?_;show D.int (lo+((i+1:Nat):Int))=_;congr 1;lia
def gV {g:MS}(hm:∀(j:Nat) (m:MO),μ[j]?=some m->zt μ.length m):∀(j:Nat) (m:MO),j<μ.length->(μ++g)[j]?=some m->zt μ.length m:=λj m hj e=>by rw[tE hj]at e;exact hm j m e
def nM (h:Cn μ k=some ds):Tp "list" μ (.mr k):=by show(match μ[k]? with|some (.lst _)=> "list" = "list" | some (.lh _ _)=> "list" = "dict" | _=>False);rw[pW h]
structure Ii (es:List Int)(ts:List Tk)(n:Int)(a:Nat):Prop where
 at_:(Lo es ts a)[0]?=some n
 low:∀ b,b<a->(Lo es ts b)[0]?≠some n
def Rg {α:Type}(g:α->D)(ts:ao α)(k:Nat):cutD (ts.map g) none (some (k:Int))=(ts.take k).map g:=by
 delta cutD;rw[HT.tO,HT.rN,jf,List.drop_zero,Nat.sub_zero,<- List.map_take];congr 1;rcases Nat.le_total k ts.length with h|h
 .rw[cY h]
 .rw[Nat.min_eq_right h,bH (au _),bH h]
def nLf {ds:ao D}{μ:MS}{K:DK}(h:K (.lst ds) μ):nL false ds μ K:=h
def Ry (es:ao Int)(x:Int):((es.map D.int).any λd=>OV d<|.int x)=decide (x∈es):=by
 induction es with
 |nil=>rfl
 | cons e es ih =>
  rw[aK,bV,ih];have:OV (.int e) (.int x)=decide (e=x):=rfl;rw[this];by_cases h:e=x
  .simp[h]
  .have:¬ x=e:=λz=>h z.symm;simp[h,this]
def MY (es:ao Int):(es.map D.int).all yZ=true:=by rw[List.all_map,cx];intro x _;rfl
theorem rS {α:Type}{it:D->MS->(aq D->MS->Prop)->Prop}{c:MS->Prop}{μ:MS}(hc:c μ)(g:α->D)(f:α->aq D):∀ {xs:ao α} {K:ao D->MS->Prop},(∀ x∈xs,∀(K':aq D->MS->Prop),K' (f x) μ->it (g x) μ K')->K (xs.filterMap f) μ->ud it c (xs.map g) μ K
 |[],K,_,k=>⟨hc,k⟩
 | x::xs,K,h,k=>⟨hc,h x aI _ (rS hc g f (λy hy=>h y<|o6 _ hy) (by
  cases e:f x with
  |none=>rw[List.filterMap_cons_none e]at k;exact k
  |some y=>rw[List.filterMap_cons_some e]at k;exact k))⟩
def rT {α:Type}{it:D->MS->(aq D->MS->Prop)->Prop}{c:MS->Prop}{μ:MS}(hc:c μ)(g f:α->D){xs:ao α}{K:ao D->MS->Prop}(h:∀ x∈xs,∀(K':aq D->MS->Prop),K' (some<|f x) μ->it (g x) μ K')(k:K (xs.map f) μ):ud it c (xs.map g) μ K:=by refine rS hc g (λx=>some<|f x) h ?_;rwa [List.filterMap_eq_map']
def Eu {α:Type}{g:α->D}{xs:ao α}{k:Nat}{x:α}(h:xs[k]?=some x):wq (xs.map g) (k:Int)=some (g x):=Ig h
def iq.le (r:iq k A)(h:j<=k:=by first|decide|exact au _|lia):iq j A:=r.mono h
def lo (h:Loc sc x:=by first|exact Or.inl rfl|exact Or.inr rfl):Loc sc x:=h
def G4 {g:MS}:(μ++g).set (μ.length+i) m=μ++g.set i m:=by rw[b7 _ _ (aY _ _),bM]
def Ma (h:g[i]?=some (.lst ds)):Cn (μ++g) (μ.length+i)=some ds:=qP (by rwa [ou (aY _ _),bM])
theorem pU:∀ {ds:ao D},(∀ d∈ds,yC n d)->r6 n ds
 |[],_=>by trivial
 |d::ds,h=>⟨h d aI,pU λx hx=>h x<|o6 _ hx⟩
def Itv (l:aj)(n:Nat):It :=
 ⟨λi H=>i<n/\∃ xs,H l=some (.lst xs)/\xs.length=n,
  λi H v H'=>H'=H/\∀ xs,H l=some (.lst xs)->xs[n - 1 - i]?=some v,
  λi H=>i=n⟩
def KP {P:ae}{w:af}{K:aa}{tg:Expr}(l it:aj)(n:Nat):Turn P w K tg (Itv l n) [it] it (λi h=>h.IsRevIter it l<|(n:Int) - 1 - (i:Nat)) where
 mem:=by simp
 obj:=λi h st b hb=>by
  have e:b=it:=by simpa using hb
  subst e;refine oy st λo e c d=>?_;exact⟨o,e,λv z=>by rw[d]at z;cases z⟩
 keep:=λi h h' st k=>st.at λo e=>k it (by simp) o e
 item:=by
  intro X hP hw hK hc i ee s σ H E I hf st hg;subst hP hw hK;let ⟨hi,xs,hl,hn⟩:=hg;let ⟨z,fu,nn,r,ll,ho⟩:=I.r8 hl;have Vw:s.heap.IsList l fu.toArray:=⟨_,ho,rfl,nn,rfl⟩;obtain⟨x,hx⟩:∃ x,xs[n - 1 - i]?=some x:=⟨_,vk<|by lia⟩;refine eS (r.get hx) λu hu ru=>?_;refine rf (hf it<|by simp) λf0 f1 f2 f3 f4 f5=>?_;have e1:(n:Int) - 1 - (i:Nat)=((n - 1 - i:Nat):Int):=by lia
  rw[e1]at st;refine wpAny_pyNext_rev_item st Vw (x:=u) (by simpa using hu) λh' Ci sb=>?_;have I1:Inv X ee σ H {s with heap:=h'}:=I.turned (t':=s.toks) (λb o hb e=>(sb.2 b hb).trans e) f0 f1 f3 f4 f5;have e2:((n - 1 - i:Nat):Int) - 1=(n:Int) - 1 - ((i+1:Nat):Int):=by lia
  rw[e2]at Ci;refine oy (id Ci) λo e c d=>?_;exact⟨u,rfl,zD (s:={s with heap:=h'}) e c d (by decide) ⟨x,H,I1,ru,⟨rfl,λys hy=>by rw[hl]at hy;cases hy;exact hx⟩,Ci,λb hb=>(hf b hb).1⟩⟩
 done:=by intro X hP hw hK hc i ee s σ H E I hf st hg;subst hP hw hK;have hg':i=n:=hg;refine rf (hf it<|by simp) λf0 f1 f2 f3 f4 f5=>?_;rw[hg',show(n:Int) - 1 - (n:Nat) = -1 by lia]at st;exact wpAny_pyNext_rev_end (I.ok.hd hc) st λh' eb=>⟨rfl,I.turned (t':=s.toks) (λb o hb e=>eb b o hb e) f0 f1 f3 f4 f5⟩
 self:=λ_ _ _ _ _ st h=>wpAny_pyIter_revIter st h
section
variable {X:Cx}{a b e:Expr}{es:ao Expr}{pos:Pos}{tg:Expr}
def iRev (ta:TA):TI:=λσ H R=>ta σ H λvs H1=>match vs with
 |[.ref l]=>∃ xs,H1 l=some (.lst xs)/\R (Itv l xs.length) H1
 |_=>False
def UJ {ta:TA}{p:Pos}(hg:Gl X "reversed")(hm:X.mg "reversed"=none)(ha:PA X [a] ta)(hs:starEach [a] X.env=[(false,eval a X.env)]:=by rfl):
 PI X tg (.Call (.Name "reversed" p) [a] [] pos) (iRev ta):=by
 intro ee s σ H R I h;refine Call_ (nN I hg hm boot_reversed<|bj (gg (ha pos ee s σ H _ I h) λus s1 FP=>?_) hs rfl);obtain⟨vs,H1,I1,r1,q1⟩:=FP;try dsimp only at q1
 split at q1
 .rename_i l;refine eS q1 λxs hl q=>?_;refine eS r1.one λu fE ru=>?_;subst fE;subst ru;obtain⟨_,fu,n,r,ll,ho⟩:=I1.r8 hl;have len:(fu.toArray.size:Int) - 1=(xs.length:Int) - 1 - ((0:Nat):Int):=by rw[aB,<- ll];lia
  refine call_reversed_list (l:=l) (items:=fu.toArray) ⟨_,ho,rfl,n,rfl⟩ ?_;have hit:(s1.heap.push<|revObj l<|(fu.toArray.size:Int) - 1).IsRevIter s1.heap.objs.size l ((xs.length:Int) - 1 - ((0:Nat):Int)):=⟨_,aC _ rfl,rfl,by rw[<- len];rfl⟩;refine wpAny_pyIter_revIter (s:={ s1 with heap:=s1.heap.push (revObj l<|(fu.toArray.size:Int) - 1)}) hit ?_;have I2:Inv X ee σ H1 { s1 with heap:=s1.heap.push (revObj l<|(fu.toArray.size:Int) - 1)}:=I1.eI (t':=s1.toks) λb o e=>kJ _ e;refine⟨s1.heap.objs.size,_,_,_,H1,rfl,I2,KP l s1.heap.objs.size xs.length,hit,λb hb=>?_,q⟩;have MM:b=s1.heap.objs.size:=by simpa using hb
  rw[MM];exact I1.Bo (au _) (I1.fB.fresh<|au _)
 .exact q1.elim
def dItV (w:DA):DI:=λρ μ K=>w ρ μ λds eV=>match ds with
 |[x]=>opt (lv eV x) λxs=>K xs.reverse (λfj=>lc x xs fj) eV
 |_=>False
def Y0 {w:DA}{p:Pos}(hg:Gl X "reversed")(hm:X.mg "reversed"=none)(ha:sA X [a] w)(hs:starEach [a] X.env=[(false,eval a X.env)]:=by rfl):
 J0 X tg (.Call (.Name "reversed" p) [a] [] pos) (dItV w):=(UJ hg hm ha hs).imp λσ H Q h_=>fF h_ λφ ρ μ K A M k L=>by
 refine⟨φ,ρ,μ,_,A,M,k,λds eV fo vs H1 k1 f1 M1 i1=>?_⟩;split at k1
 .rename_i x;refine eS (gJ k1) λxs ex k1=>?_;refine fw i1 λv r fE h1 h2=>?_;subst fE;cases(show r=[]from h2);refine fw (oF M1 h1 ex) λp1 vx fE hp1 ax=>?_;subst fE;refine⟨vx,hp1,L _ _ eV fo _ H1 k1 f1 M1 λfO H' fj f M' c i=>?_⟩;refine eS (Hm M1 h1 ex f M' c) λvy hy ay=>?_;have lx:=ax.len;have ly:=ay.len;refine⟨λd hd=>?_,λhi=>by rw[cq]at hi;show i=vx.length;lia⟩;have hi:i<xs.length:=by have:=(mW hd).1;rwa [cq]at this
  rw[List.getElem?_reverse hi]at hd;refine eS (ay.get hd) λu hu du=>?_;refine⟨⟨by lia,vy,hy,by lia⟩,λz Oz hz=>?_⟩;obtain⟨rfl,q⟩:=hz;have:=q vy hy;rw[show vx.length - 1 - i=xs.length - 1 - i by lia,hu]at this;cases this;exact⟨.refl _ _,M',du⟩
 .exact k1.elim
def ZH (w:De):Dt:=λρ μ K=>w ρ μ λd eV=>opt (lv eV d) λds=>K (!ds.isEmpty) eV
def Pb {w:De}(h:PD X a w)(he:∀ whole,isTrue a X.env whole=(do let v <- whole;standAt a.pos;holding [v] (truthy v)):=by intro _;rfl):GI X a (ZH w):=(LA h he).imp λσ H Q h_=>fF h_ λφ ρ μ K A M k L=>by
 refine⟨φ,ρ,μ,_,A,M,k,λd eV fo v1 H1 k1 f1 M1 i1=>?_⟩;refine eS (gJ k1) λds ed k1=>?_;refine fw (oF M1 i1 ed) λp vs fE hp ha=>?_;subst fE;refine⟨!vs.isEmpty,.inl ⟨vs,qv.of hp,rfl⟩,?_⟩;have:vs.isEmpty=ds.isEmpty:=by have:=ha.len;cases vs<;>cases ds<;>first|rfl|cases this
 rw[this];exact L _ eV fo H1 k1 f1 M1
end
inductive jG where
 |num (n:Int)
 |pI (p:Int) (l r:jG)
def vL:jG->D
 |.num n=>.int n
 |.pI p l r=>.tup [.int p,vL l,vL r]
def jG.pre:jG->ao jG
 |.num n=>[.num n]
 |.pI p l r=>.pI p l r::(l.pre++r.pre)
def jG.cnt:jG->Nat
 |.num _=>1
 |.pI _ l r=>l.cnt+r.cnt
def jG.ok (cs:ao Int)(m:Nat):jG->Prop
 |.num n=>0<=n/\n<m
 |.pI p l r=>p∈cs/\l.ok cs m/\r.ok cs m
theorem jG.Rj:∀ t:jG,0<t.cnt
 |.num _=>by show 0<1;decide
 |.pI _ l r=>by have:=l.Rj;show 0<l.cnt+r.cnt;lia
theorem jG.vV:∀ t:jG,t.pre.length+1=2*t.cnt
 |.num _=>rfl
 | .pI _ l r=>by have h1:=l.vV;have h2:=r.vV;show(l.pre++r.pre).length+1+1=2*(l.cnt+r.cnt);rw[mJ];lia
def jG.tS:∀ t:jG,∃ r,t.pre=t::r
 |.num n=>⟨[],rfl⟩
 |.pI p l r=>⟨_,rfl⟩
theorem jG.Fi:∀ {t:jG},t.ok cs m->∀ x∈t.pre,x.ok cs m
 |.num n,h,x,hx=>by rwa [List.mem_singleton.mp hx]
 | .pI p l r,h,x,hx=>by
  rcases List.mem_cons.mp hx with q|q
  .rwa [q]
  .rcases List.mem_append.mp q with q | q
   .exact Fi h.2.1 x q
   .exact Fi h.2.2 x q
theorem jG.rO:∀ {t:jG} {A B:ao jG} {p:Int} {l r:jG},t.pre=A++.pI p l r::B->∃ C,B=l.pre++r.pre++C
 | .num n,A,B,p,l,r,h=>by
  have h':[jG.num n]=A++.pI p l r::B:=h;cases A with
  |nil=>cases h'
  |cons a A=>have:=bG List.length h';simp at this
 | .pI q u v,A,B,p,l,r,h=>by
  have h':=h;cases A with
  |nil=>cases h';exact⟨[],by simp⟩
  | cons a A =>
   injection h' with _ h';rcases List.append_eq_append_iff.mp h' with⟨a',e1,e2⟩|⟨c',e1,e2⟩
   .exact rO e2
   .cases c' with
    | nil =>exact rO (A:=[]) e2.symm
    | cons d c' =>injection e2 with e3 e4;subst e3;refine kZ (rO e1) λC hC=>?_;exact⟨C++v.pre,by rw[e4,hC];simp⟩
def qX (h:F.flatMap jG.pre=t.pre++C):∃ F',F=t::F'/\F'.flatMap jG.pre=C:=by
 refine kZ t.tS λr hr=>?_;cases F with
 |nil=>rw[hr]at h;cases h
 | cons f F =>refine kZ f.tS λr' hr'=>?_;have h2:=h;rw[br,hr,hr']at h2;injection h2 with h3 h4;subst h3;exact⟨F,rfl,List.append_cancel_left h⟩
def sv (a b:Tk)(p:Int):Tk:=(a.1.take p.toNat++b.1.drop p.toNat,max a.2 b.2+1)
def jG.val (ts:ao Tk):jG->Tk
 |.num n=>(ts[n.toNat]?).getD ([],0)
 |.pI p l r=>sv (l.val ts) (r.val ts) p
def EB (n:Int)(t:Tk):Prop:=(t.1.length:Int)=n/\0<=t.2
def Qz {n:Int}{a b:Tk}{p:Int}(ha:EB n a)(hb:EB n b):EB n (sv a b p):=by
 refine⟨?_,?_⟩
 .show((a.1.take p.toNat++b.1.drop p.toNat).length:Int)=n;rw[mJ,ba,cb];have:=ha.1;have:=hb.1;lia
 .show 0<=max a.2 b.2+1;have:=ha.2;lia
theorem jG.Ak {n:Int}{ts:ao Tk}{cs:ao Int}(ht:∀ t∈ts,EB n t):∀ {t:jG},t.ok cs ts.length->EB n (t.val ts)
 | .num k,h=>by obtain⟨x,hx⟩:∃ x,ts[k.toNat]?=some x:=⟨_,vk (by have:=h.1;have:=h.2;lia)⟩;show EB n ((ts[k.toNat]?).getD ([],0));rw[hx];exact ht x (ET hx)
 |.pI p l r,h=>Qz (Ak ht h.2.1) (Ak ht h.2.2)
def YD:jG->Bool
 |.pI _ _ _=>true
 |.num _=>false
def BC:ot:=λds μ K=>match ds with
 |[.tup [.str z,.int a],.tup [.str y,.int b],.int p]=>∃ x u:Tk,z=txt x.1/\a=x.2/\y=txt u.1/\b=u.2/\0<=p/\x.1.length<=1000/\u.1.length<=1000/\K (jZ<|sv x u p) μ
 |_=>False
def Zs:ot:=λds μ K=>dM [.v] ds λd=>∃ t:jG,d=vL t/\t.cnt<=1000/\K (.lst<|t.pre.map vL) μ
theorem FG:∀ t:jG,yC n (vL t)
 |.num _=>trivial
 |.pI p l r=>⟨trivial,FG l,FG r,trivial⟩
def set0 {m:MO}:(μ++[x,y]).set μ.length m=μ++[m,y]:=by have:=G4 (μ:=μ) (g:=[x,y]) (i:=0) (m:=m);rwa [Nat.add_zero]at this
def XR {m:MO}:(μ++[x,y]).set (μ.length+1) m=μ++[x,m]:=G4
def at0:Cn (μ++[.lst x,y]) μ.length=some x:=Ma (i:=0) rfl
def at1:Cn (μ++[x,.lst y]) (μ.length+1)=some y:=Ma rfl
def uJ {α:Type}(xs:ao α)(x:α):(xs++[x])[(xs++[x]).length - 1]?=some x:=by rw[mJ,aU,Nat.add_sub_cancel,ou (au _),aO];rfl
def RQ (t:jG)(μ:MS):tyN (vL t) μ=some (if YD t then "tuple" else "int"):=by cases t<;>rfl
def FY (h:F.flatMap jG.pre=[]):F=[]:=by
 cases F with
 |nil=>rfl
 | cons f F =>refine kZ f.tS λr hr=>?_;rw[br,hr]at h;cases h
theorem tf:∀ F:ao jG,F.length<=(F.flatMap jG.pre).length
 |[]=>au _
 | f::F=>by let ⟨r,hr⟩:=f.tS;have:=tf F;rw[br,hr,mJ,aT,aT];lia
section
variable {X:Cx}{e:Expr}{pos:Pos}
def Z8:De:=λ_ μ K=>K (.mr μ.length) (μ++[.lh [] []])
def NN:PD X (.Dict [] [] pos) Z8:=LM.imp λσ H Q h_=>fF h_ λφ ρ μ K A M k L=>λp hp=>by obtain⟨M',f⟩:=M.snoc (m:=.lh [] []) hp ⟨[],[],eZ,rfl,rfl,rfl⟩;exact L _ _ _ _ _ k f M' ⟨p,by rw[ou (M.len▸au _),M.len,aO];rfl,rfl⟩
end
def aah (L:Nat)(i j:Nat):Int:=if j<=i then 0 else(L:Int) - 1
def YW (P:Nat->Nat->Int)(i j:Nat):ao Int:=(List.range<|j - (i+1)).map λx=>P i (i+1+x)+P (i+1+x) j+1
def XG (L:Nat)(es own:ao Int)(P:Nat->Nat->Int)(i j:Nat):Int:=if es.getD j 0<=own.getD i 0 then 0 else(YW P i j).foldl min ((L:Int) - 1)
def Pa (es:ao Int)(ts:ao Tk):Nat->Nat->Nat->Int
 |0=>aah es.length
 |a+1=>XG es.length es (UW es ts a) (Pa es ts a)
def Sq (h:xB k u=true):fM (kV k) u:=by
 rcases iJ h with⟨i,t,rfl,rfl⟩|⟨x,t,rfl,rfl⟩
 .exact⟨t,rfl⟩
 .exact⟨t,rfl⟩
def Qg {κ:Type}{eP:ao (κ×V)}{vs:ao (κ×ak)}(h:KV eP vs):∀ {i:Nat} {p:κ×V},eP[i]?=some p->∃ v,vs[i]?=some (p.1,v):=by
 induction h with
 |nil=>intro i p e;contradiction
 | @cons a b as bs r _ ih =>
  intro i p e;cases i with
  | zero =>simp at e;subst e;refine⟨b.2,?_⟩;rw[r.1];rfl
  |succ i=>exact ih (by simpa using e)
def freeze (I:Inv X ee σ H s)(e:Rd H a (.dK eP)):∃ o vs ep,KV eP vs/\(∀ h:Heap,h.get? a=some o->h.DictAt (gW X.prog X.w) a vs ep)/\s.heap.DictAt (gW X.prog X.w) a vs ep/\(a==sysModules)=false/\Inv X ee σ (upd H a<|.vm o<|.dK eP) s:=by
 obtain⟨z,hd,vs,rel,dd⟩:=pw I.fB e;refine kZ dd.dictAt λep da=>?_;refine mD (id da) λo es ho r=>?_;refine⟨o,vs,ep,rel,λh e=>⟨o,es,e,r⟩,da,hd,?_⟩;rcases e with e|⟨o',e⟩
 .exact wg (t':=s.toks) I (e▸True.intro) ⟨rfl,λb _=>rfl⟩ ⟨o,ho⟩ ⟨ho,BI z hd rel dd⟩
 .have zA:=(I.fB a _ e).1;rw[ho]at zA;cases zA;have:upd H a (.vm o<|.dK eP)=H:=by
   funext b;delta upd;split
   .rename_i q;rw[q,e]
   .rfl
  rwa [this]
def vM:Key->D
 |.inl i=>.int i
 |.inr z=>.str z
def Hn (k:Key):kP φ H (vM k) (kV k):=by cases k<;>rfl
def BK (μ:MS)(k:Nat):aq (ao Key×ao D):=match μ[k]? with|some (.lh ks ds)=>some (ks,ds)|some (.se _ eP ds)=>some (eP.map (·.1),ds)|_=>none
def BJ (M:fG φ H μ)(i:kP φ H (.mr k) v)(h:BK μ k=some (ks,ds)):∃ p eP,φ[k]?=some p/\v=.ref p/\Rd H p (.dK eP)/\eP.map (·.1)=ks/\fe φ H ds (eP.map (·.2)):=by
 refine eS i λp hp fE=>?_;subst fE;delta BK at h;split at h
 .rename_i e;cases h;obtain⟨q,e1,eP,vs,h1,h2,h3,h4⟩:=M.at_ k _ e;rw[hp]at e1;cases e1;subst h3;exact⟨p,eP,hp,rfl,.inl h1,h2,h4⟩
 .rename_i e;cases h;refine oy (M.at_ k _ e) λq e1 h1 h4=>?_;rw[hp]at e1;cases e1;exact⟨p,_,hp,rfl,.inr ⟨_,h1⟩,rfl,h4⟩
 .cases h
def D6:∀ {ds:ao D} {eP:ao (Key×V)} (k:Key),eP.map (·.1)=ks->fe φ H ds (eP.map (·.2))->(ub (ks.zip ds) k=none/\qy eP k=none)\/∃ d v,ub (ks.zip ds) k=some d/\qy eP k=some v/\kP φ H d v:=by
 intro ds eP;induction eP generalizing ks ds with
 |nil=>intro k h1 h2;subst h1;exact .inl ⟨rfl,rfl⟩
 | cons p eP ih =>
  intro k h1 h2;cases ks with
  |nil=>cases h1
  | cons k0 ks =>
   cases ds with
   |nil=>cases h2
   | cons d0 ds =>
    refine fw h2 λv r e h4 h5=>?_;simp at h1 e;refine jS e λfE qk=>?_;subst fE;subst qk;obtain⟨rfl,h1⟩:=h1;rw[dF];delta ub;rw[bD];by_cases hk:p.1=k
    .simp only[hk,decide_true];exact .inr ⟨_,_,rfl,qw hk,h4⟩
    .simp only[hk,decide_false];rw[qx hk];exact ih k h1 h5
def D9 (hd:kP φ H d v)(e:kv.map (·.1)=kd.map (·.1))(ha:fe φ H (kd.map (·.2)) (kv.map (·.2))):(putK kv k v).map (·.1)=(dput kd k d).map (·.1)/\fe φ H ((dput kd k d).map (·.2)) ((putK kv k v).map (·.2)):=by
 have ea:(kv.any λp=>decide (p.1=k))=kd.any λp=>decide (p.1=k):=by
  have:(kv.map (·.1)).any (λx=>decide (x=k))=(kd.map (·.1)).any λx=>decide (x=k):=by rw[e]
  rwa [List.any_map,List.any_map]at this
 delta putK dput;rw[ea];by_cases q:(kd.any λp=>decide (p.1=k))=true
 .rw[aD q,aD q];clear q ea;induction kd generalizing kv with
  | nil =>
   cases kv with
   |nil=>exact⟨rfl,rfl⟩
   |cons _ _=>cases e
  | cons p kd ih =>
   cases kv with
   |nil=>cases e
   | cons p' kv =>
    simp at e;refine fw ha λv0 r e2 h4 h5=>?_;obtain⟨rfl,rfl⟩:=e2;obtain⟨i1,i2⟩:=ih e.2 h5;by_cases hk:p.1=k
    .have JA:p'.1=k:=by rw[e.1,hk]
     simp only[aK,aD hk,aD JA]
     exact⟨by rw[i1,e.1],_,_,rfl,hd,i2⟩
    .have JA:¬ p'.1=k:=by rwa [e.1]
     simp only[aK,az hk,az JA]
     exact⟨by rw[i1,e.1],_,_,rfl,h4,i2⟩
 .rw[az q,az q,aS,aS,aS,aS];exact⟨by rw[e];rfl,ha.app ⟨v,[],rfl,hd,rfl⟩⟩
section
variable {X:Cx}{a b e:Expr}{pos:Pos}
def Vs (μ:MS)(j:Nat)(y:D):aq (aq D):=(BK μ j).bind λq=>(vN y).map λk=>ub (q.1.zip q.2) k
def Mo (h:Vs μ j y=some o):∃ ks ds k,BK μ j=some (ks,ds)/\vN y=some k/\ub (ks.zip ds) k=o:=by
 delta Vs at h;cases e:BK μ j with
 |none=>rw[e]at h;cases h
 | some q =>
  rw[e]at h;cases e2:vN y with
  |none=>rw[e2]at h;cases h
  |some k=>rw[e2]at h;cases h;exact⟨q.1,q.2,k,rfl,rfl,rfl⟩
def dIxKM:Ag:=λx y μ K=>match x with
 |.mr j=>∃ d,Vs μ j y=some (some d)/\K d μ
 |_=>False
def Wq (w wo wi:De):Ds:=λN ρ μ=>w ρ μ λd eV=>wo ρ eV λo ik=>wi ρ ik λi sC=>match o with
 |.mr j=>∃ kd So:ao (Key×D),sC[j]?=some (.lh (kd.map (·.1)) (kd.map (·.2)))/\kd.length<sizeLine/\(vN i).map (λk=>dput kd k d)=some So/\N.nx ρ (sC.set j (.lh (So.map (·.1)) (So.map (·.2))))
 |_=>False
def AL (hu:X.A.units+1<cLine)(he:PD X e w)(ho:PD X o wo)(hi:PD X i wi)(hs:swapsWith e (some<|.Subscript o i pos') pos.line X.env=pure false:=by rfl):
 yF X (.Assign [.Subscript o i pos'] e pos) (Wq w wo wi):=(PX hu ho hi he hs).imp λE σ H hq=>by
 refine fF hq λφ ρ μ N A M w L=>?_;refine⟨φ,ρ,μ,_,A,M,w,λd eV fo v1 H1 k1 f1 M1 i1=>⟨fo,ρ,eV,_,A.mono f1,M1,k1,λd2 ik lQ v2 H2 k2 f2 M2 i2=>⟨lQ,ρ,ik,_,A.mono<|f1.trans f2,M2,k2,λd3 sC EN v3 H3 k3 f3 M3 i3=>?_⟩⟩⟩;cases d2 with
 | mr j =>refine jX k3 λkd So em hl ek' k3=>?_;obtain⟨k,ek,rfl⟩:=Option.map_eq_some_iff.mp ek';obtain⟨p,hp,rfl⟩:=i2.mono f3;obtain⟨p',e1,eP,vs,hv,h1,h2,ha⟩:=M3.at_ j _ em;rw[hp]at e1;cases e1;subst h2;cases rQ ek i3;have f4:Fr EN H3 EN (upd H3 p<|.dK<|putK eP k v1):=.put<|ET hp;obtain⟨g1,g2⟩:=D9 ((i1.mono<|f2.trans f3).mono f4) h1<|ha.mono f4;refine⟨p,_,rfl,OA.k hv (by have:=bG List.length h1;rw[jf,jf]at this;lia),?_⟩;have M4:=M3.put (m:=.lh ((dput kd k d).map (·.1)) ((dput kd k d).map (·.2))) hp ⟨putK eP k v1,_,eZ,g1,rfl,g2⟩;exact L.nx ρ _ EN σ _ k3 ((f1.trans<|f2.trans f3).trans f4) (A.mono<|(f1.trans<|f2.trans f3).trans f4) M4
 |_=>exact k3.elim
def Fg:ao V->Hp->VK->Prop:=λvs H Q=>match vs with
 |[.ref a]=>∃ eP,Rd H a (.dK eP)/\∀ p,H p=none->Q (.ref p) (upd H p<|.dK eP)
 |_=>False
def ZI:jg X (.type "dict") Fg:=by
 intro ee s σ H xs us Q I r h;delta Fg at h;split at h
 .rename_i a;refine eS h λeP rd q=>?_;cases r with
  | cons r1 r2 =>cases r2;subst r1;exact NO I rd λp s' hp I'=>⟨.ref p,_,I',rfl,q p hp⟩
 .cases h
end
def W2 (l1 l2:ao Nat)(p:Int):ao Nat:=l1.take p.toNat++l2.drop p.toNat
def QA {l1 l2:ao Nat}{p:Int}(h0:0<=p)(h1:p<=l1.length)(h:l1.length=l2.length):(W2 l1 l2 p).length=l1.length:=by delta W2;rw[mJ,ba,cb];lia
def Vn {l1 l2:ao Nat}{p:Int}(h1:OX l1)(h2:OX l2):OX (W2 l1 l2 p):=λc hc=>by
 rcases List.mem_append.mp hc with q|q
 .exact h1 c (a6 q)
 .exact h2 c (List.mem_of_mem_drop q)
end L2
namespace L2
open PySem PySem.Spec PyProof.Rows PySem.SeqAt
end L2
namespace L2
open PySem PySem.Spec PyProof.Rows
def oX (C:aj)(μ:MS)(k:Nat):aq (ao Str×ao D):=match μ[k]? with|some (.ins C' ns ds)=>if C'=C then some (ns,ds)else none|_=>none
def tZ (h:oX C μ k=some q):μ[k]?=some (.ins C q.1 q.2):=by
 delta oX at h;split at h
 .rename_i C' ns ds e;by_cases z:C'=C
  .rw[aD z]at h;cases h;rw[e,z]
  .rw[az z]at h;cases h
 .cases h
def gO (h:μ[k]?=some (.ins C ns ds)):oX C μ k=some (ns,ds):=by delta oX;rw[h];exact aD rfl
def qg (f:Str):ao Str->ao D->aq D
 |n::ns,d::ds=>if n=f then some d else qg f ns ds
 |_,_=>none
def putN (f:Str)(d:D):ao Str->ao D->ao Str×ao D
 |n::ns,e::ds=>if n=f then(n::ns,d::ds)else(n::(putN f d ns ds).1,e::(putN f d ns ds).2)
 |_,_=>([f],[d])
theorem qQ:∀ {fs:ao (Str×V)} {ds:ao D},fe φ H ds (fs.map (·.2))->qg f (fs.map (·.1)) ds=some d->∃ v,fs.lookup f=some v/\kP φ H d v
 |[],ds,h,e=>by cases ds<;>cases e
 | (n,x)::fs,ds,h,e=>by
  cases ds with
  |nil=>cases e
  | cons d0 ds =>
   let ⟨v,r,e1,h1,h2⟩:=h;obtain⟨rfl,rfl⟩:=e1;simp only[aK,qg]at e;rw[di];by_cases q:n=f
   .rw[aD q]at e;cases e;subst q;exact⟨x,by simp,h1⟩
   .rw[az q]at e;have:(f==n)=false:=beq_eq_false_iff_ne.mpr λz=>q z.symm;simp only[this];exact qQ h2 e
theorem xy:∀ {fs:ao (Str×V)} {ds:ao D},fe φ H ds (fs.map (·.2))->qg f (fs.map (·.1)) ds=none->fs.lookup f=none
 |[],ds,h,e=>rfl
 | (n,x)::fs,ds,h,e=>by
  cases ds with
  |nil=>cases h
  | cons d0 ds =>
   let ⟨v,r,e1,h1,h2⟩:=h;obtain⟨rfl,rfl⟩:=e1;simp only[aK,qg]at e;rw[di];by_cases q:n=f
   .rw[aD q]at e;cases e
   .rw[az q]at e;have:(f==n)=false:=beq_eq_false_iff_ne.mpr λz=>q z.symm;simp only[this];exact xy h2 e
theorem AW (hd:kP φ H d v):∀ {fs:ao (Str×V)} {ds:ao D},fe φ H ds (fs.map (·.2))->(lT f v fs).map (·.1)=(putN f d (fs.map (·.1)) ds).1/\fe φ H (putN f d (fs.map (·.1)) ds).2 ((lT f v fs).map (·.2))
 |[],ds,h=>by cases ds<;>exact⟨rfl,v,[],rfl,hd,rfl⟩
 | (n,x)::fs,ds,h=>by
  cases ds with
  |nil=>cases h
  | cons d0 ds =>
   let ⟨v',r,e1,h1,h2⟩:=h;obtain⟨rfl,rfl⟩:=e1;simp only[lT,aK,putN];by_cases q:n=f
   .rw[aD q,aD q];exact⟨rfl,_,_,rfl,hd,h2⟩
   .rw[az q,az q];obtain⟨i1,i2⟩:=AW hd h2;exact⟨by simp only[aK,i1],_,_,rfl,h1,i2⟩
section
variable {X:Cx}{a b e o:Expr}{es:ao Expr}{pos:Pos}{C:aj}
def dFld (C:aj)(f:Str)(w:De):De:=λρ μ K=>w ρ μ λx eV=>match x with
 |.mr k=>∃ d,(oX C eV k).bind (λq=>qg f q.1 q.2)=some d/\K d eV
 |.obj C' ns ds=>C'=C/\∃ d,qg f ns ds=some d/\K d eV
 |_=>False
def fL (c:wt X.K C)(n:n8 X.K C f)(h:PD X e w)(hb:attributeBase e f X.env (eval e X.env)=eval e X.env:=by rfl):PD X (.Attribute e f pos) (dFld C f w):=(UP h hb).imp λσ H Q hq=>by
 refine fF hq λφ ρ μ K A M k L=>?_;refine⟨φ,ρ,μ,_,A,M,k,λd1 eV fo v1 H1 k1 f1 M1 i1=>?_⟩;cases d1 with
 | mr j =>refine eS k1 λd e1 k1=>?_;refine eS (Option.bind_eq_some_iff.mp e1) λq e2 e3=>?_;obtain⟨p,hp,rfl⟩:=i1;obtain⟨p',e4,dx,fs,h1,h2,h3⟩:=M1.at_ j _<|tZ e2;rw[hp]at e4;cases e4;rw[<- h2]at e3;refine eS (qQ h3 e3) λv l iv=>?_;exact⟨p,C,dx,fs,v,rfl,h1,c,n,l,L _ eV fo v H1 k1 f1 M1 iv⟩
 | obj C' ns ds =>obtain⟨rfl,d,e3,k1⟩:=k1;refine y6 i1 λp dx fs vs fE _ h1 h2 qk h3=>?_;subst fE;subst qk;rw[<- h2]at e3;refine eS (qQ h3 e3) λv l iv=>?_;exact⟨p,_,dx,fs,v,rfl,h1,c,n,l,L _ eV fo v H1 k1 f1 M1 iv⟩
 |_=>exact k1.elim
def ZR (C:aj)(f:Str)(w wo:De):Ds:=λN ρ μ=>w ρ μ λd eV=>wo ρ eV λx ik=>match x with
 |.mr k=>∃ q q':ao Str×ao D,oX C ik k=some q/\putN f d q.1 q.2=q'/\q.1.length<1000/\N.nx ρ (ik.set k<|.ins C q'.1 q'.2)
 |_=>False
def wY (c:wt X.K C)(n:n8 X.K C f)(he:PD X e w)(ho:PD X o wo)(hs:swapsWith e (some<|.Attribute o f pos') pos.line X.env=pure false:=by rfl):yF X (.Assign [.Attribute o f pos'] e pos) (ZR C f w wo) :=
 (UC ho he hs).imp λE σ H hq=>by
 refine fF hq λφ ρ μ N A M k L=>?_;refine⟨φ,ρ,μ,_,A,M,k,λd eV fo v1 H1 k1 f1 M1 i1=>⟨fo,ρ,eV,_,A.mono f1,M1,k1,λd2 ik lQ v2 H2 k2 f2 M2 i2=>?_⟩⟩;cases d2 with
 | mr j =>refine jX k2 λq _ e2 fE hl k2=>?_;subst fE;obtain⟨p,hp,rfl⟩:=i2;obtain⟨p',e4,dx,fs,h1,h2,h3⟩:=M2.at_ j _<|tZ e2;rw[hp]at e4;cases e4;have f4:Fr lQ H2 lQ (upd H2 p<|.ins C dx<|lT f v1 fs):=.put<|ET hp;obtain⟨g1,g2⟩:=AW ((i1.mono f2).mono f4)<|h3.mono f4;rw[h2]at g1 g2;exact⟨p,C,dx,fs,rfl,h1,c,n,by rw[<- h2,jf]at hl;exact hl,L.nx ρ _ lQ σ _ k2 ((f1.trans f2).trans f4) (A.mono<|(f1.trans f2).trans f4)<|M2.put hp ⟨dx,_,eZ,g1,g2⟩⟩
 |_=>exact k2.elim
structure uZ (P:ae)(w:af)(K:aa)(mg:Str->Option ak)(eB:Heap)(C:aj)(m:Str)(k:Nat)(ps:List Str)(sp:Sp):Prop where
 ex:∃ f fd,fA P w K mg eB nr k f fd ps sp/\Meth K C m f/\Binds K fd ps []
def tQ (C:aj)(m:Str)(μ:MS):D->Prop
 |.mr k=>(oX C μ k).map (λq=>qg m q.1 q.2)=some none
 |.obj C' ns es=>C'=C/\qg m ns es=none
 |_=>False
def tP (M:fG φ H μ)(i:kP φ H d v)(h:tQ C m μ d):∃ p dx fs,v=.ref p/\H p=some (.ins C dx fs)/\fs.lookup m=none:=by
 cases d with
 | mr j =>refine eS (Option.map_eq_some_iff.mp h) λq e2 e3=>?_;refine eS i λp hp fE=>?_;subst fE;obtain⟨p',e4,dx,fs,h1,h2,h3⟩:=M.at_ j _<|tZ e2;rw[hp]at e4;cases e4;rw[<- h2]at e3;exact⟨p,dx,fs,rfl,h1,xy h3 e3⟩
 | obj C' ns es =>refine jS h λfE e3=>?_;subst fE;refine y6 i λp dx fs vs0 fE _ h1 h2 qk h3=>?_;subst fE;subst qk;rw[<- h2]at e3;exact⟨p,dx,fs,rfl,h1,xy h3 e3⟩
 |_=>exact h.elim
def NQ (C:aj)(m:Str)(f:ot)(wo:De)(w:DA):De:=λρ μ K=>wo ρ μ λx eV=>tQ C m eV x/\w ρ eV λds ik=>f (x::ds) ik K
def Pe (h:tD (NQ C m f wo w) σ H Q):CF C m (kT f) [] E0 (tD wo) (TZ w) σ H Q:=by refine fF h λφ ρ μ K A M k L=>?_;refine⟨φ,ρ,μ,_,A,M,k,λd1 eV fo v1 H1 k1 f1 M1 i1=>?_⟩;refine tj (tP M1 i1 k1.1) λp dx fs fE h1 h2=>?_;subst fE;refine⟨p,dx,fs,rfl,h1,h2,fo,ρ,eV,_,A.mono f1,M1,k1.2,λds ik lQ vs H2 k2 f2 M2 i2=>?_⟩;show kT f (.ref p::(vs++[])) H2 Q E0;rw[bg];exact⟨lQ,d1::ds,ik,K,⟨_,vs,rfl,kP.mono f2 i1,i2⟩,M2,k2,L.mono<|f1.trans f2⟩
def NJ (CM:uZ X.prog X.w X.K X.mg X.eB C m k ps (kT f))(c:wt X.K C)(hr:iq k X.A)(ho:PD X o wo)(ha:sA X (e::es) w)
 (Cq:starEach (e::es) X.env=(false,eval e X.env)::starEach es X.env:=by rfl) (lU:(backTo pos<|starEach es X.env).any (·.1)=false:=by rfl)
 (ht:eval (.Call (.Attribute o m fZ) (e::es) [] pos) X.env=(do
   let ov <- eval o X.env
   standAt fZ.atName
   let (f,first) <- holding [ov] (getMethod ov m pl)
   callWith pos f first (backTo pos<|starEach (e::es) X.env) (backToKw pos<|keywordEach [] X.env)):=by rfl):
 PD X (.Call (.Attribute o m fZ) (e::es) [] pos) (NQ C m f wo w):=by
 refine fw CM.ex λf' fd F hm hb=>?_;exact(A1 ho c hm F hr hb .nil Dj ha Cq lU ht).imp λσ H Q hq=>Pe hq
def jl (CM:uZ X.prog X.w X.K X.mg X.eB C m k ps (kT f))(c:wt X.K C)(hr:iq k X.A)(ho:PD X o wo)
 (ht:eval (.Call (.Attribute o m fZ) [] [] pos) X.env=(do
   let ov <- eval o X.env
   standAt fZ.atName
   let (f,first) <- holding [ov] (getMethod ov m pl)
   callWith pos f first (backTo pos<|starEach [] X.env) (backToKw pos<|keywordEach [] X.env)):=by rfl):
 PD X (.Call (.Attribute o m fZ) [] [] pos) (NQ C m f wo BP):=by
 refine fw CM.ex λf' fd F hm hb=>?_;refine(Di ho c hm F hr hb .nil Dj ht).imp λσ H Q hq=>?_;refine fF hq λφ ρ μ K A M k L=>?_;refine⟨φ,ρ,μ,_,A,M,k,λd1 eV fo v1 H1 k1 f1 M1 i1=>?_⟩;refine tj (tP M1 i1 k1.1) λp dx fs fE h1 h2=>?_;subst fE;exact⟨p,dx,fs,rfl,h1,h2,fo,[d1],eV,K,⟨_,[],rfl,i1,rfl⟩,M1,k1.2,L.mono f1⟩
structure RK (P:ae)(w:af)(K:aa)(mg:Str->Option ak)(eB:Heap)(x:Str)(C:aj)(k:Nat)(ps:List Str)(sp:Sp):Prop where
 ex:∃ f fd,fA P w K mg eB nr k f fd ps sp/\Mk K C f/\mg x=some (.ref C)/\Binds K fd ps []
def Te (C:aj)(f:ot)(w:DA):De:=λρ μ K=>w ρ μ λds eV=>f (.mr eV.length::ds) (eV++[.ins C [] []]) λd ik=>d=.gw/\K (.mr eV.length) ik
def Pg (h:tD (Te C f w) σ H Q):KZ C (kT f) [] E0 (TZ w) σ H Q:=by
 refine fF h λφ ρ μ K A M k L=>?_;refine⟨φ,ρ,μ,_,A,M,k,λds eV fo vs H1 k1 f1 M1 i1 x dx hx VN ne=>?_⟩;have S1:gT H1 (upd H1 dx<|.own x):=gT.upd VN;have Jy:upd H1 dx (.own x) x=none:=by rwa [e9 (bz ne)]
 have fa:Fr fo H1 fo (upd H1 dx<|.own x):=.same S1;obtain⟨M2,f2⟩:=(M1.same S1).snoc (m:=.ins C [] []) Jy ⟨dx,[],eZ,rfl,rfl⟩;have f3:=fa.trans f2;have QI:kP (fo++[x]) (upd (upd H1 dx<|.own x) x<|.ins C dx []) (.mr eV.length) (.ref x):=⟨x,by rw[ou (M1.len▸au _),M1.len,aO];rfl,rfl⟩;rw[bg];refine⟨fo++[x],.mr eV.length::ds,eV++[.ins C [] []],_,⟨_,vs,rfl,QI,i1.mono f3⟩,M2,k1,λd sC EN v H3 k3 f4 M3 i3=>?_⟩;obtain⟨rfl,k3⟩:=k3;exact⟨i3,L _ sC EN _ H3 k3 ((f1.trans f3).trans f4) M3<|QI.mono f4⟩
def p3 {x:Str}{f:ot}{w:DA}{p:Pos}{k:Nat}{ps:ao Str}(CI:RK X.prog X.w X.K X.mg X.eB x C k ps (kT f))(hr:iq (k+1) X.A)(hg:Gl X x)(ha:sA X (e::es) w)
 (sY:(x==("__debug__" : Str))=false:=by decide) (he:starEach (e::es) X.env=(false,eval e X.env)::starEach es X.env:=by rfl) (lU:(backTo pos<|starEach es X.env).any (·.1)=false:=by rfl):
 PD X (.Call (.Name x p) (e::es) [] pos) (Te C f w):=by
 refine jX CI.ex λf' fd F M hm hb=>?_;exact(A3 M F hr hg hm hb .nil Dj ha sY he lU).imp λσ H Q hq=>Pg hq
def jT {P:ae}{w:af}{K:aa}{mg:Str->aq ak}{eB h:Heap}{x q:Str}{st:Stmt}{f:aj}{fd:ah}{k:Nat}{ps:ao Str}{sp:Sp}(G:K.In h)(N:h.Ns mainGlobals mg)(F:iS K x q st f fd)(ok:fA P w K mg eB nr k f fd ps sp)(hb:Binds K fd ps [])
 (a:W.nsIn K mainGlobals x=some (some<|.ref f):=by kernel_rfl):yw P w K mg eB x k ps sp:=⟨f,fd,ok,bZ G N a,F.kp,hb⟩
def mO {P:ae}{w:af}{K:aa}{mg:Str->aq ak}{eB:Heap}{C:aj}{x q:Str}{st:Stmt}{f:aj}{fd:ah}{k:Nat}{ps:ao Str}{sp:Sp}(F:iS K x q st f fd)(ok:fA P w K mg eB nr k f fd ps sp)(hb:Binds K fd ps [])
 (a:W.findIn K (.ref C) x=some (some<|.ref f):=by kernel_rfl) (i:W.isFn K (.ref f)=true:=by kernel_rfl):uZ P w K mg eB C x k ps sp:=⟨f,fd,ok,⟨a,i,F.kp⟩,hb⟩
def HV {P:ae}{w:af}{K:aa}{mg:Str->aq ak}{eB h:Heap}{C:aj}{y q:Str}{st:Stmt}{f:aj}{fd:ah}{k:Nat}{ps:ao Str}{sp:Sp}(G:K.In h)(N:h.Ns mainGlobals mg)(F:iS K "__init__" q st f fd)(ok:fA P w K mg eB nr k f fd ps sp)(hb:Binds K fd ps [])
 (n:W.nsIn K mainGlobals y=some (some<|.ref C):=by kernel_rfl) (a:W.findIn K (.ref C) "__init__"=some (some<|.ref f):=by kernel_rfl) (i:W.isFn K (.ref f)=true:=by kernel_rfl) (m:W.makesIn K C=true:=by kernel_rfl) (p:W.keepIn K (.ref C)=true:=by kernel_rfl):RK P w K mg eB y C k ps sp:=⟨f,fd,ok,⟨m,a,i,p⟩,bZ G N n,hb⟩
end
def nTk (es:ao Int)(ts:ao Tk)(a:Int)(i j:Nat):ao Nat:=(List.range ts.length).filter λx=>match ts[x]? with
 |some t=>decide (t.2<=a)&&decide (es.getD j 0<=Zr es t.1 (es.getD i 0))
 |none=>false
def midP (T U:Nat->Nat->Int)(i j:Nat):ao Nat:=((List.range<|j - (i+1)).map (i+1+·)).filter λk=>decide (U i k+U k j+1=T i j)
def bmN:ao Str:=["places","rows","tables","whole","counts"]
abbrev At (g:Heap)(b:aj):Prop:=∃ u,g.get? b=some u
structure Kp (g:Heap)(l:List Env)(h h':Heap):Prop where
 other:∀ b o,h.get? b=some o->At g b->b∉zF l->h'.get? b=some o
 slot:∀ b o,h.get? b=some o->At g b->b∈zF l->∃ sl,h'.get? b=some { o with slots:=sl}
def Kp.trans (a:Kp g l h1 h2)(b:Kp g l h2 h3):Kp g l h1 h3 :=
 ⟨λc o q lt hc=>b.other c o (a.other c o q lt hc) lt hc,λc o q lt hc=>by
  refine kZ (a.slot c o q lt hc) λsl e=>?_
  refine kZ (b.slot c _ e lt hc) λXO e'=>?_
  exact⟨XO,e'⟩⟩
def Kp.any (a:Kp g l h h')(q:h.get? b=some o)(lt:At g b):∃ sl,h'.get? b=some { o with slots:=sl}:=by
 by_cases hb:b∈zF l
 .exact a.slot b o q lt hb
 .exact⟨o.slots,a.other b o q lt hb⟩
def Kp.of (k:∀ b o,h.get? b=some o->At g b->h'.get? b=some o):Kp g l h h':=⟨λb o q lt _=>k b o q lt,λb o q lt _=>⟨o.slots,k b o q lt⟩⟩
abbrev Gk (g h:Heap):Prop:=∀ b,At g b->At h b
def Kp.gk (a:Kp g l h h')(k:Gk g h):Gk g h':=λb hb=>by refine kZ (k b hb) λo e=>?_;refine kZ (a.any e hb) λsl e'=>?_;exact⟨_,e'⟩
def Gk.fresh (k:Gk g h):g.get? h.objs.size=none:=by
 cases q:g.get? h.objs.size with
 |none=>rfl
 |some o=>let ⟨o',e⟩:=k _ ⟨o,q⟩;exact absurd (kG e) (bJ _)
def Ie (h:At g b)(hc:g.get? c=none):c≠b:=λz=>by obtain⟨u,e⟩:=h;rw[<- z,hc]at e;cases e
def Cc (g:Heap)(e:aj)(cls fl:ak)(h:Heap):Prop:=∃(oe:Obj) (vs:Array ak) (T:aj) (oT:Obj) (ts:Array ak),(h.get? e=some oe/\oe.cls=cls/\oe.data=.fields vs/\vs[1]?=some (.ref T)/\vs[2]?=some .none)/\(g.get? T=none/\T≠e/\h.get? T=some oT/\oT.data=.fields ts/\ts[3]?=some fl)/\g.get? e=none
section
variable {M:Model}{A:Around}{E:ak->ai->Prop}{s:ai}
def zG
 (MI:A.frames=some (env::eM)) (hl:s.heap.FunFrames eB (env::eM)) (hf:env.frame=some L) (he:s.heap.get? e=some oe) (hd:oe.data=.fields vs) (h1:1<vs.size) (h2:vs[2]?=some .none) (hn:g.get? e=none) (hs:Gk g s.heap)
 (h:∀ h',Cc g e oe.cls (rawInt L) h'->Kp g (env::eM) s.heap h'->Q () {s with heap:=h'}):
 wpAny M A (do let a <- frameOf env;let pl <- entryPlaceOf L aaW;let b <- EntryCells.newEntry head a .none (rawInt L) .none pl;setField (.ref e) 1 b) Q E s:=by
 have hene:e∉(env::eM).filterMap (·.frame):=λhm=>by obtain⟨_,o,ho,hnf⟩:=hl.mem hm;rw[he]at ho;injection ho with ho;subst ho;exact hnf vs hd
 refine fb (wpAny_frameOf_fun MI hl hf λm x=>?_);refine fb (wpAny_entryPlaceOf λpl lU=>?_);refine fb<|bw ?_<|lU.sizeOk5 _ _ _ _ _;obtain⟨rec,VD⟩:∃ rec:Obj,rec={ cls:=.type "traceback",dict:=none,data:=.fields ([head,.ref L,.none,rawInt L,.none]++(if pl.isEmpty then List.replicate 6 Value.none else pl)).toArray}:=⟨_,rfl⟩;rw[<- VD];have e1:=(x.2.1 e hene).trans he;have e2:=kJ rec e1;have hT:(m.push rec).get? m.objs.size=some rec:=aC m (by rw[VD];rfl);have VS:=bh<|kG e1;have Zi:=dE hd (·.setIfInBounds 1 (Value.ref m.objs.size));have e3:=bt (Obj.mapFields (·.setIfInBounds 1 (Value.ref m.objs.size))) e2<|Obj.isFreed_of_fields Zi;refine c8 e2 hd h1 (h _ ⟨_,_,m.objs.size,rec,_,⟨e3,Obj.cls_mapFields _ _,Zi,by simp[h1],by rw[Array.getElem?_setIfInBounds_ne (by decide)];exact h2⟩,⟨x.1▸hs.fresh,VS,?_,by rw[VD],?_⟩,hn⟩ ⟨λb o q lt hb=>?_,λb o q lt hb=>?_⟩)
 .rw[aZ _ _ (bz VS)];exact hT
 .first|(simp;done)|(rcases lU with rfl|⟨_,_,_,_,_,_,_,rfl⟩<;> simp)
 .rw[aZ _ _ (Ie lt hn)];exact kJ _ ((x.2.1 b hb).trans q)
 .obtain⟨sl,q'⟩:=x.2.2 b o q;exact⟨sl,by rw[aZ _ _ (Ie lt hn)];exact kJ _ q'⟩
def FC
 (MI:A.frames=some (env::eM)) (hl:s.heap.FunFrames eB (env::eM)) (hf:env.frame=some L) (he:s.heap.get? e=some oe) (hd:oe.data=.fields vs) (h1:vs[1]?=some .none) (h2:vs[2]?=some .none) (hn:g.get? e=none) (hs:Gk g s.heap)
 (h:∀ h',Cc g e oe.cls (rawInt L) h'->Kp g (env::eM) s.heap h'->Q () {s with heap:=h'}):wpAny M A (noteFrame (.ref e) env) Q E s:=by
 delta noteFrame;simp only[hf];exact fb (aX he hd h1<|zG MI hl hf he hd (Array.getElem?_eq_some_iff.mp h1).1 h2 hn hs h)
def zq
 (MI:A.frames=some (env::eM)) (hl:s.heap.FunFrames eB (env::eM)) (hf:env.frame=some L) (hs:Gk g s.heap) (x:Cc g e cls .none s.heap)
 (h:∀ h',Cc g e cls (rawInt L) h'->Kp g (env::eM) s.heap h'->Q () {s with heap:=h'}):wpAny M A (noteFrame (.ref e) env) Q E s:=by
 obtain⟨oe,vs,T,oT,ts,⟨he,hc,hd,h1,h2⟩,⟨hn,VS,hT,VO,h3⟩,Jz⟩:=x;delta noteFrame;simp only[hf];refine fb<|aX he hd h1<|fb<|aX hT VO h3<|fb<|c8 hT VO (Array.getElem?_eq_some_iff.mp h3).1 ?_;have other:∀ b,b≠T->(s.heap.update T (Obj.mapFields (·.setIfInBounds 3 Value.none))).get? b=s.heap.get? b:=λb hb=>aZ _ _<|bz hb;have ff:=hl.of_keeps λb o q nf=>⟨o,(other b λz=>by rw[z,hT]at q;cases q;exact nf _ VO).trans q,rfl⟩;have k0:Kp g (env::eM) s.heap (s.heap.update T (Obj.mapFields (·.setIfInBounds 3 Value.none))):=Kp.of λb o q lt=>(other b<|bz<|Ie lt hn).trans q;exact zG MI ff hf ((other e<|bz VS).trans he) hd (Array.getElem?_eq_some_iff.mp h1).1 h2 Jz (k0.gk hs) λh' a k=>h h' (hc▸a) (k0.trans k)
def oJ (x:Cc g e cls fl s.heap)
 (h:∀ h',Cc g e cls .none h'->Kp g l s.heap h'->(∀ b o,s.heap.get? b=some o->(∀ vs,o.data≠.fields vs)->h'.get? b=some o)->Q () {s with heap:=h'}):wpAny M A (setFlight (.ref e) none) Q E s:=by
 obtain⟨oe,vs,T,oT,ts,⟨he,hc,hd,h1,h2⟩,⟨hn,VS,hT,VO,h3⟩,Jz⟩:=x;refine fb<|aX he hd h1 ?_;have h3s:=(Array.getElem?_eq_some_iff.mp h3).1;have Zi:=dE VO (·.setIfInBounds 3 ((none:aq aj).elim Value.none λf=>rawInt f));have other:∀ b,b≠T->(s.heap.update T (Obj.mapFields (·.setIfInBounds 3 ((none:aq aj).elim Value.none λf=>rawInt f)))).get? b=s.heap.get? b:=λb hb=>aZ _ _<|bz hb;refine c8 hT VO h3s (h _ ⟨oe,vs,T,_,_,⟨(other e<|bz VS).trans he,hc,hd,h1,h2⟩,⟨hn,VS,bt _ hT<|Obj.isFreed_of_fields Zi,Zi,by simp[h3s]⟩,Jz⟩ (Kp.of λb o q lt=>(other b<|bz<|Ie lt hn).trans q) λb o q nf=>(other b λz=>by rw[z,hT]at q;cases q;exact nf _ VO).trans q)
end
def lW (P:ae)(w:af):Kk:=λeM H s E ev s'=>∃(e:aj) (cls:ak) (H':Hp) (g:Heap),ev=.ref e/\s'.os=s.os/\AllBare s'.gens/\Un (zF eM) [] H H' s.heap s'.heap/\rA P w H' s'.heap/\(Gk s.heap g/\(∀ b,H' b≠none->At g b)/\Gk g s'.heap)/\Cc g e cls .none s'.heap/\E cls none H'
def at_of (x:rA P w H h)(e:H a=some o):At h a:=by
 have x:=x a o e;cases o with
 |lst xs=>let ⟨_,_,_,_,e⟩:=x;exact⟨_,e⟩
 |tup xs=>let ⟨_,_,_,_,e,_⟩:=x;exact⟨_,e⟩
 |dK eP=>let ⟨_,_,_,_,o,_,_,e,_⟩:=x;exact⟨_,e⟩
 |dT eP=>let ⟨_,_,_,_,o,_,_,e,_⟩:=x;exact⟨_,e⟩
 |set S n=>let ⟨o,_,_,_,e,_⟩:=x;exact⟨_,e⟩
 |ins C dx fs=>let ⟨_,_,_,e,_⟩:=x;exact⟨_,e⟩
 |own y=>let ⟨_,e⟩:=x;exact⟨_,e⟩
 |xd fs=>let ⟨_,⟨_,_,_,e,_⟩,_⟩:=x;exact⟨_,e⟩
 |rng lo hi=>let ⟨_,_,_,e⟩:=x;exact⟨_,e⟩
 |vm ob u=>let ⟨e,_⟩:=x;exact⟨_,e⟩
 |RT ps=>exact⟨_,x⟩
 |met f y=>exact⟨_,x⟩
 |ext φ=>let ⟨_,⟨_,e⟩,_⟩:=x;exact⟨_,e⟩
def FR (x:rA P w H h)(hb:∀ b,H b≠none->At g b/\b∉zF l)(k:Kp g l h h'):rA P w H h':=λa o e =>
 (x a o e).uu (λb u MM q=>by
   have hn:H b≠none:=by rcases MM with rfl|z<;>intro y<;>simp_all
   exact k.other b u q (hb b hn).1 (hb b hn).2) (λ_ q=>q) λ_ _ q=>q
def xJ (h:Heap)(e:aj):Heap:=h.update e λ_=>{ cls:=.none,data:=.freed}
def zC (h:Heap)(e:aj):(xJ h e).get? e=none:=by obtain⟨objs,l⟩:=h;show Heap.get? ⟨objs.modify e _,l⟩ e=none;delta Heap.get?;rw[Array.getElem?_modify];rw[aD rfl];cases objs[e]?<;>rfl
def Hv {h:Heap}{e b:aj}(n:b≠e):(xJ h e).get? b=h.get? b:=aZ _ _ (bz n)
section
variable {X:Cx}{ee:ao (aj×Obj)}{σ:St}{H H':Hp}{s:ai}{g h1 h2:Heap}{e:aj}
def Inv.FE (I:Inv X ee σ H s)(hx:X.ex=[])(n:s.heap.get? e=none):H e=none/\X.s₀.heap.get? e=none/\e≠X.env.locals/\(∀ y a,X.env.cells.lookup y=some a->a≠e)/\∀ p∈X.pn++ee,p.1≠e:=by
 have no:∀ b o,s.heap.get? b=some o->b≠e:=λb o q z=>by rw[z,n]at q;cases q
 refine⟨?_,?_,?_,λy a q=>?_,λp hp=>no _ _ (I.pin p hp).1⟩
 .cases q:H e with
  |none=>rfl
  |some o=>obtain⟨u,z⟩:=at_of I.fB q;rw[n]at z;cases z
 .cases q:X.s₀.heap.get? e with
  |none=>rfl
  |some o=>obtain⟨u,z⟩:=I.eB.there e o q (by rw[hx];intro z;cases z);rw[n]at z;cases z
 .obtain⟨m,⟨o,_,_,q,_⟩,_⟩:=I.loc;exact(no _ _ q).symm
 .obtain⟨v,o,q,_⟩:=I.cell y a q;exact no _ _ q
def Inv.exit (I:Inv X ee σ H s)(hx:X.ex=[])(u:Un (zF X.stack) [] H H' s.heap h1)(Tn:∀ b o,X.s₀.heap.get? b=some o->At g b)(k:Kp g X.stack h1 h2):Un X.fs [] X.H₀ H' X.s₀.heap h2:=by
 have nx:∀ b,b∉X.ex:=λb z=>by rw[hx]at z;cases z
 have nn:∀ b:aj,b∉([]:ao aj):=λb z=>by cases z
 refine⟨λb o e n hb _=>?_,λb o e n hb _=>?_,λb o e n _=>?_,λb o e _=>?_,λb xs e=>u.sD b xs<|I.eB.sD b xs e,λb o xs e=>u.sd b o xs<|I.eB.sd b o xs e,λb ps e=>?_⟩
 .have e1:=I.eB.keep b o e n hb<|nx b;have n1:=I.eB.free b o e n<|nx b;have hs:b∉zF X.stack:=λz=>by
   rcases List.mem_cons.mp (I.wG b z)with y|y
   .exact absurd y (aF<|aL (kG e) I.ok.above)
   .exact hb y
  exact k.other b o (u.keep b o e1 n1 hs<|nn b) (Tn b o e) hs
 .refine kZ (I.eB.slot b o e n hb<|nx b) λsl e1=>?_;have n1:=I.eB.free b o e n<|nx b;refine kZ (u.any e1 n1<|nn b) λsl2 e2=>?_;refine kZ (k.any e2<|Tn b o e) λsl3 e3=>?_;exact⟨sl3,e3⟩
 .refine kZ (I.eB.there b o e<|nx b) λo' e1=>?_;exact u.free b o' e1 (I.eB.free b o e n<|nx b) (nn b)
 .refine kZ (I.eB.there b o e<|nx b) λo' e1=>?_;refine kZ (u.there b o' e1<|nn b) λo2 e2=>?_;obtain⟨sl,e3⟩:=k.any e2<|Tn b o e;exact⟨_,e3⟩
 .obtain⟨m1,e1⟩:=I.eB.sE b ps e;obtain⟨m2,e2⟩:=u.sE b _ e1;exact⟨m1++m2,by rw[e2,Array.append_assoc]⟩
end
section
variable {P:ae}{w:af}{K:aa}{mg:Str->aq ak}{eB:Heap}{N:ao Str}{qual:Str}{scope:Scope}{f:aj}{cd:ak}{A:Around}{eM:ao Env}{s₀ s:ai}{H₀ H:Hp}{E:XK}{ee:ao (aj×Obj)}{σ:St}
def Zq:Passes (lW P w) (px (lW P w) P w K mg eB N qual scope f cd A eM s₀ H₀ E) E:=λee σ H s ev s' I c=>by
 obtain⟨e,cls,H',g,rfl,os,bare,un,fB,⟨g1,g2,g3⟩,ex,hE⟩:=c;have I2:=I.zP (s':=s') os un fB bare (λb z=>absurd z<|by simp);have MI:=I.ok.frames;refine fb (zq MI I2.stack rfl g3 ex λh1 x1 k1=>oJ (l:=envOfC qual scope s₀.heap.objs.size f cd::eM) x1 λh2 x2 k2 _=>?_);have k:=k1.trans k2;exact⟨e,cls,H',g,rfl,os.trans I.os,bare,I.exit rfl un (λb o q=>g1 b (let ⟨o',z⟩:=I.eB.there b o q (by simp[px]);⟨o',z⟩)) k,FR fB (λb hb=>⟨g2 b hb,λz=>hb<|I2.rH b z⟩) k,⟨λb hb=>by
  refine kZ hb λo e0=>?_
  refine kZ (I.eB.there b o e0<|by simp[px]) λo' e1=>?_
  exact g1 b ⟨o',e1⟩,g2,k.gk g3⟩,x2,hE⟩
def RH (X:Cx)(H:Hp)(h:Heap)(e:aj)(cls:ak):Prop:=H e=none/\X.s₀.heap.get? e=none/\∃ oe vs,h.get? e=some oe/\oe.cls=cls/\oe.data=.fields vs/\vs[1]?=some .none/\vs[2]?=some .none
def RH.of {X:Cx}(I:Inv X ee σ H s)(hx:X.ex=[])(x:Heap.MadeExcOf s.heap h' e cls vs):RH X H h' e cls:=let ⟨n1,n2,_⟩:=I.FE hx x.new;let ⟨_,he,_,_⟩:=x.there;⟨n1,n2,_,_,he,rfl,rfl,rfl,rfl⟩
def raises (I:Inv (px (lW P w) P w K mg eB N qual scope f cd A eM s₀ H₀ E) ee σ H s)(x:RH (px (lW P w) P w K mg eB N qual scope f cd A eM s₀ H₀ E) H s.heap e cls)(hE:E cls none H):(px (lW P w) P w K mg eB N qual scope f cd A eM s₀ H₀ E).xe (.ref e) s:=by
 have MI:=I.ok.frames;obtain⟨n1,n0,oe,vs,he,rfl,hd,v1,v2⟩:=x;have ff:=I.stack;have gk:Gk (xJ s.heap e) s.heap:=λb ⟨o,q⟩=>by
  by_cases z:b=e
  .rw[z,zC]at q;cases q
  .exact⟨o,by rwa [Hv z]at q⟩
 have ag:∀ b,b≠e->At s.heap b->At (xJ s.heap e) b:=λb z MC=>by obtain⟨o,q⟩:=MC;exact⟨o,(Hv z).trans q⟩
 have b0:∀ b o,s₀.heap.get? b=some o->At (xJ s.heap e) b:=λb o q=>ag b (λz=>by rw[z]at q;rw[show s₀.heap.get? e=none from n0]at q;cases q) (let ⟨o',q'⟩:=I.eB.there b o q (by simp[px]);⟨o',q'⟩);have hH:∀ b,H b≠none->At (xJ s.heap e) b:=λb hb=>by
  cases q:H b with
  |none=>exact absurd q hb
  |some o=>exact ag b (λz=>hb<|z▸n1) (at_of I.fB q)
 refine fb (FC MI ff rfl he hd v1 v2 (zC _ _) gk λh1 x1 k1=>?_);refine oJ (l:=envOfC qual scope s₀.heap.objs.size f cd::eM) x1 λh2 x2 k2 _=>?_;have k:=k1.trans k2;exact⟨e,_,H,xJ s.heap e,rfl,I.os,I.bare,I.exit rfl (Un.eI λ_ _ q=>q) b0 k,FR I.fB (λb hb=>⟨hH b hb,λz=>hb<|I.rH b z⟩) k,⟨λb MB=>by obtain⟨o,q⟩:=MB;exact b0 b o q,hH,k.gk gk⟩,x2,hE⟩
end
abbrev DX:=ak->MS->Prop
def tw (φ:ao aj)(H:Hp)(Kx:DX)(E:XK):Prop:=∀ c fj fO H',Kx c fj->Fr φ H fO H'->fG fO H' fj->E c none H'
def tw.mono (h:tw φ H Kx E)(f:Fr φ H fo H1):tw fo H1 Kx E:=λc fj fO H' k g M=>h c fj fO H' k (f.trans g) M
abbrev jc:=ao D->MS->DK->DX->Prop
def iD (f:jc):Sp:=λvs H Q E=>∃ φ ds μ K Kx,fe φ H ds vs/\fG φ H μ/\f ds μ K Kx/\uW φ H K Q/\tw φ H Kx E
structure mG (P:ae)(w:af)(K:aa)(mg:Str->Option ak)(eB:Heap)(x:Str)(k:Nat)(ps:List Str)(sp:Sp):Prop where
 ex:∃ f fd,fA P w K mg eB (lW P w) k f fd ps sp/\mg x=some (.ref f)/\W.keepIn K (.ref f)=true/\Binds K fd ps []
structure Rz (X:Cx)(fi:List aj)(H0:Hp)(Kx:DX):Prop where
 ex:∃ E:XK,tw fi H0 Kx E/\Passes (lW X.prog X.w) X E
structure Rm (X:Cx)(fi:List aj)(H0:Hp)(Kx:DX):Prop where
 ex:∃ E:XK,tw fi H0 Kx E/\Passes (lW X.prog X.w) X E/\X.ex=[]/\∀(ee:List (aj×Obj)) (σ:St) (H:Hp) (s:ai) (e:aj) (cls:ak),Inv X ee σ H s->RH X H s.heap e cls->E cls none H->X.xe (.ref e) s
def Rm.z (h:Rm X fi H0 Kx):Rz X fi H0 Kx:=let ⟨E,a,b,_⟩:=h.ex;⟨E,a,b⟩
def fG.Bl (M:fG φ H μ)(e:μ[0]?=some (.gx fi H0)):Fr fi H0 φ H:=let ⟨_,_,h⟩:=M.at_ 0 _ e;h.1
def zd.nt (h:zd φ H m p)(zs:ao V):H p≠some (.tup zs):=λe=>by
 cases m with
 |box=>let ⟨q,ns,i,r,z,h1,_⟩:=h;rw[e]at h1;cases h1
 |lst ds=>let ⟨vs,h1,_⟩:=h;rw[e]at h1;cases h1
 |lh ks ds=>let ⟨eP,vs,h1,_⟩:=h;rw[e]at h1;cases h1
 |se o eP ds=>have h1:=h.1;rw[e]at h1;cases h1
 |ins C ns ds=>let ⟨dx,fs,h1,_⟩:=h;rw[e]at h1;cases h1
 |QT ks ds=>let ⟨eP,h1,_⟩:=h;rw[e]at h1;cases h1
 |gx fi H0=>exact h.2.2.2 zs e
 |exc c=>rw[show _=_ from h]at e;cases e
 |y3 C ns ds=>let ⟨dx,t,fs,h1,_⟩:=h;rw[e]at h1;cases h1
def fG.ghost (M:fG φ H μ)(e:μ[0]?=some m):fG φ H (μ.set 0<|.gx φ H):=by
 have h0:=(mW e).1;refine⟨M.nd,by rw[aR];exact M.len,λk n en=>?_⟩;by_cases hk:k=0
 .subst hk;rw[aJ h0]at en;cases en;refine eS (M.at_ 0 m e) λp e1 e2=>?_;exact⟨p,e1,.refl _ _,rfl,e2.ex,e2.nt⟩
 .rw[aA (bz hk)]at en;exact M.at_ k n en
def fG.back (M:fG φ H μ)(e:μ[0]?=some m)(M':fG fO H' fj)(e':fj[0]?=some (.gx φ H)):fG fO H' (fj.set 0 m):=by
 have h0:=(mW e').1;refine⟨M'.nd,by rw[aR];exact M'.len,λk n en=>?_⟩;by_cases hk:k=0
 .subst hk;rw[aJ h0]at en;cases en;refine JP (M'.at_ 0 _ e') λp' e1 f hp _=>?_;refine eS (M.at_ 0 m e) λp e2 im=>?_;have:=f.get e2;rw[e1]at this;cases this;exact⟨p',e1,im.mono f λo q=>hp.trans q⟩
 .rw[aA (bz hk)]at en;exact M'.at_ k n en
def gK (fi:ao aj)(H0:Hp)(m:MO)(K:DK):DK:=λd fj=>fj[0]?=some (.gx fi H0)/\K d (fj.set 0 m)
def gX (fi:ao aj)(H0:Hp)(m:MO)(K:DX):DX:=λc fj=>fj[0]?=some (.gx fi H0)/\K c (fj.set 0 m)
def uW.ghost {K:DK}(L:uW φ H K Q)(M:fG φ H μ)(e:μ[0]?=some m):uW φ H (gK φ H m K) Q:=λd fj fO v H' ⟨e',k⟩ f M' i=>L d _ fO v H' k f (M.back e M' e') i
def tw.ghost {K:DX}(L:tw φ H K Q)(M:fG φ H μ)(e:μ[0]?=some m):tw φ H (gX φ H m K) Q:=λc fj fO H' ⟨e',k⟩ f M'=>L c _ fO H' k f (M.back e M' e')
section
variable {X:Cx}{e:Expr}{es:ao Expr}{pos:Pos}{fi:ao aj}{H0:Hp}{Kx:DX}
def NW (fi:ao aj)(H0:Hp)(Kx:DX)(f:jc)(w:DA):De:=λρ μ K=>w ρ μ λds eV=>eV[0]?=some (.gx fi H0)/\f ds eV K Kx
def ir (Z:Rz X fi H0 Kx)(C:mG X.prog X.w X.K X.mg X.eB x k ps (iD f))(hr:iq k X.A)(hg:Gl X x)(ha:sA X (e::es) w)
 (sY:(x==("__debug__" : Str))=false:=by decide) (he:starEach (e::es) X.env=(false,eval e X.env)::starEach es X.env:=by rfl) (lU:(backTo pos<|starEach es X.env).any (·.1)=false:=by rfl):
 PD X (.Call (.Name x p) (e::es) [] pos) (NW fi H0 Kx f w):=by
 refine eS Z.ex λE LX hp=>?_;refine jX C.ex λf' fd F hm hk hb=>?_;exact(Hg F hr hg hm hk hb .nil hp ha sY he lU).imp λσ H Q h_=>fF h_ λφ ρ μ K Ee M w L =>⟨φ,ρ,μ,_,Ee,M,w,λds eV fo vs H1 k1 f1 M1 i1=>by show iD f (vs++[]) H1 Q E;rw[bg];exact⟨fo,ds,eV,K,Kx,i1,M1,k1.2,L.mono f1,LX.mono<|M1.Bl k1.1⟩⟩
def We (fi:ao aj)(H0:Hp)(Kx:DX)(C:aj)(w:DA):Ds:=λ_ ρ μ=>w ρ μ λds eV=>ds.length<=sizeLine/\eV[0]?=some (.gx fi H0)/\Kx (.ref C) eV
def gD {bmN:ao ak}(Z:Rm X fi H0 Kx)(hc:X.gE=true)(O:OwnCls x C bm newId X.mg X.eB)(Fn:ExcBaseFacts Bn newId inN bmN)(W8:bm.contains (.type Bn)=true)
 (FB:ExcBaseFacts B nid FN bm) (hg:Gl X x) (ha:sA X (e::es) w) (hd:(x==("__debug__" : Str))=false:=by decide)
 (he:starEach (e::es) X.env=(false,eval e X.env)::starEach es X.env:=by rfl) (lU:(backTo fW<|starEach es X.env).any (·.1)=false:=by rfl):
 yF X (.Raise (some<|.Call (.Name x np) (e::es) [] fW) none pos) (We fi H0 Kx C w):=λee s σ H D I hq=>by
 refine fF hq λφ ρ μ N A M k L=>?_;refine JP Z.ex λE LX hp hX mk=>?_;obtain⟨tl,Na,nm,q,bs,hdct,sn,sub,ab,col,dd,k0,k1,k2,k3,k5,mN,hC,hN,ME,T⟩:=O.obj;refine wpAny_Raise_call_subU (nm:=nm) (q:=q) (N:=Na) (bs:=bs) (hdct:=hdct) (sn:=sn) (sub:=sub) (ab:=ab) (col:=col) (dd:=dd) (k0:=k0) (k1:=k1) (k2:=k2) (k3:=k3) (k5:=k5)
  Fn W8 FB (T.hasType FB.hasBase) (I.ok.hd hc) (by rw[he];show(false||(backTo fW<|starEach es X.env).any (·.1))=false;rw[lU];rfl) ME (lg I hg O.bound ⟨rfl,?_⟩ hd)
 have h:=ha fW ee s σ H (λvs H1=>vs.length<=sizeLine/\E (.ref C) none H1) I ⟨φ,ρ,μ,_,A,M,k,λds eV fo vs H1 k1 f1 M1 i1=>⟨i1.len▸k1.1,LX (.ref C) eV fo H1 k1.2.2 (M1.Bl k1.2.1) M1⟩⟩;rw[he]at h ⊢
 refine cE (bf h (λus s2 h_=>fw h_ λvs H1 I1 r1 q1=>⟨rfl,r1.length▸q1.1,I1.bk _ _ hC,hN.keeps I1.bk,T.keeps I1.bk,λh' e' mx=>mk ee σ H1 _ e' _ (I1.eI (t':=s2.toks) mx.keeps) (.of I1 hX mx) q1.2⟩) λ_ _ y=>y)
end
def FX (n:Nat)(K:DX):DX:=λc fj=>K c fj\/((∀(j:Nat) (m:MO),j<n->fj[j]?=some m->zt n m)/\K c (fj.take n))
def tw.fx {K:DX}(M:fG φ H μ)(L:tw φ H K E):tw φ H (FX μ.length K) E:=λc fj fO H' k f M'=>by
 rcases k with k|⟨hm,k⟩
 .exact L c fj fO H' k f M'
 .have EU:fO.take μ.length=φ:=by obtain⟨⟨ψ,rfl,_⟩,_,_⟩:=f;rw[<- M.len,aV]
  have f0:Fr φ H (fO.take μ.length) H':=by rw[EU];exact⟨⟨[],by simp,λ_ h=>nomatch h⟩,f.keep,f.dom⟩
  exact L c _ _ H' k f0 (M'.kN hm)
section
variable {P:ae}{w:af}{K:aa}{mg:Str->aq ak}{eB:Heap}
def iS.o5 {x qual:Str}{st:Stmt}{f:aj}{fd:ah}{N ps:ao Str}{k:Nat}{fs:jc}(F:iS K x qual st f fd)(S:eR N ps (eG st))(len:∀ ds μ Kd Kx,fs ds μ Kd Kx->ds.length=ps.length/\∃ m,μ[0]?=some m)
 (qW:∀(hZ:ak) (A:Around) (eM:ao Env) (s:ai) (H:Hp) (E:XK),iq k (A.deeper<|envOfC qual (eG st) s.heap.objs.size f hZ)->∀(fi:ao aj) (Kb:DX),Rm (px (lW P w) P w K mg eB N qual (eG st) f hZ A eM s H E) fi H Kb ->
   ∃ W,zc (px (lW P w) P w K mg eB N qual (eG st) f hZ A eM s H E) (iI st) W/\∀ ds μ m Kd Kx,(∀(j:Nat) (m':MO),(μ.set 0<|.gx fi H)[j]?=some m'->zt (μ.set 0<|.gx fi H).length m')->r6 (μ.set 0<|.gx fi H).length ds->μ[0]?=some m->fs ds μ Kd Kx->Kb=FX (μ.set 0<|.gx fi H).length (gX fi H m Kx) ->
    W (AQ (μ.set 0<|.gx fi H).length<|gK fi H m Kd) (oS N ds) (μ.set 0<|.gx fi H)):fA P w K mg eB (lW P w) (k+1) f fd ps (iD fs):=by
 obtain⟨oc,od,kV,doc,pm,an,hZ,ct,OL,rfl,lk,yY⟩:=F.ex
 refine SJ lk yY S (λvs H Q E h=>?_) λA eM s H vs Q E hr Kq=>?_
 .refine ZD h λφ ds μ Kd Kx ha M hf L LX=>?_;rw[ha.len];exact(len ds μ Kd Kx hf).1
 .refine ZD Kq λφ ds μ Kd Kx ha M hf L LX=>?_;obtain⟨_,m,em⟩:=len ds μ Kd Kx hf;have Mg:=M.ghost em;have Lg:=(L.ghost M em).fz Mg;refine eS (qW hZ A eM s H E hr φ (FX (μ.set 0<|.gx φ H).length<|gX φ H m Kx) ⟨E,(LX.ghost M em).fx Mg,Zq,rfl,λee σ H' s' e cls I x hE=>raises I x hE⟩) λW hW q=>?_;exact⟨_,hW,φ,oS N ds,μ.set 0<|.gx φ H,AQ (μ.set 0<|.gx φ H).length<|gK φ H m Kd,.start ha,Mg,q ds μ m Kd Kx Mg.bound (Mg.len▸ha.bound) em hf rfl,⟨λjV fj fO gL H' k' f' A' M'=>Lg .gw fj fO .gw H' k' f' M' rfl,Lg,λ_ _ _ _ _ k' _ _ _=>k'.elim,λ_ _ _ _ _ k' _ _ _=>k'.elim⟩⟩
end
def y4:entryFor table "proto.unchain"=some Builtin.«proto.unchain»:=entryFor_of_tree (by kernel_rfl)
section
variable {prog:ae}{w:af}{A:Around}{E:ak->ai->Prop}{s:ai}
def AR {α:Type}{e h:aj}{oh oe:Obj}{vs ws:Array ak}{Q:α->ai->Prop}(hh:A.handled=some (.ref h))(Jz:h≠e)(ho:s.heap.get? h=some oh)(hd:oh.data=.fields vs)(h2:vs[2]?=some .none)(he:s.heap.get? e=some oe)(hde:oe.data=.fields ws)(h2e:2<ws.size)
 (hE:E (.ref e) {s with heap:=s.heap.update e (Obj.mapFields (·.setIfInBounds 2 (.ref h)))}):wpAny (model prog w) A (raiseNew (.ref e):Sem α) Q E s:=by
 delta raiseNew;refine fb<|wpAny_handled ?_;rw[hh];dsimp only;rw[aD (show(Value.ref h != Value.ref e)=true from by simp[Jz])];refine fb<|bo<|wpAny_runValue<|codeAny_builtin y4 ?_;delta Builtin.«proto.unchain»
 refine fb<|aX ho hd h2 ?_;rw[aD (by decide)];refine fb<|av<|av ?_;exact fb (show wpAny _ _ (setField (.ref e) 2<|.ref h) _ _ _ from c8 he hde h2e (wpAny_throw hE))
def Fd {it h:aj}{oh:Obj}{vs:Array ak}{x left step:Int}{Q:aq ak->ai->Prop}(hh:A.handled=some (.ref h))(ho:s.heap.get? h=some oh)(hd:oh.data=.fields vs)(h2:vs[2]?=some .none)(hit:IsRangeIter s.heap it x left step)(Y9:left<=0)
 (hQ:∀ h',(∀ b o,s.heap.get? b=some o->h'.get? b=some o)->Q none {s with heap:=h'}):wpAny (model prog w) A (pyNext<|.ref it) Q E s:=by
 have hT:s.TypeIs (.ref it) "range_iterator":=⟨_,hit,rfl⟩;delta pyNext;refine fb (wpAny_attempt (bS (name:=Str.ofString "__next__") hT F.slot_range_iterator_next
  (cw F.slot_range_iterator_next hT F.entry_range_iterator_next ?_<|F.args_range_iterator_next_1 _)))
 show wpAny _ _ (field (.ref it) 0>>=_) _ _ s;refine fb<|aX hit rfl (x:=rawInt x) rfl ?_;refine fb<|aX hit rfl (x:=rawInt left) rfl ?_;refine fb<|aX hit rfl (x:=rawInt step) rfl ?_;show wpAny _ _ (if left<=0 then _ else _) _ _ s;rw[aD Y9];refine fb<|wpAny_rule<|fb ?_;refine fb ?_;refine fb (bw ?_<|by size_fits);refine fb (m:=firstArgMember _ _) (dN (a:=Value.none) (by first|rfl|(simp only[firstArgMember];rfl)) ?_);refine bw ?_ (by size_fits);obtain⟨g,hg⟩:∃ g,g=s.heap.push { cls:=Value.type "tuple",data:=Data.seq #[]}:=⟨_,rfl⟩;rw[<- hg];have k1:∀ b o,s.heap.get? b=some o->g.get? b=some o:=λb o e=>hg▸kJ _ e;have k2:=λb o (e:g.get? b=some o)=>kJ (h:=g) { cls:=Value.type "StopIteration",data:=Data.fields (#[Value.ref s.heap.objs.size,Value.none,Value.none,Value.none,Value.bool false,Value.none]++ownMembersOf (Value.type "StopIteration") [])} e;have ne:h≠g.objs.size:=aF<|kG<|k1 _ _ ho;have eN:=aC g (o:={ cls:=Value.type "StopIteration",data:=Data.fields (#[Value.ref s.heap.objs.size,Value.none,Value.none,Value.none,Value.bool false,Value.none]++ownMembersOf (Value.type "StopIteration") [])}) rfl;refine AR (s:={s with heap:=g.push _}) (hh:=hh) ne (k2 _ _<|k1 _ _ ho) hd h2 eN rfl (by rw[Array.size_append];show 2<6+_;lia) ?_;refine fb<|wpAny_isInstance (T:= "StopIteration") (b:=true) ⟨_,bt _ eN rfl,rfl⟩ isSubtype_stop ?_;exact av (hQ _ λb o e=>by
  have e2:=k2 _ _ (k1 _ _ e)
  rw[aZ _ _ (bh<|kG<|k1 _ _ e)]
  exact e2)
end
structure RI (K:aa)(C:aj):Prop where
 cl:(W.clsIn K C).isSome=true
 ga:W.findIn K (.ref C) "__getattribute__"=some (some<|.builtin "BaseException.__getattribute__")
 gn:W.findIn K (.ref C) "__getattr__"=some none
 ca:W.findIn K (.ref C) "__class__"=some (some<|.builtin "object.__class__")
 cg:W.specialIn K (.builtin "object.__class__") "__get__"=some (some<|.builtin "getset_descriptor.__get__")
 ct:W.takesIn K (.builtin "object.__class__")=some true
 mo:W.mroIn K C (.type "object")=some true
 mb:W.mroIn K C (.type "BaseException")=some true
section
variable {prog:ae}{w:af}{A:Around}{E:ak->ai->Prop}{s:ai}{K:aa}{e C:aj}{oe:Obj}
def GB {R:Result->ai->Prop}{tp:ak}(X:K.In s.heap)(he:s.heap.get? e=some oe)(hc:oe.cls=.ref C)(hm:W.mroIn K C (.type "object")=some true)
 (h:R (.ok<|.ret<|.ref C) s):codeAny (model prog w) A (.call (.builtin "getset_descriptor.__get__") ⟨[.builtin "object.__class__",.ref e,tp],[]⟩) R s:=by
 obtain⟨hh,g,dr,t,os⟩:=s;have L0:W.Looks (model prog w) hh (typeOf<|.ref e) (.ref C):=hc▸(W.Looks.ld he).andThen .now;have L1:=W.looks_mroIn (M:=model prog w) X hm;refine dc W.KF.slot_gs.plain W.KF.entry_gs<|W.KF.slot_gs.check _ _ _ _ _ _ _ _ W.KF.type_class (W.KF.args_gs _ _ _) ?_;unfold Builtin.«getset_descriptor.__get__» Builtin.Getset_descriptor.descrGet;rw[W.dga_obj];refine fb<|av ?_;unfold Builtin.Getset_descriptor.descrGetter Builtin.Getset_descriptor.descrCheckInstance Builtin.Getset_descriptor.descrNameAndClass isInstance;simp only[W.KF.owner_class];repeat lk
 refine⟨Code.quiet_builtin _<|by decide +kernel,codeAny_builtin W.KF.entry_class ?_⟩;unfold Builtin.«object.__class__» shownTypeOf;repeat lk
 exact h
def JK {Q:aq ak->ai->Prop}(X:K.In s.heap)(he:s.heap.get? e=some oe)(W7:oe.cls=.ref C)(f:RI K C)(h:Q (some<|.ref C) { s with toks:=s.toks+1}):wpAny (model prog w) A (getAttr? (.ref e) "__class__") Q E s:=by
 obtain⟨hh,g,d,t,os⟩:=s;have L0:W.Looks (model prog w) hh (typeOf<|.ref e) (.ref C):=W7▸(W.Looks.ld he).andThen .now;have L1:=de (M:=model prog w) X f.ga;have L2:=de (M:=model prog w) X f.gn;have L3:W.Looks (model prog w) hh (Builtin.ObjectAttr.find (.ref e) (.ref C) "__class__") (.bind (.builtin "getset_descriptor.__get__")<|.builtin "object.__class__") :=
  (de X f.ca).andThen ((W.looks_specialIn X f.cg).andThen<|(show W.Looks (model prog w) hh (Builtin.ObjectAttr.dataDescriptor? (some<|.builtin "object.__class__")<|some<|.builtin "getset_descriptor.__get__") (some (.builtin "getset_descriptor.__get__",.builtin "object.__class__"))from(W.looks_takesIn X f.ct).andThen .now).andThen<|W.Looks.tag .now)
 have LB:=W.looks_mroIn (M:=model prog w) X f.mb;unfold getAttr? getAttrBy? getAttrBy;refine fb<|wpAny_mkText<|fb<|wpAny_attempt<|bo<|fb<|L0.at<|fb<|L1.at ?_;show wpAny _ _ (getAttrByItsOwn _ _ _ _ _ _) _ _ _;unfold getAttrByItsOwn;refine fb<|show wpAny _ _ (typeLookup (.ref C) "__getattr__") _ _ _ from L2.at ?_;refine fb<|wpAny_attempt<|bo ?_;show wpAny _ _ (boundAndCalled _ _ _) _ _ _;unfold boundAndCalled;have ga:=PySem.F.attr_ValueError.ga;refine fb<|dN (ga.bind<|.ref e)<|dz<|dc ga.plain F.entry_bexc_ga ?_;have LI:W.Looks (model prog w) hh (isInstance (.ref e)<|.type "BaseException") true:=L0.andThen LB;have hk:builtinKind "BaseException.__getattribute__"=some .slot:=by decide +kernel
 have FO:splitId "BaseException.__getattribute__"=some ("BaseException","__getattribute__"):=by decide +kernel
 have ha:=F.args_bexc_ga (.ref e)<|.str "__class__" t;show wpAny _ _ (checkBuiltinCall "BaseException.__getattribute__" ⟨[.ref e,.str "__class__" t],[]⟩) _ _ _;simp only[checkBuiltinCall,hk,FO];refine fb<|LI.at ?_;simp only[if_true,Bool.not_true,cz,dQ];refine dN ha ?_;show wpAny _ _ (Builtin.«object.__getattribute__» ⟨[.ref e,.str "__class__" t],[]⟩) _ _ _;unfold Builtin.«object.__getattribute__»
 refine fb<|av<|fb<|av<|fb<|L0.at<|fb<|L3.at ?_;show wpAny _ _ (holding [Value.builtin "object.__class__"] (call (.builtin "getset_descriptor.__get__") [.builtin "object.__class__",.ref e,.ref C])>>=λv=>ret v) _ _ _;refine fb<|bo<|dz<|GB X he W7 f.mo ?_;refine av ?_;exact W.handed_on rfl (av h)
def Mi (f:RI K C):W.KitX K (.ref e) (.ref C) (λh=>∃ oe,h.get? e=some oe/\oe.cls=.ref C) where
 ty:=λ_ _ _ MA=>by obtain⟨_,he,hc⟩:=MA;exact hc▸(W.Looks.ld he).andThen .now
 it:=λ_ _ X _=>by
  obtain⟨cdD,JE⟩:=Option.isSome_iff_exists.mp f.cl;unfold W.clsIn at JE;split at JE
  .rename_i c' d' cd' XO ho;intro A' Q' E' s' k q;unfold isType loadHead;exact fb (wpAny_loadPart (k _ _<|X _ _ ho)<|av q)
  .cases JE
 ne:=λh tp dd fu n sl X htp=>by
  obtain⟨cdD,JE⟩:=Option.isSome_iff_exists.mp f.cl;refine Bool.eq_false_iff.mpr λq=>?_;have e:C=tp:=Value.ref.inj<|beq_iff_eq.mp q;subst e;unfold W.clsIn at JE;split at JE
  .rename_i c' d' cd' XO ho;have z:=(X _ _ ho).symm.trans htp;cases z
  .cases JE
 ca:=λX ⟨_,he,hc⟩ k=>JK X he hc f k
def JJ {h:Heap}{g:Array GenState}{d:Drawn}{t:Nat}{os:OsState}{B:aj}{Q:Bool->ai->Prop}{nB qB nC qC:Str}{NB NC:aj}{bsB EV bsC Xd:ao ak}{hdB hdC:Bool}{snB snC:ao Str}{subB Iy:ao ak}{abB abC:Bool}{Ri Rh:aq Bool}{ddB ddC:aq aj}{b0 b1 b2 b3 b5 c0 c1 c2 c3 c5:aq ak}{idB idC:String}
 (hB:h.get? B=some (excClassObj nB qB B NB bsB EV hdB snB subB abB Ri ddB b0 b1 b2 b3 b5 idB)) (hC:h.get? C=some (excClassObj nC qC C NC bsC Xd hdC snC Iy abC Rh ddC c0 c1 c2 c3 c5 idC)) (he:h.get? e=some oe) (VP:oe.cls=.ref C)
 (hbB:EV.contains (.type "BaseException")=true) (QI:(Value.ref C::Xd).contains (.ref B)=true) (hq:Q true ⟨h,g,d,t,os⟩):wpAny (model prog w) A (excMatches (.ref e)<|.ref B) Q E ⟨h,g,d,t,os⟩:=by
 have hcB:(Value.ref B::EV).contains (.type "BaseException")=true:=by rw[cW,hbB,d8]
 have f:=tc_notTuple;unfold excMatches;repeat (first|(with_reducible refine ck he ?_;rw[VP])|with_reducible refine ck hB ?_|(with_reducible refine dj hB ?_;rw[hcB])|(with_reducible refine dj hC ?_;rw[QI])|wp_step)
 exact hq
end
section
variable {X:Cx}{a e:Expr}{es:ao Expr}{pos:Pos}
def YZ {c:V}{cv:ak}(rc:∀ u,fM c u->u=cv):jg X (.builtin "isinstance") (λvs H Q=>∃ e C b,vs=[.ref e,c]/\H e=some (.ext<|kF e<|.ref C)/\RI X.K C/\W.kitOne X.K (.ref C) cv=some b/\Q (.bl b) H):=by intro ee s σ H vs us Q I r q;obtain⟨e,C,b,rfl,he,f,hk,q⟩:=q;refine fw r.two λu1 u2 fE r1 r2=>?_;subst fE;cases(show u1=.ref e from r1);have:=rc u2 r2;subst this;obtain⟨⟨oe,ws,h1,h2,h4,_⟩,_,_⟩:=(show iQ X.prog X.w H s.heap e (.ext<|kF e<|.ref C)from I.fB e _ he);exact cP (Mi f) I.om ⟨oe,h1,h2⟩ hk (λz=>nomatch z) λtk=>⟨.bl b,H,I.tok tk,rfl,q⟩
def Eh (K:aa)(cv:ak)(w:De):De:=λρ μ Kd=>w ρ μ λd eV=>match d with
 |.mr k=>∃ C b,eV[k]?=some (.exc<|.ref C)/\RI K C/\W.kitOne K (.ref C) cv=some b/\Kd (.bl b) eV
 |_=>False
def GV {c:V}{cv:ak}{w:De}{σ:St}{H:Hp}{Q:VK}(h:tD (Eh X.K cv w) σ H Q):tCB (λvs H Q=>∃ e C b,vs=[.ref e,c]/\H e=some (.ext<|kF e<|.ref C)/\RI X.K C/\W.kitOne X.K (.ref C) cv=some b/\Q (.bl b) H) (K1 (tD w)<|K1 (tC c) Pd) σ H Q:=by
 refine fF h λφ ρ μ K A M k L=>?_;refine⟨φ,ρ,μ,_,A,M,k,λd eV fo v1 H1 k1 f1 M1 i1=>?_⟩;cases d with
 | mr j =>refine jX k1 λC b e1 f hk k1=>?_;refine eS i1 λp hp fE=>?_;subst fE;refine eS (M1.at_ j _ e1) λp' e2 e3=>?_;rw[hp]at e2;cases e2;exact⟨p,C,b,rfl,e3,f,hk,L _ eV fo _ H1 k1 f1 M1 rfl⟩
 |_=>exact k1.elim
def gi {w:De}{B:aj}{x:Str}{p p2:Pos}(hg:Gl X "isinstance")(hm:X.mg "isinstance"=none)(VM:Gl X x)(QH:X.mg x=some (.ref B))(ha:PD X a w)(hd:(x==("__debug__" : Str))=false:=by decide)
 (hs:starEach [a,.Name x p2] X.env=(false,eval a X.env)::starEach [.Name x p2] X.env:=by rfl) (uM:starEach [.Name x p2] X.env=(false,eval (.Name x p2) X.env)::starEach [] X.env:=by rfl) (lU:(backTo pos<|starEach [.Name x p2] X.env).any (·.1)=false:=by rfl):
 PD X (.Call (.Name "isinstance" p) [a,.Name x p2] [] pos) (Eh X.K (.ref B) w):=
 (gv (YZ (c:=.ref B) (cv:=.ref B) λu r=>r) hg hm boot_isinstance (fh ha (fh (He (v:=.ref B) VM QH rfl hd) hU uM) hs) (by decide) rfl hs lU).imp λσ H Q q=>GV q
def NL {w:De}{T:String}{x:Str}{p p2:Pos}(hg:Gl X "isinstance")(hm:X.mg "isinstance"=none)(VM:Gl X x)(QH:X.mg x=none)(hv:bootBuiltins x=some (.type T))(ha:PD X a w)(hn:x ≠ "__name__":=by decide)(hd:(x==("__debug__" : Str))=false:=by decide)
 (hs:starEach [a,.Name x p2] X.env=(false,eval a X.env)::starEach [.Name x p2] X.env:=by rfl) (uM:starEach [.Name x p2] X.env=(false,eval (.Name x p2) X.env)::starEach [] X.env:=by rfl) (lU:(backTo pos<|starEach [.Name x p2] X.env).any (·.1)=false:=by rfl):
 PD X (.Call (.Name "isinstance" p) [a,.Name x p2] [] pos) (Eh X.K (.type T) w):=
 (gv (YZ (c:=.ty T) (cv:=.type T) λu r=>r) hg hm boot_isinstance (fh ha (fh (ji (v:=.ty T) VM QH hv rfl hn hd) hU uM) hs) (by decide) rfl hs lU).imp λσ H Q q=>GV q
end
def WC (lo:Int)(n:Nat)(e:aj):It:=⟨λi _=>i<n,λi H x H'=>H'=H/\x=.int (lo+i),λi H=>n<=i/\∃ c,H e=some (.ext<|kF e c)⟩
def Ik (e:aj):Cx->Prop:=λX=>X.A.handled=some (.ref e)
def CB {P:ae}{w:af}{K:aa}{tg:Expr}(it:aj)(lo:Int)(n:Nat)(e:aj):Turn P w K tg (WC lo n e) [it] it (λi h=>IsRangeIter h it (lo+(i:Nat)*1) ((n:Int) - (i:Nat)) 1) (Ik e) where
 mem:=by simp
 obj:=(pH (P:=P) (w:=w) (K:=K) (tg:=tg) it lo n).obj
 keep:=(pH (P:=P) (w:=w) (K:=K) (tg:=tg) it lo n).keep
 item:=by
  intro X hP hw hK hc i ee s σ H E I hf st hg;subst hP hw hK;refine rf (hf it<|by simp) λf0 f1 f2 f3 f4 f5=>?_;refine wpAny_pyNext_range_item st (by have:i<n:=hg;lia) λh' Ci kk=>?_;have I1:Inv X ee σ H {s with heap:=h',toks:=s.toks+1}:=I.turned (λb o hb e=>kk.extBut b o hb e) f0 f1 f3 f4 f5;have G1:IsRangeIter h' it (lo+((i+1:Nat):Int)*1) ((n:Int) - ((i+1:Nat):Int)) 1:=by
   have e1:lo+((i+1:Nat):Int)*1=lo+(i:Int)*1+1:=by lia
   have e2:(n:Int) - ((i+1:Nat):Int)=(n:Int) - (i:Int) - 1:=by lia
   rw[e1,e2];exact Ci
  refine⟨_,rfl,zD (s:={s with heap:=h',toks:=s.toks+1}) (n:= "range_iterator") Ci rfl rfl (by decide) ⟨.int<|lo+i,H,I1,⟨s.toks,by rw[Int.mul_one]⟩,⟨rfl,rfl⟩,G1,λb hb=>(hf b hb).1⟩⟩
 done:=by intro X hP hw hK hc i ee s σ H E I hf st hg;subst hP hw hK;refine rf (hf it<|by simp) λf0 f1 f2 f3 f4 f5=>?_;obtain⟨hg,c,he⟩:=hg;obtain⟨⟨oe,ws,h1,h2,h4,h5⟩,_,_⟩:=(show iQ X.prog X.w H s.heap e (.ext<|kF e c)from I.fB e _ he);exact Fd hc h1 h4 h5 st (by lia) λh' k=>⟨rfl,I.eI (t':=s.toks) k⟩
 self:=(pH (P:=P) (w:=w) (K:=K) (tg:=tg) it lo n).self
section
variable {X:Cx}{tg:Expr}{CM:Cx->Prop}
def Wz (X:Cx)(CM:Cx->Prop)(tg iter:Expr)(wi:TI):Prop :=
 ∀(ee:ao (aj×Obj)) (s:ai) (σ:St) (H:Hp) (R:It->Hp->Prop),Inv X ee σ H s->wi σ H R ->
  wpAny (model X.prog X.w) X.A (eval iter X.env) (λv s1=>wpAny (model X.prog X.w) X.A (pyIter v) (λSv s2=>∃(it:aj) (fp:ao aj) (tn:Nat->Heap->Prop) (J:It) (H':Hp),Sv=.ref it/\Inv X ee σ H' s2/\Turn X.prog X.w X.K tg J fp it tn CM/\tn 0 s2.heap/\(∀ b∈fp,nk X ee H' b)/\R J H') X.xe s1) X.xe s
def Wz.imp {iter:Expr}{t t':TI}(h:Wz X CM tg iter t)(hi:∀ σ H Q,t' σ H Q->t σ H Q):Wz X CM tg iter t':=λee s σ H R I q=>h ee s σ H R I (hi σ H R q)
def Y1 (e:aj)(ta:TA):TI:=λσ H R=>ta σ H λvs H1=>∃ j:Int,vs=[.int j] /\ -(2 ^ 62)<=j/\j<2 ^ 62/\R (WC 0 j.toNat e) H1
def IU {a:Expr}{ta:TA}{e:aj}{p pos:Pos}(hg:Gl X "range")(hm:X.mg "range"=none)(ha:PA X [a] ta)(hs:starEach [a] X.env=[(false,eval a X.env)]:=by rfl):Wz X (Ik e) tg (.Call (.Name "range" p) [a] [] pos) (Y1 e ta):=by
 intro ee s σ H R I h;refine Call_ (nN I hg hm boot_range<|bj (gg (ha pos ee s σ H _ I h) λus s1 h_=>fw h_ λvs H1 I1 r1 q1=>?_) hs rfl);obtain⟨j,e',q1,q2,q⟩:=q1;subst e';cases r1 with
 | cons r rr =>
  cases rr;obtain⟨t,rfl⟩:=r;refine call_range_1 ?_;refine wpAny_pyIter_range (IsRange.new ..) (small_one (Int.ofNat_nonneg _) (by lia) q1 q2) ?_;obtain⟨o,ho⟩:∃ o:Obj,o={ cls:=.type "range",data:=.fields #[.int 0 s1.toks,.int j t,.int 1 (s1.toks+1)]}:=⟨_,rfl⟩;have I2:Inv X ee σ H1 { s1 with heap:=s1.heap.push o,toks:=s1.toks+1+1}:=I1.eI λb u e=>kJ _ e;rw[<- ho];refine⟨(s1.heap.push o).objs.size,[(s1.heap.push o).objs.size],_,_,H1,rfl,I2.eI (t':=s1.toks+1+1) λb u e=>kJ _ e,CB _ 0 j.toNat e,?_,λb hb=>?_,q⟩
  .have e1:(0:Int)+((0:Nat):Int)*1=0:=by simp
   have e2:((j.toNat:Nat):Int) - ((0:Nat):Int)=Builtin.Range.rangeSize 0 j 1:=by rw[rangeSize_one];split<;>lia
   show IsRangeIter _ _ ((0:Int)+((0:Nat):Int)*1) (((j.toNat:Nat):Int) - ((0:Nat):Int)) 1
   rw[e1,e2]
   exact aC _ rfl
  .have e':b=(s1.heap.push o).objs.size:=by simpa using hb
   subst e'
   exact I2.Bo (au _) (I2.fB.fresh<|au _)
variable {N:ao Str}{js:ao (aq Nat)}{sc:Scope}{elt iter:Expr}{ifs:ao Expr}{g:TG}{tt:TT}{te:TE}
def LN {wi:TI}{pos:Pos}(hc:kR X N js sc)(gE:∀ fp s H,CM (o8 X N sc fp s H))(hi:Wz X CM tg iter wi)(hg:∀ fp s H,PG (o8 X N sc fp s H) tg g)(ht:∀ fp s H,Kv (o8 X N sc fp s H) ifs tt)(he:∀ fp s H,PE (o8 X N sc fp s H) elt te)
 (hs:∀ x,foldedSetIterable iter X.env x=pure x:=by intro _;rfl):PE X (.ListComp elt [⟨tg,iter,ifs,0⟩] sc pos) (GX wi js g tt te):=by
 intro ee s σ H Q I h;rw[eval_ListComp];refine cF (use:=none) rfl hs (mK λy hy e=>I.ok.has y.1<|hc.free y hy e) hc.kind hc.loc (gg (hi ee s σ H _ I h) λv s1 h1=>gg h1 λSv s2 h2=>?_);refine Nr h2 λit fp tn J H2 e I2 T G1 f2 q=>?_;subst e;refine bw<|oE ?_;have hC:(s2.heap.push { cls:=.type "list",dict:=none,data:=.seq ([]:ao ak).toArray}).objs.size=s2.heap.objs.size+1:=bq ..
 simp only[hC];refine tm (tk:=s2.toks) I2 hc (gE fp s2 H2) T G1 f2 (hg fp s2 H2) (ht fp s2 H2) (he fp s2 H2) q λs' H' ys m IX nD qf nC hn=>?_;refine⟨m,nC,λh' sb=>?_⟩;have Cm:∀(b:aj) (o:Obj),s2.heap.get? b=some o->b≠s2.heap.objs.size+1:=λb o e=>aF<|bB<|kG e;have IY:Inv X ee σ (upd H' s2.heap.objs.size<|.lst ys) { s' with heap:=h'}:=IX.turned (t':=s'.toks) (it:=s2.heap.objs.size+1) (λb o hb e=>(sb.2 b hb).trans e) (by rw[e9 (bh<|b9 _)];exact hn)
  (bh<|bB I2.lt) (.inr<|bX I2.sz) (λx c e=>let ⟨v,z⟩:=I2.cell x c e;aF (bB z.lt)) (λp hp=>Cm _ _ (I2.pin p hp).1)
 exact⟨.ref _,_,IY,rfl,qf _ nD⟩
end
abbrev hC (fi:ao aj)(H0:Hp)(k:Nat):MS->Prop:=λμ=>μ[0]?=some (.gx fi H0)/\∃ c,μ[k]?=some (.exc c)
def MN {fi φ:ao aj}{H0 H:Hp}{k:Nat}{μ:MS}{e:aj}(hk:fi[k]?=some e)(M:fG φ H μ)(h:hC fi H0 k μ):φ[k]?=some e/\∃ c,H e=some (.ext<|kF e c):=by obtain⟨h1,c,h2⟩:=h;have:=(M.Bl h1).get hk;refine eS (M.at_ k _ h2) λp e1 e2=>?_;rw[this]at e1;cases e1;exact⟨this,c,e2⟩
def Iq {lo:Int}{n k:Nat}{φ fi:ao aj}{H H0:Hp}{e:aj}(hk:fi[k]?=some e):Wk (WC lo n e) φ H (pP lo n) (hC fi H0 k):=λfO H' fj f M c i=>by
 have hl:(pP lo n).length=n:=by delta pP;rw[jf,MP]
 refine⟨λd hd=>?_,λhi=>⟨by rw[hl]at hi;exact Nat.le_of_eq hi.symm,(MN hk M c).2⟩⟩;have hi:i<n:=by have:=(mW hd).1;lia
 refine⟨hi,λx Oz hy=>?_⟩;obtain⟨rfl,rfl⟩:=hy;refine⟨.refl _ _,M,?_⟩;unfold pP at hd;rw[wd,cL hi]at hd;cases hd;rfl
def Z0 (fi:ao aj)(H0:Hp)(k:Nat)(w:DA):DI:=λρ μ K=>w ρ μ λds eV=>match ds with
 |[.int j]=> -(2 ^ 62)<=j/\j<2 ^ 62/\K (pP 0 j.toNat) (hC fi H0 k) eV
 |_=>False
section
variable {X:Cx}{a:Expr}{pos:Pos}{N:ao Str}{js:ao (aq Nat)}{sc:Scope}{tg elt iter:Expr}{ifs:ao Expr}{g:TG}{y:DG}{S:ao Nat}{t:Dt}{w:De}{fi:ao aj}{H0:Hp}{k:Nat}{e:aj}
def Mu {w:DA}{p:Pos}(hk:fi[k]?=some e)(hg:Gl X "range")(hm:X.mg "range"=none)(ha:sA X [a] w)(hs:starEach [a] X.env=[(false,eval a X.env)]:=by rfl):Wz X (Ik e) tg (.Call (.Name "range" p) [a] [] pos) (XB<|Z0 fi H0 k w):=(IU hg hm ha hs).imp λσ H Q h_=>fF h_ λφ ρ μ K A M k L=>by
 refine⟨φ,ρ,μ,_,A,M,k,λds eV fo vs H1 k1 f1 M1 i1=>?_⟩;split at k1
 .refine fw i1 λv r fE h1 h2=>?_;subst fE;cases(show v=_ from h1);cases(show r=[]from h2);exact⟨_,rfl,k1.1,k1.2.1,L _ _ eV fo _ H1 k1.2.2 f1 M1<|Iq hk⟩
 .exact k1.elim
def Q0 (m:Bool){wi:DI}(hc:kR X N js sc)(hh:X.A.handled=some (.ref e))(so:OZ g y S)(mo:rq g)(ho:tT S js=true)(hi:Wz X (Ik e) tg iter (XB wi))(hg:∀ fp s H,PG (o8 X N sc fp s H) tg g)(ht:∀ fp s H,EE (o8 X N sc fp s H) ifs t)(he:∀ fp s H,PD (o8 X N sc fp s H) elt w)
 (hs:∀ x,foldedSetIterable iter X.env x=pure x:=by intro _;rfl):PD X (.ListComp elt [⟨tg,iter,ifs,0⟩] sc pos) (zK m wi js y t w):=(LN hc (λ_ _ _=>hh) hi hg ht he hs).imp λσ H Q q=>Ap so mo ho q
end
structure uo (k:Nat)(A:Around):Prop where
 dp:A.depth+3*k+5<recursionLimit
 un:A.units+16*k+200<cLine
theorem uo.deeper {k:Nat}{A:Around}(r:uo (k+1) A)(env:Env):uo k (A.deeper env) :=
 ⟨by have:=r.dp;show A.depth+1+3*k+5<_;lia,by have:=r.un;show A.units+3+16*k+200<_;lia⟩
theorem uo.depth {k:Nat}{A:Around}(r:uo k A):A.depth<recursionLimit:=by have:=r.dp;lia
abbrev Cx.OR (X:Cx)(A:Around):Cx:={ X with A:=A,gE:=false,xe:=λ_ _=>False}
theorem Inv.OR {X:Cx}{ee:ao (aj×Obj)}{σ:St}{H:Hp}{s:ai}(I:Inv X ee σ H s){A:Around}(hf:A.frames=some X.stack):Inv (X.OR A) ee σ H s :=
 ⟨⟨I.ok.mod,I.ok.kind,I.ok.glob,I.ok.blt,I.ok.above,I.ok.inj,I.ok.has,I.ok.Ws,(λz=>by cases z),hf,I.ok.WU,I.ok.y3,I.ok.bs,I.ok.Ia,I.ok.Du,I.ok.D4,I.ok.r9,I.ok.OU⟩,I.os,I.bare,I.eB,I.loc,I.cell,I.free,I.ky,I.pin,I.fB,I.len⟩
structure Il (P:ae)(w:af)(K:aa)(mg:Str->Option ak)(eB:Heap)(k:Nat)(f:aj)(fd:ah)(ps:List Str)(fs:ot):Prop where
 len:∀ ds μ Kd,fs ds μ Kd->ds.length=ps.length
 run:∀(A:Around) (eM:List Env) (s:ai) (H:Hp) (args:Args) (us:List ak) (vs:List V) (Q:VK) (e:aj),uo k A->A.handled=some (.ref e)->Cd P w K mg eB A eM s H->BindsTo s fd args (ps.zip us)->fH vs us ->
  (∃ φ ds μ Kd kx,fe φ H ds vs/\fG φ H μ/\φ[kx]?=some e/\kx≠0/\(∃ c,μ[kx]?=some (.exc c))/\fs ds μ Kd/\uW φ H Kd Q)->codeAny (model P w) A (.call (.ref f) args) (CR nr eM P w H s Q E0) s
section
variable {P:ae}{w:af}{K:aa}{mg:Str->aq ak}{eB:Heap}
abbrev cxH (P:ae)(w:af)(K:aa)(mg:Str->aq ak)(eB:Heap)(N:ao Str)(qual:Str)(scope:Scope)(f:aj)(cd:ak)(A:Around)(eM:ao Env)(s:ai)(H:Hp):Cx :=
 (px nr P w K mg eB N qual scope f cd { A with handled:=none} eM s H E0).OR (A.deeper<|envOfC qual scope s.heap.objs.size f cd)
def iS.okH {x qual:Str}{st:Stmt}{f:aj}{fd:ah}{N ps:ao Str}{k:Nat}{fs:ot}(F:iS K x qual st f fd)(S:eR N ps (eG st))(len:∀ ds μ Kd,fs ds μ Kd->ds.length=ps.length/\∃ m,μ[0]?=some m)
 (qW:∀(hZ:ak) (A:Around) (eM:ao Env) (s:ai) (H:Hp),uo k (A.deeper<|envOfC qual (eG st) s.heap.objs.size f hZ)->∀(fi:ao aj) (kx:Nat) (e:aj),fi[kx]?=some e->A.handled=some (.ref e) ->
   ∃ W,zc (cxH P w K mg eB N qual (eG st) f hZ A eM s H) (iI st) W/\∀ ds μ m Kd,(∀(j:Nat) (m':MO),(μ.set 0<|.gx fi H)[j]?=some m'->zt (μ.set 0<|.gx fi H).length m')->r6 (μ.set 0<|.gx fi H).length ds->μ[0]?=some m->hC fi H kx (μ.set 0<|.gx fi H)->fs ds μ Kd ->
    W (AQ (μ.set 0<|.gx fi H).length<|gK fi H m Kd) (oS N ds) (μ.set 0<|.gx fi H)):Il P w K mg eB (k+1) f fd ps fs:=by
 obtain⟨oc,od,kV,doc,pm,an,hZ,ct,OL,rfl,lk,yY⟩:=F.ex
 refine⟨λds μ Kd h=>(len ds μ Kd h).1,λA eM s H args us vs Q e hr hh e0 hb r Kq=>?_⟩
 refine ZC Kq λφ ds μ Kd kx ha M hk Zc hex hf L=>?_
 obtain⟨VJ,m,em⟩:=len ds μ Kd hf
 have hl:vs.length=ps.length:=ha.len▸VJ
 have KX:K.In s.heap:=e0.mod.Kn.keeps λb o e=>(e0.bs b o e).1
 have lim:s.heap.NoLimit:=e0.mod.nolimit.keeps λb o e=>(e0.bs b o e).1
 have MG:∀ y∈ps.zip us,(eG st).names.lookup y.1=some .local\/((eG st).names.lookup y.1=some .cell/\((cellsFrom (s.heap.objs.size+1) (eG st).names []).lookup y.1).isSome=true):=λ⟨n,v⟩ hy=>by
  rcases S.par n (List.of_mem_zip hy).1 with q|q
  .exact .inl q
  .exact .inr ⟨q,W.cellsFrom_some _ _ _<|.inl q⟩
 refine codeAny_call_function hr.depth (KX _ _ lk) rfl S.co S.gen rfl (W.codeRec_of KX yY) (hb _ _ _ _ ?_)
 refine wpAny_newFunctionEnv_cells S.kind MG λenv he s1 x=>?_
 subst he
 refine⟨lim.keeps x.toInCall.keep,codeAny_func ?_⟩
 have e1:Cd P w K mg eB { A with handled:=none} eM s H:=⟨e0.frames,e0.mod,e0.bs,e0.Ia,e0.r9,e0.OU,e0.fB,e0.bare⟩
 have I0:Inv (px nr P w K mg eB N qual (eG st) f hZ { A with handled:=none} eM s H E0) [] (start N vs) H s1:=zz S rfl e1 hl r x
 have I:Inv (cxH P w K mg eB N qual (eG st) f hZ A eM s H) [] (start N vs) H s1:=I0.OR (Around.frames_deeper e0.frames)
 have Mg:=M.ghost em
 have Lg:=(L.ghost M em).fz Mg
 have hc:hC φ H kx (μ.set 0<|.gx φ H):=⟨aJ (mW em).1,by rw[aA (bz Zc)];exact hex⟩
 refine eS (qW hZ A eM s H (hr.deeper _) φ kx e hk hh) λW hW q=>?_
 refine bf (hW [] s1 (start N vs) H { nx:=λ_ H'=>Q .gw H',rt:=Q} I ⟨φ,oS N ds,μ.set 0<|.gx φ H,AQ (μ.set 0<|.gx φ H).length<|gK φ H m Kd,.start ha,Mg,q ds μ m Kd Mg.bound (Mg.len▸ha.bound) em hc hf,⟨λjV fj fO gL H' k' f' A' M'=>Lg .gw fj fO .gw H' k' f' M' rfl,Lg,λ_ _ _ _ _ k' _ _ _=>k'.elim,λ_ _ _ _ _ k' _ _ _=>k'.elim⟩⟩) (λfl s' hs=>?_) λe s' hs=>hs.elim
 have fin:∀ {gL:St} {H':Hp} {v:V} {u:ak},Inv (cxH P w K mg eB N qual (eG st) f hZ A eM s H) [] gL H' s'->fM v u->Q v H'->CE eM P w H s Q u s' :=
  λ{gL H' v u} J rv q=>⟨v,H',J.os,J.bare,J.eB,J.fB,rv,q⟩
 cases fl with
 | ret u =>refine tj hs λv gL H' J rv q=>?_;exact fin J rv q
 | next =>refine mD hs λgL H' J q=>?_;exact fin (v:=V.gw) (u:=Value.none) J rfl q
 | brk =>refine mD hs λ_ _ _ q=>?_;exact False.elim q
 | cont =>refine mD hs λ_ _ _ q=>?_;exact False.elim q
end
structure WD (P:ae)(w:af)(K:aa)(mg:Str->Option ak)(eB:Heap)(x:Str)(k:Nat)(ps:List Str)(fs:ot):Prop where
 ex:∃ f fd,Il P w K mg eB k f fd ps fs/\mg x=some (.ref f)/\W.keepIn K (.ref f)=true/\Binds K fd ps []
section
variable {X:Cx}{e:Expr}{es:ao Expr}{pos:Pos}{fi:ao aj}{H0:Hp}{kx:Nat}{ea:aj}
def Wo (fi:ao aj)(H0:Hp)(kx:Nat)(f:ot)(w:DA):De:=λρ μ K=>w ρ μ λds eV=>hC fi H0 kx eV/\f ds eV K
def Q3 {f:ot}{w:DA}{x:Str}{p:Pos}{k:Nat}{ps:ao Str}(hk:fi[kx]?=some ea)(Zc:kx≠0)(hh:X.A.handled=some (.ref ea))(C:WD X.prog X.w X.K X.mg X.eB x k ps f)(hr:uo k X.A)(hg:Gl X x)(ha:sA X (e::es) w)
 (sY:(x==("__debug__" : Str))=false:=by decide) (he:starEach (e::es) X.env=(false,eval e X.env)::starEach es X.env:=by rfl) (lU:(backTo pos<|starEach es X.env).any (·.1)=false:=by rfl):
 PD X (.Call (.Name x p) (e::es) [] pos) (Wo fi H0 kx f w):=by
 refine jX C.ex λf' fd F hm hkp hb=>?_;intro ee s σ H Q I h;refine fF h λφ ρ μ K A M w L=>?_;refine bu<|lg I hg hm ?_ sY;refine dU (h₀:=X.eB) I.ok.mod.Kn hkp (gg (ha pos ee s σ H (λvs H1=>∃ φ ds μ Kd kx,fe φ H1 ds vs/\fG φ H1 μ/\φ[kx]?=some ea/\kx≠0/\(∃ c,μ[kx]?=some (.exc c))/\f ds μ Kd/\uW φ H1 Kd Q) I ⟨φ,ρ,μ,_,A,M,w,λds eV fo vs H1 k1 f1 M1 i1=>⟨fo,ds,eV,K,kx,i1,M1,(MN hk M1 k1.1).1,Zc,k1.1.2,k1.2,L.mono f1⟩⟩) λus s1 h_=>fw h_ λvs H1 I1 r q=>⟨I1.om,?_⟩) he lU;have hl:us.length=ps.length:=by refine ZC q λfo ds eV Kd kx1 i1 _ _ _ _ hf _=>?_;rw[<- r.length,i1.len];exact F.len _ _ _ hf
 refine dz (dR (F.run X.A X.stack s1 H1 ⟨us,[]⟩ us vs Q ea hr hh I1.QQ (by have:=hb s1 us I1.om (by rw[bg];exact hl);rwa [bg]at this) r q) λr s' hq=>?_);cases r with
 |error e=>exact hq.elim
 | ok fl =>
  cases fl with
  |ret u=>exact I1.after hq
  |next=>exact False.elim hq
  |brk=>exact False.elim hq
  |cont=>exact False.elim hq
end
structure EG (K:aa)(C B:aj):Prop where
 ex:∃(nB qB:Str) (NB:aj) (bsB EV:List ak) (hdB:Bool) (snB:List Str) (subB:List ak) (abB:Bool) (Ri:Option Bool) (ddB:Option aj) (b0 b1 b2 b3 b5:Option ak) (idB:String) (nC qC:Str) (NC:aj) (bsC Xd:List ak) (hdC:Bool) (snC:List Str) (Iy:List ak) (abC:Bool) (Rh:Option Bool) (ddC:Option aj) (c0 c1 c2 c3 c5:Option ak) (idC:String),
  K.lookup B=some (excClassObj nB qB B NB bsB EV hdB snB subB abB Ri ddB b0 b1 b2 b3 b5 idB)/\K.lookup C=some (excClassObj nC qC C NC bsC Xd hdC snC Iy abC Rh ddC c0 c1 c2 c3 c5 idC)/\EV.contains (.type "BaseException")=true/\(Value.ref C::Xd).contains (.ref B)=true
section
variable {X:Cx}{ee:ao (aj×Obj)}{σ:St}{H:Hp}{s:ai}
def Inv.KS (I:Inv X ee σ H s){e:aj}{c:ak}(hn:H e=none)(x:kF e c s.heap)(h0:X.s₀.heap.get? e=none)(hl:e≠X.env.locals)(hc:∀ y a,X.env.cells.lookup y=some a->a≠e)(hp:∀ p∈X.pn++ee,p.1≠e):
 Inv X ee σ (upd H e<|.ext<|kF e c) s:=by
 have ne0:∀ b o,X.s₀.heap.get? b=some o->b≠e:=λb o q z=>by rw[z,h0]at q;cases q
 have ne1:∀ b o,H b=some o->b≠e:=λb o q z=>by rw[z,hn]at q;cases q
 refine⟨I.ok,I.os,I.bare,⟨I.eB.keep,I.eB.slot,λb o q n hx=>?_,I.eB.there,λb xs q=>?_,λb o xs q=>?_,λb ps q=>?_⟩,I.loc,I.cell,?_,λy a q=>?_,λp hq=>?_,λa o q=>?_,I.len⟩
 .rw[e9 (ne0 b o q)];exact I.eB.free b o q n hx
 .have:=I.eB.sD b xs q;rw[e9 (ne1 b _ this)];exact this
 .have:=I.eB.sd b o xs q;rw[e9 (ne1 b _ this)];exact this
 .obtain⟨m,this⟩:=I.eB.sE b ps q;exact⟨m,by rw[e9 (ne1 b _ this)];exact this⟩
 .rw[e9 (bz hl)];exact I.free
 .rw[e9 (hc y a q)];exact I.ky y a q
 .refine rh (I.pin p hq) λh1 h2 h3=>?_;exact⟨h1,by rw[e9 (hp p hq)];exact h2,h3⟩
 .by_cases z:a=e
  .subst z;rw[eZ]at q;cases q;refine mD x λoe vs q1 q2=>?_;exact⟨⟨oe,vs,q1,q2⟩,⟨oe,q1⟩,λh1 h2 ⟨o,v,e1,e2⟩ k=>⟨o,v,k o e1,e2⟩⟩
  .rw[e9 z]at q;exact(I.fB a o q).uu (λ_ _ _ k=>k) (λb k=>by rw[e9 (ne1 b _ k)];exact k) λb xs k=>by rw[e9 (ne1 b _ k)];exact k
def Inv.forget (I:Inv X ee σ H s){h':Heap}{m':Str->aq ak}{t:Nat}(hn:h'.Ns X.env.locals m')(hs:Heap.SameBut X.env.locals s.heap h'):Inv X ee (σ.map λ_=>none) H { s with heap:=h',toks:=t}:=by
 have ne:∀ b o,X.s₀.heap.get? b=some o->b≠X.env.locals:=λb o e=>aF<|aL (kG e) I.ok.above;refine⟨I.ok,I.os,I.bare,⟨λb o e n hb hx=>?_,λb o e n hb hx=>?_,I.eB.free,λb o e hx=>?_,I.eB.sD,I.eB.sd,I.eB.sE⟩,⟨m',hn,λj y v' e1 e2 e3=>?_⟩,λy c e=>?_,I.free,I.ky,λp hp=>?_,λb ob e=>?_,by rw[jf];exact I.len⟩
 .exact(hs.2 b<|ne b o e).trans (I.eB.keep b o e n hb hx)
 .obtain⟨sl,e1⟩:=I.eB.slot b o e n hb hx;exact⟨sl,(hs.2 b<|ne b o e).trans e1⟩
 .obtain⟨o',e1⟩:=I.eB.there b o e hx;exact⟨o',(hs.2 b<|ne b o e).trans e1⟩
 .rw[wd]at e2;cases q:σ[j]?<;>rw[q]at e2<;>cases e2
 .obtain⟨w',z⟩:=I.cell y c e;exact⟨w',z.sameBut hs<|I.Rk y c e⟩
 .refine QS (I.pin p hp) λe n ne nf d=>?_;exact⟨(hs.2 p.1 ne).trans e,n,ne,nf,d⟩
 .refine(I.fB b ob e).uu (λc w' hc q=>(hs.2 c ?_).trans q) (λ_ q=>q) λ_ _ q=>q;rintro rfl;rcases hc with rfl|hc
  .rw[I.free]at e;cases e
  .rw[I.free]at hc;cases hc
def Un.kp {fs:ao aj}{l:ao Env}{H H':Hp}{h h1 h2 g:Heap}(u:Un fs [] H H' h h1)(k:Kp g l h1 h2)(hg:Gk h g)(hl:∀ b,b∈zF l->b∈fs):Un fs [] H H' h h2:=by
 refine⟨λb o e n hb hx=>k.other b o (u.keep b o e n hb hx) (hg b ⟨o,e⟩) λz=>hb<|hl b z,λb o e n hb hx=>?_,u.free,λb o e hx=>?_,u.sD,u.sd,u.sE⟩
 .obtain⟨sl,e1⟩:=u.slot b o e n hb hx;obtain⟨sl2,e2⟩:=k.any e1<|hg b ⟨o,e⟩;exact⟨sl2,e2⟩
 .obtain⟨o',e1⟩:=u.there b o e hx;obtain⟨sl,e2⟩:=k.any e1<|hg b ⟨o,e⟩;exact⟨_,e2⟩
end
def Oy.ghost {φ:ao aj}{H:Hp}{μ:MS}{m:MO}{k:DE->MS->Prop}{q:St->Hp->Prop}(L:Oy φ H k q)(M:fG φ H μ)(e:μ[0]?=some m):Oy φ H (λjV fj=>fj[0]?=some (.gx φ H)/\k jV (fj.set 0 m)) q:=λjV fj fO gL H' ⟨e',k'⟩ f A M'=>L jV _ fO gL H' k' f A (M.back e M' e')
def Inv.N4 {X:Cx}{ee:ao (aj×Obj)}{σ:St}{H H':Hp}{s s':ai}{g h2:Heap}(I:Inv X ee σ H s)(os:s'.os=s.os)(bare:AllBare s'.gens)(un:Un (zF X.stack) [] H H' s.heap s'.heap)(fB:rA X.prog X.w H' s'.heap)(g1:Gk s.heap g)(g2:∀ b,H' b≠none->At g b)(k:Kp g X.stack s'.heap h2):
 Inv X ee σ H' { s' with heap:=h2}:=by
 have I2:=I.zP (s':=s') (ch:=[]) os un fB bare (λb z=>absurd z<|by simp);exact I.zP (s':={ s' with heap:=h2}) (ch:=[]) os (un.kp k g1 λb z=>z) (FR fB (λb hb=>⟨g2 b hb,λz=>hb<|I2.rH b z⟩) k) bare (λb z=>absurd z<|by simp)
def Cc.is {g h:Heap}{e:aj}{cls fl:ak}(x:Cc g e cls fl h):kF e cls h:=by obtain⟨oe,vs,T,oT,ts,⟨h1,h2,h4,_,h5⟩,_⟩:=x;exact⟨oe,vs,h1,h2,h4,h5⟩
abbrev iU:ao ak:=[.type "ValueError",.type "Exception",.type "BaseException",.type "object"]
def BV {K:aa}(q:W.excIn K C EV newId=true):∃(bm:ao ak) (ns:aj) (nm qn:Str) (bs:ao ak) (hd:Bool) (sn:ao Str) (sub:ao ak) (ab:Bool) (col:aq Bool) (dd:aq aj) (k0 k1 k2 k3 k5:aq ak),
 K.lookup C=some (excClassObj nm qn C ns bs bm hd sn sub ab col dd k0 k1 k2 k3 k5 newId)/\W.nsOkIn K ns=true/\W.nsIn K ns "__init__"=some none/\W.tailIn K EV bm=true:=by
 delta W.excIn at q;split at q
 .rename_i dd cd sl ho;split at q
  .rename_i C' bm k0 k1 k2 k3 n k5 hm hs;simp at q;obtain⟨⟨⟨⟨⟨rfl,rfl⟩,ML⟩,ht⟩,fB⟩,ME⟩:=q;obtain⟨nm,bs,mro,ns,qn,hd,sn,sub,ab,col,del⟩:=cd;subst hm ML;have Y7:sl=#[k0,k1,k2,k3,some (.builtin n),k5]:=by obtain⟨l⟩:=sl;simp only at hs;rw[hs]
   subst Y7;exact⟨bm,ns,nm,qn,bs,hd,sn,sub,ab,col,dd,k0,k1,k2,k3,k5,ho,fB,ME,ht⟩
  .cases q
 .cases q
def kr {K:aa}{h:Heap}{mg:Str->aq ak}{x:Str}{C:aj}(X:K.In h)(G:h.Ns mainGlobals mg)(e:W.nsIn K mainGlobals x=some (some<|.ref C))(q:W.excIn K C iU "ValueError.__new__"=true):OwnCls x C iU "ValueError.__new__" mg h:=by obtain⟨bm,ns,nm,qn,bs,hd,sn,sub,ab,col,dd,k0,k1,k2,k3,k5,h1,h2,h3,h4⟩:=BV q;exact⟨bZ X G e,bm,ns,nm,qn,bs,hd,sn,sub,ab,col,dd,k0,k1,k2,k3,k5,_,X _ _ h1,.of_isNs<|W.isNs_of_in X h2,W.nsMap_none_of_in X h2 h3,W.tail_of_in X h4⟩
def subIn (K:aa)(C B:aj):Bool:=match K.lookup C with
 |some ⟨_,_,.cls cd,_⟩=>cd.mro.contains (.ref B)
 |_=>false
def T4 {K:aa}(qB:W.excIn K B iU "ValueError.__new__"=true)(qC:W.excIn K C iU "ValueError.__new__"=true)(s:subIn K C B=true):EG K C B:=by
 let ⟨bm,ns,nm,qn,bs,hd,sn,sub,ab,col,dd,k0,k1,k2,k3,k5,h1,h2,h3,h4⟩:=BV qB;let ⟨Xe,U7,Yv,X7,bs',DM,XJ,K4,ab',N1,Gy,YV,YU,YT,YS,YR,OT,h2',h3',h4'⟩:=BV qC;refine⟨nm,qn,ns,bs,bm,hd,sn,sub,ab,col,dd,k0,k1,k2,k3,k5,_,Yv,X7,U7,bs',Xe,DM,XJ,K4,ab',N1,Gy,YV,YU,YT,YS,YR,_,h1,OT,?_,?_⟩
 .have tl:∀ l,W.tailIn K iU l=true->l.contains (.type "BaseException")=true:=λl=>by
   induction l with
   |nil=>intro z;exact absurd (show(iU==[])=true from z) (by decide)
   | cons v r ih =>
    intro z;rcases Bool.or_eq_true_iff.mp z with q|q
    .rw[beq_iff_eq.mp q];decide
    .rw[cW];have:W.tailIn K iU r=true:=by
      split at q
      .split at q
       .simp at q;exact q.2
       .cases q
      .cases q
     rw[ih this,d8]
  exact tl _ h4
 .delta subIn at s;rwa [OT]at s
section
variable {X:Cx}
def ipS:RC:=λx y H Q=>match x,y with|.str a,.str b=>a.length+b.length<=sizeLine/\Q (.str<|a++b) H|_,_=>False
def QD:Xg X .Add ipS:=by
 intro ee s σ H x y v u Q I r1 r2 h;delta ipS at h;split at h
 .obtain⟨t,rfl⟩:=r1;obtain⟨t',rfl⟩:=r2;exact SB.iadd (λt' k=>⟨.str _,H,I.tok k,⟨_,rfl⟩,h.2⟩) h.1
 .cases h
end
def Z3:Ag:=λx y μ K=>match x,y with|.str a,.str b=>a.length+b.length<=sizeLine/\K (.str<|a++b) μ|_,_=>False
def Ua:Ww ipS Z3:=λφ H x y dx dy μ K Q M hx hy k L=>by
 delta Z3 at k;split at k
 .subst hx;subst hy;exact⟨k.1,L.val M k.2 rfl⟩
 .exact k.elim
def XY (r:iq k A):uo k (A.mark h):=⟨r.dp,r.un⟩
def gP {P:ae}{w:af}{K:aa}{mg:Str->aq ak}{eB h:Heap}{x q:Str}{st:Stmt}{f:aj}{fd:ah}{k:Nat}{ps:ao Str}{sp:Sp}(G:K.In h)(N:h.Ns mainGlobals mg)(F:iS K x q st f fd)(ok:fA P w K mg eB (lW P w) k f fd ps sp)(hb:Binds K fd ps [])
 (a:W.nsIn K mainGlobals x=some (some<|.ref f):=by kernel_rfl):mG P w K mg eB x k ps sp:=⟨f,fd,ok,bZ G N a,F.kp,hb⟩
def Rq {P:ae}{w:af}{K:aa}{mg:Str->aq ak}{eB h:Heap}{x q:Str}{st:Stmt}{f:aj}{fd:ah}{k:Nat}{ps:ao Str}{sp:ot}(G:K.In h)(N:h.Ns mainGlobals mg)(F:iS K x q st f fd)(ok:Il P w K mg eB k f fd ps sp)(hb:Binds K fd ps [])
 (a:W.nsIn K mainGlobals x=some (some<|.ref f):=by kernel_rfl):WD P w K mg eB x k ps sp:=⟨f,fd,ok,bZ G N a,F.kp,hb⟩
def eW {μ:MS}(em:μ[0]?=some m):(μ.set 0 n)[0]?=some n:=aJ (mW em).1
def jj {μ:MS}(em:μ[0]?=some m):(μ.set 0 n).set 0 m=μ:=by
 cases μ with
 |nil=>cases em
 |cons a r=>cases em;rfl
def fC (hK:Kb=FX n (gX fi H m Kx))(em:μ[0]?=some m)(k:Kx c μ):(μ.set 0<|.gx fi H)[0]?=some (.gx fi H)/\Kb c (μ.set 0<|.gx fi H):=⟨eW em,hK▸.inl ⟨eW em,by rwa [jj em]⟩⟩
def iG {K:DK}(em:μ[0]?=some m)(k:K d μ):gK fi H m K d (μ.set 0<|.gx fi H):=⟨eW em,by rwa [jj em]⟩
def CS (n e a b:Int):Prop:=e<a/\a<b/\b<=n
instance (n e a b:Int):Decidable (CS n e a b):=by unfold CS;infer_instance
def uN (cB:aj):jc:=λds μ K Kx=>dM [.i,.i,.i,.i] ds λn e a b=>(∃ m,μ[0]?=some m)/\(CS n e a b->K .gw μ)/\(¬ CS n e a b->Kx (.ref cB) μ)
def y0 {cB:aj}{K:DK}(h:uN cB ds μ K Kx):ds.length=4/\∃ m,μ[0]?=some m:=by obtain⟨_,_,_,_,rfl,h⟩:=dJ h;exact⟨rfl,h.1⟩
def sy (n:Int):Int->Nat->ao (Int×Int)->aq (ao Nat)
 |_,k,[]=>some (List.replicate (n - k).toNat 120)
 |e,k,(a,b)::r=>if CS n e a b then(sy n b b.toNat r).map λl=>List.replicate (a - k).toNat 120++(List.replicate (b - a).toNat 111++l)else none
def Uu (p:Int×Int):D:=.tup [.int p.1,.int p.2]
def BG (cB:aj):jc:=λds μ K Kx=>dM [.i,.l] ds λn y=>(∃ m,μ[0]?=some m)/\∃ rs:ao (Int×Int),y=rs.map Uu/\0<=n/\n<=1000/\rs.length<=1000/\(match sy n (-1) 0 rs with|some l=>K (.str ⟨l.toArray⟩) μ|none=>Kx (.ref cB) μ)
def D3 {cB:aj}{K:DK}(h:BG cB ds μ K Kx):ds.length=2/\∃ m,μ[0]?=some m:=by obtain⟨_,_,rfl,h⟩:=dJ h;exact⟨rfl,h.1⟩
def Vh (K:aa)(cs:ao aj)(j:Nat):Bool:=(List.range 17).all λi=>W.kitOne K (.ref<|cs.getD j 0) (.ref<|cs.getD i 0)==some (decide (i=j))
structure lV (K:aa)(cs:List aj)(cH:aj)(j:Nat):Prop where
 ef:RI K (cs.getD j 0)
 kit:Vh K cs j=true
 kv:W.kitOne K (.ref<|cs.getD j 0) (.type "ValueError")=some true
 sub:EG K (cs.getD j 0) cH
def lV.at_ {K:aa}(h:lV K cs cH j)(i:Nat)(hi:i<17):W.kitOne K (.ref<|cs.getD j 0) (.ref<|cs.getD i 0)=some (decide (i=j)):=by have:=List.all_eq_true.mp h.kit i<|List.mem_range.mpr hi;simpa using this
def m5 (j:Nat):Str:=(["BadBars","BadMake","BadNumber","BadText","BadName","BadAge","BadBar","BadPlace","BadSize","Taken","Full","NoTake","Shut","Joined","Needed","NothingLeft","NoWay"]:ao Str).getD j ""
structure RF (x:Str)(C:aj)(mg:Str->Option ak):Prop where
 bound:mg x=some (.ref C)
section
variable {X:Cx}{a b e o:Expr}{es:ao Expr}{pos:Pos}
def dFz (w:De):De:=λρ μ K=>w ρ μ (Fz μ.length K)
def BN (h:PD X e w):PD X e (dFz w):=h.imp λσ H Q hq=>by refine fF hq λφ ρ μ K A M k L=>?_;exact⟨φ,ρ,μ,_,A,M,k,L.fz M⟩
def tFrz (t:TE):TE:=λσ H Q=>t σ H λv H1=>∃ a eP,v=.ref a/\H1 a=some (.dK eP)/\∀ o,Q v (upd H1 a<|.vm o<|.dK eP)
def UO (h:PE X e t):PE X e (tFrz t):=λee s σ H Q I q =>gg (h ee s σ H _ I q) λv s1 hq=>by obtain⟨x,H1,I1,r1,a,eP,ex,e1,q1⟩:=hq;subst ex;refine JM (freeze I1<|.inl e1) λo vs ep kv hd da hs I2=>?_;exact⟨_,_,I2,r1,q1 o⟩
def dFrz (w:De):De:=λρ μ K=>w ρ μ λx eV=>match x with
 |.mr j=>∃ ks ds,eV[j]?=some (.lh ks ds)/\∀(o:Obj) (eP:ao (Key×V)),eP.map (·.1)=ks->K (.mr j) (eV.set j<|.se o eP ds)
 |_=>False
def HP (h:PD X e w):PD X e (dFrz w):=(UO h).imp λσ H Q hq=>by
 refine fF hq λφ ρ μ K A M k L=>?_;refine⟨φ,ρ,μ,_,A,M,k,λd eV fo v1 H1 k1 f1 M1 i1=>?_⟩;cases d with
 | mr k =>have i1':=i1;obtain⟨p,hp,rfl⟩:=i1;refine mD k1 λks ds em k1=>?_;obtain⟨p',e1,eP,vs,h1,h2,h3,h4⟩:=M1.at_ k _ em;rw[hp]at e1;cases e1;subst h3;refine⟨p,eP,rfl,h1,λo=>?_⟩;have f2:Fr fo H1 fo (upd H1 p<|.vm o<|.dK eP):=.put<|ET hp;have M2:=M1.put (m:=.se o eP ds) hp ⟨eZ,h4.mono f2⟩;exact L _ _ fo _ _ (k1 o eP h2) (f1.trans f2) M2 (i1'.mono f2)
 |_=>exact k1.elim
def ZV:De:=λ_ μ K=>K (.pF [] []) μ
def BO:PD X (.Dict [] [] pos) ZV:=(BN<|HP NN).imp λσ H Q hq=>by refine fF hq λφ ρ μ K A M k L=>?_;refine⟨φ,ρ,μ,K,A,M,⟨[],[],by rw[ou (au _),aO];rfl,λo eP hk=>?_⟩,L⟩;have e0:(μ++[MO.lh [] []]).set μ.length (.se o eP [])=μ++[.se o eP []]:=gM;rw[e0];refine Fz.pF (au _) (by rw[ou (au _),aO];rfl) (show r6 _ []from True.intro) (gV M.bound) ?_;rwa [aV,hk]
def Gb (i:kP φ H (.pF ks ds) v):∃ p o eP,v=.ref p/\H p=some (.vm o<|.dK eP)/\eP.map (·.1)=ks/\fe φ H ds (eP.map (·.2)):=by refine y6 i λp o eP vs fE _ h1 h2 qk h3=>?_;subst fE;subst qk;exact⟨p,o,eP,rfl,h1,h2,h3⟩
def YX (ks:ao Key)(ds:ao D)(y:D):aq (aq D):=(vN y).map λk=>ub (ks.zip ds) k
def dIxF:Ag:=λx y μ K=>match x with
 |.pF ks ds=>∃ d,YX ks ds y=some (some d)/\K d μ
 |.mr j=>∃ d,Vs μ j y=some (some d)/\K d μ
 |_=>False
def vn (hu:X.A.units+1<cLine)(ha:PD X a wa)(hb:PD X b wb)(hs:RG b):PD X (.Subscript a b pos) (zJ dIxF wa wb):=(Qf hu ha hb hs).imp λσ H Q hq=>by
 refine fF hq λφ ρ μ K A M k L=>?_;refine⟨φ,ρ,μ,_,A,M,k,λd1 eV fo v1 H1 k1 f1 M1 i1=>⟨fo,ρ,eV,_,A.mono f1,M1,k1,λd2 ik lQ v2 H2 k2 f2 M2 i2=>?_⟩⟩;cases d1 with
 | pF ks ds =>refine eS k2 λd ex k2=>?_;refine eS (Option.map_eq_some_iff.mp ex) λk ek ed=>?_;refine Gw (Gb<|i1.mono f2) λp o eP fE rd e1 ha=>?_;subst fE;cases rQ ek i2;refine eS (D7 e1 ha ed) λv ev iv=>?_;exact⟨p,v,rfl,.inl ⟨eP,k,.inr ⟨o,rd⟩,rfl,ev.symm⟩,(L.mono<|f1.trans f2).val M2 k2 iv⟩
 | mr j =>refine eS k2 λd ex k2=>?_;refine tj (Mo ex) λks ds k em ek ed=>?_;refine JN (BJ M2 (i1.mono f2) em) λp eP hp fE rd e1 ha=>?_;subst fE;cases rQ ek i2;refine eS (D7 e1 ha ed) λv ev iv=>?_;exact⟨p,v,rfl,.inl ⟨eP,k,rd,rfl,ev.symm⟩,(L.mono<|f1.trans f2).val M2 k2 iv⟩
 |_=>exact k2.elim
def NU (neg:Bool):Ag:=λx y μ K=>match y with
 |.pF ks ds=>∃ o,YX ks ds x=some o/\K (.bl<|neg != o.isSome) μ
 |.mr j=>∃ o,Vs μ j x=some o/\K (.bl<|neg != o.isSome) μ
 |_=>False
def Ms {K:DK}(M:fG φ H μ)(ix:kP φ H x vx)(iy:kP φ H y vy)(k:NU neg x y μ K)(L:uW φ H K Q):∃ p o,vy=.ref p/\EH H p vx o/\Q (.bl<|neg != o.isSome) H:=by
 cases y with
 | pF ks ds =>
  refine eS k λoo ex k2=>?_;obtain⟨k,ek,rfl⟩:=Option.map_eq_some_iff.mp ex;refine Gw (Gb iy) λp o eP fE rd e1 ha=>?_;subst fE;cases rQ ek ix;refine⟨p,qy eP k,rfl,.inl ⟨eP,k,.inr ⟨o,rd⟩,rfl,rfl⟩,?_⟩;have es:(qy eP k).isSome=(ub (ks.zip ds) k).isSome:=by rcases D6 k e1 ha with⟨g1,g2⟩|⟨d,v,g1,g2,_⟩<;> (rw[g1,g2];rfl)
  rw[es];exact L.val M k2 rfl
 | mr j =>
  refine eS k λoo ex k2=>?_;refine tj (Mo ex) λks ds k em ek fE=>?_;subst fE;refine JN (BJ M iy em) λp eP hp fE rd e1 ha=>?_;subst fE;cases rQ ek ix;refine⟨p,qy eP k,rfl,.inl ⟨eP,k,rd,rfl,rfl⟩,?_⟩;have es:(qy eP k).isSome=(ub (ks.zip ds) k).isSome:=by rcases D6 k e1 ha with⟨g1,g2⟩|⟨d,v,g1,g2,_⟩<;> (rw[g1,g2];rfl)
  rw[es];exact L.val M k2 rfl
 |_=>exact k.elim
def TU (h:tD (zJ (NU false) wa wb) σ H Q):XA (tD wa) (tD wb) σ H Q:=by refine fF h λφ ρ μ K A M k L=>?_;refine⟨φ,ρ,μ,_,A,M,k,λd1 eV fo v1 H1 k1 f1 M1 i1=>⟨fo,ρ,eV,_,A.mono f1,M1,k1,λd2 ik lQ v2 H2 k2 f2 M2 i2=>?_⟩⟩;refine fw (Ms M2 (i1.mono f2) i2 k2<|L.mono<|f1.trans f2) λp o e g q=>?_;rw[Xa]at q;exact⟨p,o,e,g,q⟩
def Iv (h:tD (zJ (NU true) wa wb) σ H Q):GW (tD wa) (tD wb) σ H Q:=by refine fF h λφ ρ μ K A M k L=>?_;refine⟨φ,ρ,μ,_,A,M,k,λd1 eV fo v1 H1 k1 f1 M1 i1=>⟨fo,ρ,eV,_,A.mono f1,M1,k1,λd2 ik lQ v2 H2 k2 f2 M2 i2=>?_⟩⟩;refine fw (Ms M2 (i1.mono f2) i2 k2<|L.mono<|f1.trans f2) λp o e g q=>?_;rw[tne]at q;exact⟨p,o,e,g,q⟩
def RW (hu:X.A.units+1<cLine)(ha:PD X a wa)(hb:PD X b wb)(hmk:behindInMarks .In b=false):GI X (.Compare a [.In] [b] pos) (sf<|zJ (NU false) wa wb):=(AX (UT hu ha hb) hmk).imp λσ H Q hq=>GY (λQ q=>TU q) hq
def CC (hu:X.A.units+1<cLine)(ha:PD X a wa)(hb:PD X b wb)(hmk:behindInMarks .NotIn b=false):GI X (.Compare a [.NotIn] [b] pos) (sf<|zJ (NU true) wa wb):=(AX (Jb hu ha hb) hmk).imp λσ H Q hq=>GY (λQ q=>Iv q) hq
def ZL (μ:MS):D->aq (ao Key×ao D)
 |.pF ks ds=>some (ks,ds)
 |.mr j=>BK μ j
 |_=>none
def BL (M:fG φ H μ)(i:kP φ H d v)(h:ZL μ d=some q):∃ p eP,v=.ref p/\Rd H p (.dK eP)/\eP.map (·.1)=q.1/\fe φ H q.2 (eP.map (·.2)):=by
 cases d with
 | pF ks ds =>cases h;refine Gw (Gb i) λp o eP fE rd e1 ha=>?_;subst fE;exact⟨p,eP,rfl,.inr ⟨o,rd⟩,e1,ha⟩
 | mr j =>refine JN (BJ M i h) λp eP hp fE rd e1 ha=>?_;subst fE;exact⟨p,eP,rfl,rd,e1,ha⟩
 |_=>cases h
def V0:ot:=λds μ K=>dM [.v] ds λx=>opt (ZL μ x) λq=>K (.mr μ.length) (μ++[.lh q.1 q.2])
def Ld:mY Fg V0:=λφ H vs ds μ K Q M h k L=>by obtain⟨_,rfl,k⟩:=dJ k;obtain⟨v,r,rfl,h1,h2⟩:=h;cases h2;let ⟨q,em,k⟩:=gJ k;obtain⟨p,eP,rfl,rd,e1,ha⟩:=BL M h1 em;refine⟨eP,rd,λp' OO=>?_⟩;have f:Fr φ H (φ++[p']) (upd H p'<|.dK eP):=⟨(Fr.snoc OO).ext,λc u _ e=>gT.upd OO _ _ e,λc e=>(gT.upd OO).free e⟩;obtain⟨M',f'⟩:=M.snoc (m:=.lh q.1 q.2) OO ⟨eP,_,eZ,e1,rfl,ha.mono f⟩;exact L _ _ _ _ _ k f' M' ⟨p',by rw[ou (by rw[M.len];exact au _),M.len,aO];rfl,rfl⟩
def Lu:ao V->Hp->VK->Prop:=λvs H Q=>match vs with
 |[.ref a]=>∃ eP,Rd H a (.dK eP)/\Q (.int eP.length) H
 |_=>False
def lenD:jg X (.builtin "len") Lu:=by
 intro ee s σ H xs us Q I r h;delta Lu at h;split at h
 .refine eS h λeP rd q=>?_;refine eS r.one λu fE ru=>?_;subst fE;subst ru;exact ZO I rd λt s' I'=>⟨.int _,H,I',⟨t,rfl⟩,q⟩
 .cases h
def Zy:ot:=λds μ K=>dM [.v] ds λx=>opt (ZL μ x) λq=>K (.int q.1.length) μ
def Po:mY Lu Zy:=λφ H vs ds μ K Q M h k L=>by
 obtain⟨_,rfl,k⟩:=dJ k;obtain⟨v,r,rfl,h1,h2⟩:=h;cases h2;let ⟨q,em,k⟩:=gJ k;obtain⟨p,eP,rfl,rd,e1,ha⟩:=BL M h1 em;have el:eP.length=q.1.length:=by rw[<- e1,jf]
 exact⟨eP,rd,by rw[el];exact L.val M k rfl⟩
def Fe:ao V->Hp->VK->Prop:=λvs H Q=>match vs with
 |[.ref a]=>∃ eP,Rd H a (.dK eP)/\∀ p,H p=none->Q (.ref p) (upd H p<|.lst<|eP.map λkv=>kV kv.1)
 |_=>False
theorem _root_.L2.fH.xp:∀ {xs:ao V} {us:ao ak},xs.length=us.length->(∀(i:Nat) (x:V) (u:ak),xs[i]?=some x->us[i]?=some u->fM x u)->fH xs us
 | [],us,hl,_=>by cases us with
  |nil=>exact .nil
  |cons v r=>simp at hl
 | d::ds,us,hl,h=>by cases us with
  |nil=>simp at hl
  |cons v r=>exact .cons (h 0 d v rfl rfl) (fH.xp (by simpa using hl) λi a b e1 e2=>h (i+1) a b (by simpa using e1)<|by simpa using e2)
def Jq (kv:KV eP vs)(h:ItemsOf (λi v=>∃ k x,vs[i]?=some (k,x)/\(gW X.prog X.w).is k v=true) acc vs.length):fH (eP.map λkv=>kV kv.1) acc.toList:=by
 refine fH.xp (by rw[jf,kv.length,<- h.1];exact(cu).symm) λi x u e1 e2=>?_;rw[wd]at e1;cases q:eP[i]? with
 |none=>rw[q]at e1;cases e1
 | some p =>rw[q]at e1;cases e1;refine kZ (Qg kv q) λv hv=>?_;refine mD (h.2 i u<|by rwa [<- Array.getElem?_toList]) λk x e3 e4=>?_;rw[hv]at e3;cases e3;exact Sq e4
def YI (gE:X.gE=true):jg X (.type "list") Fe:=by
 intro ee s σ H xs us Q I r h;delta Fe at h;split at h
 .rename_i a;refine eS h λeP rd q=>?_;refine eS r.one λu fE ru=>?_;subst fE;subst ru;obtain⟨z,hd,vs,rel,dd⟩:=pw I.fB rd;refine kZ dd.dictAt λep da=>?_;refine W.kdl_call (W.kdl_dict hd) (I.ok.hd gE) da (rel.length▸‹_›) λh' tk Wv c' kp hl it=>?_;have I2:Inv X ee σ (upd H s.heap.objs.size<|.lst<|eP.map λkv=>kV kv.1) {s with heap:=h',toks:=tk}:=I.laid (t':=tk) kp (au _) ⟨by rwa [jf],Wv.toList,c',Jq rel it,hl⟩;exact⟨.ref s.heap.objs.size,_,I2,rfl,q _<|I.fB.fresh<|au _⟩
 .cases h
def VY (m:Bool):ot:=λds μ K=>dM [.v] ds λx=>opt (ZL μ x) λq=>nL m (q.1.map vM) μ K
theorem DB:∀(eP:ao (Key×V)),fe φ H ((eP.map (·.1)).map vM) (eP.map λkv=>kV kv.1)
 |[]=>rfl
 |p::eP=>⟨_,_,rfl,Hn _,DB eP⟩
def La:mY Fe (VY m):=λφ H vs ds μ K Q M h k L=>by obtain⟨_,rfl,k⟩:=dJ k;obtain⟨v,r,rfl,h1,h2⟩:=h;cases h2;let ⟨q,em,k⟩:=gJ k;obtain⟨p,eP,rfl,rd,e1,ha⟩:=BL M h1 em;refine⟨eP,rd,λp' OO=>?_⟩;rw[<- e1]at k;exact Ey L M (DB eP) k OO
def Itvf (a:aj)(o:Obj)(eP:ao (Key×V)):It:=⟨λi H=>i<eP.length/\H a=some (.vm o<|.dK eP),λi H x H'=>H'=H/\∃ p,eP[i]?=some p/\x=p.2,λi H=>eP.length<=i/\H a=some (.vm o<|.dK eP)⟩
def xi {κ:Type}{eP:ao (κ×V)}{vs:ao (κ×ak)}(h:KV eP vs):∀ {i:Nat} {p:κ×V},eP[i]?=some p->∃ v,vs[i]?=some (p.1,v)/\fM p.2 v:=by
 induction h with
 |nil=>intro i p e;contradiction
 | @cons a b as bs r _ ih =>
  intro i p e;cases i with
  | zero =>simp at e;subst e;refine⟨b.2,?_,r.2⟩;rw[r.1];rfl
  |succ i=>exact ih (by simpa using e)
def Am {K:aa}(a it:aj){o:Obj}(kv:KV eP vs)(hd:∀ h:Heap,h.get? a=some o->h.DictAt (gW P w) a vs ep):
 Turn P w K tg (Itvf a o eP) [it] it (λi h=>h.IsValIter it a i vs.length ep) where
 mem:=by simp
 obj:=λi h st b hb=>by
  have e:b=it:=by simpa using hb
  subst e;refine oy st λo e c d=>?_;exact⟨o,e,λv z=>by rw[d]at z;cases z⟩
 keep:=λi h h' st k=>by refine eS st λo e c=>?_;exact⟨o,k it (by simp) o e,c⟩
 item:=by intro X hP hw hK hc i ee s σ H E I hf st hg;subst hP hw hK;refine jS hg λhi hq=>?_;obtain⟨p,hp⟩:∃ p,eP[i]?=some p:=⟨_,vk hi⟩;refine eS (xi kv hp) λv hv rv=>?_;have ho:=(I.fB a _ hq).1;refine rf (hf it<|by simp) λf0 f1 f2 f3 f4 f5=>?_;refine wpAny_pyNext_values_item st (hd _ ho) hv λh' Ci sb=>?_;have I1:Inv X ee σ H {s with heap:=h'}:=I.turned (t':=s.toks) (λb o hb e=>(sb.2 b hb).trans e) f0 f1 f3 f4 f5;refine oy (id Ci) λoi e c d=>?_;exact⟨v,rfl,zD e c d (by decide) ⟨p.2,H,I1,rv,⟨rfl,p,hp,rfl⟩,Ci,λb hb=>(hf b hb).1⟩⟩
 done:=by intro X hP hw hK hc i ee s σ H E I hf st hg;subst hP hw hK;refine jS hg λhi hq=>?_;have ho:=(I.fB a _ hq).1;refine rf (hf it<|by simp) λf0 f1 f2 f3 f4 f5=>?_;have hl:=KV.length kv;exact wpAny_pyNext_values_end (I.ok.hd hc) st (hd _ ho) (List.getElem?_eq_none_iff.mpr<|by lia) λh' eb=>⟨rfl,I.turned (t':=s.toks) (λb o hb e=>eb b o hb e) f0 f1 f3 f4 f5⟩
 self:=λ_ _ _ _ _ st h=>wpAny_pyIter_valiter st h
end
section
variable {X:Cx}{a b e o:Expr}{es:ao Expr}{pos fZ fW:Pos}{tg:Expr}
def HJ (I:Inv X ee σ H s)(rd:Rd H p (.dK eP)):s.TypeIs (.ref p) "dict"/\∀ a,Value.ref p=.ref a->∃ ob,s.heap.get? a=some ob/\ob.dict=none:=by obtain⟨_,_,_,_,ob,_,_,e,ex,_⟩:=pw I.fB rd;exact⟨⟨ob,e,ex.1⟩,λa e2=>by cases e2;exact⟨ob,e,ex.2.1⟩⟩
def zm (ho:PE X o t)(I:Inv X ee σ H s)
 (h:t σ H λx H1=>∃ d eP,x=.ref d/\Rd H1 d (.dK eP)/\∀ s1,Inv X ee σ H1 s1->∀ v,v<s1.heap.objs.size->(∀ b,H1 b≠none->b≠v)->H1 v=none->s1.heap.IsValuesView v d->Q (.ref v) s1)
 (iF:attributeBase o "values" X.env (eval o X.env)=eval o X.env:=by rfl) (iZ:(fZ.endLine==fW.line)=true:=by rfl):wpAny (model X.prog X.w) X.A (eval (.Call (.Attribute o "values" fZ) [] [] fW) X.env) Q X.xe s:=by
 refine cO iF iZ (gg (ho ee s σ H _ I h) λv s1 hq=>?_);obtain⟨x,H1,I1,r1,d,eP,ex,rd,q⟩:=hq;subst ex;subst r1;obtain⟨z,hd,vs,rel,dd⟩:=pw I1.fB rd;refine jS (HJ I1 rd) λh1 h2=>?_;exact⟨"dict","dict.values",F.plainAttrs_dict,F.slot_dict_values,F.type_dict_values,h1,h2,bO rfl (dk<|call_meetsIn F.slot_dict_values h1 F.entry_dict_values (F.args_dict_values_1 _) (meets_dict_values (gW X.prog X.w) d hd) ⟨⟨vs,dd⟩,q _ (I1.eI (t':=s1.toks) λb o e=>kJ _ e) s1.heap.objs.size (by show _<(s1.heap.objs.push _).size;rw[Array.size_push];exact b9 _) (λb hb e=>hb<|e▸I1.fB.fresh (au _)) (I1.fB.fresh<|au _) ⟨_,aC _ rfl,rfl,rfl⟩⟩)⟩
def ZY (w:De):DI:=λρ μ K=>w ρ μ λd eV=>match d with
 |.pF ks ds=>ks.length=ds.length->K ds (λ_=>True) eV
 |_=>False
def Jv (h:PD X o w)(iF:attributeBase o "values" X.env (eval o X.env)=eval o X.env:=by rfl)(iZ:(fZ.endLine==fW.line)=true:=by rfl):J0 X tg (.Call (.Attribute o "values" fZ) [] [] fW) (ZY w):=by
 intro ee s σ H R I hq;refine fF hq λφ ρ μ K A M k L=>?_;refine zm h I ⟨φ,ρ,μ,_,A,M,k,λd eV fo v1 H1 k1 f1 M1 i1=>?_⟩ iF iZ;cases d with
 | pF ks ds =>
  refine y6 i1 λp oo eP vs fE hn h1 qk r2_ h3=>?_;subst fE;subst qk;subst r2_;refine⟨p,eP,rfl,.inr ⟨oo,h1⟩,λs1 I1 v hv Jz hvn view=>?_⟩;refine JM (freeze I1<|.inr ⟨oo,h1⟩) λo' vs' ep kv hd da hs I2=>?_;have ho:=(I1.fB p _ h1).1;have zA:=(I2.fB p _ eZ).1;rw[ho]at zA;cases zA;refine wpAny_pyIter_values view da ?_;have hl:ds.length=eP.length:=by have:=h3.len;rw[jf]at this;exact this.symm
  refine⟨s1.heap.objs.size,[s1.heap.objs.size],_,_,H1,rfl,I1.eI (t':=s1.toks) λb o e=>kJ _ e,Am p _ kv hd,⟨_,aC _ rfl,rfl,rfl⟩,λb hb=>?_,?_⟩
  .have e:b=s1.heap.objs.size:=by simpa using hb
   subst e
   exact I1.Bo (au _) (I1.fB.fresh<|au _)
  .refine L _ _ _ fo _ _ (k1<|by rw[jf,hl]) f1 M1 λfO H' fj f' M' c i=>?_;have OT:=f'.keep _ _ hn h1;refine⟨λd hd=>⟨⟨?_,OT⟩,λx Oz hy=>?_⟩,λhi=>⟨by lia,OT⟩⟩
   .have:=(mW hd).1;lia
   .obtain⟨rfl,q,hq,rfl⟩:=hy;refine eS ((h3.mono f').get hd) λv' e1 e2=>?_;rw[wd,hq]at e1;cases e1;exact⟨.refl _ _,M',e2⟩
 |_=>exact k1.elim
def Wm (m:Bool)(w:De):De:=λρ μ K=>w ρ μ λd eV=>opt (ZL eV d) λq=>nL m q.2 eV K
def KJ {eP:ao (Key×V)}(kv:KV eP vs)(h:ItemsOf (λi v=>∃ k,vs[i]?=some (k,v)) acc vs.length):fH (eP.map (·.2)) acc.toList:=by
 refine fH.xp (by rw[jf,kv.length,<- h.1];exact(cu).symm) λi x u e1 e2=>?_;rw[wd]at e1;cases q:eP[i]? with
 |none=>rw[q]at e1;cases e1
 | some p =>rw[q]at e1;cases e1;refine eS (xi kv q) λv hv rv=>?_;refine kZ (h.2 i u<|by rwa [<- Array.getElem?_toList]) λk e3=>?_;rw[hv]at e3;cases e3;exact rv
def Gz (m:Bool)(gE:X.gE=true)(hg:Gl X "list")(hm:X.mg "list"=none)(h:PD X o w)(iF:attributeBase o "values" X.env (eval o X.env)=eval o X.env:=by rfl)(iZ:(fZ.endLine==fW.line)=true:=by rfl)
 (hs3:starEach [.Call (.Attribute o "values" fZ) [] [] fW] X.env=[(false,eval (.Call (.Attribute o "values" fZ) [] [] fW) X.env)]:=by rfl):
 PD X (.Call (.Name "list" p) [.Call (.Attribute o "values" fZ) [] [] fW] [] pos) (Wm m w):=by
 intro ee s σ H Q I hq;refine bu<|nN I hg hm boot_list ?_;refine fF hq λφ ρ μ K A M k L=>?_;refine bj (cc<|zm h I ⟨φ,ρ,μ,_,A,M,k,λd eV fo v1 H1 k1 f1 M1 i1=>?_⟩ iF iZ) hs3 rfl;refine eS (gJ k1) λq em k1=>?_;refine jX (BL M1 i1 em) λp' eP fE rd e1 ha=>?_;subst fE;refine⟨p',eP,rfl,rd,λs1 I1 v hv Jz hvn view=>cD ?_⟩;obtain⟨z,hd,vs,rel,dd⟩:=pw I1.fB rd;refine kZ dd.dictAt λep da=>?_;refine W.kdl_call (W.kdl_values) (I1.ok.hd gE) ⟨view,da⟩ (rel.length▸‹_›) λh' tk Wv c' kp hl it=>?_;have I2:Inv X ee σ (upd H1 s1.heap.objs.size (.lst (eP.map (·.2)))) { s1 with heap:=h',toks:=tk}:=I1.laid (t':=tk) kp (au _) ⟨by rwa [jf],Wv.toList,c',KJ rel it,hl⟩;exact⟨.ref s1.heap.objs.size,_,I2,rfl,Ey (L.mono f1) M1 ha k1<|I1.fB.fresh<|au _⟩
end
def vQ:entryFor table "dict_itemiterator.__iter__"=some Builtin.«dict_keyiterator.__iter__»:=entryFor_alias (id<|Eq.refl<|fastTable "dict_itemiterator.__iter__") rfl (by decide +kernel) (id<|Eq.refl<|fastTable "dict_keyiterator.__iter__")
def CZ (st:IsItemIter s.heap it d i n ep ok ov)(h:Q (.ref it) s):wpAny (model prog w) A (pyIter<|.ref it) Q E s:=by have hT:s.TypeIs (.ref it) "dict_itemiterator":=⟨_,st,rfl⟩;refine wpAny_pyIter_slot hT F.slot_dict_itemiterator_iter<|cw F.slot_dict_itemiterator_iter hT vQ ?_<|F.args_dict_itemiterator_iter_1 _;have hn:=F.slot_dict_itemiterator_next.lookup;exact av ⟨.ref it,rfl,_,_,hT,hn,h⟩
def Iti (a:aj)(o:Obj)(eP:ao (Key×V)):It:=⟨λi H=>i<eP.length/\H a=some (.vm o<|.dK eP),λi H x H'=>∃ T p,x=.ref T/\H T=none/\eP[i]?=some p/\H'=upd H T (.tup [kV p.1,p.2]),λi H=>eP.length<=i/\H a=some (.vm o<|.dK eP)⟩
def E5 {K:aa}(a it:aj)(kv:KV eP vs)(hd:∀ h:Heap,h.get? a=some o->h.DictAt (gW P w) a vs ep):
 Turn P w K (.Tuple elts kk vH) (Iti a o eP) [it] it (λi h=>∃ ok ov,IsItemIter h it a i vs.length ep ok ov) where
 mem:=by simp
 obj:=λi h st b hb=>by
  have e:b=it:=by simpa using hb
  subst e;refine JO st λok ov e=>?_;exact⟨_,e,λv z=>by cases z⟩
 keep:=λi h h' st k=>by refine JO st λok ov e=>?_;exact⟨ok,ov,k it (by simp) _ e⟩
 item:=by
  intro X hP hw hK hc i ee s σ H E I hf st hg;subst hP hw hK;refine JO st λok ov st=>?_;refine jS hg λhi hq=>?_;obtain⟨p,hp⟩:∃ p,eP[i]?=some p:=⟨_,vk hi⟩;refine eS (xi kv hp) λv hv rv=>?_;have ho:s.heap.get? a=some o:=(I.fB a _ hq).1;refine wpAny_pyNext_items_item st (hd _ ho) hv λkey h1 VL out hT hsz qu=>?_;refine⟨_,rfl,wpAny_letOwnedTupleGo_items out λh2 G1 uM=>?_⟩;have lte:it<s.heap.objs.size:=kG st;have ne1:=bh lte;have hT2:=(uM.2 _ ne1).trans hT;have kp:∀ b o,b∉[it]->s.heap.get? b=some o->h2.get? b=some o:=λb o hb q=>by have b1:b≠it:=λz=>hb (by simp[z]);exact(uM.2 b b1).trans (qu b o b1 q)
  have hn:=I.fB.fresh<|au _;have I1:=I.KQ (ch:=[it]) (h'':=h2) (x:=kV p.1) (y:=p.2) hf kp hT2 (Sq VL) rv;refine⟨.ref s.heap.objs.size,_,I1,rfl,⟨_,p,rfl,hn,hp,rfl⟩,⟨_,_,G1⟩,λb hb=>?_⟩;rw[e9]
  .exact(hf b hb).1
  .have e:b=it:=by simpa using hb
   rw[e];exact aF lte
 done:=by intro X hP hw hK hc i ee s σ H E I hf st hg;subst hP hw hK;refine JO st λok ov st=>?_;refine jS hg λhi hq=>?_;have ho:s.heap.get? a=some o:=(I.fB a _ hq).1;refine rf (hf it<|by simp) λf0 f1 f2 f3 f4 f5=>?_;have hl:=KV.length kv;exact wpAny_pyNext_items_end (I.ok.hd hc) st (hd _ ho) (List.getElem?_eq_none_iff.mpr<|by lia) λh' eb=>⟨rfl,I.turned (t':=s.toks) (λb o hb e=>eb b o hb e) f0 f1 f3 f4 f5⟩
 self:=λ_ _ _ _ _ st h=>let ⟨_,_,e⟩:=st;CZ e h
section
variable {X:Cx}{a b e o:Expr}{es:ao Expr}{pos fZ fW:Pos}{tg:Expr}
def LK (ho:PE X o t)(I:Inv X ee σ H s)
 (h:t σ H λx H1=>∃ d eP,x=.ref d/\Rd H1 d (.dK eP)/\∀ s1,Inv X ee σ H1 s1->∀ v,s1.heap.IsItemsView v d->Q (.ref v) s1)
 (iF:attributeBase o "items" X.env (eval o X.env)=eval o X.env:=by rfl) (iZ:(fZ.endLine==fW.line)=true:=by rfl):wpAny (model X.prog X.w) X.A (eval (.Call (.Attribute o "items" fZ) [] [] fW) X.env) Q X.xe s:=by
 refine cO iF iZ (gg (ho ee s σ H _ I h) λv s1 hq=>?_);obtain⟨x,H1,I1,r1,d,eP,ex,rd,q⟩:=hq;subst ex;subst r1;obtain⟨z,hd,vs,rel,dd⟩:=pw I1.fB rd;refine jS (HJ I1 rd) λh1 h2=>?_;exact⟨"dict","dict.items",F.plainAttrs_dict,F.slot_dict_items,F.type_dict_items,h1,h2,bO rfl (dk<|call_meetsIn F.slot_dict_items h1 F.entry_dict_items (F.args_dict_items_1 _) (meets_dict_items (gW X.prog X.w) d hd) ⟨⟨vs,dd⟩,q _ (I1.eI (t':=s1.toks) λb o e=>kJ _ e) s1.heap.objs.size ⟨_,aC _ rfl,rfl,rfl⟩⟩)⟩
def dItI (w:De):DI:=λρ μ K=>w ρ μ λd eV=>match d with
 |.pF ks ds=>ks.length=ds.length->K (List.zipWith (λk d=>D.tup [vM k,d]) ks ds) (λ_=>True) eV
 |_=>False
def DH (h:PD X o w)(iF:attributeBase o "items" X.env (eval o X.env)=eval o X.env:=by rfl)(iZ:(fZ.endLine==fW.line)=true:=by rfl):J0 X (.Tuple elts kk vH) (.Call (.Attribute o "items" fZ) [] [] fW) (dItI w):=by
 intro ee s σ H R I hq;refine fF hq λφ ρ μ K A M k L=>?_;refine LK h I ⟨φ,ρ,μ,_,A,M,k,λd eV fo v1 H1 k1 f1 M1 i1=>?_⟩ iF iZ;cases d with
 | pF ks ds =>
  refine y6 i1 λp oo eP vs fE hn h1 qk r2_ h3=>?_;subst fE;subst qk;subst r2_;refine⟨p,eP,rfl,.inr ⟨oo,h1⟩,λs1 I1 v view=>?_⟩;refine JM (freeze I1<|.inr ⟨oo,h1⟩) λo' vs' ep kv hd da hs I2=>?_;have ho:=(I1.fB p _ h1).1;have zA:=(I2.fB p _ eZ).1;rw[ho]at zA;cases zA;refine wpAny_pyIter_items view da ?_;have hl:ds.length=eP.length:=by have:=h3.len;rw[jf]at this;exact this.symm
  refine⟨s1.heap.objs.size,[s1.heap.objs.size],_,_,H1,rfl,I1.eI (t':=s1.toks) λb o e=>kJ _ e,E5 p _ kv hd,⟨_,_,aC _ rfl⟩,λb hb=>?_,?_⟩
  .have e:b=s1.heap.objs.size:=by simpa using hb
   subst e
   exact I1.Bo (au _) (I1.fB.fresh<|au _)
  .refine L _ _ _ fo _ _ (k1<|by rw[jf,hl]) f1 M1 λfO H' fj f' M' c i=>?_;have OT:=f'.keep _ _ hn h1;have lz:(List.zipWith (λk d=>D.tup [vM k,d]) (eP.map (·.1)) ds).length=eP.length:=by rw[List.length_zipWith,jf,hl,Nat.min_self]
   refine⟨λd hd=>⟨⟨?_,OT⟩,λx Oz hy=>?_⟩,λhi=>⟨by lia,OT⟩⟩
   .have:=(mW hd).1;lia
   .refine jX hy λT q fE hT hq qk=>?_;subst fE;subst qk;rw[List.getElem?_zipWith,wd,hq]at hd;cases e1:ds[i]? with
    |none=>rw[e1]at hd;cases hd
    | some dd =>rw[e1]at hd;cases hd;refine eS ((h3.mono f').get e1) λv' e2 e3=>?_;rw[wd,hq]at e2;cases e2;have fn:=Fr.new (φ:=fO) (o:=.tup [kV q.1,q.2]) hT;exact⟨fn,M'.same<|gT.upd hT,T,_,rfl,M'.fresh hT,eZ,_,_,rfl,Hn _,_,_,rfl,e3.mono fn,rfl⟩
 |_=>exact k1.elim
end
section
variable {prog:ae}{w:af}{A:Around}{E:ak->ai->Prop}{s:ai}
def Er {a c n:Nat}(hac:a<=c)(hc:c=n):sliceBounds (some (a:Int)) none none n=((a:Int),(c:Int),1):=by
 simp only[sliceBounds,Option.getD_none];have h1:¬ ((a:Int)<0):=by lia
 simp only[h1,dQ,show(1:Int)>0 by decide,if_true];congr 1
 .lia
 .congr 1;lia
set_option maxRecDepth 100000 in
def wM {l b sl:aj}{items new:Array ak}{n n2:Nat}{vl vu:ak}{a c:Nat}{Q:Unit->ai->Prop}
 (e:s.heap.get? l=some { cls:=.type "list",data:=.seq items n}) (e2:s.heap.get? b=some { cls:=.type "list",data:=.seq new n2}) (Jz:l≠b)
 (hs:s.heap.IsSliceOf sl vl vu .none) (pl:IsPart vl (some (a:Int))) (pu:IsPart vu none) (OS:c=items.size) (hac:a<=c) (hc:c<=items.size)
 (hsz:items.size+new.size<=sizeLine) (h:Q () {s with heap:=s.heap.update l (Obj.mapSeq λxs=>xs.extract 0 a++new++xs.extract c xs.size)}):
 wpAny (model prog w) A (setItem (.ref l) (.ref sl)<|.ref b) Q E s:=by
 have hl:s.heap.IsList l items:=PySem.IsL.isList e;have hb:s.heap.IsList b new:=PySem.IsL.isList e2;obtain⟨os,OP,W6,SD⟩:=id hs;have hTs:s.TypeIs (.ref sl) "slice":=⟨os,OP,W6⟩;have Y6:¬ ((rawPart none==rawInt 0)=true):=aM;have Mz:Builtin.List.listSameRef (.ref l) (.ref b)=false:=by unfold Builtin.List.listSameRef;exact beq_eq_false_iff_ne.mpr Jz
 have hmax:(max (a:Int) (c:Int)).toNat=c:=by lia
 have hz':((λxs:Array ak=>xs.extract 0 a++new++xs.extract c xs.size) items).size<=sizeLine+1:=by simp only[Array.size_append,Array.size_extract];lia
 unfold setItem;try with_reducible refine bo ?_
 first|refine fb (av ?_)|skip
 refine fb (wpAny_sequenceKey hl.typeIs (by decide) ?_);refine fb (bS (name:=Str.ofString "__setitem__") hl.typeIs slot_list_setitem
  (cw slot_list_setitem hl.typeIs entry_list_setitem ?_<|args_list_setitem _ _ _))
 show wpAny _ _ (Builtin.List.listSubscript? (.ref sl)>>=_) _ _ s;refine fb ?_;unfold Builtin.List.listSubscript?;refine fb<|wpAny_specialOf hTs slice_no_index ?_;simp only[Option.isNone_none,if_true];refine av ?_;show wpAny _ _ (typeOf (.ref sl)>>=_) _ _ s;refine fb<|wpAny_typeOf hTs ?_;first
  |rw[az (by decide)]
  |refine W.KFB.if_not (by decide) ?_
 rw[listSliceParts_eq];refine fb<|fb<|aX OP SD (x:=.none) rfl (fb<|wpAny_listPart .none ?_);rw[az Y6];refine fb<|aX OP SD (x:=vl) rfl (fb<|wpAny_listPart pl ?_);refine fb<|aX OP SD (x:=vu) rfl (fb<|wpAny_listPart pu<|av ?_);first
  |simp only[Mz,cz,dQ]
  |refine W.KFB.if_not Mz ?_
  | (dsimp only
     rw[az (by rw[Mz];exact aM)])
 refine fb (m:=Builtin.List.listAllItems (.ref b) "must assign iterable to extended slice") ?_;unfold Builtin.List.listAllItems;refine fb<|wpAny_typeOf hb.typeIs ?_;first
  |refine W.KFB.if_so (by decide) ?_
  |rw[aD (by decide)]
  |simp only[dh,Bool.true_or,if_true]
 unfold Builtin.List.listItems;refine fb<|bI e2 rfl (av ?_);refine fb<|fb<|bI e rfl (av ?_);refine fb (dN ((sliceIndices_raw (some (a:Int)) none none items.size<|by simp).trans<|bG (pure:Int×Int×Int->Sem (Int×Int×Int))<|Er (c:=c) hac OS) ?_);show wpAny _ _ (if((1:Int)==1)=true then _ else _) _ _ s;rw[aD (by decide)];refine fb<|wpAny_rule ?_;first
  |simp only[xr hsz,cz,dQ]
  |refine W.KFB.if_not (xr hsz) ?_
 first|refine fb (av ?_)|skip
 show wpAny _ _ (updateSeq l (λxs=>xs.extract 0 ((a:Int)).toNat++new++xs.extract (max (a:Int) (c:Int)).toNat xs.size)>>=_) _ _ s;rw[hmax,VT];refine fb<|dn (hz:=aG (aY _ _) hsz) (_hz':=hz') e rfl ?_;refine fb<|wpAny_letGo ?_;first
  |exact fb (av<|av ⟨.none,rfl,av h⟩)
  |exact av ⟨.none,rfl,av h⟩
end
def uP (it:D->MS->(aq (Key×D)->MS->Prop)->Prop)(c:MS->Prop)(μ:MS):ao D->ao (Key×D)->(ao (Key×D)->Prop)->Prop
 |[],eP,K=>c (μ++[.lh (eP.map (·.1)) (eP.map (·.2))])/\K eP
 | d::ds,eP,K=>c (μ++[.lh (eP.map (·.1)) (eP.map (·.2))])/\it d (μ++[.lh (eP.map (·.1)) (eP.map (·.2))]) λo fj=>fj=μ++[.lh (eP.map (·.1)) (eP.map (·.2))]/\(match o with
  |some (k,y)=>uP it c μ ds (dput eP k y) K
  |none=>uP it c μ ds eP K)
def NV (wi:DI)(js:ao (aq Nat))(y:DG)(t:Dt)(wk wv:De):De:=λρ μ K=>wi ρ μ λds c eV=>ds.length<=sizeLine/\uP (NS (sG js ρ) y t wk wv) c eV ds [] λeP=>K (.mr eV.length) (eV++[.lh (eP.map (·.1)) (eP.map (·.2))])
def K0 (so:OZ g y S)(mo:rq g)(ho:tT S js=true)(h:tD (NV wi js y t wk wv) σ H Q):K2 (XB wi) js g (wF t) (tD wk) (tD wv) σ H Q:=by
 refine fF h λφ ρ μ K A M k L=>?_;refine⟨φ,ρ,μ,_,A,M,k,λds c eV fo J H1 k1 f1 M1 wk' D hD=>?_⟩;obtain⟨hz,k1⟩:=k1;have fD:Fr fo H1 (fo++[D]) (upd H1 D<|.dK []):=⟨(Fr.snoc (φ:=fo) hD).ext,λc u _ e=>gT.upd hD _ _ e,λc e=>(gT.upd hD).free e⟩;obtain⟨MD,_⟩:=M1.snoc (m:=.lh [] []) (o:=.dK []) hD ⟨[],[],eZ,rfl,rfl,rfl⟩;have hp:(fo++[D])[eV.length]?=some D:=by rw[ou (by rw[M1.len];exact au _),M1.len,aO];rfl
 refine⟨λi n kv H'=>n=ds.length - i/\i<=ds.length/\∃ eP:ao (Key×L2.D),eP.length<=i/\Fr fo H1 (fo++[D]) H'/\fG (fo++[D]) H' (eV++[.lh (eP.map (·.1)) (eP.map (·.2))])/\uP (NS (sG js ρ) y t wk wv) c eV (ds.drop i) eP λeP=>K (.mr eV.length) (eV++[MO.lh (eP.map (·.1)) (eP.map (·.2))]),
  ⟨ds.length,rfl,bp _,[],bp _,fD,MD,k1⟩,?_⟩
 rintro i n kv H' ⟨rfl,hi,eP,hkl,f',M',w'⟩;by_cases uq:i<ds.length
 .rw[cA uq]at w';refine jS w' λc' w'=>?_;refine jS ((wk' _ H' _ f' M' c' i).1 ds[i]<|vk uq) λgo KC=>?_;refine .inr ⟨go,λx H2 hy2=>?_⟩;refine rh (KC x H2 hy2) λf2 M2 i2=>?_;have E2:=((A.mono<|f1.trans<|f'.trans f2).g9 js);refine mo _ _ _ _ _ (λGR H3 Sy=>?_)<|so _ H2 _ _ _ _ x _ E2 M2 i2 w';obtain⟨e3,l3,n3,RO,E3,k3⟩:=Sy;refine⟨Ni ho l3 n3,?_⟩;subst e3;refine⟨_,RO,_,_,E3,M2,k3,λb Kl Tt H4 k4 f4 M4=>?_⟩;cases b with
  | true =>
   refine⟨Tt,RO,Kl,_,E3.mono f4,M4,k4,λd5 Xj φ5 v5 H5 k5 f5 M5 i5=>?_⟩;refine eS (gJ k5) λkk ekk k5=>?_;refine⟨φ5,RO,Xj,_,E3.mono<|f4.trans f5,M5,k5,λd6 μ6 φ6 v6 H6 k6 f6 M6 i6=>?_⟩;obtain⟨e6,w6⟩:=k6;subst e6;have ff:=f2.trans<|f4.trans<|f5.trans f6;have ef:φ6=fo++[D]:=ff.Si (by rw[M6.len,M'.len]);subst ef;obtain⟨p,e1,YO,vs,e2,e3',e4,e5⟩:=M6.at_ eV.length _ (by rw[ou (au _),aO];rfl);rw[hp]at e1;cases e1;subst e4;have VJ:YO.length=eP.length:=by have:=bG List.length e3';rwa [jf,jf]at this
   have f7:Fr (fo++[D]) H6 (fo++[D]) (upd H6 D<|.dK<|putK YO kk v6):=.put<|aQ _<|List.mem_singleton.mpr rfl;obtain⟨g1,g2⟩:=D9 (k:=kk) (i6.mono f7) e3'<|e5.mono f7;refine⟨kk,YO,rQ ekk i5,e2,by lia,ds.length - (i+1),by lia,rfl,uq,dput eP kk d6,by have:=Nx eP kk d6;lia,(f'.trans ff).trans f7,?_,w6⟩;have q:=M6.put (k:=eV.length) (p:=D) (o:=.dK<|putK YO kk v6) (m:=.lh ((dput eP kk d6).map (·.1)) ((dput eP kk d6).map (·.2))) hp ⟨putK YO kk v6,_,eZ,g1,rfl,g2⟩;have e:(eV++[MO.lh (eP.map (·.1)) (eP.map (·.2))]).set eV.length (.lh ((dput eP kk d6).map (·.1)) ((dput eP kk d6).map (·.2)))=eV++[.lh ((dput eP kk d6).map (·.1)) ((dput eP kk d6).map (·.2))]:=gM;rw[e]at q;exact q
  | false =>obtain⟨e4,w4⟩:=k4;subst e4;have ff:=f2.trans f4;have ef:Tt=fo++[D]:=ff.Si (by rw[M4.len,M'.len]);subst ef;exact⟨ds.length - (i+1),by lia,rfl,uq,eP,by lia,f'.trans ff,M4,w4⟩
 .have e:i=ds.length:=by lia
  subst e
  rw[List.drop_length]at w'
  exact .inl ⟨(wk' _ H' _ f' M' w'.1 _).2 rfl,L _ _ _ _ H' w'.2 (f1.trans f') M' ⟨D,hp,rfl⟩⟩
section
variable {X:Cx}{N:ao Str}{sc:Scope}{js:ao (aq Nat)}{tg iter kx vx:Expr}{ifs:ao Expr}{g:TG}{y:DG}{S:ao Nat}{t:Dt}{wk wv:De}
def QZ {wi:DI}{pos:Pos}(hc:kR X N js sc)(gE:X.gE=true)(so:OZ g y S)(mo:rq g)(ho:tT S js=true)(hi:J0 X tg iter wi)(hg:∀ fp s H,PG (yE X N sc fp s H) tg g)
 (ht:∀ fp s H,EE (yE X N sc fp s H) ifs t) (hk:∀ fp s H,PD (yE X N sc fp s H) kx wk) (hv:∀ fp s H,PD (yE X N sc fp s H) vx wv)
 (hs:∀ x,foldedSetIterable iter X.env x=pure x:=by intro _;rfl):PD X (.DictComp kx vx [⟨tg,iter,ifs,0⟩] sc pos) (NV wi js y t wk wv):=(LO hc gE hi hg ht hk hv hs).imp λσ H Q h=>K0 so mo ho h
end
section
variable {X:Cx}{a b e o:Expr}{es:ao Expr}{pos:Pos}
def sSlE (to tl tv:TE):TS:=λD σ H=>tv σ H λv H1=>to σ H1 λx H2=>tl σ H2 λi H3=>∃ l b xs ys k,x=.ref l/\v=.ref b/\i=.int k/\H3 l=some (.lst xs)/\H3 b=some (.lst ys)/\l≠b/\0<=k/\k<=xs.length/\xs.length+ys.length<=sizeLine/\D.nx σ (upd H3 l<|.lst<|xs.take k.toNat++ys)
def UA {lo:Expr}(ho:PE X o to)(hl:PE X lo tl)(hv:PE X value tv)(hs:swapsWith value (some<|.Subscript o (.Slice (some lo) none none p) pos') pos.line X.env=pure false:=by rfl):
 PS X (.Assign [.Subscript o (.Slice (some lo) none none p) pos'] value pos) (sSlE to tl tv):=by
 intro ee s σ H D I h;refine wpAny_Assign_Subscript (gg (hv ee s σ H _ I h) λr s1 FQ=>?_) hs;refine fw FQ λv H1 I1 rv q1=>?_;refine gg (ho ee s1 σ H1 _ I1 q1) λu s2 FP=>?_;refine fw FP λx H2 I2 rx q2=>?_;refine wpAny_Slice (gg (hl ee s2 σ H2 _ I2 q2) λiv s3 QF=>?_);obtain⟨i,H3,I3,ri,l,b,xs,ys,k,ex,ev,ei,hH,hB,Jz,h0,hk,hz,q⟩:=QF;subst ex ev ei;subst rx;subst rv;obtain⟨t,rfl⟩:=ri;refine av<|av ?_;have I4:Inv X ee σ H3 { s3 with heap:=s3.heap.push { cls:=.type "slice",data:=.fields #[.int k t,.none,.none]}}:=I3.eI (t':=s3.toks) λb o e=>kJ _ e;obtain⟨z,fu,n,r,hl,e⟩:=I4.r8 hH;obtain⟨z2,tY,n2,r2,Sz,e2⟩:=I4.r8 hB;obtain⟨a',rfl⟩:=bU h0;refine wM (a:=a') (vu:=.none) e e2 Jz ⟨_,aC _ rfl,rfl,rfl⟩ (.int _ _) .none (by rw[aB]) (by lia) (by exact au _) (by rw[aB,aB];lia) ?_;have I5:=I4.Qv (its':=fu.take a'++tY) (t':=s3.toks) hH e (f:=λxs=>xs.extract 0 a'++tY.toArray++xs.extract fu.length xs.size) (by
  have:=IA fu tY a' fu.length
  rw[List.drop_length,bg]at this
  exact this) (fH.append (r.take _) r2) (by rw[mJ,ba];lia)
 exact⟨σ,_,I5,by simpa using q⟩
def dSlE (wo wl wv:De):Ds:=λN ρ μ=>wv ρ μ λv eV=>wo ρ eV λx ik=>wl ρ ik λi sC=>match x,v,i with
 |.mr j,.lst ys,.int k=>∃ xs,Cn sC j=some xs/\0<=k/\k<=xs.length/\xs.length+ys.length<=sizeLine/\N.nx ρ (sC.set j<|.lst<|xs.take k.toNat++ys)
 |_,_,_=>False
def R5 {lo:Expr}(ho:PD X o wo)(hl:PD X lo wl)(hv:PD X value wv)(hs:swapsWith value (some<|.Subscript o (.Slice (some lo) none none p) pos') pos.line X.env=pure false:=by rfl):
 yF X (.Assign [.Subscript o (.Slice (some lo) none none p) pos'] value pos) (dSlE wo wl wv):=(UA ho hl hv hs).imp λE σ H hq=>by
 refine fF hq λφ ρ μ N A M w L=>?_;refine⟨φ,ρ,μ,_,A,M,w,λd1 eV fo v1 H1 k1 f1 M1 i1=>⟨fo,ρ,eV,_,A.mono f1,M1,k1,λd2 ik lQ v2 H2 k2 f2 M2 i2=>⟨lQ,ρ,ik,_,A.mono<|f1.trans f2,M2,k2,λd3 sC EN v3 H3 k3 f3 M3 i3=>?_⟩⟩⟩;split at k3
 .rename_i j ys k;refine QR k3 λxs ex h0 hk hz k3=>?_;subst i3;have i1':=i1.mono<|f2.trans f3;refine jX i1' λpb vb fE nb hb ab=>?_;subst fE;refine eS (i2.mono f3) λp hp fE=>?_;subst fE;obtain⟨p',e1,vs,hv,ha⟩:=M3.at_ j _<|pW ex;rw[hp]at e1;cases e1;have ne:p≠pb:=λz=>nb<|z▸ET hp;have f4:Fr EN H3 EN (upd H3 p<|.lst<|vs.take k.toNat++vb):=.put<|ET hp;have M4:=M3.put (k:=j) (p:=p) (m:=.lst<|xs.take k.toNat++ys) hp ⟨_,eZ,((ha.take _).app ab).mono f4⟩;exact⟨p,pb,vs,vb,k,rfl,rfl,rfl,hv,hb,ne,h0,ha.len▸hk,by rw[ha.len,ab.len];exact hz,L.nx ρ _ EN σ _ k3 ((f1.trans<|f2.trans f3).trans f4) (A.mono<|(f1.trans<|f2.trans f3).trans f4) M4⟩
 .exact k3.elim
def Th (C:aj)(f:Str)(g:Int->Int->Int)(wo w:De):Ds:=λN ρ μ=>wo ρ μ λx eV=>match x with
 | .mr k=>∃ i,(oX C eV k).bind (λq=>qg f q.1 q.2)=some (.int i)/\w ρ eV λy ik=>match y with
  |.int j=>∃ q q':ao Str×ao D,oX C ik k=some q/\putN f (.int<|g i j) q.1 q.2=q'/\q.1.length<1000/\N.nx ρ (ik.set k<|.ins C q'.1 q'.2)
  |_=>False
 |_=>False
def Pj {C:aj}{f:Str}{g:Int->Int->Int}{wo w:De}{rd:V->V->Hp->VK->Prop}(c:wt X.K C)(n:n8 X.K C f)(hrd:∀ i j H Q,Q (.int<|g i j) H->rd (.int i) (.int j) H Q){E:Ends}{σ:St}{H:Hp}(hq:OI (Th C f g wo w) E σ H):G7 X.K (tD wo) (tD w) rd f E σ H:=by
 refine fF hq λφ ρ μ N A M k L=>?_;refine⟨φ,ρ,μ,_,A,M,k,λd1 eV fo v1 H1 k1 f1 M1 i1=>?_⟩;cases d1 with
 | mr k =>
  refine eS k1 λi e1 k1=>?_;refine eS (Option.bind_eq_some_iff.mp e1) λq e2 e3=>?_;refine eS i1 λp hp fE=>?_;subst fE;obtain⟨p',e4,dx,fs,h1,h2,h3⟩:=M1.at_ k _<|tZ e2;rw[hp]at e4;cases e4;rw[<- h2]at e3;obtain⟨v,l,iv⟩:=qQ h3 e3;subst iv;refine⟨p,C,dx,fs,.int i,rfl,h1,c,n,l,?_⟩;refine⟨fo,ρ,eV,_,A.mono f1,M1,k1,λd2 ik lQ v2 H2 k2 f2 M2 i2=>?_⟩;cases d2 with
  | int j =>subst i2;refine jX k2 λq' _ e5 fE hl k2=>?_;subst fE;have VE:=f2.get hp;obtain⟨p',e4,V2,QL,g1,g2,g3⟩:=M2.at_ k _<|tZ e5;rw[VE]at e4;cases e4;refine hrd _ _ _ _ ⟨V2,QL,g1,by rw[<- g2,jf]at hl;exact hl,?_⟩;have f4:Fr lQ H2 lQ (upd H2 p<|.ins C V2<|lT f (.int<|g i j) QL):=.put<|ET VE;obtain⟨y1,y2⟩:=AW (f:=f) (d:=.int<|g i j) rfl (g3.mono f4);rw[g2]at y1 y2;exact L.nx ρ _ lQ σ _ k2 ((f1.trans f2).trans f4) (A.mono<|(f1.trans f2).trans f4) (M2.put VE ⟨V2,_,eZ,y1,y2⟩)
  |_=>exact k2.elim
 |_=>exact k1.elim
def G6 (c:wt X.K C)(n:n8 X.K C f)(ho:PD X o wo)(hv:PD X e w):yF X (.AugAssign (.Attribute o f vH) .Add e pos) (Th C f (·+·) wo w):=(IS ho hv Vz).imp λE σ H hq=>Pj c n (λi j H Q q=>⟨i,j,rfl,rfl,q⟩) hq
end
structure kK (P:ae)(w:af)(K:aa)(mg:Str->Option ak)(eB:Heap)(C:aj)(m:Str)(k:Nat)(ps:List Str)(sp:Sp):Prop where
 ex:∃ f fd,fA P w K mg eB (lW P w) k f fd ps sp/\Meth K C m f/\Binds K fd ps []
structure Im (P:ae)(w:af)(K:aa)(mg:Str->Option ak)(eB:Heap)(x:Str)(C:aj)(k:Nat)(ps:List Str)(sp:Sp):Prop where
 ex:∃ f fd,fA P w K mg eB (lW P w) k f fd ps sp/\Mk K C f/\mg x=some (.ref C)/\Binds K fd ps []
def Sf:Passes (lW X.prog X.w) X (λ_ _ _=>False):=λee σ H s e s' I c=>by refine e4a8 c λ_ _ _ _ _ _ _ _ _ _ _ z=>?_;exact z.elim
section
variable {X:Cx}{a b e o:Expr}{es:ao Expr}{pos:Pos}{C:aj}{fi:ao aj}{H0:Hp}{Kx:DX}
def CH {ok:MS->Prop}(hE:∀ φ μ H,fG φ H μ->ok μ->tw φ H Kx E)(h:tD (λρ μ K=>wo ρ μ λx eV=>tQ C m eV x/\w ρ eV λds ik=>ok ik/\f (x::ds) ik K Kx) σ H Q):CF C m (iD f) [] E (tD wo) (TZ w) σ H Q:=by refine fF h λφ ρ μ K A M k L=>?_;refine⟨φ,ρ,μ,_,A,M,k,λd1 eV fo v1 H1 k1 f1 M1 i1=>?_⟩;refine tj (tP M1 i1 k1.1) λp dx fs fE h1 h2=>?_;subst fE;refine⟨p,dx,fs,rfl,h1,h2,fo,ρ,eV,_,A.mono f1,M1,k1.2,λds ik lQ vs H2 k2 f2 M2 i2=>?_⟩;show iD f (.ref p::(vs++[])) H2 Q E;rw[bg];exact⟨lQ,d1::ds,ik,K,Kx,⟨_,vs,rfl,kP.mono f2 i1,i2⟩,M2,k2.2,L.mono<|f1.trans f2,hE lQ ik H2 M2 k2.1⟩
def Wg (fi:ao aj)(H0:Hp)(Kx:DX)(C:aj)(m:Str)(f:jc)(wo:De)(w:DA):De:=λρ μ K=>wo ρ μ λx eV=>tQ C m eV x/\w ρ eV λds ik=>ik[0]?=some (.gx fi H0)/\f (x::ds) ik K Kx
def fQ (Z:Rz X fi H0 Kx)(CM:kK X.prog X.w X.K X.mg X.eB C m k ps (iD f))(c:wt X.K C)(hr:iq k X.A)(ho:PD X o wo)(ha:sA X (e::es) w)
 (Cq:starEach (e::es) X.env=(false,eval e X.env)::starEach es X.env:=by rfl) (lU:(backTo pos<|starEach es X.env).any (·.1)=false:=by rfl)
 (ht:eval (.Call (.Attribute o m fZ) (e::es) [] pos) X.env=(do
   let ov <- eval o X.env
   standAt fZ.atName
   let (f,first) <- holding [ov] (getMethod ov m pl)
   callWith pos f first (backTo pos<|starEach (e::es) X.env) (backToKw pos<|keywordEach [] X.env)):=by rfl):
 PD X (.Call (.Attribute o m fZ) (e::es) [] pos) (Wg fi H0 Kx C m f wo w):=by
 refine eS Z.ex λE LX hp=>?_;refine fw CM.ex λf' fd F hm hb=>?_;exact(A1 ho c hm F hr hb .nil hp ha Cq lU ht).imp λσ H Q hq=>CH (λφ μ H M e=>LX.mono<|M.Bl e) hq
def Q6 (C:aj)(m:Str)(f:jc)(wo:De)(w:DA):De:=λρ μ K=>wo ρ μ λx eV=>tQ C m eV x/\w ρ eV λds ik=>True/\f (x::ds) ik K λ_ _=>False
def yb (CM:kK X.prog X.w X.K X.mg X.eB C m k ps (iD f))(c:wt X.K C)(hr:iq k X.A)(ho:PD X o wo)(ha:sA X (e::es) w)
 (Cq:starEach (e::es) X.env=(false,eval e X.env)::starEach es X.env:=by rfl) (lU:(backTo pos<|starEach es X.env).any (·.1)=false:=by rfl)
 (ht:eval (.Call (.Attribute o m fZ) (e::es) [] pos) X.env=(do
   let ov <- eval o X.env
   standAt fZ.atName
   let (f,first) <- holding [ov] (getMethod ov m pl)
   callWith pos f first (backTo pos<|starEach (e::es) X.env) (backToKw pos<|keywordEach [] X.env)):=by rfl):
 PD X (.Call (.Attribute o m fZ) (e::es) [] pos) (Q6 C m f wo w):=by
 refine fw CM.ex λf' fd F hm hb=>?_;exact(A1 ho c hm F hr hb .nil Sf ha Cq lU ht).imp λσ H Q hq=>CH (λφ μ H M e=>λ_ _ _ _ z _ _=>z.elim) hq
def Iw {ok:MS->Prop}(hE:∀ φ μ H,fG φ H μ->ok μ->tw φ H Kx E)(h:tD (λρ μ K=>wo ρ μ λx eV=>tQ C m eV x/\ok eV/\f [x] eV K Kx) σ H Q):CF C m (iD f) [] E (tD wo) Pd σ H Q:=by refine fF h λφ ρ μ K A M k L=>?_;refine⟨φ,ρ,μ,_,A,M,k,λd1 eV fo v1 H1 k1 f1 M1 i1=>?_⟩;refine tj (tP M1 i1 k1.1) λp dx fs fE h1 h2=>?_;subst fE;exact⟨p,dx,fs,rfl,h1,h2,fo,[d1],eV,K,Kx,⟨_,[],rfl,i1,rfl⟩,M1,k1.2.2,L.mono f1,hE fo eV H1 M1 k1.2.1⟩
def Q7 (fi:ao aj)(H0:Hp)(Kx:DX)(C:aj)(m:Str)(f:jc)(wo:De):De:=λρ μ K=>wo ρ μ λx eV=>tQ C m eV x/\eV[0]?=some (.gx fi H0)/\f [x] eV K Kx
def Eg (Z:Rz X fi H0 Kx)(CM:kK X.prog X.w X.K X.mg X.eB C m k ps (iD f))(c:wt X.K C)(hr:iq k X.A)(ho:PD X o wo)
 (ht:eval (.Call (.Attribute o m fZ) [] [] pos) X.env=(do
   let ov <- eval o X.env
   standAt fZ.atName
   let (f,first) <- holding [ov] (getMethod ov m pl)
   callWith pos f first (backTo pos<|starEach [] X.env) (backToKw pos<|keywordEach [] X.env)):=by rfl):
 PD X (.Call (.Attribute o m fZ) [] [] pos) (Q7 fi H0 Kx C m f wo):=by
 refine eS Z.ex λE LX hp=>?_;refine fw CM.ex λf' fd F hm hb=>?_;exact(Di ho c hm F hr hb .nil hp ht).imp λσ H Q hq=>Iw (λφ μ H M e=>LX.mono<|M.Bl e) hq
def CJ {ok:MS->Prop}(hE:∀ φ μ H,fG φ H μ->ok μ->tw φ H Kx E)(h:tD (λρ μ K=>w ρ μ λds eV=>ok eV/\f (.mr eV.length::ds) (eV++[.ins C [] []]) (λd ik=>d=.gw/\K (.mr eV.length) ik) Kx) σ H Q):KZ C (iD f) [] E (TZ w) σ H Q:=by
 refine fF h λφ ρ μ K A M k L=>?_;refine⟨φ,ρ,μ,_,A,M,k,λds eV fo vs H1 k1 f1 M1 i1 x dx hx VN ne=>?_⟩;have S1:gT H1 (upd H1 dx<|.own x):=gT.upd VN;have Jy:upd H1 dx (.own x) x=none:=by rwa [e9 (bz ne)]
 have fa:Fr fo H1 fo (upd H1 dx<|.own x):=.same S1;obtain⟨M2,f2⟩:=(M1.same S1).snoc (m:=.ins C [] []) Jy ⟨dx,[],eZ,rfl,rfl⟩;have f3:=fa.trans f2;have QI:kP (fo++[x]) (upd (upd H1 dx<|.own x) x<|.ins C dx []) (.mr eV.length) (.ref x):=⟨x,by rw[ou (M1.len▸au _),M1.len,aO];rfl,rfl⟩;rw[bg];refine⟨fo++[x],.mr eV.length::ds,eV++[.ins C [] []],_,Kx,⟨_,vs,rfl,QI,i1.mono f3⟩,M2,k1.2,λd sC EN v H3 k3 f4 M3 i3=>?_,(hE fo eV H1 M1 k1.1).mono f3⟩;obtain⟨rfl,k3⟩:=k3;exact⟨i3,L _ sC EN _ H3 k3 ((f1.trans f3).trans f4) M3<|QI.mono f4⟩
def Wh (fi:ao aj)(H0:Hp)(Kx:DX)(C:aj)(f:jc)(w:DA):De:=λρ μ K=>w ρ μ λds eV=>eV[0]?=some (.gx fi H0)/\f (.mr eV.length::ds) (eV++[.ins C [] []]) (λd ik=>d=.gw/\K (.mr eV.length) ik) Kx
def BM {x:Str}{f:jc}{w:DA}{p:Pos}{k:Nat}{ps:ao Str}(Z:Rz X fi H0 Kx)(CI:Im X.prog X.w X.K X.mg X.eB x C k ps (iD f))(hr:iq (k+1) X.A)(hg:Gl X x)(ha:sA X (e::es) w)
 (sY:(x==("__debug__" : Str))=false:=by decide) (he:starEach (e::es) X.env=(false,eval e X.env)::starEach es X.env:=by rfl) (lU:(backTo pos<|starEach es X.env).any (·.1)=false:=by rfl):
 PD X (.Call (.Name x p) (e::es) [] pos) (Wh fi H0 Kx C f w):=by
 refine eS Z.ex λE LX hp=>?_;refine jX CI.ex λf' fd F M hm hb=>?_;exact(A3 M F hr hg hm hb .nil hp ha sY he lU).imp λσ H Q hq=>CJ (λφ μ H M e=>LX.mono<|M.Bl e) hq
def Q8 (C:aj)(f:jc)(w:DA):De:=λρ μ K=>w ρ μ λds eV=>True/\f (.mr eV.length::ds) (eV++[.ins C [] []]) (λd ik=>d=.gw/\K (.mr eV.length) ik) λ_ _=>False
def NK {x:Str}{f:jc}{w:DA}{p:Pos}{k:Nat}{ps:ao Str}(CI:Im X.prog X.w X.K X.mg X.eB x C k ps (iD f))(hr:iq (k+1) X.A)(hg:Gl X x)(ha:sA X (e::es) w)
 (sY:(x==("__debug__" : Str))=false:=by decide) (he:starEach (e::es) X.env=(false,eval e X.env)::starEach es X.env:=by rfl) (lU:(backTo pos<|starEach es X.env).any (·.1)=false:=by rfl):
 PD X (.Call (.Name x p) (e::es) [] pos) (Q8 C f w):=by
 refine jX CI.ex λf' fd F M hm hb=>?_;exact(A3 M F hr hg hm hb .nil Sf ha sY he lU).imp λσ H Q hq=>CJ (λφ μ H M e=>λ_ _ _ _ z _ _=>z.elim) hq
end
def gZ {P:ae}{w:af}{K:aa}{mg:Str->aq ak}{eB:Heap}{C:aj}{x q:Str}{st:Stmt}{f:aj}{fd:ah}{k:Nat}{ps:ao Str}{sp:Sp}(F:iS K x q st f fd)(ok:fA P w K mg eB (lW P w) k f fd ps sp)(hb:Binds K fd ps [])
 (a:W.findIn K (.ref C) x=some (some<|.ref f):=by kernel_rfl) (i:W.isFn K (.ref f)=true:=by kernel_rfl):kK P w K mg eB C x k ps sp:=⟨f,fd,ok,⟨a,i,F.kp⟩,hb⟩
def N8 {P:ae}{w:af}{K:aa}{mg:Str->aq ak}{eB h:Heap}{C:aj}{y q:Str}{st:Stmt}{f:aj}{fd:ah}{k:Nat}{ps:ao Str}{sp:Sp}(G:K.In h)(N:h.Ns mainGlobals mg)(F:iS K "__init__" q st f fd)(ok:fA P w K mg eB (lW P w) k f fd ps sp)(hb:Binds K fd ps [])
 (n:W.nsIn K mainGlobals y=some (some<|.ref C):=by kernel_rfl) (a:W.findIn K (.ref C) "__init__"=some (some<|.ref f):=by kernel_rfl) (i:W.isFn K (.ref f)=true:=by kernel_rfl) (m:W.makesIn K C=true:=by kernel_rfl) (p:W.keepIn K (.ref C)=true:=by kernel_rfl):Im P w K mg eB y C k ps sp:=⟨f,fd,ok,⟨m,a,i,p⟩,bZ G N n,hb⟩
section
variable {X:Cx}{a b c e o:Expr}{es:ao Expr}{pos:Pos}
def zp:lj X (compareOp .LtE) (λx y H Q=>∃ i j,x=.str i/\y=.str j/\Q (.bl<|!decide (j.cps.toList<i.cps.toList)) H):=by intro ee s σ H x y v u Q I rx ry h;refine fw h λi j fE qk q=>?_;subst fE;subst qk;obtain⟨t,rfl⟩:=rx;obtain⟨t',rfl⟩:=ry;exact compareOp_gives (dA s i t) (dA s j t') F.slot_str_le F.entry_str_le (F.args_str_le_2 _ _) (gives_str_le i j t t') (by first|rfl|simp[Made.takes]|decide) (gB I q rfl)
def ZX:Ag:=λx y μ K=>match x,y with
 |.str a,.str b=>K (.bl<|!decide (b.cps.toList<a.cps.toList)) μ
 |_,_=>False
def Lb:p8 (λx y H Q=>∃ i j,x=.str i/\y=.str j/\Q (.bl<|!decide (j.cps.toList<i.cps.toList)) H) ZX:=λφ H x y dx dy μ K Q M hx hy k L=>by
 delta ZX at k;split at k
 .subst hx;subst hy;exact⟨_,_,rfl,rfl,L.val M k rfl⟩
 .exact k.elim
def Wn (ro ro':Ag)(wa wb wc:De):De:=λρ μ K=>wa ρ μ λx eV=>wb ρ eV λy ik=>ro x y ik λz sC=>match z with
 |.bl k=>if k=true then wc ρ sC λw' Kl=>ro' y w' Kl K else K (.bl false) sC
 |_=>False
def Q1 (ho:lj X (compareOp op) r)(zA:lj X (compareOp WX) r')(so:p8 r ro)(so':p8 r' ro')(ha:PD X a wa)(hb:PD X b wb)(hc:PD X c wc)
 (hm:lastMarks [op,WX] [b,c]=false:=by with_unfolding_all rfl):PD X (.Compare a [op,WX] [b,c] pos) (Wn ro ro' wa wb wc):=(LP ho zA ha hb hc hm).imp λσ H Q hq=>by
 refine fF hq λφ ρ μ K A M k L=>?_;refine⟨φ,ρ,μ,_,A,M,k,λd1 eV fo v1 H1 k1 f1 M1 i1=>⟨fo,ρ,eV,_,A.mono f1,M1,k1,λd2 ik lQ v2 H2 k2 f2 M2 i2=>so lQ H2 v1 v2 d1 d2 ik _ _ M2 (i1.mono f2) i2 k2 λd3 sC EN v3 H3 k3 f3 M3 i3=>?_⟩⟩;cases d3 with
 | bl k =>
  subst i3;refine⟨k,rfl,?_⟩;cases k with
  |false=>exact L _ sC EN _ H3 k3 (f1.trans<|f2.trans f3) M3 rfl
  |true=>exact⟨EN,ρ,sC,_,A.mono<|f1.trans<|f2.trans f3,M3,k3,λd4 Kl Tt v4 H4 k4 f4 M4 i4=>so' Tt H4 v2 v4 d2 d4 Kl K Q M4 (i2.mono<|f3.trans f4) i4 k4<|L.mono<|f1.trans<|f2.trans<|f3.trans f4⟩
 |_=>exact k3.elim
def uY (mg:Str->aq ak)(x:Str)(i:Int):Prop:=∃ t,mg x=some (.int i t)
def uR {x:Str}{i:Int}(hg:Gl X x)(hm:uY X.mg x i)(hd:(x==("__debug__" : Str))=false:=by decide):PD X (.Name x pos) (dC<|.int i):=by refine kZ hm λt hm=>?_;exact(He (v:=.int i) hg hm ⟨t,rfl⟩ hd).imp λσ H Q hq=>by refine fF hq λφ ρ μ K A M k L=>?_;exact L _ _ φ _ H k (.refl _ _) M rfl
structure Tab (P:ae)(w:af)(K:aa)(mg:Str->Option ak)(x:Str)(ts:List (Str×aj)):Prop where
 ex:∃ d,mg x=some (.ref d)/\∀ h:Heap,K.In h->h.DictOf (gW P w) d (ts.map λp=>(Sum.inr p.1,Value.ref p.2))
def dTab (ts:ao (Str×aj))(w:De):De:=λρ μ K=>w ρ μ λd eV=>match d with
 |.str z=>∃ a,(ts.find? λp=>decide (p.1=z)).map (·.2)=some a/\K (.fn a) eV
 |_=>False
theorem u4 {a:aj}:∀ {ts:ao (Str×aj)},(ts.find? λp=>decide (p.1=z)).map (·.2)=some a->valueAt (ts.map λp=>((Sum.inr p.1:Key),Value.ref p.2)) (Sum.inr z)=some (.ref a)
 |[],h=>by cases h
 | p::ts,h=>by
  delta valueAt;rw[aK,bD];rw[bD]at h;by_cases q:p.1=z
  .rw[aH q]at h;cases h;rw[show decide ((Sum.inr p.1:Key)=Sum.inr z)=true from aH (by rw[q])];rfl
  .rw[aw q]at h;rw[show decide ((Sum.inr p.1:Key)=Sum.inr z)=false from aw λy=>q<|Sum.inr.inj y];exact u4 h
def ZM (T:Tab X.prog X.w X.K X.mg x ts)(hg:Gl X x)(hb:PD X b w)(hs:RG b)(hd:(x==("__debug__" : Str))=false:=by decide):PD X (.Subscript (.Name x p) b pos) (dTab ts w):=by
 intro ee s σ H Q I hq;refine fF hq λφ ρ μ K A M k L=>?_;refine eS T.ex λd hm T=>?_;refine GZ PySem.F.slot_dict_getitem.lookup hs (lg I hg hm (gg (hb ee s σ H (λv H1=>∃ z a,v=.str z/\(ts.find? λp=>decide (p.1=z)).map (·.2)=some a/\Q (.ref a) H1) I ⟨φ,ρ,μ,_,A,M,k,λd1 eV fo v1 H1 k1 f1 M1 i1=>?_⟩) λu s1 FQ=>?_) hd)
 .cases d1 with
  | str z =>subst i1;refine eS k1 λa e k1=>?_;exact⟨z,a,rfl,e,L _ eV fo _ H1 k1 f1 M1 rfl⟩
  |_=>exact k1.elim
 .obtain⟨x,H1,I1,rx,z,a,rfl,e,q⟩:=FQ;have dd:=T _ I1.om;refine tj (id dd) λob _ _ eb ex _=>?_;exact⟨⟨ob,eb,ex.1⟩,wpAny_getItem_of (xC (k:=Sum.inr z) rx) dd.mapOf (u4 e) ⟨.ref a,H1,I1.tok _,rfl,q⟩⟩
def tab_of {P:ae}{w:af}{K:aa}{mg:Str->aq ak}{x:Str}{d:aj}{n:Nat}{h:Heap}(es:ao (Str×Nat×aj))(X:K.In h)(G:h.Ns mainGlobals mg)(e:W.nsIn K mainGlobals x=some (some<|.ref d))
 (l:K.lookup d=some ⟨.type "dict",none,.dict ((es.map λp=>jk w.params p.1 p.2.1<|.ref p.2.2).toArray) n,#[]⟩) (nd:(es.map (·.1)).Nodup):Tab P w K mg x (es.map λp=>(p.1,p.2.2)):=by
 refine⟨d,bZ X G e,λh' I=>⟨_,_,_,I _ _ l,⟨rfl,rfl,rfl⟩,rfl,?_,?_,?_⟩⟩
 .intro y hy;refine eS (List.mem_map.mp<|List.mem_toArray.mp hy) λp _ fE=>?_;subst fE;exact⟨Sum.inr p.1,uK p.1 p.2.1,rfl⟩
 .clear l nd;induction es with
  |nil=>exact .nil
  |cons p es ih=>exact .cons (uK p.1 p.2.1) rfl ih
 .rw[a8,a8];show(List.map ((λz:Str=>(Sum.inr z:Key)) ∘ λp:Str×Nat×aj=>p.1) es).Nodup;rw[<- a8];exact nd.map (f:=λz:Str=>(Sum.inr z:Key)) λa b h z=>h (Sum.inr.inj z)
structure RJ (P:ae)(w:af)(K:aa)(mg:Str->Option ak)(eB:Heap)(T:List (aj×jc))(k:Nat)(ps:List Str):Prop where
 ex:∀ p∈T,∃ fd,fA P w K mg eB (lW P w) k p.1 fd ps (iD p.2)/\W.keepIn K (.ref p.1)=true/\Binds K fd ps []
def NX (fi:ao aj)(H0:Hp)(Kx:DX)(T:ao (aj×jc))(i:Nat)(w:DA):De:=λρ μ K=>match ρ[i]? with
 |some (some<|.fn a)=>∃ f,(a,f)∈T/\w ρ μ λds eV=>eV[0]?=some (.gx fi H0)/\f ds eV K Kx
 |_=>False
def Q2 (Z:Rz X fi H0 Kx)(CV:RJ X.prog X.w X.K X.mg X.eB T k ps)(hr:iq k X.A)(hN:X.N[i]?=some x)(hv:To X.env.scope x)(ha:sA X (e::es) w)
 (sY:(x==("__debug__" : Str))=false:=by decide) (yY:(x==("__classdict__" : Str))=false:=by decide) (he:starEach (e::es) X.env=(false,eval e X.env)::starEach es X.env:=by rfl) (lU:(backTo pos<|starEach es X.env).any (·.1)=false:=by rfl):
 PD X (.Call (.Name x p) (e::es) [] pos) (NX fi H0 Kx T i w):=by
 intro ee s σ H Q I hq;refine fF hq λφ ρ μ K A M k L=>?_;refine eS Z.ex λE LX hp=>?_;unfold NX at k;split at k
 .rename_i a ea;refine eS k λf hf k=>?_;refine eS (A.2 i _ ea) λv ev iv=>?_;subst iv;refine oy (CV.ex _ hf) λfd F hk hb=>?_;refine bu (gg (A0 hN hv sY yY ee s σ H (λu H1=>u=.ref a/\H1=H) I ⟨_,ev,rfl,rfl⟩) λu s1 FQ=>?_);refine jX FQ λx1 H1 I1 r1 fE qk=>?_;subst fE;subst qk;subst r1;refine dU I.ok.mod.Kn hk (gg (ha pos ee s1 σ H1 (λvs H2=>iD f vs H2 Q E) I1 ⟨φ,ρ,μ,_,A,M,k,λds eV fo vs H2 k1 f1 M1 i1=>?_⟩) λus s2 FP=>?_) he lU
  .exact⟨fo,ds,eV,K,Kx,i1,M1,k1.2,L.mono f1,LX.mono<|M1.Bl k1.1⟩
  .refine fw FP λvs H2 I2 r2 q2=>?_;exact⟨I2.om,xa F hr hb .nil hp I2 r2<|by rwa [bg]⟩
 .exact k.elim
end
section
variable {X:Cx}{a b c e o:Expr}{es:ao Expr}{pos fZ fW:Pos}
def dSlT (w:De)(l h:DO):De:=λρ μ K=>w ρ μ λx eV=>l ρ eV λlo ik=>h ρ ik λhi sC=>match x with
 |.tup ds=>¬ (HT.jK ds.length 0 lo=0/\HT.jK ds.length ds.length hi=ds.length)/\K (.tup<|cutD ds lo hi) sC
 |_=>False
def NI {lo:aq Expr}(ha:PD X a w)(hl:PO X lo (WT l))(hh:PO X hi (WT h)):PD X (.Subscript a (.Slice lo hi none p) pos) (dSlT w l h):=(Dh Ui ha hl hh).imp λσ H Q hq=>by
 refine fF hq λφ ρ μ K A M k L=>?_;refine⟨φ,ρ,μ,_,A,M,k,λd eV fo v1 H1 k1 f1 M1 i1=>⟨fo,ρ,eV,_,A.mono f1,M1,k1,λlo ik lQ H2 k2 f2 M2=>⟨lQ,ρ,ik,_,A.mono<|f1.trans f2,M2,k2,λhi sC EN H3 k3 f3 M3=>?_⟩⟩⟩;have i3:=i1.mono<|f2.trans f3;have L3:=L.mono<|f1.trans<|f2.trans f3;split at k3
 .refine jX i3 λp vs fE _ hp ha=>?_;subst fE;exact⟨p,vs,rfl,Cs.of hp,ha.len▸k3.1,λl hl=>Ot L3 M3 (ha.cut lo hi) k3.2 hl⟩
 .exact k3.elim
def Z4 (neg:Bool):Ag:=λx y μ K=>match y with
 |.tup ds=>yZ x=true/\ds.all yZ=true/\K (.bl<|neg != ds.any λd=>OV d x) μ
 |_=>False
def Uc:p8 (IM neg) (Z4 neg):=λφ H x y dx dy μ K Q M hx hy k L=>by
 delta Z4 at k;split at k
 .refine rh k λf1 f2 k=>?_;refine jX hy λp vs fE _ hp ha=>?_;subst fE;refine jS (Bq hx f1 ha f2) λa b=>?_;have fx:=FZ hx f1;have key:∃ xs,(H p=some (.lst xs)\/H p=some (.tup xs))/\m7 x=true/\xs.all m7=true/\Q (.bl<|neg != VA x xs) H:=⟨vs,.inr hp,fx,a,b▸L.val M k rfl⟩;cases x<;>exact key
 .exact k.elim
end
inductive Pt where
 |fst (b:List Nat) (a:Int)
 |jn (l r:Str) (p:Int)
structure RS where
 n:Int
 eI:List (Str×Pt)
 hG:List (Int×Unit)
inductive Dd where
 |put (nm b:Str) (a:Int)|join (nm l r:Str) (p:Int)|found (nm:Str) (bar:Int) (sg:Str)|uU (nm:Str) (a:Int)|drop (nm:Str)|free (p:Int)|hG (p:Int)
section
variable {α β:Type}[DecidableEq α]
def fg (l:ao (α×β))(k:α):aq β:=(l.find? λp=>decide (p.1=k)).map (·.2)
def jh (l:ao (α×β))(k:α)(v:β):ao (α×β):=if(l.any λp=>decide (p.1=k))=true then l.map (λp=>if p.1=k then(p.1,v)else p)else l++[(k,v)]
def lO (l:ao (α×β))(k:α):ao (α×β):=l.filter λp=>decide (p.1≠k)
def gq {p:α×β}:fg (p::l) k=if p.1=k then some p.2 else fg l k:=by
 delta fg;rw[bD];by_cases h:p.1=k
 .rw[aH h,aD h];rfl
 .rw[aw h,az h]
def n6 {k:α}:(l.any λp=>decide (p.1=k))=(fg l k).isSome:=by
 induction l with
 |nil=>rfl
 | cons p l ih =>
  rw[bV,gq,ih];by_cases h:p.1=k
  .rw[aH h,aD h];rfl
  .rw[aw h,az h];rfl
def uk {l:ao (α×β)}(h:fg l k=some v):(k,v)∈l:=by
 induction l with
 |nil=>cases h
 | cons p l ih =>
  rw[gq]at h;by_cases q:p.1=k
  .rw[aD q]at h;cases h;rw[<- q];exact aI
  .rw[az q]at h;exact o6 _ (ih h)
def ic {l:ao (α×β)}:(fg l k).isSome=true↔k∈l.map (·.1):=by
 rw[<- n6,List.any_eq_true,List.mem_map];constructor
 .rintro⟨p,hp,e⟩;exact⟨p,hp,dP e⟩
 .rintro⟨p,hp,e⟩;exact⟨p,hp,aH e⟩
def oO {l:ao (α×β)}(nd:(l.map (·.1)).Nodup)(h:(k,v)∈l):fg l k=some v:=by
 induction l with
 |nil=>cases h
 | cons p l ih =>
  rw[aK,List.nodup_cons]at nd;rw[gq];rcases List.mem_cons.mp h with q|q
  .subst q;rw[aD rfl]
  .rw[az]
   .exact ih nd.2 q
   .intro e;exact nd.1 (e▸List.mem_map.mpr ⟨_,q,rfl⟩)
def Ez {k:α}:fg (l++m) k=(fg l k).or (fg m k):=by
 induction l with
 |nil=>rfl
 | cons p l ih =>
  rw[List.cons_append,gq,gq,ih];by_cases q:p.1=k
  .rw[aD q,aD q];rfl
  .rw[az q,az q]
def Ac {l:ao (α×β)}:(jh l k v).map (·.1)=if k∈l.map (·.1)then l.map (·.1)else l.map (·.1)++[k]:=by
 delta jh;have e:((l.any λp=>decide (p.1=k))=true)↔k∈l.map (·.1):=by rw[n6];exact ic
 by_cases h:k∈l.map (·.1)
 .rw[aD (e.mpr h),aD h,a8];refine cp λp _=>?_;simp;split<;>rfl
 .rw[az (λz=>h<|e.mp z),az h,aS];rfl
def uj {l:ao (α×β)}:fg (jh l k v) j=if j=k then some v else fg l j:=by
 delta jh;split
 .rename_i h;induction l with
  |nil=>cases h
  | cons p l ih =>
   rw[aK,gq,gq];by_cases q:p.1=k
   .rw[aD q];by_cases z:j=k
    .rw[aD z,aD (by rw[q,z])]
    .rw[az z,az (λy=>z<|by rw[<- y,q]),az (λy=>z<|by rw[<- y,q])];clear ih h;induction l with
     |nil=>rfl
     | cons r l ih =>
      rw[aK,gq,gq,ih];by_cases y:r.1=k
      .rw[aD y,az (λx=>z<|by rw[<- x,y]),az (λx=>z<|by rw[<- x,y])]
      .rw[az y]
   .rw[az q];have h':(l.any λp=>decide (p.1=k))=true:=by rw[bV,aw q]at h;exact h
    rw[ih h'];by_cases z:j=k
    .rw[aD z,az (λy=>q<|by rw[y,z]),aD z]
    .rw[az z,az z]
 .rename_i h;rw[Ez];have hn:fg l k=none:=by
   cases e:fg l k with
   |none=>rfl
   |some x=>exact absurd (by rw[n6,e];rfl) h
  by_cases z:j=k
  .subst z;rw[aD rfl,hn,gq,aD rfl];rfl
  .rw[az z,gq,az (λy=>z y.symm)];cases fg l j<;>rfl
def Ad {j:α}(h:j≠k):fg (lO l k) j=fg l j:=by
 delta lO;induction l with
 |nil=>rfl
 | cons p l ih =>
  rw[bN,gq];by_cases q:p.1=k
  .rw[az (by simp[q]),ih,az (λy=>h<|by rw[<- y,q])]
  .rw[aD (by simp[q]),gq,ih]
end
def gh (z:Str):Key:=Sum.inr z
def nP (i:Int):Key:=Sum.inl i
def gu:∀ a b,gh a=gh b->a=b:=λ_ _ h=>Sum.inr.inj h
def pq:∀ a b,nP a=nP b->a=b:=λ_ _ h=>Sum.inl.inj h
def uQ {α β:Type}(κ:α->Key)(f:β->D)(l:ao (α×β)):D:=.pF (l.map λp=>κ p.1) (l.map λp=>f p.2)
theorem wx {α β γ:Type}(f:α->β)(g:α->γ):∀ l:ao α,(l.map f).zip (l.map g)=l.map λa=>(f a,g a)
 |[]=>rfl
 |a::l=>by rw[aK,aK,dF,wx f g l];rfl
section
variable {α β:Type}[DecidableEq α]{κ:α->Key}(hi:∀ a b,κ a=κ b->a=b)(f:β->D)
include hi
theorem Gx (k:α):∀ l:ao (α×β),ub (l.map λp=>(κ p.1,f p.2)) (κ k)=(fg l k).map f
 |[]=>rfl
 | p::l=>by
  have ih:=Gx k l;rw[gq];unfold ub at ih ⊢
  rw[aK,bD];by_cases h:p.1=k
  .rw[show decide ((κ p.1,f p.2).1=κ k)=true from aH (by rw[h]),aD h];rfl
  .rw[show decide ((κ p.1,f p.2).1=κ k)=false from aw λz=>h<|hi _ _ z,az h];exact ih
theorem Ny (k:α)(v:β)(l:ao (α×β)):dput (l.map λp=>(κ p.1,f p.2)) (κ k) (f v)=(jh l k v).map λp=>(κ p.1,f p.2):=by
 have e:((l.map λp=>(κ p.1,f p.2)).any λkv=>decide (kv.1=κ k))=l.any λp=>decide (p.1=k):=by
  rw[List.any_map];congr 1;funext p;show decide (κ p.1=κ k)=_;by_cases h:p.1=k
  .rw[aH h,aH (by rw[h])]
  .rw[aw h,aw (λz=>h<|hi _ _ z)]
 delta dput jh;rw[e];split
 .rw[a8,a8];refine cp λp _=>?_;simp;by_cases h:p.1=k
  .rw[aD h,aD (by rw[h])]
  .rw[az h,az (λz=>h<|hi _ _ z)]
 .rw[aS];rfl
theorem QU (k:α)(l:ao (α×β)):((l.map λp=>(κ p.1,f p.2)).filter λp=>decide (p.1≠κ k))=(lO l k).map λp=>(κ p.1,f p.2):=by
 rw[List.filter_map];congr 1;refine List.filter_congr λp _=>?_;show decide (κ p.1≠κ k)=_;by_cases h:p.1=k
 .rw[aw (by simp[h]),aw (by simp[h])]
 .rw[aH (show κ p.1≠κ k from λz=>h<|hi _ _ z),aH h]
theorem qV (k:α)(l:ao (α×β))(hd:vN d=some (κ k)):YX (l.map λp=>κ p.1) (l.map λp=>f p.2) d=some ((fg l k).map f):=by delta YX;rw[hd];show some (ub _<|κ k)=_;rw[wx,Gx hi]
theorem Su (k:α)(l:ao (α×β))(hd:vN d=some (κ k))(h:BK μ j=some (l.map λp=>κ p.1,l.map λp=>f p.2)):Vs μ j d=some ((fg l k).map f):=by delta Vs;rw[h,hd];show some (ub _<|κ k)=_;rw[wx,Gx hi]
end
def JL {γ:Type}(gf:Str->ao Nat->Int->γ)(gj:γ->γ->Int->γ)(z:γ)(eI:ao (Str×Pt)):Nat->Str->γ
 |0,_=>z
 | f+1,nm=>match fg eI nm with
  |some (.fst b a)=>gf nm b a
  |some (.jn l r p)=>gj (JL gf gj z eI f l) (JL gf gj z eI f r) p
  |none=>z
def nQ (eI:ao (Str×Pt))(nm:Str):Nat:=(eI.map (·.1)).idxOf nm
structure Ca (eI:List (Str×Pt)):Prop where
 nd:(eI.map (·.1)).Nodup
 low:∀ nm l r p,fg eI nm=some (.jn l r p)->nQ eI l<nQ eI nm/\nQ eI r<nQ eI nm
def sW:nQ eI nm<eI.length↔nm∈eI.map (·.1):=by rw[show eI.length=(eI.map (·.1)).length from(jf _).symm];exact List.idxOf_lt_length_iff
def Ca.there {eI:ao (Str×Pt)}(h:Ca eI){nm l r:Str}{p:Int}(e:fg eI nm=some (.jn l r p)):(∃ x,fg eI l=some x)/\∃ x,fg eI r=some x:=by have hn:=sW.mpr (ic.mp (by rw[e];rfl));refine jS (h.low nm l r p e) λh1 h2=>?_;exact⟨Option.isSome_iff_exists.mp<|ic.mpr<|sW.mp<|by lia,Option.isSome_iff_exists.mp<|ic.mpr<|sW.mp<|by lia⟩
section
variable {γ:Type}{gf:Str->ao Nat->Int->γ}{gj:γ->γ->Int->γ}{z:γ}{eI:ao (Str×Pt)}
def D5 (h:Ca eI):∀(f:Nat) (nm:Str),nQ eI nm<f->f<=eI.length->JL gf gj z eI f nm=JL gf gj z eI eI.length nm:=by
 have key:∀(i f g:Nat) (nm:Str),nQ eI nm=i->i<f->i<g->JL gf gj z eI f nm=JL gf gj z eI g nm:=by
  intro i;induction i using Nat.strongRecOn with
  | ind i ih =>
   intro f g nm hi hf hg;obtain⟨f,rfl⟩:∃ f',f=f'+1:=⟨f - 1,by lia⟩;obtain⟨g,rfl⟩:∃ g',g=g'+1:=⟨g - 1,by lia⟩;unfold JL;cases e:fg eI nm with
   |none=>rfl
   | some x =>
    cases x with
    |fst b a=>rfl
    | jn l r p =>refine jS (h.low nm l r p e) λh1 h2=>?_;dsimp only;rw[ih _ (by lia) f g l rfl (by lia) (by lia),ih _ (by lia) f g r rfl (by lia) (by lia)]
 intro f nm h1 h2;exact key _ f eI.length nm rfl h1 (by lia)
def ev (gf:Str->ao Nat->Int->γ)(gj:γ->γ->Int->γ)(z:γ)(eI:ao (Str×Pt))(nm:Str):γ:=JL gf gj z eI eI.length nm
def BH {nm:Str}{b:ao Nat}{a:Int}(e:fg eI nm=some (.fst b a)):ev gf gj z eI nm=gf nm b a:=by have hn:=sW.mpr (ic.mp (by rw[e];rfl));delta ev;obtain⟨m,hm⟩:∃ m,eI.length=m+1:=⟨eI.length - 1,by lia⟩;rw[hm];unfold JL;rw[e]
def HH (h:Ca eI){nm l r:Str}{p:Int}(e:fg eI nm=some (.jn l r p)):ev gf gj z eI nm=gj (ev gf gj z eI l) (ev gf gj z eI r) p:=by
 have hn:=sW.mpr (ic.mp (by rw[e];rfl));refine jS (h.low nm l r p e) λh1 h2=>?_;obtain⟨m,hm⟩:∃ m,eI.length=m+1:=⟨eI.length - 1,by lia⟩;have e1:=D5 (gf:=gf) (gj:=gj) (z:=z) h m l (by lia) (by lia);have e2:=D5 (gf:=gf) (gj:=gj) (z:=z) h m r (by lia) (by lia);have e3:JL gf gj z eI (m+1) nm=gj (JL gf gj z eI m l) (JL gf gj z eI m r) p:=by
  conv=>lhs;unfold JL
  rw[e]
 delta ev;rw[<- e1,<- e2,<- e3,<- hm]
def Nn (h:Ca eI)(P:Str->Prop)(hf:∀ nm b a,fg eI nm=some (.fst b a)->P nm)(hj:∀ nm l r p,fg eI nm=some (.jn l r p)->P l->P r->P nm):∀ nm x,fg eI nm=some x->P nm:=by
 have key:∀(i:Nat) (nm:Str) (x:Pt),nQ eI nm=i->fg eI nm=some x->P nm:=by
  intro i;induction i using Nat.strongRecOn with
  | ind i ih =>
   intro nm x hi e;cases x with
   |fst b a=>exact hf nm b a e
   | jn l r p =>refine jS (h.low nm l r p e) λh1 h2=>?_;obtain⟨⟨y,ey⟩,⟨w,ew⟩⟩:=h.there e;exact hj nm l r p e (ih _ (by lia) l y rfl ey) (ih _ (by lia) r w rfl ew)
 exact λnm x e=>key _ nm x rfl e
end
def jo (eI:ao (Str×Pt))(nm:Str):ao Nat×Int:=ev (λ_ b a=>(b,a)) (λx y p=>(W2 x.1 y.1 p,max x.2 y.2+1)) ([],0) eI nm
def jI (eI:ao (Str×Pt))(nm:Str):Int->Str×Nat:=ev (λnm _ _ _=>(nm,0)) (λx y p bar=>if bar<p then((x bar).1,(x bar).2+1)else((y bar).1,(y bar).2+1)) (λ_=>("",0)) eI nm
def nK (z:Str):Bool:=decide (1<=z.length)&&decide (z.length<=8)&&z.cps.toList.all λc=>decide (97<=c)&&decide (c<=122)
def Qh (z:Str):Bool:=z.cps.toList.all λc=>decide (c=111)||decide (c=120)
def nR (S:RS)(nm:Str):Bool:=(fg S.eI nm).isSome
def sV (nm:Str):Pt->Bool
 |.fst _ _=>false
 |.jn l r _=>decide (l=nm)||decide (r=nm)
def zr (S:RS)(nm:Str):Bool:=S.eI.any λp=>sV nm p.2
def xw (S:RS)(nm:Str):aq Nat:=if nK nm=false then some 4 else if nR S nm=true then some 9 else if 20<=S.eI.length then some 10 else none
def kq (S:RS)(p:Int):aq Nat:=if 1<=p/\p<S.n then none else some 7
def sj (a:Int):aq Nat:=if 0<=a/\a<=20 then none else some 5
def kW (S:RS):Dd->aq Nat
 |.put nm b a=>(xw S nm).or (if((b.length:Nat):Int)=S.n/\Qh b=true then sj a else some 0)
 |.join nm l r p=>(xw S nm).or (if nR S l=false then some 11 else if nR S r=false then some 11 else(kq S p).or (if(fg S.hG p).isSome=true then some 12 else none))
 |.found nm bar sg=>if nR S nm=false then some 11 else if 0<=bar/\bar<S.n then(if sg = "o"\/sg = "x" then none else some 0)else some 6
 | .uU nm a=>match fg S.eI nm with
  |none=>some 11
  |some (.jn _ _ _)=>some 13
  |some (.fst _ _)=>sj a
 |.drop nm=>if nR S nm=false then some 11 else if zr S nm=true then some 14 else none
 |.free p=>kq S p
 |.hG p=>kq S p
def DL (b:ao Nat)(bar:Int)(sg:Str):ao Nat:=b.take bar.toNat++(sg.cps.toList++b.drop (bar.toNat+1))
def MK (eI:ao (Str×Pt))(nm:Str)(bar:Int)(sg:Str):ao (Str×Pt):=match fg eI nm with
 |some (.fst b a)=>jh eI nm (.fst (DL b bar sg) a)
 |_=>eI
def oq (S:RS):Dd->RS
 |.put nm b a=>{ S with eI:=jh S.eI nm (.fst b.cps.toList a)}
 |.join nm l r p=>{ S with eI:=jh S.eI nm (.jn l r p)}
 |.found nm bar sg=>{ S with eI:=MK S.eI (jI S.eI nm bar).1 bar sg}
 | .uU nm a=>match fg S.eI nm with
  |some (.fst b _)=>{ S with eI:=jh S.eI nm (.fst b a)}
  |_=>S
 |.drop nm=>{ S with eI:=lO S.eI nm}
 |.free p=>{ S with hG:=lO S.hG p}
 |.hG p=>{ S with hG:=jh S.hG p ()}
structure zb (S:RS)(m:Nat):Prop where
 n1:1<=S.n
 n2:S.n<=40
 kp:Ca S.eI
 nj:S.eI.length<=20
 fs:∀ nm b a,fg S.eI nm=some (.fst b a)->(b.length:Int)=S.n/\OX b/\0<=a/\a<=20
 js:∀ nm l r p,fg S.eI nm=some (.jn l r p)->1<=p/\p<S.n
 Yu:∀ p∈S.eI,nK p.1=true
 shl:S.hG.length<=m
 Uk:(S.hG.map (·.1)).Nodup
def t6 (h:nm∈l.map (·.1)):nQ (l++[x]) nm=nQ l nm:=by delta nQ;rw[aS,d7,aD h]
def QE (h:x.1∉l.map (·.1)):nQ (l++[x]) x.1=l.length:=by delta nQ;rw[aS,d7,az h,aK,cn,show(x.1==x.1)=true from dh _,jf];simp
theorem sX {p:Str->Bool}{a b:Str}:∀ {l:ao Str},p a=true->p b=true->l.idxOf a<l.idxOf b->(l.filter p).idxOf a<(l.filter p).idxOf b
 |[],_,_,h=>by simp at h
 | x::t,ha,hb,h=>by
  by_cases e1:x=a
  .subst e1;have e2:¬ x=b:=λe2=>by subst e2;exact absurd h (bJ _)
   rw[bN,aD ha,cn,cn,show(x==x)=true from dh _,show(x==b)=false from cX e2];simp
  .have e2:¬ x=b:=λe2=>by subst e2;simp at h
   rw[cn,cn,show(x==a)=false from cX e1,show(x==b)=false from cX e2]at h
   have h':t.idxOf a<t.idxOf b:=by simpa using h
   have ih:=sX ha hb h'
   rw[bN]
   split
   .rw[cn,cn,show(x==a)=false from cX e1,show(x==b)=false from cX e2];simpa using ih
   .exact ih
def Ca.push (h:Ca l)(hn:nm∉l.map (·.1))(hx:∀ a b p,x=.jn a b p->a∈l.map (·.1)/\b∈l.map (·.1)):Ca (l++[(nm,x)]):=by
 refine⟨?_,λz a b p e=>?_⟩
 .rw[aS,bP];exact⟨h.nd,by simp,λa ha b hb e=>by rw[aK,List.map_nil,List.mem_singleton]at hb;have hb:b=nm:=hb;exact hn<|by rwa [<- hb,<- e]⟩
 .rw[Ez]at e;cases q:fg l z with
  | some y =>rw[q]at e;cases e;obtain⟨h1,h2⟩:=h.low z a b p q;have hz:=ic.mp (show(fg l z).isSome=true by rw[q];rfl);obtain⟨⟨y1,e1⟩,⟨y2,e2⟩⟩:=h.there q;rw[t6 hz,t6 (ic.mp (by rw[e1];rfl)),t6 (ic.mp (by rw[e2];rfl))];exact⟨h1,h2⟩
  | none =>
   rw[q]at e;have e':=e;rw[gq]at e';split at e'
   .rename_i y;subst y;have e3:=aW e';obtain⟨h1,h2⟩:=hx a b p e3;have en:=QE (x:=(nm,x)) hn;rw[show nQ (l++[(nm,x)]) nm=l.length from en,t6 h1,t6 h2];exact⟨sW.mpr h1,sW.mpr h2⟩
   .cases e'
def Ca.same (h:Ca l)(hk:l'.map (·.1)=l.map (·.1))(hx:∀ z a b p,fg l' z=some (.jn a b p)->fg l z=some (.jn a b p)):Ca l':=by refine⟨hk▸h.nd,λz a b p e=>?_⟩;delta nQ;rw[hk];exact h.low z a b p (hx z a b p e)
def Ca.drop (h:Ca l)(hx:∀ z a b p,fg l z=some (.jn a b p)->a≠nm/\b≠nm):Ca (lO l nm):=by
 have hk:(lO l nm).map (·.1)=(l.map (·.1)).filter λz=>decide (z≠nm):=by rw[List.filter_map];rfl
 refine⟨hk▸h.nd.sublist (List.filter_sublist),λz a b p e=>?_⟩;have hz:z≠nm:=λy=>by subst y;have:=uk e;unfold lO at this;rw[List.mem_filter]at this;simpa using this.2
 rw[Ad hz]at e;refine jS (h.low z a b p e) λh1 h2=>?_;refine jS (hx z a b p e) λn1 n2=>?_;unfold nQ at h1 h2 ⊢
 rw[hk];exact⟨sX (aH n1) (aH hz) h1,sX (aH n2) (aH hz) h2⟩
def rn {α β:Type}[DecidableEq α]{l:ao (α×β)}{k:α}{v:β}(h:fg l k=none):jh l k v=l++[(k,v)]:=by delta jh;rw[az];rw[n6,h];exact aM
def Om {α β:Type}[DecidableEq α]{l:ao (α×β)}{k:α}{v:β}:(jh l k v).length<=l.length+1:=by
 delta jh;split
 .rw[jf];lia
 .rw[mJ,aU];exact au _
def Ew {α β:Type}[DecidableEq α]{l:ao (α×β)}{k:α}{v x:β}(h:fg l k=some x):(jh l k v).map (·.1)=l.map (·.1)/\(jh l k v).length=l.length:=by have:k∈l.map (·.1):=ic.mp (by rw[h];rfl);have e:=Ac (l:=l) (k:=k) (v:=v);rw[aD this]at e;exact⟨e,by have:=bG List.length e;rwa [jf,jf]at this⟩
def QJ (h:nR S nm=false):fg S.eI nm=none:=by
 delta nR at h;cases e:fg S.eI nm with
 |none=>rfl
 |some x=>rw[e]at h;cases h
def xI (h:¬ nR S nm=false):∃ x,fg S.eI nm=some x:=by
 delta nR at h;cases e:fg S.eI nm with
 |none=>rw[e]at h;exact absurd rfl h
 |some x=>exact⟨x,rfl⟩
def uH (h:xw S nm=none):nK nm=true/\fg S.eI nm=none/\S.eI.length<20:=by
 delta xw at h;split at h
 .cases h
 .rename_i h1;split at h
  .cases h
  .rename_i h2;split at h
   .cases h
   .rename_i h3;exact⟨by cases e:nK nm with|true=>rfl|false=>exact absurd e h1,QJ (by cases e:nR S nm with|false=>rfl|true=>exact absurd e h2),by lia⟩
def or_none {α:Type}{a b:aq α}(h:a.or b=none):a=none/\b=none:=by
 cases a with
 |none=>exact⟨rfl,h⟩
 |some x=>cases h
def Df {S:RS}{p:Int}(h:kq S p=none):1<=p/\p<S.n:=by
 delta kq at h;split at h
 .assumption
 .cases h
def Ae {a:Int}(h:sj a=none):0<=a/\a<=20:=by
 delta sj at h;split at h
 .assumption
 .cases h
def UU (h:Qh z=true):OX z.cps.toList:=λc hc=>by
 have:=List.all_eq_true.mp h c hc;rcases Bool.or_eq_true_iff.mp this with q|q
 .exact .inl (dP q)
 .exact .inr (dP q)
def G2 (h:Ca eI)(bar:Int):∀ nm x,fg eI nm=some x->∃ b a,fg eI (jI eI nm bar).1=some (.fst b a):=by
 refine Nn h (λnm=>∃ b a,fg eI (jI eI nm bar).1=some (.fst b a)) (λnm b a e=>?_) (λnm l r p e h1 h2=>?_)
 .delta jI;rw[BH e];exact⟨b,a,e⟩
 .delta jI;rw[HH h e];split
  .exact h1
  .exact h2
def JC {b:ao Nat}{bar n:Int}{sg:Str}(hb:(b.length:Int)=n)(h0:0<=bar)(h1:bar<n)(hs:sg.cps.toList.length=1):((DL b bar sg).length:Int)=n:=by delta DL;rw[mJ,mJ,ba,cb,hs];lia
def MJ {b:ao Nat}{bar:Int}{sg:Str}(hb:OX b)(hs:OX sg.cps.toList):OX (DL b bar sg):=λc hc=>by
 rcases List.mem_append.mp hc with q|q
 .exact hb c (a6 q)
 .rcases List.mem_append.mp q with q | q
  .exact hs c q
  .exact hb c (List.mem_of_mem_drop q)
def Li {sg:Str}(h:sg = "o"\/sg = "x"):OX sg.cps.toList/\sg.cps.toList.length=1:=by
 rcases h with rfl|rfl
 .exact⟨OX.of<|by decide +kernel,rfl⟩
 .exact⟨OX.of<|by decide +kernel,rfl⟩
def zb.again {S:RS}{m:Nat}(h:zb S m){nm:Str}{b b':ao Nat}{a a':Int}(e:fg S.eI nm=some (.fst b a))(hb:(b'.length:Int)=S.n)(ho:OX b')(h0:0<=a')(h1:a'<=20):zb { S with eI:=jh S.eI nm (.fst b' a')} (m+1):=by
 obtain⟨k1,k2⟩:=Ew e;refine⟨h.n1,h.n2,h.kp.same k1 λz a b p q=>?_,k2▸h.nj,λz b a q=>?_,λz l r p q=>?_,λp hp=>?_,bX h.shl,h.Uk⟩
 .rw[uj]at q;split at q
  .cases q
  .exact q
 .rw[uj]at q;split at q
  .cases q;exact⟨hb,ho,h0,h1⟩
  .exact h.fs z b a q
 .rw[uj]at q;split at q
  .cases q
  .exact h.js z l r p q
 .have:p.1∈(jh S.eI nm<|.fst b' a').map (·.1):=List.mem_map.mpr ⟨p,hp,rfl⟩;rw[k1]at this;refine eS (List.mem_map.mp this) λq hq e2=>?_;rw[<- e2];exact h.Yu q hq
def zb.more {S:RS}{m:Nat}(h:zb S m){nm:Str}{x:Pt}(hn:xw S nm=none)(hx:∀ a b p,x=.jn a b p->(∃ y,fg S.eI a=some y)/\(∃ y,fg S.eI b=some y)/\1<=p/\p<S.n)(hf:∀ b a,x=.fst b a->(b.length:Int)=S.n/\OX b/\0<=a/\a<=20):zb { S with eI:=jh S.eI nm x} (m+1):=by
 refine rh (uH hn) λn1 n2 n3=>?_;have e:=rn (v:=x) n2;rw[e];have ES:nm∉S.eI.map (·.1):=λz=>by have:=ic.mpr z;rw[n2]at this;cases this
 have get:∀ z y,fg (S.eI++[(nm,x)]) z=some y->fg S.eI z=some y\/(z=nm/\y=x):=λz y q=>by
  rw[<- e,uj]at q;split at q
  .rename_i w;exact .inr ⟨w,(aW q).symm⟩
  .exact .inl q
 refine⟨h.n1,h.n2,h.kp.push ES λa b p q=>?_,by show(S.eI++[(nm,x)]).length<=20;rw[mJ,aU];lia,λz b a q=>?_,λz l r p q=>?_,λp hp=>?_,bX h.shl,h.Uk⟩
 .obtain⟨⟨y,e1⟩,⟨w,e2⟩,_⟩:=hx a b p q;exact⟨ic.mp (by rw[e1];rfl),ic.mp (by rw[e2];rfl)⟩
 .rcases get z _ q with q | ⟨_,q⟩
  .exact h.fs z b a q
  .exact hf b a q.symm
 .rcases get z _ q with q | ⟨_,q⟩
  .exact h.js z l r p q
  .exact(hx l r p q.symm).2.2
 .rcases List.mem_append.mp hp with q | q
  .exact h.Yu p q
  .rwa [List.mem_singleton.mp q]
def zb.do {S:RS}{m:Nat}{d:Dd}(h:zb S m)(hr:kW S d=none):zb (oq S d) (m+1):=by
 cases d with
 | put nm b a =>
  obtain⟨h1,h2⟩:=or_none hr;split at h2
  .rename_i q;obtain⟨a0,a1⟩:=Ae h2;exact h.more h1 (λ_ _ _ e=>by cases e) λb' a' e=>by cases e;exact⟨q.1,UU q.2,a0,a1⟩
  .cases h2
 | join nm l r p =>
  obtain⟨h1,h2⟩:=or_none hr;split at h2
  .cases h2
  .rename_i q1;split at h2
   .cases h2
   .rename_i q2;obtain⟨h3,_⟩:=or_none h2;obtain⟨p1,p2⟩:=Df h3;exact h.more h1 (λa b p' e=>by cases e;exact⟨xI q1,xI q2,p1,p2⟩) λ_ _ e=>by cases e
 | found nm bar sg =>
  have hr:(if nR S nm=false then some 11 else if 0<=bar/\bar<S.n then(if sg = "o"\/sg = "x" then none else some 0)else some 6)=(none:aq Nat):=hr;split at hr
  .cases hr
  .rename_i q1;split at hr
   .rename_i q2;split at hr
    .rename_i q3;obtain⟨x,ex⟩:=xI q1;refine JO (G2 h.kp bar nm x ex) λb a e=>?_;refine Nu (h.fs _ b a e) λf1 f2 f3 f4=>?_;obtain⟨o1,o2⟩:=Li q3;have:=h.again e (JC f1 q2.1 q2.2 o2) (MJ (bar:=bar) f2 o1) f3 f4;delta oq MK;dsimp only;rwa [e]
    .cases hr
   .cases hr
 | uU nm a =>
  have hr:(match fg S.eI nm with|none=>some 11|some (.jn _ _ _)=>some 13|some (.fst _ _)=>sj a)=(none:aq Nat):=hr;show zb (match fg S.eI nm with|some (.fst b _)=>{ S with eI:=jh S.eI nm (.fst b a)}|_=>S) _;cases e:fg S.eI nm with
  |none=>rw[e]at hr;cases hr
  | some x =>
   rw[e]at hr;cases x with
   |jn l r p=>cases hr
   | fst b a0 =>obtain⟨a1,a2⟩:=Ae hr;refine rh (h.fs nm b a0 e) λf1 f2 _=>?_;exact h.again e f1 f2 a1 a2
 | drop nm =>
  have hr:(if nR S nm=false then some 11 else if zr S nm=true then some 14 else none)=(none:aq Nat):=hr;split at hr
  .cases hr
  .split at hr
   .cases hr
   .rename_i q;have hx:∀ z a b p,fg S.eI z=some (.jn a b p)->a≠nm/\b≠nm:=λz a b p e=>by have nq:¬ sV nm (.jn a b p)=true:=λy=>q<|List.any_eq_true.mpr ⟨_,uk e,y⟩;exact⟨λy=>nq (by show(decide (a=nm)||decide (b=nm))=true;rw[aH y];rfl),λy=>nq (by show(decide (a=nm)||decide (b=nm))=true;rw[aH y,d8])⟩
    have get:∀ z y,fg (lO S.eI nm) z=some y->fg S.eI z=some y:=λz y e=>by
     by_cases hz:z=nm
     .subst hz;have:=uk e;unfold lO at this;rw[List.mem_filter]at this;exact absurd this.2 (by simp)
     .rw[Ad hz]at e;exact e
    refine⟨h.n1,h.n2,h.kp.drop hx,aG (List.length_filter_le _ _) h.nj,λz b a e=>h.fs z b a<|get z _ e,λz l r p e=>h.js z l r p<|get z _ e,λp hp=>h.Yu p (List.mem_filter.mp hp).1,bX h.shl,h.Uk⟩
 |free p=>exact⟨h.n1,h.n2,h.kp,h.nj,h.fs,h.js,h.Yu,bX<|aG (List.length_filter_le _ _) h.shl,h.Uk.sublist<|List.Sublist.map _ List.filter_sublist⟩
 | hG p=>exact⟨h.n1,h.n2,h.kp,h.nj,h.fs,h.js,h.Yu,aG Om<|Nat.succ_le_succ h.shl,by
  show((jh S.hG p ()).map (·.1)).Nodup
  rw[Ac]
  split
  .exact h.Uk
  .rename_i q
   rw[bP]
   exact⟨h.Uk,by simp,λa ha b hb e=>q (by rw[<- List.mem_singleton.mp hb,<- e];exact ha)⟩⟩
def qe:Pt->D
 |.fst _ _=>.gw
 |.jn l r p=>.tup [.str l,.str r,.int p]
def MW:Str×Pt->aq (Str×Tk)
 |(nm,.fst b a)=>some (nm,(b,a))
 |(_,.jn _ _ _)=>none
def fv (eI:ao (Str×Pt)):ao (Str×Tk):=eI.filterMap MW
def R4 (sh:ao (Int×Unit)):D:=uQ nP (λ_=>.bl true) sh
def OK:ao Str:=["length","made_of","firsts","closed"]
def oU (cS:aj)(S:RS):D:=.obj cS OK [.int S.n,uQ gh qe S.eI,uQ gh jZ (fv S.eI),R4 S.hG]
def Ed:Dd->D
 |.put nm b a=>.tup [.str "put",.str nm,.str b,.int a]
 |.join nm l r p=>.tup [.str "join",.str nm,.str l,.str r,.int p]
 |.found nm bar sg=>.tup [.str "found",.str nm,.int bar,.str sg]
 |.uU nm a=>.tup [.str "aged",.str nm,.int a]
 |.drop nm=>.tup [.str "drop",.str nm]
 |.free p=>.tup [.str "free",.int p]
 |.hG p=>.tup [.str "shut",.int p]
def ddW:Dd->Nat
 |.put _ _ _=>0|.join _ _ _ _=>1|.found _ _ _=>2|.uU _ _=>3|.drop _=>4|.free _=>5|.hG _=>6
def NF:Dd->Prop
 |.put nm b _=>nm.length<=1000/\b.length<=1000
 |.join nm _ _ _=>nm.length<=1000
 |_=>True
def vZ (cs:ao aj)(K:DK)(Kx:DX)(o:aq Nat)(d:D)(μ:MS):Prop:=match o with
 |some i=>Kx (.ref<|cs.getD i 0) μ
 |none=>K d μ
def M8:ot:=λds μ K=>match ds with
 |[.pF ks es,y,v]=>∃(kd:ao (Key×D)) (k:Key),ks=kd.map (·.1)/\es=kd.map (·.2)/\kd.length<=100000/\vN y=some k/\K (.pF ((dput kd k v).map (·.1)) ((dput kd k v).map (·.2))) μ
 |_=>False
def xS:ot:=λds μ K=>match ds with
 |[.pF ks es,y]=>∃(kd:ao (Key×D)) (k:Key),ks=kd.map (·.1)/\es=kd.map (·.2)/\kd.length<=100000/\(kd.map (·.1)).Nodup/\vN y=some k/\(∀ p∈kd,(∃ i j,p.1=nP i/\k=nP j)\/∃ i j,p.1=gh i/\k=gh j)/\K (.pF ((kd.filter λp=>decide (p.1≠k)).map (·.1)) ((kd.filter λp=>decide (p.1≠k)).map (·.2))) μ
 |_=>False
def HE:ot:=λds μ K=>dM [.i,.s] ds λn z=>z.length<=1000/\K (.bl<|decide (((z.length:Nat):Int)=n/\Qh z=true)) μ
def Ge (cS:aj)(cs:ao aj):jc:=λds μ K Kx=>dM [.v,.s] ds λx nm=>(∃ m,μ[0]?=some m)/\∃ S,x=oU cS S/\(match fg S.eI nm with|some _=>K .gw μ|none=>Kx (.ref<|cs.getD 11 0) μ)
def Gd {K:DK}(h:Ge cS cs ds μ K Kx):ds.length=2/\∃ m,μ[0]?=some m:=by obtain⟨_,_,rfl,h⟩:=dJ h;exact⟨rfl,h.1⟩
def By (cS:aj)(cs:ao aj):jc:=λds μ K Kx=>dM [.v,.s] ds λx nm=>(∃ m,μ[0]?=some m)/\∃ S,x=oU cS S/\(match fg S.eI nm with|some y=>K (qe y) μ|none=>Kx (.ref<|cs.getD 11 0) μ)
def DU {K:DK}(h:By cS cs ds μ K Kx):ds.length=2/\∃ m,μ[0]?=some m:=by obtain⟨_,_,rfl,h⟩:=dJ h;exact⟨rfl,h.1⟩
def Iz (p:Str×Nat):D:=.tup [.str p.1,.int p.2]
def xT (cS:aj)(cs:ao aj):jc:=λds μ K Kx=>dM [.v,.s,.i] ds λx nm bar=>(∃ m,μ[0]?=some m)/\∃ S,x=oU cS S/\Ca S.eI/\(match fg S.eI nm with|some _=>(if 0<=bar/\bar<S.n then K (Iz<|jI S.eI nm bar) μ else Kx (.ref<|cs.getD 6 0) μ)|none=>Kx (.ref<|cs.getD 11 0) μ)
def Bs {K:DK}(h:xT cS cs ds μ K Kx):ds.length=3/\∃ m,μ[0]?=some m:=by obtain⟨_,_,_,rfl,h⟩:=dJ h;exact⟨rfl,h.1⟩
def wB (eI:ao (Str×Pt)):ao (Str×Tk):=eI.map λp=>(p.1,jo eI p.1)
def D1 (cS:aj):ot:=λds μ K=>dM [.v] ds λx=>∃ S m,x=oU cS S/\zb S m/\K (uQ gh jZ<|wB S.eI) μ
def Gi (cS:aj)(cs:ao aj):jc:=λds μ K Kx=>dM [.v,.s] ds λx nm=>(∃ m,μ[0]?=some m)/\∃ S m,x=oU cS S/\zb S m/\(match fg S.eI nm with|some _=>K (jZ<|jo S.eI nm) μ|none=>Kx (.ref<|cs.getD 11 0) μ)
def Gh {K:DK}(h:Gi cS cs ds μ K Kx):ds.length=2/\∃ m,μ[0]?=some m:=by obtain⟨_,_,rfl,h⟩:=dJ h;exact⟨rfl,h.1⟩
def tU (S:RS):ao Int:=((List.range (S.n - 1).toNat).map λi=>1+((i:Nat):Int)).filter λp=>!(fg S.hG p).isSome
def oR (S:RS):ao Tk:=S.eI.map λp=>jo S.eI p.1
def HA (cS:aj):ot:=λds μ K=>dM [.v] ds λx=>∃ S m,x=oU cS S/\zb S m/\K (.tup [.int S.n,.lst ((tU S).map D.int),.lst ((oR S).map jZ)]) μ
def Hy (cS:aj):ot:=λds μ K=>dM [.m,.i,.v,.v,.v] ds λk n a b c=>μ[k]?=some (.ins cS [] [])/\K .gw (μ.set k<|.ins cS OK [.int n,a,b,c])
def kL (cS:aj)(cs:ao aj)(w:Nat):jc:=λds μ K Kx=>dM [.v,.v] ds λx y=>(∃ m,μ[0]?=some m)/\∃ S d m,x=oU cS S/\y=Ed d/\ddW d=w/\zb S m/\m<=1000/\NF d/\vZ cs K Kx (kW S d) (oU cS<|oq S d) μ
def lJ {K:DK}(h:kL cS cs w ds μ K Kx):ds.length=2/\∃ m,μ[0]?=some m:=by obtain⟨_,_,rfl,h⟩:=dJ h;exact⟨rfl,h.1⟩
def x6 (cS:aj)(cs:ao aj):jc:=λds μ K Kx=>dM [.v,.v] ds λx y=>(∃ m,μ[0]?=some m)/\∃ S d m,x=oU cS S/\y=Ed d/\zb S m/\m<=1000/\NF d/\vZ cs K Kx (kW S d) (oU cS<|oq S d) μ
def BF {K:DK}(h:x6 cS cs ds μ K Kx):ds.length=2/\∃ m,μ[0]?=some m:=by obtain⟨_,_,rfl,h⟩:=dJ h;exact⟨rfl,h.1⟩
def VX (cS:aj)(cs:ao aj):jc:=λds μ K Kx=>dM [.v,.s] ds λx nm=>(∃ m,μ[0]?=some m)/\nm.length<=1000/\∃ S,x=oU cS S/\vZ cs K Kx (xw S nm) .gw μ
def Nc {K:DK}(h:VX cS cs ds μ K Kx):ds.length=2/\∃ m,μ[0]?=some m:=by obtain⟨_,_,rfl,h⟩:=dJ h;exact⟨rfl,h.1⟩
def Nh (cs:ao aj):jc:=λds μ K Kx=>dM [.i] ds λa=>(∃ m,μ[0]?=some m)/\vZ cs K Kx (sj a) .gw μ
def JH {K:DK}(h:Nh cs ds μ K Kx):ds.length=1/\∃ m,μ[0]?=some m:=by obtain⟨_,rfl,h⟩:=dJ h;exact⟨rfl,h.1⟩
def Bx (cS:aj)(cs:ao aj):jc:=λds μ K Kx=>dM [.v,.i] ds λx p=>(∃ m,μ[0]?=some m)/\∃ S,x=oU cS S/\vZ cs K Kx (kq S p) .gw μ
def DT {K:DK}(h:Bx cS cs ds μ K Kx):ds.length=2/\∃ m,μ[0]?=some m:=by obtain⟨_,_,rfl,h⟩:=dJ h;exact⟨rfl,h.1⟩
def N5 {P:ae}{w:af}{K:aa}{mg:Str->aq ak}{eB:Heap}{k:Nat}{ps:ao Str}:RJ P w K mg eB [] k ps:=⟨λ_ h=>nomatch h⟩
def mE {P:ae}{w:af}{K:aa}{mg:Str->aq ak}{eB:Heap}{x:Str}{k:Nat}{ps:ao Str}{f:jc}{a:aj}{T:ao (aj×jc)}(C:mG P w K mg eB x k ps (iD f))(hm:mg x=some (.ref a))(R:RJ P w K mg eB T k ps):RJ P w K mg eB ((a,f)::T) k ps:=⟨λp hp=>by
 rcases List.mem_cons.mp hp with rfl|q
 .refine jX C.ex λf' fd F MF hk hb=>?_
  rw[hm]at MF
  cases MF
  exact⟨fd,F,hk,hb⟩
 .exact R.ex p q⟩
def iA:(μ++[x])[μ.length]?=some x:=by rw[ou (au _),aO];rfl
def HI:BK (μ++[.lh ks ds]) μ.length=some (ks,ds):=by delta BK;rw[iA]
theorem Bj:∀ {ds:ao D} {d:D},r6 n ds->d∈ds->yC n d
 | _::_,d,h,hd=>by
  rcases List.mem_cons.mp hd with rfl|q
  .exact h.1
  .exact Bj h.2 q
def Nw (h:d∈(dput kd k v).map (·.2)):d∈kd.map (·.2)\/d=v:=by
 delta dput at h;split at h
 .rw[a8]at h;obtain⟨p,hp,rfl⟩:=List.mem_map.mp h;simp only[Function.comp];split
  .exact .inr rfl
  .exact .inl (List.mem_map.mpr ⟨p,hp,rfl⟩)
 .rw[aS]at h;rcases List.mem_append.mp h with q|q
  .exact .inl q
  .exact .inr (List.mem_singleton.mp q)
def pT (h:r6 n (kd.map (·.2)))(hv:yC n v):r6 n ((dput kd k v).map (·.2)):=pU λd hd=>by
 rcases Nw hd with q|q
 .exact Bj h q
 .rwa [q]
def Nv (h:k∉kd.map (·.1)):dput kd k v=kd++[(k,v)]:=by delta dput;rw[az];intro z;refine eS (List.any_eq_true.mp z) λp hp e=>?_;exact h (List.mem_map.mpr ⟨p,hp,dP e⟩)
def zx {kd:ao (Key×D)}:List.zipWith (λk d=>D.tup [vM k,d]) (kd.map (·.1)) (kd.map (·.2))=kd.map λp=>D.tup [vM p.1,p.2]:=by
 induction kd with
 |nil=>rfl
 |cons p kd ih=>rw[aK,aK,List.zipWith_cons_cons,ih];rfl
theorem oY {it:D->MS->(aq (Key×D)->MS->Prop)->Prop}{μ:MS}(t:Key×D->Bool):∀(kd acc:ao (Key×D)) (K:ao (Key×D)->Prop),((acc++kd).map (·.1)).Nodup ->
 (∀ p∈kd,∀(fj:MS) (K':aq (Key×D)->MS->Prop),K' (if t p=true then some p else none) fj->it (.tup [vM p.1,p.2]) fj K')->K (acc++kd.filter t)->uP it (λ_=>True) μ (kd.map λp=>D.tup [vM p.1,p.2]) acc K
 |[],acc,K,_,_,k=>by rw[List.filter_nil,bg]at k;exact⟨trivial,k⟩
 | p::kd,acc,K,nd,h,k=>by
  refine⟨trivial,h p aI _ _ ⟨rfl,?_⟩⟩;rw[bN]at k;have Yy:=nd.sublist<|List.Sublist.map _<|List.Sublist.append_left (List.sublist_cons_self _ _) _;by_cases q:t p=true
  .rw[aD q]at k ⊢
   have hn:p.1∉acc.map (·.1):=λz=>by rw[aS,bP]at nd;exact nd.2.2 p.1 z p.1 (List.mem_map.mpr ⟨p,aI,rfl⟩) rfl
   show uP it _ μ _ (dput acc p.1 p.2) K;rw[Nv hn];exact oY t kd (acc++[p]) K (by rwa [a9]) (λp' OO=>h p'<|o6 _ OO) (by rwa [a9])
  .rw[az q]at k ⊢
   exact oY t kd acc K Yy (λp' OO=>h p'<|o6 _ OO) k
theorem N3:∀ l:ao Nat,l.count 111+l.count 120=l.length↔(l.all λc=>decide (c=111)||decide (c=120))=true
 |[]=>by simp
 | c::l=>by
  have ih:=N3 l;have le:l.count 111+l.count 120<=l.length:=by
   clear ih;induction l with
   |nil=>simp
   | cons d l Ko =>
    rw[dw,dw,aT];by_cases e1:d=111
    .subst e1;lia
    .by_cases e2:d=120
     .subst e2;lia
     .lia
  rw[dw,dw,aT,List.all_cons];by_cases e1:c=111
  .subst e1;lia
  .by_cases e2:c=120
   .subst e2;lia
   .rw[az (by simpa using e1),az (by simpa using e2),aw e1,aw e2];lia
def kA (p:Str×Pt)(l:ao (Str×Pt)):fv (p::l)=match MW p with | some q=>q::fv l | none=>fv l:=by delta fv;rw[cM];cases MW p<;>rfl
def nU (nd:(l.map (·.1)).Nodup):fg (fv l) nm=match fg l nm with | some (.fst b a)=>some (b,a) | _=>none:=by
 induction l with
 |nil=>rfl
 | cons p l ih =>
  obtain⟨z,x⟩:=p;rw[aK,List.nodup_cons]at nd;have ih:=ih nd.2;rw[kA,gq];by_cases e:z=nm
  .rw[aD e];have hn:fg l nm=none:=by
    cases q:fg l nm with
    |none=>rfl
    |some y=>exact absurd (ic.mp (show(fg l nm).isSome=true by rw[q];rfl)) (e▸nd.1)
   cases x with
   |fst b a=>show fg ((z,(b,a))::fv l) nm=_;rw[gq,aD e]
   |jn a b p=>show fg (fv l) nm=_;rw[ih,hn]
  .rw[az e];cases x with
   |fst b a=>show fg ((z,(b,a))::fv l) nm=_;rw[gq,az e,ih]
   |jn a b p=>show fg (fv l) nm=_;rw[ih]
def xO:((fv l).map (·.1)).Sublist (l.map (·.1)):=by
 induction l with
 |nil=>exact .slnil
 | cons p l ih =>
  obtain⟨z,x⟩:=p;cases x with
  |fst b a=>exact ih.cons₂ _
  |jn a b q=>exact ih.cons _
def DP:fv (lO l nm)=lO (fv l) nm:=by
 delta lO;induction l with
 |nil=>rfl
 | cons p l ih =>
  obtain⟨z,x⟩:=p;rw[bN,kA];by_cases e:z=nm
  .rw[az (by simp[e]),ih];cases x with
   |fst b a=>show _=List.filter _ ((z,(b,a))::fv l);rw[bN,az (by simp[e])]
   |jn a b q=>rfl
  .rw[aD (by simp[e]),kA,ih];cases x with
   |fst b a=>show _=List.filter _ ((z,(b,a))::fv l);rw[bN,aD (by simp[e])];rfl
   |jn a b q=>rfl
def xQ:fv (l++m)=fv l++fv m:=List.filterMap_append
def JF {l:ao (Str×Pt)}{nm a b:Str}{p:Int}(h:fg l nm=none):fv (jh l nm<|.jn a b p)=fv l:=by rw[rn h,xQ];exact bg _
def Ga {l:ao (Str×Pt)}{nm:Str}{b:ao Nat}{a:Int}(nd:(l.map (·.1)).Nodup)(h:fg l nm=none):fv (jh l nm<|.fst b a)=jh (fv l) nm (b,a):=by rw[rn h,rn (by rw[nU nd,h]),xQ];rfl
def Ex {α β:Type}[DecidableEq α]{l:ao (α×β)}{k:α}{v:β}(h:k∉l.map (·.1)):(l.map λp=>if p.1=k then(p.1,v)else p)=l:=by
 conv=>rhs;rw[<- List.map_id l]
 refine cp λp hp=>?_;rw[az]
 .rfl
 .exact λe=>h (List.mem_map.mpr ⟨p,hp,e⟩)
def xP {l:ao (Str×Pt)}{nm:Str}{b b0:ao Nat}{a a0:Int}(nd:(l.map (·.1)).Nodup)(h:fg l nm=some (.fst b0 a0)):fv (jh l nm<|.fst b a)=jh (fv l) nm (b,a):=by
 have h2:fg (fv l) nm=some (b0,a0):=by rw[nU nd,h]
 delta jh;rw[aD (by rw[n6,h];rfl),aD (by rw[n6,h2];rfl)];clear h2;induction l with
 |nil=>cases h
 | cons p l ih =>
  obtain⟨z,x⟩:=p;rw[aK,List.nodup_cons]at nd;rw[gq]at h;rw[aK];by_cases e:z=nm
  .subst e;rw[aD rfl]at h;cases(aW h);rw[aD rfl,Ex (k:=z) nd.1,kA,kA];show(z,(b,a))::fv l=List.map _ ((z,(b0,a0))::fv l);rw[aK,aD rfl,Ex (k:=z) (λq=>nd.1<|xO.subset q)]
  .rw[az e]at h;rw[az e,kA,kA,ih nd.2 h];cases x with
   |fst b1 a1=>show _=List.map _ ((z,(b1,a1))::fv l);rw[aK,az e];rfl
   |jn _ _ _=>rfl
def RR {S:RS}{m:Nat}(h:zb S m):∀ nm x,fg S.eI nm=some x->((jo S.eI nm).1.length:Int)=S.n/\OX (jo S.eI nm).1/\0<=(jo S.eI nm).2:=by
 refine Nn h.kp (λnm=>((jo S.eI nm).1.length:Int)=S.n/\OX (jo S.eI nm).1/\0<=(jo S.eI nm).2) (λnm b a e=>?_) (λnm l r p e h1 h2=>?_)
 .delta jo;rw[BH e];refine Nu (h.fs nm b a e) λf1 f2 f3 _=>?_;exact⟨f1,f2,f3⟩
 .refine jS (h.js nm l r p e) λp1 p2=>?_;unfold jo at h1 h2 ⊢
  rw[HH h.kp e];refine rh h1 λa1 a2 a3=>?_;obtain⟨b1,b2,b3⟩:=h2;refine⟨?_,Vn a2 b2,?_⟩
  .have:=QA (l1:=(ev (λ_ b a=>(b,a)) (λx y p=>(W2 x.1 y.1 p,max x.2 y.2+1)) ([],0) S.eI l:ao Nat×Int).1) (l2:=(ev (λ_ b a=>(b,a)) (λx y p=>(W2 x.1 y.1 p,max x.2 y.2+1)) ([],0) S.eI r:ao Nat×Int).1) (p:=p) (Int.le_of_lt ‹_›) (by lia) (by lia);rwa [this]
  .lia
def Xo {S:RS}(h:Ca S.eI){nm l r:Str}{p:Int}(e:fg S.eI nm=some (.jn l r p)):jo S.eI nm=sv (jo S.eI l) (jo S.eI r) p:=by delta jo;rw[HH h e];rfl
def TH {eI:ao (Str×Pt)}{nm:Str}{b:ao Nat}{a:Int}(e:fg eI nm=some (.fst b a)):jo eI nm=(b,a):=by delta jo;rw[BH e]
def ju {α β:Type}(κ:α->Key)(f:β->D)(l:ao (α×β)):(l.map λp=>κ p.1)=(l.map λp=>(κ p.1,f p.2)).map (·.1)/\(l.map λp=>f p.2)=(l.map λp=>(κ p.1,f p.2)).map (·.2):=by rw[a8,a8];exact⟨rfl,rfl⟩
def K6 {eI:ao (Str×Pt)}{nm:Str}{b:ao Nat}{a bar:Int}(e:fg eI nm=some (.fst b a)):jI eI nm bar=(nm,0):=by delta jI;rw[BH e]
def T5 {eI:ao (Str×Pt)}(h:Ca eI){nm l r:Str}{p:Int}(e:fg eI nm=some (.jn l r p))(bar:Int):jI eI nm bar=if bar<p then((jI eI l bar).1,(jI eI l bar).2+1)else((jI eI r bar).1,(jI eI r bar).2+1):=by delta jI;rw[HH h e]
def Jn {α β:Type}{n:Nat}{κ:α->Key}{f:β->D}(hf:∀ b,yC n (f b))(l:ao (α×β)):r6 n ((l.map λp=>(κ p.1,f p.2)).map (·.2)):=pU λd hd=>by rw[a8]at hd;refine eS (List.mem_map.mp hd) λp _ fE=>?_;subst fE;exact hf _
def u7:∀ x,yC n (qe x)
 |.fst _ _=>trivial
 |.jn _ _ _=>⟨trivial,trivial,trivial,trivial⟩
def tF (t:Tk):yC n (jZ t):=⟨trivial,trivial,trivial⟩
def vd {α β:Type}{n:Nat}{κ:α->Key}{f:β->D}(hf:∀ b,yC n (f b))(l:ao (α×β)):yC n (uQ κ f l):=pU λd hd=>by obtain⟨p,_,rfl⟩:=List.mem_map.mp hd;exact hf _
def Dx (l:ao (Int×Unit)):yC n (R4 l):=vd (f:=λ_:Unit=>D.bl true) (λ_=>True.intro) l
section
variable {α β:Type}[DecidableEq α]{κ:α->Key}(hi:∀ a b,κ a=κ b->a=b)(f:β->D)
include hi
theorem Ip (k:α)(v:β)(l:ao (α×β)):D.pF ((dput (l.map λp=>(κ p.1,f p.2)) (κ k)<|f v).map (·.1)) ((dput (l.map λp=>(κ p.1,f p.2)) (κ k)<|f v).map (·.2))=uQ κ f (jh l k v):=by rw[Ny hi f k v l,<- (ju κ f _).1,<- (ju κ f _).2];rfl
theorem KD (k:α)(l:ao (α×β)):D.pF (((l.map λp=>(κ p.1,f p.2)).filter λp=>decide (p.1≠κ k)).map (·.1)) (((l.map λp=>(κ p.1,f p.2)).filter λp=>decide (p.1≠κ k)).map (·.2))=uQ κ f (lO l k):=by rw[QU hi f k l,<- (ju κ f _).1,<- (ju κ f _).2];rfl
theorem Mj {l:ao (α×β)}(nd:(l.map (·.1)).Nodup):((l.map λp=>(κ p.1,f p.2)).map (·.1)).Nodup:=by rw[a8];show(l.map<|κ ∘ λp=>p.1).Nodup;rw[<- a8];exact nd.map (f:=κ) λa b h z=>h (hi _ _ z)
end
def kd_len {α β:Type}{κ:α->Key}{f:β->D}{l:ao (α×β)}:(l.map λp=>(κ p.1,f p.2)).length=l.length:=jf _
def Vu [Decidable c]{B:Prop}(h1:¬ c->A)(h2:c->B):if(!decide c)=true then A else B:=by
 by_cases q:c
 .rw[aH q];exact h2 q
 .rw[aw q];exact h1 q
def aaa:decide (([a]:ao Nat)<[b])=decide (a<b):=by
 by_cases h:a<b
 .rw[aH h,aH (show([a]:ao Nat)<[b]from List.Lex.rel h)]
 .rw[aw h,aw];intro z;cases z with
  |rel q=>exact h q
  |cons q=>cases q
def LY (h1:¬ ((nm.length:Nat):Int)<1)(h2:¬ (8:Int)<((nm.length:Nat):Int)):nK nm=(nm.cps.toList.all λc=>decide (97<=c)&&decide (c<=122)):=by delta nK;rw[aH (show 1<=nm.length by lia),aH (show nm.length<=8 by lia)];rfl
def LS (S:RS):(((List.range (S.n - 1).toNat).map λi=>1+((i:Nat):Int)).filterMap λp=>if(fg S.hG p).isSome=true then none else some (D.int p))=(tU S).map D.int:=by
 delta tU;generalize ((List.range (S.n - 1).toNat).map λi=>1+((i:Nat):Int))=l;induction l with
 |nil=>rfl
 | cons p l ih =>
  rw[cM,bN];cases(fg S.hG p).isSome with
  |true=>exact ih
  |false=>show D.int p::_=D.int p::_;rw[ih]
def Dc {l:ao (Str×Pt)}{nm:Str}{b b0:ao Nat}{a a0:Int}(h:fg l nm=some (.fst b0 a0))(nd:(l.map (·.1)).Nodup:=by assumption):uQ gh qe (jh l nm<|.fst b a)=uQ gh qe l:=by
 delta uQ;have k1:=(Ew (v:=Pt.fst b a) h).1;have e1:(jh l nm<|.fst b a).map (λp=>gh p.1)=l.map λp=>gh p.1:=by have:=bG (List.map gh) k1;rwa [a8,a8]at this
 congr 1;delta jh;rw[aD (by rw[n6,h];rfl),a8];refine cp λp hp=>?_;simp;by_cases e:p.1=nm
 .rw[aD e];have:fg l nm=some p.2:=oO nd<|e▸hp;rw[h]at this;rw[<- aW this];rfl
 .rw[az e]
def Oo:(⟨l.toArray⟩++sg:Str)=⟨(l++sg.cps.toList).toArray⟩:=r0 l sg.cps.toList
def YY [Decidable c1][Decidable c2]{B:Prop}(hB:c1\/c2->B)(hA:¬ (c1\/c2)->A):if(true != decide c1)=true then(if(true != decide c2)=true then A else B)else B:=by
 by_cases q1:c1
 .rw[aH q1];exact hB (.inl q1)
 .by_cases q2:c2
  .rw[aw q1,aH q2];exact hB (.inr q2)
  .rw[aw q1,aw q2];exact hA λz=>z.elim q1 q2
def AO:ao Str:=["stands","rows","done"]
structure f9 (cR cS:aj)(μ:MS)(k j1 j2:Nat)(ss:List RS)(rs:List Dd)(d:Nat):Prop where
 k0:k≠0
 a0:j1≠0
 b0:j2≠0
 ka:k≠j1
 kb:k≠j2
 ab:j1≠j2
 ins:μ[k]?=some (.ins cR AO [.mr j1,.mr j2,.int (d:Int)])
 l1:μ[j1]?=some (.lst<|ss.map<|oU cS)
 l2:μ[j2]?=some (.lst<|rs.map Ed)
 len:ss.length=rs.length+1
 le:d<=rs.length
 wf:∀ i S,ss[i]?=some S->zb S i
 nj:rs.length<=900
def ql (cR cS:aj)(μ:MS)(k j1 j2:Nat)(ss:ao RS)(rs:ao Dd)(d:Nat):MS:=((μ.set j1<|.lst<|ss.map<|oU cS).set j2<|.lst<|rs.map Ed).set k (.ins cR AO [.mr j1,.mr j2,.int (d:Int)])
section
variable {cR cS:aj}{μ:MS}{k j1 j2:Nat}{ss:ao RS}{rs:ao Dd}{d:Nat}
def f9.lk (h:f9 cR cS μ k j1 j2 ss rs d):k<μ.length/\j1<μ.length/\j2<μ.length:=⟨(mW h.ins).1,(mW h.l1).1,(mW h.l2).1⟩
def f9.now (h:f9 cR cS μ k j1 j2 ss rs d):∃ S,ss[d]?=some S/\zb S d:=by
 have:d<ss.length:=by have:=h.len;have:=h.le;lia
 exact⟨_,vk this,h.wf d _<|vk this⟩
def f9.other (h:f9 cR cS μ k j1 j2 ss rs d)(hk:i≠k)(h1:i≠j1)(h2:i≠j2):f9 cR cS (μ.set i m) k j1 j2 ss rs d :=
 ⟨h.k0,h.a0,h.b0,h.ka,h.kb,h.ab,by rw[aA hk];exact h.ins,by rw[aA h1];exact h.l1,by rw[aA h2];exact h.l2,h.len,h.le,h.wf,h.nj⟩
def f9.gx (h:f9 cR cS μ k j1 j2 ss rs d):f9 cR cS (μ.set 0 m) k j1 j2 ss rs d:=h.other (bz h.k0) (bz h.a0) (bz h.b0)
def f9.put (h:f9 cR cS μ k j1 j2 ss rs d)(len:ss'.length=rs'.length+1)(le:d'<=rs'.length)(wf:∀ i S,ss'[i]?=some S->zb S i)(nj:rs'.length<=900):f9 cR cS (ql cR cS μ k j1 j2 ss' rs' d') k j1 j2 ss' rs' d':=by
 refine rh h.lk λa b c=>?_;refine⟨h.k0,h.a0,h.b0,h.ka,h.kb,h.ab,?_,?_,?_,len,le,wf,nj⟩
 .delta ql;rw[aJ (by rw[aR,aR];exact a)]
 .delta ql;rw[aA h.ka,aA (bz h.ab),aJ b]
 .delta ql;rw[aA h.kb,aJ (by rw[aR];exact c)]
def set_same (h:μ[i]?=some m):μ.set i m=μ:=by
 refine List.ext_getElem? λj=>?_;by_cases e:i=j
 .subst e;rw[aJ (mW h).1,h]
 .rw[aA e]
def nh (h:f9 cR cS μ k j1 j2 ss rs d)(em:μ[0]?=some m0):(ql cR cS (μ.set 0 m) k j1 j2 ss' rs' d').set 0 m0=ql cR cS μ k j1 j2 ss' rs' d'/\(ql cR cS (μ.set 0 m) k j1 j2 ss' rs' d')[0]?=some m:=by
 have h0:=(mW em).1;delta ql;refine⟨?_,?_⟩
 .rw[List.set_comm _ _ h.k0,List.set_comm _ _ h.b0,List.set_comm _ _ h.a0,dZ,set_same em]
 .rw[aA h.k0,aA h.b0,aA h.a0,aJ h0]
end
section
variable (cR cS:aj)(cs:ao aj)
def Bv:jc:=λds μ K Kx=>dM [.m,.i] ds λk n=>(∃ m,μ[0]?=some m)/\k≠0/\μ[k]?=some (.ins cR [] [])/\(if 1<=n/\n<=40 then K .gw (μ.set k (.ins cR AO [.mr μ.length,.mr (μ.length+1),.int 0])++[.lst [oU cS ⟨n,[],[]⟩],.lst []])else Kx (.ref<|cs.getD 8 0) μ)
def Zw:ot:=λds μ K=>dM [.m] ds λk=>∃ j1 j2 ss rs d S,f9 cR cS μ k j1 j2 ss rs d/\ss[d]?=some S/\K (oU cS S) μ
def xY:jc:=λds μ K Kx=>dM [.m,.v] ds λk y=>(∃ m,μ[0]?=some m)/\∃ j1 j2 ss rs d S e,f9 cR cS μ k j1 j2 ss rs d/\ss[d]?=some S/\y=Ed e/\NF e/\rs.length<900/\(match kW S e with|some i=>Kx (.ref<|cs.getD i 0) μ|none=>K .gw<|ql cR cS μ k j1 j2 (ss.take (d+1)++[oq S e]) (rs.take d++[e])<|d+1)
def Nb (b:Bool):ot:=λds μ K=>dM [.m] ds λk=>∃ j1 j2 ss rs d,f9 cR cS μ k j1 j2 ss rs d/\K (.lst<|(if b=true then rs.take d else rs.drop d).map Ed) μ
def qY (g:RS->D):ot:=λds μ K=>dM [.m] ds λk=>∃ j1 j2 ss rs d S,f9 cR cS μ k j1 j2 ss rs d/\ss[d]?=some S/\K (g S) μ
def pY (g:RS->Str->D):jc:=λds μ K Kx=>dM [.m,.s] ds λk nm=>(∃ m,μ[0]?=some m)/\∃ j1 j2 ss rs d S,f9 cR cS μ k j1 j2 ss rs d/\ss[d]?=some S/\(match fg S.eI nm with|some _=>K (g S nm) μ|none=>Kx (.ref<|cs.getD 11 0) μ)
def xU:jc:=λds μ K Kx=>dM [.m,.s,.i] ds λk nm bar=>(∃ m,μ[0]?=some m)/\∃ j1 j2 ss rs d S,f9 cR cS μ k j1 j2 ss rs d/\ss[d]?=some S/\(match fg S.eI nm with|some _=>(if 0<=bar/\bar<S.n then K (Iz<|jI S.eI nm bar) μ else Kx (.ref<|cs.getD 6 0) μ)|none=>Kx (.ref<|cs.getD 11 0) μ)
end
def SE (S:RS):D:=.int S.n
def FV (S:RS):D:=.lst (S.eI.map λp=>.str p.1)
def SG (S:RS):D:=.lst ((tU S).map D.int)
def MT (S:RS):D:=.lst ((oR S).map jZ)
def SH (S:RS)(nm:Str):D:=.str (txt (jo S.eI nm).1)
def Zo (S:RS)(nm:Str):D:=.int (jo S.eI nm).2
def FU (S:RS)(nm:Str):D:=match fg S.eI nm with|some y=>qe y|none=>.gw
section
variable {cR cS:aj}{cs:ao aj}{ds:ao D}{μ:MS}{K:DK}{Kx:DX}
def DR (h:Bv cR cS cs ds μ K Kx):ds.length=2/\∃ m,μ[0]?=some m:=by obtain⟨_,_,rfl,h⟩:=dJ h;exact⟨rfl,h.1⟩
def Gs (h:xY cR cS cs ds μ K Kx):ds.length=2/\∃ m,μ[0]?=some m:=by obtain⟨_,_,rfl,h⟩:=dJ h;exact⟨rfl,h.1⟩
def qZ {g:RS->Str->D}(h:pY cR cS cs g ds μ K Kx):ds.length=2/\∃ m,μ[0]?=some m:=by obtain⟨_,_,rfl,h⟩:=dJ h;exact⟨rfl,h.1⟩
def Bt (h:xU cR cS cs ds μ K Kx):ds.length=3/\∃ m,μ[0]?=some m:=by obtain⟨_,_,_,rfl,h⟩:=dJ h;exact⟨rfl,h.1⟩
end
def zb.new {n:Int}(h1:1<=n)(h2:n<=40):zb ⟨n,[],[]⟩ 0 :=
 ⟨h1,h2,⟨.nil,λ_ _ _ _ e=>(by cases e)⟩,bp _,λ_ _ _ e=>(by cases e),λ_ _ _ _ e=>(by cases e),λ_ h=>(nomatch h),au _,.nil⟩
def f9.made {cR cS:aj}{μ:MS}{n:Int}(h0:μ≠[])(h1:1<=n)(h2:n<=40):f9 cR cS (μ++[.ins cR AO [.mr (μ.length+1),.mr (μ.length+2),.int 0],.lst [oU cS ⟨n,[],[]⟩],.lst []]) μ.length (μ.length+1) (μ.length+2) [⟨n,[],[]⟩] [] 0:=by
 have hl:=List.length_pos_iff.mpr h0;refine⟨(bh ‹_›),by lia,by lia,by lia,by lia,by lia,?_,?_,?_,rfl,au _,λi S e=>?_,bp _⟩
 .rw[ou (au _),aO];rfl
 .rw[ou (by lia),bM];rfl
 .rw[ou (by lia),bM];rfl
 .cases i with
  |zero=>cases e;exact .new h1 h2
  |succ i=>cases e
open PySem PySem.Spec PyProof.Rows PyProof
def TV (c:Dt)(ρ:DE)(μ:MS)(b:Bool):Prop:=∀ K:Bool->MS->Prop,K b μ->c ρ μ K
section
variable {a c:Dt}{t u:Ds}{N:DN}{ρ:DE}{μ:MS}{x y b:Bool}{e:De}
def TV.gr (h:∀ K:DK,K (.bl b) μ->e ρ μ K):TV (sf e) ρ μ b:=λK k=>h _ k
def TV.or (h1:TV a ρ μ x)(h2:x=false->TV c ρ μ y):TV (V3 a c) ρ μ (x||y):=λK k=>h1 _ (by
 cases x with
 |true=>rwa [aD rfl]
 |false=>rw[az (by decide)];exact h2 rfl K k)
def TV.not (h1:TV a ρ μ x):TV (SQ a) ρ μ (!x):=λK k=>h1 _ k
def kM (b:Bool)(h:TV c ρ μ b)(ht:b=true->t N ρ μ)(hu:b=false->u N ρ μ):JU c t u N ρ μ:=h _ (by
 cases b with
 |true=>rw[aD rfl];exact ht rfl
 |false=>rw[az (by decide)];exact hu rfl)
end
def mX (h:N.nx ρ μ):ZU N ρ μ:=h
section
variable {α β:Type}[DecidableEq α]{κ:α->Key}(hi:∀ a b,κ a=κ b->a=b){f:β->D}{μ:MS}{j:Nat}{l:ao (α×β)}
include hi
end
end L2
namespace L2
open PySem PySem.W PyProof.Rows
noncomputable abbrev Al:=Fast.tw10156331382660048174
noncomputable abbrev KN:=Fast.tw11892475500146522536
noncomputable def PH (p:ae)(w:af)(n₀:Nat)(ann:aq ak):Nat->SharedT->Thread->aq SharedT
 |0,_,_=>none
 | n+1,s,t=>match through t with
  |true=>some s
  | false=>match stepOk n₀ ann t with
   |false=>none
   | true=>match Al (KN wz) p w s t with
    |some (s',t')=>PH p w n₀ ann n s' t'
    |none=>none
theorem G8:∀ {n:Nat} {s s':SharedT} {t:Thread},PH p w n₀ ann n s t=some s'->topRun treeTable p w n₀ ann n s.abs t=some s'.abs
 |0,_,_,_,h=>by cases h
 | n+1,s,s',t,h=>by
  unfold PH at h;unfold topRun;cases he:through t with
  |true=>rw[he]at h;cases h;rfl
  | false =>
   rw[he]at h;cases hk:stepOk n₀ ann t with
   |false=>rw[hk]at h;cases h
   | true =>
    rw[hk]at h;cases hs:Al (KN wz) p w s t with
    |none=>rw[hs]at h;cases h
    | some r =>
     let ⟨s2,t2⟩:=r;rw[hs]at h;have hs':stepT (denote treeTable) p w s t=some (s2,t2):=by rwa [show stepT=Al from Fast.te10156331382660048174,show denote=KN from Fast.te11892475500146522536,show treeTable=wz from Fast.te14364793385576792824]
     rw[stepT_spec hs'];exact G8 h
noncomputable def boT (P:Params):BT:=(.node (boot_o_0 P) (.node (boot_o_1 P) (.node (boot_o_3 P) (.node (boot_o_7 P) .nil .nil) .nil)<|.node (boot_o_5 P) (.node (boot_o_9 P) .nil .nil) .nil)<|.node (boot_o_2 P) (.node (boot_o_4 P) (.node (boot_o_8 P) .nil .nil) .nil)<|.node (boot_o_6 P) (.node (boot_o_10 P) .nil .nil) .nil)
noncomputable abbrev ST0 (w:af)(os:OsState):SharedT:=⟨boT w.params,11,(boot_heap w.params).life,#[],boot_drawn,boot_toks,os⟩
def Ru (w:af)(os:OsState):(ST0 w os).abs=S00 w os:=by kernel_rfl
end L2
namespace L2
open PySem PySem.Spec PyProof.Rows PyProof PySem.W
def B9 (p q:ae)(loose:ao Str)(Xt:ai->Bool){α:Type}(Yf:ai->α)(Ya:af->α)(M:Nat)(row:String)(b:Bool):Prop:=∀(w:af) (os:OsState),(GS wz p (w.withFollow row b) 11 (some<|.ref 6) M (S00 w os)<|topStub p).map (λs =>
 (W.staticsOk (importedModules p.main.body) (W.boot_heap w.params) s.heap&&W.namesBound p s.heap&&W.gensDone s&&W.laidKept (W.boot_heap w.params) s.heap,E4 q loose (importedModules p.main.body) Xt true s,Yf s))=some (true,W.openGood q loose,Ya w)
def Me {p q:ae}{loose:ao Str}{Xt:ai->Bool}{α:Type}{Yf:ai->α}{Ya:af->α}{N M:Nat}{row:String}
 (e:W.opening p=W.plainProg p.main.scope.names) (hN:Nat.ble 600 N=true) (f:∀ s,fenceModules? p s=some s) (le:Nat.ble M N=true)
 (h0:B9 p q loose Xt Yf Ya M row false) (h1:B9 p q loose Xt Yf Ya M row true):W.LeftO p q loose Xt Yf Ya N:=Qx e hN f le λw os=>by
 have h:∀ b,B9 p q loose Xt Yf Ya M row b:=λb=>by cases b;exact h0;exact h1
 have:=h (w.params.followText row) w os;rwa [World.withFollow_self]at this
def Ih (p q:ae)(loose:ao Str)(Xt:ai->Bool){α:Type}(Yf:ai->α)(Ya:af->α)(M:Nat)(row:String)(b:Bool):Prop:=∀(w:af) (os:OsState),(PH p (w.withFollow row b) 11 (some<|.ref 6) M (ST0 w os)<|topStub p).map (λs =>
 (W.staticsOk (importedModules p.main.body) (W.boot_heap w.params) s.abs.heap&&W.namesBound p s.abs.heap&&W.gensDone s.abs&&W.laidKept (W.boot_heap w.params) s.abs.heap,E4 q loose (importedModules p.main.body) Xt true s.abs,Yf s.abs))=some (true,W.openGood q loose,Ya w)
theorem Ih.at {p q:ae}{loose:ao Str}{Xt:ai->Bool}{α:Type}{Yf:ai->α}{Ya:af->α}{M:Nat}{row:String}{b:Bool}(h:Ih p q loose Xt Yf Ya M row b):B9 p q loose Xt Yf Ya M row b:=λw os=>by refine eS (Option.map_eq_some_iff.mp<|h w os) λsT r e=>?_;have r2:=G8 r;rw[Ru,show topRun=GS from Fast.te14082659384304107361,show treeTable=wz from Fast.te14364793385576792824]at r2;rw[r2];exact bG some e
def fJ {cR cS:aj}{μ:MS}{k j1 j2 d:Nat}{ss:ao RS}{rs:ao Dd}(ra:f9 cR cS μ k j1 j2 ss rs d){nm:Str}(hn:qg nm AO [.mr j1,.mr j2,.int (d:Int)]=none):tQ cR nm μ (.mr k):=by show(oX _ _ _).map _=_;rw[gO ra.ins];exact bG some hn
end L2
namespace L2
open PySem PySem.Spec PyProof.Rows PyProof
section
variable {eI:ao (Str×Pt)}{z:Str}{b b':ao Nat}{a:Int}(h:fg eI z=some (.fst b a))
include h
end
def zs (h:Nat.ble n 100=true:=by rfl):n<=sizeLine:=aG (Nat.le_of_ble_eq_true h) (sz<|by decide)
section
variable {X:Cx}{a b e e1 e2 e3:Expr}{wa wb w w1 w2 w3:De}{pos p:Pos}
def a1 (h:PD X e w)(s:starEach [e] X.env=(false,eval e X.env)::starEach [] X.env:=by rfl):sA X [e] (uc w BP):=eE h fT s
def a2 (h:PD X e w)(h1:PD X e1 w1)(s:starEach [e,e1] X.env=(false,eval e X.env)::starEach [e1] X.env:=by rfl)(s1:starEach [e1] X.env=(false,eval e1 X.env)::starEach [] X.env:=by rfl):sA X [e,e1] (uc w<|uc w1 BP):=eE h (a1 h1 s1) s
def a3 (h:PD X e w)(h1:PD X e1 w1)(h2:PD X e2 w2)(s:starEach [e,e1,e2] X.env=(false,eval e X.env)::starEach [e1,e2] X.env:=by rfl)(s1:starEach [e1,e2] X.env=(false,eval e1 X.env)::starEach [e2] X.env:=by rfl)(s2:starEach [e2] X.env=(false,eval e2 X.env)::starEach [] X.env:=by rfl):sA X [e,e1,e2] (uc w<|uc w1<|uc w2 BP):=eE h (a2 h1 h2 s1 s2) s
def BQ (ha:PD X a wa)(hb:PD X b wb)(hs:B6 b:=by exact λ_ _=>rfl):PD X (.Subscript a b pos) (zJ dIx wa wb):=d_ix Mp XI ha hb hs
def qo (ha:PD X a wa)(hb:PD X b wb):PD X (.BinOp a .Add b pos) (zJ (Wr false) wa wb):=y8 Ou Ug ha hb
def dMi (ha:PD X a wa)(hb:PD X b wb):PD X (.BinOp a .Sub b pos) (zJ (yd λi j=>.int<|i - j) wa wb):=y8 Iy Ud ha hb
def Sd (ha:PD X a wa)(hb:PD X b wb):PT X (.Compare a [.Lt] [b] pos) (wF<|sf<|zJ (yd λi j=>.bl<|decide (i<j)) wa wb):=oK ltC wJ ha hb (jq _)
def qLe (ha:PD X a wa)(hb:PD X b wb):PT X (.Compare a [.LtE] [b] pos) (wF<|sf<|zJ (yd λi j=>.bl<|decide (i<=j)) wa wb):=oK leC wJ ha hb (jq _)
def X9 (ha:PD X a wa)(hb:PD X b wb):PT X (.Compare a [.Gt] [b] pos) (wF<|sf<|zJ (yd λi j=>.bl<|decide (j<i)) wa wb):=oK gtC wJ ha hb (jq _)
def Yb (ha:PD X a wa)(hb:PD X b wb):PT X (.Compare a [.GtE] [b] pos) (wF<|sf<|zJ (yd λi j=>.bl<|decide (j<=i)) wa wb):=oK geC wJ ha hb (jq _)
def zl (ha:PD X a wa)(hb:PD X b wb):PT X (.Compare a [.Eq] [b] pos) (wF<|sf<|zJ (Ra false) wa wb):=oK eqC Ar ha hb (jq _)
def X8 (ha:PD X a wa)(hb:PD X b wb):PT X (.Compare a [.NotEq] [b] pos) (wF<|sf<|zJ (Ra true) wa wb):=oK Cm Ar ha hb (jq _)
def Q9 (T:jY X.mg)(h:PD X e w)(hg:Gl X "len":=by rfl)(he:starEach [e] X.env=(false,eval e X.env)::starEach [] X.env:=by rfl)(lU:(backTo pos<|starEach [] X.env).any (·.1)=false:=by rfl):PD X (.Call (.Name "len" p) [e] [] pos) (zL VZ<|uc w BP):=yc Qw T9 hg T.len dW (a1 h he) (by decide) rfl he lU
section
variable {es:ao Expr}{x:Str}{k k0:Nat}{ps:ao Str}{f:ot}{fx:jc}{u:DA}
def qC (C:yw X.prog X.w X.K X.mg X.eB x k ps (kT f))(hr:iq k0 X.A)(ha:sA X (e::es) u)(hk:k<=k0:=by first | decide | exact au _ | lia)(hg:Gl X x:=by rfl)(sY:(x==("__debug__" : Str))=false:=by decide)(he:starEach (e::es) X.env=(false,eval e X.env)::starEach es X.env:=by rfl)(lU:(backTo pos<|starEach es X.env).any (·.1)=false:=by rfl):
 PD X (.Call (.Name x p) (e::es) [] pos) (zL f u):=Wb C (hr.mono hk) hg ha sY he lU
end
def qS (i:Nat)(hN:X.N.Nodup)(he:PD X e w)(hi:X.N[i]?=some x:=by rfl)(hx:Loc X.env.scope x:=by first | exact Or.inl rfl | exact Or.inr rfl)(hf:X.fn x=true\/X.env.scope.names.lookup x=some .local:=by first | exact .inl rfl | exact .inr rfl | assumption)
 (My:swapsWith e (some<|.Name x pos') pos.line X.env=pure false:=by rfl):yF X (.Assign [.Name x pos'] e pos) (NP i w):=XU hN hi hx he hf My
def qN (i:Nat)(hN:X.N.Nodup)(hi:X.N[i]?=some x:=by rfl)(hx:Loc X.env.scope x:=by first|exact Or.inl rfl|exact Or.inr rfl)(hf:X.fn x=true\/X.env.scope.names.lookup x=some .local:=by first|exact .inl rfl|exact .inr rfl|assumption):PG X (.Name x pos) (xN i):=vW hN hi hx hf
def qT (i:Nat)(hN:X.N.Nodup)(hi:X.N[i]?=some x:=by rfl)(hx:Loc X.env.scope x:=by first|exact Or.inl rfl|exact Or.inr rfl)(hf:X.fn x=true\/X.env.scope.names.lookup x=some .local:=by first|exact .inl rfl|exact .inr rfl|assumption):Tg X (.Name x pos) (xN i) (Nz i) [i]:=⟨vW hN hi hx hf,vU i,pV i⟩
def Rr (S:eR N0 ps sc0)(h:BU N0 sc0 N js sc=true)(hN:X.N=N0:=by rfl)(hs:X.env.scope=sc0:=by rfl):kR X N js sc:=NZ h hN hs
section
variable {tg iter elt:Expr}{ifs:ao Expr}{sc:Scope}{N:ao Str}{js:ao (aq Nat)}{g:TG}{y:DG}{S:ao Nat}{t:Dt}{wi:DI}
def sCp (i:Nat)(m:Bool){pos' E6:Pos}{x:Str}(hN:X.N.Nodup)(hc:kR X N js sc)(hi:J0 X tg iter wi)(hg:∀ fp s H,N.Nodup->Tg (o8 X N sc fp s H) tg g y S)
 (ht:∀ fp s H,EE (o8 X N sc fp s H) ifs t) (he:∀ fp s H,PD (o8 X N sc fp s H) elt w) (ho:tT S js=true:=by rfl) (gE:X.gE=true:=by rfl) (Jy:X.N[i]?=some x:=by rfl) (hx:Loc X.env.scope x:=by first|exact Or.inl rfl|exact Or.inr rfl) (My:swapsWith (.ListComp elt [⟨tg,iter,ifs,0⟩] sc pos) (some<|.Name x pos') E6.line X.env=pure true:=by rfl)
 (hs:∀ x,foldedSetIterable iter X.env x=pure x:=by intro _;rfl) (hf:X.fn x=true\/X.env.scope.names.lookup x=some .local:=by first|exact .inl rfl|exact .inr rfl|assumption):
 yF X (.Assign [.Name x pos'] (.ListComp elt [⟨tg,iter,ifs,0⟩] sc pos) E6) (NP i<|zK m wi js y t w):=IH m hc gE (hg [] X.s₀ X.H₀ hc.nd).so (hg [] X.s₀ X.H₀ hc.nd).mo ho hN Jy hx hi (λfp s H=>(hg fp s H hc.nd).pg) ht he My hs hf
def Xb (m:Bool)(hc:kR X N js sc)(hi:J0 X tg iter wi)(hg:∀ fp s H,N.Nodup->Tg (o8 X N sc fp s H) tg g y S)(ht:∀ fp s H,EE (o8 X N sc fp s H) ifs t)(he:∀ fp s H,PD (o8 X N sc fp s H) elt w)(ho:tT S js=true:=by rfl)(gE:X.gE=true:=by rfl)
 (hs:∀ x,foldedSetIterable iter X.env x=pure x:=by intro _;rfl):PD X (.ListComp elt [⟨tg,iter,ifs,0⟩] sc pos) (zK m wi js y t w):=Wa m hc gE (hg [] X.s₀ X.H₀ hc.nd).so (hg [] X.s₀ X.H₀ hc.nd).mo ho hi (λfp s H=>(hg fp s H hc.nd).pg) ht he hs
structure TgS (X:Cx)(es:List Expr)(u:EC)(y:Tq)(S:List Nat):Prop where
 pg:Kw X es u
 so:Ow u y S
 mo:uV u
def wD:TgS X [] Ol SX []:=⟨xg,K8,Bk⟩
def lR {e:Expr}{es:ao Expr}{v:DG}{u:EC}{z:Tq}{U:ao Nat}(h:Tg X e g v S)(r:TgS X es u z U)(hs:(assignEach (e::es) X.env).map (·.2)=assign e X.env::(assignEach es X.env).map (·.2):=by rfl):TgS X (e::es) (Ep g u) (NA v z) (S++U):=⟨pd h.pg r.pg hs,As h.so h.mo r.so r.mo,v8 h.mo r.mo⟩
def wC (n:Nat){es:ao Expr}{u:EC}{z:Tq}{k:Nat}(r:TgS X es u z S)(hc:X.gE=true:=by rfl)(hn:(assignEach es X.env).length=n:=by rfl)(Cq:(assignEach es X.env).findIdx? (·.1)=none:=by rfl):Tg X (.Tuple es k pos) (Oj n u) (SW n z) S:=⟨AY hc r.pg hn Cq,K7 r.so,L6 r.mo⟩
end
end
end L2
namespace L2
open PySem PySem.Spec PyProof.Rows PyProof PySem.W
abbrev pA (s:Stmt):ao Str:=(jW s).args.map (·.arg)
def fY (h1:sc.kind=.function:=by rfl)(h2:sc.isCoroutine=false:=by rfl)(h3:sc.isGenerator=false:=by rfl)(h4:N.Nodup:=by decide +kernel)(h5:N.take P.length=P:=by rfl)
 (h6:∀ x∈P,sc.names.lookup x=some .local\/sc.names.lookup x=some .cell:=by decide +kernel) (h7:∀ y∈sc.names,y.2≠.free:=by decide +kernel):eR N P sc:=⟨h1,h2,h3,h4,h5,h6,h7⟩
def kf (f c:aj)(x q:Str)(s:Stmt)(pm:ak)(t l a r1 r2:Nat)(v1 v2:ak)(r3 t2:Nat):ao (aj×Obj):=[ko f (fnQ x q s pm c),ko c (coQ x q t l a r1 r2 v1 v2 r3 t2)]
def kf1 (f c:aj)(x:Str)(s:Stmt)(pm:ak)(t l a r1 r2:Nat)(v1 v2:ak)(r3 t2:Nat):ao (aj×Obj):=kf f c x x s pm t l a r1 r2 v1 v2 r3 t2
def kx (P:Params)(a n h:aj)(x:Str)(sl:aq ak)(t u:Nat)(m:ak)(i l:Nat)(st:aj)(sub:ao ak:=[])(bs:ao ak:=[.ref h])(mro:ao ak:=[.ref a,.ref h,.type "ValueError",.type "Exception",.type "BaseException",.type "object"]):ao (aj×Obj) :=
 [ko a ⟨.type "type",none,.cls ⟨x,bs,mro,n,x,true,[],sub,false,none,false⟩,#[sl,none,some (.str x t),some (.str x u),some (.builtin "ValueError.__new__"),some (.bool true)]⟩,
  ko n ⟨.type "dict",none,.dict #[jk P "__module__" i m,jk P "__firstlineno__" (i+4) (.int l<|i+3),jk P "__static_attributes__" (i+5) (.ref st),jk P "__doc__" (i+6) .none] 2,#[]⟩]
section
variable {K:Frag}{x q:Str}{s:Stmt}{f:aj}{fd:ah}{ps:ao Str}(F:iS K x q s f fd)
include F
theorem wm (hl:ps.length=1:=by rfl)(h:∀(kV doc pm:ak) (an:aq aj) (hZ ct a:ak),bindArgs (fnOf x q (jW s) (iI s) (eG s) .none kV doc pm an hZ ct) ⟨[a],[]⟩=pure (ps.zip [a]):=by intros;rfl):Binds K fd ps []:=F.binds λk d p n c t=>hl▸bn1 λa=>h k d p n c t a
theorem si (hl:ps.length=2:=by rfl)(h:∀(kV doc pm:ak) (an:aq aj) (hZ ct a b:ak),bindArgs (fnOf x q (jW s) (iI s) (eG s) .none kV doc pm an hZ ct) ⟨[a,b],[]⟩=pure (ps.zip [a,b]):=by intros;rfl):Binds K fd ps []:=F.binds λk d p n c t=>hl▸OW λa=>bn1 λb=>h k d p n c t a b
theorem OY (hl:ps.length=3:=by rfl)(h:∀(kV doc pm:ak) (an:aq aj) (hZ ct a b e:ak),bindArgs (fnOf x q (jW s) (iI s) (eG s) .none kV doc pm an hZ ct) ⟨[a,b,e],[]⟩=pure (ps.zip [a,b,e]):=by intros;rfl):Binds K fd ps []:=F.binds λk d p n c t=>hl▸OW λa=>OW λb=>bn1 λe=>h k d p n c t a b e
theorem Xf (hl:ps.length=4:=by rfl)(h:∀(kV doc pm:ak) (an:aq aj) (hZ ct a b e g:ak),bindArgs (fnOf x q (jW s) (iI s) (eG s) .none kV doc pm an hZ ct) ⟨[a,b,e,g],[]⟩=pure (ps.zip [a,b,e,g]):=by intros;rfl):Binds K fd ps []:=F.binds λk d p n c t=>hl▸OW λa=>OW λb=>OW λe=>bn1 λg=>h k d p n c t a b e g
theorem bd5 (hl:ps.length=5:=by rfl)(h:∀(kV doc pm:ak) (an:aq aj) (hZ ct a b e g i:ak),bindArgs (fnOf x q (jW s) (iI s) (eG s) .none kV doc pm an hZ ct) ⟨[a,b,e,g,i],[]⟩=pure (ps.zip [a,b,e,g,i]):=by intros;rfl):Binds K fd ps []:=F.binds λk d p n c t=>hl▸OW λa=>OW λb=>OW λe=>OW λg=>bn1 λi=>h k d p n c t a b e g i
end
end L2
namespace L2
open PySem PySem.Spec PyProof.Rows PyProof
section
variable {X:Cx}
def Lq:ao V->Hp->VK->Prop:=λvs H Q=>match vs with
 |[.str z]=>Q (.str z) H
 |[.int i]=>i.natAbs<100000000/\Q (.str<|toString i) H
 |_=>False
def strC:jg X (.type "str") Lq:=by
 intro ee s σ H xs us Q I r h;delta Lq at h;split at h
 .obtain⟨u,rfl,t,rfl⟩:=vals1 r;exact PySem.P.str_of_str ⟨.str _,H,I,⟨_,rfl⟩,h⟩
 .rename_i i;obtain⟨u,rfl,t,rfl⟩:=vals1 r;have hz:i.natAbs.log2<1920:=by
   refine bR (m:=(100000000:Nat).log2) ?_ (by decide +kernel);by_cases e:i.natAbs=0
   .rw[e];decide +kernel
   .rw[Nat.le_log2 (by decide)];exact aG (Nat.log2_self_le e) (dY h.1)
  exact PySem.P.str_of_int hz ⟨.str _,H,I.tok _,⟨_,rfl⟩,h.2⟩
 .cases h
end
def Zu:ot:=λds μ K=>match ds with
 |[.str z]=>K (.str z) μ
 |[.int i]=>i.natAbs<100000000/\K (.str<|toString i) μ
 |_=>False
def T8:mY Lq Zu:=λφ H vs ds μ K Q M h k L=>by
 delta Zu at k;split at k
 .obtain⟨v,r,rfl,h1,h2⟩:=h;subst h2;subst h1;exact L.val M k rfl
 .obtain⟨v,r,rfl,h1,h2⟩:=h;subst h2;subst h1;exact⟨k.1,L.val M k.2 rfl⟩
 .exact k.elim
def Ju (i:Int):Str:=toString i
def ddT:Dd->ao Str
 |.put nm b a=>["put",nm,b,Ju a]
 |.join nm l r p=>["join",nm,l,r,Ju p]
 |.found nm bar sg=>["found",nm,Ju bar,sg]
 |.uU nm a=>["aged",nm,Ju a]
 |.drop nm=>["drop",nm]
 |.free p=>["free",Ju p]
 |.hG p=>["shut",Ju p]
def thD:Dd->ao D
 |.put nm b a=>[.str "put",.str nm,.str b,.int a]
 |.join nm l r p=>[.str "join",.str nm,.str l,.str r,.int p]
 |.found nm bar sg=>[.str "found",.str nm,.int bar,.str sg]
 |.uU nm a=>[.str "aged",.str nm,.int a]
 |.drop nm=>[.str "drop",.str nm]
 |.free p=>[.str "free",.int p]
 |.hG p=>[.str "shut",.int p]
section
variable {cR cS:aj}{μ:MS}{k j1 j2:Nat}{ss:ao RS}{rs:ao Dd}{d:Nat}{S0 S:RS}{ps:ao (RS×Dd)}
def f9.Zl (ra:f9 cR cS μ k j1 j2 ss rs d)(es:ss[d]?=some S)(hr:kW S e=none)(nj:rs.length<900):f9 cR cS (ql cR cS μ k j1 j2 (ss.take (d+1)++[oq S e]) (rs.take d++[e])<|d+1) k j1 j2 (ss.take (d+1)++[oq S e]) (rs.take d++[e]) (d+1)/\(ss.take (d+1)++[oq S e])[d+1]?=some (oq S e):=by
 have hl:=ra.len;have hle:=ra.le;have tl:(ss.take<|d+1).length=d+1:=by rw[ba];lia
 refine⟨ra.put ?_ ?_ (λi T eT=>?_) ?_,?_⟩
 .rw[mJ,mJ,tl,ba];show d+1+1=_+1+1;lia
 .rw[mJ,ba];show d+1<=_+1;lia
 .by_cases hi:i<d+1
  .rw[tE (by lia),bC hi]at eT;exact ra.wf i T eT
  .rw[ou (by lia),tl]at eT;have:i=d+1:=by have:=(mW eT).1;rw[aU]at this;lia
   subst this;rw[aO]at eT;cases eT;exact(ra.wf d S es).do hr
 .rw[mJ,ba];show _+1<=_;lia
 .rw[ou (by lia),tl,aO];rfl
end
def BB (K:aa)(cs:ao aj)(cH:aj):ot:=λds μ Kd=>dM [.m] ds λk=>(∃ m,μ[0]?=some m)/\k≠0/\∃ j,j<17/\μ[k]?=some (.exc<|.ref<|cs.getD j 0)/\lV K cs cH j/\Kd (.lst [.str (m5 j)]) μ
def DY {K:aa}{cs:ao aj}{cH:aj}{ds:ao D}{μ:MS}{Kd:DK}(h:BB K cs cH ds μ Kd):ds.length=1/\∃ m,μ[0]?=some m:=by obtain⟨_,rfl,h⟩:=dJ h;exact⟨rfl,h.1⟩
def nO:ao Str:=["BadBars","BadMake","BadNumber","BadText","BadName","BadAge","BadBar","BadPlace","BadSize","Taken","Full","NoTake","Shut","Joined","Needed","NothingLeft","NoWay","no ValueError"]
def Mn (j:Nat):ao D:=(List.range 17).map (λi=>D.bl<|decide (i=j))++[.bl false]
def Ml {j i:Nat}(hj:j<17)(hi:i<18):(Mn j)[i]?=some (.bl<|decide (i=j)):=by
 delta Mn;by_cases h:i<17
 .rw[tE (by rw[jf,MP];exact h),wd,cL h];rfl
 .rw[ou (by rw[jf,MP];lia),jf,MP,show i - 17=0 by lia,aw (by lia)];rfl
def kOne:∀ j:Nat,j<17->((List.range 18).filterMap λi=>if i=j then some (nO.getD i "")else none)=[m5 j]:=by decide +kernel
def Jp {i:Nat}(hi:i<18):nO[i]?=some (nO.getD i ""):=by
 rw[bF];cases e:nO[i]? with
 |none=>exact absurd (List.getElem?_eq_none_iff.mp e) (by show ¬ 18<=i;lia)
 |some x=>rfl
def vq {it:D->MS->(aq D->MS->Prop)->Prop}{c:MS->Prop}{μ:MS}{j:Nat}(hj:j<17)(hc:c μ){K:ao D->MS->Prop}(h:∀(i:Nat) (K':aq D->MS->Prop),i<18->(Mn j)[i]?=some (.bl<|decide (i=j))->nO[i]?=some (nO.getD i "")->(i=j->K' (some<|.str<|nO.getD i "") μ)->(i≠j->K' none μ)->it (.int<|0+(i:Int)) μ K')(k:K [.str (m5 j)] μ):ud it c (pP 0 18) μ K:=by
 refine rS hc (λi:Nat=>D.int<|0+(i:Int)) (λi=>if i=j then some (D.str<|nO.getD i "")else none) (λi hi K' k'=>?_) ?_
 .have hi:=List.mem_range.mp hi;refine h i K' hi (Ml hj hi) (Jp hi) (λe=>?_) (λe=>?_)
  .rw[aD e]at k';exact k'
  .rw[az e]at k';exact k'
 .have e:((List.range 18).filterMap λi=>if i=j then some (D.str<|nO.getD i "")else none)=[.str (m5 j)]:=by have t:=bG (List.map D.str)<|kOne j hj;rw[List.map_filterMap]at t;refine Eq.trans ?_ t;congr 1;funext i;split<;>rfl
  rw[e]
  exact k
def w0 (n:Nat):Bool:=n==0
def w1 (n:Nat):Bool:=n==1
def V7:Dd->Str
 |.put _ _ _=> "put" | .join _ _ _ _=> "join" | .found _ _ _=> "found" | .uU _ _=> "aged" | .drop _=> "drop" | .free _=> "free" | .hG _=> "shut"
def k16 {K:aa}{cs:ao aj}{cH:aj}(h0:lV K cs cH 0)(h1:lV K cs cH 1)(h2:lV K cs cH 2)(h3:lV K cs cH 3)(h4:lV K cs cH 4)(h5:lV K cs cH 5)(h6:lV K cs cH 6)(h7:lV K cs cH 7)(h8:lV K cs cH 8)(h9:lV K cs cH 9)(ha:lV K cs cH 10)(hb:lV K cs cH 11)(hc:lV K cs cH 12)(hd:lV K cs cH 13)(he:lV K cs cH 14)(hf:lV K cs cH 15):∀ j,j<16->lV K cs cH j
 |0,_=>h0|1,_=>h1|2,_=>h2|3,_=>h3|4,_=>h4|5,_=>h5|6,_=>h6|7,_=>h7|8,_=>h8|9,_=>h9|10,_=>ha|11,_=>hb|12,_=>hc|13,_=>hd|14,_=>he|15,_=>hf
 |n+16,h=>absurd h (by lia)
def kB {K:aa}{cs:ao aj}{cH:aj}{j:Nat}(e1:(W.clsIn K<|cs.getD j 0).isSome=true:=by kernel_rfl)(e2:W.findIn K (.ref<|cs.getD j 0) "__getattribute__"=some (some<|.builtin "BaseException.__getattribute__"):=by kernel_rfl)(e3:W.findIn K (.ref<|cs.getD j 0) "__getattr__"=some none:=by kernel_rfl)
 (e4:W.findIn K (.ref<|cs.getD j 0) "__class__"=some (some<|.builtin "object.__class__"):=by kernel_rfl) (e5:W.specialIn K (.builtin "object.__class__") "__get__"=some (some<|.builtin "getset_descriptor.__get__"):=by kernel_rfl) (e6:W.takesIn K (.builtin "object.__class__")=some true:=by kernel_rfl) (e7:W.mroIn K (cs.getD j 0) (.type "object")=some true:=by kernel_rfl) (e8:W.mroIn K (cs.getD j 0) (.type "BaseException")=some true:=by kernel_rfl)
 (k:Vh K cs j=true:=by kernel_rfl) (v:W.kitOne K (.ref<|cs.getD j 0) (.type "ValueError")=some true:=by kernel_rfl) (q1:W.excIn K cH iU "ValueError.__new__"=true:=by kernel_rfl) (q2:W.excIn K (cs.getD j 0) iU "ValueError.__new__"=true:=by kernel_rfl) (q3:subIn K (cs.getD j 0) cH=true:=by kernel_rfl):lV K cs cH j:=⟨⟨e1,e2,e3,e4,e5,e6,e7,e8⟩,k,v,T4 q1 q2 q3⟩
def iT (cR cS:aj)(cs:ao aj)(w n:Nat):jc:=λds μ K Kx=>(ds.length=n/\∃ m,μ[0]?=some m)/\match ds with
 |.mr k::xs=>∃ e,ddW e=w/\thD e=.str (V7 e)::xs/\xY cR cS cs [.mr k,Ed e] μ K Kx
 |_=>False
def lI {K:DK}(h:iT cR cS cs w n ds μ K Kx):ds.length=n/\∃ m,μ[0]?=some m:=h.1
def Gm (cR cS cN:aj):jc:=λds μ K Kx=>dM [.m] ds λk=>(∃ m,μ[0]?=some m)/\∃ j1 j2 ss rs d,f9 cR cS μ k j1 j2 ss rs d/\(match rs[d]? with|none=>Kx (.ref cN) μ|some e=>K (Ed e)<|ql cR cS μ k j1 j2 ss rs<|d+1)
def Gj {K:DK}(h:Gm cR cS cN ds μ K Kx):ds.length=1/\∃ m,μ[0]?=some m:=by obtain⟨_,rfl,h⟩:=dJ h;exact⟨rfl,h.1⟩
open PySem PySem.Spec PyProof.Rows
def ZQ (K:aa)(B:aj)(n i:Nat)(u:ao aj->Hp->DX->Ds)(v:ao aj->Hp->Nat->Ds):Ds:=λN ρ μ=>∃ m,μ[0]?=some m/\∀ fi H0,
 u fi H0 (gX fi H0 m λc fj=>∃ C,c=.ref C/\EG K C B/\∀ fo H1,v fo H1 fj.length { nx:=λjV ν=>ν[0]?=some (.gx fo H1)/\N.nx (jV.set i none) (ν.set 0 m),rt:=gK fo H1 m N.rt} ((List.replicate n none).set i<|some<|.mr fj.length) ((fj++[MO.exc c]).set 0<|.gx fo H1))
  { nx:=λjV fj=>fj[0]?=some (.gx fi H0)/\N.nx jV (fj.set 0 m),rt:=gK fi H0 m N.rt,bk:=λjV fj=>fj[0]?=some (.gx fi H0)/\N.bk jV (fj.set 0 m),ct:=λjV fj=>fj[0]?=some (.gx fi H0)/\N.ct jV (fj.set 0 m)} ρ (μ.set 0<|.gx fi H0)
def kQ.gone {φ:ao aj}{H:Hp}{ρ:DE}{σ:St}(A:kQ φ H ρ σ)(i:Nat):kQ φ H (ρ.set i none) (σ.set i none):=by
 refine jS A λa b=>?_;refine⟨by rw[aR,aR];exact a,λj d q=>?_⟩;by_cases z:i=j
 .subst z;rw[List.getElem?_set]at q;split at q
  .split at q<;>cases q
  .rename_i h;exact absurd rfl h
 .rw[aA z]at q ⊢
  exact b j d q
def Inv.gone {X:Cx}{ee:ao (aj×Obj)}{σ:St}{H:Hp}{s:ai}{i:Nat}{n:Str}{vv:aq ak}{mm:Str->aq ak}(I:Inv X ee σ H s)(hN:X.N.Nodup)(hi:X.N[i]?=some n)(hl:∀(i:Nat) (x:Str) (v:V),X.N[i]?=some x->σ[i]?=some (some v)->To X.env.scope x->∃ u,fM v u/\Look X.env s.heap mm x u){h':Heap}{t:Nat}(hn:h'.Ns X.env.locals (λx=>if x=n then vv else mm x))(hs:Heap.SameBut X.env.locals s.heap h'):Inv X ee (σ.set i none) H { s with heap:=h',toks:=t}:=by
 have J:=I.forget (t:=t) hn hs;refine⟨J.ok,J.os,J.bare,J.eB,⟨_,hn,λj y v' e1 e2 e3=>?_⟩,J.cell,J.free,J.ky,J.pin,J.fB,by rw[aR];exact I.len⟩;by_cases hj:i=j
 .subst hj;rw[List.getElem?_set]at e2;split at e2
  .split at e2<;>cases e2
  .rename_i h;exact absurd rfl h
 .rw[aA hj]at e2;refine eS (hl j y v' e1 e2 e3) λu' r' q=>?_;refine⟨u',r',?_⟩;rcases q with⟨k,e⟩|⟨k,c,e,z⟩
  .refine .inl ⟨k,?_⟩;have:y≠n:=λe=>hj<|xu hN hi<|e▸e1;simp[this,e]
  .exact .inr ⟨k,c,e,z.sameBut hs<|I.Rk y c e⟩
section
variable {X:Cx}{body K3:ao Stmt}{b0:Stmt}{x n:Str}{np QG pos:Pos}{B:aj}{i:Nat}{u:ao aj->Hp->DX->Ds}{v:ao aj->Hp->Nat->Ds}
def Uo (hex:X.ex=[])(Cq:X.stack=X.env::X.eM)(hfm:X.env.frame=some X.env.locals)(hN:X.N.Nodup)(hi:X.N[i]?=some n)(hn:X.env.scope.names.lookup n=some .local)(hg:Gl X x)(hm:X.mg x=some (.ref B))
 (hb:∀(pn:ao (aj×Obj)) (xe:ak->ai->Prop) (fi:ao aj) (H0:Hp) (Kx:DX),Rz { X with pn:=pn,xe:=xe} fi H0 Kx->zc { X with pn:=pn,xe:=xe} body (u fi H0 Kx))
 (hs:∀(pn:ao (aj×Obj)) (e:aj) (fo:ao aj) (H1:Hp) (kx:Nat),fo[kx]?=some e->kx≠0->zc (Cx.OR { X with pn:=pn} (X.A.mark<|some<|.ref e)) (b0::K3) (v fo H1 kx)) (hd:(x==("__debug__" : Str))=false:=by decide):
 yF X (.Try body [.ExceptHandler (some<|.Name x np) (some n) (b0::K3) QG] [] [] pos) (ZQ X.K B X.N.length i u v):=λee s σ H D I hq=>by
 obtain⟨φ,ρ,μ,N,A,M,⟨m,em,w⟩,L⟩:=hq;have w:=w φ H;refine wpAny_Try_except ?_;obtain⟨xe,hxe⟩:∃ xe:ak->ai->Prop,xe=λev s₁=>wpAny (model X.prog X.w) X.A (noteFrame ev X.env) (λ_ s₂=>wpAny (model X.prog X.w) X.A (setFlight ev none) (λ_ s₃=>wpAny (model X.prog X.w) X.A (handleBy ev X.env [.ExceptHandler (some<|.Name x np) (some n) (b0::K3) QG]) (SP X ee D) X.xe s₃) X.xe s₂) X.xe s₁:=⟨_,rfl⟩;have I':Inv { X with pn:=X.pn++ee,xe:=xe} [] σ H s:=⟨⟨I.ok.mod,I.ok.kind,I.ok.glob,I.ok.blt,I.ok.above,I.ok.inj,I.ok.has,I.ok.Ws,I.ok.hd,I.ok.frames,I.ok.WU,I.ok.y3,I.ok.bs,I.ok.Ia,I.ok.Du,I.ok.D4,I.ok.r9,I.ok.OU⟩,I.os,I.bare,I.eB,I.loc,I.cell,I.free,I.ky,(λp hp=>I.pin p<|by simpa using hp),I.fB,I.len⟩;have back:∀ {Se:ao (aj×Obj)} {Ct:St} {H1:Hp} {s1:ai},Inv { X with pn:=X.pn++ee,xe:=xe} Se Ct H1 s1->Inv X ee Ct H1 s1:=λJ=>⟨I.ok,J.os,J.bare,J.eB,J.loc,J.cell,J.free,J.ky,(λp hp=>J.pin p<|bT _ hp),J.fB,J.len⟩;have Mg:=M.ghost em;have MI:X.A.frames=some (X.env::X.eM):=by rw[<- Cq];exact I.ok.frames
 obtain⟨Kx,hKx⟩:∃ Kx:DX,Kx=λc fj=>∃ C,c=.ref C/\EG X.K C B/\∀ fo H1,v fo H1 fj.length { nx:=λjV ν=>ν[0]?=some (.gx fo H1)/\N.nx (jV.set i none) (ν.set 0 m),rt:=gK fo H1 m N.rt} ((List.replicate X.N.length none).set i<|some<|.mr fj.length) ((fj++[MO.exc c]).set 0<|.gx fo H1):=⟨_,rfl⟩;rw[<- hKx]at w;have Z:Rz { X with pn:=X.pn++ee,xe:=xe} φ H (gX φ H m Kx):=by
  refine⟨λc _ H'=>∃ fO fj,gX φ H m Kx c fj/\Fr φ H fO H'/\fG fO H' fj,λc fj fO H' k f M=>⟨fO,fj,k,f,M⟩,λSe Ct H1 s1 ev s' J c=>?_⟩;obtain⟨e,cls,H',g,rfl,os,bare,un,fB,⟨g1,g2,g3⟩,ex,fO,fj,⟨e0,hK⟩,f',M'⟩:=c;rw[hKx]at hK;refine oy hK λC fE sub hv=>?_;subst fE;show xe (.ref e) s';rw[hxe];have J2:=J.zP (s':=s') (ch:=[]) os un fB bare (λb z=>absurd z<|by simp);have ff:s'.heap.FunFrames X.eB (X.env::X.eM):=by rw[<- Cq];exact J2.stack
  refine zq MI ff hfm g3 ex λh1 x1 k1=>?_;refine oJ (l:=X.env::X.eM) x1 λh2 x2 k2 _=>?_;have k12:Kp g X.stack s'.heap h2:=by rw[Cq];exact k1.trans k2
  have J3:=(J.N4 os bare un fB g1 g2 k12).pQ (pins':=[]) (λp hp=>absurd hp<|by simp);have eN:g.get? e=none:=by obtain⟨_,_,_,_,_,_,_,z⟩:=ex;exact z
  have hHe:H' e=none:=by
   cases q:H' e with
   |none=>rfl
   |some o=>obtain⟨u,z⟩:=g2 e (by rw[q];simp);rw[eN]at z;cases z
  have J4:Inv (Cx.OR { X with pn:=X.pn++ee} (X.A.mark<|some<|.ref e)) [] Ct H' { s' with heap:=h2}:=J3.OR I.ok.frames;refine wpAny_handleBy_cons (codeAny_handlers_test<|lg J4 hg hm ?_ hd) (by intro q;cases q);obtain⟨nB,qB,NB,bsB,EV,hdB,snB,subB,abB,Ri,ddB,b0',b1,b2,b3,b5,idB,nC,qC,NC,bsC,Xd,hdC,snC,Iy,abC,Rh,ddC,c0,c1,c2,c3,c5,idC,lB,lC,hbB,QI⟩:=sub.ex;refine jX x2.is λoe vs q1 q2 q4 q5=>?_;refine JJ (J4.om _ _ lB) (J4.om _ _ lC) q1 q2 hbB QI ?_;refine codeAny_handlers_suite_as (oJ (l:=X.env::X.eM) (s:={ s' with heap:=h2}) x2 λh3 x3 k3 _=>?_);have k13:Kp g X.stack s'.heap h3:=k12.trans (by rw[Cq];exact k3);have J5:=(J.N4 os bare un fB g1 g2 k13).pQ (pins':=[]) (λp hp=>absurd hp<|by simp);have Tn:∀ b o,s1.heap.get? b=some o->b≠e:=λb o q z=>by obtain⟨u,y⟩:=g1 b ⟨o,q⟩;rw[z,eN]at y;cases y
  have J6:=J5.KS hHe x3.is (by
   cases q:X.s₀.heap.get? e with
   |none=>rfl
   | some o =>
    obtain⟨o',y⟩:=J.eB.there e o q (by show e∉X.ex;rw[hex];simp)
    exact absurd rfl (Tn e o' y)) (by
   obtain⟨mm,⟨oo,_,_,y,_⟩,_⟩:=J.loc
   exact λz=>Tn _ oo y z.symm) (λy a q=>by
   refine mD (J.cell y a q) λw' o z _=>?_
   exact Tn a o z) (λp hp=>Tn p.1 p.2 (J.pin p<|bT _<|by simpa using hp).1)
  have J7:Inv (Cx.OR { X with pn:=X.pn++ee} (X.A.mark<|some<|.ref e)) [] Ct (upd H' e<|.ext<|kF e<|.ref C) { s' with heap:=h3}:=J6.OR I.ok.frames;refine qE (X:=Cx.OR { X with pn:=X.pn++ee} (X.A.mark<|some<|.ref e)) J7 hN hi (.inl hn) (v:=.ref e) (u:=.ref e) rfl (λs8 J8=>?_)<|.inr hn;have Mb:=M.back em M' e0;obtain⟨eV,VB⟩:∃ eV,eV=fj.set 0 m:=⟨_,rfl⟩;rw[<- VB]at Mb hv;have h0l:0<fj.length:=(mW e0).1;have em1:eV[0]?=some m:=by rw[VB];exact aJ h0l
  have l1:eV.length≠0:=by rw[VB,aR];lia
  refine jS (Mb.snoc (m:=.exc<|.ref C) (o:=.ext<|kF e<|.ref C) hHe eZ) λMsn f2=>?_;have x8:(eV++[MO.exc (.ref C)])[0]?=some m:=by rw[tE (by lia)];exact em1
  have hk:(fO++[e])[eV.length]?=some e:=by rw[ou (by rw[Mb.len];exact au _),Mb.len,aO];rfl
  have ls:Ct.length=X.N.length:=J.len;have hil:i<Ct.length:=by rw[ls];exact(mW hi).1
  have A2:kQ (fO++[e]) (upd H' e<|.ext<|kF e<|.ref C) ((List.replicate X.N.length none).set i<|some<|.mr eV.length) (Ct.set i<|some<|.ref e):=by
   refine⟨by rw[aR,aR,bc,ls],λj d q=>?_⟩;by_cases z:i=j
   .subst z;rw[aJ (by rw[bc,<- ls];exact hil)]at q;cases q;exact⟨.ref e,aJ hil,e,hk,rfl⟩
   .rw[aA z,List.getElem?_replicate]at q;split at q<;>cases q
  have L2:LiN (fO++[e]) (upd H' e<|.ext<|kF e<|.ref C) { nx:=λjV ν=>ν[0]?=some (.gx (fO++[e])<|upd H' e<|.ext<|kF e<|.ref C)/\N.nx (jV.set i none) (ν.set 0 m),rt:=gK (fO++[e]) (upd H' e<|.ext<|kF e<|.ref C) m N.rt} { nx:=λgL H'=>D.nx (gL.set i none) H',rt:=D.rt} :=
   ⟨λjV ν lQ gL H2 ⟨e',k'⟩ f A M'=>(L.nx.mono<|f'.trans f2) (jV.set i none) _ lQ (gL.set i none) H2 k' f (A.gone i)<|Msn.back x8 M' e',(L.rt.mono<|f'.trans f2).ghost Msn x8,λ_ _ _ _ _ k' _ _ _=>k'.elim,λ_ _ _ _ _ k' _ _ _=>k'.elim⟩
  refine bf (hs (X.pn++ee) e (fO++[e]) (upd H' e<|.ext<|kF e<|.ref C) eV.length hk l1 [] s8 _ _ { nx:=λgL H'=>D.nx (gL.set i none) H',rt:=D.rt} J8 ⟨fO++[e],_,_,_,A2,Msn.ghost x8,hv _ _,L2⟩) (λf s9 q=>?_) (λ_ _ z=>z.elim);cases f with
  | next =>refine mD q λσ9 H9 J9 q9=>?_;have J9x:Inv X ee σ9 H9 s9:=⟨I.ok,J9.os,J9.bare,J9.eB,J9.loc,J9.cell,J9.free,J9.ky,(λp hp=>J9.pin p<|bT _ hp),J9.fB,J9.len⟩;refine eS (id J9x.loc) λmm OQ hlk=>?_;show wpAny _ _ (do bindName X.env n .none;unbindBehindTheSuite X.env n QG) _ _ _;refine wpAny_nameGoes_keeps hn OQ (by rw[I.ok.kind];rfl) λh' vv VI hsb=>?_;exact⟨_,H9,J9x.gone hN hi hlk VI hsb,q9⟩
  |brk=>obtain⟨_,_,_,q⟩:=q;exact q.elim
  |cont=>obtain⟨_,_,_,q⟩:=q;exact q.elim
  | ret r =>refine tj q λv' σ9 H9 J9 rv qr=>?_;have J9x:Inv X ee σ9 H9 s9:=⟨I.ok,J9.os,J9.bare,J9.eB,J9.loc,J9.cell,J9.free,J9.ky,(λp hp=>J9.pin p<|bT _ hp),J9.fB,J9.len⟩;refine eS J9.loc λmm OQ _=>?_;show wpAny _ _ (do bindName X.env n .none;unbindBehindTheSuite X.env n QG) _ _ _;refine wpAny_nameGoes hn OQ (by rw[I.ok.kind];rfl) λh' m' VI hsb=>?_;exact⟨v',_,H9,J9x.forget VI hsb,rv,qr⟩
 have qW:=hb _ _ φ H _ Z [] s σ H D I' ⟨φ,ρ,μ.set 0<|.gx φ H,_,A,Mg,w,⟨L.nx.ghost M em,L.rt.ghost M em,L.bk.ghost M em,L.ct.ghost M em⟩⟩;refine bf qW (λf s1 q=>?_) (λev s1 q=>by have q:xe ev s1:=q;rw[hxe]at q;exact q);cases f with
 |next=>obtain⟨gL,H',J,q⟩:=q;exact dq ⟨gL,H',back J,q⟩
 |brk=>obtain⟨gL,H',J,q⟩:=q;exact⟨gL,H',back J,q⟩
 |cont=>obtain⟨gL,H',J,q⟩:=q;exact⟨gL,H',back J,q⟩
 |ret u=>obtain⟨v',gL,H',J,r,q⟩:=q;exact⟨v',gL,H',back J,r,q⟩
end
def xZ:ot:=λ_ _ _=>False
def rR {P:ae}{w:af}{K:aa}{mg:Str->aq ak}{eB:Heap}{k:Nat}{f:aj}{fd:ah}{ps:ao Str}:fA P w K mg eB nr k f fd ps (kT xZ) :=
 ⟨λvs H Q E h=>by obtain⟨_,_,_,_,_,_,h,_⟩:=h;exact h.elim,λA eM s H args us vs Q E _ _ _ _ h=>by obtain⟨_,_,_,_,_,_,h,_⟩:=h;exact h.elim⟩
def jG.vo (cs:ao Int)(ts:ao Tk):jG->aq Tk
 |.num n=>if 0<=n then ts[n.toNat]? else none
 | .pI p l r=>match l.vo cs ts,r.vo cs ts with
  |some a,some b=>if p∈cs then some (sv a b p)else none
  |_,_=>none
theorem jG.Cy {cs:ao Int}{ts:ao Tk}:∀ {t:jG} {v:Tk},t.vo cs ts=some v->t.ok cs ts.length/\t.val ts=v
 | .num n,v,h=>by
  have h:(if 0<=n then ts[n.toNat]? else none)=some v:=h;split at h
  .have:=(mW h).1;exact⟨⟨‹_›,by lia⟩,by show(ts[n.toNat]?).getD ([],0)=v;rw[h];rfl⟩
  .cases h
 | .pI p l r,v,h=>by
  have h:(match l.vo cs ts,r.vo cs ts with|some a,some b=>if p∈cs then some (sv a b p)else none|_,_=>none)=some v:=h;cases el:l.vo cs ts with
  |none=>rw[el]at h;cases h
  | some a =>
   cases er:r.vo cs ts with
   |none=>rw[el,er]at h;cases h
   | some b =>
    rw[el,er]at h;have h:(if p∈cs then some (sv a b p)else none)=some v:=h;split at h
    .rename_i hp;cases h;obtain⟨l1,l2⟩:=Cy el;obtain⟨r1,r2⟩:=Cy er;exact⟨⟨hp,l1,r1⟩,by show sv (l.val ts) (r.val ts) p=_;rw[l2,r2]⟩
    .cases h
theorem jG.Hi {cs:ao Int}{ts:ao Tk}:∀ {t:jG},t.ok cs ts.length->t.vo cs ts=some (t.val ts)
 | .num n,h=>by obtain⟨h0,h1⟩:0<=n/\n<ts.length:=h;show(if 0<=n then ts[n.toNat]? else none)=some ((ts[n.toNat]?).getD ([],0));rw[aD h0,vk (by lia)];rfl
 | .pI p l r,h=>by show(match l.vo cs ts,r.vo cs ts with|some a,some b=>if p∈cs then some (sv a b p)else none|_,_=>none)=_;rw[Hi h.2.1,Hi h.2.2];exact aD h.1
def jG.RP {cs:ao Int}{ts:ao Tk}{t x:jG}(hx:x∈t.pre)(h:¬ x.ok cs ts.length):t.vo cs ts=none:=by
 cases e:t.vo cs ts with
 |none=>rfl
 |some v=>exact absurd (jG.Fi (Cy e).1 x hx) h
def Bw (cB:aj):jc:=λds μ K Kx=>dM [.l,.i] ds λy p=>(∃ m,μ[0]?=some m)/\∃ cs:ao Int,y=cs.map D.int/\(p∈cs->K (.int p) μ)/\(¬ p∈cs->Kx (.ref cB) μ)
def DS {cB:aj}{ds:ao D}{μ:MS}{K:DK}{Kx:DX}(h:Bw cB ds μ K Kx):ds.length=2/\∃ m,μ[0]?=some m:=by obtain⟨_,_,rfl,h⟩:=dJ h;exact⟨rfl,h.1⟩
def Gg (cB:aj):jc:=λds μ K Kx=>dM [.l,.i] ds λy n=>(∃ m,μ[0]?=some m)/\∃ ts:ao Tk,y=ts.map jZ/\(∀ v,(jG.num n).vo [] ts=some v->K (jZ v) μ)/\((jG.num n).vo [] ts=none->Kx (.ref cB) μ)
def Gf {cB:aj}{ds:ao D}{μ:MS}{K:DK}{Kx:DX}(h:Gg cB ds μ K Kx):ds.length=2/\∃ m,μ[0]?=some m:=by obtain⟨_,_,rfl,h⟩:=dJ h;exact⟨rfl,h.1⟩
def Gp (cB:aj):jc:=λds μ K Kx=>dM [.i,.l,.l,.v] ds λn x y d=>(∃ m,μ[0]?=some m)/\∃(cs:ao Int) (ts:ao Tk) (t:jG),x=cs.map D.int/\y=ts.map jZ/\d=vL t/\t.cnt<=1000/\(∀ p∈cs,0<=p)/\n<=1000/\(∀ t∈ts,EB n t)/\(match t.vo cs ts with|some v=>K (jZ v) μ|none=>Kx (.ref cB) μ)
def Gn {cB:aj}{ds:ao D}{μ:MS}{K:DK}{Kx:DX}(h:Gp cB ds μ K Kx):ds.length=4/\∃ m,μ[0]?=some m:=by obtain⟨_,_,_,_,rfl,h⟩:=dJ h;exact⟨rfl,h.1⟩
def WR (es:ao Int)(ts:ao Tk):Nat->Nat->Nat->jG->Prop
 |0,_,_,_=>False
 | a+1,i,j,t=>if Pa es ts (a+1) i j=0 then ∃ x∈nTk es ts a i j,t=.num (x:Nat)else
  ∃ k∈midP (Pa es ts<|a+1) (Pa es ts a) i j,∃ l r,t=.pI (es.getD k 0) l r/\WR es ts a i k l/\WR es ts a k j r
section
variable {es:ao Int}{ts:ao Tk}(hu:es.Pairwise (·<·))(hL:es.length<=100)(ht:ts.length<=100)
include hu hL ht
end
section
variable {es:ao Int}{ts:ao Tk}(hL:es.length<=100)(ht:ts.length<=100)
include hL ht
end
section
variable {es:ao Int}{ts:ao Tk}(hu:es.Pairwise (·<·))
include hu
end
section
variable {n:Int}{cs:ao Int}{ts:ao Tk}(S:yq n cs ts)
include S
end
section
variable {es:ao Int}{ts:ao Tk}(hu:es.Pairwise (·<·))(hL:es.length<=100)(ht:ts.length<=100)
include hu hL ht
end
section
variable {n:Int}{cs:ao Int}{ts:ao Tk}(S:yq n cs ts)
include S
end
end L2
namespace L2
open PySem PySem.Spec PyProof.Rows PyProof PySem.W
end L2
namespace L2
open PySem PySem.Spec PyProof.Rows PyProof
section
variable {n:Int}{cs:ao Int}{ts:ao Tk}(S:yq n cs ts)(W7:cs.length<=60)
include S W7
end
section
variable {n:Int}{cs:ao Int}{ts:ao Tk}(S:yq n cs ts)(W7:cs.length<=60)
include S W7
end
open PySem PySem.Spec PyProof.Rows
def uA {M:Model}{Γ:PySem.Ctx}{p:Pos}{t:Sem PySem.Fin}{fs:ao Frame}{s s':ai}{e:End}(h:Runs M Γ p t fs s e s'):s.toks<=s'.toks:=by
 induction h with
 |done|raise|yield=>exact au _
 |again _ _ ih=>exact ih
 |rule _ ih | «at» _ ih|load _ _ ih|update _ _ ih|loadIfAlive _ ih|point _ ih|alloc _ ih|ask _ ih|choose _ _ ih|os _ ih|handled _ ih|genState _ _ ih|stack _ ih|thread _ ih|newGen _ ih|callSusp _ ih|resumeJustStarted _ _ _ ih|resumeRunning _ _ ih|resumeFinished _ _ ih=>exact ih
 |fresh _ ih=>exact aG (Nat.le_succ _) ih
 |call _ _ Mt Ko=>exact aG Mt Ko
 |resumeFresh _ _ _ _ Mt Ko=>exact aG Mt Ko
 |resumeSuspended _ _ _ _ Mt Ko=>exact aG Mt Ko
 |resumeThrowFresh _ _ ih=>exact ih
 |segRet _ _ Mt Ko=>exact aG Mt Ko
 |segGen _ _ Mt Ko=>exact aG Mt Ko
 |segSuspOut _ _ ih=>exact ih
 |segSuspGen _ _ _ _ Mt Ko=>exact aG Mt Ko
def EY {M:Model}{Γ:PySem.Ctx}{p:Pos}{g:Nat}{r:Resume}{s s':ai}{res:GenResult}(h:Wakes M Γ p g r s res s'):s.toks<=s'.toks:=by
 delta Wakes at h;split at h
 .cases h
 .split at h
  .obtain⟨e,s1,hr,_,_,rfl⟩:=h;have:=uA hr;exact this
  .obtain⟨_,rfl⟩:=h;exact au _
  .obtain⟨_,rfl⟩:=h;exact au _
 .obtain⟨e,s1,hr,_,_,rfl⟩:=h;have:=uA hr;exact this
 .obtain⟨_,rfl⟩:=h;exact au _
 .obtain⟨_,rfl⟩:=h;exact au _
def wp_toks {α:Type}{M:Model}{Γ:PySem.Ctx}(n:Nat):∀(t:Sem α) {Q:α->Pos->ai->Prop} {E:ak->Pos->ai->Prop} {p:Pos} {s:ai},n<=s.toks->Sem.wp M Γ t Q E p s->Sem.wp M Γ t (λa p' s'=>Q a p' s'/\n<=s'.toks) (λe p' s'=>E e p' s'/\n<=s'.toks) p s:=by
 intro t;induction t with
 |pure a=>intro Q E p s hn h;exact⟨h,hn⟩
 |«raise» e=>intro Q E p s hn h;exact⟨h,hn⟩
 |unsupported=>intro Q E p s hn h;exact h.elim
 |finish=>intro Q E p s hn h;exact h.elim
 |register=>intro Q E p s hn h;exact h.elim
 |yield=>intro Q E p s hn h;exact h.elim
 |fork=>intro Q E p s hn h;exact h.elim
 |await=>intro Q E p s hn h;exact h.elim
 |load a part k ih=>intro Q E p s hn h;obtain⟨o,ho,h⟩:=h;exact⟨o,ho,ih o hn h⟩
 |update a part f k ih=>intro Q E p s hn h;exact⟨h.1,ih () (s:={s with heap:=s.heap.update a f}) hn h.2⟩
 |fresh k ih=>intro Q E p s hn h;exact ih _ (s:={s with toks:=s.toks+1}) (bX hn) h
 |choose src m k ih=>intro Q E p s hn h;exact⟨h.1,ih _ (s:={s with drawn:=s.drawn.bump src}) hn h.2⟩
 |genState g k ih=>intro Q E p s hn h;obtain⟨st,hs,h⟩:=h;exact⟨st,hs,ih _ hn h⟩
 |call c hh g l k ih=>intro Q E p s hn h;obtain⟨r,s1,hr,h⟩:=h;exact⟨r,s1,hr,ih _ (aG hn<|uA hr) h⟩
 |resume g r l k ih=>intro Q E p s hn h;obtain⟨res,s1,hr,h⟩:=h;exact⟨res,s1,hr,ih _ (aG hn<|EY hr) h⟩
 |alloc o k ih=>intro Q E p s hn h;exact ih _ (s:={s with heap:=s.heap.push o}) hn h
 |os q l k ih=>intro Q E p s hn h;exact ih _ (s:={s with os:=(Os.step s.os q).1}) hn h
 |newGen c k ih=>intro Q E p s hn h;exact ih _ (s:={s with gens:=s.gens.push (.fresh c)}) hn h
 |_=>rename_i ih;intro Q E p s hn h;exact ih _ hn h
def Oq {α:Type}{M:Model}{A:Around}{t:Sem α}{Q:α->ai->Prop}{E:ak->ai->Prop}{s:ai}(n:Nat)(hn:n<=s.toks)(h:wpAny M A t Q E s):wpAny M A t (λa s'=>Q a s'/\n<=s'.toks) (λe s'=>E e s'/\n<=s'.toks) s:=λΓ p hΓ=>wp_toks n t hn (h Γ p hΓ)
section
variable {X:Cx}
def aaJ:V->ao V->Hp->VK->Prop:=λx vs H Q=>match x,vs with
 |.str z,[.str y]=>Q (.int<|Txt.count z y) H
 |_,_=>False
def Ly:V->ao V->Hp->VK->Prop:=λx vs H Q=>match x,vs with
 |.str z,[]=>Q (.bl<|Txt.isdecimal z) H
 |_,_=>False
def decS:B7 X "str.isdecimal" Ly:=by
 intro ee s σ H x vs v us Q I rx rv h;delta Ly at h;split at h
 .obtain⟨t,rfl⟩:=rx;cases rv;exact W.KXw.isdecimal rfl ⟨.bl _,H,I,rfl,h⟩
 .cases h
def Lw:ao V->Hp->VK->Prop:=λvs H Q=>match vs with
 |[.str z]=>∃ n:Int,PySem.intText? z=some n/\z.length<=640/\Q (.int n) H
 |_=>False
def Jt:jg X (.type "int") Lw:=by
 intro ee s σ H xs us Q I r h;delta Lw at h;split at h
 .obtain⟨u,rfl,t,rfl⟩:=vals1 r;refine oy h λn h1 h2 h3=>?_;exact W.KIN.call_text h1 h2 ⟨.int _,H,I.tok _,⟨_,rfl⟩,h3⟩
 .cases h
end
def aa0:O0:=λd ds μ K=>match d,ds with
 |.str z,[.str y]=>K (.int<|Txt.count z y) μ
 |_,_=>False
def SO:O0:=λd ds μ K=>match d,ds with
 |.str z,[]=>K (.bl<|Txt.isdecimal z) μ
 |_,_=>False
def Pr {Kf:aa}:B5 Kf "str" Ly SO:=λφ H x vs d ds μ K Q M hx h k L=>by
 delta SO at k;split at k
 .cases(show x=_ from hx);cases(show vs=[]from h);exact L.val M k rfl
 .exact k.elim
def Zz:ot:=λds μ K=>dM [.s] ds λz=>∃ n:Int,PySem.intText? z=some n/\z.length<=640/\K (.int n) μ
def Pp:mY Lw Zz:=λφ H vs ds μ K Q M h k L=>by obtain⟨_,rfl,k⟩:=dJ k;obtain⟨v,r,rfl,h1,h2⟩:=h;cases(show r=[]from h2);cases(show v=_ from h1);obtain⟨n,k1,k2,k3⟩:=k;exact⟨n,k1,k2,L.val M k3 rfl⟩
end L2
namespace L2
open PySem PySem.Spec PyProof.Rows PyProof Builtin Builtin.Str
theorem zg:∀ l:ao (Str×Tok),fH ((l.map (·.1)).map V.str) (strValues l)
 |[]=>.nil
 |(x,t)::l=>.cons ⟨t,rfl⟩ (zg l)
section
variable {X:Cx}
def AS:V->ao V->Hp->VK->Prop:=λx vs H Q=>match x,vs with
 |.str z,[]=>z.length+2<=sizeLine/\∀ l,H l=none->Q (.ref l) (upd H l<|.lst<|(Txt.words z).map V.str)
 |_,_=>False
def Pm:B7 X "str.split" AS:=by
 intro ee s σ H x vs v us Q I rx rv h;delta AS at h;split at h
 .rename_i z;obtain⟨t,rfl⟩:=rx;cases rv;obtain⟨hz,q⟩:=h;have hw:=(StrLaws.sw_weight z).1;have hn:=aG (StrLaws.len_le_wsum<|spaceWords z<|z.length+1) hw;have key:∀(l:ao (Str×Tok)) (k:Nat),l.map (·.1)=Txt.words z->l.length<=sizeLine->EP X ee σ Q (.ref s.heap.objs.size) { s with heap:=s.heap.push { cls:=.type "list",data:=.seq (strValues l).toArray},toks:=k}:=λl k e hl=>by have hv:=zg l;rw[e]at hv;exact⟨.ref _,_,I.YH (t':=k) hv (by rw[<- e,jf,jf];exact hl),rfl,q _ I.fresh⟩
  refine call_meets F.slot_str_split (dA _ _ _) F.entry_str_split (F.args_str_split_1 _) (meets_str_split_space z t (by lia)<|by lia) ?_;by_cases e:(spaceWords z (z.length+1)==[(0,z.length)])=true
  .rw[aD e];exact key [(z,t)] s.toks (by delta Txt.words;rw[aD e];rfl) (by show 1<=sizeLine;decide)
  .rw[az e,strsFrom_eq];refine key (numbered s.toks<|wordsOf z) _ (by delta Txt.words;rw[az e,numbered_texts]) ?_;have:=bG List.length<|numbered_texts s.toks<|wordsOf z;rw[jf]at this;rw[this];delta wordsOf;rw[jf];lia
 .cases h
end
def Hz (m:Bool):O0:=λd ds μ K=>match d,ds with
 |.str z,[]=>z.length+2<=sizeLine/\nL m ((Txt.words z).map D.str) μ K
 |_,_=>False
theorem zI {φ:ao aj}{H:Hp}:∀ ys:ao Str,fe φ H (ys.map D.str) (ys.map V.str)
 |[]=>rfl
 |y::ys=>⟨_,_,rfl,rfl,zI ys⟩
def IB {Kf:aa}{m:Bool}:B5 Kf "str" AS (Hz m):=λφ H x vs d ds μ K Q M hx h k L=>by
 delta Hz at k;split at k
 .cases(show x=_ from hx);cases(show vs=[]from h);exact⟨k.1,λl hl=>Ey L M (zI _) k.2 hl⟩
 .exact k.elim
end L2
namespace L2
open PySem PySem.Spec PyProof.Rows PyProof Builtin Builtin.Str
def GH (X:Cx)(e:Expr)(t:TE):Prop :=
 ∀(ee:ao (aj×Obj)) (s:ai) (σ:St) (H:Hp) (Q:VK),0<s.toks->Inv X ee σ H s->t σ H Q->wpAny (model X.prog X.w) X.A (eval e X.env) (EP X ee σ Q) X.xe s
def PE.pep {X:Cx}{e:Expr}{t:TE}(h:PE X e t):GH X e t:=λee s σ H Q _ I q=>h ee s σ H Q I q
def KU {α:Type}{t:Sem α}{Q Q':α->ai->Prop}{M:Model}{A:Around}{E:ak->ai->Prop}{s:ai}(hn:0<s.toks)(h:wpAny M A t Q E s)(hQ:∀ a s,0<s.toks->Q a s->Q' a s):wpAny M A t Q' E s:=bf (Oq 1 hn h) (λa s h=>hQ a s h.2 h.1) λ_ _ x=>x.1
section
variable {X:Cx}
def Xv (y z:Str)(to:TE):TE:=λσ H Q=>to σ H λv H1=>∃ x:Str,v=.str x/\x.length+(x.length+1)*z.length<=16777216/\Q (.str<|Txt.replace x y z) H1
def Dg {o:Expr}{to:TE}{y z:Str}{j1 j2:Nat}{p1 p2 fZ fW:Pos}(ho:GH X o to)(hyz:(y==z)=false)
 (iF:attributeBase o "replace" X.env (eval o X.env)=eval o X.env:=by rfl) (iZ:(fZ.endLine==fW.line)=true:=by rfl)
 (xG:((backTo fW<|starEach [.Constant (.str y) j1 p1,.Constant (.str z) j2 p2] X.env).all (λx=>!x.1)&&(backToKw fW<|keywordEach [] X.env).all (λx=>x.1.isSome)
   && decide (2+([]:ao Keyword).length+(if([]:ao Keyword).isEmpty then 0 else 1)<30))=true:=by rfl):
 GH X (.Call (.Attribute o "replace" fZ) [.Constant (.str y) j1 p1,.Constant (.str z) j2 p2] [] fW) (Xv y z to):=by
 intro ee s σ H Q hn I h;refine dO iF xG iZ rfl (KU hn (ho ee s σ H _ hn I h) λv s1 hn1 FQ=>?_);obtain⟨x0,H1,I1,r1,x,e0,hb,q⟩:=FQ;subst e0;obtain⟨t,rfl⟩:=r1;refine⟨"str","str.replace",F.plainAttrs_str,F.slot_str_replace,F.type_str_replace,dA _ _ _,(λa e=>by cases e),?_⟩;refine bO rfl (cE ?_);show wpAny _ _ (spliced [(false,eval (.Constant (.str y) j1 p1) X.env),(false,eval (.Constant (.str z) j2 p2) X.env)]) _ _ _;refine cc<|dH ?_;refine cc<|dH ?_;refine cD ?_;refine SC.replace (by show s1.toks≠0;lia) (by show s1.toks+1≠0;lia) (by show s1.toks≠s1.toks+1;lia) hyz hb λt' k=>?_;exact⟨.str _,H1,I1.tok _,⟨_,rfl⟩,q⟩
end
end L2
namespace L2
open PySem PySem.Spec PyProof.Rows PyProof Builtin Builtin.Str
section
variable {X:Cx}{a b:Expr}{ta tb:TE}{pos:Pos}{st:Stmt}{rest:ao Stmt}{t u:TS}
def WA (X:Cx)(e:Expr)(t:TE):Prop :=
 ∀(ee:ao (aj×Obj)) (s:ai) (σ:St) (H:Hp) (Q:VK),Inv X ee σ H s->t σ H Q->wpAny (model X.prog X.w) X.A (eval e X.env) (λv s'=>EP X ee σ Q v s'/\0<s'.toks) X.xe s
def Wx (X:Cx)(e:Expr)(t:TT):Prop :=
 ∀(ee:ao (aj×Obj)) (s:ai) (σ:St) (H:Hp) (Q:Bool->Hp->Prop),Inv X ee σ H s->t σ H Q->wpAny (model X.prog X.w) X.A (isTrue e X.env<|eval e X.env) (λv s'=>TP X ee σ Q v s'/\0<s'.toks) X.xe s
def Wy (X:Cx)(st:Stmt)(t:TS):Prop :=
 ∀(ee:ao (aj×Obj)) (s:ai) (σ:St) (H:Hp) (D:Ends),Inv X ee σ H s->t D σ H->wpAny (model X.prog X.w) X.A (exec st X.env) (λf s'=>SP X ee D f s'/\0<s'.toks) X.xe s
def PSp (X:Cx)(st:Stmt)(t:TS):Prop :=
 ∀(ee:ao (aj×Obj)) (s:ai) (σ:St) (H:Hp) (D:Ends),0<s.toks->Inv X ee σ H s->t D σ H->wpAny (model X.prog X.w) X.A (exec st X.env) (SP X ee D) X.xe s
def RD (X:Cx)(st:ao Stmt)(t:TS):Prop :=
 ∀(ee:ao (aj×Obj)) (s:ai) (σ:St) (H:Hp) (D:Ends),0<s.toks->Inv X ee σ H s->t D σ H->wpAny (model X.prog X.w) X.A (execs st X.env) (SP X ee D) X.xe s
def Ja {o:Expr}{to:TE}{y:Str}{j1:Nat}{p1 fZ fW:Pos}(ho:PE X o to)
 (iF:attributeBase o "count" X.env (eval o X.env)=eval o X.env:=by rfl) (iZ:(fZ.endLine==fW.line)=true:=by rfl)
 (xG:((backTo fW<|starEach [.Constant (.str y) j1 p1] X.env).all (λx=>!x.1)&&(backToKw fW<|keywordEach [] X.env).all (λx=>x.1.isSome)
   && decide (1+([]:ao Keyword).length+(if([]:ao Keyword).isEmpty then 0 else 1)<30))=true:=by rfl):
 WA X (.Call (.Attribute o "count" fZ) [.Constant (.str y) j1 p1] [] fW) (λσ H Q=>to σ H λv H1=>∃ x:Str,v=.str x/\Q (.int<|Txt.count x y) H1):=by
 intro ee s σ H Q I h;refine dO iF xG iZ rfl (gg (ho ee s σ H _ I h) λv s1 FP=>?_);obtain⟨x0,H1,I1,r1,x,e0,q⟩:=FP;subst e0;obtain⟨t,rfl⟩:=r1;refine⟨"str","str.count",F.plainAttrs_str,F.slot_str_count,F.type_str_count,dA _ _ _,(λa e=>by cases e),?_⟩;refine bO rfl (cE ?_);show wpAny _ _ (spliced [(false,eval (.Constant (.str y) j1 p1) X.env)]) _ _ _;refine cc<|dH ?_;refine cD ?_;exact SC.count ⟨⟨.int _,H1,I1.tok _,⟨_,rfl⟩,q⟩,Nat.succ_pos _⟩
def PR {op:CmpOp}{r:R2}(ho:lj X (compareOp op) r)(ha:WA X a ta)(hb:PE X b tb)(hm:behindInMarks op b=false):Wx X (.Compare a [op] [b] pos) (Xu<|WS r ta tb):=by
 intro ee s σ H Q I h;refine wpAny_isTrue_Compare1 (gg (ha ee s σ H _ I h) λv s1 ⟨⟨x,H1,I1,r1,q1⟩,n1⟩=>KU n1 (hb ee s1 σ H1 _ I1 q1) λu s2 n2 h_=>fw h_ λy H2 I2 r2 q2 =>
  KU n2 (ho ee s2 σ H2 x y v u _ I2 r1 r2 q2) λc s3 n3 ⟨z,H3,I3,r3,k,e,q3⟩=>?_) hm
 subst e;subst r3;exact bL ⟨⟨H3,I3,q3⟩,n3⟩
def Uz {c:Expr}{xs ys:ao Stmt}{tc:TT}(hc:Wx X c tc)(ha:yt X xs t)(hb:yt X ys u):Wy X (.If c xs ys pos) (Xy tc t u):=by
 intro ee s σ H D I h;refine wpAny_If (gg (hc ee s σ H _ I h) λd s1 ⟨⟨H1,I1,q1⟩,n1⟩=>?_);cases d with
 |true=>exact KU n1 (ha ee s1 σ H1 D I1 q1) λf s2 n2 q=>⟨q,n2⟩
 |false=>exact KU n1 (hb ee s1 σ H1 D I1 q1) λf s2 n2 q=>⟨q,n2⟩
def IQ (h1:Wy X st t)(h2:RD X rest u):yt X (st::rest) (TN t u):=by
 intro ee s σ H D I h;refine dg (gg (h1 ee s σ H { D with nx:=u D} I h) λf s1 h_=>jS h_ λq n1=>?_);cases f with
 |next=>obtain⟨gL,H',I',q⟩:=q;exact h2 ee s1 gL H' D n1 I' q
 |ret v=>exact q
 |brk=>exact q
 |cont=>exact q
def IP (h1:PSp X st t)(h2:yt X rest u):RD X (st::rest) (TN t u):=by
 intro ee s σ H D hn I h;refine dg (gg (h1 ee s σ H { D with nx:=u D} hn I h) λf s1 q=>?_);cases f with
 |next=>obtain⟨gL,H',I',q⟩:=q;exact h2 ee s1 gL H' D I' q
 |ret v=>exact q
 |brk=>exact q
 |cont=>exact q
def Qd {o:Expr}{to:TE}{name:Str}{fZ fW:Pos}{T id:String}{r:V->ao V->Hp->VK->Prop}(pa:PlainAttrs T)(slot:Slot T name id)(Mx:typeOf (.builtin id)=pure (.type "method_descriptor"))(hm:B7 X id r)(ho:GH X o to)
 (iF:attributeBase o name X.env (eval o X.env)=eval o X.env:=by rfl) (iZ:(fZ.endLine==fW.line)=true:=by rfl):GH X (.Call (.Attribute o name fZ) [] [] fW) (XD X.K T r to):=by
 intro ee s σ H Q hn I h;refine cO iF iZ (gg (ho ee s σ H _ hn I h) λv s1 h_=>jX h_ λx H1 I1 r1 ty q1=>?_);obtain⟨h1,h2⟩:=EZ I1 r1 ty;exact⟨T,id,pa,slot,Mx,h1,h2,bO rfl (dk<|hm ee s1 σ H1 x [] v [] Q I1 r1 .nil q1)⟩
end
end L2
namespace L2
open PySem PySem.Spec PyProof.Rows PyProof Builtin Builtin.Str
end L2
namespace L2
open PySem PySem.Spec PyProof.Rows PyProof
end L2
namespace L2
open PySem PySem.Spec PyProof.Rows PyProof Builtin Builtin.Str
section
variable {X:Cx}{e:Expr}{pos:Pos}{st:Stmt}{rest:ao Stmt}
def GH.imp {t t':TE}(h:GH X e t)(hi:∀ σ H Q,t' σ H Q->t σ H Q):GH X e t':=λee s σ H Q hn I q=>h ee s σ H Q hn I (hi σ H Q q)
def WA.imp {t t':TE}(h:WA X e t)(hi:∀ σ H Q,t' σ H Q->t σ H Q):WA X e t':=λee s σ H Q I q=>h ee s σ H Q I (hi σ H Q q)
def Wx.imp {t t':TT}(h:Wx X e t)(hi:∀ σ H Q,t' σ H Q->t σ H Q):Wx X e t':=λee s σ H Q I q=>h ee s σ H Q I (hi σ H Q q)
def Wy.imp {t t':TS}(h:Wy X st t)(hi:∀ D σ H,t' D σ H->t D σ H):Wy X st t':=λee s σ H D I q=>h ee s σ H D I (hi D σ H q)
def ZS (y z:Str)(w:De):De:=λρ μ K=>w ρ μ λd eV=>match d with
 |.str x=>x.length+(x.length+1)*z.length<=16777216/\K (.str<|Txt.replace x y z) eV
 |_=>False
def x9 {o:Expr}{w:De}{y z:Str}{j1 j2:Nat}{p1 p2 fZ fW:Pos}(ho:GH X o (tD w))(hyz:(y==z)=false)
 (iF:attributeBase o "replace" X.env (eval o X.env)=eval o X.env:=by rfl) (iZ:(fZ.endLine==fW.line)=true:=by rfl)
 (xG:((backTo fW<|starEach [.Constant (.str y) j1 p1,.Constant (.str z) j2 p2] X.env).all (λx=>!x.1)&&(backToKw fW<|keywordEach [] X.env).all (λx=>x.1.isSome)
   && decide (2+([]:ao Keyword).length+(if([]:ao Keyword).isEmpty then 0 else 1)<30))=true:=by rfl):
 GH X (.Call (.Attribute o "replace" fZ) [.Constant (.str y) j1 p1,.Constant (.str z) j2 p2] [] fW) (tD<|ZS y z w):=(Dg ho hyz iF iZ xG).imp λσ H Q ⟨φ,ρ,μ,K,E,M,k,L⟩=>
 ⟨φ,ρ,μ,_,E,M,k,λd eV fo v H1 k1 f1 M1 i1=>by
  cases d with
  |str x=>cases(show v=_ from i1);exact⟨x,rfl,k1.1,L _ eV fo _ H1 k1.2 f1 M1 rfl⟩
  |_=>exact k1.elim⟩
def V4 {o:Expr}{name:Str}{fZ fW:Pos}{T id:String}{r:V->ao V->Hp->VK->Prop}{f:O0}{wo:De}(pa:PlainAttrs T)(slot:Slot T name id)(Mx:typeOf (.builtin id)=pure (.type "method_descriptor"))(hm:B7 X id r)(so:B5 X.K T r f)(ho:GH X o (tD wo))
 (iF:attributeBase o name X.env (eval o X.env)=eval o X.env:=by rfl) (iZ:(fZ.endLine==fW.line)=true:=by rfl):GH X (.Call (.Attribute o name fZ) [] [] fW) (tD<|dMt T f wo BP):=(Qd pa slot Mx hm ho iF iZ).imp λσ H Q q=>by
 refine fF q λφ ρ μ K E M w L=>?_;exact⟨φ,ρ,μ,_,E,M,w,λd1 eV fo v1 H1 k1 f1 M1 i1=>⟨Tp.is M1 i1 k1.1,so fo H1 v1 [] d1 [] eV K Q M1 i1 rfl k1.2<|L.mono f1⟩⟩
def T6 {i:Nat}{x:Str}{w:De}{pos':Pos}(hN:X.N.Nodup)(hi:X.N[i]?=some x)(hx:Loc X.env.scope x)(he:GH X e (tD w))(hf:X.fn x=true\/X.env.scope.names.lookup x=some .local)
 (My:swapsWith e (some<|.Name x pos') pos.line X.env=pure false:=by rfl):PSp X (.Assign [.Name x pos'] e pos) (OI<|NP i w):=by
 intro ee s σ H D hn I h;refine fF h λφ ρ μ N A M k1 L=>?_;refine wpAny_Assign_Name (gg (he ee s σ H (λv H1=>D.nx (σ.set i<|some v) H1) hn I ⟨φ,ρ,μ,_,A,M,k1,λd eV fo v1 H1 k2 f1 M1 i1=>L.nx _ eV fo _ H1 k2 f1 ((A.mono f1).set i1 i) M1⟩) λv s1 h_=>fw h_ λy H1 I1 r1 q1=>?_) My;exact qE I1 hN hi hx r1 (λs2 I2=>⟨_,H1,I2,q1⟩) hf
def dCnt (y:Str)(w:De):De:=λρ μ K=>w ρ μ λd eV=>match d with
 |.str x=>K (.int<|Txt.count x y) eV
 |_=>False
def NG {o:Expr}{w:De}{y:Str}{j1:Nat}{p1 fZ fW:Pos}(ho:PD X o w)
 (iF:attributeBase o "count" X.env (eval o X.env)=eval o X.env:=by rfl) (iZ:(fZ.endLine==fW.line)=true:=by rfl)
 (xG:((backTo fW<|starEach [.Constant (.str y) j1 p1] X.env).all (λx=>!x.1)&&(backToKw fW<|keywordEach [] X.env).all (λx=>x.1.isSome)
   && decide (1+([]:ao Keyword).length+(if([]:ao Keyword).isEmpty then 0 else 1)<30))=true:=by rfl):
 WA X (.Call (.Attribute o "count" fZ) [.Constant (.str y) j1 p1] [] fW) (tD<|dCnt y w):=(Ja ho iF iZ xG).imp λσ H Q ⟨φ,ρ,μ,K,E,M,k,L⟩=>
 ⟨φ,ρ,μ,_,E,M,k,λd eV fo v H1 k1 f1 M1 i1=>by
  cases d with
  |str x=>cases(show v=_ from i1);exact⟨x,rfl,L _ eV fo _ H1 k1 f1 M1 rfl⟩
  |_=>exact k1.elim⟩
def TJ {a b:Expr}{op:CmpOp}{r:R2}{ro:Ag}{wa wb:De}(h:lj X (compareOp op) r)(so:p8 r ro)(ha:WA X a (tD wa))(hb:PD X b wb)(hm:behindInMarks op b=false):Wx X (.Compare a [op] [b] pos) (wF<|sf<|zJ ro wa wb):=(PR h ha hb hm).imp λσ H Q q=>by
 refine fF q λφ ρ μ K E M k L=>?_;refine CG so ⟨φ,ρ,μ,_,E,M,k,λd fj fO v H' k' f M' i=>?_⟩;cases d with
 |bl c=>exact⟨c,i,L c fj fO H' k' f M'⟩
 |_=>exact k'.elim
def XT {c:Expr}{body orelse:ao Stmt}{t:Dt}{u v:Ds}(hc:Wx X c (wF t))(h1:zc X body u)(h2:zc X orelse v):Wy X (.If c body orelse pos) (OI<|JU t u v):=(Uz hc h1 h2).imp λE σ H h_=>fF h_ λφ ρ μ N A M w L =>
 ⟨φ,ρ,μ,_,A,M,w,λb eV fo H1 k1 f1 M1=>by
  cases b with
  |true=>exact⟨fo,ρ,eV,N,A.mono f1,M1,k1,L.mono f1⟩
  |false=>exact⟨fo,ρ,eV,N,A.mono f1,M1,k1,L.mono f1⟩⟩
def Rt {t u:Ds}(h1:PSp X st (OI t))(h2:zc X rest u):RD X (st::rest) (OI<|Wd t u):=λee s σ H D hn I h_=>fF h_ λφ ρ μ N A M w L =>IP h1 h2 ee s σ H D hn I ⟨φ,ρ,μ,_,A,M,w,⟨λjV fj fO gL H' k f A' M'=>⟨fO,jV,fj,N,A',M',k,L.mono f⟩,L.rt,L.bk,L.ct⟩⟩
def Rx {t u:Ds}(h1:Wy X st (OI t))(h2:RD X rest (OI u)):zc X (st::rest) (Wd t u):=(IQ h1 h2).imp λE σ H h_=>fF h_ λφ ρ μ N A M w L =>⟨φ,ρ,μ,_,A,M,w,⟨λjV fj fO gL H' k f A' M'=>⟨fO,jV,fj,N,A',M',k,L.mono f⟩,L.rt,L.bk,L.ct⟩⟩
end
end L2
namespace L2
open PySem PySem.Spec PyProof.Rows PyProof
section
variable {X:Cx}
def X5 (neg:Bool):R2:=λx y H Q=>∃ z:Str,y=.str z/\((∃ a:Str,x=.str a/\Q (.bl<|neg != decide (a=z)) H)\/(∃ i:Int,x=.int i/\Q (.bl neg) H)\/∃(p:aj) (vs:ao V),x=.ref p/\H p=some (.tup vs)/\Q (.bl neg) H)
def Rw (a z:Str):(a==z)=decide (a=z):=by
 by_cases h:a=z
 .rw[aH h,h];exact dh z
 .rw[aw h];exact beq_eq_false_iff_ne.mpr h
def eqTx (hu0:X.A.units+1<cLine):lj X (compareOp .Eq) (X5 false):=by
 intro ee s σ H x y u v Q I rx ry h;have hu:X.A.units<cLine:=(dY ‹_›);obtain⟨z,rfl,h⟩:=h;obtain⟨tz,rfl⟩:=ry;rcases h with⟨a,rfl,q⟩|⟨i,rfl,q⟩|⟨p,vs,rfl,hp,q⟩
 .obtain⟨t,rfl⟩:=rx;refine SeqAt.RcAt.str_str a t z tz X.prog X.w X.xe _ ?_;rw[Rw];exact⟨.bl _,H,I,rfl,by simpa using q⟩
 .obtain⟨t,rfl⟩:=rx;exact SeqAt.RcAt.int_str i t z tz X.prog X.w X.xe _ ⟨.bl _,H,I,rfl,q⟩
 .subst rx;refine oy (I.tuple<|Cs.of hp) λfu rv ht hz=>?_;exact SeqAt.RcAt.tuple_str z tz ht hu X.prog X.w X.xe _ ⟨.bl _,H,I,rfl,q⟩
end
def Z7 (neg:Bool):Ag:=λd e μ K=>match d,e with
 |.str a,.str z=>K (.bl<|neg != decide (a=z)) μ
 |.int _,.str _=>K (.bl neg) μ
 |.tup _,.str _=>K (.bl neg) μ
 |_,_=>False
def Ue {neg:Bool}:p8 (X5 neg) (Z7 neg):=λφ H x y d e μ K Q M hx hy k L=>by
 delta Z7 at k;split at k
 .cases(show x=_ from hx);cases(show y=_ from hy);exact⟨_,rfl,.inl ⟨_,rfl,L.val M k rfl⟩⟩
 .cases(show x=_ from hx);cases(show y=_ from hy);exact⟨_,rfl,.inr<|.inl ⟨_,rfl,L.val M k rfl⟩⟩
 .obtain⟨p,vs,rfl,hn,hp,ha⟩:=hx;cases(show y=_ from hy);exact⟨_,rfl,.inr<|.inr ⟨p,vs,rfl,hp,L.val M k rfl⟩⟩
 .exact k.elim
def jG.sm:jG->Prop
 |.num n=>0<=n/\n<10000
 |.pI p l r=>0<=p/\p<10000/\l.sm/\r.sm
def DZ:ot:=λds μ K=>dM [.s] ds λz=>∃ n:Int,0<=n/\n<10000/\z=toString n/\K (.int n) μ
end L2
namespace L2
open PySem PySem.Spec PyProof.Rows PyProof PySem.W.KIN
def QV:∀ c:Nat,c<58->48<=c->Unicode.isDecimal c=true:=by decide +kernel
def MZ {n:Int}(h0:0<=n)(h1:n<10000):Txt.isdecimal (toString n:Str)=true/\(toString n:Str).length<=4/\PySem.intText? (toString n:Str)=some n:=by
 have z3:=num_reads h0 (by lia);obtain⟨m,rfl⟩:=bU h0;have lt:m<10 ^ 4:=by lia
 have ll:(Nat.repr m).length<=4:=(Nat.length_repr_le_iff<|by decide).mpr lt;have le:(Str.ofString<|toString (m:Int)).length=(Nat.repr m).length:=PySem.ofString_length _;have sg:=signs_num m;have sl:(Str.ofString<|toString (m:Int)).cps.toList.length=(Str.ofString<|toString (m:Int)).length:=rfl;have pos:0<(Str.ofString<|toString (m:Int)).length:=by rw[<- sl,sg,jf];exact List.length_pos_iff.mpr (Nat.toDigits_ne_nil)
 refine⟨?_,le▸ll,z3⟩;show(decide ((Str.ofString<|toString (m:Int)).length>0)&&(Str.ofString<|toString (m:Int)).cps.all Unicode.isDecimal)=true;rw[aH pos,Bool.true_and,<- Array.all_toList,sg,cx];intro c hc;refine eS (List.mem_map.mp hc) λch Hu e=>?_;have r:=digit_range (Nat.isDigit_of_mem_toDigits (by decide) (by decide) Hu);rw[<- e];exact QV _ (by lia) r.1
end L2
namespace L2
open PySem PySem.Spec PyProof.Rows PyProof PySem.W.KIN
def Fc (c:Nat)(z:ao Nat)(k:Nat):ao Nat:=if k=c then z else[k]
theorem qJ {c:Nat}{z:ao Nat}:∀ {l:ao Nat},c∉l->l.flatMap (Fc c z)=l
 |[],_=>rfl
 | k::r,h=>by have h1:¬ k=c:=λe=>h<|e▸aI;rw[br,qJ λm=>h<|o6 _ m];delta Fc;rw[az h1];rfl
def Br {n:Int}(h0:0<=n):∀ c∈(toString n:Str).cps.toList,48<=c/\c<58:=by obtain⟨m,rfl⟩:=bU h0;intro c hc;rw[show(Str.ofString<|toString (m:Int)).cps.toList=_ from signs_num m]at hc;refine eS (List.mem_map.mp hc) λch Hu e=>?_;have r:=digit_range (Nat.isDigit_of_mem_toDigits (by decide) (by decide) Hu);rw[<- e];lia
def WZ:jG->ao Nat
 |.num n=>(toString n:Str).cps.toList
 |.pI p l r=>40::(WZ l++32::((toString p:Str).cps.toList++32::(WZ r++[41])))
def WY:jG->ao Nat
 |.num n=>(toString n:Str).cps.toList
 |.pI p l r=>40::32::(WY l++32::((toString p:Str).cps.toList++32::(WY r++[32,41])))
theorem L8:∀ {t:jG},t.sm->((WZ t).flatMap<|Fc 40 [40,32]).flatMap (Fc 41 [32,41])=WY t
 | .num n,h=>by have f:=Br h.1;show(((toString n:Str).cps.toList).flatMap _).flatMap _=_;rw[qJ (c:=40) (l:=(toString n:Str).cps.toList) λm=>by have:=f _ m;lia,qJ λm=>by have:=f _ m;lia];rfl
 | .pI p l r,h=>by
  have a:=L8 h.2.2.1;have b:=L8 h.2.2.2;have f:=Br h.1;have g:(((toString p:Str).cps.toList).flatMap<|Fc 40 [40,32]).flatMap (Fc 41 [32,41])=(toString p:Str).cps.toList:=by rw[qJ (c:=40) (l:=(toString p:Str).cps.toList) λm=>by have:=f _ m;lia,qJ λm=>by have:=f _ m;lia]
  rw[show WZ (.pI p l r)=40::(WZ l++32::((toString p:Str).cps.toList++32::(WZ r++[41])))from rfl,show WY (.pI p l r)=40::32::(WY l++32::((toString p:Str).cps.toList++32::(WY r++[32,41])))from rfl];simp only[br,List.flatMap_append,List.flatMap_nil];rw[a,b,g];simp[Fc]
def M7 {n:Int}(h:0<=n):(toString n:Str) ≠ ")"/\(toString n:Str) ≠ "(":=by
 have f:=Br h;refine⟨λe=>?_,λe=>?_⟩
 .have:=f 41<|e▸aI;lia
 .have:=f 40<|e▸aI;lia
end L2
namespace L2
open PySem PySem.Spec PyProof.Rows PyProof Builtin Builtin.Str
section
variable {X:Cx}{e:Expr}{pos:Pos}{fi:ao aj}{H0:Hp}{Kx:DX}
def JQ {f:jc}{w:De}{x:Str}{p:Pos}{k:Nat}{ps:ao Str}(Z:Rz X fi H0 Kx)(C:mG X.prog X.w X.K X.mg X.eB x k ps (iD f))(hr:iq k X.A)(hg:Gl X x)(ha:GH X e (tD w))(sY:(x==("__debug__" : Str))=false:=by decide)
 (he:starEach [e] X.env=[(false,eval e X.env)]:=by rfl):GH X (.Call (.Name x p) [e] [] pos) (tD<|NW fi H0 Kx f<|uc w BP):=by
 intro ee s σ H Q hn I h;refine eS Z.ex λE LX hp=>?_;refine jX C.ex λg fd F hm hk hb=>?_;refine fF h λφ ρ μ K Ee M k1 L=>?_;refine bu<|lg I hg hm ?_ sY;refine dU (h₀:=X.eB) I.ok.mod.Kn hk (Q:=_) ?_ he rfl;rw[he];refine cc (gg (ha ee s σ H (λv H1=>iD f [v] H1 Q E) hn I ⟨φ,ρ,μ,_,Ee,M,k1,λd eV fo v H1 k2 f1 M1 i1=>⟨fo,[d],eV,K,Kx,⟨v,[],rfl,i1,rfl⟩,M1,k2.2,L.mono f1,LX.mono<|M1.Bl k2.1⟩⟩) λu s1 h_=>fw h_ λv H1 I1 r1 q1=>?_);exact cD ⟨I1.om,xa F hr hb .nil hp I1 (.cons r1 .nil) q1⟩
end
end L2
namespace L2
open PySem PySem.Spec PyProof.Rows PyProof PySem.W.KIN PySem.NumText
end L2
namespace L2
open PySem PySem.Spec PyProof.Rows PyProof PySem.W.KIN PySem.NumText
end L2
namespace L2
open PySem PySem.Spec PyProof.Rows PyProof PySem.W.KIN PySem.NumText
end L2
namespace L2
open PySem PySem.Spec PyProof.Rows PyProof PySem.W.KIN PySem.NumText
end L2
namespace L2
open PySem PySem.Spec PyProof.Rows
end L2
namespace L2
open PySem PySem.Spec PyProof.Rows PySem.W
def MR {p:Array Nat}:p.getD i 0=p[i]?.getD 0:=by simp
section
variable {f:Nat->Nat}(hf:∀ i j,i<n->j<n->f i=f j->i=j)
def Up (f:Nat->Nat)(p:Array Nat)(m:Nat):Prop:=∀ i j,i<j->j<m->f (p.getD i 0)<f (p.getD j 0)
def Dw (f:Nat->Nat)(p:Array Nat)(m:Nat):Prop:=∀ i j,i<j->j<m->f (p.getD j 0)<f (p.getD i 0)
include hf
omit hf in
theorem Ha {p:Array Nat}(hm:m<=p.size)(hi:i<m):(kas_rev p 0 m).getD i 0=p.getD (m - 1 - i) 0:=by rw[MR,MR];unfold kas_rev;rw[getElem?_mirror_all hm,aD ⟨bp _,hi⟩,Nat.zero_add]
omit hf in
theorem abF (hm:m<=p.size)(u:Dw f p m):Up f (kas_rev p 0 m) m:=λi j W4 hj=>by rw[Ha hm (by lia),Ha hm hj];exact u _ _ (by lia) (by lia)
end
end L2
namespace L2
open PySem PySem.Spec PyProof.Rows PySem.W
end L2
namespace L2
open PySem PySem.Spec PyProof.Rows
section
variable {X:Cx}{ee:ao (aj×Obj)}{σ:St}{H:Hp}{φ:ao aj}{μ:MS}{key:D->ao Int}{kS Dd:aj}{oD:Obj}
abbrev kD (z:ao Int):D:=.lst (z.map .int)
structure LI (X:Cx)(ee:List (aj×Obj))(σ:St)(H:Hp)(φ:List aj)(μ:MS)(Dd kS:aj)(oD:Obj)(kz:List (List Int))(ws:List V)(ks:List ak)(H':Hp)(c:Nat)(s:ai):Prop where
 I:Inv X ee σ H' s
 hD:s.heap.get? Dd=some oD
 fD:nk X ee H' Dd
 hK:s.heap.get? kS=some (seqObj "list" ks.toArray c)
 fK:nk X ee H' kS
 fr:Fr φ H φ H'
 M:fG φ H' μ
 da:fe φ H' (kz.map kD) ws
 vs:fH ws ks
end
open PySem PySem.Spec PyProof.Rows PyProof
def kz:jG->ao Int
 |.num n=>[n]
 |.pI p l r=>p::(kz l++kz r)
section
variable {n:Int}{cs:ao Int}{ts:ao Tk}(S:yq n cs ts)
include S
end
section
variable {n:Int}{cs:ao Int}{ts:ao Tk}(S:yq n cs ts)
include S
variable {A:Nat}(la:Ii (l4 n cs) ts n A)(hc:cs.length<=2)
include la hc
end
section
variable {n:Int}{cs:ao Int}{ts:ao Tk}(S:yq n cs ts){A:Nat}(la:Ii (l4 n cs) ts n A)(hc:cs.length<=2)(L:ao jG)(hL:∀ t,t∈L↔WR (l4 n cs) ts (A+1) 0 (cs.length+1) t)
include S la hc hL
end
end L2
namespace L2
open PySem PySem.Spec PyProof.Rows
open Sem (wp)
section
variable {prog:ae}{w:af}{A:Around}{E:ak->ai->Prop}{h:Heap}{g:Array GenState}{d:Drawn}{t:Nat}{os:OsState}
variable {nm q:Str}{C N:aj}{bs bm EV:ao ak}{hdct:Bool}{sn:ao Str}{sub:ao ak}{ab:Bool}{col:aq Bool}{dd:aq aj}{k0 k1 k2 k3 k5:aq ak}{B Bn newId nid FN inN:String}{bmN:ao ak}
def yI (Fn:ExcBaseFacts Bn newId inN bmN)(W8:EV.contains (.type Bn)=true)(F:ExcBaseFacts B nid FN EV)(T:OwnTail h EV bm){mN:Str->aq ak}{rest:ao ak}{fI:aj}{oI:Obj}{Q:Fin->ai->Prop}
 (hC:h.get? C=some (excClassObj nm q C N bs bm hdct sn sub ab col dd k0 k1 k2 k3 k5 newId)) (hn:h.Ns N mN) (hi:mN "__init__"=some (.ref fI)) (hfI:h.get? fI=some oI) (hfc:oI.cls=.type "function")
 (hq:∀ h' e,Heap.MadeExcOf h h' e (.ref C) rest->wpAny (model prog w) A (call (.ref fI)<|.ref e::rest) (λr s'=>r=.none/\Q (.done<|.ret<|.ref e) s') E ⟨h',g,d,t,os⟩) (hrest:rest.length<=sizeLine):
 wpAny (model prog w) A (Builtin.«type.__call__» ⟨.ref C::rest,[]⟩) Q E ⟨h,g,d,t,os⟩:=by
 repeat (first|with_reducible refine ck hC ?_|with_reducible refine wpAny_madeBy_exc hC ?_|wp_step)
 refine codeAny_call_builtin_code (Code.quiet_builtin _ Fn.quiet)<|wpAny_check_new_subU Fn W8 T hC ?_;refine codeAny_exc_new_subU Fn W8 F T hC ?_ hrest;show wpAny _ _ _ _ _ _;have kp:∀ b o,h.get? b=some o->((h.push { cls:=.type "tuple",data:=.seq rest.toArray}).push { cls:=.ref C,data:=.fields #[.ref h.objs.size,.none,.none,.none,.bool false,.none]}).get? b=some o:=λb o e=>kJ _<|kJ _ e;have hC₁:=kp _ _ hC;have hfI₁:=kp _ _ hfI;have hn₁:=Heap.Ns.keeps hn kp;have T₁:=T.keeps kp;have Zf:((h.push { cls:=.type "tuple",data:=.seq rest.toArray}).push
  { cls:=.ref C,data:=.fields #[.ref h.objs.size,.none,.none,.none,.bool false,.none]}).get? (h.objs.size+1)=some
  { cls:=.ref C,data:=.fields #[.ref h.objs.size,.none,.none,.none,.bool false,.none]}:=by heap_get
 have hcC:(Value.ref C::bm).contains (.ref C)=true:=by simp
 unfold isInstance;repeat (first|with_reducible refine ck Zf ?_|(with_reducible refine dj hC₁ ?_;rw[hcC])|wp_step)
 show wpAny _ _ (typeLookup (.ref C) _) _ _ _;refine wpAny_typeLookup_tail hC₁ hn₁ T₁ F.mroIs F.init.lookup ?_;rw[hi];refine bo<|fb ?_;unfold bindSpecial;refine fb<|wpAny_typeOf (T:= "function") ⟨_,hfI₁,hfc⟩ ?_;rw[aD (by decide)];refine av (fb<|bf (hq _ (h.objs.size+1) ⟨kp,Heap.get?_none_of_le<|Nat.le_succ _,h.objs.size,Zf,Heap.get?_none_of_le<|au _,?_⟩) (λr s' hr=>?_) λ_ _ x=>x)
 .exact kJ _ (Heap.get?_push_at rfl rfl)
 .obtain⟨rfl,hQ⟩:=hr;wp_walk;exact hQ
def N6 (Fn:ExcBaseFacts Bn newId inN bmN)(W8:EV.contains (.type Bn)=true)(F:ExcBaseFacts B nid FN EV)(T:OwnTail h EV bm){mN:Str->aq ak}{rest:ao ak}{fI:aj}{oI:Obj}{Q:ak->ai->Prop}
 (hC:h.get? C=some (excClassObj nm q C N bs bm hdct sn sub ab col dd k0 k1 k2 k3 k5 newId)) (hn:h.Ns N mN) (hi:mN "__init__"=some (.ref fI)) (hfI:h.get? fI=some oI) (hfc:oI.cls=.type "function")
 (hq:∀ h' e,Heap.MadeExcOf h h' e (.ref C) rest->wpAny (model prog w) (A.under<|.builtin "type.__call__" ⟨.ref C::rest,[]⟩) (call (.ref fI)<|.ref e::rest) (λr s'=>r=.none/\Q (.ref e) s') E ⟨h',g,d,t,os⟩) (hrest:rest.length<=sizeLine):
 wpAny (model prog w) A (call (.ref C) rest) Q E ⟨h,g,d,t,os⟩:=by
 have f1:=tc_lookup;have f2:=tc_bind<|.ref C;have hT:(⟨h,g,d,t,os⟩:ai).TypeIs (.ref C) "type":=⟨_,hC,rfl⟩;refine dz<|codeAny_of_tree ?_;show wpAny _ _ (callAny (.ref C) _) _ _ _;repeat (any_goals (first|assumption|with_reducible refine ck hC ?_|wp_step))
 refine⟨rfl,?_⟩;refine codeAny_call_builtin_at (Code.quiet_builtin _<|by decide +kernel) entry_typeCall (wpAny_check_type_call_sub hC<|yI (hrest:=hrest) Fn W8 F T hC hn hi hfI hfc λh' e hm=>?_);exact hq h' e hm
end
end L2
namespace L2
open PySem PySem.Spec PyProof.Rows PySem.W Builtin Builtin.ObjectAttr
def LR:ao ak->Bool
 |.ref _::r=>LR r
 |l=>l==iU
theorem vc (self:ak):∀ {l:ao ak},LR l=true->refuseLoop self "__setattr__" l=pure ()/\l.contains (.type "object")=true
 |[],h=>by cases h
 | v::r,h=>by
  have go:v::r=iU->refuseLoop self "__setattr__" (v::r)=pure ()/\(v::r).contains (.type "object")=true:=λe=>by rw[e];exact⟨by kernel_rfl,by decide +kernel⟩
  cases v with
  | ref c =>obtain⟨a,b⟩:=vc self (l:=r) h;exact⟨(refuseLoop_ref _ _ _ _).trans a,by rw[cW,b,d8]⟩
  |_=>exact go (beq_iff_eq.mp h)
structure yp (K:Frag)(C:aj):Prop where
 sa:findIn K (.ref C) "__setattr__"=some (some<|.builtin "object.__setattr__")
 ps:(clsIn K C).any (λcd=>LR cd.mro)=true
 hd:hasDictIn K C=true
section
variable {prog:ae}{w:af}{A:Around}{E:ak->ai->Prop}{s:ai}{K:Frag}{x C t:aj}{name:Str}{v:ak}
def Yj {R:Result->ai->Prop}{od:aq aj}{oD:aq Obj}{tk:Tok}(X:K.In s.heap)(I:InstAt s.heap x (pZ C od t) C oD)(c:yp K C)(ht:takerIn K C name=some none)
 (h:∀ b,wpAny (model prog w) A.in1 (storeInOwnDict (.ref x) (.ref C) (.str name tk) name v b)
   (λfin s'=>match fin with|.done f=>R (.ok f) s'|.again c'=>c'.quiet=true/\codeAny (model prog w) A c' R s') (λe s'=>R (.error e) s') s):
 codeAny (model prog w) A (.call (.builtin "object.__setattr__") ⟨[.ref x,.str name tk,v],[]⟩) R s:=by
 have SF:=PySem.F.store_object;obtain⟨cd,hc,hp⟩:=any_some c.ps;obtain⟨hr,ho⟩:=vc (.ref x) hp;have ne:cd.mro.isEmpty=false:=by cases q:cd.mro with|nil=>rw[q]at ho;cases ho|cons _ _=>rfl
 have Lt:=I.type (M:=model prog w);have sub:Looks (model prog w) s.heap (isInstance (.ref x)<|.type "object") true:=Lt.andThen (looks_mroIn X (by delta mroIn;rw[hc,Option.bind_some,az (by rw[ne];decide),ho]));refine dc SF.slot.plain SF.entry<|@check_slot (model prog w) _ _ s "object.__setattr__" "object" "__setattr__" (.ref x) [.str name tk,v] [] _ SF.kind SF.split sub (SF.args (.ref x) (.str name tk) v) ?_;obtain⟨attr,ha,hr2⟩:=Option.bind_eq_some_iff.mp ht;have L3:Looks (model prog w) s.heap (storeTaker? attr) none:=by
  cases attr with
  |none=>exact .now
  | some a =>obtain⟨b,hb,e⟩:=Option.map_eq_some_iff.mp hr2;refine(looks_takesIn X hb).andThen ?_;cases b<;>first|exact .now|cases e
 rw[osa_eq,refuse_eq];refine fb<|fb<|Lt.here<|fb<|((looks_clsIn X hc).andThen .now:Looks (model prog w) s.heap (mroOf<|.ref C) cd.mro).here ?_;rw[hr];exact av (fb<|Lt.here<|fb<|(looks_findIn X ha).here<|fb<|L3.here<|h _)
def Nl {Q:Unit->ai->Prop}(X:K.In s.heap)(he:s.heap.get? x=some (pZ C none t))(c:yp K C)(ht:takerIn K C name=some none)
 (h:∀ h',h'.get? x=some (pZ C (some s.heap.objs.size) t)->h'.Ns1 s.heap.objs.size (λy=>if y=name then some v else none)->(∀ b o,b≠x->s.heap.get? b=some o->h'.get? b=some o)->Q () {s with heap:=h',toks:=s.toks+2}):
 wpAny (model prog w) A (setAttr (.ref x) name v) Q E s:=by
 have I:InstAt s.heap x (pZ C none t) C none:=⟨he,rfl,rfl,trivial⟩;refine set_plain X I c.sa (Yj (s:={s with toks:=s.toks+1}) X I c ht λb=>?_);obtain⟨cd,hc,DM⟩:=any_some c.hd;refine fb<|av<|fb<|fb<|wpAny_loadPart he<|fb<|Looks.here (s:={s with toks:=s.toks+1}) (looks_clsIn X hc) ?_;rw[DM,az (by decide)];show wpAny _ _ (if(!true||!typeHasDict (.ref C))=true then _ else _) _ _ _;rw[az (by simp[typeHasDict])];have hx1:=kJ { cls:=.type "dict",data:=.dict #[]} he;refine fb<|wpAny_alloc'<|fb<|wpAny_update' hx1<|av ?_;have xs:x≠s.heap.objs.size:=aF<|kG he;obtain⟨f,hf⟩:∃ f:Obj->Obj,f=λo=>{ cls:=o.cls,dict:=some s.heap.objs.size,data:=o.data,slots:=o.slots}:=⟨_,rfl⟩;rw[<- hf];have gd:((s.heap.push { cls:=.type "dict",data:=.dict #[]}).update x f).get? s.heap.objs.size=some { cls:=.type "dict",data:=.dict #[]} :=
  (Heap.get?_update_ne _ _ _ _ xs.symm).trans (Heap.get?_push_at rfl rfl)
 have gx:((s.heap.push { cls:=.type "dict",data:=.dict #[]}).update x f).get? x=some (pZ C (some s.heap.objs.size) t):=by rw[bt _ hx1 (by rw[hf];rfl),hf];rfl
 have nd:=Heap.Ns1.of_empty (h:=(s.heap.push { cls:=.type "dict",data:=.dict #[]}).update x f) (a:=s.heap.objs.size) ⟨_,#[],_,gd,rfl,λe he=>absurd he<|by simp,λ_=>rfl⟩;refine fb (av<|fb<|wpAny_nsSet1 (s:=⟨(s.heap.push { cls:=.type "dict",data:=.dict #[]}).update x f,s.gens,s.drawn,s.toks+1,s.os⟩) nd λh' FT uM=>?_);refine tj (FT.count<|Within.cons name v Within.nil) λoD esD epD VH Zh JE=>?_;refine fb (wpAny_lookBehind VH (Zh▸pastItsLine_dict (aG JE (by rw[aT,List.length_nil,sizeLine_eq];lia))) ?_);exact av (h _ ((uM.2 x xs).trans gx) FT λb o hb e=>(uM.2 b<|aF<|kG e).trans<|(Heap.get?_update_ne _ _ _ _ hb).trans<|kJ _ e)
def Nk {Q:Unit->ai->Prop}{dx:aj}{m:Str->aq ak}{ns:ao Str}(X:K.In s.heap)(he:s.heap.get? x=some (pZ C (some dx) t))(hn:s.heap.Ns1 dx m)(ne:dx≠x)(c:yp K C)(ht:takerIn K C name=some none)(hw:Within m ns)(hsz:ns.length<=1000)
 (h:∀ h',h'.Ns1 dx (λy=>if y=name then some v else m y)->Heap.SameBut dx s.heap h'->Q () {s with heap:=h',toks:=s.toks+2}):
 wpAny (model prog w) A (setAttr (.ref x) name v) Q E s:=by
 obtain⟨oD,esD,epD,VH,_⟩:=id hn;have I:InstAt s.heap x (pZ C (some dx) t) C (some oD):=⟨he,rfl,rfl,VH⟩;refine set_plain X I c.sa (Yj (s:={s with toks:=s.toks+1}) X I c ht λb=>?_);obtain⟨cd,hc,DM⟩:=any_some c.hd;refine fb<|av<|fb<|fb<|wpAny_loadPart he<|fb<|Looks.here (s:={s with toks:=s.toks+1}) (looks_clsIn X hc) ?_;rw[DM,az (by decide)];refine av (a:=some dx)<|fb<|av<|fb ?_;refine wpAny_nsSet1 (s:={s with toks:=s.toks+1}) hn λh' FT uM=>?_;refine tj (FT.count<|Within.cons name v hw) λoD esD epD VH Zh JE=>?_;refine fb (wpAny_lookBehind VH (Zh▸pastItsLine_dict (aG JE (by rw[aT,sizeLine_eq];lia))) ?_);exact av (h _ FT uM)
def QO {Q:ak->ai->Prop}{expr:Bool}{oD:Obj}(X:K.In s.heap)(I:InstAt s.heap x (pZ C (some dx) t) C (some oD))(hl:lookIn name oD=some (some v))(c:yp K C)(f:RI K C)(hn:findIn K (.ref C) name=some none)(hv:handedIn v=true)(h:Q v { s with toks:=s.toks+1}):
 wpAny (model prog w) A (getAttr (.ref x) name expr) Q E s:=by
 obtain⟨hh,g,d,tk,os⟩:=s;have L0:=I.type (M:=model prog w);have L1:=de (M:=model prog w) X f.ga;have L2:=de (M:=model prog w) X f.gn;have LB:=W.looks_mroIn (M:=model prog w) X f.mb;have L3:=W.looks_find (M:=model prog w) X I<|findObj_own c.hd hn rfl hl;unfold getAttr getAttrBy;refine fb<|wpAny_mkText<|bo<|fb<|L0.at<|fb<|L1.at ?_;show wpAny _ _ (getAttrByItsOwn _ _ _ _ _ _) _ _ _;unfold getAttrByItsOwn;refine fb<|show wpAny _ _ (typeLookup (.ref C) "__getattr__") _ _ _ from L2.at ?_;have ga:=PySem.F.attr_ValueError.ga;have LI:Looks (model prog w) hh (isInstance (.ref x)<|.type "BaseException") true:=L0.andThen LB;have hk:builtinKind "BaseException.__getattribute__"=some .slot:=by decide +kernel
 have FO:splitId "BaseException.__getattribute__"=some ("BaseException","__getattribute__"):=by decide +kernel
 have ha:=F.args_bexc_ga (.ref x)<|.str name tk;have fin:∀ R:Result->ai->Prop,R (.ok<|.ret v) ⟨hh,g,d,tk+1,os⟩->codeAny (model prog w) A (.call (.builtin "BaseException.__getattribute__") ⟨[.ref x,.str name tk],[]⟩) R ⟨hh,g,d,tk+1,os⟩:=λR z=>by
  refine dc ga.plain F.entry_bexc_ga ?_;show wpAny _ _ (checkBuiltinCall "BaseException.__getattribute__" ⟨[.ref x,.str name tk],[]⟩) _ _ _;simp only[checkBuiltinCall,hk,FO];refine fb<|LI.at ?_;simp only[if_true,Bool.not_true,cz,dQ];refine dN ha ?_;show wpAny _ _ (Builtin.«object.__getattribute__» ⟨[.ref x,.str name tk],[]⟩) _ _ _;unfold Builtin.«object.__getattribute__»
  refine fb<|av<|fb<|av<|fb<|L0.at<|fb<|L3.at ?_;exact av z
 refine fb<|wpAny_attempt<|bo ?_;have hb:callGetattribute (.ref x) (.str name tk) (.builtin "BaseException.__getattribute__") expr=boundAndCalled (.builtin "BaseException.__getattribute__") (.ref x) (.str name tk):=by cases expr<;>rfl
 rw[hb];delta boundAndCalled;refine fb<|dN (ga.bind<|.ref x)<|dz<|fin _ ?_;exact handed_on hv h
end
end L2
namespace L2
open PySem PySem.Spec PyProof.Rows PySem.W
theorem oz.at {h h':Heap}(x:oz a fs h)(k:∀ o,h.get? a=some o->h'.get? a=some o):oz a fs h':=let ⟨m,n,r⟩:=x;⟨m,n.at k,r⟩
def Sh {P:ae}{w:af}{H:Hp}{h:Heap}(x:oz a fs h):iQ P w H h a (.ext<|oz a fs):=⟨x,let ⟨_,⟨o,_,_,e,_⟩,_⟩:=x;⟨o,e⟩,λ_ _ x k=>x.at k⟩
def Yr {P:ae}{w:af}{H:Hp}{h:Heap}(x:Cr e C od t h):iQ P w H h e (.ext<|Cr e C od t):=⟨x,⟨_,x⟩,λ_ _ x k=>k _ x⟩
section
variable {X:Cx}{ee:ao (aj×Obj)}{σ:St}{H:Hp}{s:ai}{A:Around}{E:ak->ai->Prop}{e C t dx:aj}{f:Str}{y:V}{u:ak}{fs:ao (Str×V)}
def Xl {Q:Unit->ai->Prop}(I:Inv X ee σ H s)(he:H e=some (.ext<|Cr e C none t))(c:yp X.K C)(ht:takerIn X.K C f=some none)(ry:fM y u)
 (h:∀ dx s',dx≠e->H dx=none->Inv X ee σ (upd (upd H dx<|.ext<|oz dx [(f,y)]) e<|.ext<|Cr e C (some dx) t) s'->Q () s'):wpAny (model X.prog X.w) A (setAttr (.ref e) f u) Q E s:=by
 have hx:s.heap.get? e=some (pZ C none t):=(I.fB e _ he).1;refine Nl I.om hx c ht λh' g1 g2 g3=>?_;have ne:s.heap.objs.size≠e:=bh<|kG hx;obtain⟨hA,eA⟩:∃ hA:Heap,hA=h'.update e λ_=>pZ C none t:=⟨_,rfl⟩;have aE:hA.get? e=some (pZ C none t):=by rw[eA,bt _ g1 rfl]
 have aN:∀ b,b≠e->hA.get? b=h'.get? b:=λb hb=>by rw[eA];exact Heap.get?_update_ne _ _ _ _ hb
 have I1:=I.laid (a:=s.heap.objs.size) (o:=.ext<|oz s.heap.objs.size [(f,y)]) (h':=hA) (t':=s.toks) (λb o q=>by
  by_cases hb:b=e
  .subst hb;rw[aE,<- q,hx]
  .rw[aN b hb];exact g3 b o hb q) (au _) (Sh ⟨_,g2.at λo q=>(aN _ ne).trans q,λg=>?_,?_⟩)
 .have I2:=I1.write (x:=e) (e:=e) (o:=.ext<|Cr e C (some s.heap.objs.size) t) (h':=h') (t':=s.toks+2) (by rw[e9 ne.symm,he];trivial) (.inl rfl) (λb o hb q=>(aN b hb).symm.trans q) ⟨_,g1⟩<|Yr g1;exact h _ _ ne (I.fB.fresh<|au _) I2
 .rw[show[(f,y)]=lT f y []from rfl,oG];split
  .exact ry
  .trivial
 .exact Within.cons f u Within.nil
def Xk {Q:Unit->ai->Prop}(I:Inv X ee σ H s)(he:H e=some (.ext<|Cr e C (some dx) t))(hd:H dx=some (.ext<|oz dx fs))(ne:dx≠e)(c:yp X.K C)(ht:takerIn X.K C f=some none)(hl:fs.length<1000)(ry:fM y u)
 (h:∀ s',Inv X ee σ (upd H dx<|.ext<|oz dx<|lT f y fs) s'->Q () s'):wpAny (model X.prog X.w) A (setAttr (.ref e) f u) Q E s:=by
 have hx:s.heap.get? e=some (pZ C (some dx) t):=(I.fB e _ he).1;obtain⟨m,n,r,w⟩:oz dx fs s.heap:=(I.fB dx _ hd).1;refine Nk I.om hx n ne c ht w (by rw[jf];lia) λh' n2 hs=>?_;have I2:=I.write (x:=dx) (e:=dx) (o:=.ext<|oz dx<|lT f y fs) (h':=h') (t':=s.toks+2) (by rw[hd];trivial) (.inl rfl) (λb o hb q=>(hs.2 b hb).trans q) (let ⟨o,_,_,q,_⟩:=n2;⟨o,q⟩) (Sh ⟨_,n2,λg=>?_,λg hg=>?_⟩)
 .exact h _ I2
 .rw[oG];split
  .exact ry
  .exact r g
 .by_cases q:g=f
  .rw[q];exact(pf f y fs).1
  .exact(pf f y fs).2 g (w g λz=>hg (by show(if g=f then some u else m g)=none;rw[az q,z]))
def xget {b:Bool}{Q:ak->ai->Prop}(I:Inv X ee σ H s)(he:H e=some (.ext<|Cr e C (some dx) t))(hd:H dx=some (.ext<|oz dx fs))(c:yp X.K C)(fx:RI X.K C)(hn:findIn X.K (.ref C) f=some none)(hl:fs.lookup f=some y)
 (h:∀ u s',Inv X ee σ H s'->fM y u->Q u s'):wpAny (model X.prog X.w) A (getAttr (.ref e) f b) Q E s:=by
 have hx:s.heap.get? e=some (pZ C (some dx) t):=(I.fB e _ he).1;obtain⟨m,n,r,w⟩:oz dx fs s.heap:=(I.fB dx _ hd).1;obtain⟨od,ho,hk⟩:=zw n;obtain⟨u,hu,ru⟩:=p9.some_of (v:=y) (o:=m f)<|hl▸r f;exact QO (v:=u) I.om ⟨hx,rfl,rfl,ho⟩ (by rw[hk,hu]) c fx hn (zB ru) (h u _ (I.tok _) ru)
def Inv.TF (I:Inv X ee σ H s){φ:Heap->Prop}(hn:H e=none)(h0:X.s₀.heap.get? e=none)(hl:e≠X.env.locals)(hc:∀ y a,X.env.cells.lookup y=some a->a≠e)(hp:∀ p∈X.pn++ee,p.1≠e)(x:∀ H:Hp,iQ X.prog X.w H s.heap e (.ext φ)):
 Inv X ee σ (upd H e<|.ext φ) s:=by
 have ne0:∀ b o,X.s₀.heap.get? b=some o->b≠e:=λb o q z=>by rw[z,h0]at q;cases q
 have ne1:∀ b o,H b=some o->b≠e:=λb o q z=>by rw[z,hn]at q;cases q
 have st:∀ b o,H b=some o->upd H e (.ext φ) b=some o:=λb o q=>by rw[e9 (ne1 b o q)];exact q
 refine⟨I.ok,I.os,I.bare,⟨I.eB.keep,I.eB.slot,λb o q n hx=>?_,I.eB.there,λb xs q=>st _ _<|I.eB.sD b xs q,λb o xs q=>st _ _<|I.eB.sd b o xs q,λb ps q=>let ⟨m,z⟩:=I.eB.sE b ps q;⟨m,st _ _ z⟩⟩,I.loc,I.cell,?_,λy a q=>?_,λp hq=>?_,λa o q=>?_,I.len⟩
 .rw[e9 (ne0 b o q)];exact I.eB.free b o q n hx
 .rw[e9 hl.symm];exact I.free
 .rw[e9 (hc y a q)];exact I.ky y a q
 .obtain⟨h1,h2,h3⟩:=I.pin p hq;exact⟨h1,by rw[e9 (hp p hq)];exact h2,h3⟩
 .by_cases z:a=e
  .subst z;rw[eZ]at q;cases q;exact x _
  .rw[e9 z]at q;exact(I.fB a o q).uu (λ_ _ _ k=>k) (λb k=>st _ _ k) λb xs k=>st _ _ k
def Ec (H:Hp)(e:aj):Hp:=λb=>if b=e then none else H b
def we {b:aj}(h:b≠e):Ec H e b=H b:=az h
def Inv.del (I:Inv X ee σ H s){φ:Heap->Prop}(he:H e=some (.ext φ)):Inv X ee σ (Ec H e) s:=by
 have nn:∀ b,H b=none->Ec H e b=none:=λb q=>by
  by_cases z:b=e
  .exact aD z
  .rw[we z];exact q
 have st:∀ b o,H b=some o->(∀ φ,o≠.ext φ)->Ec H e b=some o:=λb o q ne=>by rw[we λz=>ne φ (by rw[z,he]at q;exact(aW q).symm)];exact q
 refine⟨I.ok,I.os,I.bare,⟨I.eB.keep,I.eB.slot,λb o q n hx=>nn b<|I.eB.free b o q n hx,I.eB.there,λb xs q=>st _ _ (I.eB.sD b xs q) (λ_ z=>nomatch z),λb o xs q=>st _ _ (I.eB.sd b o xs q) (λ_ z=>nomatch z),λb ps q=>let ⟨m,z⟩:=I.eB.sE b ps q;⟨m,st _ _ z λ_ z=>nomatch z⟩⟩,I.loc,I.cell,nn _ I.free,λy a q=>nn _<|I.ky y a q,λp hq=>?_,λa o q=>?_,I.len⟩
 .obtain⟨h1,h2,h3⟩:=I.pin p hq;exact⟨h1,nn _ h2,h3⟩
 .have q:H a=some o:=by
   by_cases z:a=e
   .rw[show Ec H e a=none from aD z]at q;cases q
   .rwa [we z]at q
  exact(I.fB a o q).uu (λ_ _ _ k=>k) (λb k=>st _ _ k λ_ z=>nomatch z) λb xs k=>st _ _ k λ_ z=>nomatch z
end
end L2
namespace L2
open PySem PySem.Spec PyProof.Rows PySem.W
structure MkX (K:Frag)(C f:aj):Prop where
 ex:∃(bm:List ak) (ns:aj) (nm qn:Str) (bs:List ak) (hd:Bool) (sn:List Str) (sub:List ak) (ab:Bool) (col:Option Bool) (dd:Option aj) (k0 k1 k2 k3 k5:Option ak),
  K.lookup C=some (excClassObj nm qn C ns bs bm hd sn sub ab col dd k0 k1 k2 k3 k5 "ValueError.__new__")/\nsOkIn K ns=true/\nsIn K ns "__init__"=some (some<|.ref f)/\tailIn K iU bm=true
 fn:isFn K (.ref f)=true
 kp:keepIn K (.ref C)=true
def zu (K:Frag)(C f:aj):Bool:=match K.lookup C with
 | some ⟨.type "type",_,.cls cd,sl⟩=>(match cd.mro,sl.toList with
  |.ref C'::bm,[_,_,_,_,some (.builtin n),_]=>C'==C&&n == "ValueError.__new__"&&!cd.hasDel&&tailIn K iU bm&&nsOkIn K cd.ns&&nsIn K cd.ns "__init__"==some (some<|.ref f)
  |_,_=>false)
 |_=>false
def Vd {K:Frag}(q:zu K C f=true)(h1:isFn K (.ref f)=true)(h2:keepIn K (.ref C)=true):MkX K C f:=by
 refine⟨?_,h1,h2⟩;delta zu at q;split at q
 .rename_i dd cd sl ho;split at q
  .rename_i C' bm k0 k1 k2 k3 n k5 hm hs;simp at q;obtain⟨⟨⟨⟨⟨rfl,rfl⟩,ML⟩,ht⟩,fB⟩,ME⟩:=q;obtain⟨nm,bs,mro,ns,qn,hd,sn,sub,ab,col,del⟩:=cd;subst hm ML;have Y7:sl=#[k0,k1,k2,k3,some (.builtin "ValueError.__new__"),k5]:=by obtain⟨l⟩:=sl;simp only at hs;rw[hs]
   subst Y7;exact⟨bm,ns,nm,qn,bs,hd,sn,sub,ab,col,dd,k0,k1,k2,k3,k5,ho,fB,ME,ht⟩
  .cases q
 .cases q
def FA {K:Frag}{h:Heap}{N:aj}{mg:Str->aq ak}{n:Str}{v:ak}(X:K.In h)(G:h.Ns N mg)(e:nsIn K N n=some (some v)):mg n=some v:=by
 obtain⟨o,es,ep,ho,hd,_,hf⟩:=G;unfold nsIn at e;split at e
 .rename_i c d yD n' sl q;have:=X _ _ q;rw[ho]at this;cases this;cases hd;split at e
  .rename_i en he;cases e;rw[<- hf];unfold nsFind findBy;rw[<- Array.find?_toList,he];rfl
  .split at e<;>cases e
 .cases e
section
variable {X:Cx}{CX:Kk}{k:Nat}{f C:aj}{fd:ah}{ps:ao Str}{sp:Sp}{dvs:ao V}{ds:ao ak}{E:XK}
def II {ee:ao (aj×Obj)}{σ:St}{H:Hp}{s:ai}{Q:VK}{us:ao ak}{vs:ao V}(hX:X.ex=[])(M:MkX X.K C f)(F:fA X.prog X.w X.K X.mg X.eB CX k f fd ps sp)(hr:iq (k+1) X.A)(hb:Binds X.K fd ps ds)(hd:fH dvs ds)
 (hx:Passes CX X E) (I:Inv X ee σ H s) (r:fH vs us) (hlen:vs.length<=sizeLine)
 (h:∀ e t,H e=none->X.s₀.heap.get? e=none->sp (.ref e::(vs++dvs)) (upd H e<|.ext<|Cr e C none t) (λv H2=>v=.gw/\Q (.ref e) H2) E):
 wpAny (model X.prog X.w) X.A (call (.ref C) us) (EP X ee σ Q) X.xe s:=by
 obtain⟨bm,ns,nm,qn,bs,hdct,sn,sub,ab,col,dd,k0,k1,k2,k3,k5,hC,fB,ME,ht⟩:=M.ex;have hn:=Heap.Ns.of_isNs<|isNs_of_in I.om fB;have hf:=M.fn;obtain⟨oI,hoI,hcI⟩:∃ oI,X.K.lookup f=some oI/\oI.cls=.type "function":=Option.map_eq_some_iff.mp<|beq_iff_eq.mp hf;refine N6 ar (by decide +kernel) ar (tail_of_in I.om ht) (I.om _ _ hC) hn (FA I.om hn ME) (I.om _ _ hoI) hcI (λh' e m=>?_)<|r.length▸hlen;obtain⟨n1,n2,n3,n4,n5⟩:=I.FE hX m.new;obtain⟨t,he,_,_⟩:=m.there;have I1:=(I.eI (t':=s.toks) m.keeps).TF n1 n2 n3 n4 n5 λH=>Yr (C:=C) (od:=none) (t:=t) he;have hq:=h e t n1 n2;have r2:fH (V.ref e::(vs++dvs)) (Value.ref e::(us++ds)):=.cons rfl (r.append hd);have hl:(Value.ref e::us++ds).length=ps.length:=by have e:=r2.length;rw[F.len _ _ _ _ hq]at e;exact e.symm
 refine dz (dR (F.run _ X.stack _ _ ⟨Value.ref e::us,[]⟩ (Value.ref e::(us++ds)) _ _ E (hr.make C us []) (I1.QQ.make C us []) (hb _ (Value.ref e::us) I1.om hl) r2 hq) λr s' DJ=>?_);cases r with
 |error e=>exact hx ee σ _ _ e s' I1 DJ
 | ok fl =>
  cases fl with
  | ret u =>refine jX (I1.after DJ) λv H' I3 rv ev q3=>?_;subst ev;exact⟨rv,⟨V.ref e,H',I3,rfl,q3⟩⟩
  |next=>exact False.elim DJ
  |brk=>exact False.elim DJ
  |cont=>exact False.elim DJ
end
def sX0 (K:Frag)(ta tv:TE)(C:aj)(f:Str):TS:=λD σ H=>tv σ H λy H1=>ta σ H1 λx H2=>∃ e t,x=.ref e/\H2 e=some (.ext<|Cr e C none t)/\yp K C/\takerIn K C f=some none /\
 ∀ dx,dx≠e->H2 dx=none->D.nx σ (upd (upd H2 dx<|.ext<|oz dx [(f,y)]) e<|.ext<|Cr e C (some dx) t)
def sX1 (K:Frag)(ta tv:TE)(C:aj)(f:Str):TS:=λD σ H=>tv σ H λy H1=>ta σ H1 λx H2=>∃ e dx t fs,x=.ref e/\H2 e=some (.ext<|Cr e C (some dx) t)/\H2 dx=some (.ext<|oz dx fs)/\dx≠e/\yp K C/\takerIn K C f=some none/\fs.length<1000 /\
 D.nx σ (upd H2 dx<|.ext<|oz dx<|lT f y fs)
section
variable {X:Cx}{o e value:Expr}{f:Str}{pos pos' vH:Pos}{ta tv:TE}{C:aj}
def Yd (ha:PE X o ta)(hv:PE X value tv)(hs:swapsWith value (some<|.Attribute o f pos') pos.line X.env=pure false):PS X (.Assign [.Attribute o f pos'] value pos) (sX0 X.K ta tv C f):=by intro ee s σ H D I h;refine cI (gg (hv ee s σ H _ I h) λu s1 h_=>fw h_ λy H1 I1 ry q=>gg (ha ee s1 σ H1 _ I1 q) λov s2 MC=>?_) hs;obtain⟨x,H2,I2,rx,e,t,ex,he,c,ht,q2⟩:=MC;subst ex;obtain rfl:ov=Value.ref e:=rx;exact Xl I2 he c ht ry λdx s3 d1 d2 I3=>⟨σ,_,I3,q2 dx d1 d2⟩
def Yc (ha:PE X o ta)(hv:PE X value tv)(hs:swapsWith value (some<|.Attribute o f pos') pos.line X.env=pure false):PS X (.Assign [.Attribute o f pos'] value pos) (sX1 X.K ta tv C f):=by intro ee s σ H D I h;refine cI (gg (hv ee s σ H _ I h) λu s1 h_=>fw h_ λy H1 I1 ry q=>gg (ha ee s1 σ H1 _ I1 q) λov s2 MB=>?_) hs;obtain⟨x,H2,I2,rx,e,dx,t,fs,ex,he,hd,ne,c,ht,hl,q2⟩:=MB;subst ex;obtain rfl:ov=Value.ref e:=rx;exact Xk I2 he hd ne c ht hl ry λs3 I3=>⟨σ,_,I3,q2⟩
end
end L2
namespace L2
open PySem PySem.Spec PyProof.Rows PySem.W
section
variable {M:Model}{prog:ae}{w:af}{A:Around}{E:ak->ai->Prop}{s:ai}{env:Env}
variable {nm q:Str}{C N:aj}{bs bm:ao ak}{hdct:Bool}{sn:ao Str}{sub:ao ak}{ab:Bool}{col:aq Bool}{dd:aq aj}{k0 k1 k2 k3 k5:aq ak}{newId:String}
def IL {x:Sem ak}{Q:Flow->ai->Prop}(iF:bm.contains (.type "BaseException")=true)(hh:A.handled=none)
 (h:wpAny (model prog w) A x (λv s₁=>∃ e od t,v=.ref e/\s₁.heap.get? C=some (excClassObj nm q C N bs bm hdct sn sub ab col dd k0 k1 k2 k3 k5 newId)/\s₁.heap.get? e=some (pZ C od t)/\E (.ref e) s₁) E s):
 wpAny (model prog w) A (raiseStmt env (some x) none) Q E s:=by
 have hcB:(Value.ref C::bm).contains (.type "BaseException")=true:=by rw[cW,iF,d8]
 unfold raiseStmt;refine fb (bf h (λv s₁ h₁=>?_) λ_ _ x=>x);obtain⟨e,od,t,rfl,hC,he,hE⟩:=h₁;obtain⟨hp,g,d,tk,os⟩:=s₁;delta pZ at he;repeat (first|with_reducible refine ck he ?_|with_reducible refine ck hC ?_|(with_reducible refine dj hC ?_;rw[hcB])|wp_step)
 exact wpAny_raiseNew_none hh hE
def GG {x:Expr}{pos:Pos}{Q:Flow->ai->Prop}(iF:bm.contains (.type "BaseException")=true)(hh:A.handled=none)
 (h:wpAny (model prog w) A (eval x env) (λv s₁=>∃ e od t,v=.ref e/\s₁.heap.get? C=some (excClassObj nm q C N bs bm hdct sn sub ab col dd k0 k1 k2 k3 k5 newId)/\s₁.heap.get? e=some (pZ C od t)/\E (.ref e) s₁) E s):
 wpAny (model prog w) A (exec (.Raise (some x) none pos) env) Q E s:=by
 rw[arm_exec_Raise];exact fb (c4<|IL iF hh<|fb<|bf h (λv s₁ h₁=>fb<|c4<|av h₁) λ_ _ x=>x)
end
end L2
namespace L2
open PySem PySem.Spec PyProof.Rows PySem.W
def T7 (C:aj)(n1 n2:Str):Sp:=λvs H Q _=>∃ e t a b,vs=[.ref e,a,b]/\H e=some (.ext<|Cr e C none t) /\
 ∀ dx H2,dx≠e->H dx=none->H2 e=some (.ext<|Cr e C (some dx) t)->H2 dx=some (.ext<|oz dx<|lT n2 b [(n1,a)])->(∀ b,b≠e->b≠dx->H2 b=H b)->Q .gw H2
structure J1 (P:ae)(w:af)(K:Frag)(mg:Str->Option ak)(eB:Heap)(x:Str)(C:aj)(n1 n2:Str)(k:Nat):Prop where
 ex:∃ f fd ps,fA P w K mg eB nr k f fd ps (T7 C n1 n2)/\MkX K C f/\mg x=some (.ref C)/\Binds K fd ps []
section
variable {X:Cx}{e e2:Expr}{es:ao Expr}{pos fW np:Pos}{fi:ao aj}{H0:Hp}{Kx:DX}{x:Str}{C:aj}{n1 n2:Str}{k:Nat}{w:DA}
def zf {K:Frag}:∀ l,tailIn K iU l=true->l.contains (.type "BaseException")=true:=λl=>by
 induction l with
 |nil=>intro z;exact absurd (show(iU==[])=true from z) (by decide)
 | cons v r ih =>
  intro z;rcases Bool.or_eq_true_iff.mp z with q|q
  .rw[beq_iff_eq.mp q];decide
  .rw[cW];have:tailIn K iU r=true:=by
    split at q
    .split at q
     .simp at q;exact q.2
     .cases q
    .cases q
   rw[ih this,d8]
def sR {ee:ao (aj×Obj)}{σ:St}{H:Hp}{s:ai}{us:ao ak}{a b:V}(hX:X.ex=[])(W:J1 X.prog X.w X.K X.mg X.eB x C n1 n2 k)(hr:iq (k+1) X.A)(I:Inv X ee σ H s)(r:fH [a,b] us){R:ak->ai->Prop}
 (h:∀ e t dx H2 s2,H e=none->X.s₀.heap.get? e=none->dx≠e->H dx=none->X.s₀.heap.get? e=none->H2 e=some (.ext<|Cr e C (some dx) t)->H2 dx=some (.ext<|oz dx<|lT n2 b [(n1,a)])->(∀ b,b≠e->b≠dx->H2 b=H b)->Inv X ee σ H2 s2->R (.ref e) s2):
 wpAny (model X.prog X.w) X.A (call (.ref C) us) R X.xe s:=by
 obtain⟨f,fd,ps,F,M,hm,hb⟩:=W.ex;refine bf (II (dvs:=[]) (ds:=[]) (Q:=λv H2=>∃ e t dx,v=.ref e/\H e=none/\X.s₀.heap.get? e=none/\dx≠e/\H dx=none/\H2 e=some (.ext<|Cr e C (some dx) t)/\H2 dx=some (.ext<|oz dx<|lT n2 b [(n1,a)])/\∀ b,b≠e->b≠dx->H2 b=H b)
  hX M F hr hb .nil Dj I r (by show 2<=sizeLine;decide) λe t he h0=>?_) (λu s2 z=>?_) λ_ _ y=>y
 .refine⟨e,t,a,b,rfl,eZ,λdx H2 ne VN h1 h2 h3=>⟨rfl,e,t,dx,rfl,he,h0,ne,?_,h1,h2,λb b1 b2=>(h3 b b1 b2).trans<|e9 b1⟩⟩;rwa [e9 ne]at VN
 .obtain⟨v,H2,I2,rv,e,t,dx,rfl,z1,z2,z3,z4,z5,z6,z7⟩:=z;obtain rfl:u=Value.ref e:=rv;exact h e t dx H2 s2 z1 z2 z3 z4 z2 z5 z6 z7 I2
def Hs {ee:ao (aj×Obj)}{σ:St}{H H2:Hp}{s:ai}{φ ψ:Heap->Prop}{e dx:aj}(I:Inv X ee σ H2 s)(he:H2 e=some (.ext φ))(hd:H2 dx=some (.ext ψ))(ne:dx≠e)(n1:H e=none)(n2:H dx=none)(o:∀ b,b≠e->b≠dx->H2 b=H b):Inv X ee σ H s:=by
 have J:=(I.del he).del (e:=dx) (by rw[we ne];exact hd);have E:Ec (Ec H2 e) dx=H:=by
  funext b;delta Ec;by_cases z:b=dx
  .rw[aD z,z,n2]
  .rw[az z];by_cases y:b=e
   .rw[aD y,y,n1]
   .rw[az y];exact o b y z
 rwa [E]at J
def Q5 (fi:ao aj)(H0:Hp)(Kx:DX)(C:aj)(w:DA):Ds:=λ_ ρ μ=>w ρ μ λds eV=>ds.length=2/\eV[0]?=some (.gx fi H0)/\Kx (.ref C) eV
def Ll (Z:Rm X fi H0 Kx)(hc:X.gE=true)(W:J1 X.prog X.w X.K X.mg X.eB x C n1 n2 k)(hr:iq (k+1) X.A)(hg:Gl X x)(ha:sA X (e::es) w)(hd:(x==("__debug__" : Str))=false:=by decide)
 (he:starEach (e::es) X.env=(false,eval e X.env)::starEach es X.env:=by rfl) (lU:(backTo fW<|starEach es X.env).any (·.1)=false:=by rfl):
 yF X (.Raise (some<|.Call (.Name x np) (e::es) [] fW) none pos) (Q5 fi H0 Kx C w):=λee s σ H D I hq=>by
 refine fF hq λφ ρ μ N A Mm kk L=>?_;refine JP Z.ex λE LX hp hX mk=>?_;obtain⟨f,fd,ps,F,M,hm,hb⟩:=id W.ex;obtain⟨bm,ns,nm,qn,bs,hdct,sn,sub,ab,col,dd,k0,k1,k2,k3,k5,hC,fB,ME,ht⟩:=M.ex;refine GG (nm:=nm) (q:=qn) (C:=C) (N:=ns) (bs:=bs) (bm:=bm) (hdct:=hdct) (sn:=sn) (sub:=sub) (ab:=ab) (col:=col) (dd:=dd) (k0:=k0) (k1:=k1) (k2:=k2) (k3:=k3) (k5:=k5) (newId:= "ValueError.__new__") (zf _ ht) (I.ok.hd hc)<|bu<|lg I hg hm ?_ hd;have h:=ha fW ee s σ H (λvs H1=>vs.length=2/\E (.ref C) none H1) I ⟨φ,ρ,μ,_,A,Mm,kk,λds eV fo vs H1 k1 f1 M1 i1=>⟨i1.len▸k1.1,LX (.ref C) eV fo H1 k1.2.2 (M1.Bl k1.2.1) M1⟩⟩;refine callWith_K (h₀:=X.eB) I.ok.mod.Kn M.kp (gg h λus s1 h_=>fw h_ λvs H1 I1 r q=>⟨I1.om,?_⟩) he lU;obtain⟨q1,q2⟩:=q;obtain⟨a,b,rfl⟩:∃ a b,vs=[a,b]:=by
  match vs,q1 with
  |[a,b],_=>exact⟨a,b,rfl⟩
 refine sR hX W hr I1 r λe t dx H2 s2 z1 z2 z3 z4 _ z5 z6 z7 I2=>?_;have hx:s2.heap.get? e=some (pZ C (some dx) t):=(I2.fB e _ z5).1;exact⟨e,some dx,t,rfl,I2.om _ _ hC,hx,mk ee σ H1 s2 e _ (Hs I2 z5 z6 z3 z1 z4 z7) ⟨z1,z2,_,_,hx,rfl,rfl,rfl,rfl⟩ q2⟩
end
end L2
namespace L2
open PySem PySem.Spec PyProof.Rows PySem.W
section
variable {X:Cx}{e o:Expr}{es:ao Expr}{pos np fZ:Pos}{x:Str}{C:aj}{n1 n2 f:Str}{k:Nat}{w:DA}{wo:De}
def Wl (C:aj)(w:DA):De:=λρ μ K=>w ρ μ λds eV=>ds.length<=sizeLine/\K (.mr eV.length) (eV++[.exc (.ref C)])
def L7 {φ:ao aj}{H1:Hp}{eV:MS}{p:aj}(M1:fG φ H1 eV)(n:H1 p=none)(c:ak):fG (φ++[p]) (upd H1 p<|.ext<|kF p c) (eV++[.exc c])/\Fr φ H1 (φ++[p]) (upd H1 p<|.ext<|kF p c)/\kP (φ++[p]) (upd H1 p<|.ext<|kF p c) (.mr eV.length) (.ref p):=by obtain⟨M2,f2⟩:=M1.snoc (m:=.exc c) (o:=.ext<|kF p c) n eZ;exact⟨M2,f2,p,by rw[ou (M1.len▸au _),M1.len,aO];rfl,rfl⟩
section
variable {prog:ae}{w:af}{A:Around}{E:ak->ai->Prop}{s:ai}{env:Env}
variable {nm q:Str}{N:aj}{bs bm:ao ak}{hdct:Bool}{sn:ao Str}{sub:ao ak}{ab:Bool}{col:aq Bool}{dd:aq aj}{k0 k1 k2 k3 k5:aq ak}{newId:String}
def JW {rest:ao Expr}{Q:ak->ai->Prop}(h:wpAny (model prog w) A (spliced<|backTo pos<|starEach (e::rest) env) (λvs s₁=>s₁.heap.get? C=some (excClassObj nm q C N bs bm hdct sn sub ab col dd k0 k1 k2 k3 k5 newId)/\wpAny (model prog w) A (call (.ref C) vs) Q E s₁) E s)
 (he:starEach (e::rest) env=(false,eval e env)::starEach rest env:=by rfl) (xF:(backTo pos<|starEach rest env).any (·.1)=false:=by rfl):
 wpAny (model prog w) A (callWith pos (.ref C) [] (backTo pos<|starEach (e::rest) env) []) Q E s:=by
 rw[he]at h ⊢
 exact callWith_of (P:=λh=>h.get? C=some (excClassObj nm q C N bs bm hdct sn sub ab col dd k0 k1 k2 k3 k5 newId)) (by show((false||(backTo pos<|starEach rest env).any (·.1))||false)=false;rw[xF];rfl)
  (λh X=>⟨.machine,.inr<|.inl rfl,λA' Q' E' s' k z=>by obtain⟨hp,g,d,t,os⟩:=s';exact wpAny_keeperOf_exc (k _ _ X) z⟩) (cE h)
end
def jm (hX:X.ex=[])(O:OwnCls x C iU "ValueError.__new__" X.mg X.eB)(hg:Gl X x)(ha:sA X (e::es) w)(hd:(x==("__debug__" : Str))=false:=by decide)
 (he:starEach (e::es) X.env=(false,eval e X.env)::starEach es X.env:=by rfl) (lU:(backTo pos<|starEach es X.env).any (·.1)=false:=by rfl):
 PD X (.Call (.Name x np) (e::es) [] pos) (Wl C w):=λee s σ H Q I hq=>by
 refine fF hq λφ ρ μ Kd A M kk L=>?_;obtain⟨tl,Na,nm,q,bs,hdct,sn,sub,ab,col,dd,k0,k1,k2,k3,k5,mN,hC,hN,ME,T⟩:=O.obj;refine bu<|lg I hg O.bound ?_ hd;have h:=ha pos ee s σ H (λvs H1=>vs.length<=sizeLine/\∀ p,H1 p=none->Q (.ref p) (upd H1 p<|.ext<|kF p<|.ref C)) I ⟨φ,ρ,μ,_,A,M,kk,λds eV fo vs H1 k1 f1 M1 i1=>⟨i1.len▸k1.1,λp hp=>by
  obtain⟨M2,f2,i2⟩:=L7 M1 hp (.ref C)
  exact L _ _ _ _ _ k1.2 (f1.trans f2) M2 i2⟩⟩
 refine JW (gg h λus s1 h_=>fw h_ λvs H1 I1 r q=>⟨I1.bk _ _ hC,?_⟩) he lU;refine wpAny_call_exc_subU ar (by decide +kernel) ar (T.keeps I1.bk) (I1.bk _ _ hC) (hN.keeps I1.bk) ME (λh' e m=>?_)<|r.length▸q.1;obtain⟨a1,a2,a3,a4,a5⟩:=I1.FE hX m.new;obtain⟨t,ht,_,_⟩:=m.there;exact⟨.ref e,_,(I1.eI (t':=s1.toks) m.keeps).KS a1 ⟨_,_,ht,rfl,rfl,rfl⟩ a2 a3 a4 a5,rfl,q.2 e a1⟩
def Inv.XQ {ee:ao (aj×Obj)}{σ:St}{H:Hp}{s:ai}(I:Inv X ee σ H s){p:aj}{ho:HO}(he:H p=some ho):p≠X.env.locals/\(∀ y a,X.env.cells.lookup y=some a->a≠p)/\∀ r∈X.pn++ee,r.1≠p :=
 ⟨λz=>(by rw[z,I.free]at he;cases he),λy a q z=>(by rw[<- z,I.ky y a q]at he;cases he),λr hp z=>(by rw[<- z,(I.pin r hp).2.1]at he;cases he)⟩
def Wi (C:aj)(w:DA):De:=λρ μ K=>w ρ μ λds eV=>ds.length=2/\K (.mr eV.length) (eV++[.exc (.ref C)])
def TB {vs:ao V}(h:vs.length=2):∃ a b,vs=[a,b]:=match vs,h with|[a,b],_=>⟨a,b,rfl⟩
def QX (hX:X.ex=[])(W:J1 X.prog X.w X.K X.mg X.eB x C n1 n2 k)(hr:iq (k+1) X.A)(hg:Gl X x)(ha:sA X (e::es) w)(hd:(x==("__debug__" : Str))=false:=by decide)
 (he:starEach (e::es) X.env=(false,eval e X.env)::starEach es X.env:=by rfl) (lU:(backTo pos<|starEach es X.env).any (·.1)=false:=by rfl):
 PD X (.Call (.Name x np) (e::es) [] pos) (Wi C w):=λee s σ H Q I hq=>by
 refine fF hq λφ ρ μ Kd A M kk L=>?_;obtain⟨f,fd,ps,F,Mk,hm,hb⟩:=id W.ex;refine bu<|lg I hg hm ?_ hd;have h:=ha pos ee s σ H (λvs H1=>vs.length=2/\∀ p,H1 p=none->Q (.ref p) (upd H1 p<|.ext<|kF p<|.ref C)) I ⟨φ,ρ,μ,_,A,M,kk,λds eV fo vs H1 k1 f1 M1 i1=>⟨i1.len▸k1.1,λp hp=>by
  obtain⟨M2,f2,i2⟩:=L7 M1 hp (.ref C)
  exact L _ _ _ _ _ k1.2 (f1.trans f2) M2 i2⟩⟩
 refine callWith_K (h₀:=X.eB) I.ok.mod.Kn Mk.kp (gg h λus s1 h_=>fw h_ λvs H1 I1 r q=>⟨I1.om,?_⟩) he lU;obtain⟨q1,q2⟩:=q;obtain⟨a,b,rfl⟩:=TB q1;refine sR hX W hr I1 r λe t dx H2 s2 z1 z2 z3 z4 _ z5 z6 z7 I2=>?_;have hx:s2.heap.get? e=some (pZ C (some dx) t):=(I2.fB e _ z5).1;obtain⟨a3,a4,a5⟩:=I2.XQ z5;exact⟨.ref e,_,(Hs I2 z5 z6 z3 z1 z4 z7).KS z1 ⟨_,_,hx,rfl,rfl,rfl⟩ z2 a3 a4 a5,rfl,q2 e z1⟩
def Wj (C:aj)(n1 n2:Str)(w:DA):De:=λρ μ K=>w ρ μ λds eV=>∃ a b,ds=[a,b]/\K (.mr eV.length) (eV++[.y3 C [n1,n2] [a,b]])
def QY (hX:X.ex=[])(W:J1 X.prog X.w X.K X.mg X.eB x C n1 n2 k)(n12:n1≠n2)(hr:iq (k+1) X.A)(hg:Gl X x)(ha:sA X (e::es) w)(hd:(x==("__debug__" : Str))=false:=by decide)
 (he:starEach (e::es) X.env=(false,eval e X.env)::starEach es X.env:=by rfl) (lU:(backTo pos<|starEach es X.env).any (·.1)=false:=by rfl):
 PD X (.Call (.Name x np) (e::es) [] pos) (Wj C n1 n2 w):=λee s σ H Q I hq=>by
 refine fF hq λφ ρ μ Kd A M kk L=>?_;obtain⟨f,fd,ps,F,Mk,hm,hb⟩:=id W.ex;refine bu<|lg I hg hm ?_ hd;have h:=ha pos ee s σ H (λvs H1=>∃ a b,vs=[a,b]/\∀ e dx t H2,H1 e=none->H1 dx=none->dx≠e->H2 e=some (.ext<|Cr e C (some dx) t)->H2 dx=some (.ext<|oz dx<|lT n2 b [(n1,a)])->(∀ c,c≠e->c≠dx->H2 c=H1 c)->Q (.ref e) H2) I
  ⟨φ,ρ,μ,_,A,M,kk,λds eV fo vs H1 k1 f1 M1 i1=>by
   obtain⟨a,b,rfl,k1⟩:=k1
   obtain⟨va,r1,rfl,ia,i1⟩:=i1
   obtain⟨vb,r2,rfl,ib,i1⟩:=i1
   cases i1
   refine⟨va,vb,rfl,λe dx t H2 z1 z2 z3 z4 z5 z6=>?_⟩
   have S:gT H1 H2:=λc o q=>by rw[z6 c (λz=>by rw[z,z1]at q;cases q) (λz=>by rw[z,z2]at q;cases q)];exact q
   have f2:Fr fo H1 (fo++[e]) H2:=(Fr.snoc z1).trans (.same S)
   have Jz:dx∉fo++[e]:=λz=>by
    rcases List.mem_append.mp z with z|z
    .exact M1.fresh z2 z
    .exact z3 (List.mem_singleton.mp z)
   have hp:lT n2 vb [(n1,va)]=[(n1,va),(n2,vb)]:=by
    show(if n1=n2 then _ else _)=_
    rw[az n12];rfl
   rw[hp]at z5
   have M2:fG (fo++[e]) H2 (eV++[.y3 C [n1,n2] [a,b]]):=by
    refine⟨?_,by rw[mJ,mJ,M1.len];rfl,λk n ek=>?_⟩
    .rw[bP]
     exact⟨M1.nd,by simp,λa ha b hb=>by rw[List.mem_singleton.mp hb];intro z;exact M1.fresh z1<|z▸ha⟩
    .by_cases hk:k<eV.length
     .rw[tE hk]at ek
      let ⟨q,e1,e2⟩:=M1.at_ k n ek
      exact⟨q,f2.get e1,e2.mono f2 λu eu=>S _ _ eu⟩
     .have JA:k=eV.length:=by
       have:=(mW ek).1
       rw[mJ,aU]at this
       lia
      subst JA
      rw[ou (au _),aO]at ek
      cases ek
      exact⟨e,by rw[ou (M1.len▸au _),M1.len,aO];rfl,dx,t,_,z4,z5,Jz,rfl,_,_,rfl,ia.mono f2,_,_,rfl,ib.mono f2,rfl⟩
   exact L _ _ _ _ _ k1 (f1.trans f2) M2 ⟨e,by rw[ou (M1.len▸au _),M1.len,aO];rfl,rfl⟩⟩
 refine callWith_K (h₀:=X.eB) I.ok.mod.Kn Mk.kp (gg h λus s1 h_=>fw h_ λvs H1 I1 r q=>⟨I1.om,?_⟩) he lU;obtain⟨a,b,rfl,q⟩:=q;exact sR hX W hr I1 r λe t dx H2 s2 z1 z2 z3 z4 _ z5 z6 z7 I2=>⟨.ref e,H2,I2,rfl,q e dx t H2 z1 z4 z3 z5 z6 z7⟩
structure Ov (K:Frag)(C:aj)(f:Str):Prop where
 s:yp K C
 x:RI K C
 n:findIn K (.ref C) f=some none
def Z5 (C:aj)(f:Str)(w:De):De:=λρ μ K=>w ρ μ λd eV=>∃ k ns ds y,d=.mr k/\eV[k]?=some (.y3 C ns ds)/\qg f ns ds=some y/\K y eV
def NM (g:Ov X.K C f)(h:PD X o wo)(hb:attributeBase o f X.env (eval o X.env)=eval o X.env:=by rfl):PD X (.Attribute o f fZ) (Z5 C f wo):=λee s σ H Q I hq=>by
 refine fF hq λφ ρ μ Kd A M kk L=>?_;have hh:=h ee s σ H (λv H1=>∃ e dx t fs y,v=.ref e/\H1 e=some (.ext<|Cr e C (some dx) t)/\H1 dx=some (.ext<|oz dx fs)/\fs.lookup f=some y/\Q y H1) I ⟨φ,ρ,μ,_,A,M,kk,λd1 eV fo v1 H1 k1 f1 M1 i1=>by
  obtain⟨k,ns,ds,y,rfl,hk,hl,k1⟩:=k1
  obtain⟨p,hp,rfl⟩:=i1
  obtain⟨p',e4,dx,t,fs,h1,h2,h3,h4,h5⟩:=M1.at_ k _ hk
  rw[hp]at e4;cases e4
  rw[<- h4]at hl
  obtain⟨v,l,iv⟩:=qQ h5 hl
  exact⟨p,dx,t,fs,v,rfl,h1,h2,l,L _ eV fo v H1 k1 f1 M1 iv⟩⟩
 refine Ic hb (gg hh λu s1 MA=>?_);obtain⟨v,H1,I1,rv,e,dx,t,fs,y,ev,h1,h2,hl,q⟩:=MA;subst ev;obtain rfl:u=Value.ref e:=rv;exact xget I1 h1 h2 g.s g.x g.n hl λu s2 I2 ru=>⟨y,H1,I2,ru,q⟩
def Rp {P:ae}{w:af}{K:Frag}{mg:Str->aq ak}{eB h:Heap}{q:Str}{st:Stmt}{f:aj}{fd:ah}{ps:ao Str}(G:K.In h)(N:h.Ns mainGlobals mg)(F:iS K "__init__" q st f fd)(ok:fA P w K mg eB nr k f fd ps (T7 C n1 n2))(hb:Binds K fd ps [])
 (n:nsIn K mainGlobals x=some (some<|.ref C):=by kernel_rfl) (a:zu K C f=true:=by kernel_rfl) (i:isFn K (.ref f)=true:=by kernel_rfl) (p:keepIn K (.ref C)=true:=by kernel_rfl):J1 P w K mg eB x C n1 n2 k:=⟨f,fd,ps,ok,Vd a i p,mg_of G N n,hb⟩
def Pl {K:Frag}{C B f:aj}(qB:excIn K B iU "ValueError.__new__"=true)(qC:zu K C f=true)(s:L2.subIn K C B=true):EG K C B:=by
 let ⟨bm,ns,nm,qn,bs,hd,sn,sub,ab,col,dd,k0,k1,k2,k3,k5,h1,h2,h3,h4⟩:=BV qB;let ⟨C',U7,Yv,X7,bs',DM,XJ,K4,ab',N1,Gy,YV,YU,YT,YS,YR,Xe,OT,h4',s'⟩:∃(C' U7:aj) (Yv X7:Str) (bs':ao ak) (DM:Bool) (XJ:ao Str) (K4:ao ak) (ab':Bool) (N1:aq Bool) (Gy:aq aj) (YV YU YT YS YR:aq ak) (Xe:ao ak),K.lookup C=some (excClassObj Yv X7 C U7 bs' Xe DM XJ K4 ab' N1 Gy YV YU YT YS YR "ValueError.__new__")/\C'=C/\(Value.ref C::Xe).contains (.ref B)=true:=by
  delta zu at qC;delta L2.subIn at s;split at qC
  .rename_i dd cd sl ho;rw[ho]at s;split at qC
   .rename_i C' bm k0 k1 k2 k3 n k5 hm hs;simp at qC;obtain⟨⟨⟨⟨⟨rfl,rfl⟩,ML⟩,ht⟩,fB⟩,ME⟩:=qC;obtain⟨nm,bs,mro,ns,qn,hd,sn,sub,ab,col,del⟩:=cd;subst hm ML;have Y7:sl=#[k0,k1,k2,k3,some (.builtin "ValueError.__new__"),k5]:=by obtain⟨l⟩:=sl;simp only at hs;rw[hs]
    subst Y7;exact⟨_,ns,nm,qn,bs,hd,sn,sub,ab,col,dd,k0,k1,k2,k3,k5,bm,ho,rfl,s⟩
   .cases qC
  .cases qC
 exact⟨nm,qn,ns,bs,bm,hd,sn,sub,ab,col,dd,k0,k1,k2,k3,k5,_,Yv,X7,U7,bs',Xe,DM,XJ,K4,ab',N1,Gy,YV,YU,YT,YS,YR,_,h1,OT,zf _ h4,s'⟩
end
end L2
namespace L2
open PySem PySem.Spec PyProof.Rows PySem.W
structure aal (K:Frag)(C:aj):Prop where
 s:yp K C
 t1:takerIn K C "first"=some none
 t2:takerIn K C "behind"=some none
def HD (K:aa)(cs:ao aj)(cH:aj):ot:=λds μ Kd=>dM [.m] ds λk=>∃ j,j<17/\μ[k]?=some (.exc<|.ref<|cs.getD j 0)/\lV K cs cH j/\Kd (.lst [.str (m5 j)]) μ
def kW17 {K:Frag}{cs:ao aj}{cH:aj}(a:∀ j,j<16->lV K cs cH j)(b:lV K cs cH 16):∀ j,j<17->lV K cs cH j:=λj h=>by
 by_cases q:j<16
 .exact a j q
 .rw[show j=16 by lia];exact b
def kH17 {K:Frag}{cs:ao aj}{cH:aj}(h:((List.range 17).all λj=>kitOne K (.ref<|cs.getD j 0) (.ref cH)==some true)=true):∀ j,j<17->kitOne K (.ref<|cs.getD j 0) (.ref cH)=some true:=λj hj=>by simpa using List.all_eq_true.mp h j (List.mem_range.mpr hj)
def V9 {X:Cx}{e:Expr}{w:De}{cv:ak}{K:Frag}(hK:X.K=K)(h:PD X e (Eh X.K cv w)):PD X e (Eh K cv w):=hK▸h
def Nd (K:aa)(cs:ao aj)(cH:aj):ot:=λds μ Kd=>dM [.i] ds λn=>0<=n/\n<60/\Kd (.lst<|(List.range 17).map λj=>.lst [.str (m5 j),.bl true]) μ
def vP (cs:ao aj)(μ:MS)(n:Nat):MS:=μ++(List.range n).map λj=>MO.exc (.ref<|cs.getD j 0)
def QN {cs:ao aj}{μ:MS}{n j:Nat}(h:j<n):(vP cs μ n)[μ.length+j]?=some (.exc<|.ref<|cs.getD j 0):=by delta vP;rw[ou (aY _ _),bM,wd,cL h];rfl
def GA {it:D->MS->(aq D->MS->Prop)->Prop}{c:MS->Prop}{μ:MS}{cs:ao aj}(hc:c (vP cs μ 17)){K:ao D->MS->Prop}
 (h:∀(j:Nat) (K':aq D->MS->Prop),j<17->(vP cs μ 17)[μ.length+j]?=some (.exc<|.ref<|cs.getD j 0)->K' (some<|.lst [.str (m5 j),.bl true]) (vP cs μ 17)->it (.mr<|μ.length+j) (vP cs μ 17) K')
 (k:K ((List.range 17).map λj=>.lst [.str (m5 j),.bl true]) (vP cs μ 17)):ud it c ((List.range 17).map λj=>D.mr<|μ.length+j) (vP cs μ 17) K:=
 rT hc (λj=>.mr<|μ.length+j) (λj=>.lst [.str (m5 j),.bl true]) (λj hj K' k'=>h j K' (List.mem_range.mp hj) (QN<|List.mem_range.mp hj) k') k
def JI {cs:ao aj}{μ:MS}{d:D}{K:DK}(hd:yC μ.length d)(hm:∀(j:Nat) (m:MO),μ[j]?=some m->zt μ.length m)(k:K d μ):Fz μ.length K d (vP cs μ n) :=
 .drop hd (λj m hj e=>hm j m (by delta vP at e;rwa [tE hj]at e)) (by delta vP;rw[aV];exact k)
theorem Hl {n:Nat}{f:α->D}(h:∀ x,yC n (f x)):∀ xs:ao α,r6 n (xs.map f)
 |[]=>True.intro
 |x::xs=>⟨h x,Hl h xs⟩
def BE (cB:aj):jc:=λds μ K Kx=>dM [.i,.l,.l,.i] ds λn x y j=>(∃ m,μ[0]?=some m)/\∃(cs:ao Int) (ts:ao Tk) (p:Int×Int),x=cs.map D.int/\y=ts.map jZ/\cs.length<=1000/\Af n ts/\n<=1000/\Es (l4 n cs) ts=some p/\Kx (.ref cB) μ
def D2 {cB:aj}{K:DK}(h:BE cB ds μ K Kx):ds.length=4/\∃ m,μ[0]?=some m:=by obtain⟨_,_,_,_,rfl,h⟩:=dJ h;exact⟨rfl,h.1⟩
def BD (cR cS cN:aj):jc:=λds μ K Kx=>dM [.m] ds λk=>(∃ m,μ[0]?=some m)/\∃(j1 j2:Nat) (ss:ao RS) (rs:ao Dd) (d:Nat) (S:RS) (p:Int×Int),f9 cR cS μ k j1 j2 ss rs d/\ss[d]?=some S/\Af S.n (oR S)/\Es (l4 S.n<|tU S) (oR S)=some p/\Kx (.ref cN) μ
def D0 {cR cS cN:aj}{K:DK}(h:BD cR cS cN ds μ K Kx):ds.length=1/\∃ m,μ[0]?=some m:=by obtain⟨_,rfl,h⟩:=dJ h;exact⟨rfl,h.1⟩
def AN:RS:=oq (oq (oq ⟨2,[],[]⟩<|.put "a" "ox" 0)<|.put "b" "ox" 1) (.join "c" "a" "b" 1)
def Ul (j:Nat):Bool:=[4,5,6,7,9,11,13,14,15,16].contains j
def Bu (cR cS:aj)(cs:ao aj):jc:=λds μ K Kx=>dM [.i,.m,.i] ds λw k n=>(∃ m,μ[0]?=some m)/\0<=n/\n<60/\∃(j j1 j2:Nat) (ss:ao RS) (rs:ao Dd) (d:Nat),w=(j:Int)/\j<17/\f9 cR cS μ k j1 j2 ss rs d/\ss[d]?=some AN/\rs.length=d/\d<900/\(if Ul j=true then Kx (.ref<|cs.getD j 0) μ else K .gw μ)
def DQ {cR cS:aj}{cs:ao aj}{K:DK}(h:Bu cR cS cs ds μ K Kx):ds.length=3/\∃ m,μ[0]?=some m:=by obtain⟨_,_,_,rfl,h⟩:=dJ h;exact⟨rfl,h.1⟩
def IJ:Af AN.n (oR AN):=by
 rw[show oR AN=[([111,120],0),([111,120],1),([111,120],2)] by decide +kernel];have o:OX [111,120]:=λx hx=>by
  rcases List.mem_cons.mp hx with q|q
  .exact .inl q
  .exact .inr (List.mem_singleton.mp q)
 refine⟨by decide,λt ht=>?_⟩;rcases List.mem_cons.mp ht with rfl|ht
 .exact⟨rfl,o,by decide,by decide⟩
 rcases List.mem_cons.mp ht with rfl|ht
 .exact⟨rfl,o,by decide,by decide⟩
 rcases List.mem_cons.mp ht with rfl|ht
 .exact⟨rfl,o,by decide,by decide⟩
 .cases ht
def PJ:Es (l4 AN.n<|tU AN) (oR AN)=some (1,2):=by decide +kernel
def eO {c:Dt}{t r:Ds}{N:DN}{ρ:DE}{μ:MS}(hb:TV c ρ μ false)(k:r N ρ μ):Rb (JU c t ZU) r N ρ μ:=⟨λjV fj=>jV=ρ/\fj=μ,kM false hb (λq=>nomatch q) λ_=>mX ⟨rfl,rfl⟩,λjV fj e=>by obtain⟨rfl,rfl⟩:=e;exact k⟩
def l7 {c:Dt}{t r:Ds}{N:DN}{ρ:DE}{μ:MS}(hb:TV c ρ μ true)(k:t { N with nx:=λ_ _=>False} ρ μ):Rb (JU c t ZU) r N ρ μ:=⟨λ_ _=>False,kM true hb (λ_=>k) (λq=>nomatch q),λ_ _ z=>z.elim⟩
def Us {n:Int}(h:0<=n):kW AN (.uU "a"<|21+n)=some 5:=by show sj (21+n)=some 5;delta sj;rw[az (by lia)]
def Ur {n:Int}(h:0<=n):kW AN (.found "a" (2+n) "o")=some 6:=by show(if nR AN "a"=false then some 11 else if 0<=2+n/\2+n<2 then _ else some 6)=some 6;rw[az (by decide +kernel),az (by lia)]
def Uq {n:Int}(h:0<=n):kW AN (.hG<|2+n)=some 7:=by show kq AN (2+n)=some 7;delta kq;rw[az (by show ¬ (1<=2+n/\2+n<2);lia)]
def Ut:∀ m:Nat,m<3->NF (.put ⟨(List.replicate m 65).toArray⟩ "oo" 0)/\kW AN (.put ⟨(List.replicate m 65).toArray⟩ "oo" 0)=some 4
 |0,_=>⟨⟨by decide,by decide⟩,by decide +kernel⟩
 |1,_=>⟨⟨by decide,by decide⟩,by decide +kernel⟩
 |2,_=>⟨⟨by decide,by decide⟩,by decide +kernel⟩
 |m+3,h=>absurd h (by lia)
def xR (j:Nat):Bool:=[0,1,2,3,8].contains j
def Gr (cs:ao aj):jc:=λds μ K Kx=>dM [.i,.i] ds λw n=>(∃ m,μ[0]?=some m)/\0<=n/\n<60/\∃ j:Nat,w=(j:Int)/\j<17/\(if xR j=true then Kx (.ref<|cs.getD j 0) μ else K .gw μ)
def Gq {cs:ao aj}{K:DK}(h:Gr cs ds μ K Kx):ds.length=2/\∃ m,μ[0]?=some m:=by obtain⟨_,_,rfl,h⟩:=dJ h;exact⟨rfl,h.1⟩
def xW (top:Int)(i:Nat)(cs:ao aj):jc:=λds μ K Kx=>dM [.i] ds λn=>(∃ m,μ[0]?=some m)/\0<=n/\n<top/\Kx (.ref<|cs.getD i 0) μ
def xV {top:Int}{i:Nat}{cs:ao aj}{K:DK}(h:xW top i cs ds μ K Kx):ds.length=1/\∃ m,μ[0]?=some m:=by obtain⟨_,rfl,h⟩:=dJ h;exact⟨rfl,h.1⟩
def HB (K:Frag)(cs:ao aj)(cH cR cS:aj):ot:=λds μ Kd=>dM [.i,.m,.i] ds λw k n=>(∃ m,μ[0]?=some m)/\(∀ j,j<17->lV K cs cH j)/\0<=n/\n<60/\∃(j j1 j2:Nat) (ss:ao RS) (rs:ao Dd) (d:Nat),w=(j:Int)/\j<17/\f9 cR cS μ k j1 j2 ss rs d/\ss[d]?=some AN/\rs.length=d/\d<900/\Kd (.lst [.str (m5 j)]) μ
def KL:∀ j:Nat,j<17->xR j=false->Ul j=false->j=10\/j=12:=by decide
def m4 (cR cS:aj)(μ:MS)(ss:ao RS)(rs:ao Dd)(d:Nat):MS:=μ++[.ins cR AO [.mr (μ.length+1),.mr (μ.length+2),.int (d:Int)],.lst (ss.map<|oU cS),.lst (rs.map Ed)]
def my {cR cS:aj}{μ:MS}{ss ss':ao RS}{rs rs':ao Dd}{d d':Nat}:ql cR cS (m4 cR cS μ ss rs d) μ.length (μ.length+1) (μ.length+2) ss' rs' d'=m4 cR cS μ ss' rs' d':=by delta ql m4;rw[b7 _ _ (aY _ 1),b7 _ _ (aY _ 2),b7 _ _ (au _),aO,bM,bM];rfl
def uG {cR cS:aj}{μ:MS}{n:Int}:(List.set (μ++[MO.ins cR [] []]) μ.length (MO.ins cR AO [.mr (μ++[MO.ins cR [] []]).length,.mr ((μ++[MO.ins cR [] []]).length+1),.int 0])++[MO.lst [oU cS ⟨n,[],[]⟩],MO.lst []])=m4 cR cS μ [⟨n,[],[]⟩] [] 0:=by delta m4;rw[b7 _ _ (au _),aO,mJ,a9];rfl
def xb {cR cS:aj}{μ:MS}{n:Int}(h0:μ≠[])(h1:1<=n)(h2:n<=40):f9 cR cS (m4 cR cS μ [⟨n,[],[]⟩] [] 0) μ.length (μ.length+1) (μ.length+2) [⟨n,[],[]⟩] [] 0:=f9.made h0 h1 h2
def mw {cR cS:aj}{μ:MS}{ss:ao RS}{rs:ao Dd}{d:Nat}{S:RS}{e:Dd}(ra:f9 cR cS (m4 cR cS μ ss rs d) μ.length (μ.length+1) (μ.length+2) ss rs d)(es:ss[d]?=some S)(hr:kW S e=none)(nj:rs.length<900):
 f9 cR cS (m4 cR cS μ (ss.take (d+1)++[oq S e]) (rs.take d++[e])<|d+1) μ.length (μ.length+1) (μ.length+2) (ss.take (d+1)++[oq S e]) (rs.take d++[e]) (d+1)/\(ss.take (d+1)++[oq S e])[d+1]?=some (oq S e):=by
 have:=ra.Zl es hr nj;rwa [my]at this
def jE {cR cS:aj}{μ:MS}{ss:ao RS}{rs:ao Dd}{d:Nat}(e:μ[0]?=some m):(m4 cR cS μ ss rs d)[0]?=some m:=by delta m4;rw[tE (mW e).1];exact e
def G9 {cR cS:aj}{μ:MS}{ss:ao RS}{rs:ao Dd}{d:Nat}{K:DX}{c:ak}(hm:∀(j:Nat) (m:MO),μ[j]?=some m->zt μ.length m)(k:K c μ):FX μ.length K c (m4 cR cS μ ss rs d) :=
 .inr ⟨gV hm,by delta m4;rw[aV];exact k⟩
def UX (m:Nat):Str:=⟨(List.replicate (2+m) 111).toArray⟩
def sh1 (m:Nat):RS:=oq ⟨2+(m:Int),[],[]⟩ (.put "a" (UX m) 0)
def Lh:∀ m:Nat,m<39->kW ⟨2+(m:Int),[],[]⟩ (.put "a" (UX m) 0)=none/\kW (sh1 m) (.hG 1)=none/\kW (oq (sh1 m)<|.hG 1) (.join "b" "a" "a" 1)=some 12:=by decide +kernel
def Qi {m:Nat}(h:m<39):(UX m).length<=1000:=by show(List.replicate (2+m) 111).toArray.size<=1000;rw[aB,bc];lia
def Xc (i:Nat):Str:=⟨#[97+i]⟩
def zE (a i:Nat):RS:=(List.range i).foldl (λS j=>oq S<|.put (Xc j) "x" (a:Int)) ⟨1,[],[]⟩
def FW {a i:Nat}:zE a (i+1)=oq (zE a i) (.put (Xc i) "x" (a:Int)):=by delta zE;rw[List.range_succ,List.foldl_append];rfl
def MV:∀ a:Nat,a<21->(∀ i:Nat,i<20->kW (zE a i) (.put (Xc i) "x" (a:Int))=none)/\kW (zE a 20) (.put "zz" "x" 0)=some 10:=by decide +kernel
end L2
namespace L2
open PySem PySem.Spec PyProof.Rows PySem.W
def Rc {p:Prop}[Decidable p]{c:Dt}{t r:Ds}{N:DN}{ρ:DE}{μ:MS}(hb:TV c ρ μ (false != decide p))(ht:p->t { N with nx:=λ_ _=>False} ρ μ)(k:¬ p->r N ρ μ):Rb (JU c t ZU) r N ρ μ:=by
 by_cases q:p
 .rw[aH q]at hb;exact l7 hb (ht q)
 .rw[aw q]at hb;exact eO hb (k q)
def JG:∀ j:Nat,j<17->j=0\/j=1\/j=2\/j=3\/j=8\/xR j=false:=by decide
def wsN (n:Int):ao Str:=["(","0","1",toString n]
def xX (cB:aj):jc:=λds μ K Kx=>dM [.l] ds λws=>(∃ m,μ[0]?=some m)/\∃ n:Int,0<=n/\n<60/\ws=(wsN n).map D.str/\Kx (.ref cB) μ
def BA {cB:aj}{K:DK}(h:xX cB ds μ K Kx):ds.length=1/\∃ m,μ[0]?=some m:=by obtain⟨_,rfl,h⟩:=dJ h;exact⟨rfl,h.1⟩
def Bz (cB:aj):jc:=λds μ K Kx=>dM [.s] ds λz=>(∃ m,μ[0]?=some m)/\∃ n:Int,0<=n/\n<60/\z=("(0 1 " : Str)++(toString n:Str)/\Kx (.ref cB) μ
def DW {cB:aj}{K:DK}(h:Bz cB ds μ K Kx):ds.length=1/\∃ m,μ[0]?=some m:=by obtain⟨_,rfl,h⟩:=dJ h;exact⟨rfl,h.1⟩
def Vb:∀ n:Nat,n<60->Txt.count (("(0 1 " : Str)++(toString (n:Int):Str)) "("=1/\Txt.words (Txt.replace (Txt.replace (("(0 1 " : Str)++(toString (n:Int):Str)) "(" "( ") ")" " )")=wsN (n:Int)/\(("(0 1 " : Str)++(toString (n:Int):Str)).length<=100/\(Txt.replace (("(0 1 " : Str)++(toString (n:Int):Str)) "(" "( ").length<=100/\(Txt.replace (Txt.replace (("(0 1 " : Str)++(toString (n:Int):Str)) "(" "( ") ")" " )").length<=100:=by decide +kernel
def Xn:∀ t∈[(([111,120]:ao Nat),(0:Int))],EB 2 t:=λt ht=>by obtain rfl:=List.mem_singleton.mp ht;exact⟨rfl,by decide⟩
def TK:Af 2 [([111,120],0)]:=⟨by decide,λt ht=>by
 obtain rfl:=List.mem_singleton.mp ht
 refine⟨rfl,λx hx=>?_,by decide,by decide⟩
 rcases List.mem_cons.mp hx with q|q
 .exact .inl q
 .exact .inr<|List.mem_singleton.mp q⟩
def Xm (K:Frag)(C:aj):aj:=match K.lookup C with
 | some ⟨_,_,.cls cd,_⟩=>(match nsIn K cd.ns "__init__" with
  |some (some<|.ref f)=>f
  |_=>0)
 |_=>0
def kBX {K:Frag}{cs:ao aj}{cH:aj}{j:Nat}(e1:(clsIn K<|cs.getD j 0).isSome=true:=by kernel_rfl)(e2:findIn K (.ref<|cs.getD j 0) "__getattribute__"=some (some<|.builtin "BaseException.__getattribute__"):=by kernel_rfl)(e3:findIn K (.ref<|cs.getD j 0) "__getattr__"=some none:=by kernel_rfl)
 (e4:findIn K (.ref<|cs.getD j 0) "__class__"=some (some<|.builtin "object.__class__"):=by kernel_rfl) (e5:specialIn K (.builtin "object.__class__") "__get__"=some (some<|.builtin "getset_descriptor.__get__"):=by kernel_rfl) (e6:takesIn K (.builtin "object.__class__")=some true:=by kernel_rfl) (e7:mroIn K (cs.getD j 0) (.type "object")=some true:=by kernel_rfl) (e8:mroIn K (cs.getD j 0) (.type "BaseException")=some true:=by kernel_rfl)
 (k:Vh K cs j=true:=by kernel_rfl) (v:kitOne K (.ref<|cs.getD j 0) (.type "ValueError")=some true:=by kernel_rfl) (q1:excIn K cH iU "ValueError.__new__"=true:=by kernel_rfl) (q2:zu K (cs.getD j 0) (Xm K<|cs.getD j 0)=true:=by kernel_rfl) (q3:L2.subIn K (cs.getD j 0) cH=true:=by kernel_rfl):lV K cs cH j:=⟨⟨e1,e2,e3,e4,e5,e6,e7,e8⟩,k,v,Pl q1 q2 q3⟩
def YQ {j:Nat}(h:j<17):wq ((List.range 17).map λj=>D.str<|m5 j) (j:Int)=some (.str<|m5 j):=p7 (by rw[wd,cL h];rfl)
end L2
namespace Pf
open PySem L2 PyProof.Rows
def top (i:Nat):Stmt:=PySem.Challenge.pw_hissroom_k49_refusals_apart.main.body.getD i (.Pass ⟨0,0,0,0⟩)
def met (i j:Nat):Stmt:=(Rl<|top i).getD j (.Pass ⟨0,0,0,0⟩)
abbrev wZ:Stmt:=top 81
abbrev sH:Stmt:=top 82
abbrev s_same:Stmt:=top 84
abbrev sO:Stmt:=top 38
abbrev nH:Stmt:=top 39
abbrev nJ:Stmt:=top 41
abbrev mn:Stmt:=top 21
abbrev nI:Stmt:=top 24
abbrev lA:Stmt:=top 74
abbrev i0:Stmt:=top 75
abbrev hJ:Stmt:=met 61 0
abbrev gz:Stmt:=met 61 1
abbrev i9:Stmt:=met 61 2
abbrev iN:Stmt:=met 61 3
abbrev fR:Stmt:=met 61 4
abbrev jy:Stmt:=met 61 5
abbrev i8:Stmt:=met 61 6
abbrev j4:Stmt:=top 71
abbrev j5:Stmt:=top 72
abbrev i7:Stmt:=top 73
abbrev wW:Stmt:=top 62
abbrev sL:Stmt:=top 63
abbrev pL:Stmt:=top 64
abbrev sQ:Stmt:=top 65
abbrev sP:Stmt:=top 66
abbrev sN:Stmt:=top 67
abbrev sI:Stmt:=top 68
abbrev iL:Stmt:=top 70
abbrev iz:Stmt:=met 78 0
abbrev lF:Stmt:=met 78 1
abbrev ki:Stmt:=met 78 9
abbrev jD:Stmt:=met 78 12
abbrev j6:Stmt:=met 78 14
abbrev jB:Stmt:=met 78 15
abbrev kl:Stmt:=met 78 16
abbrev lG:Stmt:=met 78 17
abbrev jA:Stmt:=met 78 18
abbrev ja:Stmt:=met 78 19
abbrev kj:Stmt:=met 78 20
abbrev jz:Stmt:=met 78 21
abbrev lE:Stmt:=met 78 2
abbrev kc:Stmt:=met 78 3
abbrev jC:Stmt:=met 78 4
abbrev km:Stmt:=met 78 5
abbrev kh:Stmt:=met 78 6
abbrev ke:Stmt:=met 78 7
abbrev j7:Stmt:=met 78 8
abbrev j9:Stmt:=met 78 11
abbrev ip:Stmt:=met 56 0
abbrev iE:Stmt:=met 56 4
abbrev il:Stmt:=met 56 6
abbrev iM:Stmt:=top 79
abbrev mq:Stmt:=top 55
abbrev jb:Stmt:=met 78 26
abbrev nF:Stmt:=top 86
abbrev j3:Stmt:=top 23
abbrev mv:Stmt:=top 22
abbrev lD:Stmt:=top 28
abbrev iw:Stmt:=top 30
abbrev ma:Stmt:=top 31
abbrev sJ:Stmt:=top 29
abbrev mT:Stmt:=top 32
abbrev jJ:Stmt:=top 35
abbrev gy:Stmt:=top 36
abbrev jx:Stmt:=top 34
abbrev mh:Stmt:=top 33
abbrev pO:Stmt:=top 85
abbrev sM:Stmt:=top 88
abbrev mi:Stmt:=top 87
abbrev nG:Stmt:=top 89
abbrev mI:Stmt:=top 83
abbrev iK:Stmt:=met 19 0
abbrev mj:Stmt:=top 90
abbrev oB:Stmt:=top 91
structure ie (K:aa)(C:aj):Prop where
 cl:wt K C
 iX:W.findIn K (.ref C) "length"=some none
 gQ:W.findIn K (.ref C) "made_of"=some none
 ku:W.findIn K (.ref C) "firsts"=some none
 kX:W.findIn K (.ref C) "closed"=some none
structure jr (K:aa)(C:aj):Prop where
 cl:wt K C
 xx:W.findIn K (.ref C) "stands"=some none
 uI:W.findIn K (.ref C) "rows"=some none
 pS:W.findIn K (.ref C) "done"=some none
structure yo (K:aa)(C:aj):Prop where
 cl:wt K C
 YB:W.findIn K (.ref C) "places"=some none
 uI:W.findIn K (.ref C) "rows"=some none
 YA:W.findIn K (.ref C) "tables"=some none
 Hk:W.findIn K (.ref C) "whole"=some none
 YC:W.findIn K (.ref C) "counts"=some none
def Um:eR ["_law_script"] (pA wZ) (eG wZ):=fY
def tH:eR ["_law_box_here","_law_many","_law_rest","_law_cell","_law_one","_law_two"] (pA sH) (eG sH):=fY
def Py:eR ["_law_found","_law_due"] (pA s_same) (eG s_same):=fY
def PB:eR ["size","cuts"] (pA sO) (eG sO):=fY
def zi:eR ["size","cuts","places"] (pA nH) (eG nH):=fY
def rL:eR ["size","cuts","takes","first","behind"] (pA nJ) (eG nJ):=fY
def Fb:eR ["size","text"] (pA mn) (eG mn):=fY
def nu:eR ["one","other","place","bars","age","other_bars","other_age","cut"] (pA nI) (eG nI):=fY
def u6:eR ["table","key","thing","told"] (pA lA) (eG lA):=fY
def qG:eR ["table","key"] (pA i0) (eG i0):=fY
def tL:eR ["self","length","made_of","firsts","closed"] (pA hJ) (eG hJ):=fY
def qI:eR ["self","name"] (pA gz) (eG gz):=fY
def wU:eR ["self","name"] (pA i9) (eG i9):=fY
def gC:eR ["self","name","bar","parts","copies","left","right","place"] (pA iN) (eG iN):=fY
def fP:eR ["self","told","name","parts","left","right","place"] (pA fR) (eG fR):=fY
def yL:eR ["self","name"] (pA jy) (eG jy):=fY
def nE:eR ["self","cuts"] (pA i8) (eG i8):=fY
def tK:eR ["stand","name"] (pA j4) (eG j4):=fY
def AB:eR ["age"] (pA j5) (eG j5):=fY
def wQ:eR ["stand","place"] (pA i7) (eG i7):=fY
def ux:eR ["stand","row","word","name","bars","age","made_of"] (pA wW) (eG wW):=fY
def rK:eR ["stand","row","word","name","left","right","place"] (pA sL) (eG sL):=fY
def kU:eR ["stand","row","word","name","bar","sign","first","copies","bars","age","heard"] (pA pL) (eG pL):=fY
def rM:eR ["stand","row","word","name","age","bars","before"] (pA sQ) (eG sQ):=fY
def tJ:eR ["stand","row","word","name","made_of"] (pA sP) (eG sP):=fY
def Az:eR ["stand","row","word","place"] (pA sN) (eG sN):=fY
def Ax:eR ["stand","row","word","place"] (pA sI) (eG sI):=fY
def qd:eR ["stand","row","deed"] (pA iL) (eG iL):=fY
def uz:eR ["self","size"] (pA iz) (eG iz):=fY
def CO:eR ["self"] (pA lF) (eG lF):=fY
def tM:eR ["self","row","stand"] (pA ki) (eG ki):=fY
def yP:eR ["self"] (pA jD) (eG jD):=fY
def AD:eR ["self"] (pA j6) (eG j6):=fY
def yN:eR ["self"] (pA jB) (eG jB):=fY
def AJ:eR ["self","name"] (pA kl) (eG kl):=fY
def CP:eR ["self","name"] (pA lG) (eG lG):=fY
def yM:eR ["self","name"] (pA jA) (eG jA):=fY
def wV:eR ["self","name","bar"] (pA ja) (eG ja):=fY
def ng:eR ["self","size","cuts","takes"] (pA kj) (eG kj):=fY
def mH:eR ["self","size","cuts","takes"] (pA jz) (eG jz):=fY
def CN:eR ["self","name","bars","age"] (pA lE) (eG lE):=fY
def AG:eR ["self","name","left","right","place"] (pA kc) (eG kc):=fY
def yO:eR ["self","name","bar","sign"] (pA jC) (eG jC):=fY
def AK:eR ["self","name","age"] (pA km) (eG km):=fY
def AI:eR ["self","name"] (pA kh) (eG kh):=fY
def AH:eR ["self","place"] (pA ke) (eG ke):=fY
def AE:eR ["self","place"] (pA j7) (eG j7):=fY
def AF:eR ["self"] (pA j9) (eG j9):=fY
def Ck:eR ["self","size","cuts","takes","least"] (pA ip) (eG ip):=fY
def CQ:eR ["self","stretch"] (pA iE) (eG iE):=fY
def Cj:eR ["self","stretch","number","rest","place","left","right","many"] (pA il) (eG il):=fY
def EO:eR ["make","part"] (pA iM) (eG iM):=fY
def wR:eR ["size","cuts","takes","number","best"] (pA mq) (eG mq):=fY
def gA:eR ["self","size","cuts","takes","bar","joining","place","left","right","names"] (pA jb) (eG jb):=fY
def IF:eR ["_law_which","_law_room","_law_number"] (pA nF) (eG nF):=fY
def AA:eR ["size","end","first","behind"] (pA j3) (eG j3):=fY
def lr:eR ["size","rows","text","end","first","behind"] (pA mv) (eG mv):=fY
def j0:eR ["make","told","coming","part","place","left","right"] (pA lD) (eG lD):=fY
def uy:eR ["cuts","place"] (pA iw) (eG iw):=fY
def E9:eR ["takes","number"] (pA ma) (eG ma):=fY
def tI:eR ["size","cuts","takes","make","ready","part","left","right"] (pA sJ) (eG sJ):=fY
def Pz:eR ["make","ready","part","left","right"] (pA mT) (eG mT):=fY
def IG:eR ["ready","bracket","left","place","right"] (pA jJ) (eG jJ):=fY
def qH:eR ["word"] (pA gy) (eG gy):=fY
def oV:eR ["words","ready","word"] (pA jx) (eG jx):=fY
def wN:eR ["text","make"] (pA mh) (eG mh):=fY
def Lj:eR ["_law_which","_law_number"] (pA pO) (eG pO):=fY
def Ay:eR ["_law_number","_law_room","_law_letter"] (pA sM) (eG sM):=fY
def wO:eR ["_law_number","_law_room"] (pA mi) (eG mi):=fY
def rJ:eR ["_law_which","_law_room","_law_number","_law_told","_law_e"] (pA nG) (eG nG):=fY
def gY:eR ["_law_e","_law_found","_law_words"] (pA mI) (eG mI):=fY
def tN:eR ["self","first","behind"] (pA iK) (eG iK):=fY
def nA:eR ["_law_number","_law_found"] (pA mj) (eG mj):=fY
def pK:eR ["_law_script","_law_box_here","_law_number","_law_room","_law_words","_law_which","_law_lost"] (pA oB) (eG oB):=fY
def eJ:aj:=544
def eX:aj:=840
def nY:aj:=483
def rV:aj:=164
def rY:aj:=116
def nZ:aj:=92
def uT:aj:=140
def zY:aj:=152
def rZ:aj:=104
def nv:aj:=128
def jM:aj:=44
def zX:aj:=176
def rX:aj:=188
def rW:aj:=200
def pB:aj:=224
def ij:aj:=212
def kE:aj:=68
def iP:aj:=56
def kC:aj:=80
def gm:aj:=31
def jU:aj:=243
def EA:aj:=555
def yi:aj:=562
def um:aj:=569
def yn:aj:=576
def ym:aj:=581
def yj:aj:=588
def yh:aj:=595
abbrev gU:ao aj:=[jM,iP,kE,kC,nZ,rZ,rY,nv,pB,uT,zY,rV,zX,rX,rW,ij,jU]
section
variable (P:ae)(w:af)(K:aa)(mg:Str->aq ak)(eB:Heap)
abbrev Tj:Prop:=yw P w K mg eB "_law_box" 1 (pA wZ) (Aq K)
abbrev N9:Prop:=yw P w K mg eB "_law_take" 1 (pA sH) (kT M9)
abbrev Ob:Prop:=yw P w K mg eB "_law_same" 6 (pA s_same) (kT SM)
abbrev Og:Prop:=yw P w K mg eB "ends" 1 (pA sO) (kT SN)
abbrev Em:Prop:=yw P w K mg eB "pieces" 2 (pA nH) (kT HC)
abbrev yg:Prop:=yw P w K mg eB "bar_of" 3 (pA nJ) (kT Ng)
abbrev zV:Prop:=yw P w K mg eB "is_bars" 1 (pA mn) (kT HE)
abbrev yf:Prop:=yw P w K mg eB "joined" 1 (pA nI) (kT BC)
abbrev mF:Prop:=yw P w K mg eB "with_key" 1 (pA lA) (kT M8)
abbrev oZ:Prop:=yw P w K mg eB "without_key" 1 (pA i0) (kT xS)
abbrev gp:Prop:=RK P w K mg eB "Stand" eJ 1 (pA hJ) (kT<|Hy eJ)
abbrev iH:Prop:=kK P w K mg eB eJ "check_there" 1 (pA gz) (iD<|Ge eJ gU)
abbrev mR:Prop:=kK P w K mg eB eJ "parts" 2 (pA i9) (iD<|By eJ gU)
abbrev nW:Prop:=kK P w K mg eB eJ "source" 3 (pA iN) (iD<|xT eJ gU)
abbrev jF:Prop:=uZ P w K mg eB eJ "takes_by_names" 2 (pA fR) (kT<|D1 eJ)
abbrev p6:Prop:=kK P w K mg eB eJ "take" 3 (pA jy) (iD<|Gi eJ gU)
abbrev mQ:Prop:=uZ P w K mg eB eJ "shelf" 3 (pA i8) (kT<|HA eJ)
abbrev rk:Prop:=mG P w K mg eB "check_new" 1 (pA j4) (iD<|VX eJ gU)
abbrev rl:Prop:=mG P w K mg eB "check_age" 1 (pA j5) (iD<|Nh gU)
abbrev mP:Prop:=mG P w K mg eB "check_place" 1 (pA i7) (iD<|Bx eJ gU)
abbrev Ti:Prop:=mG P w K mg eB "put" 6 (pA wW) (iD<|kL eJ gU 0)
abbrev Od:Prop:=mG P w K mg eB "join" 6 (pA sL) (iD<|kL eJ gU 1)
abbrev HX:Prop:=mG P w K mg eB "found" 6 (pA pL) (iD<|kL eJ gU 2)
abbrev Oi:Prop:=mG P w K mg eB "aged" 6 (pA sQ) (iD<|kL eJ gU 3)
abbrev Oh:Prop:=mG P w K mg eB "drop" 6 (pA sP) (iD<|kL eJ gU 4)
abbrev Of:Prop:=mG P w K mg eB "free" 6 (pA sN) (iD<|kL eJ gU 5)
abbrev Oa:Prop:=mG P w K mg eB "shut" 6 (pA sI) (iD<|kL eJ gU 6)
abbrev rj:Prop:=mG P w K mg eB "stand_behind" 7 (pA iL) (iD<|x6 eJ gU)
abbrev jL:Prop:=Im P w K mg eB "Room" eX 3 (pA iz) (iD<|Bv eX eJ gU)
abbrev iO:Prop:=uZ P w K mg eB eX "now" 1 (pA lF) (kT<|Zw eX eJ)
abbrev jv:Prop:=kK P w K mg eB eX "deed" 8 (pA ki) (iD<|xY eX eJ gU)
abbrev B2:Prop:=uZ P w K mg eB eX "deeds" 1 (pA jD) (kT<|Nb eX eJ true)
abbrev En:Prop:=uZ P w K mg eB eX "size" 2 (pA j6) (kT<|qY eX eJ SE)
abbrev uf:Prop:=uZ P w K mg eB eX "names" 2 (pA jB) (kT<|qY eX eJ FV)
abbrev vC:Prop:=kK P w K mg eB eX "bars" 5 (pA kl) (iD<|pY eX eJ gU SH)
abbrev GC:Prop:=kK P w K mg eB eX "age" 5 (pA lG) (iD<|pY eX eJ gU Zo)
abbrev B1:Prop:=kK P w K mg eB eX "parts" 5 (pA jA) (iD<|pY eX eJ gU FU)
abbrev za:Prop:=kK P w K mg eB eX "source" 5 (pA ja) (iD<|xU eX eJ gU)
abbrev Eo:Prop:=uZ P w K mg eB eX "cuts" 5 (pA kj) (kT<|qY eX eJ SG)
abbrev BZ:Prop:=uZ P w K mg eB eX "takes" 5 (pA jz) (kT<|qY eX eJ MT)
abbrev nX:Prop:=kK P w K mg eB eX "put" 9 (pA lE) (iD<|iT eX eJ gU 0 4)
abbrev oM:Prop:=kK P w K mg eB eX "join" 9 (pA kc) (iD<|iT eX eJ gU 1 5)
abbrev ug:Prop:=kK P w K mg eB eX "found" 9 (pA jC) (iD<|iT eX eJ gU 2 4)
abbrev vD:Prop:=kK P w K mg eB eX "aged" 9 (pA km) (iD<|iT eX eJ gU 3 3)
abbrev vB:Prop:=kK P w K mg eB eX "drop" 9 (pA kh) (iD<|iT eX eJ gU 4 2)
abbrev vA:Prop:=kK P w K mg eB eX "free" 9 (pA ke) (iD<|iT eX eJ gU 5 2)
abbrev rm:Prop:=kK P w K mg eB eX "shut" 9 (pA j7) (iD<|iT eX eJ gU 6 2)
abbrev vz:Prop:=kK P w K mg eB eX "redo" 2 (pA j9) (iD<|Gm eX eJ ij)
abbrev mV:Prop:=RK P w K mg eB "BestMakes" nY 1 (pA ip) (kT xZ)
abbrev m9:Prop:=uZ P w K mg eB nY "counted" 1 (pA iE) (kT xZ)
abbrev mU:Prop:=uZ P w K mg eB nY "numbered" 1 (pA il) (kT xZ)
abbrev nV:Prop:=yw P w K mg eB "joining_of_takes" 1 (pA iM) (kT xZ)
abbrev uS:Prop:=mG P w K mg eB "best_of" 4 (pA mq) (iD<|BE kE)
abbrev sx:Prop:=kK P w K mg eB eX "coming" 7 (pA jb) (iD<|BD eX eJ jU)
abbrev Ek:Prop:=mG P w K mg eB "_law_second" 10 (pA nF) (iD<|Bu eX eJ gU)
abbrev vw:Prop:=mG P w K mg eB "check_run" 1 (pA j3) (iD<|uN jM)
abbrev zW:Prop:=mG P w K mg eB "bars_of" 2 (pA mv) (iD<|BG jM)
abbrev ye:Prop:=yw P w K mg eB "unfolded" 1 (pA lD) (kT Zs)
abbrev qi:Prop:=mG P w K mg eB "checked_place" 1 (pA iw) (iD<|Bw iP)
abbrev zQ:Prop:=mG P w K mg eB "take_of" 1 (pA ma) (iD<|Gg iP)
abbrev Oc:Prop:=mG P w K mg eB "made" 2 (pA sJ) (iD<|Gp iP)
abbrev vt:Prop:=yw P w K mg eB "make_text" 1 (pA mT) (kT xZ)
abbrev qh:Prop:=yw P w K mg eB "close_bracket" 1 (pA jJ) (kT xZ)
abbrev m8:Prop:=yw P w K mg eB "number_of_figures" 1 (pA gy) (kT DZ)
abbrev ue:Prop:=mG P w K mg eB "loose_make" 2 (pA jx) (iD<|xX kC)
abbrev zR:Prop:=mG P w K mg eB "make_of" 3 (pA mh) (iD<|Bz kC)
abbrev HY:Prop:=mG P w K mg eB "_law_first" 10 (pA pO) (iD<|Gr gU)
abbrev Oe:Prop:=mG P w K mg eB "_law_full" 10 (pA sM) (iD<|xW 60 10 gU)
abbrev zS:Prop:=mG P w K mg eB "_law_shut" 10 (pA mi) (iD<|xW 39 12 gU)
abbrev El:Prop:=yw P w K mg eB "_law_raised" 11 (pA nG) (kT<|HB K gU gm eX eJ)
abbrev HW:Prop:=WD P w K mg eB "_law_kinds" 1 (pA mI) (BB K gU gm)
abbrev zU:Prop:=yw P w K mg eB "_law_kinds" 1 (pA mI) (kT<|HD K gU gm)
abbrev kI:Prop:=J1 P w K mg eB "NoWay" jU "first" "behind" 1
abbrev zT:Prop:=yw P w K mg eB "_law_made" 3 (pA mj) (kT<|Nd K gU gm)
end
section
variable {P:ae}{w:af}{K:aa}{mg:Str->aq ak}{eB:Heap}{f:aj}{fd:ah}
def okE {x qual:Str}{st:Stmt}{N ps:ao Str}{k:Nat}{fs:ot}(F:iS K x qual st f fd)(S:eR N ps (eG st))(h:∃ W,(∀ {hZ A eM s H E},iq k (A.deeper<|envOfC qual (eG st) s.heap.objs.size f hZ)->zc (px nr P w K mg eB N qual (eG st) f hZ A eM s H E).U8 (iI st) W)/\∀ ds μ Kd,fs ds μ Kd->ds.length=ps.length/\((∀(j:Nat) (m:MO),μ[j]?=some m->zt μ.length m)->r6 μ.length ds->W (AQ μ.length Kd) (oS N ds) μ)):fA P w K mg eB nr (k+1) f fd ps (kT fs):=let ⟨_,a,b⟩:=h;F.okD S (λds μ Kd q=>(b ds μ Kd q).1) λhZ A o s H E hr=>⟨_,a hr,λds μ Kd u v q=>(b ds μ Kd q).2 u v⟩
theorem NR:∀ {ps:ao Pq} {ds:ao D} {k:Ku ps},dM ps ds k->ds.length=ps.length
 |[],[],k,h=>rfl
 |.v::ps,n::ds,k,h|.i::ps,.int n::ds,k,h|.s::ps,.str n::ds,k,h|.l::ps,.lst n::ds,k,h|.m::ps,.mr n::ds,k,h|.b::ps,.bl n::ds,k,h|.t::ps,.tup n::ds,k,h=>bG (·+1) (NR (ps:=ps) h)
def ER {x qual:Str}{st:Stmt}{N ps:ao Str}{k:Nat}{pt:ao Pq}{fk:MS->DK->Ku pt}(F:iS K x qual st f fd)(S:eR N ps (eG st))(h:∃ W,(∀ {hZ A eM s H E},iq k (A.deeper<|envOfC qual (eG st) s.heap.objs.size f hZ)->zc (px nr P w K mg eB N qual (eG st) f hZ A eM s H E).U8 (iI st) W)/\∀ ds μ Kd,dM pt ds (fk μ Kd)->(∀(j:Nat) (m:MO),μ[j]?=some m->zt μ.length m)->r6 μ.length ds->W (AQ μ.length Kd) (oS N ds) μ)(hn:pt.length=ps.length:=by rfl):fA P w K mg eB nr (k+1) f fd ps (kT λds μ Kd=>dM pt ds<|fk μ Kd):=let ⟨_,a,b⟩:=h;F.okD S (λds μ Kd q=>(NR q).trans hn) λhZ A o s H E hr=>⟨_,a hr,λds μ Kd u v q=>b ds μ Kd q u v⟩
def U6 (F:iS K "_law_box" "_law_box" wZ f fd)(T:jY mg)  : fA P w K mg eB nr 1 f fd (pA wZ) (Aq K):=by
 refine F.ok Um (λvs H Q E h=>?_) (λhZ A eM s H vs Q E hr h=>?_)
 .unfold Aq at h;split at h
  .rfl
  .cases h
 .unfold Aq at h;split at h
  .rename_i a;obtain⟨ns,hs,k⟩:=h;refine⟨_,(lY<|oW<|LJ<|fh (zo Sl (by rfl) T.list bW<|fh (l9 0) hU)<|fh gF<|fh gF<|fh gF hU),?_⟩;refine⟨_,hs,λl hl=>?_⟩;refine⟨(zs),λb hb=>?_⟩;have hlb:l≠b:=fS (o:=.lst<|ns.map V.int) eZ hb;have hb0:H b=none:=by rw[e9 hlb.symm]at hb;exact hb
   refine k b l _ ⟨ns,0,0,1,eZ,by rw[e9 hlb];exact eZ,hlb,by decide,by decide,by decide⟩ hb0 hl λc o e=>?_;rw[e9 (fS e hb0),e9 (fS e hl)];exact e
  .cases h
def Ql (F:iS K "_law_take" "_law_take" sH f fd)(T:jY mg)  : fA P w K mg eB nr 1 f fd (pA sH) (kT M9):=by
 refine fA.imp (sp:=vT) ?_ λvs H Q E h=>KY h;refine F.ok tH (λvs H Q E h=>?_) (λhZ A eM s H vs Q E hr h=>?_)
 .obtain⟨b,n,q,rfl,_⟩:=u5 h;rfl
 .obtain⟨b,n,q,rfl,⟨ns,i,r,z,hb,hq,nqb,hi,hz,ON⟩,hn,FT,k⟩:=u5 h;refine⟨_,(gN (u9 (oC gtC (qK Mp (l9 0) gF λ_ _=>rfl) gF<|jq _)
   (gN (uC (i:=2) tH.nd rfl (by first|exact Or.inl rfl|exact Or.inr rfl)<|qK Mp (l9 0) gF λ_ _=>rfl)
   (gN (xf (lM divC (l9 2)<|l9 1)<|AZ (l9 0) gF setC)
   (lY<|oW<|lM yX (l9 2)<|l9 1)))
   ni)
   (gN (xf (lM yX (lM Ou (lM mulC (qK Mp (l9 0) gF λ_ _=>rfl) gF) gF) gF)<|AZ (l9 0) gF setC)
   (PU (u9 (oC ltC (qK Mp (l9 0) gF λ_ _=>rfl) (gv Qw (by rfl) T.len dW<|fh (qK Mp (l9 0) gF λ_ _=>rfl) hU)<|jq _)
   (gN (uC (i:=3) tH.nd rfl (by first|exact Or.inl rfl|exact Or.inr rfl)<|qK Mp (qK Mp (l9 0) gF λ_ _=>rfl) (qK Mp (l9 0) gF λ_ _=>rfl) λ_ _=>rfl)
   (gN (PY (l9 0) gF getC gF Hr setC)
   (gN (u9 (oC geC (l9 3) (lM powC gF gF)<|jq _)
   (gN (xf (lM divC (l9 3)<|l9 1)<|AZ (l9 0) gF setC)
   (lY<|oW<|lM yX (l9 3)<|l9 1))
   ni)
   (lY<|xf (lM yX (lM Ou (qK Mp (l9 0) gF λ_ _=>rfl)<|lM mulC (l9 3) gF) gF)<|AZ (l9 0) gF setC))))
   ni)
   (gN (uC (i:=4) tH.nd rfl (by first|exact Or.inl rfl|exact Or.inr rfl)<|qK Mp (l9 0) gF λ_ _=>rfl)
   (gN (uC (i:=5) tH.nd rfl (by first|exact Or.inl rfl|exact Or.inr rfl)<|lM yX (lM Ou (lM mulC (l9 4)<|l9 4)<|lM divC (l9 4) gF) gF)
   (lY<|oW<|lM yX (lM yX (lM Ou (lM mulC (l9 5) gF)<|l9 4) gF)<|l9 1)))))),?_⟩
  have fin:∀(v:Int) (H':Hp) (i' r' z':Int),OB b H H'->H' b=some (.lst [.ref q,.int i',.int r',.int z'])->0<=i'->0<=z'->z'<2147483647->Q (.int<|v%n) H':=λv H' i' r' z' ob MM h1 h2 h3 =>k _ _ (Int.emod_nonneg _<|by lia) (Int.emod_lt_of_pos _ hn) ⟨ns,i',r',z',MM,(ob q nqb).trans hq,nqb,h1,h2,h3⟩ ob
  have md:∀ x:Int,0<=x%2147483647/\x%2147483647<2147483647:=λx=>⟨Int.emod_nonneg _<|by decide,Int.emod_lt_of_pos _<|by decide⟩;refine⟨_,.inl hb,?_⟩;refine ph (λh1=>?_) (λh1=>?_)
  .refine⟨_,.inl hb,⟨hn,FT⟩,_,hb,hn,?_⟩;exact fin _ _ _ _ _ OB.refl.upd eZ hi hz ON
  .refine⟨_,.inl hb,.inr ⟨by decide,by decide⟩,pM,_,hb,?_⟩;have ob1:∀ o,OB b H (upd H b o):=λo=>OB.refl.upd;refine⟨λgL H'=>∃(c:aq V) (i' r' z':Int),gL=[some (.ref b),some (.int n),none,c,none,none]/\OB b H H'/\H' b=some (.lst [.ref q,.int i',.int r',.int z'])/\0<=i'/\0<=z'/\z'<2147483647,?_,?_⟩
   .refine⟨_,.inl eZ,_,.inl eZ,_,.inl<|(ob1 _ q nqb).trans hq,?_⟩;refine ph (λh2=>?_) (λh2=>?_)
    .have h2':i<(ns.length:Int):=by simpa using h2
     obtain⟨c,hc⟩:∃ c,ns[i.toNat]?=some c:=⟨ns[i.toNat]'(by lia),vk _⟩
     have e:wq (ns.map V.int) i=some (.int c):=by have q:=p7 (xs:=ns.map V.int) (j:=i.toNat) (v:=.int c) (by rw[wd,hc];rfl);rwa [Int.toNat_of_nonneg hi]at q
     refine⟨_,.inl eZ,_,.inl eZ,_,.inl<|(ob1 _ q nqb).trans hq,eY e ?_⟩
     refine⟨_,eZ,by decide,_,eZ,?_⟩
     refine⟨⟨by decide,by decide,by decide⟩,?_⟩
     refine ph (λh3=>?_) (λh3=>?_)
     .refine⟨⟨hn,FT⟩,_,eZ,hn,?_⟩;exact fin _ _ (i+1) _ _ OB.refl.upd.upd.upd eZ (by lia) (md _).1 (md _).2
     .refine⟨_,.inl eZ,.inr ⟨by decide,by decide⟩,pM,_,eZ,?_⟩;exact⟨_,i+1,_,_,rfl,OB.refl.upd.upd.upd,eZ,by lia,(md _).1,(md _).2⟩
    .exact⟨_,i,_,_,rfl,OB.refl.upd,eZ,hi,(md _).1,(md _).2⟩
   .rintro gL H' ⟨c,i',r',z',rfl,ob,MM,h1,h2,h3⟩;refine⟨_,.inl MM,.inl ⟨by lia,by lia⟩,⟨by decide,by decide⟩,pN,.inr ⟨by decide,by decide⟩,pM,hn,?_⟩;exact fin _ _ i' _ _ ob MM h1 h2 h3
def Qr (F:iS K "ends" "ends" sO f fd)(T:jY mg)  : fA P w K mg eB nr 1 f fd (pA sO) (kT SN):=by refine ER F PB ⟨_,λhr=>(eU<|fX<|qo (qo (gG false<|a1 fc)<|NH Sl (Pn (m:=false)) (by rfl) T.list bW<|a1<|dv 1)<|gG false<|a1<|dv 0),λds μ Kd h hm hl=>?_⟩;obtain⟨n,x,rfl,cs,ex,hc,kk⟩:=dJ h;refine⟨zs,eY ex ⟨by rw[jf];exact sz (by show 1+cs.length<=_;lia),zs,by rw[mJ,jf];exact sz (by show 1+cs.length+1<=_;lia),?_⟩⟩;rw[Nq];exact .keep kk
def PZ (es:ao Int):List.zipWith (λa b=>D.tup [a,b]) (es.map D.int) (L2.cutD (es.map D.int) (some 1) none)=(prs es).map Ye:=by
 have e:L2.cutD (es.map D.int) (some 1) none=es.tail.map D.int:=by
  unfold L2.cutD;rw[show(1:Int)=((1:Nat):Int)from rfl,HT.rN,HT.tO,jf];cases es with
  |nil=>rfl
  |cons a es=>rw[aT,cY (by lia)];simp[bH]
 rw[e];unfold prs;have key:∀(xs ys:ao Int),List.zipWith (λa b=>D.tup [a,b]) (xs.map D.int) (ys.map D.int)=(xs.zip ys).map Ye:=by
  intro xs;induction xs with
  |nil=>intro ys;simp
  | cons x xs ih =>
   intro ys;cases ys with
   |nil=>simp
   |cons y ys=>rw[aK,aK,List.zipWith_cons_cons,ih,dF,aK];rfl
 exact key es es.tail
def Jg (F:iS K "pieces" "pieces" nH f fd)(T:jY mg)(WL:Og P w K mg eB):fA P w K mg eB nr 2 f fd (pA nH) (kT HC):=by
 refine ER F zi ⟨_,λhr=>(eK (qS 2 zi.nd<|qC WL hr<|a2 (dv 0)<|dv 1)
  (eU<|fX<|JS false rfl (by rfl) T.list (by rfl) T.zip<|a2 (dv 2)<|p0 false (dv 2) (pR fc) Fy)),λds μ Kd h hm hl=>?_⟩
 obtain⟨n,x,rfl,cs,ex,hc,kk⟩:=dJ h;refine⟨cs,ex,hc,?_⟩;show Fz _ _ (.lst<|List.zipWith (λa b=>D.tup [a,b]) ((l4 n cs).map D.int)<|L2.cutD ((l4 n cs).map D.int) (some 1) none) μ;rw[PZ];exact .keep kk
def Ji (F:iS K "bar_of" "bar_of" nJ f fd)(T:jY mg)(OE:Em P w K mg eB):fA P w K mg eB nr 3 f fd (pA nJ) (kT Ng):=by
 refine ER F rL ⟨_,λhr=>(eK (wX PassesOwn.never rfl (uL<|qC OE hr<|a2 (dv 0)<|dv 1) (wC 2<|lR (qT 3 rL.nd)<|lR (qT 4 rL.nd) wD)
  (eU (iu (l6<|yc (Wt rfl) E8 (by rfl) T.all PyProof.Rows.boot_all<|a1<|Xb false (Rr (N:=["text","age","first","behind"]) (js:=[none,none,some 3,some 4]) rL<|by decide +kernel) (uL<|dv 2) (λ_ _ _ nd=>(wC 2<|lR (qT 0 nd)<|lR (qT 1 nd) wD)) (λ_ _ _=>wA) λ_ _ _=>(HQ inC R1 eQ (p0 false (dv 0) (pR<|dv 2)<|pR<|dv 3)<|by with_unfolding_all rfl))
  (eU<|fX<|lN<|a2 (dv 3)<|dv 4)
  gb)))
  (eU<|fX Ta)),λds μ Kd h hm hl=>?_⟩
 obtain⟨n,x,y,rfl,cs,ts,ex,ey,hc,ht,hn,kk⟩:=dJ h;refine⟨cs,ex,hc,?_⟩;refine nT (λds ρ fj=>∃(ps:ao (Int×Int)) (a b:aq D),ds=ps.map Ye/\Es (l4 n cs) ts=ps.find? (bad ts)/\ρ=[some (.int n),some x,some y,a,b]/\fj=μ) ⟨_,none,none,rfl,rfl,rfl,rfl⟩ ?_ ?_
 .rintro d SS ρ fj ⟨ps,a,b,e,hf,rfl,rfl⟩;refine⟨trivial,λnx Kr=>?_⟩;cases ps with
  |nil=>cases e
  | cons p ps =>
   cases e;refine⟨rfl,?_⟩;refine eY ey ⟨by rw[jf];exact sz (by have:=ht.nj;lia),?_⟩;refine zN (YM ey) (λd=>match d with|.tup [.str z,_]=>some (.bl<|decide (120∈kH z.cps.toList (some p.1) (some p.2)))|_=>none) (λd hd K' k'=>?_) ?_
   .obtain⟨t,ht',rfl⟩:=List.mem_map.mp hd;have hz:=ht.ok t ht';refine⟨rfl,?_⟩;refine⟨by rw[rG];exact sz<|by lia,120,rfl,?_⟩;rw[Xa];exact k'
   .refine⟨ts.map λt=>decide (120∈Rf t.1 p.1 p.2),?_,?_⟩
    .show some _=_;rw[List.filterMap_map,a8];congr 1;rw[<- List.filterMap_eq_map];rfl
    .have eb:(ts.map λt=>decide (120∈Rf t.1 p.1 p.2)).all id=bad ts p:=by unfold bad;rw[List.all_map];rfl
     rw[bD,<- eb]at hf
     refine Vv (b:=(ts.map λt=>decide (120∈Rf t.1 p.1 p.2)).all id) (λhb=>?_) (λhb=>?_)
     .refine⟨zs,.keep ?_⟩;rw[hb]at hf;rw[hf]at kk;exact kk
     .rw[hb]at hf;exact Kr _ _ ⟨ps,_,_,rfl,hf,rfl,rfl⟩
 .rintro ρ fj ⟨ps,a,b,e,hf,rfl,rfl⟩;cases ps with
  | nil =>rw[hf]at kk;exact⟨trivial,.keep kk⟩
  |cons p ps=>cases e
def Dm (n:Nat){f:aj}{fd:ah}(F:iS K "_law_same" "_law_same" s_same f fd)(T:jY mg)(yy:yw P w K mg eB "_law_same" n ["_law_found","_law_due"] (spS n)):fA P w K mg eB nr (n+1) f fd ["_law_found","_law_due"] (uv n):=by
 refine F.ok Py (λvs H Q E h=>?_) (λhZ A eM s H vs Q E hr h=>?_)
 .unfold uv at h;split at h
  .rfl
  .cases h
 .unfold uv at h;split at h
  .rename_i x y;obtain⟨d,hd,hw,hx,hy,k⟩:=h;refine⟨_,(gN (u9 (PW.pt<|pw_or (tR<|gv sU (by rfl) T.isinstance aP<|fh (l9 1)<|fh (ji (v:=.ty "bool") rfl T.bool cV rfl) hU)<|pw_or1<|tR<|gv sU (by rfl) T.isinstance aP<|fh (l9 0)<|fh (ji (v:=.ty "bool") rfl T.bool cV rfl) hU)
   (lY<|oW<|vY (gv sU (by rfl) T.isinstance aP<|fh (l9 1)<|fh (ji (v:=.ty "bool") rfl T.bool cV rfl) hU)<|vY (gv sU (by rfl) T.isinstance aP<|fh (l9 0)<|fh (ji (v:=.ty "bool") rfl T.bool cV rfl) hU)<|Fl<|vX eqN (l9 0) (l9 1)<|jq _)
   ni)
   (gN (u9 (PW.pt<|pw_or (tR<|gv sU (by rfl) T.isinstance aP<|fh (l9 1)<|fh (ji (v:=.ty "list") rfl T.list bW rfl) hU)<|pw_or1<|tR<|gv sU (by rfl) T.isinstance aP<|fh (l9 1)<|fh (ji (v:=.ty "tuple") rfl T.tuple cm rfl) hU)
   (gN (u9 (PW.pt<|pw_or (oC Cm (gv sU (by rfl) T.isinstance aP<|fh (l9 1)<|fh (ji (v:=.ty "list") rfl T.list bW rfl) hU) (gv sU (by rfl) T.isinstance aP<|fh (l9 0)<|fh (ji (v:=.ty "list") rfl T.list bW rfl) hU)<|jq _)<|pw_or1<|oC Cm (gv sU (by rfl) T.isinstance aP<|fh (l9 1)<|fh (ji (v:=.ty "tuple") rfl T.tuple cm rfl) hU) (gv sU (by rfl) T.isinstance aP<|fh (l9 0)<|fh (ji (v:=.ty "tuple") rfl T.tuple cm rfl) hU)<|jq _)
   (lY<|oW LQ)
   ni)
   (lY<|oW<|vY (vX eqC (gv Qw (by rfl) T.len dW<|fh (l9 0) hU) (gv Qw (by rfl) T.len dW<|fh (l9 1) hU)<|jq _)<|Fl<|gv (Wt rfl) (by rfl) T.all PyProof.Rows.boot_all<|fh (Hf (NZ (XN:=["_law_found","_law_due"]) (xsc:=(eG s_same)) (N:=["_law_one","_law_other"]) (js:=[none,none])<|by decide +kernel) rfl (UH rfl T.zip<|fh (l9 0)<|fh (l9 1) hU) (λ_ _ _=>(AY (n:=2) rfl (pd (vW (i:=0) (show List.Nodup (["_law_one","_law_other"]:ao Str) by decide +kernel) rfl (by first|exact Or.inl rfl|exact Or.inr rfl))<|pd (vW (i:=1) (show List.Nodup (["_law_one","_law_other"]:ao Str) by decide +kernel) rfl (by first|exact Or.inl rfl|exact Or.inr rfl)) xg))) (λ_ _ _=>Hc) λ_ _ _=>(xh yy (hr.mono<|by first|decide|exact au _|lia) rfl (fh (l9 0)<|fh (l9 1) hU))) hU))
   ni)
   (gN (u9 (PW.pt<|pw_or (oC Cm (gv sU (by rfl) T.isinstance aP<|fh (l9 1)<|fh (ji (v:=.ty "str") rfl T.str PyProof.Rows.boot_str rfl) hU) (gv sU (by rfl) T.isinstance aP<|fh (l9 0)<|fh (ji (v:=.ty "str") rfl T.str PyProof.Rows.boot_str rfl) hU)<|jq _)<|pw_or1<|oC Cm (gv sU (by rfl) T.isinstance aP<|fh (l9 1)<|fh (ji (v:=.ty "int") rfl T.int PyProof.Rows.boot_int rfl) hU) (gv sU (by rfl) T.isinstance aP<|fh (l9 0)<|fh (ji (v:=.ty "int") rfl T.int PyProof.Rows.boot_int rfl) hU)<|jq _)
   (lY<|oW LQ)
   ni)
   (lY<|oW<|vX eqN (l9 0) (l9 1)<|jq _)))),?_⟩
   cases d with
   | bl b =>obtain rfl:x=.bl b:=hx;obtain rfl:y=.bl b:=hy;refine⟨_,true,kO.bl b,iY K _,_,true,kO.bl b,iY K _,_,true,kO.bl b,iY K _,?_⟩;show Q (.bl<|decide (b=b)) H;rw[aH rfl];exact k H (gT.refl H)
   | int i =>obtain rfl:x=.int i:=hx;obtain rfl:y=.int i:=hy;refine⟨_,false,.int i,rfl,_,false,.int i,rfl,_,false,.int i,rfl,_,false,.int i,rfl,_,false,.int i,rfl,_,false,.int i,rfl,_,true,.int i,iY K _,_,true,.int i,iY K _,?_⟩;show Q (.bl<|decide (i=i)) H;rw[aH rfl];exact k H (gT.refl H)
   | str z =>obtain rfl:x=.str z:=hx;obtain rfl:y=.str z:=hy;refine⟨_,false,.str z,rfl,_,false,.str z,rfl,_,false,.str z,rfl,_,false,.str z,rfl,_,true,.str z,iY K _,_,true,.str z,iY K _,_,false,.str z,rfl,_,false,.str z,rfl,?_⟩;show Q (.bl<|decide (z=z)) H;rw[aH rfl];exact k H (gT.refl H)
   | gw =>obtain rfl:x=.gw:=hx;obtain rfl:y=.gw:=hy;refine⟨_,false,.gw,rfl,_,false,.gw,rfl,_,false,.gw,rfl,_,false,.gw,rfl,_,false,.gw,rfl,_,false,.gw,rfl,_,false,.gw,rfl,_,false,.gw,rfl,?_⟩;exact k H (gT.refl H)
   | lst ds =>
    obtain⟨p,vs,rfl,hp,qp⟩:=hx;obtain⟨q,ws,rfl,hq,qq⟩:=hy;obtain⟨m,rfl⟩:∃ m,n=m+1:=⟨n - 1,by unfold dep at hd;lia⟩;have DM:y7 ds<=m:=by unfold dep at hd;lia
    have hw1:ds.length<sizeLine:=by unfold OH at hw;lia
    have hw2:yH ds<sizeLine:=by unfold OH at hw;lia
    have len:vs.length=ws.length:=by rw[qp.len,qq.len]
    refine⟨_,false,kO.lst hq,rfl,_,false,kO.lst hp,rfl,_,true,kO.lst hq,iY K _,_,true,kO.lst hq,iY K _,_,true,kO.lst hp,iY K _,_,false,kO.lst hq,rfl,_,false,kO.lst hp,rfl,?_⟩;refine⟨_,.inl hp,_,.inl hq,?_⟩;refine DD (λ_=>?_) (λh=>(h<|by rw[len]).elim);refine⟨false,_,_,hp,hq,?_⟩;refine HS len (λi ys H'=>ys=List.replicate i (V.bl true)/\gT H H') ⟨rfl,gT.refl H⟩ (λi ys H' h=>⟨h.2 _ _ hp,h.2 _ _ hq⟩) ?_ ?_
    .rintro i x' y' ys H' T' hi ex ey ⟨rfl,S⟩ hT;refine⟨_,eZ,rfl,Ext.Yi,?_⟩;obtain⟨d1,e1,i1⟩:=qp.get ex;obtain⟨d2,e2,i2⟩:=qq.get ey;rw[e1]at e2;cases e2;have S2:gT H (upd H' T'<|.tup [x',y']):=S.trans<|gT.upd hT;refine⟨d1,aG (ya e1) DM,bR (wy e1) hw2,i1.mono S2 _ _,i2.mono S2 _ _,λH3 S3=>?_⟩;exact cnx hi (by rw[bc];have:=qp.len;lia) ⟨by rw[List.replicate_succ'],S2.trans S3⟩
    .rintro ys H' ⟨rfl,S⟩ D hD;refine⟨List.replicate vs.length true,by rw[eZ,List.map_replicate],?_⟩;have e:(List.replicate vs.length true).all id=true:=by rw[cx];intro b hb;rw[(List.mem_replicate.mp hb).2];rfl
     show Q (.bl<|(List.replicate vs.length true).all id) (upd H' D<|.lst<|List.replicate vs.length<|V.bl true);rw[e];exact k _ (S.trans<|gT.upd hD)
   | tup ds =>
    obtain⟨p,vs,rfl,hp,qp⟩:=hx;obtain⟨q,ws,rfl,hq,qq⟩:=hy;obtain⟨m,rfl⟩:∃ m,n=m+1:=⟨n - 1,by unfold dep at hd;lia⟩;have DM:y7 ds<=m:=by unfold dep at hd;lia
    have hw1:ds.length<sizeLine:=by unfold OH at hw;lia
    have hw2:yH ds<sizeLine:=by unfold OH at hw;lia
    have len:vs.length=ws.length:=by rw[qp.len,qq.len]
    refine⟨_,false,kO.tup hq,rfl,_,false,kO.tup hp,rfl,_,false,kO.tup hq,rfl,_,true,kO.tup hq,iY K _,_,false,kO.tup hq,rfl,_,false,kO.tup hp,rfl,_,true,kO.tup hq,iY K _,_,true,kO.tup hp,iY K _,?_⟩;refine⟨_,.inr hp,_,.inr hq,?_⟩;refine DD (λ_=>?_) (λh=>(h<|by rw[len]).elim);refine⟨true,_,_,hp,hq,?_⟩;refine HS len (λi ys H'=>ys=List.replicate i (V.bl true)/\gT H H') ⟨rfl,gT.refl H⟩ (λi ys H' h=>⟨h.2 _ _ hp,h.2 _ _ hq⟩) ?_ ?_
    .rintro i x' y' ys H' T' hi ex ey ⟨rfl,S⟩ hT;refine⟨_,eZ,rfl,Ext.Yi,?_⟩;obtain⟨d1,e1,i1⟩:=qp.get ex;obtain⟨d2,e2,i2⟩:=qq.get ey;rw[e1]at e2;cases e2;have S2:gT H (upd H' T'<|.tup [x',y']):=S.trans<|gT.upd hT;refine⟨d1,aG (ya e1) DM,bR (wy e1) hw2,i1.mono S2 _ _,i2.mono S2 _ _,λH3 S3=>?_⟩;exact cnx hi (by rw[bc];have:=qp.len;lia) ⟨by rw[List.replicate_succ'],S2.trans S3⟩
    .rintro ys H' ⟨rfl,S⟩ D hD;refine⟨List.replicate vs.length true,by rw[eZ,List.map_replicate],?_⟩;have e:(List.replicate vs.length true).all id=true:=by rw[cx];intro b hb;rw[(List.mem_replicate.mp hb).2];rfl
     show Q (.bl<|(List.replicate vs.length true).all id) (upd H' D<|.lst<|List.replicate vs.length<|V.bl true);rw[e];exact k _ (S.trans<|gT.upd hD)
  .cases h
theorem Hj {f:aj}{fd:ah}(F:iS K "_law_same" "_law_same" s_same f fd)(T:jY mg)(hm:mg "_law_same"=some (.ref f))(hk:W.keepIn K (.ref f)=true)(hb:Binds K fd ["_law_found","_law_due"] []):∀ n,fA P w K mg eB nr (n+1) f fd ["_law_found","_law_due"] (uv n)
 |0=>Dm 0 F T ⟨f,fd,⟨λ_ _ _ _ h=>h.elim,λ_ _ _ _ _ _ _ _ _ _ _ _ _ h=>h.elim⟩,hm,hk,hb⟩
 |n+1=>Dm (n+1) F T ⟨f,fd,Hj F T hm hk hb n,hm,hk,hb⟩
def Jh (F:iS K "joined" "joined" nI f fd)(T:jY mg)  : fA P w K mg eB nr 1 f fd (pA nI) (kT BC):=by
 refine okE F nu ⟨_,λhr=>(eK (lX (dv 0)<|wC 2<|lR (qT 3 nu.nd)<|lR (qT 4 nu.nd) wD)
  (eK (lX (dv 1)<|wC 2<|lR (qT 5 nu.nd)<|lR (qT 6 nu.nd) wD)
  (eK (qS 7 nu.nd<|yc (YE rfl) K9 (by rfl) T.max PyProof.Rows.boot_max<|a2 (dv 2) fc)
  (eU<|fX<|lN<|a2 (qo (p0 false (dv 3) Fy<|pR<|dv 7)<|p0 false (dv 5) (pR<|dv 7) Fy)<|qo (yc (YE rfl) K9 (by rfl) T.max PyProof.Rows.boot_max<|a2 (dv 4)<|dv 6) fc)))),λds μ Kd h=>?_⟩
 unfold BC at h;split at h
 .rename_i z a y b p;refine⟨rfl,λhm hl=>?_⟩;obtain⟨x,u,rfl,rfl,rfl,rfl,hp,hx,hu,kk⟩:=h;have lz1:(txt x.1).length<=sizeLine:=by rw[rG];exact sz (by lia)
  have lz2:(txt u.1).length<=sizeLine:=by rw[rG];exact sz (by lia)
  have c1:=wj x.1 none<|some<|max p 0;have c2:=wj u.1 (some<|max p 0) none;refine⟨rfl,rfl,lz1,lz2,?_,zs,.keep ?_⟩
  .show(txt<|kH x.1 none<|some<|max p 0).length+(txt<|kH u.1 (some<|max p 0) none).length<=sizeLine;rw[rG,rG];exact sz (by lia)
  .show Kd (.tup [.str (txt (kH x.1 none<|some<|max p 0)++txt (kH u.1 (some<|max p 0) none)),.int (max x.2 u.2+1)]) μ;rw[show max p 0=p by lia,r0,HR hp,zM hp];exact kk
 .cases h
def Dl (F:iS K "unfolded" "unfolded" lD f fd)(T:jY mg)  : fA P w K mg eB nr 1 f fd (pA lD) (kT Zs):=by
 refine ER F j0 ⟨_,λhr=>(eK (qS 1 j0.nd<|gG true fT)
  (eK (qS 2 j0.nd<|gG true<|a1<|dv 0)
  (eK (G5 PassesOwn.never (Pb<|dv 2)
  (eK (qS 3 j0.nd<|HN bx PySem.F.slot_list_pop PySem.F.type_list_pop UE E7<|dv 2)
  (eK (ft<|Ef bx cj cf uh o9 (dv 1)<|a1<|dv 3)
  (eU (iu (l6<|Tb (T:= "tuple") (by simp) (by rfl) T.isinstance (by rfl) T.tuple cm<|dv 3)
  (eK (lX (dv 3)<|wC 3<|lR (qT 4 j0.nd)<|lR (qT 5 j0.nd)<|lR (qT 6 j0.nd) wD)
  (eU<|ft<|Ef bx PySem.F.slot_list_extend PySem.F.type_list_extend QM IC (dv 2)<|a1<|gG false<|a2 (dv 6)<|dv 5))
  gb)))))
  (eU<|fX<|dv 1)))),λds μ Kd h hm hl=>?_⟩
 obtain⟨d,rfl,t,rfl,hc,kk⟩:=dJ h;have lU:=t.vV;have e1:(μ++[MO.lst []]).length=μ.length+1:=by rw[mJ];rfl
 refine⟨zs,zs,?_⟩;refine⟨λm ρ fj=>∃(Td St:ao jG) (v3 v4 v5 v6:aq D),m=(St.flatMap jG.pre).length/\Td++St.flatMap jG.pre=t.pre/\ρ=[some (vL t),some (.mr μ.length),some (.mr<|μ.length+1),v3,v4,v5,v6]/\fj=μ++[.lst (Td.map vL),.lst (St.reverse.map vL)],⟨_,[],[t],none,none,none,none,rfl,by simp,by rw[e1];rfl,by rw[a9];rfl⟩,?_⟩;rintro m ρ fj ⟨Td,St,v3,v4,v5,v6,rfl,pX,rfl,rfl⟩;have hlen:=bG List.length pX;rw[mJ]at hlen;refine eY at1 ?_;cases St with
 | nil =>
  rw[List.flatMap_nil,bg]at pX;refine Vv (b:=false) (λz=>by cases z) (λ_=>?_);refine .lst (au _) (pW at0) (pU λd hd=>?_) (gV hm) ?_
  .obtain⟨x,_,rfl⟩:=List.mem_map.mp hd;exact FG x
  .rw[aV,pX];exact kk
 | cons s St =>
  have er:(s::St).reverse.map vL=St.reverse.map vL++[vL s]:=by rw[c7,aS];rfl
  rw[er];have ne:(!(St.reverse.map vL++[vL s]).isEmpty)=true:=by cases St.reverse.map vL<;>rfl
  rw[ne];refine Vv (b:=true) (λ_=>?_) (λz=>by cases z);rw[br,mJ]at hlen ⊢
  refine⟨nM at1,eY at1<|eY (uJ _ _) ?_⟩;rw[List.dropLast_concat,XR];refine⟨nM at0,eY at0 ⟨T3 (by rw[jf];lia),?_⟩⟩;rw[set0];refine eY (RQ s _) ?_;have et:Td.map vL++[vL s]=(Td++[s]).map vL:=by rw[aS];rfl
  rw[et];cases s with
  | num n =>exact⟨_,by show _<1+_;lia,Td++[.num n],St,_,_,_,_,rfl,by rw[<- pX,a9,br];rfl,rfl,rfl⟩
  | pI p l r =>
   refine⟨rfl,nM at1,zs,eY at1 ⟨sz (by rw[jf,cq];have:St.length<=(St.flatMap jG.pre).length:=tf St;show _+2<=_;lia),?_⟩⟩;rw[XR];refine⟨_,?_,Td++[.pI p l r],l::r::St,_,_,_,_,rfl,?_,rfl,?_⟩
   .rw[br,br,mJ,mJ];show _<((l.pre++r.pre).length+1)+_;rw[mJ];lia
   .rw[<- pX,a9,br,br,br];show Td++(jG.pI p l r::(l.pre++(r.pre++_)))=Td++(jG.pI p l r::(l.pre++r.pre)++_);simp
   .have e2:(l::r::St).reverse.map vL=St.reverse.map vL++[vL r,vL l]:=by simp
    rw[e2]
def A6 (F:iS K "check_run" "check_run" j3 f fd)(T:jY mg)(gc:OwnCls "BadBars" jM iU "ValueError.__new__" mg eB):fA P w K mg eB (lW P w) 1 f fd (pA j3) (iD<|uN jM):=by
 refine F.o5 AA (λds μ Kd Kx h=>y0 h) (λhZ A eM s H E hr fi Kb Z=>⟨_,(eK (iu (qLe (dv 2)<|dv 1)
  (eU<|gD Z rfl gc ar (by decide) ar rfl (a1 eQ))
  gb)
  (eK (iu (qLe (dv 3)<|dv 2)
  (eU<|gD Z rfl gc ar (by decide) ar rfl (a1 eQ))
  gb)
  (eU (iu (X9 (dv 3)<|dv 0)
  (eU<|gD Z rfl gc ar (by decide) ar rfl (a1 eQ))
  gb)))),λds μ m Kd Kx hm hl em h hK=>?_⟩)
 obtain⟨n,e,a,b,rfl,h⟩:=dJ h;obtain⟨_,k1,k2⟩:=h;refine ph (c:=a<=e) (λq=>⟨zs,fC hK em (k2 λz=>by have:=z.1;lia)⟩) (λq1=>?_);refine ph (c:=b<=a) (λq=>⟨zs,fC hK em (k2 λz=>by have:=z.2.1;lia)⟩) (λq2=>?_);refine ph (c:=n<b) (λq=>⟨zs,fC hK em (k2 λz=>by have:=z.2.2;lia)⟩) (λq3=>?_);exact .keep (iG em<|k1 ⟨by lia,by lia,by lia⟩)
def uE (F:iS K "checked_place" "checked_place" iw f fd)(T:jY mg)(ig:OwnCls "BadMake" iP iU "ValueError.__new__" mg eB):fA P w K mg eB (lW P w) 1 f fd (pA iw) (iD<|Bw iP):=by
 refine F.o5 uy (λds μ Kd Kx h=>DS h) (λhZ A eM s H E hr fi Kb Z=>⟨_,(eK (iu (oK U9 R1 (dv 1) (dv 0)<|by with_unfolding_all rfl)
  (eU<|gD Z rfl ig ar (by decide) ar rfl (a1 eQ))
  gb)
  (eU<|fX<|dv 1)),λds μ m Kd Kx hm hl em h hK=>?_⟩)
 obtain⟨y,p,rfl,h⟩:=dJ h;obtain⟨_,cs,rfl,k1,k2⟩:=h;refine⟨rfl,MY cs,?_⟩;rw[Ry];by_cases q:p∈cs
 .rw[aH q];exact .keep (iG em<|k1 q)
 .rw[aw q];exact⟨zs,fC hK em<|k2 q⟩
def Fp (F:iS K "take_of" "take_of" ma f fd)(T:jY mg)(ig:OwnCls "BadMake" iP iU "ValueError.__new__" mg eB):fA P w K mg eB (lW P w) 1 f fd (pA ma) (iD<|Gg iP):=by
 refine F.o5 E9 (λds μ Kd Kx h=>Gf h) (λhZ A eM s H E hr fi Kb Z=>⟨_,(eK (iu (PW.pt<|yJ (Sd (dv 1) fc)<|tG<|Yb (dv 1)<|Q9 T<|dv 0)
  (eU<|gD Z rfl ig ar (by decide) ar rfl (a1 eQ))
  gb)
  (eU<|fX<|BQ (dv 0)<|dv 1)),λds μ m Kd Kx hm hl em h hK=>?_⟩)
 obtain⟨y,n,rfl,h⟩:=dJ h;obtain⟨_,ts,rfl,k1,k2⟩:=h;have k1:∀ v,(if 0<=n then ts[n.toNat]? else none)=some v->Kd (jZ v) μ:=k1;have k2:(if 0<=n then ts[n.toNat]? else none)=none->Kx (.ref iP) μ:=k2;refine ph (c:=n<0) (λz=>⟨zs,fC hK em<|k2<|az<|by lia⟩) (λz0=>?_);rw[aD (by lia)]at k1 k2;refine ph (c:=((ts.map jZ).length:Int)<=n) (λz=>⟨zs,fC hK em<|k2<|List.getElem?_eq_none (by rw[jf]at z;lia)⟩) (λz=>?_);rw[jf]at z;have ht:ts[n.toNat]?=some ts[n.toNat]:=vk (by lia);have a1:wq (ts.map jZ) n=some (jZ ts[n.toNat]):=by have:=Eu (g:=jZ) ht;rwa [Int.toNat_of_nonneg (by lia)]at this
 exact eY a1 (.keep<|iG em<|k1 _ ht)
def Qn (F:iS K "made" "made" sJ f fd)(T:jY mg)(GQ:ye P w K mg eB)(yz:yf P w K mg eB)(vS:qi P w K mg eB)(Ka:zQ P w K mg eB):fA P w K mg eB (lW P w) 2 f fd (pA sJ) (iD<|Gp iP):=by
 refine F.o5 tI (λds μ Kd Kx h=>Gn h) (λhZ A eM s H E hr fi Kb Z=>⟨_,(eK (qS 4 tI.nd<|gG true fT)
  (eK (wX c6 rfl (Y0 rfl T.reversed<|a1<|qC GQ hr<|a1<|dv 3) (qT 5 tI.nd)
  (eU (iu (l6<|Tb (T:= "tuple") (by simp) (by rfl) T.isinstance (by rfl) T.tuple cm<|dv 5)
  (eK (qS 6 tI.nd<|HN bx PySem.F.slot_list_pop PySem.F.type_list_pop UE E7<|dv 4)
  (eK (qS 7 tI.nd<|HN bx PySem.F.slot_list_pop PySem.F.type_list_pop UE E7<|dv 4)
  (eU<|ft<|Ef bx cj cf uh o9 (dv 4)<|a1<|qC yz hr<|a3 (dv 6) (dv 7)<|ir Z.z vS hr.le rfl (a2 (dv 1)<|BQ (dv 5) fc))))
  (eU<|ft<|Ef bx cj cf uh o9 (dv 4)<|a1<|ir Z.z Ka hr.le rfl (a2 (dv 2)<|dv 5)))))
  (eU<|fX<|BQ (dv 4) fc))),λds μ m Kd Kx hm hl em h hK=>?_⟩)
 obtain⟨n,x,y,d,rfl,h⟩:=dJ h;obtain⟨_,cs,ts,t,rfl,rfl,rfl,hc,W6,hn,hts,kk⟩:=h;have lU:=t.vV;obtain⟨ν,Jx⟩:∃ ν,ν=μ.set 0 (.gx fi H):=⟨_,rfl⟩;have g0:ν[0]?=some (.gx fi H):=by rw[Jx];exact eW em
 have l0:0<ν.length:=(mW g0).1;have g1:∀ g:MS,(ν++g)[0]?=some (.gx fi H):=λg=>by rw[tE l0];exact g0
 have bad:∀ {x:jG} {g:MS},x∈t.pre->¬ x.ok cs ts.length->Kb (.ref iP) (ν++g):=λhx no=>by rw[jG.RP hx no]at kk;rw[hK,Jx];refine .inr ⟨gV hm,?_⟩;rw[aV];exact⟨eW em,by rw[jj em];exact kk⟩
 rw[<- Jx];refine⟨zs,t,rfl,hc,?_⟩;obtain⟨V,hV⟩:∃ V:jG->D,V=λx=>jZ (x.val ts):=⟨_,rfl⟩;refine nT (λds ρ fj=>∃(A F:ao jG) (v5 v6 v7:aq D),ds=A.reverse.map vL/\t.pre=A++F.flatMap jG.pre/\(∀ x∈F,x.ok cs ts.length)/\ρ=[some (.int n),some (.lst<|cs.map D.int),some (.lst<|ts.map jZ),some (vL t),some (.mr ν.length),v5,v6,v7]/\fj=ν++[.lst (F.reverse.map V)]) ⟨t.pre,[],none,none,none,by rw[List.map_reverse],by simp,λ_ h=>(nomatch h),rfl,rfl⟩ ?_ ?_
 .rintro d SS ρ fj ⟨A,F,v5,v6,v7,e,pX,W9,rfl,rfl⟩;refine⟨trivial,λnx Kr=>?_⟩;have Zg:F.length<=(F.flatMap jG.pre).length:=tf F;have hlen:=bG List.length pX;rw[mJ]at hlen;rcases List.eq_nil_or_concat A with rfl|⟨A',s,rfl⟩
  .cases e
  .rw[List.concat_eq_append]at pX e hlen;rw[List.reverse_append,aS]at e;cases e;have sin:s∈t.pre:=by rw[pX];simp
   refine eY (RQ s _) ?_;cases s with
   | num k =>
    refine⟨nM iR,g1 _,⟨_,g1 _⟩,ts,rfl,λv hv=>?_,λno=>bad sin λok=>?_⟩
    .have fB:=(jG.Cy hv).1;have hvl:=(jG.Cy hv).2;refine eY iR ⟨T3 (by rw[jf,cq];lia),?_⟩;refine Kr _ _ ⟨A',.num k::F,_,_,_,rfl,by rw[pX,br,a9];rfl,λx hx=>?_,rfl,?_⟩
     .rcases List.mem_cons.mp hx with rfl | hx
      .exact fB
      .exact W9 x hx
     .rw[gM,c7,aS];have:V (.num k)=jZ v:=by rw[hV,<- hvl]
      show _=ν++[.lst (_++[V (.num k)])];rw[this]
    .have:=jG.Hi (cs:=[]) (t:=.num k) ok;rw[no]at this;cases this
   | pI p l r =>
    obtain⟨C,hC⟩:=jG.rO (by rw[pX,a9];rfl:t.pre=A'++.pI p l r::F.flatMap jG.pre);rw[a9]at hC;obtain⟨F1,rfl,h1⟩:=qX hC;obtain⟨F2,rfl,h2⟩:=qX h1;have er:(l::r::F2).reverse.map V=F2.reverse.map V++[V r]++[V l]:=by rw[c7,c7,aS,aS];rfl
    have lok:=W9 l aI;have rok:=W9 r<|o6 _ aI;have vl:=jG.Ak hts lok;have vr:=jG.Ak hts rok;have Vl:V l=jZ (l.val ts):=by rw[hV]
    have Vr:V r=jZ (r.val ts):=by rw[hV]
    rw[er];refine⟨nM iR,eY iR<|eY (uJ _ _) ?_⟩;rw[gM,List.dropLast_concat];refine⟨nM iR,eY iR<|eY (uJ _ _) ?_⟩;rw[gM,List.dropLast_concat,Vl,Vr];refine⟨nM iR,?_⟩;refine⟨g1 _,⟨_,g1 _⟩,cs,rfl,λhp=>?_,λno=>bad sin λok=>no ok.1⟩;have hp0:=W6 p hp;have wl:=vl.1;have wr:=vr.1;refine⟨l.val ts,r.val ts,rfl,rfl,rfl,rfl,hp0,by lia,by lia,?_⟩;refine eY iR ⟨T3 (by rw[jf,cq];rw[aT,aT]at Zg;lia),?_⟩;refine Kr _ _ ⟨A',.pI p l r::F2,_,_,_,rfl,?_,λx hx=>?_,rfl,?_⟩
    .rw[pX,hC,br,h2,a9];show A'++(jG.pI p l r::(l.pre++(r.pre++C)))=A'++(jG.pI p l r::(l.pre++r.pre)++C);simp
    .rcases List.mem_cons.mp hx with rfl | hx
     .exact⟨hp,lok,rok⟩
     .exact W9 x (o6 _<|o6 _ hx)
    .rw[gM,c7,aS];have:V (.pI p l r)=jZ (sv (l.val ts) (r.val ts) p):=by rw[hV];rfl
     show _=ν++[.lst (_++[V (.pI p l r)])];rw[this]
 .rintro ρ fj ⟨A,F,v5,v6,v7,e,pX,W9,rfl,rfl⟩;have hA:A=[]:=by have:=bG List.length e;rw[jf,cq]at this;exact List.length_eq_zero_iff.mp this.symm
  subst hA;obtain⟨F',rfl,h1⟩:=qX (t:=t) (C:=[]) (by rw[bg];exact pX.symm);obtain rfl:=FY h1;have Vt:V t=jZ (t.val ts):=by rw[hV]
  have a0:wq ([t].reverse.map V) 0=some (jZ<|t.val ts):=by show some (V t)=_;rw[Vt]
  rw[jG.Hi (W9 t aI)]at kk;refine⟨trivial,eY iR<|eY a0<|.drop ⟨trivial,trivial,trivial⟩ (gV (by rw[Jx];exact hm)) ?_⟩;rw[aV,Jx];exact iG em kk
def qL (F:iS K "number_of_figures" "number_of_figures" gy f fd)(T:jY mg)(og:uY mg "MOST_FIGURES" 4):fA P w K mg eB nr 1 f fd (pA gy) (kT DZ):=by
 refine ER F qH ⟨_,λhr=>(eK (iu (PW.pt<|yJ (CD<|l6<|HN cU PySem.F.slot_str_isdecimal PySem.F.type_str_isdecimal decS Pr<|dv 0)<|tG<|X9 (Q9 T<|dv 0)<|uR rfl og)
  (eU PF)
  gb)
  (eU<|fX<|NH Jt Pp (by rfl) T.int PyProof.Rows.boot_int<|a1<|dv 0)),λds μ Kd h hm hl=>?_⟩
 obtain⟨z,rfl,n,n0,n1,rfl,kk⟩:=dJ h;obtain⟨z1,z2,z3⟩:=MZ n0 n1;refine kM (!true||decide ((4:Int)<((toString n:Str).length:Int))) (.or (.not<|.gr λK k=>⟨rfl,(show K (.bl<|Txt.isdecimal (toString n:Str)) μ by rw[z1];exact k)⟩) λ_=>.gr λK k=>⟨sz<|by lia,k⟩) (λq=>by rw[aw (by lia)]at q;cases q) (λ_=>mX ?_);exact⟨n,z3,by lia,.keep kk⟩
def Fv (F:iS K "is_bars" "is_bars" mn f fd)(T:jY mg)  : fA P w K mg eB nr 1 f fd (pA mn) (kT HE):=by
 refine ER F Fb ⟨_,λhr=>(eU<|fX<|Tc (HQ eqC Ar (Q9 T<|dv 1) (dv 0)<|jq _)<|SY<|HQ eqC Ar (qo (Ef cU PySem.F.slot_str_count PySem.F.type_str_count NY CL (dv 1)<|a1 eQ)<|Ef cU PySem.F.slot_str_count PySem.F.type_str_count NY CL (dv 1)<|a1 eQ) (dv 0)<|jq _),λds μ Kd h hm hl=>?_⟩;obtain⟨n,z,rfl,hz,kk⟩:=dJ h;refine⟨sz<|by lia,?_⟩;have ox:(((z.cps.toList.count 111:Nat):Int)+((z.cps.toList.count 120:Nat):Int)=n/\((z.length:Nat):Int)=n)↔(((z.length:Nat):Int)=n/\Qh z=true):=by
  have:=N3 z.cps.toList;have lz:z.length=z.cps.toList.length:=(cu (xs:=z.cps)).symm;constructor
  .rintro⟨h1,h2⟩;exact⟨h2,this.mp<|by lia⟩
  .rintro⟨h1,h2⟩;have:=this.mpr h2;exact⟨by lia,h1⟩
 refine DD (c:=((z.length:Nat):Int)=n) (λe=>?_) (λe=>?_)
 .refine⟨rfl,111,rfl,rfl,120,rfl,?_⟩;have:decide (((z.length:Nat):Int)=n/\Qh z=true)=decide (((z.cps.toList.count 111:Nat):Int)+((z.cps.toList.count 120:Nat):Int)=n):=by
   by_cases q:((z.cps.toList.count 111:Nat):Int)+((z.cps.toList.count 120:Nat):Int)=n
   .rw[aH q,aH (ox.mp ⟨q,e⟩)]
   .rw[aw q,aw λy=>q (ox.mpr y).1]
  rw[this]at kk;show Fz _ Kd (.bl<|false != decide (((z.cps.toList.count 111:Nat):Int)+((z.cps.toList.count 120:Nat):Int)=n)) μ;rw[Xa];exact .keep kk
 .rw[aw (λy=>e y.1)]at kk;exact .keep kk
def Dk (F:iS K "with_key" "with_key" lA f fd)(T:jY mg)  : fA P w K mg eB nr 1 f fd (pA lA) (kT M8):=by
 refine okE F u6 ⟨_,λhr=>(eK (qS 3 u6.nd<|NH ZI Ld (by rfl) T.dict PyProof.Rows.boot_dict<|a1<|dv 0)
  (eK (AL (m6 hr) (dv 2) (dv 3)<|dv 1)
  (eU<|fX<|HP<|dv 3))),λds μ Kd h=>?_⟩
 unfold M8 at h;split at h
 .rename_i ks es y v;refine⟨rfl,λhm hl=>?_⟩;obtain⟨kd,k,rfl,rfl,Sz,hk,kk⟩:=h;refine eY rfl ?_;refine⟨kd,dput kd k v,iA,bR Sz<|by decide,by rw[hk];rfl,?_⟩;rw[gM];refine⟨_,_,iA,λo eP Za=>?_⟩;rw[gM];refine Fz.pF (au _) iA (pT hl.1 hl.2.2.1) (gV hm) ?_;rw[aV,Za];exact kk
 .cases h
def xj (F:iS K "without_key" "without_key" i0 f fd)(T:jY mg)  : fA P w K mg eB nr 1 f fd (pA i0) (kT xS):=by
 refine okE F qG ⟨_,λhr=>(eU<|fX<|HP<|QZ (Rr (N:=["other","thing","key"]) (js:=[none,none,some 1]) qG<|by decide +kernel) rfl (K7<|As (vU 0) (pV 0) (As (vU 1) (pV 1) K8 Bk)<|v8 (pV 1) Bk) (L6<|v8 (pV 0)<|v8 (pV 1) Bk) rfl (DH<|dv 0) (λ_ _ _=>(AY (n:=2) rfl (pd (qN 0<|show List.Nodup (["other","thing","key"]:ao Str) by decide +kernel)<|pd (qN 1<|show List.Nodup (["other","thing","key"]:ao Str) by decide +kernel) xg))) (λ_ _ _=>(An<|X8 (dv 0)<|dv 2)) (λ_ _ _=>(dv 0)) λ_ _ _=>(dv 1)),λds μ Kd h=>?_⟩;unfold xS at h;split at h
 .rename_i ks es y;refine⟨rfl,λhm hl=>?_⟩;obtain⟨kd,k,rfl,rfl,Sz,nd,hk,hs,kk⟩:=h;intro hlen;rw[zx];refine⟨by rw[jf];exact sz<|by lia,?_⟩;refine oY (λp=>decide (p.1≠k)) kd [] _ nd (λp hp fj K' k'=>?_) ?_
  .refine⟨rfl,?_⟩;rcases hs p hp with⟨i,j,e1,rfl⟩|⟨i,j,e1,rfl⟩
   .obtain⟨pk,pv⟩:=p;cases e1;cases y with
    | int y =>
     cases hk;refine Hq (c:=i=j) (λq=>?_) (λq=>?_)
     .have k':K' (if decide (nP i≠nP j)=true then some (nP i,pv)else none) fj:=k';rw[aH (show nP i≠nP j from λz=>q<|pq _ _ z)]at k';exact k'
     .have k':K' (if decide (nP i≠nP j)=true then some (nP i,pv)else none) fj:=k';rw[aw (show ¬ nP i≠nP j from λz=>z<|by rw[q])]at k';exact k'
    |_=>cases hk
   .obtain⟨pk,pv⟩:=p;cases e1;cases y with
    | str y =>
     cases hk;refine Hq (c:=i=j) (λq=>?_) (λq=>?_)
     .have k':K' (if decide (gh i≠gh j)=true then some (gh i,pv)else none) fj:=k';rw[aH (show gh i≠gh j from λz=>q<|gu _ _ z)]at k';exact k'
     .have k':K' (if decide (gh i≠gh j)=true then some (gh i,pv)else none) fj:=k';rw[aw (show ¬ gh i≠gh j from λz=>z<|by rw[q])]at k';exact k'
    |_=>cases hk
  .refine⟨_,_,iA,λo eP Za=>?_⟩;rw[gM];refine Fz.pF (au _) iA (pU λd hd=>?_) (gV hm) ?_
   .obtain⟨p,hp,rfl⟩:=List.mem_map.mp hd;exact Bj hl.1 (List.mem_map.mpr ⟨p,(List.mem_filter.mp hp).1,rfl⟩)
   .rw[aV,Za];exact kk
 .cases h
def tV (F:iS K "__init__" "Stand.__init__" hJ f fd)(T:jY mg)(eF:ie K eJ):fA P w K mg eB nr 1 f fd (pA hJ) (kT<|Hy eJ):=by
 refine ER F tL ⟨_,λhr=>(eK (wY eF.cl eF.iX (dv 1)<|dv 0)
  (eK (wY eF.cl eF.gQ (dv 2)<|dv 0)
  (eK (wY eF.cl eF.ku (dv 3)<|dv 0)
  (eU<|wY eF.cl eF.kX (dv 4)<|dv 0)))),λds μ Kd h hm hl=>?_⟩
 obtain⟨k,n,a,b,c,rfl,em,kk⟩:=dJ h;have hk:k<μ.length:=(mW em).1;have st:∀ ns ds,(μ.set k<|.ins eJ ns ds)[k]?=some (.ins eJ ns ds):=λns ds=>aJ hk;refine⟨_,_,gO em,rfl,by decide,?_⟩;refine⟨_,_,gO<|st _ _,rfl,by show 1<1000;decide,?_⟩;rw[dZ];refine⟨_,_,gO<|st _ _,rfl,by show 2<1000;decide,?_⟩;rw[dZ];refine⟨_,_,gO<|st _ _,rfl,by show 3<1000;decide,?_⟩;rw[dZ];exact .keep kk
def qM (F:iS K "check_there" "Stand.check_there" gz f fd)(T:jY mg)(eF:ie K eJ)(jN:OwnCls "NoTake" rV iU "ValueError.__new__" mg eB):fA P w K mg eB (lW P w) 1 f fd (pA gz) (iD<|Ge eJ gU):=by
 refine F.o5 qI (λds μ Kd Kx h=>Gd h) (λhZ A eM s H E hr fi Kb Z=>⟨_,(eU (iu (CC (m6 hr) (dv 1) (fL eF.cl eF.gQ<|dv 0)<|by with_unfolding_all rfl)
  (eU<|gD Z rfl jN ar (by decide) ar rfl (a1 eQ))
  gb)),λds μ m Kd Kx hm hl em h hK=>?_⟩)
 obtain⟨x,nm,rfl,h⟩:=dJ h;obtain⟨_,S,rfl,kk⟩:=h;refine⟨rfl,_,rfl,_,qV gu qe nm S.eI rfl,?_⟩;cases e:fg S.eI nm with
 |none=>rw[e]at kk;exact⟨zs,fC hK em kk⟩
 |some x=>rw[e]at kk;exact .keep (iG em kk)
def xm (F:iS K "parts" "Stand.parts" i9 f fd)(T:jY mg)(eF:ie K eJ)(fV:iH P w K mg eB):fA P w K mg eB (lW P w) 2 f fd (pA i9) (iD<|By eJ gU):=by
 refine F.o5 wU (λds μ Kd Kx h=>DU h) (λhZ A eM s H E hr fi Kb Z=>⟨_,(eK (ft<|fQ Z.z fV eF.cl hr.le (dv 0)<|a1<|dv 1)
  (eU<|fX<|vn (m6 hr) (fL eF.cl eF.gQ<|dv 0) (dv 1) λ_ _=>rfl)),λds μ m Kd Kx hm hl em h hK=>?_⟩)
 obtain⟨x,nm,rfl,h⟩:=dJ h;obtain⟨_,S,rfl,kk⟩:=h;refine⟨⟨rfl,rfl⟩,eW em,⟨_,eW em⟩,S,rfl,?_⟩;cases e:fg S.eI nm with
 |none=>rw[e]at kk;exact(fC hK em kk).2
 | some x =>rw[e]at kk;exact⟨rfl,_,rfl,qe x,by rw[qV gu qe nm S.eI rfl,e];rfl,.keep<|iG em kk⟩
def vK (F:iS K "source" "Stand.source" iN f fd)(T:jY mg)(eF:ie K eJ)(jQ:OwnCls "BadBar" rY iU "ValueError.__new__" mg eB)(k9:mR P w K mg eB):fA P w K mg eB (lW P w) 3 f fd (pA iN) (iD<|xT eJ gU):=by
 refine F.o5 gC (λds μ Kd Kx h=>Bs h) (λhZ A eM s H E hr fi Kb Z=>⟨_,(eK (qS 3 gC.nd<|fQ Z.z k9 eF.cl hr.le (dv 0)<|a1<|dv 1)
  (eK (iu (PW.pt<|yJ (Sd (dv 2) fc)<|tG<|Yb (dv 2)<|fL eF.cl eF.iX<|dv 0)
  (eU<|gD Z rfl jQ ar (by decide) ar rfl (a1 eQ))
  gb)
  (eK (qS 4 gC.nd fc)
  (eK (G5 c6 (Ao<|dv 3)
  (eK (lX (dv 3)<|wC 3<|lR (qT 5 gC.nd)<|lR (qT 6 gC.nd)<|lR (qT 7 gC.nd) wD)
  (eK (qS 1 gC.nd<|d_if (Sd (dv 2)<|dv 7) (dv 5)<|dv 6)
  (eK (qS 3 gC.nd<|vn (m6 hr) (fL eF.cl eF.gQ<|dv 0) (dv 1) λ_ _=>rfl)
  (eU<|R6 (i:=4) gC.nd rfl lo fc Hr Ub)))))
  (eU<|fX<|lN<|a2 (dv 1)<|dv 4))))),λds μ m Kd Kx hm hl em h hK=>?_⟩)
 obtain⟨x,nm,bar,rfl,h⟩:=dJ h;obtain⟨_,S,rfl,kp,kk⟩:=h;refine⟨⟨rfl,rfl⟩,eW em,⟨_,eW em⟩,S,rfl,?_⟩;cases e:fg S.eI nm with
 |none=>rw[e]at kk;exact(fC hK em kk).2
 | some x =>
  rw[e]at kk;refine ph (c:=bar<0) (λq=>⟨zs,fC hK em ?_⟩) (λq1=>⟨rfl,_,rfl,ph (c:=S.n<=bar) (λq=>⟨zs,fC hK em ?_⟩) λq2=>?_⟩)
  .have kk:(if 0<=bar/\bar<S.n then Kd (Iz<|jI S.eI nm bar) μ else _):=kk;rw[az (by lia)]at kk;exact kk
  .have kk:(if 0<=bar/\bar<S.n then Kd (Iz<|jI S.eI nm bar) μ else _):=kk;rw[az (by lia)]at kk;exact kk
  .have kk:(if 0<=bar/\bar<S.n then Kd (Iz<|jI S.eI nm bar) μ else _):=kk;rw[aD (by lia)]at kk;refine⟨λi ρ fj=>∃(z:Str) (y:Pt) (c:Nat) (v1 v2 v3:aq D),i=nQ S.eI z/\fg S.eI z=some y/\jI S.eI nm bar=((jI S.eI z bar).1,(jI S.eI z bar).2+c)/\ρ=[some (oU eJ S),some (.str z),some (.int bar),some (qe y),some (.int (c:Int)),v1,v2,v3]/\fj=μ.set 0 (.gx fi H),⟨_,nm,x,0,none,none,none,rfl,e,rfl,rfl,rfl⟩,?_⟩;rintro i ρ fj ⟨z,y,c,v1,v2,v3,rfl,ez,es,rfl,rfl⟩;cases y with
   | fst b a =>refine⟨zs,.keep<|iG em ?_⟩;rw[es,K6 ez,Nat.zero_add]at kk;exact kk
   | jn l r p =>
    obtain⟨⟨yl,el⟩,⟨yr,er⟩⟩:=kp.there ez;obtain⟨i1,i2⟩:=kp.low z l r p ez;refine⟨rfl,?_⟩;have ej:=T5 kp ez bar;refine ph (c:=bar<p) (λq=>?_) (λq=>?_)
    .rw[aD q]at ej;exact⟨rfl,_,rfl,qe yl,by rw[qV gu qe l S.eI rfl,el];rfl,nQ S.eI l,i1,l,yl,c+1,_,_,_,rfl,el,by rw[es,ej];congr 1;show _+1+c=_;lia,rfl,rfl⟩
    .rw[az q]at ej;exact⟨rfl,_,rfl,qe yr,by rw[qV gu qe r S.eI rfl,er];rfl,nQ S.eI r,i2,r,yr,c+1,_,_,_,rfl,er,by rw[es,ej];congr 1;show _+1+c=_;lia,rfl,rfl⟩
def pe (F:iS K "takes_by_names" "Stand.takes_by_names" fR f fd)(T:jY mg)(eF:ie K eJ)(yz:yf P w K mg eB):fA P w K mg eB nr 2 f fd (pA fR) (kT<|D1 eJ):=by
 refine ER F fP ⟨_,λhr=>(eK (qS 1 fP.nd NN)
  (eK (wX PassesOwn.never rfl (DH<|fL eF.cl eF.gQ<|dv 0) (wC 2<|lR (qT 2 fP.nd)<|lR (qT 3 fP.nd) wD)
  (eU (iu (RV<|dv 3)
  (eU<|AL (m6 hr) (vn (m6 hr) (fL eF.cl eF.ku<|dv 0) (dv 2) λ_ _=>rfl) (dv 1)<|dv 2)
  (eK (lX (dv 3)<|wC 3<|lR (qT 4 fP.nd)<|lR (qT 5 fP.nd)<|lR (qT 6 fP.nd) wD)
  (eU<|AL (m6 hr) (qC yz hr<|a3 (vn (m6 hr) (dv 1) (dv 4) λ_ _=>rfl) (vn (m6 hr) (dv 1) (dv 5) λ_ _=>rfl)<|dv 6) (dv 1)<|dv 2)))))
  (eU<|fX<|HP<|dv 1))),λds μ Kd h hm hl=>?_⟩
 obtain⟨x,rfl,S,m,rfl,wf,kk⟩:=dJ h;refine⟨rfl,_,rfl,λ_=>?_⟩;have nd:=wf.kp.nd;have nj:=wf.nj;have ei:List.zipWith (λk d=>D.tup [vM k,d]) (S.eI.map λp=>gh p.1) (S.eI.map λp=>qe p.2)=S.eI.map λp=>D.tup [.str p.1,qe p.2]:=by obtain⟨e1,e2⟩:=ju gh qe S.eI;rw[e1,e2,zx,a8];rfl
 show Bp _ _ _ _ (List.zipWith (λk d=>D.tup [vM k,d]) (S.eI.map λp=>gh p.1)<|S.eI.map λp=>qe p.2) _ _;rw[ei];refine nT (λds ρ fj=>∃(pre post:ao (Str×Pt)) (v1 v2 v3 v4 v5:aq D),S.eI=pre++post/\ds=post.map (λp=>D.tup [.str p.1,qe p.2])/\ρ=[some (oU eJ S),some (.mr μ.length),v1,v2,v3,v4,v5]/\fj=μ++[.lh ((pre.map λp=>(p.1,jo S.eI p.1)).map λp=>gh p.1) ((pre.map λp=>(p.1,jo S.eI p.1)).map λp=>jZ p.2)]) ⟨[],S.eI,none,none,none,none,none,rfl,rfl,rfl,rfl⟩ ?_ ?_
 .rintro d SS ρ fj ⟨pre,post,v1,v2,v3,v4,v5,hs,e1,rfl,rfl⟩;refine⟨trivial,λnx Kr=>?_⟩;cases post with
  |nil=>cases e1
  | cons p post =>
   obtain⟨z,y⟩:=p;cases e1;have hz:z∉pre.map (·.1):=λq=>by rw[hs,aS,bP]at nd;exact nd.2.2 z q z (List.mem_map.mpr ⟨_,aI,rfl⟩) rfl
   have ez:fg S.eI z=some y:=oO nd (by rw[hs];exact aQ _ aI);have ix:nQ S.eI z=pre.length:=by unfold nQ;rw[hs,aS,d7,az hz,aK,cn,show((z,y).1==z)=true from dh _,jf];simp
   have lp:pre.length<S.eI.length:=by rw[hs,mJ,aT];lia
   have Sw:∀ w:Str,nQ S.eI w<pre.length->fg (pre.map λp=>(p.1,jo S.eI p.1)) w=some (jo S.eI w):=λw hw=>by
    have QH:w∈pre.map (·.1):=by
     unfold nQ at hw;rw[hs,aS,d7]at hw;by_cases q:w∈pre.map (·.1)
     .exact q
     .rw[az q,jf]at hw;lia
    obtain⟨p,hp,rfl⟩:=List.mem_map.mp QH;have Yy:((pre.map λp=>(p.1,jo S.eI p.1)).map (·.1)).Nodup:=by rw[a8];rw[hs,aS,bP]at nd;exact nd.1
    exact oO Yy (List.mem_map.mpr ⟨p,hp,rfl⟩)
   have hn:fg (pre.map λp=>(p.1,jo S.eI p.1)) z=none:=by
    cases q:fg (pre.map λp=>(p.1,jo S.eI p.1)) z with
    |none=>rfl
    | some w =>have:=ic.mp (show(fg (pre.map λp=>(p.1,jo S.eI p.1)) z).isSome=true by rw[q];rfl);rw[a8]at this;exact absurd this hz
   have fin:∀(v:Tk) (w1 w2 w3 w4 w5:aq D),v=jo S.eI z->∃ kd So:ao (Key×D),(μ++[MO.lh ((pre.map λp=>(p.1,jo S.eI p.1)).map λp=>gh p.1) ((pre.map λp=>(p.1,jo S.eI p.1)).map λp=>jZ p.2)])[μ.length]?=some (.lh (kd.map (·.1)) (kd.map (·.2)))/\kd.length<sizeLine/\(vN<|.str z).map (λk=>dput kd k<|jZ v)=some So/\nx [some (oU eJ S),some (.mr μ.length),w1,w2,w3,w4,w5] ((μ++[MO.lh ((pre.map λp=>(p.1,jo S.eI p.1)).map λp=>gh p.1) ((pre.map λp=>(p.1,jo S.eI p.1)).map λp=>jZ p.2)]).set μ.length (.lh (So.map (·.1)) (So.map (·.2)))):=λv w1 w2 w3 w4 w5 hv=>by
    obtain⟨e1,e2⟩:=ju gh jZ (pre.map λp=>(p.1,jo S.eI p.1));refine⟨_,_,by rw[iA,e1,e2],?_,rfl,?_⟩
    .rw[jf,jf];exact aL lp (sz<|by lia)
    .show nx _ ((_++[_]).set _ (.lh ((dput _ (gh z)<|jZ v).map (·.1)) ((dput _ (gh z)<|jZ v).map (·.2))));rw[Ny gu jZ z v,rn hn,gM];refine Kr _ _ ⟨pre++[(z,y)],post,_,_,_,_,_,by rw[hs,a9];rfl,rfl,rfl,?_⟩;have e3:(pre++[(z,y)]).map (λp=>(p.1,jo S.eI p.1))=pre.map (λp=>(p.1,jo S.eI p.1))++[(z,v)]:=by rw[aS,hv];rfl
     rw[e3,<- (ju gh jZ _).1,<- (ju gh jZ _).2]
   refine⟨rfl,?_⟩;cases y with
   | fst b a =>refine⟨rfl,_,rfl,jZ (b,a),by rw[qV gu jZ z (fv S.eI) rfl,nU nd,ez];rfl,fin (b,a) _ _ _ _ _ (TH ez).symm⟩
   | jn l r p =>obtain⟨i1,i2⟩:=wf.kp.low z l r p ez;obtain⟨⟨yl,el⟩,⟨yr,er⟩⟩:=wf.kp.there ez;obtain⟨p1,p2⟩:=wf.js z l r p ez;obtain⟨t1,_⟩:=RR wf l yl el;obtain⟨t2,_⟩:=RR wf r yr er;have n2:=wf.n2;refine⟨rfl,jZ<|jo S.eI l,by rw[Su gu jZ l _ rfl HI,Sw l (by lia)];rfl,jZ<|jo S.eI r,by rw[Su gu jZ r _ rfl HI,Sw r (by lia)];rfl,?_⟩;exact⟨jo S.eI l,jo S.eI r,rfl,rfl,rfl,rfl,by lia,by lia,by lia,fin _ _ _ _ _ _ (Xo wf.kp ez).symm⟩
 .rintro ρ fj ⟨pre,post,v1,v2,v3,v4,v5,hs,e1,rfl,rfl⟩;cases post with
  |cons p post=>cases e1
  | nil =>rw[bg]at hs;refine⟨trivial,_,_,iA,λo eP Za=>?_⟩;rw[gM];refine Fz.pF (au _) iA (pU λd hd=>by obtain⟨q,_,rfl⟩:=List.mem_map.mp hd;exact⟨trivial,trivial,trivial⟩) (gV hm) ?_;rw[aV,Za,<- hs];exact kk
def yR (F:iS K "take" "Stand.take" jy f fd)(T:jY mg)(eF:ie K eJ)(fV:iH P w K mg eB)(jH:jF P w K mg eB):fA P w K mg eB (lW P w) 3 f fd (pA jy) (iD<|Gi eJ gU):=by
 refine F.o5 yL (λds μ Kd Kx h=>Gh h) (λhZ A eM s H E hr fi Kb Z=>⟨_,(eK (ft<|fQ Z.z fV eF.cl hr.le (dv 0)<|a1<|dv 1)
  (eU<|fX<|vn (m6 hr) (jl jH eF.cl hr.le<|dv 0) (dv 1) λ_ _=>rfl)),λds μ m Kd Kx hm hl em h hK=>?_⟩)
 obtain⟨x,nm,rfl,h⟩:=dJ h;obtain⟨_,S,m',rfl,wf,kk⟩:=h;refine⟨⟨rfl,rfl⟩,eW em,⟨_,eW em⟩,S,rfl,?_⟩;cases e:fg S.eI nm with
 |none=>rw[e]at kk;exact(fC hK em kk).2
 | some x =>
  rw[e]at kk;have Yy:((wB S.eI).map (·.1)).Nodup:=by unfold wB;rw[a8];exact wf.kp.nd
  have ea:fg (wB S.eI) nm=some (jo S.eI nm):=oO Yy<|List.mem_map.mpr ⟨_,uk e,rfl⟩;exact⟨⟨rfl,rfl⟩,S,m',rfl,wf,jZ<|jo S.eI nm,by rw[qV gu jZ nm (wB S.eI) rfl,ea];rfl,.keep<|iG em kk⟩
def xl (F:iS K "shelf" "Stand.shelf" i8 f fd)(T:jY mg)(eF:ie K eJ)(jH:jF P w K mg eB):fA P w K mg eB nr 3 f fd (pA i8) (kT<|HA eJ):=by
 refine ER F nE ⟨_,λhr=>(eK (sCp 1 false nE.nd (Rr (N:=["place","self"]) (js:=[none,some 0]) nE<|by decide +kernel) (Mv rfl T.range<|a2 fc<|fL eF.cl eF.iX<|dv 0) (λ_ _ _ nd=>(qT 0 nd)) (λ_ _ _=>(An<|CC (m6 hr) (dv 0) (fL eF.cl eF.kX<|dv 1)<|by with_unfolding_all rfl)) λ_ _ _=>(dv 0))
  (eU<|fX<|lN<|a3 (fL eF.cl eF.iX<|dv 0) (dv 1)<|Gz false rfl (by rfl) T.list<|jl jH eF.cl hr.le<|dv 0)),λds μ Kd h hm hl=>?_⟩
 obtain⟨x,rfl,S,m,rfl,wf,kk⟩:=dJ h;have n1:=wf.n1;have n2:=wf.n2;refine⟨rfl,_,rfl,⟨by decide,by decide,by lia,by lia⟩,sz (by rw[Lp];lia),?_⟩;rw[PK];refine rS trivial D.int (λp=>if(fg S.hG p).isSome=true then none else some (D.int p)) (λp _ K' k'=>?_) ?_
 .refine⟨rfl,_,rfl,_,qV pq (λ_=>.bl true) p S.hG rfl,?_⟩;cases e:fg S.hG p with
  |none=>rw[e]at k';exact k'
  |some x=>rw[e]at k';exact k'
 .rw[LS];refine⟨rfl,_,rfl,⟨rfl,rfl⟩,S,m,rfl,wf,eY rfl ⟨zs,.keep ?_⟩⟩;have e:(wB S.eI).map (λp=>jZ p.2)=(oR S).map jZ:=by unfold wB oR;rw[a8,a8];rfl
  rw[e];exact kk
def A8 (F:iS K "check_age" "check_age" j5 f fd)(T:jY mg)(jR:OwnCls "BadAge" rZ iU "ValueError.__new__" mg eB)(yu:uY mg "OLDEST" 20):fA P w K mg eB (lW P w) 1 f fd (pA j5) (iD<|Nh gU):=by
 refine F.o5 AB (λds μ Kd Kx h=>JH h) (λhZ A eM s H E hr fi Kb Z=>⟨_,(eU (iu (PW.pt<|yJ (Sd (dv 0) fc)<|tG<|X9 (dv 0)<|uR rfl yu)
  (eU<|gD Z rfl jR ar (by decide) ar rfl (a1 eQ))
  gb)),λds μ m Kd Kx hm hl em h hK=>?_⟩)
 obtain⟨a,rfl,h⟩:=dJ h;obtain⟨_,kk⟩:=h;unfold sj at kk;refine ph (c:=a<0) (λq=>⟨zs,fC hK em (by rw[az (by lia)]at kk;exact kk)⟩) (λq1=>ph (c:=20<a) (λq=>⟨zs,fC hK em (by rw[az (by lia)]at kk;exact kk)⟩) λq2=>.keep<|iG em (by rw[aD (by lia)]at kk;exact kk))
def xk (F:iS K "check_place" "check_place" i7 f fd)(T:jY mg)(eF:ie K eJ)(iB:OwnCls "BadPlace" nv iU "ValueError.__new__" mg eB):fA P w K mg eB (lW P w) 1 f fd (pA i7) (iD<|Bx eJ gU):=by
 refine F.o5 wQ (λds μ Kd Kx h=>DT h) (λhZ A eM s H E hr fi Kb Z=>⟨_,(eU (iu (PW.pt<|yJ (Sd (dv 1) fc)<|tG<|Yb (dv 1)<|fL eF.cl eF.iX<|dv 0)
  (eU<|gD Z rfl iB ar (by decide) ar rfl (a1 eQ))
  gb)),λds μ m Kd Kx hm hl em h hK=>?_⟩)
 obtain⟨x,p,rfl,h⟩:=dJ h;obtain⟨_,S,rfl,kk⟩:=h;unfold kq at kk;refine ph (c:=p<1) (λq=>⟨zs,fC hK em (by rw[az (by lia)]at kk;exact kk)⟩) (λq1=>⟨rfl,_,rfl,ph (c:=S.n<=p) (λq=>⟨zs,fC hK em (by rw[az (by lia)]at kk;exact kk)⟩) λq2=>.keep<|iG em (by rw[aD (by lia)]at kk;exact kk)⟩)
def A7 (F:iS K "check_new" "check_new" j4 f fd)(T:jY mg)(eF:ie K eJ)(iW:OwnCls "BadName" nZ iU "ValueError.__new__" mg eB)(lq:OwnCls "Taken" uT iU "ValueError.__new__" mg eB)(m3:OwnCls "Full" zY iU "ValueError.__new__" mg eB)(lK:uY mg "MOST_TAKES_stand" 20)(oa:uY mg "MOST_LETTERS" 8):fA P w K mg eB (lW P w) 1 f fd (pA j4) (iD<|VX eJ gU):=by
 refine F.o5 tK (λds μ Kd Kx h=>Nc h) (λhZ A eM s H E hr fi Kb Z=>⟨_,(eK (iu (PW.pt<|yJ (Sd (Q9 T<|dv 1) fc)<|yJ (X9 (Q9 T<|dv 1)<|uR rfl oa)<|tG<|CD<|l6<|yc (Wt rfl) E8 (by rfl) T.all PyProof.Rows.boot_all<|a1<|Xb false (Rr (N:=["sign"]) (js:=[none]) tK<|by decide +kernel) (Sx<|dv 1) (λ_ _ _ nd=>(qT 0 nd)) (λ_ _ _=>wA) λ_ _ _=>(Q1 zp zp Lb Lb eQ (dv 0) eQ))
  (eU<|gD Z rfl iW ar (by decide) ar rfl (a1 eQ))
  gb)
  (eK (iu (RW (m6 hr) (dv 1) (fL eF.cl eF.gQ<|dv 0)<|by with_unfolding_all rfl)
  (eU<|gD Z rfl lq ar (by decide) ar rfl (a1 eQ))
  gb)
  (eU (iu (Yb (yc lenD Po (by rfl) T.len dW<|a1<|fL eF.cl eF.gQ<|dv 0)<|uR rfl lK)
  (eU<|gD Z rfl m3 ar (by decide) ar rfl (a1 eQ))
  gb)))),λds μ m Kd Kx hm hl em h hK=>?_⟩)
 obtain⟨x,nm,rfl,h⟩:=dJ h;obtain⟨_,hz,S,rfl,kk⟩:=h;have sl:nm.length<=sizeLine:=sz (by lia);unfold xw at kk;have bad:nK nm=false->Kx (.ref nZ) μ:=λq=>by rw[aD q]at kk;exact kk
 refine⟨sl,ph (c:=((nm.length:Nat):Int)<1) (λq=>⟨zs,fC hK em<|bad ?_⟩) λq1=>⟨sl,ph (c:=(8:Int)<((nm.length:Nat):Int)) (λq=>⟨zs,fC hK em<|bad ?_⟩) λq2=>?_⟩⟩
 .unfold nK;rw[aw (show ¬ 1<=nm.length by lia)];rfl
 .unfold nK;rw[aw (show ¬ nm.length<=8 by lia),Bool.and_false];rfl
 refine⟨by rw[jf];exact sl,?_⟩;refine rT trivial (λc:Nat=>D.str ⟨#[c]⟩) (λc=>D.bl<|decide (97<=c)&&decide (c<=122)) (λc _ K' k'=>?_) ?_
 .have e1:(!decide (([c]:ao Nat)<[97]))=decide (97<=c):=by rw[aaa];by_cases q:97<=c <;> simp[q]<;> lia
  have e2:(!decide (([122]:ao Nat)<[c]))=decide (c<=122):=by rw[aaa];by_cases q:c<=122<;>simp[q]<;> lia
  show if(!decide (([c]:ao Nat)<[97]))=true then K' (some<|.bl<|!decide (([122]:ao Nat)<[c])) _ else K' (some<|.bl false) _
  rw[e1,e2]
  cases q:decide (97<=c)with
  |true=>rw[q]at k';exact k'
  |false=>rw[q]at k';exact k'
 .refine⟨nm.cps.toList.map λc=>decide (97<=c)&&decide (c<=122),by rw[a8];rfl,?_⟩;have eb:((nm.cps.toList.map λc=>decide (97<=c)&&decide (c<=122)).all id)=nK nm:=by rw[LY q1 q2,List.all_map];rfl
  show if(!((nm.cps.toList.map λc=>decide (97<=c)&&decide (c<=122)).all id))=true then _ else _;rw[eb];cases q3:nK nm with
  |false=>exact⟨zs,fC hK em<|bad q3⟩
  | true =>
   rw[az (by rw[q3];exact λz=>nomatch z)]at kk;refine⟨rfl,_,rfl,_,qV gu qe nm S.eI rfl,?_⟩;unfold nR at kk;cases e:fg S.eI nm with
   |some x=>rw[e]at kk;exact⟨zs,fC hK em kk⟩
   | none =>
    rw[e]at kk;refine⟨rfl,_,rfl,eY rfl ?_⟩;have kk:vZ _ Kd Kx (if 20<=S.eI.length then some 10 else none) .gw μ:=kk;refine ph (c:=(20:Int)<=((S.eI.map λp=>gh p.1).length:Nat)) (λq=>⟨zs,fC hK em ?_⟩) (λq=>.keep<|iG em ?_)
    .rw[jf]at q;rw[aD (by lia)]at kk;exact kk
    .rw[jf]at q;rw[az (by lia)]at kk;exact kk
def U4 (F:iS K "put" "put" wW f fd)(T:jY mg)(eF:ie K eJ)(gc:OwnCls "BadBars" jM iU "ValueError.__new__" mg eB)(rB:rk P w K mg eB)(Ki:zV P w K mg eB)(rC:rl P w K mg eB)(jd:mF P w K mg eB)(fm:gp P w K mg eB):fA P w K mg eB (lW P w) 6 f fd (pA wW) (iD<|kL eJ gU 0):=by
 refine F.o5 ux (λds μ Kd Kx h=>lJ h) (λhZ A eM s H E hr fi Kb Z=>⟨_,(eK (lX (dv 1)<|wC 4<|lR (qT 2 ux.nd)<|lR (qT 3 ux.nd)<|lR (qT 4 ux.nd)<|lR (qT 5 ux.nd) wD)
  (eK (ft<|ir Z.z rB hr.le rfl (a2 (dv 0)<|dv 3))
  (eK (iu (CD<|l6<|qC Ki hr<|a2 (fL eF.cl eF.iX<|dv 0)<|dv 4)
  (eU<|gD Z rfl gc ar (by decide) ar rfl (a1 eQ))
  gb)
  (eK (ft<|ir Z.z rC hr.le rfl (a1<|dv 5))
  (eK (qS 6 ux.nd<|qC jd hr<|a3 (fL eF.cl eF.gQ<|dv 0) (dv 3) Ta)
  (eU<|fX<|BN<|p3 fm hr.le rfl (eE (fL eF.cl eF.iX<|dv 0)<|eE (dv 6)<|eE (qC jd hr<|a3 (fL eF.cl eF.ku<|dv 0) (dv 3)<|lN<|a2 (dv 4)<|dv 5)<|eE (fL eF.cl eF.kX<|dv 0) fT))))))),λds μ m Kd Kx hm hl em h hK=>?_⟩)
 obtain⟨x,y,rfl,h⟩:=dJ h;obtain⟨_,S,d,m',rfl,rfl,hw,wf,MF,fB,kk⟩:=h;obtain⟨nm,b,a,rfl⟩:∃ nm b a,d=.put nm b a:=by cases d<;>first|exact⟨_,_,_,rfl⟩|cases hw
 have nj:=wf.nj;refine⟨rfl,eW em,⟨_,eW em⟩,fB.1,S,rfl,?_⟩;have kk:vZ _ Kd Kx ((xw S nm).or<|if((b.length:Nat):Int)=S.n/\Qh b=true then sj a else some 0) (oU eJ<|oq S<|.put nm b a) μ:=kk;cases e:xw S nm with
 |some i=>rw[e]at kk;exact(fC hK em kk).2
 | none =>
  rw[e]at kk;refine⟨rfl,_,rfl,fB.2,Vu (c:=((b.length:Nat):Int)=S.n/\Qh b=true) (λq=>⟨zs,fC hK em ?_⟩) λq=>?_⟩
  .have kk:vZ _ Kd Kx (if((b.length:Nat):Int)=S.n/\Qh b=true then sj a else some 0) (oU eJ<|oq S<|.put nm b a) μ:=kk;rw[az q]at kk;exact kk
  .have kk:vZ _ Kd Kx (if((b.length:Nat):Int)=S.n/\Qh b=true then sj a else some 0) (oU eJ<|oq S<|.put nm b a) μ:=kk;rw[aD q]at kk;refine⟨eW em,⟨_,eW em⟩,?_⟩;cases e2:sj a with
   |some i=>rw[e2]at kk;exact(fC hK em kk).2
   | none =>rw[e2]at kk;obtain⟨n1,n2,n3⟩:=uH e;refine⟨rfl,_,rfl,_,_,(ju gh qe S.eI).1,(ju gh qe S.eI).2,by rw[kd_len];lia,rfl,?_⟩;have lf:(fv S.eI).length<=20:=aG (cG _ _) nj;refine⟨rfl,_,rfl,rfl,_,rfl,zs,_,_,(ju gh jZ<|fv S.eI).1,(ju gh jZ<|fv S.eI).2,by rw[kd_len];lia,rfl,rfl,_,rfl,iA,rfl,?_⟩;rw[gM];refine Fz.obj (au _) iA ⟨trivial,pT (Jn u7 _) trivial,pT (Jn tF _)<|tF (b.cps.toList,a),Dx _,trivial⟩ (gV hm) ?_;rw[aV];have kk:Kd (.obj eJ OK [.int S.n,uQ gh qe (jh S.eI nm<|.fst b.cps.toList a),uQ gh jZ (fv<|jh S.eI nm<|.fst b.cps.toList a),R4 S.hG]) μ:=kk;rw[Ga wf.kp.nd n2,<- Ip gu qe,<- Ip gu jZ]at kk;exact .keep (iG em kk)
def Qo (F:iS K "join" "join" sL f fd)(T:jY mg)(eF:ie K eJ)(mZ:OwnCls "Shut" zX iU "ValueError.__new__" mg eB)(rB:rk P w K mg eB)(fV:iH P w K mg eB)(k7:mP P w K mg eB)(jd:mF P w K mg eB)(fm:gp P w K mg eB):fA P w K mg eB (lW P w) 6 f fd (pA sL) (iD<|kL eJ gU 1):=by
 refine F.o5 rK (λds μ Kd Kx h=>lJ h) (λhZ A eM s H E hr fi Kb Z=>⟨_,(eK (lX (dv 1)<|wC 5<|lR (qT 2 rK.nd)<|lR (qT 3 rK.nd)<|lR (qT 4 rK.nd)<|lR (qT 5 rK.nd)<|lR (qT 6 rK.nd) wD)
  (eK (ft<|ir Z.z rB hr.le rfl (a2 (dv 0)<|dv 3))
  (eK (ft<|fQ Z.z fV eF.cl hr.le (dv 0)<|a1<|dv 4)
  (eK (ft<|fQ Z.z fV eF.cl hr.le (dv 0)<|a1<|dv 5)
  (eK (ft<|ir Z.z k7 hr.le rfl (a2 (dv 0)<|dv 6))
  (eK (iu (RW (m6 hr) (dv 6) (fL eF.cl eF.kX<|dv 0)<|by with_unfolding_all rfl)
  (eU<|gD Z rfl mZ ar (by decide) ar rfl (a1 eQ))
  gb)
  (eU<|fX<|BN<|p3 fm hr.le rfl (eE (fL eF.cl eF.iX<|dv 0)<|eE (qC jd hr<|a3 (fL eF.cl eF.gQ<|dv 0) (dv 3)<|lN<|a3 (dv 4) (dv 5)<|dv 6)<|eE (fL eF.cl eF.ku<|dv 0)<|eE (fL eF.cl eF.kX<|dv 0) fT)))))))),λds μ m Kd Kx hm hl em h hK=>?_⟩)
 obtain⟨x,y,rfl,h⟩:=dJ h;obtain⟨_,S,d,m',rfl,rfl,hw,wf,MF,fB,kk⟩:=h;obtain⟨nm,l,r,p,rfl⟩:∃ nm l r p,d=.join nm l r p:=by cases d<;>first|exact⟨_,_,_,_,rfl⟩|cases hw
 have nj:=wf.nj;refine⟨rfl,eW em,⟨_,eW em⟩,fB,S,rfl,?_⟩;have kk:vZ _ Kd Kx ((xw S nm).or<|if nR S l=false then some 11 else if nR S r=false then some 11 else(kq S p).or (if(fg S.hG p).isSome=true then some 12 else none)) (oU eJ<|oq S<|.join nm l r p) μ:=kk;cases e:xw S nm with
 |some i=>rw[e]at kk;exact(fC hK em kk).2
 | none =>
  rw[e]at kk;have kk:vZ _ Kd Kx (if nR S l=false then some 11 else if nR S r=false then some 11 else(kq S p).or (if(fg S.hG p).isSome=true then some 12 else none)) (oU eJ<|oq S<|.join nm l r p) μ:=kk;refine⟨⟨rfl,rfl⟩,eW em,⟨_,eW em⟩,S,rfl,?_⟩;unfold nR at kk;cases el:fg S.eI l with
  |none=>rw[el]at kk;exact(fC hK em kk).2
  | some yl =>
   rw[el]at kk;refine⟨⟨rfl,rfl⟩,eW em,⟨_,eW em⟩,S,rfl,?_⟩;cases er:fg S.eI r with
   |none=>rw[er]at kk;exact(fC hK em kk).2
   | some yr =>
    rw[er]at kk;have kk:vZ _ Kd Kx ((kq S p).or<|if(fg S.hG p).isSome=true then some 12 else none) (oU eJ<|oq S<|.join nm l r p) μ:=kk;refine⟨eW em,⟨_,eW em⟩,S,rfl,?_⟩;cases e2:kq S p with
    |some i=>rw[e2]at kk;exact(fC hK em kk).2
    | none =>
     rw[e2]at kk;refine⟨rfl,_,rfl,_,qV pq (λ_=>.bl true) p S.hG rfl,?_⟩;cases e3:fg S.hG p with
     |some u=>rw[e3]at kk;exact⟨zs,fC hK em kk⟩
     | none =>rw[e3]at kk;obtain⟨n1,n2,n3⟩:=uH e;refine⟨rfl,_,rfl,rfl,_,rfl,zs,_,_,(ju gh qe S.eI).1,(ju gh qe S.eI).2,by rw[kd_len];lia,rfl,rfl,_,rfl,rfl,_,rfl,iA,rfl,?_⟩;rw[gM];refine Fz.obj (au _) iA ⟨trivial,pT (Jn u7 _)<|u7<|.jn l r p,vd tF _,Dx _,trivial⟩ (gV hm) ?_;rw[aV];have kk:Kd (.obj eJ OK [.int S.n,uQ gh qe (jh S.eI nm<|.jn l r p),uQ gh jZ (fv<|jh S.eI nm<|.jn l r p),R4 S.hG]) μ:=kk;rw[JF n2,<- Ip gu qe]at kk;exact .keep (iG em kk)
def LV (F:iS K "found" "found" pL f fd)(T:jY mg)(eF:ie K eJ)(gc:OwnCls "BadBars" jM iU "ValueError.__new__" mg eB)(oj:nW P w K mg eB)(jd:mF P w K mg eB)(fm:gp P w K mg eB):fA P w K mg eB (lW P w) 6 f fd (pA pL) (iD<|kL eJ gU 2):=by
 refine F.o5 kU (λds μ Kd Kx h=>lJ h) (λhZ A eM s H E hr fi Kb Z=>⟨_,(eK (lX (dv 1)<|wC 4<|lR (qT 2 kU.nd)<|lR (qT 3 kU.nd)<|lR (qT 4 kU.nd)<|lR (qT 5 kU.nd) wD)
  (eK (lX (fQ Z.z oj eF.cl hr.le (dv 0)<|a2 (dv 3)<|dv 4)<|wC 2<|lR (qT 6 kU.nd)<|lR (qT 7 kU.nd) wD)
  (eK (iu (PW.pt<|Xr (X8 (dv 5) eQ)<|TL<|X8 (dv 5) eQ)
  (eU<|gD Z rfl gc ar (by decide) ar rfl (a1 eQ))
  gb)
  (eK (lX (vn (m6 hr) (fL eF.cl eF.ku<|dv 0) (dv 6) λ_ _=>rfl)<|wC 2<|lR (qT 8 kU.nd)<|lR (qT 9 kU.nd) wD)
  (eK (qS 10 kU.nd<|lN<|a2 (qo (qo (p0 false (dv 8) Fy<|pR<|dv 4)<|dv 5)<|p0 false (dv 8) (pR<|qo (dv 4) fc) Fy)<|dv 9)
  (eU<|fX<|BN<|p3 fm hr.le rfl (eE (fL eF.cl eF.iX<|dv 0)<|eE (fL eF.cl eF.gQ<|dv 0)<|eE (qC jd hr<|a3 (fL eF.cl eF.ku<|dv 0) (dv 6)<|dv 10)<|eE (fL eF.cl eF.kX<|dv 0) fT))))))),λds μ m Kd Kx hm hl em h hK=>?_⟩)
 obtain⟨x,y,rfl,h⟩:=dJ h;obtain⟨_,S,d,m',rfl,rfl,hw,wf,MF,fB,kk⟩:=h;obtain⟨nm,bar,sg,rfl⟩:∃ nm bar sg,d=.found nm bar sg:=by cases d<;>first|exact⟨_,_,_,rfl⟩|cases hw
 have nj:=wf.nj;have n2:=wf.n2;refine⟨rfl,⟨rfl,rfl⟩,eW em,⟨_,eW em⟩,S,rfl,wf.kp,?_⟩;have kk:vZ _ Kd Kx (if nR S nm=false then some 11 else if 0<=bar/\bar<S.n then(if sg = "o"\/sg = "x" then none else some 0)else some 6) (oU eJ<|oq S<|.found nm bar sg) μ:=kk;unfold nR at kk;cases e:fg S.eI nm with
 |none=>rw[e]at kk;exact(fC hK em kk).2
 | some x =>
  rw[e]at kk;have kk:vZ _ Kd Kx (if 0<=bar/\bar<S.n then(if sg = "o"\/sg = "x" then none else some 0)else some 6) (oU eJ<|oq S<|.found nm bar sg) μ:=kk;by_cases hb:0<=bar/\bar<S.n
  .rw[aD hb]at kk;show(if 0<=bar/\bar<S.n then _ else _);rw[aD hb];refine⟨rfl,?_⟩;by_cases hs:sg = "o"\/sg = "x"
   .rw[aD hs]at kk;obtain⟨b,a,ef⟩:=G2 wf.kp bar nm x e;obtain⟨f1,f2,f3,f4⟩:=wf.fs _ b a ef;obtain⟨o1,o2⟩:=Li hs;have lf:(fv S.eI).length<=20:=aG (cG _ _) nj;have kk:Kd (.obj eJ OK [.int S.n,uQ gh qe (MK S.eI (jI S.eI nm bar).1 bar sg),uQ gh jZ (fv<|MK S.eI (jI S.eI nm bar).1 bar sg),R4 S.hG]) μ:=kk;unfold MK at kk;rw[ef]at kk;dsimp only at kk;rw[xP wf.kp.nd ef,<- Ip gu jZ,Dc ef wf.kp.nd]at kk;have sl:sg.length=1:=o2;have lb:(txt b).length<=sizeLine:=by rw[rG];exact sz (by lia)
    have c1:=wj b none<|some bar;have c2:=wj b (some<|bar+1) none;have eh:(⟨(kH b none<|some bar).toArray⟩++sg++⟨(kH b (some<|bar+1) none).toArray⟩:Str)=txt (DL b bar sg):=by rw[HR hb.1,zM (show 0<=bar+1 by lia),show(bar+1).toNat=bar.toNat+1 by lia];rw[Oo,r0,a9];rfl
    have l1:(⟨(kH b none<|some bar).toArray⟩:Str).length+sg.length<=sizeLine:=by rw[sl];show(kH b none<|some bar).length+1<=_;exact sz (by lia)
    have l2:(⟨(kH b none<|some bar).toArray⟩++sg:Str).length+(⟨(kH b (some<|bar+1) none).toArray⟩:Str).length<=sizeLine:=by rw[Oo];show(kH b none (some bar)++sg.cps.toList).length+(kH b (some<|bar+1) none).length<=_;rw[mJ,o2];exact sz (by lia)
    have eg:YX ((fv S.eI).map λp=>gh p.1) ((fv S.eI).map λp=>jZ p.2) (.str (jI S.eI nm bar).1)=some (some<|jZ (b,a)):=by rw[qV gu jZ _ (fv S.eI) rfl,nU wf.kp.nd,ef];rfl
    refine YY (c1:=sg = "o") (c2:=sg = "x") (λ_=>?_) (λz=>absurd hs z);refine⟨rfl,_,rfl,jZ (b,a),eg,rfl,lb,l1,lb,l2,zs,?_⟩;refine⟨rfl,_,rfl,rfl,_,rfl,rfl,_,rfl,_,_,(ju gh jZ<|fv S.eI).1,(ju gh jZ<|fv S.eI).2,by rw[kd_len];lia,rfl,rfl,_,rfl,iA,rfl,?_⟩;rw[gM];refine Fz.obj (au _) iA ⟨trivial,vd u7 _,pT (Jn tF _) ⟨trivial,trivial,trivial⟩,Dx _,trivial⟩ (gV hm) ?_;rw[aV];refine .keep<|iG em ?_;show Kd (.obj eJ OK [.int S.n,uQ gh qe S.eI,.pF ((dput _ _<|.tup [.str (⟨(kH b none<|some bar).toArray⟩++sg++⟨(kH b (some<|bar+1) none).toArray⟩),.int a]).map (·.1)) ((dput _ _<|.tup [.str (⟨(kH b none<|some bar).toArray⟩++sg++⟨(kH b (some<|bar+1) none).toArray⟩),.int a]).map (·.2)),R4 S.hG]) μ;rw[eh];exact kk
   .rw[az hs]at kk;exact Hq (c:=sg = "o") (λq1=>Hq (c:=sg = "x") (λq2=>⟨zs,fC hK em kk⟩) λq2=>absurd (.inr q2) hs) (λq1=>absurd (.inl q1) hs)
  .rw[az hb]at kk;show(if 0<=bar/\bar<S.n then _ else _);rw[az hb];exact(fC hK em kk).2
def Qt (F:iS K "aged" "aged" sQ f fd)(T:jY mg)(eF:ie K eJ)(jP:OwnCls "Joined" rX iU "ValueError.__new__" mg eB)(k9:mR P w K mg eB)(rC:rl P w K mg eB)(jd:mF P w K mg eB)(fm:gp P w K mg eB):fA P w K mg eB (lW P w) 6 f fd (pA sQ) (iD<|kL eJ gU 3):=by
 refine F.o5 rM (λds μ Kd Kx h=>lJ h) (λhZ A eM s H E hr fi Kb Z=>⟨_,(eK (lX (dv 1)<|wC 3<|lR (qT 2 rM.nd)<|lR (qT 3 rM.nd)<|lR (qT 4 rM.nd) wD)
  (eK (iu (Ao<|fQ Z.z k9 eF.cl hr.le (dv 0)<|a1<|dv 3)
  (eU<|gD Z rfl jP ar (by decide) ar rfl (a1 eQ))
  gb)
  (eK (ft<|ir Z.z rC hr.le rfl (a1<|dv 4))
  (eK (lX (vn (m6 hr) (fL eF.cl eF.ku<|dv 0) (dv 3) λ_ _=>rfl)<|wC 2<|lR (qT 5 rM.nd)<|lR (qT 6 rM.nd) wD)
  (eU<|fX<|BN<|p3 fm hr.le rfl (eE (fL eF.cl eF.iX<|dv 0)<|eE (fL eF.cl eF.gQ<|dv 0)<|eE (qC jd hr<|a3 (fL eF.cl eF.ku<|dv 0) (dv 3)<|lN<|a2 (dv 5)<|dv 4)<|eE (fL eF.cl eF.kX<|dv 0) fT)))))),λds μ m Kd Kx hm hl em h hK=>?_⟩)
 obtain⟨x,y,rfl,h⟩:=dJ h;obtain⟨_,S,d,m',rfl,rfl,hw,wf,MF,fB,kk⟩:=h;obtain⟨nm,a,rfl⟩:∃ nm a,d=.uU nm a:=by cases d<;>first|exact⟨_,_,rfl⟩|cases hw
 have nj:=wf.nj;have lf:(fv S.eI).length<=20:=aG (cG _ _) nj;refine⟨rfl,⟨rfl,rfl⟩,eW em,⟨_,eW em⟩,S,rfl,?_⟩;have kk:vZ _ Kd Kx (match fg S.eI nm with|none=>some 11|some (.jn _ _ _)=>some 13|some (.fst _ _)=>sj a) (oU eJ<|match fg S.eI nm with|some (.fst b _)=>{ S with eI:=jh S.eI nm (.fst b a)}|_=>S) μ:=kk;cases e:fg S.eI nm with
 |none=>rw[e]at kk;exact(fC hK em kk).2
 | some x =>
  rw[e]at kk;cases x with
  |jn l r p=>exact⟨zs,fC hK em kk⟩
  | fst b a0 =>
   refine⟨eW em,⟨_,eW em⟩,?_⟩;have kk:vZ _ Kd Kx (sj a) (oU eJ { S with eI:=jh S.eI nm (.fst b a)}) μ:=kk;cases e2:sj a with
   |some i=>rw[e2]at kk;exact(fC hK em kk).2
   | none =>rw[e2]at kk;refine⟨rfl,_,rfl,jZ (b,a0),by rw[qV gu jZ nm (fv S.eI) rfl,nU wf.kp.nd,e];rfl,rfl,?_⟩;refine⟨rfl,_,rfl,rfl,_,rfl,rfl,_,rfl,zs,_,_,(ju gh jZ<|fv S.eI).1,(ju gh jZ<|fv S.eI).2,by rw[kd_len];lia,rfl,rfl,_,rfl,iA,rfl,?_⟩;rw[gM];refine Fz.obj (au _) iA ⟨trivial,vd u7 _,pT (Jn tF _)<|tF (b,a),Dx _,trivial⟩ (gV hm) ?_;rw[aV];have kk:Kd (.obj eJ OK [.int S.n,uQ gh qe (jh S.eI nm<|.fst b a),uQ gh jZ (fv<|jh S.eI nm<|.fst b a),R4 S.hG]) μ:=kk;rw[xP wf.kp.nd e,<- Ip gu jZ,Dc e wf.kp.nd]at kk;exact .keep (iG em kk)
def Qs (F:iS K "drop" "drop" sP f fd)(T:jY mg)(eF:ie K eJ)(jO:OwnCls "Needed" rW iU "ValueError.__new__" mg eB)(fV:iH P w K mg eB)(mS:oZ P w K mg eB)(fm:gp P w K mg eB):fA P w K mg eB (lW P w) 6 f fd (pA sP) (iD<|kL eJ gU 4):=by
 refine F.o5 tJ (λds μ Kd Kx h=>lJ h) (λhZ A eM s H E hr fi Kb Z=>⟨_,(eK (lX (dv 1)<|wC 2<|lR (qT 2 tJ.nd)<|lR (qT 3 tJ.nd) wD)
  (eK (ft<|fQ Z.z fV eF.cl hr.le (dv 0)<|a1<|dv 3)
  (eK (iu (l6<|yc (anyC rfl) E8 (by rfl) T.any PyProof.Rows.boot_any<|a1<|Xb false (Rr (N:=["parts","name"]) (js:=[none,some 3]) tJ<|by decide +kernel) (Jv<|fL eF.cl eF.gQ<|dv 0) (λ_ _ _ nd=>(qT 0 nd)) (λ_ _ _=>wA) λ_ _ _=>(Tc (V8<|dv 0)<|SY<|HQ inC Uc (dv 1) (NI (dv 0) Fy<|pR fc)<|by with_unfolding_all rfl))
  (eU<|gD Z rfl jO ar (by decide) ar rfl (a1 eQ))
  gb)
  (eK (qS 4 tJ.nd<|qC mS hr<|a2 (fL eF.cl eF.gQ<|dv 0)<|dv 3)
  (eU<|fX<|BN<|p3 fm hr.le rfl (eE (fL eF.cl eF.iX<|dv 0)<|eE (dv 4)<|eE (qC mS hr<|a2 (fL eF.cl eF.ku<|dv 0)<|dv 3)<|eE (fL eF.cl eF.kX<|dv 0) fT)))))),λds μ m Kd Kx hm hl em h hK=>?_⟩)
 obtain⟨x,y,rfl,h⟩:=dJ h;obtain⟨_,S,d,m',rfl,rfl,hw,wf,MF,fB,kk⟩:=h;obtain⟨nm,rfl⟩:∃ nm,d=.drop nm:=by cases d<;>first|exact⟨_,rfl⟩|cases hw
 have nj:=wf.nj;have lf:(fv S.eI).length<=20:=aG (cG _ _) nj;refine⟨rfl,⟨rfl,rfl⟩,eW em,⟨_,eW em⟩,S,rfl,?_⟩;have kk:vZ _ Kd Kx (if nR S nm=false then some 11 else if zr S nm=true then some 14 else none) (oU eJ { S with eI:=lO S.eI nm}) μ:=kk;unfold nR at kk;cases e:fg S.eI nm with
 |none=>rw[e]at kk;exact(fC hK em kk).2
 | some x =>
  rw[e]at kk;have kk:vZ _ Kd Kx (if zr S nm=true then some 14 else none) (oU eJ { S with eI:=lO S.eI nm}) μ:=kk;refine⟨rfl,_,rfl,λ_=>⟨by rw[jf];exact sz<|by lia,?_⟩⟩;refine rT trivial (λp:Str×Pt=>qe p.2) (λp=>D.bl<|sV nm p.2) (λp _ K' k'=>?_) ?_
  .obtain⟨z,y⟩:=p;cases y with
   |fst b a=>exact k'
   | jn l r q =>
    refine⟨λy=>absurd y.2<|show ¬ (2:Nat)=3 by decide,rfl,rfl,?_⟩;have eb:(false != ([D.str l,D.str r].any λd=>OV d<|.str nm))=sV nm (.jn l r q):=by rw[Xa];simp only[bV,List.any_nil,OV,Bool.or_false];rfl
    show K' (some<|.bl<|false != ([D.str l,D.str r].any λd=>OV d<|.str nm)) _;rw[eb];exact k'
  .refine⟨S.eI.map λp=>sV nm p.2,by rw[a8];rfl,?_⟩;have eb:((S.eI.map λp=>sV nm p.2).any id)=zr S nm:=by rw[List.any_map];rfl
   show if((S.eI.map λp=>sV nm p.2).any id)=true then _ else _;rw[eb];by_cases q:zr S nm=true
   .rw[aD q]at kk ⊢
    exact⟨zs,fC hK em kk⟩
   .rw[az q]at kk ⊢
    have sk:∀ {β:Type} {f:β->D} {l:ao (Str×β)},∀ p∈(l.map λp=>(gh p.1,f p.2)),(∃ i j,p.1=nP i/\gh nm=nP j)\/∃ i j,p.1=gh i/\gh nm=gh j:=λp hp=>by obtain⟨z,_,rfl⟩:=List.mem_map.mp hp;exact .inr ⟨_,_,rfl,rfl⟩
    have nf:((fv S.eI).map (·.1)).Nodup:=wf.kp.nd.sublist xO;refine⟨rfl,_,rfl,_,_,(ju gh qe S.eI).1,(ju gh qe S.eI).2,by rw[kd_len];lia,Mj gu qe wf.kp.nd,rfl,sk,?_⟩;refine⟨rfl,_,rfl,rfl,_,rfl,_,_,(ju gh jZ<|fv S.eI).1,(ju gh jZ<|fv S.eI).2,by rw[kd_len];lia,Mj gu jZ nf,rfl,sk,rfl,_,rfl,iA,rfl,?_⟩;rw[gM];have mf:∀ {β:Type} {n:Nat} {f:β->D} (hf:∀ b,yC n (f b)) (l:ao (Str×β)),r6 n (((l.map λp=>(gh p.1,f p.2)).filter λp=>decide (p.1≠gh nm)).map (·.2)):=λhf l=>pU λd hd=>by obtain⟨z,hz,rfl⟩:=List.mem_map.mp hd;obtain⟨z2,_,rfl⟩:=List.mem_map.mp (List.mem_filter.mp hz).1;exact hf _
    refine Fz.obj (au _) iA ⟨trivial,mf u7 _,mf tF _,Dx _,trivial⟩ (gV hm) ?_;rw[aV];have kk:Kd (.obj eJ OK [.int S.n,uQ gh qe (lO S.eI nm),uQ gh jZ (fv<|lO S.eI nm),R4 S.hG]) μ:=kk;rw[DP,<- KD gu,<- KD gu]at kk;exact .keep (iG em kk)
def Qq (F:iS K "free" "free" sN f fd)(T:jY mg)(eF:ie K eJ)(k7:mP P w K mg eB)(mS:oZ P w K mg eB)(fm:gp P w K mg eB):fA P w K mg eB (lW P w) 6 f fd (pA sN) (iD<|kL eJ gU 5):=by
 refine F.o5 Az (λds μ Kd Kx h=>lJ h) (λhZ A eM s H E hr fi Kb Z=>⟨_,(eK (lX (dv 1)<|wC 2<|lR (qT 2 Az.nd)<|lR (qT 3 Az.nd) wD)
  (eK (ft<|ir Z.z k7 hr.le rfl (a2 (dv 0)<|dv 3))
  (eU<|fX<|BN<|p3 fm hr.le rfl (eE (fL eF.cl eF.iX<|dv 0)<|eE (fL eF.cl eF.gQ<|dv 0)<|eE (fL eF.cl eF.ku<|dv 0)<|eE (qC mS hr<|a2 (fL eF.cl eF.kX<|dv 0)<|dv 3) fT)))),λds μ m Kd Kx hm hl em h hK=>?_⟩)
 obtain⟨x,y,rfl,h⟩:=dJ h;obtain⟨_,S,d,m',rfl,rfl,hw,wf,MF,fB,kk⟩:=h;obtain⟨p,rfl⟩:∃ p,d=.free p:=by cases d<;>first|exact⟨_,rfl⟩|cases hw
 have shl:=wf.shl;refine⟨rfl,eW em,⟨_,eW em⟩,S,rfl,?_⟩;have kk:vZ _ Kd Kx (kq S p) (oU eJ { S with hG:=lO S.hG p}) μ:=kk;cases e:kq S p with
 |some i=>rw[e]at kk;exact(fC hK em kk).2
 | none =>
  rw[e]at kk;refine⟨rfl,_,rfl,rfl,_,rfl,rfl,_,rfl,rfl,_,rfl,_,_,(ju nP (λ_=>.bl true) S.hG).1,(ju nP (λ_=>.bl true) S.hG).2,by rw[jf];lia,Mj pq (λ_:Unit=>D.bl true) wf.Uk,rfl,λq hq=>?_,iA,rfl,?_⟩
  .obtain⟨z,_,rfl⟩:=List.mem_map.mp hq;exact .inl ⟨_,_,rfl,rfl⟩
  rw[gM];refine Fz.obj (au _) iA ⟨trivial,vd u7 _,vd tF _,pU λd hd=>?_,trivial⟩ (gV hm) ?_
  .obtain⟨z,hz,rfl⟩:=List.mem_map.mp hd;obtain⟨z2,_,rfl⟩:=List.mem_map.mp (List.mem_filter.mp hz).1;exact True.intro
  rw[aV];have kk:Kd (.obj eJ OK [.int S.n,uQ gh qe S.eI,uQ gh jZ (fv S.eI),uQ nP (λ_=>.bl true) (lO S.hG p)]) μ:=kk;rw[<- KD pq]at kk;exact .keep (iG em kk)
def Qm (F:iS K "shut" "shut" sI f fd)(T:jY mg)(eF:ie K eJ)(k7:mP P w K mg eB)(jd:mF P w K mg eB)(fm:gp P w K mg eB):fA P w K mg eB (lW P w) 6 f fd (pA sI) (iD<|kL eJ gU 6):=by
 refine F.o5 Ax (λds μ Kd Kx h=>lJ h) (λhZ A eM s H E hr fi Kb Z=>⟨_,(eK (lX (dv 1)<|wC 2<|lR (qT 2 Ax.nd)<|lR (qT 3 Ax.nd) wD)
  (eK (ft<|ir Z.z k7 hr.le rfl (a2 (dv 0)<|dv 3))
  (eU<|fX<|BN<|p3 fm hr.le rfl (eE (fL eF.cl eF.iX<|dv 0)<|eE (fL eF.cl eF.gQ<|dv 0)<|eE (fL eF.cl eF.ku<|dv 0)<|eE (qC jd hr<|a3 (fL eF.cl eF.kX<|dv 0) (dv 3) Q4) fT)))),λds μ m Kd Kx hm hl em h hK=>?_⟩)
 obtain⟨x,y,rfl,h⟩:=dJ h;obtain⟨_,S,d,m',rfl,rfl,hw,wf,MF,fB,kk⟩:=h;obtain⟨p,rfl⟩:∃ p,d=.hG p:=by cases d<;>first|exact⟨_,rfl⟩|cases hw
 have shl:=wf.shl;refine⟨rfl,eW em,⟨_,eW em⟩,S,rfl,?_⟩;have kk:vZ _ Kd Kx (kq S p) (oU eJ { S with hG:=jh S.hG p ()}) μ:=kk;cases e:kq S p with
 |some i=>rw[e]at kk;exact(fC hK em kk).2
 | none =>rw[e]at kk;refine⟨rfl,_,rfl,rfl,_,rfl,rfl,_,rfl,rfl,_,rfl,_,_,(ju nP (λ_=>.bl true) S.hG).1,(ju nP (λ_=>.bl true) S.hG).2,by rw[jf];lia,rfl,iA,rfl,?_⟩;rw[gM];refine Fz.obj (au _) iA ⟨trivial,vd u7 _,vd tF _,pT (Jn (f:=λ_:Unit=>D.bl true) (λ_=>True.intro) _) True.intro,trivial⟩ (gV hm) ?_;rw[aV];have kk:Kd (.obj eJ OK [.int S.n,uQ gh qe S.eI,uQ gh jZ (fv S.eI),uQ nP (λ_=>.bl true) (jh S.hG p ())]) μ:=kk;rw[<- Ip pq (λ_:Unit=>D.bl true)]at kk;exact .keep (iG em kk)
def vJ (F:iS K "stand_behind" "stand_behind" iL f fd)(T:jY mg)(B4:Tab P w K mg "DEEDS" [("put",EA),("join",yi),("found",um),("aged",yn),("drop",ym),("free",yj),("shut",yh)])(Ox:mg "put"=some (.ref EA))(GL:mg "join"=some (.ref yi))(B8:mg "found"=some (.ref um))(GP:mg "aged"=some (.ref yn))(GO:mg "drop"=some (.ref ym))(GN:mg "free"=some (.ref yj))(GK:mg "shut"=some (.ref yh))(aaw:Ti P w K mg eB)(WI:Od P w K mg eB)(RM:HX P w K mg eB)(WN:Oi P w K mg eB)(WM:Oh P w K mg eB)(WK:Of P w K mg eB)(WG:Oa P w K mg eB):fA P w K mg eB (lW P w) 7 f fd (pA iL) (iD<|x6 eJ gU):=by
 have CV:=mE aaw Ox<|mE WI GL<|mE RM B8<|mE WN GP<|mE WM GO<|mE WK GN<|mE WG GK N5;refine F.o5 qd (λds μ Kd Kx h=>BF h) (λhZ A eM s H E hr fi Kb Z=>⟨_,(eK (qS 2 qd.nd<|ZM B4 rfl (BQ (dv 1) fc) λ_ _=>rfl)
  (eU<|fX<|Q2 (i:=2) Z.z CV hr.le rfl (by first|exact Or.inl rfl|exact Or.inr (Or.inl rfl)|exact Or.inr<|Or.inr rfl)<|a2 (dv 0)<|dv 1)),λds μ m Kd Kx hm hl em h hK=>?_⟩)
 obtain⟨x,y,rfl,h⟩:=dJ h;obtain⟨_,S,d,m',rfl,rfl,wf,MF,fB,kk⟩:=h;have kk:vZ gU (gK fi H m Kd) Kb (kW S d) (oU eJ<|oq S d) (μ.set 0<|.gx fi H):=by
  unfold vZ at kk ⊢
  cases e:kW S d with
  |some i=>rw[e]at kk;exact(fC hK em kk).2
  |none=>rw[e]at kk;exact iG em kk
 have fin:∀ w,ddW d=w->kL eJ gU w [oU eJ S,Ed d] (μ.set 0<|.gx fi H) (AQ (μ.set 0<|.gx fi H).length<|gK fi H m Kd).rt Kb:=λw hw=>⟨⟨_,eW em⟩,S,d,m',rfl,rfl,hw,wf,MF,fB,by
  unfold vZ at kk ⊢
  cases e:kW S d with
  |some i=>rw[e]at kk;exact kk
  |none=>rw[e]at kk;exact .keep kk⟩
 cases d with
 |put nm b a=>exact eY rfl ⟨EA,rfl,_,aI,eW em,fin 0 rfl⟩
 |join nm l r p=>exact eY rfl ⟨yi,rfl,_,o6 _ aI,eW em,fin 1 rfl⟩
 |found nm b a=>exact eY rfl ⟨um,rfl,_,o6 _<|o6 _ aI,eW em,fin 2 rfl⟩
 |uU nm b=>exact eY rfl ⟨yn,rfl,_,o6 _<|o6 _<|o6 _ aI,eW em,fin 3 rfl⟩
 |drop nm=>exact eY rfl ⟨ym,rfl,_,o6 _<|o6 _<|o6 _<|o6 _ aI,eW em,fin 4 rfl⟩
 |free nm=>exact eY rfl ⟨yj,rfl,_,o6 _<|o6 _<|o6 _<|o6 _<|o6 _ aI,eW em,fin 5 rfl⟩
 |hG nm=>exact eY rfl ⟨yh,rfl,_,o6 _<|o6 _<|o6 _<|o6 _<|o6 _<|o6 _ aI,eW em,fin 6 rfl⟩
def uF (F:iS K "__init__" "Room.__init__" iz f fd)(T:jY mg)(eL:jr K eX)(eF:ie K eJ)(iV:OwnCls "BadSize" pB iU "ValueError.__new__" mg eB)(uX:uY mg "LONGEST" 40)(fm:gp P w K mg eB):fA P w K mg eB (lW P w) 3 f fd (pA iz) (iD<|Bv eX eJ gU):=by
 refine F.o5 uz (λds μ Kd Kx h=>DR h) (λhZ A eM s H E hr fi Kb Z=>⟨_,(eK (iu (PW.pt<|yJ (Sd (dv 1) fc)<|tG<|X9 (dv 1)<|uR rfl uX)
  (eU<|gD Z rfl iV ar (by decide) ar rfl (a1 eQ))
  gb)
  (eK (wY eL.cl eL.xx (gG true<|a1<|BN<|p3 fm hr.le rfl (eE (dv 1)<|eE BO<|eE BO<|eE BO fT))<|dv 0)
  (eK (wY eL.cl eL.uI (gG true fT)<|dv 0)
  (eU<|wY eL.cl eL.pS fc<|dv 0)))),λds μ m Kd Kx hm hl em h hK=>?_⟩)
 obtain⟨k,n,rfl,h⟩:=dJ h;obtain⟨_,k0,ek,kk⟩:=h;refine ph (c:=n<1) (λq=>⟨zs,fC hK em (by rw[az (by lia)]at kk;exact kk)⟩) (λq1=>ph (c:=(40:Int)<n) (λq=>⟨zs,fC hK em (by rw[az (by lia)]at kk;exact kk)⟩) λq2=>?_);rw[aD (by lia)]at kk;have hk:k<μ.length:=(mW ek).1;have Zb:k<(μ.set 0<|.gx fi H).length:=by rw[aR];exact hk
 have eg:(μ.set 0<|.gx fi H)[k]?=some (.ins eX [] []):=by rw[aA (bz k0)];exact ek
 refine⟨iA,rfl,?_⟩;rw[gM];refine Fz.obj (au _) iA ⟨trivial,trivial,trivial,trivial,trivial⟩ (gV hm) ?_;rw[aV];refine⟨zs,?_⟩;refine⟨_,_,gO (by rw[tE Zb];exact eg),rfl,by decide,?_⟩;rw[df _ _ Zb];refine⟨zs,?_⟩;have hk2:∀ X:MO,k<((μ.set 0<|.gx fi H).set k X).length:=λX=>by rw[aR];exact Zb
 refine⟨_,_,gO<|by rw[a9,tE (hk2 _),aJ Zb],rfl,by show 1<1000;decide,?_⟩;rw[a9,df _ _ (hk2 _),dZ];refine⟨_,_,gO<|by rw[tE (hk2 _),aJ Zb],rfl,by show 2<1000;decide,.keep ?_⟩;rw[df _ _ (hk2 _),dZ];have h0:0<μ.length:=(mW em).1;refine⟨by rw[tE (by rw[aR,aR];exact h0),aA k0,aJ h0],?_⟩;rw[df _ _ (by rw[aR,aR];exact h0),List.set_comm _ _ k0,jj em];have l0:(μ.set 0<|.gx fi H).length=μ.length:=aR;show Kd .gw (μ.set k (.ins eX AO [.mr (μ.set 0<|.gx fi H).length,.mr ((μ.set 0<|.gx fi H).set k _++[_]).length,.int 0])++[.lst [oU eJ ⟨n,[],[]⟩],.lst []]);simp only[mJ,aR,aU];exact kk
def Dp (F:iS K "now" "Room.now" lF f fd)(T:jY mg)(eL:jr K eX):fA P w K mg eB nr 1 f fd (pA lF) (kT<|Zw eX eJ):=by refine ER F CO ⟨_,λhr=>(eU<|fX<|BQ (fL eL.cl eL.xx<|dv 0)<|fL eL.cl eL.pS<|dv 0),λds μ Kd h hm hl=>?_⟩;obtain⟨k,rfl,j1,j2,ss,rs,d,S,ra,es,kk⟩:=dJ h;exact⟨.mr j1,by rw[gO ra.ins];rfl,.int d,by rw[gO ra.ins];rfl,eY (qP ra.l1)<|eY (Eu es)<|Fz.keep kk⟩
def Bf (F:iS K "deed" "Room.deed" ki f fd)(T:jY mg)(eL:jr K eX)(fU:iO P w K mg eB)(yx:rj P w K mg eB):fA P w K mg eB (lW P w) 8 f fd (pA ki) (iD<|xY eX eJ gU):=by
 refine F.o5 tM (λds μ Kd Kx h=>Gs h) (λhZ A eM s H E hr fi Kb Z=>⟨_,(eK (qS 2 tM.nd<|ir Z.z yx hr.le rfl (a2 (jl fU eL.cl hr.le<|dv 0)<|dv 1))
  (eK (R5 (fL eL.cl eL.xx<|dv 0) (qo (fL eL.cl eL.pS<|dv 0) fc)<|gG false<|a1<|dv 2)
  (eK (R5 (fL eL.cl eL.uI<|dv 0) (fL eL.cl eL.pS<|dv 0)<|gG false<|a1<|dv 1)
  (eU<|G6 eL.cl eL.pS (dv 0) fc)))),λds μ m Kd Kx hm hl em h hK=>?_⟩)
 obtain⟨k,y,rfl,h⟩:=dJ h;obtain⟨_,j1,j2,ss,rs,d,S,e,ra,es,rfl,fB,nj,kk⟩:=h;have rg:=ra.gx (m:=.gx fi H);obtain⟨S',yD,wf⟩:=ra.now;rw[es]at yD;cases yD;have:=ra.le;have:=ra.len;have rc:tQ eX "now" (μ.set 0<|.gx fi H) (.mr k):=by show(oX _ _ _).map _=_;rw[gO rg.ins];rfl
 refine⟨rc,j1,j2,ss,rs,d,S,rg,es,eW em,⟨_,eW em⟩,S,e,d,rfl,rfl,wf,by lia,fB,?_⟩;unfold vZ;cases er:kW S e with
 |some i=>rw[er]at kk;exact(fC hK em kk).2
 | none =>
  rw[er]at kk;obtain⟨lk,la,lb⟩:=rg.lk;have few2:=ra.nj;have f1:∀ {ν:MS},ν[k]?=some (.ins eX AO [.mr j1,.mr j2,.int (d:Int)])->oX eX ν k=some (AO,[.mr j1,.mr j2,.int (d:Int)]):=λh=>gO h;refine⟨zs,.mr j1,by rw[f1 rg.ins];rfl,.int d,by rw[f1 rg.ins];rfl,_,qP rg.l1,by lia,by rw[jf];lia,by rw[jf];exact sz (by show _+1<=_;lia),?_⟩;have i1:∀ X,((μ.set 0<|.gx fi H).set j1 X)[k]?=some (.ins eX AO [.mr j1,.mr j2,.int (d:Int)]):=λX=>by rw[aA (bz ra.ka)];exact rg.ins
  refine⟨zs,.mr j2,by rw[f1 (i1 _)];rfl,.int d,by rw[f1 (i1 _)];rfl,_,qP (by rw[aA ra.ab];exact rg.l2),by lia,by rw[jf];lia,by rw[jf];exact sz (by show _+1<=_;lia),?_⟩;have i2:∀ X Y,(((μ.set 0<|.gx fi H).set j1 X).set j2 Y)[k]?=some (.ins eX AO [.mr j1,.mr j2,.int (d:Int)]):=λX Y=>by rw[aA (bz ra.kb)];exact i1 X
  refine⟨d,by rw[f1 (i2 _ _)];rfl,_,_,f1<|i2 _ _,rfl,by show 3<1000;decide,.keep ?_⟩;obtain⟨g1,g2⟩:=nh ra (m:=.gx fi H) (ss':=ss.take (d+1)++[oq S e]) (rs':=rs.take d++[e]) (d':=d+1) em;have eq:((((μ.set 0<|.gx fi H).set j1<|.lst<|(ss.map<|oU eJ).take ((d:Int)+1).toNat++[oU eJ (oq S e)]).set j2<|.lst<|(rs.map Ed).take (d:Int).toNat++[Ed e]).set k<|.ins eX AO [.mr j1,.mr j2,.int ((d:Int)+1)])=ql eX eJ (μ.set 0<|.gx fi H) k j1 j2 (ss.take (d+1)++[oq S e]) (rs.take d++[e]) (d+1):=by unfold ql;rw[aS,aS,List.map_take,List.map_take,show((d:Int)+1).toNat=d+1 by lia,VT];rfl
  show gK fi H m Kd .gw ((((μ.set 0<|.gx fi H).set j1<|.lst<|(ss.map<|oU eJ).take ((d:Int)+1).toNat++[oU eJ (oq S e)]).set j2<|.lst<|(rs.map Ed).take (d:Int).toNat++[Ed e]).set k<|.ins eX AO [.mr j1,.mr j2,.int ((d:Int)+1)]);rw[eq];exact⟨g2,by rw[g1];exact kk⟩
def yW (F:iS K "deeds" "Room.deeds" jD f fd)(T:jY mg)(eL:jr K eX):fA P w K mg eB nr 1 f fd (pA jD) (kT<|Nb eX eJ true):=by refine ER F yP ⟨_,λhr=>(eU<|fX<|p0 false (fL eL.cl eL.uI<|dv 0) Fy<|pR<|fL eL.cl eL.pS<|dv 0),λds μ Kd h hm hl=>?_⟩;obtain⟨k,rfl,j1,j2,ss,rs,d,ra,kk⟩:=dJ h;refine⟨_,by rw[gO ra.ins];rfl,_,by rw[gO ra.ins];rfl,eY (qP ra.l2) ?_⟩;rw[Rg];rw[aD rfl]at kk;exact .keep kk
def A9 (F:iS K "size" "Room.size" j6 f fd)(T:jY mg)(eL:jr K eX)(eF:ie K eJ)(fU:iO P w K mg eB):fA P w K mg eB nr 2 f fd (pA j6) (kT<|qY eX eJ SE):=by refine ER F AD ⟨_,λhr=>(eU<|fX<|fL eF.cl eF.iX<|jl fU eL.cl hr.le<|dv 0),λds μ Kd h hm hl=>?_⟩;obtain⟨k,rfl,j1,j2,ss,rs,d,S,ra,es,kk⟩:=dJ h;exact⟨by show(oX _ _ _).map _=_;rw[gO ra.ins];rfl,j1,j2,ss,rs,d,S,ra,es,rfl,_,rfl,.keep kk⟩
def yU (F:iS K "names" "Room.names" jB f fd)(T:jY mg)(eL:jr K eX)(eF:ie K eJ)(fU:iO P w K mg eB):fA P w K mg eB nr 2 f fd (pA jB) (kT<|qY eX eJ FV):=by refine ER F yN ⟨_,λhr=>(eU<|fX<|NH (YI rfl) (La (m:=false)) (by rfl) T.list bW<|a1<|fL eF.cl eF.gQ<|jl fU eL.cl hr.le<|dv 0),λds μ Kd h hm hl=>?_⟩;obtain⟨k,rfl,j1,j2,ss,rs,d,S,ra,es,kk⟩:=dJ h;refine⟨by show(oX _ _ _).map _=_;rw[gO ra.ins];rfl,j1,j2,ss,rs,d,S,ra,es,rfl,_,rfl,eY rfl ?_⟩;unfold FV at kk;show Fz _ Kd (.lst<|(S.eI.map λp=>gh p.1).map vM) μ;rw[a8];exact .keep kk
def Bh (F:iS K "bars" "Room.bars" kl f fd)(T:jY mg)(eL:jr K eX)(eF:ie K eJ)(fU:iO P w K mg eB)(qc:p6 P w K mg eB):fA P w K mg eB (lW P w) 5 f fd (pA kl) (iD<|pY eX eJ gU SH):=by
 refine F.o5 AJ (λds μ Kd Kx h=>qZ h) (λhZ A eM s H E hr fi Kb Z=>⟨_,(eU<|fX<|BQ (fQ Z.z qc eF.cl hr.le (jl fU eL.cl hr.le<|dv 0)<|a1<|dv 1) fc),λds μ m Kd Kx hm hl em h hK=>?_⟩);obtain⟨k,nm,rfl,h⟩:=dJ h;obtain⟨_,j1,j2,ss,rs,d,S,ra,es,kk⟩:=h;have rg:=ra.gx (m:=.gx fi H);obtain⟨S',yD,wf⟩:=ra.now;rw[es]at yD;cases yD;refine⟨by show(oX _ _ _).map _=_;rw[gO rg.ins];rfl,j1,j2,ss,rs,d,S,rg,es,⟨rfl,rfl⟩,eW em,⟨_,eW em⟩,S,d,rfl,wf,?_⟩;cases e:fg S.eI nm with
 |none=>rw[e]at kk;exact(fC hK em kk).2
 |some x=>rw[e]at kk;exact eY rfl (.keep<|iG em kk)
def Dq (F:iS K "age" "Room.age" lG f fd)(T:jY mg)(eL:jr K eX)(eF:ie K eJ)(fU:iO P w K mg eB)(qc:p6 P w K mg eB):fA P w K mg eB (lW P w) 5 f fd (pA lG) (iD<|pY eX eJ gU Zo):=by
 refine F.o5 CP (λds μ Kd Kx h=>qZ h) (λhZ A eM s H E hr fi Kb Z=>⟨_,(eU<|fX<|BQ (fQ Z.z qc eF.cl hr.le (jl fU eL.cl hr.le<|dv 0)<|a1<|dv 1) fc),λds μ m Kd Kx hm hl em h hK=>?_⟩);obtain⟨k,nm,rfl,h⟩:=dJ h;obtain⟨_,j1,j2,ss,rs,d,S,ra,es,kk⟩:=h;have rg:=ra.gx (m:=.gx fi H);obtain⟨S',yD,wf⟩:=ra.now;rw[es]at yD;cases yD;refine⟨by show(oX _ _ _).map _=_;rw[gO rg.ins];rfl,j1,j2,ss,rs,d,S,rg,es,⟨rfl,rfl⟩,eW em,⟨_,eW em⟩,S,d,rfl,wf,?_⟩;cases e:fg S.eI nm with
 |none=>rw[e]at kk;exact(fC hK em kk).2
 |some x=>rw[e]at kk;exact eY rfl (.keep<|iG em kk)
def yT (F:iS K "parts" "Room.parts" jA f fd)(T:jY mg)(eL:jr K eX)(eF:ie K eJ)(fU:iO P w K mg eB)(k9:mR P w K mg eB):fA P w K mg eB (lW P w) 5 f fd (pA jA) (iD<|pY eX eJ gU FU):=by
 refine F.o5 yM (λds μ Kd Kx h=>qZ h) (λhZ A eM s H E hr fi Kb Z=>⟨_,(eU<|fX<|fQ Z.z k9 eF.cl hr.le (jl fU eL.cl hr.le<|dv 0)<|a1<|dv 1),λds μ m Kd Kx hm hl em h hK=>?_⟩);obtain⟨k,nm,rfl,h⟩:=dJ h;obtain⟨_,j1,j2,ss,rs,d,S,ra,es,kk⟩:=h;have rg:=ra.gx (m:=.gx fi H);refine⟨by show(oX _ _ _).map _=_;rw[gO rg.ins];rfl,j1,j2,ss,rs,d,S,rg,es,⟨rfl,rfl⟩,eW em,⟨_,eW em⟩,S,rfl,?_⟩;unfold FU at kk;cases e:fg S.eI nm with
 |none=>rw[e]at kk;exact(fC hK em kk).2
 |some x=>rw[e]at kk;exact .keep (iG em kk)
def xn (F:iS K "source" "Room.source" ja f fd)(T:jY mg)(eL:jr K eX)(eF:ie K eJ)(fU:iO P w K mg eB)(oj:nW P w K mg eB):fA P w K mg eB (lW P w) 5 f fd (pA ja) (iD<|xU eX eJ gU):=by
 refine F.o5 wV (λds μ Kd Kx h=>Bt h) (λhZ A eM s H E hr fi Kb Z=>⟨_,(eU<|fX<|fQ Z.z oj eF.cl hr.le (jl fU eL.cl hr.le<|dv 0)<|a2 (dv 1)<|dv 2),λds μ m Kd Kx hm hl em h hK=>?_⟩);obtain⟨k,nm,bar,rfl,h⟩:=dJ h;obtain⟨_,j1,j2,ss,rs,d,S,ra,es,kk⟩:=h;have rg:=ra.gx (m:=.gx fi H);obtain⟨S',yD,wf⟩:=ra.now;rw[es]at yD;cases yD;refine⟨by show(oX _ _ _).map _=_;rw[gO rg.ins];rfl,j1,j2,ss,rs,d,S,rg,es,⟨rfl,rfl⟩,eW em,⟨_,eW em⟩,S,rfl,wf.kp,?_⟩;cases e:fg S.eI nm with
 |none=>rw[e]at kk;exact(fC hK em kk).2
 | some x =>
  rw[e]at kk;have kk:(if 0<=bar/\bar<S.n then Kd (Iz<|jI S.eI nm bar) μ else _):=kk;show(if 0<=bar/\bar<S.n then _ else _);by_cases q:0<=bar/\bar<S.n
  .rw[aD q]at kk ⊢;exact .keep (iG em kk)
  .rw[az q]at kk ⊢;exact(fC hK em kk).2
def Bg (F:iS K "cuts" "Room.cuts" kj f fd)(T:jY mg)(eL:jr K eX)(eF:ie K eJ)(fU:iO P w K mg eB)(k8:mQ P w K mg eB):fA P w K mg eB nr 5 f fd (pA kj) (kT<|qY eX eJ SG):=by
 refine ER F ng ⟨_,λhr=>(eK (lX (jl k8 eF.cl hr.le<|jl fU eL.cl hr.le<|dv 0)<|wC 3<|lR (qT 1 ng.nd)<|lR (qT 2 ng.nd)<|lR (qT 3 ng.nd) wD)
  (eU<|fX<|dv 2)),λds μ Kd h hm hl=>?_⟩
 obtain⟨k,rfl,j1,j2,ss,rs,d,S,ra,es,kk⟩:=dJ h;obtain⟨S',yD,wf⟩:=ra.now;rw[es]at yD;cases yD;exact⟨by show(oX _ _ _).map _=_;rw[gO ra.ins];rfl,j1,j2,ss,rs,d,S,ra,es,⟨rfl,rfl⟩,S,d,rfl,wf,rfl,.keep kk⟩
def yS (F:iS K "takes" "Room.takes" jz f fd)(T:jY mg)(eL:jr K eX)(eF:ie K eJ)(fU:iO P w K mg eB)(k8:mQ P w K mg eB):fA P w K mg eB nr 5 f fd (pA jz) (kT<|qY eX eJ MT):=by
 refine ER F mH ⟨_,λhr=>(eK (lX (jl k8 eF.cl hr.le<|jl fU eL.cl hr.le<|dv 0)<|wC 3<|lR (qT 1 mH.nd)<|lR (qT 2 mH.nd)<|lR (qT 3 mH.nd) wD)
  (eU<|fX<|dv 3)),λds μ Kd h hm hl=>?_⟩
 obtain⟨k,rfl,j1,j2,ss,rs,d,S,ra,es,kk⟩:=dJ h;obtain⟨S',yD,wf⟩:=ra.now;rw[es]at yD;cases yD;exact⟨by show(oX _ _ _).map _=_;rw[gO ra.ins];rfl,j1,j2,ss,rs,d,S,ra,es,⟨rfl,rfl⟩,S,d,rfl,wf,rfl,.keep kk⟩
def LU (F:iS K "_law_kinds" "_law_kinds" mI f fd)(T:jY mg)(TV:mg "ValueError"=none)(gc:OwnCls "BadBars" jM iU "ValueError.__new__" mg eB)(ig:OwnCls "BadMake" iP iU "ValueError.__new__" mg eB)(gH:OwnCls "BadNumber" kE iU "ValueError.__new__" mg eB)(gR:OwnCls "BadText" kC iU "ValueError.__new__" mg eB)(iW:OwnCls "BadName" nZ iU "ValueError.__new__" mg eB)(jR:OwnCls "BadAge" rZ iU "ValueError.__new__" mg eB)(jQ:OwnCls "BadBar" rY iU "ValueError.__new__" mg eB)(iB:OwnCls "BadPlace" nv iU "ValueError.__new__" mg eB)(iV:OwnCls "BadSize" pB iU "ValueError.__new__" mg eB)(lq:OwnCls "Taken" uT iU "ValueError.__new__" mg eB)(m3:OwnCls "Full" zY iU "ValueError.__new__" mg eB)(jN:OwnCls "NoTake" rV iU "ValueError.__new__" mg eB)(mZ:OwnCls "Shut" zX iU "ValueError.__new__" mg eB)(jP:OwnCls "Joined" rX iU "ValueError.__new__" mg eB)(jO:OwnCls "Needed" rW iU "ValueError.__new__" mg eB)(fN:OwnCls "NothingLeft" ij iU "ValueError.__new__" mg eB)(oP:RF "NoWay" jU mg):Il P w K mg eB 1 f fd (pA mI) (BB K gU gm):=by
 refine F.okH gY (λds μ Kd h=>DY h) (λhZ A eM s H hr fi kx e hk hh=>⟨_,(eK (qS 1 gY.nd<|gG false<|eE (gi (by rfl) T.isinstance (by rfl) gc.bound<|dv 0)<|eE (gi (by rfl) T.isinstance (by rfl) ig.bound<|dv 0)<|eE (gi (by rfl) T.isinstance (by rfl) gH.bound<|dv 0)<|eE (gi (by rfl) T.isinstance (by rfl) gR.bound<|dv 0) fT)
  (eK (qS 1 gY.nd<|qo (dv 1)<|gG false<|eE (gi (by rfl) T.isinstance (by rfl) iW.bound<|dv 0)<|eE (gi (by rfl) T.isinstance (by rfl) jR.bound<|dv 0)<|eE (gi (by rfl) T.isinstance (by rfl) jQ.bound<|dv 0)<|eE (gi (by rfl) T.isinstance (by rfl) iB.bound<|dv 0) fT)
  (eK (qS 1 gY.nd<|qo (dv 1)<|gG false<|eE (gi (by rfl) T.isinstance (by rfl) iV.bound<|dv 0)<|eE (gi (by rfl) T.isinstance (by rfl) lq.bound<|dv 0)<|eE (gi (by rfl) T.isinstance (by rfl) m3.bound<|dv 0)<|eE (gi (by rfl) T.isinstance (by rfl) jN.bound<|dv 0) fT)
  (eK (qS 1 gY.nd<|qo (dv 1)<|gG false<|eE (gi (by rfl) T.isinstance (by rfl) mZ.bound<|dv 0)<|eE (gi (by rfl) T.isinstance (by rfl) jP.bound<|dv 0)<|eE (gi (by rfl) T.isinstance (by rfl) jO.bound<|dv 0)<|eE (gi (by rfl) T.isinstance (by rfl) fN.bound<|dv 0) fT)
  (eK (qS 1 gY.nd<|qo (dv 1)<|gG false<|a2 (gi (by rfl) T.isinstance (by rfl) oP.bound<|dv 0)<|S9<|NL (by rfl) T.isinstance (by rfl) TV PyProof.Rows.Boot.«ValueError»<|dv 0)
  (eK (qS 2 gY.nd<|gG false<|eE eQ<|eE eQ<|eE eQ<|eE eQ<|eE eQ<|eE eQ<|eE eQ<|eE eQ<|eE eQ fT)
  (eK (qS 2 gY.nd<|qo (dv 2)<|gG false<|eE eQ<|eE eQ<|eE eQ<|eE eQ<|eE eQ<|eE eQ<|eE eQ<|eE eQ<|eE eQ fT)
  (eU<|fX<|Q0 false (Rr (N:=["_law_k","_law_words","_law_found"]) (js:=[none,some 2,some 1]) gY<|by decide +kernel) hh (vU 0) (pV 0) rfl (Mu (H0:=H) hk rfl T.range<|a1 fc) (λ_ _ _=>(qN 0<|show List.Nodup (["_law_k","_law_words","_law_found"]:ao Str) by decide +kernel)) (λ_ _ _=>(An<|l6<|BQ (dv 2)<|dv 0)) λ_ _ _=>(BQ (dv 1)<|dv 0))))))))),λds μ m Kd hm hl em hc h=>?_⟩)
 obtain⟨k,rfl,h⟩:=dJ h;obtain⟨_,hk1,j,hj,hx,KB,kk⟩:=h;have qm:(μ.set 0<|MO.gx fi H)[k]?=some (.exc<|.ref<|gU.getD j 0):=by rw[aA (bz hk1)];exact hx
 refine⟨_,_,qm,KB.ef,KB.at_ 0<|by decide,_,_,qm,KB.ef,KB.at_ 1<|by decide,_,_,qm,KB.ef,KB.at_ 2<|by decide,_,_,qm,KB.ef,KB.at_ 3<|by decide,zs,?_⟩;refine⟨_,_,qm,KB.ef,KB.at_ 4<|by decide,_,_,qm,KB.ef,KB.at_ 5<|by decide,_,_,qm,KB.ef,KB.at_ 6<|by decide,_,_,qm,KB.ef,KB.at_ 7<|by decide,zs,eY rfl (eY rfl ⟨zs,?_⟩)⟩;refine⟨_,_,qm,KB.ef,KB.at_ 8<|by decide,_,_,qm,KB.ef,KB.at_ 9<|by decide,_,_,qm,KB.ef,KB.at_ 10<|by decide,_,_,qm,KB.ef,KB.at_ 11<|by decide,zs,eY rfl (eY rfl ⟨zs,?_⟩)⟩;refine⟨_,_,qm,KB.ef,KB.at_ 12<|by decide,_,_,qm,KB.ef,KB.at_ 13<|by decide,_,_,qm,KB.ef,KB.at_ 14<|by decide,_,_,qm,KB.ef,KB.at_ 15<|by decide,zs,eY rfl (eY rfl ⟨zs,?_⟩)⟩;refine⟨_,_,qm,KB.ef,KB.at_ 16<|by decide,_,_,qm,KB.ef,KB.kv,zs,eY rfl (eY rfl ⟨zs,?_⟩)⟩;refine⟨zs,zs,eY rfl (eY rfl ⟨zs,?_⟩)⟩;refine⟨by decide,by decide,zs,?_⟩;refine vq hj hc (λi K' hi h1 h2 k1 k2=>?_)<|.keep<|iG em kk;rw[Int.zero_add];refine eY (v:=D.bl<|decide (i=j)) (p7 h1) ?_;show(if decide (i=j)=true then _ else _);by_cases q:i=j
 .rw[aD (aH q)];refine eY (v:=D.str<|nO.getD i "") (p7 ?_)<|k1 q;have:=bG (Option.map D.str) h2;rw[<- wd]at this;exact this
 .rw[az (by simpa using q)];exact k2 q
def Bb (F:iS K "redo" "Room.redo" j9 f fd)(T:jY mg)(eL:jr K eX)(fN:OwnCls "NothingLeft" ij iU "ValueError.__new__" mg eB):fA P w K mg eB (lW P w) 2 f fd (pA j9) (iD<|Gm eX eJ ij):=by
 refine F.o5 AF (λds μ Kd Kx h=>Gj h) (λhZ A eM s H E hr fi Kb Z=>⟨_,(eK (iu (zl (fL eL.cl eL.pS<|dv 0)<|Q9 T<|fL eL.cl eL.uI<|dv 0)
  (eU<|gD Z rfl fN ar (by decide) ar rfl (a1 eQ))
  gb)
  (eK (G6 eL.cl eL.pS (dv 0) fc)
  (eU<|fX<|BQ (fL eL.cl eL.uI<|dv 0)<|dMi (fL eL.cl eL.pS<|dv 0) fc))),λds μ m Kd Kx hm hl em h hK=>?_⟩)
 obtain⟨k,rfl,h⟩:=dJ h;obtain⟨_,j1,j2,ss,rs,d,ra,kk⟩:=h;have rg:=ra.gx (m:=.gx fi H);have hle:=ra.le;have f1:∀ {ν:MS} {n:Int},ν[k]?=some (.ins eX AO [.mr j1,.mr j2,.int n])->oX eX ν k=some (AO,[.mr j1,.mr j2,.int n]):=λh=>gO h;obtain⟨lk,la,lb⟩:=rg.lk;refine kM (false != decide ((d:Int)=((rs.map Ed).length:Nat))) (.gr λK k=>⟨.int d,by rw[f1 rg.ins];rfl,.mr j2,by rw[f1 rg.ins];rfl,eY (qP rg.l2) k⟩) (λq=>?_) (λq=>?_)
 .rw[jf]at q;have e:(d:Int)=(rs.length:Nat):=by simpa using q
  rw[List.getElem?_eq_none (by lia)]at kk;exact⟨zs,fC hK em kk⟩
 .rw[jf]at q;have hd:d<rs.length:=by
   have:¬ (d:Int)=(rs.length:Nat):=by simpa using q
   lia
  rw[vk hd]at kk;refine mX ?_;refine⟨(d:Int),by rw[f1 rg.ins];rfl,_,_,f1 rg.ins,rfl,by show 3<1000;decide,?_⟩;have e1:((μ.set 0<|.gx fi H).set k<|.ins eX AO [.mr j1,.mr j2,.int ((d:Int)+1)])=ql eX eJ (μ.set 0<|.gx fi H) k j1 j2 ss rs (d+1):=by unfold ql;rw[set_same rg.l1,set_same rg.l2,show((d+1:Nat):Int)=(d:Int)+1 from rfl]
  have rp:f9 eX eJ (ql eX eJ (μ.set 0<|.gx fi H) k j1 j2 ss rs<|d+1) k j1 j2 ss rs (d+1):=rg.put ra.len hd ra.wf ra.nj;have e0:putN (Str.ofString "done") (D.int<|(d:Int)+1) AO [D.mr j1,D.mr j2,D.int (d:Int)]=(AO,[D.mr j1,D.mr j2,D.int ((d:Int)+1)]):=rfl;dsimp only;rw[e0];dsimp only;rw[e1];refine⟨.mr j2,by rw[f1 rp.ins];rfl,.int ((d+1:Nat):Int),by rw[f1 rp.ins];rfl,eY (qP rp.l2)<|eY (v:=Ed rs[d]) ?_<|.keep ?_⟩
  .rw[show((d+1:Nat):Int) - 1=(d:Int) by lia];exact Ig (vk hd)
  obtain⟨g1,g2⟩:=nh ra (m:=.gx fi H) (ss':=ss) (rs':=rs) (d':=d+1) em;exact⟨g2,by rw[g1];exact kk⟩
def Dn (F:iS K "put" "Room.put" lE f fd)(T:jY mg)(eL:jr K eX)(gI:jv P w K mg eB):fA P w K mg eB (lW P w) 9 f fd (pA lE) (iD<|iT eX eJ gU 0 4):=by
 refine F.o5 CN (λds μ Kd Kx h=>lI h) (λhZ A eM s H E hr fi Kb Z=>⟨_,(eU<|ft<|fQ Z.z gI eL.cl hr.le (dv 0)<|a1<|lN<|eE eQ<|eE (dv 1)<|eE (dv 2)<|eE (dv 3) fT),λds μ m Kd Kx hm hl em h hK=>?_⟩);unfold iT at h;obtain⟨_,h⟩:=h;split at h
 .rename_i k xs;obtain⟨e,hw,hx,_,j1,j2,ss,rs,d,S,e',ra,es,he,fB,nj,kk⟩:=h;cases e<;>cases hw;cases hx;have rg:=ra.gx (m:=.gx fi H);refine⟨fJ rg rfl,zs,eW em,⟨_,eW em⟩,j1,j2,ss,rs,d,S,e',rg,es,he,fB,nj,?_⟩;cases er:kW S e' with
  |some i=>rw[er]at kk;exact(fC hK em kk).2
  | none =>rw[er]at kk;obtain⟨g1,g2⟩:=nh ra (m:=.gx fi H) (ss':=ss.take (d+1)++[oq S e']) (rs':=rs.take d++[e']) (d':=d+1) em;exact .keep ⟨g2,by rw[g1];exact kk⟩
 .cases h
def Bc (F:iS K "join" "Room.join" kc f fd)(T:jY mg)(eL:jr K eX)(gI:jv P w K mg eB):fA P w K mg eB (lW P w) 9 f fd (pA kc) (iD<|iT eX eJ gU 1 5):=by
 refine F.o5 AG (λds μ Kd Kx h=>lI h) (λhZ A eM s H E hr fi Kb Z=>⟨_,(eU<|ft<|fQ Z.z gI eL.cl hr.le (dv 0)<|a1<|lN<|eE eQ<|eE (dv 1)<|eE (dv 2)<|eE (dv 3)<|eE (dv 4) fT),λds μ m Kd Kx hm hl em h hK=>?_⟩);unfold iT at h;obtain⟨_,h⟩:=h;split at h
 .rename_i k xs;obtain⟨e,hw,hx,_,j1,j2,ss,rs,d,S,e',ra,es,he,fB,nj,kk⟩:=h;cases e<;>cases hw;cases hx;have rg:=ra.gx (m:=.gx fi H);refine⟨fJ rg rfl,zs,eW em,⟨_,eW em⟩,j1,j2,ss,rs,d,S,e',rg,es,he,fB,nj,?_⟩;cases er:kW S e' with
  |some i=>rw[er]at kk;exact(fC hK em kk).2
  | none =>rw[er]at kk;obtain⟨g1,g2⟩:=nh ra (m:=.gx fi H) (ss':=ss.take (d+1)++[oq S e']) (rs':=rs.take d++[e']) (d':=d+1) em;exact .keep ⟨g2,by rw[g1];exact kk⟩
 .cases h
def yV (F:iS K "found" "Room.found" jC f fd)(T:jY mg)(eL:jr K eX)(gI:jv P w K mg eB):fA P w K mg eB (lW P w) 9 f fd (pA jC) (iD<|iT eX eJ gU 2 4):=by
 refine F.o5 yO (λds μ Kd Kx h=>lI h) (λhZ A eM s H E hr fi Kb Z=>⟨_,(eU<|ft<|fQ Z.z gI eL.cl hr.le (dv 0)<|a1<|lN<|eE eQ<|eE (dv 1)<|eE (dv 2)<|eE (dv 3) fT),λds μ m Kd Kx hm hl em h hK=>?_⟩);unfold iT at h;obtain⟨_,h⟩:=h;split at h
 .rename_i k xs;obtain⟨e,hw,hx,_,j1,j2,ss,rs,d,S,e',ra,es,he,fB,nj,kk⟩:=h;cases e<;>cases hw;cases hx;have rg:=ra.gx (m:=.gx fi H);refine⟨fJ rg rfl,zs,eW em,⟨_,eW em⟩,j1,j2,ss,rs,d,S,e',rg,es,he,fB,nj,?_⟩;cases er:kW S e' with
  |some i=>rw[er]at kk;exact(fC hK em kk).2
  | none =>rw[er]at kk;obtain⟨g1,g2⟩:=nh ra (m:=.gx fi H) (ss':=ss.take (d+1)++[oq S e']) (rs':=rs.take d++[e']) (d':=d+1) em;exact .keep ⟨g2,by rw[g1];exact kk⟩
 .cases h
def Bi (F:iS K "aged" "Room.aged" km f fd)(T:jY mg)(eL:jr K eX)(gI:jv P w K mg eB):fA P w K mg eB (lW P w) 9 f fd (pA km) (iD<|iT eX eJ gU 3 3):=by
 refine F.o5 AK (λds μ Kd Kx h=>lI h) (λhZ A eM s H E hr fi Kb Z=>⟨_,(eU<|ft<|fQ Z.z gI eL.cl hr.le (dv 0)<|a1<|lN<|a3 eQ (dv 1)<|dv 2),λds μ m Kd Kx hm hl em h hK=>?_⟩);unfold iT at h;obtain⟨_,h⟩:=h;split at h
 .rename_i k xs;obtain⟨e,hw,hx,_,j1,j2,ss,rs,d,S,e',ra,es,he,fB,nj,kk⟩:=h;cases e<;>cases hw;cases hx;have rg:=ra.gx (m:=.gx fi H);refine⟨fJ rg rfl,zs,eW em,⟨_,eW em⟩,j1,j2,ss,rs,d,S,e',rg,es,he,fB,nj,?_⟩;cases er:kW S e' with
  |some i=>rw[er]at kk;exact(fC hK em kk).2
  | none =>rw[er]at kk;obtain⟨g1,g2⟩:=nh ra (m:=.gx fi H) (ss':=ss.take (d+1)++[oq S e']) (rs':=rs.take d++[e']) (d':=d+1) em;exact .keep ⟨g2,by rw[g1];exact kk⟩
 .cases h
def Be (F:iS K "drop" "Room.drop" kh f fd)(T:jY mg)(eL:jr K eX)(gI:jv P w K mg eB):fA P w K mg eB (lW P w) 9 f fd (pA kh) (iD<|iT eX eJ gU 4 2):=by
 refine F.o5 AI (λds μ Kd Kx h=>lI h) (λhZ A eM s H E hr fi Kb Z=>⟨_,(eU<|ft<|fQ Z.z gI eL.cl hr.le (dv 0)<|a1<|lN<|a2 eQ<|dv 1),λds μ m Kd Kx hm hl em h hK=>?_⟩);unfold iT at h;obtain⟨_,h⟩:=h;split at h
 .rename_i k xs;obtain⟨e,hw,hx,_,j1,j2,ss,rs,d,S,e',ra,es,he,fB,nj,kk⟩:=h;cases e<;>cases hw;cases hx;have rg:=ra.gx (m:=.gx fi H);refine⟨fJ rg rfl,zs,eW em,⟨_,eW em⟩,j1,j2,ss,rs,d,S,e',rg,es,he,fB,nj,?_⟩;cases er:kW S e' with
  |some i=>rw[er]at kk;exact(fC hK em kk).2
  | none =>rw[er]at kk;obtain⟨g1,g2⟩:=nh ra (m:=.gx fi H) (ss':=ss.take (d+1)++[oq S e']) (rs':=rs.take d++[e']) (d':=d+1) em;exact .keep ⟨g2,by rw[g1];exact kk⟩
 .cases h
def Bd (F:iS K "free" "Room.free" ke f fd)(T:jY mg)(eL:jr K eX)(gI:jv P w K mg eB):fA P w K mg eB (lW P w) 9 f fd (pA ke) (iD<|iT eX eJ gU 5 2):=by
 refine F.o5 AH (λds μ Kd Kx h=>lI h) (λhZ A eM s H E hr fi Kb Z=>⟨_,(eU<|ft<|fQ Z.z gI eL.cl hr.le (dv 0)<|a1<|lN<|a2 eQ<|dv 1),λds μ m Kd Kx hm hl em h hK=>?_⟩);unfold iT at h;obtain⟨_,h⟩:=h;split at h
 .rename_i k xs;obtain⟨e,hw,hx,_,j1,j2,ss,rs,d,S,e',ra,es,he,fB,nj,kk⟩:=h;cases e<;>cases hw;cases hx;have rg:=ra.gx (m:=.gx fi H);refine⟨fJ rg rfl,zs,eW em,⟨_,eW em⟩,j1,j2,ss,rs,d,S,e',rg,es,he,fB,nj,?_⟩;cases er:kW S e' with
  |some i=>rw[er]at kk;exact(fC hK em kk).2
  | none =>rw[er]at kk;obtain⟨g1,g2⟩:=nh ra (m:=.gx fi H) (ss':=ss.take (d+1)++[oq S e']) (rs':=rs.take d++[e']) (d':=d+1) em;exact .keep ⟨g2,by rw[g1];exact kk⟩
 .cases h
def Ba (F:iS K "shut" "Room.shut" j7 f fd)(T:jY mg)(eL:jr K eX)(gI:jv P w K mg eB):fA P w K mg eB (lW P w) 9 f fd (pA j7) (iD<|iT eX eJ gU 6 2):=by
 refine F.o5 AE (λds μ Kd Kx h=>lI h) (λhZ A eM s H E hr fi Kb Z=>⟨_,(eU<|ft<|fQ Z.z gI eL.cl hr.le (dv 0)<|a1<|lN<|a2 eQ<|dv 1),λds μ m Kd Kx hm hl em h hK=>?_⟩);unfold iT at h;obtain⟨_,h⟩:=h;split at h
 .rename_i k xs;obtain⟨e,hw,hx,_,j1,j2,ss,rs,d,S,e',ra,es,he,fB,nj,kk⟩:=h;cases e<;>cases hw;cases hx;have rg:=ra.gx (m:=.gx fi H);refine⟨fJ rg rfl,zs,eW em,⟨_,eW em⟩,j1,j2,ss,rs,d,S,e',rg,es,he,fB,nj,?_⟩;cases er:kW S e' with
  |some i=>rw[er]at kk;exact(fC hK em kk).2
  | none =>rw[er]at kk;obtain⟨g1,g2⟩:=nh ra (m:=.gx fi H) (ss':=ss.take (d+1)++[oq S e']) (rs':=rs.take d++[e']) (d':=d+1) em;exact .keep ⟨g2,by rw[g1];exact kk⟩
 .cases h
def Fu (F:iS K "_law_kinds" "_law_kinds" mI f fd)(T:jY mg)(TV:mg "ValueError"=none)(gc:OwnCls "BadBars" jM iU "ValueError.__new__" mg eB)(ig:OwnCls "BadMake" iP iU "ValueError.__new__" mg eB)(gH:OwnCls "BadNumber" kE iU "ValueError.__new__" mg eB)(gR:OwnCls "BadText" kC iU "ValueError.__new__" mg eB)(iW:OwnCls "BadName" nZ iU "ValueError.__new__" mg eB)(jR:OwnCls "BadAge" rZ iU "ValueError.__new__" mg eB)(jQ:OwnCls "BadBar" rY iU "ValueError.__new__" mg eB)(iB:OwnCls "BadPlace" nv iU "ValueError.__new__" mg eB)(iV:OwnCls "BadSize" pB iU "ValueError.__new__" mg eB)(lq:OwnCls "Taken" uT iU "ValueError.__new__" mg eB)(m3:OwnCls "Full" zY iU "ValueError.__new__" mg eB)(jN:OwnCls "NoTake" rV iU "ValueError.__new__" mg eB)(mZ:OwnCls "Shut" zX iU "ValueError.__new__" mg eB)(jP:OwnCls "Joined" rX iU "ValueError.__new__" mg eB)(jO:OwnCls "Needed" rW iU "ValueError.__new__" mg eB)(fN:OwnCls "NothingLeft" ij iU "ValueError.__new__" mg eB)(oP:RF "NoWay" jU mg):fA P w K mg eB nr 1 f fd (pA mI) (kT<|HD K gU gm):=by
 refine F.okD gY (λds μ Kd h=>by obtain⟨_,rfl,_⟩:=dJ h;rfl) (λhZ A eM s H E hr=>⟨_,(eK (qS 1 gY.nd<|gG false<|eE (gi (by rfl) T.isinstance (by rfl) gc.bound<|dv 0)<|eE (gi (by rfl) T.isinstance (by rfl) ig.bound<|dv 0)<|eE (gi (by rfl) T.isinstance (by rfl) gH.bound<|dv 0)<|eE (gi (by rfl) T.isinstance (by rfl) gR.bound<|dv 0) fT)
  (eK (qS 1 gY.nd<|qo (dv 1)<|gG false<|eE (gi (by rfl) T.isinstance (by rfl) iW.bound<|dv 0)<|eE (gi (by rfl) T.isinstance (by rfl) jR.bound<|dv 0)<|eE (gi (by rfl) T.isinstance (by rfl) jQ.bound<|dv 0)<|eE (gi (by rfl) T.isinstance (by rfl) iB.bound<|dv 0) fT)
  (eK (qS 1 gY.nd<|qo (dv 1)<|gG false<|eE (gi (by rfl) T.isinstance (by rfl) iV.bound<|dv 0)<|eE (gi (by rfl) T.isinstance (by rfl) lq.bound<|dv 0)<|eE (gi (by rfl) T.isinstance (by rfl) m3.bound<|dv 0)<|eE (gi (by rfl) T.isinstance (by rfl) jN.bound<|dv 0) fT)
  (eK (qS 1 gY.nd<|qo (dv 1)<|gG false<|eE (gi (by rfl) T.isinstance (by rfl) mZ.bound<|dv 0)<|eE (gi (by rfl) T.isinstance (by rfl) jP.bound<|dv 0)<|eE (gi (by rfl) T.isinstance (by rfl) jO.bound<|dv 0)<|eE (gi (by rfl) T.isinstance (by rfl) fN.bound<|dv 0) fT)
  (eK (qS 1 gY.nd<|qo (dv 1)<|gG false<|a2 (gi (by rfl) T.isinstance (by rfl) oP.bound<|dv 0)<|S9<|NL (by rfl) T.isinstance (by rfl) TV PyProof.Rows.Boot.«ValueError»<|dv 0)
  (eK (qS 2 gY.nd<|gG false<|eE eQ<|eE eQ<|eE eQ<|eE eQ<|eE eQ<|eE eQ<|eE eQ<|eE eQ<|eE eQ fT)
  (eK (qS 2 gY.nd<|qo (dv 2)<|gG false<|eE eQ<|eE eQ<|eE eQ<|eE eQ<|eE eQ<|eE eQ<|eE eQ<|eE eQ<|eE eQ fT)
  (eU<|fX<|Xb false (Rr (N:=["_law_k","_law_words","_law_found"]) (js:=[none,some 2,some 1]) gY<|by decide +kernel) (DF rfl T.range<|a1 fc) (λ_ _ _ nd=>(qT 0 nd)) (λ_ _ _=>(An<|l6<|BQ (dv 2)<|dv 0)) λ_ _ _=>(BQ (dv 1)<|dv 0))))))))),λds μ Kd hm hl h=>?_⟩)
 obtain⟨k,rfl,h⟩:=dJ h;obtain⟨j,hj,qm,KB,kk⟩:=h;refine⟨_,_,qm,KB.ef,KB.at_ 0<|by decide,_,_,qm,KB.ef,KB.at_ 1<|by decide,_,_,qm,KB.ef,KB.at_ 2<|by decide,_,_,qm,KB.ef,KB.at_ 3<|by decide,zs,?_⟩;refine⟨_,_,qm,KB.ef,KB.at_ 4<|by decide,_,_,qm,KB.ef,KB.at_ 5<|by decide,_,_,qm,KB.ef,KB.at_ 6<|by decide,_,_,qm,KB.ef,KB.at_ 7<|by decide,zs,eY rfl (eY rfl ⟨zs,?_⟩)⟩;refine⟨_,_,qm,KB.ef,KB.at_ 8<|by decide,_,_,qm,KB.ef,KB.at_ 9<|by decide,_,_,qm,KB.ef,KB.at_ 10<|by decide,_,_,qm,KB.ef,KB.at_ 11<|by decide,zs,eY rfl (eY rfl ⟨zs,?_⟩)⟩;refine⟨_,_,qm,KB.ef,KB.at_ 12<|by decide,_,_,qm,KB.ef,KB.at_ 13<|by decide,_,_,qm,KB.ef,KB.at_ 14<|by decide,_,_,qm,KB.ef,KB.at_ 15<|by decide,zs,eY rfl (eY rfl ⟨zs,?_⟩)⟩;refine⟨_,_,qm,KB.ef,KB.at_ 16<|by decide,_,_,qm,KB.ef,KB.kv,zs,eY rfl (eY rfl ⟨zs,?_⟩)⟩;refine⟨zs,zs,eY rfl (eY rfl ⟨zs,?_⟩)⟩;refine⟨by decide,by decide,zs,?_⟩;refine vq hj True.intro (λi K' hi h1 h2 k1 k2=>?_)<|.keep kk;rw[Int.zero_add];refine eY (v:=D.bl<|decide (i=j)) (p7 h1) ?_;show(if decide (i=j)=true then _ else _);by_cases q:i=j
 .rw[aD (aH q)];refine eY (v:=D.str<|nO.getD i "") (p7 ?_)<|k1 q;have:=bG (Option.map D.str) h2;rw[<- wd]at this;exact this
 .rw[az (by simpa using q)];exact k2 q
def tW (F:iS K "__init__" "NoWay.__init__" iK f fd)(T:jY mg)(XW:aal K jU):fA P w K mg eB nr 1 f fd (pA iK) (T7 jU "first" "behind"):=by
 refine F.ok tN (λvs H Q E h=>by obtain⟨_,_,_,_,rfl,_⟩:=h;rfl) (λhZ A eM s H vs Q E hr h=>⟨_,gN (Yd (C:=jU) (pv 0) (pv 1) rfl)<|gN (Yc (C:=jU) (pv 0) (pv 2) rfl) ni,?_⟩);obtain⟨e,t,a,b,rfl,he,kk⟩:=h;refine⟨a,rfl,.ref e,rfl,e,t,rfl,he,XW.s,XW.t1,λdx ne VN=>⟨b,rfl,.ref e,rfl,e,dx,t,_,rfl,eZ,by rw[e9 ne,eZ],ne,XW.s,XW.t2,by show 1<1000;decide,?_⟩⟩;refine kk dx _ ne VN ?_ eZ λc c1 c2=>?_
 .rw[e9 (bz ne),eZ]
 .rw[e9 c2,e9 c1,e9 c2]
def Ft (F:iS K "_law_made" "_law_made" mj f fd)(T:jY mg)(lP:OwnCls "HissError" gm iU "ValueError.__new__" mg eB)(gc:OwnCls "BadBars" jM iU "ValueError.__new__" mg eB)(ig:OwnCls "BadMake" iP iU "ValueError.__new__" mg eB)(gH:OwnCls "BadNumber" kE iU "ValueError.__new__" mg eB)(gR:OwnCls "BadText" kC iU "ValueError.__new__" mg eB)(iW:OwnCls "BadName" nZ iU "ValueError.__new__" mg eB)(jR:OwnCls "BadAge" rZ iU "ValueError.__new__" mg eB)(jQ:OwnCls "BadBar" rY iU "ValueError.__new__" mg eB)(iB:OwnCls "BadPlace" nv iU "ValueError.__new__" mg eB)(iV:OwnCls "BadSize" pB iU "ValueError.__new__" mg eB)(lq:OwnCls "Taken" uT iU "ValueError.__new__" mg eB)(m3:OwnCls "Full" zY iU "ValueError.__new__" mg eB)(jN:OwnCls "NoTake" rV iU "ValueError.__new__" mg eB)(mZ:OwnCls "Shut" zX iU "ValueError.__new__" mg eB)(jP:OwnCls "Joined" rX iU "ValueError.__new__" mg eB)(jO:OwnCls "Needed" rW iU "ValueError.__new__" mg eB)(fN:OwnCls "NothingLeft" ij iU "ValueError.__new__" mg eB)(oP:RF "NoWay" jU mg)(KW:∀ j,j<17->lV K gU gm j)(KH:∀ j,j<17->W.kitOne K (.ref<|gU.getD j 0) (.ref gm)=some true)(jt:kI P w K mg eB)(Kh:zU P w K mg eB):fA P w K mg eB nr 3 f fd (pA mj) (kT<|Nd K gU gm):=by
 refine ER F nA ⟨_,λhr=>(eK (qS 1 nA.nd<|gG false<|eE (jm rfl gc rfl (a1 eQ))<|eE (jm rfl ig rfl (a1 eQ))<|eE (jm rfl gH rfl (a1 eQ))<|eE (jm rfl gR rfl (a1 eQ))<|eE (jm rfl iW rfl (a1 eQ))<|eE (jm rfl jR rfl (a1 eQ))<|eE (jm rfl jQ rfl (a1 eQ)) fT)
  (eK (qS 1 nA.nd<|qo (dv 1)<|gG false<|eE (jm rfl iB rfl (a1 eQ))<|eE (jm rfl iV rfl (a1 eQ))<|eE (jm rfl lq rfl (a1 eQ))<|eE (jm rfl m3 rfl (a1 eQ))<|eE (jm rfl jN rfl (a1 eQ))<|eE (jm rfl mZ rfl (a1 eQ))<|eE (jm rfl jP rfl (a1 eQ)) fT)
  (eK (qS 1 nA.nd<|qo (dv 1)<|gG false<|a3 (jm rfl jO rfl (a1 eQ)) (jm rfl fN rfl (a1 eQ))<|QX rfl jt hr.le rfl (a2 (dv 0)<|qo (dv 0) fc))
  (eU<|fX<|Xb false (Rr (N:=["_law_e"]) (js:=[none]) nA<|by decide +kernel) (uL<|dv 1) (λ_ _ _ nd=>(qT 0 nd)) (λ_ _ _=>wA) λ_ _ _=>(qo (qC Kh hr<|a1<|dv 0)<|gG false<|a1<|V9 (K:=K) rfl (gi (by rfl) T.isinstance (by rfl) lP.bound<|dv 0)))))),λds μ Kd h hm hl=>?_⟩
 obtain⟨n,rfl,n0,LZ,kk⟩:=dJ h;refine⟨zs,zs,zs,zs,zs,zs,zs,zs,?_⟩;refine⟨zs,zs,zs,zs,zs,zs,zs,zs,eY rfl (eY rfl ⟨zs,?_⟩)⟩;refine⟨zs,zs,rfl,zs,eY rfl (eY rfl ⟨zs,?_⟩)⟩;refine eY rfl ⟨zs,?_⟩;simp only[mJ,aT,List.length_nil,a9,List.cons_append,List.nil_append];change ud _ _ ((List.range 17).map λj=>D.mr<|μ.length+j) (vP gU μ 17) _;refine GA True.intro (λj K' hj hx k'=>?_) ?_
 .exact⟨j,hj,hx,KW j hj,_,_,hx,(KW j hj).ef,KH j hj,zs,eY rfl (eY rfl ⟨zs,k'⟩)⟩
 .exact JI (Hl (f:=λj=>.lst [.str (m5 j),.bl true]) (λj=>⟨True.intro,True.intro,True.intro⟩) _) hm kk
def Fw (F:iS K "best_of" "best_of" mq f fd)(T:jY mg)(jw:yo K nY)(gH:OwnCls "BadNumber" kE iU "ValueError.__new__" mg eB)(yA:yg P w K mg eB)(rF:mV P w K mg eB)(su:m9 P w K mg eB)(rE:mU P w K mg eB):fA P w K mg eB (lW P w) 4 f fd (pA mq) (iD<|BE kE):=by
 refine F.o5 wR (λds μ Kd Kx h=>D2 h) (λhZ A eM s H E hr fi Kb Z=>⟨_,(eK (iu (Ao<|qC yA hr<|a3 (dv 0) (dv 1)<|dv 2)
  (eU<|gD Z rfl gH ar (by decide) ar rfl (a1 eQ))
  gb)
  (eK (qS 4 wR.nd<|p3 rF hr.le rfl (a3 (dv 0) (dv 1)<|dv 2))
  (eK (iu (PW.pt<|yJ (Sd (dv 3) fc)<|tG<|Yb (dv 3)<|NJ su jw.cl hr.le (dv 4)<|a1<|fL jw.cl jw.Hk<|dv 4)
  (eU<|gD Z rfl gH ar (by decide) ar rfl (a1 eQ))
  gb)
  (eU<|fX<|NJ rE jw.cl hr.le (dv 4)<|a2 (fL jw.cl jw.Hk<|dv 4)<|dv 3)))),λds μ m Kd Kx hm hl em h hK=>?_⟩)
 obtain⟨n,x,y,j,rfl,h⟩:=dJ h;obtain⟨_,cs,ts,p,rfl,rfl,h1,h2,h3,hb,kk⟩:=h;refine⟨cs,ts,rfl,rfl,h1,h2,h3,?_⟩;rw[hb];exact⟨zs,fC hK em kk⟩
def xo (F:iS K "coming" "Room.coming" jb f fd)(T:jY mg)(eL:jr K eX)(eF:ie K eJ)(fN:OwnCls "NothingLeft" ij iU "ValueError.__new__" mg eB)(fU:iO P w K mg eB)(k8:mQ P w K mg eB)(yA:yg P w K mg eB)(jt:kI P w K mg eB)(u0:uS P w K mg eB)(tx:nV P w K mg eB)(Cf:uf P w K mg eB):fA P w K mg eB (lW P w) 7 f fd (pA jb) (iD<|BD eX eJ jU):=by
 refine F.o5 gA (λds μ Kd Kx h=>D0 h) (λhZ A eM s H E hr fi Kb Z=>⟨_,(eK (lX (jl k8 eF.cl hr.le<|jl fU eL.cl hr.le<|dv 0)<|wC 3<|lR (qT 1 gA.nd)<|lR (qT 2 gA.nd)<|lR (qT 3 gA.nd) wD)
  (eK (qS 4 gA.nd<|qC yA hr<|a3 (dv 1) (dv 2)<|dv 3)
  (eK (iu (Ao<|dv 4)
  (eU<|Ll Z rfl jt hr.le rfl (a2 (BQ (dv 4) fc)<|BQ (dv 4) fc))
  gb)
  (eK (qS 5 gA.nd<|qC tx hr<|a1<|ir Z.z u0 hr.le rfl (eE (dv 1)<|eE (dv 2)<|eE (dv 3)<|eE fc fT))
  (eK (iu (RV<|dv 5)
  (eU<|gD Z rfl fN ar (by decide) ar rfl (a1 eQ))
  gb)
  (eK (lX (dv 5)<|wC 3<|lR (qT 6 gA.nd)<|lR (qT 7 gA.nd)<|lR (qT 8 gA.nd) wD)
  (eK (qS 9 gA.nd<|jl Cf eL.cl hr.le<|dv 0)
  (eU<|fX<|lN<|a3 (BQ (dv 9)<|dv 7) (BQ (dv 9)<|dv 8)<|dv 6)))))))),λds μ m Kd Kx hm hl em h hK=>?_⟩)
 obtain⟨k,rfl,h⟩:=dJ h;obtain⟨_,j1,j2,ss,rs,d,S,p,ra,es,ht,hb,kk⟩:=h;have rg:=ra.gx (m:=.gx fi H);have wf:=rg.wf _ _ es;have hn:S.n<=1000:=by have:=wf.n2;lia
 have hl1:(tU S).length<=1000:=by delta tU;refine aG (List.length_filter_le _ _) ?_;have:=wf.n2;rw[jf,MP];lia
 refine⟨fJ rg rfl,j1,j2,ss,rs,d,S,rg,es,⟨rfl,rfl⟩,S,d,rfl,wf,rfl,tU S,oR S,rfl,rfl,hl1,ht,hn,?_⟩;rw[hb];exact eY rfl (eY rfl ⟨rfl,fC hK em kk⟩)
def Je (F:iS K "_law_second" "_law_second" nF f fd)(T:jY mg)(eL:jr K eX)(je:nX P w K mg eB)(oQ:oM P w K mg eB)(Cg:ug P w K mg eB)(vF:vD P w K mg eB)(EL:vB P w K mg eB)(Tr:vA P w K mg eB)(rD:rm P w K mg eB)(EM:vC P w K mg eB)(EK:vz P w K mg eB)(ze:sx P w K mg eB):fA P w K mg eB (lW P w) 10 f fd (pA nF) (iD<|Bu eX eJ gU):=by
 refine F.o5 IF (λds μ Kd Kx h=>DQ h) (λhZ A eM s H E hr fi Kb Z=>⟨_,(oN (iu (zl (dv 0) fc)
  (eU<|ft<|fQ Z.z je eL.cl hr.le (dv 1)<|a3 (y8 mulC wI eQ<|y8 yX Lc (dv 2) fc) eQ fc)
  gb)
  (oN (iu (zl (dv 0) fc)
  (eU<|ft<|fQ Z.z vF eL.cl hr.le (dv 1)<|a2 eQ<|qo fc<|dv 2)
  gb)
  (oN (iu (zl (dv 0) fc)
  (eU<|ft<|fQ Z.z Cg eL.cl hr.le (dv 1)<|a3 eQ (qo fc<|dv 2) eQ)
  gb)
  (oN (iu (zl (dv 0) fc)
  (eU<|ft<|fQ Z.z rD eL.cl hr.le (dv 1)<|a1<|qo fc<|dv 2)
  gb)
  (oN (iu (zl (dv 0) fc)
  (eU<|ft<|fQ Z.z je eL.cl hr.le (dv 1)<|a3 eQ eQ fc)
  gb)
  (oN (iu (zl (dv 0) fc)
  (eU<|ft<|fQ Z.z EM eL.cl hr.le (dv 1)<|a1 eQ)
  gb)
  (oN (iu (zl (dv 0) fc)
  (eU<|ft<|fQ Z.z vF eL.cl hr.le (dv 1)<|a2 eQ fc)
  gb)
  (oN (iu (zl (dv 0) fc)
  (eU<|ft<|fQ Z.z EL eL.cl hr.le (dv 1)<|a1 eQ)
  gb)
  (oN (iu (zl (dv 0) fc)
  (eU<|ft<|Eg Z.z EK eL.cl hr.le<|dv 1)
  gb)
  (eU (iu (zl (dv 0) fc)
  (eU<|ft<|Eg Z.z ze eL.cl hr.le<|dv 1)
  gb))))))))))),λds μ m Kd Kx hm hl em h hK=>?_⟩)
 obtain⟨w,k,n,rfl,h⟩:=dJ h;obtain⟨_,n0,LZ,j,j1,j2,ss,rs,d,rfl,hj,ra,es,hd,d9,kk⟩:=h;have rg:=ra.gx (m:=.gx fi H);have fin:∀(i:Nat) (e:Dd) (K:DK),Kx (.ref<|gU.getD i 0) μ->NF e->kW AN e=some i->xY eX eJ gU [.mr k,Ed e] (μ.set 0<|.gx fi H) K Kb:=λi e K kx ho er=>⟨⟨_,eW em⟩,j1,j2,ss,rs,d,AN,e,rg,es,rfl,ho,by lia,by rw[er];exact(fC hK em kx).2⟩;match j,hj with
 | 0,_ =>
  have kk:Kd .gw μ:=kk
  refine eO (.gr λK k=>k) ?_
  refine eO (.gr λK k=>k) ?_
  refine eO (.gr λK k=>k) ?_
  refine eO (.gr λK k=>k) ?_
  refine eO (.gr λK k=>k) ?_
  refine eO (.gr λK k=>k) ?_
  refine eO (.gr λK k=>k) ?_
  refine eO (.gr λK k=>k) ?_
  refine eO (.gr λK k=>k) ?_
  exact kM false (.gr λK k=>k) (λq=>nomatch q) λ_=>mX (.keep<|iG em kk)
 | 1,_ =>
  have kk:Kd .gw μ:=kk
  refine eO (.gr λK k=>k) ?_
  refine eO (.gr λK k=>k) ?_
  refine eO (.gr λK k=>k) ?_
  refine eO (.gr λK k=>k) ?_
  refine eO (.gr λK k=>k) ?_
  refine eO (.gr λK k=>k) ?_
  refine eO (.gr λK k=>k) ?_
  refine eO (.gr λK k=>k) ?_
  refine eO (.gr λK k=>k) ?_
  exact kM false (.gr λK k=>k) (λq=>nomatch q) λ_=>mX (.keep<|iG em kk)
 | 2,_ =>
  have kk:Kd .gw μ:=kk
  refine eO (.gr λK k=>k) ?_
  refine eO (.gr λK k=>k) ?_
  refine eO (.gr λK k=>k) ?_
  refine eO (.gr λK k=>k) ?_
  refine eO (.gr λK k=>k) ?_
  refine eO (.gr λK k=>k) ?_
  refine eO (.gr λK k=>k) ?_
  refine eO (.gr λK k=>k) ?_
  refine eO (.gr λK k=>k) ?_
  exact kM false (.gr λK k=>k) (λq=>nomatch q) λ_=>mX (.keep<|iG em kk)
 | 3,_ =>
  have kk:Kd .gw μ:=kk
  refine eO (.gr λK k=>k) ?_
  refine eO (.gr λK k=>k) ?_
  refine eO (.gr λK k=>k) ?_
  refine eO (.gr λK k=>k) ?_
  refine eO (.gr λK k=>k) ?_
  refine eO (.gr λK k=>k) ?_
  refine eO (.gr λK k=>k) ?_
  refine eO (.gr λK k=>k) ?_
  refine eO (.gr λK k=>k) ?_
  exact kM false (.gr λK k=>k) (λq=>nomatch q) λ_=>mX (.keep<|iG em kk)
 | 4,_ =>
  have kk:Kx (.ref<|gU.getD 4 0) μ:=kk
  refine l7 (.gr λK k=>k) ?_
  obtain⟨o4,w4⟩:=Ut (n%3).toNat (by lia)
  exact⟨fJ rg rfl,(by show(0:Int)<3;decide),65,rfl,by lia,by lia,eW em,⟨rfl,_,eW em⟩,.put ⟨(List.replicate (n%3).toNat 65).toArray⟩ "oo" 0,rfl,rfl,fin 4 _ _ kk o4 w4⟩
 | 5,_ =>
  have kk:Kx (.ref<|gU.getD 5 0) μ:=kk
  refine eO (.gr λK k=>k) ?_
  refine l7 (.gr λK k=>k) ?_
  exact⟨fJ rg rfl,eW em,⟨rfl,_,eW em⟩,.uU "a"<|21+n,rfl,rfl,fin 5 _ _ kk trivial (Us n0)⟩
 | 6,_ =>
  have kk:Kx (.ref<|gU.getD 6 0) μ:=kk
  refine eO (.gr λK k=>k) ?_
  refine eO (.gr λK k=>k) ?_
  refine l7 (.gr λK k=>k) ?_
  exact⟨fJ rg rfl,eW em,⟨rfl,_,eW em⟩,.found "a" (2+n) "o",rfl,rfl,fin 6 _ _ kk trivial (Ur n0)⟩
 | 7,_ =>
  have kk:Kx (.ref<|gU.getD 7 0) μ:=kk
  refine eO (.gr λK k=>k) ?_
  refine eO (.gr λK k=>k) ?_
  refine eO (.gr λK k=>k) ?_
  refine l7 (.gr λK k=>k) ?_
  exact⟨fJ rg rfl,eW em,⟨rfl,_,eW em⟩,.hG<|2+n,rfl,rfl,fin 7 _ _ kk trivial (Uq n0)⟩
 | 8,_ =>
  have kk:Kd .gw μ:=kk
  refine eO (.gr λK k=>k) ?_
  refine eO (.gr λK k=>k) ?_
  refine eO (.gr λK k=>k) ?_
  refine eO (.gr λK k=>k) ?_
  refine eO (.gr λK k=>k) ?_
  refine eO (.gr λK k=>k) ?_
  refine eO (.gr λK k=>k) ?_
  refine eO (.gr λK k=>k) ?_
  refine eO (.gr λK k=>k) ?_
  exact kM false (.gr λK k=>k) (λq=>nomatch q) λ_=>mX (.keep<|iG em kk)
 | 9,_ =>
  have kk:Kx (.ref<|gU.getD 9 0) μ:=kk
  refine eO (.gr λK k=>k) ?_
  refine eO (.gr λK k=>k) ?_
  refine eO (.gr λK k=>k) ?_
  refine eO (.gr λK k=>k) ?_
  refine l7 (.gr λK k=>k) ?_
  exact⟨fJ rg rfl,eW em,⟨rfl,_,eW em⟩,.put "a" "oo" 0,rfl,rfl,fin 9 _ _ kk ⟨by decide,by decide⟩<|by decide +kernel⟩
 | 10,_ =>
  have kk:Kd .gw μ:=kk
  refine eO (.gr λK k=>k) ?_
  refine eO (.gr λK k=>k) ?_
  refine eO (.gr λK k=>k) ?_
  refine eO (.gr λK k=>k) ?_
  refine eO (.gr λK k=>k) ?_
  refine eO (.gr λK k=>k) ?_
  refine eO (.gr λK k=>k) ?_
  refine eO (.gr λK k=>k) ?_
  refine eO (.gr λK k=>k) ?_
  exact kM false (.gr λK k=>k) (λq=>nomatch q) λ_=>mX (.keep<|iG em kk)
 | 11,_ =>
  have kk:Kx (.ref<|gU.getD 11 0) μ:=kk
  refine eO (.gr λK k=>k) ?_
  refine eO (.gr λK k=>k) ?_
  refine eO (.gr λK k=>k) ?_
  refine eO (.gr λK k=>k) ?_
  refine eO (.gr λK k=>k) ?_
  refine l7 (.gr λK k=>k) ?_
  exact⟨fJ rg rfl,eW em,⟨_,eW em⟩,j1,j2,ss,rs,d,AN,rg,es,by rw[show fg AN.eI "nobody"=none by decide +kernel];exact(fC hK em (c:=.ref<|gU.getD 11 0) kk).2⟩
 | 12,_ =>
  have kk:Kd .gw μ:=kk
  refine eO (.gr λK k=>k) ?_
  refine eO (.gr λK k=>k) ?_
  refine eO (.gr λK k=>k) ?_
  refine eO (.gr λK k=>k) ?_
  refine eO (.gr λK k=>k) ?_
  refine eO (.gr λK k=>k) ?_
  refine eO (.gr λK k=>k) ?_
  refine eO (.gr λK k=>k) ?_
  refine eO (.gr λK k=>k) ?_
  exact kM false (.gr λK k=>k) (λq=>nomatch q) λ_=>mX (.keep<|iG em kk)
 | 13,_ =>
  have kk:Kx (.ref<|gU.getD 13 0) μ:=kk
  refine eO (.gr λK k=>k) ?_
  refine eO (.gr λK k=>k) ?_
  refine eO (.gr λK k=>k) ?_
  refine eO (.gr λK k=>k) ?_
  refine eO (.gr λK k=>k) ?_
  refine eO (.gr λK k=>k) ?_
  refine l7 (.gr λK k=>k) ?_
  exact⟨fJ rg rfl,eW em,⟨rfl,_,eW em⟩,.uU "c" 0,rfl,rfl,fin 13 _ _ kk trivial (by decide +kernel)⟩
 | 14,_ =>
  have kk:Kx (.ref<|gU.getD 14 0) μ:=kk
  refine eO (.gr λK k=>k) ?_
  refine eO (.gr λK k=>k) ?_
  refine eO (.gr λK k=>k) ?_
  refine eO (.gr λK k=>k) ?_
  refine eO (.gr λK k=>k) ?_
  refine eO (.gr λK k=>k) ?_
  refine eO (.gr λK k=>k) ?_
  refine l7 (.gr λK k=>k) ?_
  exact⟨fJ rg rfl,eW em,⟨rfl,_,eW em⟩,.drop "b",rfl,rfl,fin 14 _ _ kk trivial (by decide +kernel)⟩
 | 15,_ =>
  have kk:Kx (.ref<|gU.getD 15 0) μ:=kk
  refine eO (.gr λK k=>k) ?_
  refine eO (.gr λK k=>k) ?_
  refine eO (.gr λK k=>k) ?_
  refine eO (.gr λK k=>k) ?_
  refine eO (.gr λK k=>k) ?_
  refine eO (.gr λK k=>k) ?_
  refine eO (.gr λK k=>k) ?_
  refine eO (.gr λK k=>k) ?_
  refine l7 (.gr λK k=>k) ?_
  exact⟨fJ rg rfl,eW em,⟨_,eW em⟩,j1,j2,ss,rs,d,rg,by rw[List.getElem?_eq_none (by lia)];exact(fC hK em (c:=.ref ij) kk).2⟩
 |j+17,hj=>exact absurd hj (by lia)
 | 16,_ =>
  have kk:Kx (.ref<|gU.getD 16 0) μ:=kk
  refine eO (.gr λK k=>k) ?_
  refine eO (.gr λK k=>k) ?_
  refine eO (.gr λK k=>k) ?_
  refine eO (.gr λK k=>k) ?_
  refine eO (.gr λK k=>k) ?_
  refine eO (.gr λK k=>k) ?_
  refine eO (.gr λK k=>k) ?_
  refine eO (.gr λK k=>k) ?_
  refine eO (.gr λK k=>k) ?_
  exact kM true (.gr λK k=>k) (λ_=>⟨fJ rg rfl,eW em,⟨_,eW em⟩,j1,j2,ss,rs,d,AN,(1,2),rg,es,IJ,PJ,(fC hK em (c:=.ref jU) kk).2⟩) λq=>nomatch q
def Jf (F:iS K "_law_raised" "_law_raised" nG f fd)(T:jY mg)(lP:OwnCls "HissError" gm iU "ValueError.__new__" mg eB)(RN:HY P w K mg eB)(OC:Ek P w K mg eB)(WJ:Oe P w K mg eB)(Ke:zS P w K mg eB)(RL:HW P w K mg eB):fA P w K mg eB nr 11 f fd (pA nG) (kT<|HB K gU gm eX eJ):=by
 refine F.okD rJ (λds μ Kd h=>by obtain⟨_,_,_,rfl,_⟩:=dJ h;rfl) (λhZ A eM s H E hr=>⟨_,(eK (qS 3 rJ.nd<|gG false fT)
  (eK (Uo rfl rfl rfl rJ.nd (i:=4) rfl rfl rfl lP.bound (λpn xe fi H0 Kx Zt=>(eK (ft<|ir Zt RN hr.le rfl (a2 (dv 0)<|dv 2))
  (eK (ft<|ir Zt OC hr.le rfl (a3 (dv 0) (dv 1)<|dv 2))
  (oN (iu (zl (dv 0) fc)
  (eU<|ft<|ir Zt WJ hr.le rfl (a1<|dv 2))
  gb)
  (eU (iu (zl (dv 0) fc)
  (eU<|ft<|ir Zt Ke hr.le rfl (a1<|y8 yX Lc (dv 2) fc))
  gb))))))
  (λpn e fo H1 kx hk Zc=>(eU<|qS 3 rJ.nd<|Q3 (H0:=H1) hk Zc rfl RL (XY hr.le) rfl (a1<|dv 4))))
  (eU<|fX<|dv 3))),λds μ Kd hm hl h=>?_⟩)
 obtain⟨w,k,n,rfl,h⟩:=dJ h;obtain⟨⟨m,em⟩,KW,n0,LZ,j,j1,j2,ss,rs,d,rfl,hj,ra,es,hd,d9,kk⟩:=h;have h0:0<μ.length:=(mW em).1;refine⟨zs,m,em,λfi H0=>?_⟩;have rg:=ra.gx (m:=.gx fi H0);refine⟨eW em,⟨_,eW em⟩,n0,LZ,j,rfl,hj,?_⟩;cases b1:xR j with
 | true =>
  rw[aD rfl];refine⟨eW em,?_⟩;rw[jj em];refine⟨gU.getD j 0,rfl,(KW j<|by lia).sub,λfo H1=>?_⟩;have x8:(μ++[MO.exc (.ref<|gU.getD j 0)])[0]?=some m:=by rw[tE h0];exact em
  have Nm:((μ++[MO.exc (.ref<|gU.getD j 0)]).set 0<|.gx fo H1)[μ.length]?=some (.exc<|.ref<|gU.getD j 0):=by rw[aA (by lia),ou (au _),aO];rfl
  refine⟨⟨eW x8,_,Nm⟩,⟨_,eW x8⟩,by lia,j,by lia,Nm,KW j<|by lia,eW x8,?_⟩;rw[jj x8];refine .drop ?_ (gV hm) ?_
  .exact⟨trivial,trivial⟩
  .rw[aV];exact kk
 | false =>
  rw[az (by decide)];refine⟨eW em,⟨_,eW em⟩,n0,LZ,j,j1,j2,ss,rs,d,rfl,hj,rg,es,hd,d9,?_⟩;cases b2:Ul j with
  | true =>
   rw[aD rfl];refine⟨eW em,?_⟩;rw[jj em];refine⟨gU.getD j 0,rfl,(KW j<|by lia).sub,λfo H1=>?_⟩;have x8:(μ++[MO.exc (.ref<|gU.getD j 0)])[0]?=some m:=by rw[tE h0];exact em
   have Nm:((μ++[MO.exc (.ref<|gU.getD j 0)]).set 0<|.gx fo H1)[μ.length]?=some (.exc<|.ref<|gU.getD j 0):=by rw[aA (by lia),ou (au _),aO];rfl
   refine⟨⟨eW x8,_,Nm⟩,⟨_,eW x8⟩,by lia,j,by lia,Nm,KW j<|by lia,eW x8,?_⟩;rw[jj x8];refine .drop ?_ (gV hm) ?_
   .exact⟨trivial,trivial⟩
   .rw[aV];exact kk
  | false =>
   rw[az (by decide)];rcases KL j hj b1 b2 with rfl|rfl
   .refine l7 (.gr λK k=>k) ?_;refine⟨eW em,⟨_,eW em⟩,n0,LZ,?_⟩;refine⟨eW em,?_⟩;rw[jj em];refine⟨gU.getD 10 0,rfl,(KW 10<|by lia).sub,λfo H1=>?_⟩;have x8:(μ++[MO.exc (.ref<|gU.getD 10 0)])[0]?=some m:=by rw[tE h0];exact em
    have Nm:((μ++[MO.exc (.ref<|gU.getD 10 0)]).set 0<|.gx fo H1)[μ.length]?=some (.exc<|.ref<|gU.getD 10 0):=by rw[aA (by lia),ou (au _),aO];rfl
    refine⟨⟨eW x8,_,Nm⟩,⟨_,eW x8⟩,by lia,10,by lia,Nm,KW 10<|by lia,eW x8,?_⟩;rw[jj x8];refine .drop ?_ (gV hm) ?_
    .exact⟨trivial,trivial⟩
    .rw[aV];exact kk
   .refine eO (.gr λK k=>k) ?_;refine kM true (.gr λK k=>k) (λ_=>?_) (λq=>nomatch q);refine⟨(by show(0:Int)<39;decide),eW em,⟨_,eW em⟩,by lia,by lia,?_⟩;refine⟨eW em,?_⟩;rw[jj em];refine⟨gU.getD 12 0,rfl,(KW 12<|by lia).sub,λfo H1=>?_⟩;have x8:(μ++[MO.exc (.ref<|gU.getD 12 0)])[0]?=some m:=by rw[tE h0];exact em
    have Nm:((μ++[MO.exc (.ref<|gU.getD 12 0)]).set 0<|.gx fo H1)[μ.length]?=some (.exc<|.ref<|gU.getD 12 0):=by rw[aA (by lia),ou (au _),aO];rfl
    refine⟨⟨eW x8,_,Nm⟩,⟨_,eW x8⟩,by lia,12,by lia,Nm,KW 12<|by lia,eW x8,?_⟩;rw[jj x8];refine .drop ?_ (gV hm) ?_
    .exact⟨trivial,trivial⟩
    .rw[aV];exact kk
def Fs (F:iS K "_law_shut" "_law_shut" mi f fd)(T:jY mg)(eL:jr K eX)(iC:jL P w K mg eB)(je:nX P w K mg eB)(rD:rm P w K mg eB)(oQ:oM P w K mg eB):fA P w K mg eB (lW P w) 10 f fd (pA mi) (iD<|xW 39 12 gU):=by
 refine F.o5 wO (λds μ Kd Kx h=>xV h) (λhZ A eM s H E hr fi Kb Z=>⟨_,(eK (qS 1 wO.nd<|BM Z.z iC hr.le rfl (a1<|qo fc<|dv 0))
  (eK (ft<|fQ Z.z je eL.cl hr.le (dv 1)<|a3 eQ (y8 mulC wI eQ<|qo fc<|dv 0) fc)
  (eK (ft<|fQ Z.z rD eL.cl hr.le (dv 1)<|a1 fc)
  (eU<|ft<|fQ Z.z oQ eL.cl hr.le (dv 1)<|eE eQ<|eE eQ<|eE eQ<|eE fc fT)))),λds μ m Kd Kx hm hl em h hK=>?_⟩)
 obtain⟨n,rfl,h⟩:=dJ h;obtain⟨_,n0,n39,kk⟩:=h;obtain⟨q,rfl⟩:=bU n0;have q39:q<39:=by lia
 obtain⟨w1,w2,w3⟩:=Lh q q39;have eq:(2+(q:Int)).toNat=2+q:=by lia
 have g0:(μ.set 0<|.gx fi H)[0]?=some (.gx fi H):=eW em;have kx:∀ ss rs d,Kb (.ref<|gU.getD 12 0) (m4 eX eJ (μ.set 0<|.gx fi H) ss rs d):=λss rs d=>by rw[hK];exact G9 hm ⟨g0,by rwa [jj em]⟩
 obtain⟨ν,eν⟩:∃ ν,ν=μ.set 0 (.gx fi H):=⟨_,rfl⟩;rw[<- eν]at g0 kx ⊢
 have Jx:ν≠[]:=λz=>by rw[z]at g0;cases g0
 have l0:0<ν.length:=(mW g0).1;have ra:=xb (cR:=eX) (cS:=eJ) (n:=2+(q:Int)) Jx (by lia) (by lia);obtain⟨rb,eb⟩:=mw ra rfl w1 (by decide);obtain⟨rc,ec⟩:=mw rb eb w2 (by show 1<900;decide);refine⟨g0,⟨_,by rw[tE l0];exact g0⟩,by lia,by rw[ou (au _),aO];rfl,?_⟩;rw[aD (show 1<=2+(q:Int)/\2+(q:Int)<=40 by lia),uG];refine⟨rfl,?_⟩;refine⟨fJ ra rfl,111,rfl,by lia,by lia,jE g0,⟨rfl,_,jE g0⟩,.put "a" (UX q) 0,rfl,by rw[eq];rfl,⟨_,jE g0⟩,_,_,_,_,_,_,.put "a" (UX q) 0,ra,rfl,rfl,⟨by decide,Qi q39⟩,by decide,?_⟩;rw[w1];rw[my];refine⟨fJ rb rfl,jE g0,⟨rfl,_,jE g0⟩,.hG 1,rfl,rfl,⟨_,jE g0⟩,_,_,_,_,_,_,.hG 1,rb,eb,rfl,trivial,(by show 1<900;decide),?_⟩;rw[show kW (oq ⟨2+(q:Int),[],[]⟩<|.put "a" (UX q) 0) (.hG 1)=none from w2];rw[my];refine⟨fJ rc rfl,jE g0,⟨rfl,_,jE g0⟩,.join "b" "a" "a" 1,rfl,rfl,⟨_,jE g0⟩,_,_,_,_,_,_,.join "b" "a" "a" 1,rc,ec,rfl,(by show Str.length "b"<=1000;decide),(by show 2<900;decide),?_⟩;rw[show kW (oq (oq ⟨2+(q:Int),[],[]⟩<|.put "a" (UX q) 0)<|.hG 1) (.join "b" "a" "a" 1)=some 12 from w3];exact kx _ _ _
def Qp (F:iS K "_law_full" "_law_full" sM f fd)(T:jY mg)(eL:jr K eX)(iC:jL P w K mg eB)(je:nX P w K mg eB):fA P w K mg eB (lW P w) 10 f fd (pA sM) (iD<|xW 60 10 gU):=by
 refine F.o5 Ay (λds μ Kd Kx h=>xV h) (λhZ A eM s H E hr fi Kb Z=>⟨_,(eK (qS 1 Ay.nd<|BM Z.z iC hr.le rfl (a1 fc))
  (eK (wX c6 rfl (Sx eQ) (qT 2 Ay.nd)
  (eU<|ft<|fQ Z.z je eL.cl hr.le (dv 1)<|a3 (dv 2) eQ<|y8 yX Lc (dv 0) fc))
  (eU<|ft<|fQ Z.z je eL.cl hr.le (dv 1)<|a3 eQ eQ fc))),λds μ m Kd Kx hm hl em h hK=>?_⟩)
 obtain⟨n,rfl,h⟩:=dJ h;obtain⟨_,n0,LZ,kk⟩:=h;obtain⟨a,ha⟩:=bU (show 0<=n%21 by lia);have a21:a<21:=by lia
 obtain⟨w1,w2⟩:=MV a a21;have g0:(μ.set 0<|.gx fi H)[0]?=some (.gx fi H):=eW em;have kx:∀ ss rs d,Kb (.ref<|gU.getD 10 0) (m4 eX eJ (μ.set 0<|.gx fi H) ss rs d):=λss rs d=>by rw[hK];exact G9 hm ⟨g0,by rwa [jj em]⟩
 obtain⟨ν,eν⟩:∃ ν,ν=μ.set 0 (.gx fi H):=⟨_,rfl⟩;rw[<- eν]at g0 kx ⊢
 have Jx:ν≠[]:=λz=>by rw[z]at g0;cases g0
 have l0:0<ν.length:=(mW g0).1;have ra:=xb (cR:=eX) (cS:=eJ) (n:=1) Jx (by decide) (by decide);refine⟨g0,⟨_,by rw[tE l0];exact g0⟩,by lia,by rw[ou (au _),aO];rfl,?_⟩;rw[aD (by decide),uG];refine⟨rfl,?_⟩;refine eY rfl ?_;refine nT (λds ρ fj=>∃(i:Nat) (ss:ao RS) (rs:ao Dd) (v:aq D),ds=((List.range 20).drop i).map (λj=>D.str<|Xc j)/\i<=20/\rs.length=i/\f9 eX eJ (m4 eX eJ ν ss rs i) ν.length (ν.length+1) (ν.length+2) ss rs i/\ss[i]?=some (zE a i)/\ρ=[some (.int n),some (.mr ν.length),v]/\fj=m4 eX eJ ν ss rs i) ⟨0,_,_,none,rfl,by lia,rfl,ra,rfl,rfl,rfl⟩ ?_ ?_
 .rintro d' SS ρ fj ⟨i,ss,rs,v,e1,hi,hr,ra,es,rfl,rfl⟩;refine⟨trivial,λnx Kr=>?_⟩;have Ze:i<20:=by
   by_cases q:i<20
   .exact q
   .rw[show i=20 by lia]at e1;cases e1
  rw[cA (by rw[MP];exact Ze),aK,List.getElem_range]at e1;cases e1;obtain⟨rb,eb⟩:=mw ra es (w1 i Ze) (by lia);refine⟨fJ ra rfl,(by show(0:Int)<21;decide),jE g0,⟨rfl,_,jE g0⟩,.put (Xc i) "x" (a:Int),rfl,by rw[<- ha];rfl,⟨_,jE g0⟩,_,_,_,_,_,_,.put (Xc i) "x" (a:Int),ra,es,rfl,⟨(by show 1<=1000;decide),by decide⟩,by lia,?_⟩;rw[w1 i Ze,my];refine Kr _ _ ⟨i+1,_,_,_,rfl,by lia,?_,rb,by rw[eb,FW],rfl,rfl⟩;rw[mJ,ba,aU];lia
 .rintro ρ fj ⟨i,ss,rs,v,e1,hi,hr,ra,es,rfl,rfl⟩;refine⟨trivial,?_⟩;have Ze:i=20:=by have:=bG List.length e1;rw[jf,cb,MP,List.length_nil]at this;lia
  subst Ze;refine⟨fJ ra rfl,jE g0,⟨rfl,_,jE g0⟩,.put "zz" "x" 0,rfl,rfl,⟨_,jE g0⟩,_,_,_,_,_,_,.put "zz" "x" 0,ra,es,rfl,⟨by decide,by decide⟩,by lia,?_⟩;rw[w2];exact kx _ _ _
set_option maxHeartbeats 8000000 in
def U5 (F:iS K "law" "law" oB f fd)(T:jY mg)(eL:jr K eX)(KW:∀ j,j<17->lV K gU gm j)(KH:∀ j,j<17->W.kitOne K (.ref<|gU.getD j 0) (.ref gm)=some true)(XG1:Ov K jU "first")(XG2:Ov K jU "behind")(aax:Tj P w K mg eB)(WE:N9 P w K mg eB)(yy:Ob P w K mg eB)(iC:jL P w K mg eB)(je:nX P w K mg eB)(oQ:oM P w K mg eB)(OD:El P w K mg eB)(Kg:zT P w K mg eB)(jt:kI P w K mg eB):fA P w K mg eB nr 13 f fd (pA oB) (R0 K):=by
 refine F.ok pK (λvs H Q E h=>?_) (λhZ A eM s H vs Q E hr h=>?_)
 .obtain⟨a,ns,rfl,_⟩:=h;rfl
 .obtain⟨a,ns,rfl,hs,hl,k⟩:=h;refine⟨_,gN (uC (i:=1) pK.nd rfl (by first | exact Or.inl rfl | exact Or.inr rfl)<|xh aax (hr.mono<|by first | decide | exact au _ | lia) rfl (fh (l9 0) hU)) (eK (qS 2 pK.nd<|qC WE hr<|a2 (dv 1) fc)
   (eK (qS 3 pK.nd<|NK iC hr.le rfl (a1 fc))
   (eK (ft<|yb je eL.cl hr.le (dv 3)<|a3 eQ eQ fc)
   (eK (ft<|yb je eL.cl hr.le (dv 3)<|a3 eQ eQ fc)
   (eK (ft<|yb oQ eL.cl hr.le (dv 3)<|eE eQ<|eE eQ<|eE eQ<|eE fc fT)
   (eK (qS 4 pK.nd<|gG false<|eE eQ<|eE eQ<|eE eQ<|eE eQ<|eE eQ<|eE eQ<|eE eQ<|eE eQ<|eE eQ fT)
   (eK (qS 4 pK.nd<|qo (dv 4)<|gG false<|eE eQ<|eE eQ<|eE eQ<|eE eQ<|eE eQ<|eE eQ<|eE eQ<|eE eQ fT)
   (eK (wX PassesOwn.never rfl (DF rfl T.range<|a1 fc) (qT 5 pK.nd)
   (eU (iu (CD<|l6<|qC yy hr<|a2 (qC OD hr<|a3 (dv 5) (dv 3)<|dv 2)<|gG false<|a1<|BQ (dv 4)<|dv 5)
   (eU<|fX Q4)
   gb)))
   (eK (iu (CD<|l6<|qC yy hr<|a2 (qC Kg hr<|a1<|dv 2)<|Xb false (Rr (N:=["_law_word"]) (js:=[none]) pK<|by decide +kernel) (uL<|dv 4) (λ_ _ _ nd=>(qT 0 nd)) (λ_ _ _=>wA) λ_ _ _=>(gG false<|a2 (dv 0) Q4))
   (eU<|fX Q4)
   gb)
   (eK (qS 6 pK.nd<|QY rfl jt (by decide) hr.le rfl (a2 (dv 2)<|qo (dv 2) fc))
   (eU<|fX<|qC yy hr<|a2 (gG false<|a2 (NM XG1<|dv 6)<|NM XG2<|dv 6)<|gG false<|a2 (dv 2)<|qo (dv 2) fc))))))))))),?_⟩
  refine⟨ns,hs,λb q H0 B0 hb0 Sy S0=>?_⟩;refine Vf (m:=5) B0 ?_ k;refine⟨rfl,by decide,by decide,λn n0 LZ=>?_⟩;refine⟨trivial,⟨_,rfl⟩,by show(1:Nat)≠0;decide,rfl,?_⟩;rw[aD (by decide),uG (μ:=[.box])];refine⟨rfl,?_⟩;have ra:=xb (cR:=eX) (cS:=eJ) (μ:=[.box]) (n:=2) (by decide) (by decide) (by decide);have w1:kW ⟨2,[],[]⟩ (.put "a" "ox" 0)=none:=by decide +kernel
  refine⟨fJ ra rfl,trivial,⟨rfl,_,rfl⟩,.put "a" "ox" 0,rfl,rfl,⟨_,rfl⟩,_,_,_,_,_,_,.put "a" "ox" 0,ra,rfl,rfl,⟨by decide,by decide⟩,by decide,?_⟩;rw[w1,my];obtain⟨rb,eb⟩:=mw (μ:=[.box]) ra rfl w1 (by decide);have w2:kW (oq ⟨2,[],[]⟩<|.put "a" "ox" 0) (.put "b" "ox" 1)=none:=by decide +kernel
  refine⟨fJ rb rfl,trivial,⟨rfl,_,rfl⟩,.put "b" "ox" 1,rfl,rfl,⟨_,rfl⟩,_,_,_,_,_,_,.put "b" "ox" 1,rb,eb,rfl,⟨by decide,by decide⟩,(by show 1<900;decide),?_⟩;rw[w2,my];obtain⟨rc,ec⟩:=mw (μ:=[.box]) rb eb w2 (by show 1<900;decide);have w3:kW (oq (oq ⟨2,[],[]⟩<|.put "a" "ox" 0)<|.put "b" "ox" 1) (.join "c" "a" "b" 1)=none:=by decide +kernel
  refine⟨fJ rc rfl,trivial,⟨rfl,_,rfl⟩,.join "c" "a" "b" 1,rfl,rfl,⟨_,rfl⟩,_,_,_,_,_,_,.join "c" "a" "b" 1,rc,ec,rfl,(by show Str.length "c"<=1000;decide),(by show 2<900;decide),?_⟩;rw[w3,my];obtain⟨rd,ed⟩:=mw (μ:=[.box]) rc ec w3 (by show 2<900;decide);refine⟨zs,zs,eY rfl (eY rfl ⟨zs,nLf ?_⟩)⟩;refine⟨by decide,by decide,?_⟩;refine nT (λds ρ fj=>∃(i j:Nat) (v:aq D),ds=pP i j/\i+j=17/\ρ=[none,some (.mr 0),some (.int n),some (.mr 1),some (.lst<|(List.range 17).map λj=>D.str<|m5 j),v,none]/\fj=_) ⟨0,17,none,rfl,rfl,rfl,rfl⟩ ?_ ?_
  .rintro d' SS ρ fj ⟨i,j,v,e1,W4,rfl,rfl⟩;refine⟨trivial,λnx Kr=>?_⟩;cases j with
   |zero=>cases e1
   | succ j =>
    rw[IK]at e1;cases e1;have i17:i<17:=by lia
    refine⟨⟨_,rfl⟩,KW,n0,LZ,i,_,_,_,_,_,rfl,i17,rd,ed,rfl,by show 3<900;decide,?_⟩;refine eY (YQ i17) ⟨zs,_,rfl,rfl,Au (by show 1<=100000;decide) λd hd=>?_,?_⟩
    .rw[List.mem_singleton.mp hd];exact Le
    exact Kr _ _ ⟨i+1,j,_,rfl,by lia,rfl,rfl⟩
  .rintro ρ fj ⟨i,j,v,e1,W4,rfl,rfl⟩;clear ra rb rc w1 w2 w3 rd ed eb ec;refine⟨trivial,n0,LZ,?_⟩;refine eY rfl ⟨by rw[jf,MP];exact zs,?_⟩;refine rT trivial (λj=>D.str<|m5 j) (λj=>.lst [.str (m5 j),.bl true]) (λj hj K' k'=>?_) ?_
   .exact⟨zs,k'⟩
   refine⟨_,rfl,rfl,Au (by rw[jf,MP];decide) λd hd=>?_,?_⟩
   .obtain⟨j,_,rfl⟩:=List.mem_map.mp hd;exact Au (by show 2<=100000;decide) λd hd=>by simp only[bQ,bE,c9]at hd;rcases hd with rfl|rfl;exact Le;exact XM
   have ex:∀(ν:MS) (x:MO),(ν++[x])[ν.length]?=some x:=λν x=>by rw[ou (au _),aO];rfl
   refine⟨_,_,rfl,_,_,_,_,rfl,ex _ _,rfl,_,_,_,_,rfl,ex _ _,rfl,zs,zs,_,rfl,rfl,Pu (ns:=[n,n+3]) (by show 2<=100000;decide),rfl⟩
def Fx (F:iS K "bars_of" "bars_of" mv f fd)(T:jY mg)(EJ:vw P w K mg eB):fA P w K mg eB (lW P w) 2 f fd (pA mv) (iD<|BG jM):=by
 refine F.o5 lr (λds μ Kd Kx h=>D3 h) (λhZ A eM s H E hr fi Kb Z=>⟨_,(eK (qS 2 lr.nd eQ)
  (eK (qS 3 lr.nd<|ZN fc)
  (eK (wX c6 rfl (uL<|dv 1) (wC 2<|lR (qT 4 lr.nd)<|lR (qT 5 lr.nd) wD)
  (eK (ft<|ir Z.z EJ hr.le rfl (eE (dv 0)<|eE (dv 3)<|eE (dv 4)<|eE (dv 5) fT))
  (eK (R6 (i:=2) lr.nd rfl lo (qo (y8 mulC wI eQ<|dMi (dv 4)<|Q9 T<|dv 2)<|y8 mulC wI eQ<|dMi (dv 5)<|dv 4) QD Ua)
  (eU<|qS 3 lr.nd<|dv 5))))
  (eU<|fX<|qo (dv 2)<|y8 mulC wI eQ<|dMi (dv 0)<|Q9 T<|dv 2)))),λds μ m Kd Kx hm hl em h hK=>?_⟩)
 obtain⟨n,y,rfl,h⟩:=dJ h;obtain⟨_,rs,rfl,n0,n1,hrl,kk⟩:=h;refine eY rfl ?_;have m0:(μ.set 0<|MO.gx fi H)[0]?=some (.gx fi H):=eW em;have lS:∀ l:ao Nat,(⟨l.toArray⟩:Str).length=l.length:=YJ;refine nT (λds ρ fj=>∃(rest:ao (Int×Int)) (e:Int) (t:ao Nat) (v u:aq D),ds=rest.map Uu /\ -1<=e/\e<=n/\t.length=e.toNat/\sy n (-1) 0 rs=(sy n e t.length rest).map (t++·)/\ρ=[some (.int n),some (.lst<|rs.map Uu),some (.str ⟨t.toArray⟩),some (.int e),v,u]/\fj=μ.set 0 (MO.gx fi H)) ⟨rs,-1,[],none,none,rfl,by lia,by lia,rfl,by cases sy n (-1) 0 rs<;>rfl,rfl,rfl⟩ ?_ ?_
 .rintro d SS ρ fj ⟨rest,e,t,v,u,e1,h1,h2,h3,h4,rfl,rfl⟩;refine⟨trivial,λnx Kr=>?_⟩;cases rest with
  |nil=>cases e1
  | cons p rest =>
   obtain⟨a,b⟩:=p;cases e1;refine⟨rfl,m0,⟨_,m0⟩,λok=>?_,λno=>?_⟩
   .obtain⟨o1,o2,o3⟩:=id ok;have lt:=lS t;refine⟨by rw[lS];exact sz<|by lia,120,rfl,by lia,by lia,111,rfl,by lia,by lia,?_⟩;rw[lt];refine⟨by rw[lS,lS,bc,bc];exact sz<|by lia,?_⟩;rw[r0];refine⟨by rw[lS,lS,mJ,bc,bc];exact sz<|by lia,?_⟩;rw[r0];have ln:(t++(List.replicate (a - (t.length:Int)).toNat 120++List.replicate (b - a).toNat 111)).length=b.toNat:=by rw[mJ,mJ,bc,bc];lia
    refine Kr _ _ ⟨rest,b,_,_,_,rfl,by lia,by lia,ln,?_,rfl,rfl⟩;rw[h4,ln];conv=>lhs;unfold sy
    rw[aD ok,Option.map_map];congr 1;funext l;simp only[Function.comp,a9]
   .have:sy n (-1) 0 rs=none:=by rw[h4];unfold sy;rw[az no];rfl
    rw[this]at kk
    exact(fC hK em kk).2
 .rintro ρ fj ⟨rest,e,t,v,u,e1,h1,h2,h3,h4,rfl,rfl⟩;cases rest with
  |cons p rest=>cases e1
  | nil =>
   refine⟨trivial,?_⟩;have lt:=lS t;refine⟨by rw[lS];exact sz<|by lia,120,rfl,by lia,by lia,?_⟩;rw[lt];refine⟨by rw[lS,lS,bc];exact sz<|by lia,?_⟩;rw[r0];have:sy n (-1) 0 rs=some (t++List.replicate (n - (t.length:Int)).toNat 120):=by rw[h4];rfl
   rw[this]at kk;exact .keep (iG em kk)
def yQ (F:iS K "loose_make" "loose_make" jx f fd)(T:jY mg)(gR:OwnCls "BadText" kC iU "ValueError.__new__" mg eB)(sq:m8 P w K mg eB)(vR:qh P w K mg eB):fA P w K mg eB (lW P w) 2 f fd (pA jx) (iD<|xX kC):=by
 refine F.o5 oV (λds μ Kd Kx h=>BA h) (λhZ A eM s H E hr fi Kb Z=>⟨_,(eK (qS 1 oV.nd<|gG true fT)
  (eK (wX c6 rfl (uL<|dv 0) (qT 2 oV.nd)
  (eU (iu (zl (dv 2) eQ)
  (eU<|ft<|qC vR hr<|a1<|dv 1)
  (eU (iu (zl (dv 2) eQ)
  (eU<|ft<|Ef bx cj cf uh o9 (dv 1)<|a1<|dv 2)
  (eU<|ft<|Ef bx cj cf uh o9 (dv 1)<|a1<|qC sq hr<|a1<|dv 2))))))
  (eK (iu (PW.pt<|yJ (X8 (Q9 T<|dv 1) fc)<|tG<|oK (eqTx<|m6 hr) Ue (BQ (dv 1) fc) eQ<|jq _)
  (eU<|gD Z rfl gR ar (by decide) ar rfl (a1 eQ))
  gb)
  (eU<|fX<|BQ (dv 1) fc)))),λds μ m Kd Kx hm hl em h hK=>?_⟩)
 obtain⟨ws0,rfl,h⟩:=dJ h;obtain⟨_,n,n0,n1,rfl,kk⟩:=h;obtain⟨ν,Jx⟩:∃ ν,ν=μ.set 0 (.gx fi H):=⟨_,rfl⟩;have g0:ν[0]?=some (.gx fi H):=by rw[Jx];exact eW em
 have l0:0<ν.length:=(mW g0).1;rw[<- Jx];refine⟨zs,eY rfl ?_⟩;refine⟨trivial,nM iR,eY iR ⟨T3<|by decide,?_⟩⟩;rw[gM];refine⟨trivial,nM iR,0,by decide,by decide,rfl,eY iR ⟨T3<|by decide,?_⟩⟩;rw[gM];refine⟨trivial,nM iR,1,by decide,by decide,rfl,eY iR ⟨T3<|by decide,?_⟩⟩;rw[gM];refine⟨trivial,?_⟩;refine DD (c:=(toString n:Str) = ")") (λq=>((M7 n0).1 q).elim) (λ_=>?_);refine DD (c:=(toString n:Str) = "(") (λq=>((M7 n0).2 q).elim) (λ_=>?_);refine⟨nM iR,n,n0,by lia,rfl,eY iR ⟨T3 (by show 3<=_;lia),?_⟩⟩;rw[gM];refine⟨trivial,?_⟩;dsimp only;refine kM (true||true) (.or (.gr λK k=>eY iR k) λq=>nomatch q) (λ_=>?_) (λq=>nomatch q);refine⟨zs,by rw[tE l0];exact g0,?_⟩;rw[hK,Jx];refine .inr ⟨gV hm,?_⟩;rw[aV];exact⟨eW em,by rw[jj em];exact kk⟩
def Fq (F:iS K "make_of" "make_of" mh f fd)(T:jY mg)(gR:OwnCls "BadText" kC iU "ValueError.__new__" mg eB)(lL:uY mg "MOST_TAKES_makes" 40)(Ce:ue P w K mg eB)(EI:vt P w K mg eB):fA P w K mg eB (lW P w) 3 f fd (pA mh) (iD<|Bz kC):=by
 refine F.o5 wN (λds μ Kd Kx h=>DW h) (λhZ A eM s H E hr fi Kb Z=>⟨_,(Rx (XT (TJ geC wJ (NG<|dv 0) (uR rfl lL)<|jq _)
  (eU<|gD Z rfl gR ar (by decide) ar rfl (a1 eQ))
  gb)
  (Rt (T6 (i:=1) wN.nd rfl lo (JQ Z.z Ce hr.le rfl (V4 cU PySem.F.slot_str_split PySem.F.type_str_split Pm (IB (m:=false))<|x9 (x9 (PE.pep<|dv 0)<|by decide)<|by decide))<|.inr rfl)
  (eK (iu (X8 (qC EI hr<|a1<|dv 1)<|dv 0)
  (eU<|gD Z rfl gR ar (by decide) ar rfl (a1 eQ))
  gb)
  (eU<|fX<|dv 1)))),λds μ m Kd Kx hm hl em h hK=>?_⟩)
 obtain⟨z,rfl,h⟩:=dJ h;obtain⟨_,n,n0,n1,rfl,kk⟩:=h;obtain⟨a,rfl⟩:=bU n0;obtain⟨w1,w2,w3,w4,w5⟩:=Vb a (by lia);have e1:("( " : Str).length=2:=by decide
 have e2:(" )" : Str).length=2:=by decide
 refine kM false (.gr λK k=>by show K (.bl<|decide ((40:Int)<=Txt.count _ "(")) _;rw[w1];exact k) (λq=>nomatch q) λ_=>mX ?_;refine⟨by rw[e1];lia,by rw[e2];lia,rfl,sz<|by lia,?_⟩;rw[w2];exact⟨eW em,⟨_,eW em⟩,a,n0,n1,rfl,(fC hK em kk).2⟩
def LW (F:iS K "_law_first" "_law_first" pO f fd)(T:jY mg)(eL:jr K eX)(Kj:zW P w K mg eB)(WH:Oc P w K mg eB)(u0:uS P w K mg eB)(Kc:zR P w K mg eB)(iC:jL P w K mg eB):fA P w K mg eB (lW P w) 10 f fd (pA pO) (iD<|Gr gU):=by
 refine F.o5 Lj (λds μ Kd Kx h=>Gq h) (λhZ A eM s H E hr fi Kb Z=>⟨_,(oN (iu (zl (dv 0) fc)
  (eU<|ft<|ir Z.z Kj hr.le rfl (a2 fc<|gG false<|a1<|lN<|a2 fc<|qo fc<|dv 1))
  gb)
  (oN (iu (zl (dv 0) fc)
  (eU<|ft<|ir Z.z WH hr.le rfl (eE fc<|eE (gG false<|a1 fc)<|eE (gG false<|a1<|lN<|a2 eQ fc)<|eE (lN<|a3 fc fc<|qo fc<|dv 1) fT))
  gb)
  (oN (iu (zl (dv 0) fc)
  (eU<|ft<|ir Z.z u0 hr.le rfl (eE fc<|eE (gG false<|a1 fc)<|eE (gG false<|a1<|lN<|a2 eQ fc)<|eE (dv 1) fT))
  gb)
  (oN (iu (zl (dv 0) fc)
  (eU<|ft<|ir Z.z Kc hr.le rfl (a1<|qo eQ<|NH strC T8 (by rfl) T.str PyProof.Rows.boot_str<|a1<|dv 1))
  gb)
  (eU (iu (zl (dv 0) fc)
  (eU<|ft<|BM Z.z iC hr.le rfl (a1<|qo fc<|dv 1))
  gb)))))),λds μ m Kd Kx hm hl em h hK=>?_⟩)
 obtain⟨w,n,rfl,h⟩:=dJ h;obtain⟨_,n0,LZ,j,rfl,hj,kk⟩:=h;have g0:(μ.set 0<|.gx fi H)[0]?=some (.gx fi H):=eW em;have ps:∀ {i:Nat},j=i->xR i=true->Kb (.ref<|gU.getD i 0) (μ.set 0<|.gx fi H):=λe b=>by subst e;rw[aD b]at kk;exact(fC hK em kk).2
 refine Rc (p:=(j:Int)=0) (.gr λK k=>k) (λq=>?_) λq0=>?_
 .refine⟨zs,zs,g0,⟨_,g0⟩,[(2,4+n)],rfl,by decide,by decide,(by show 1<=1000;decide),?_⟩;rw[show sy 3 (-1) 0 [(2,4+n)]=none from az λz=>by have:=z.2.2;lia];exact ps (i:=0) (by lia) rfl
 refine Rc (p:=(j:Int)=1) (.gr λK k=>k) (λq=>?_) λq1=>?_
 .refine⟨zs,zs,zs,zs,g0,⟨_,g0⟩,[1],[([111,120],0)],.pI 1 (.num 0)<|.num<|1+n,rfl,rfl,rfl,(by show 2<=1000;decide),by decide,by decide,Xn,?_⟩;rw[jG.RP (x:=.num<|1+n) (by simp[jG.pre]) λz=>by have:1+n<1:=z.2;lia];exact ps (i:=1) (by lia) rfl
 refine Rc (p:=(j:Int)=2) (.gr λK k=>k) (λq=>?_) λq2=>?_
 .exact⟨zs,zs,zs,g0,⟨_,g0⟩,[1],[([111,120],0)],(1,2),rfl,rfl,by decide,TK,by decide,by decide +kernel,ps (i:=2) (by lia) rfl⟩
 refine Rc (p:=(j:Int)=3) (.gr λK k=>k) (λq=>?_) λq3=>?_
 .have lf:=(MZ n0<|by lia).2.1;have l5:("(0 1 " : Str).length=5:=by decide
  exact⟨by lia,sz<|by lia,g0,⟨_,g0⟩,n,n0,LZ,rfl,ps (i:=3) (by lia) rfl⟩
 refine kM (false != decide ((j:Int)=8)) (.gr λK k=>k) (λq=>?_) λq8=>mX (.keep<|iG em ?_)
 .have j8:j=8:=by
   by_cases z:(j:Int)=8
   .lia
   .rw[aw z]at q;cases q
  subst j8
  have ml:μ.length≠0:=λz=>by rw[List.length_eq_zero_iff.mp z]at em;cases em
  refine⟨g0,⟨_,by rw[tE (mW g0).1];exact g0⟩,(by rw[aR];exact ml),by rw[ou (au _),aO];rfl,?_⟩
  rw[az (by lia),hK]
  refine .inr ⟨gV hm,?_⟩
  rw[aV]
  exact⟨eW em,by rw[jj em];exact kk⟩
 rcases JG j hj with q|q|q|q|q|q;iterate 5 exact absurd q (by first|lia|exact λq=>of_decide_eq_false q8<|bG Int.ofNat q)
 rw[az (by rw[q];decide)]at kk;exact kk
end
def kp (b:Nat)(x q:Str)(s:Stmt)(pm:ak)(t l a t2:Nat):ao (aj×Obj):=kf (b+6) (b+5) x q s pm t l a b (b+1) (.ref<|b+2) (.ref<|b+3) (b+4) t2
def qu (b:Nat)(x:Str):=kp b x x
def kn (b:Nat)(x q:Str)(s:Stmt)(pm:ak)(t l a t2:Nat):ao (aj×Obj):=kf (b+4) (b+3) x q s pm t l a b (b+1) .none .none (b+2) t2
def Sm (b:Nat)(x:Str):=kn b x x
def Cp:ak:=(.str "hissroom.errors" 194)
def xD:ak:=(.str "law_hissroom_k49_refusals_apart" 1372)
def W0:ak:=(.str "hissroom.ends" 638)
def Ss:ak:=(.str "hissroom.bars" 497)
def pE:ak:=(.str "hissroom.stand" 856)
def oH:ak:=(.str "hissroom.room" 1099)
def Sr:ak:=(.str "hissroom.few" 741)
def Co:ak:=(.str "hissroom.makes" 543)
def kk (P:Params):aa:=List.flatten [[ko 3 (YG P "law_hissroom_k49_refusals_apart" 1372 [me "_wall" 193 (.ref 21),me "HissError" 213 (.ref 31),me "BadBars" 229 (.ref 44),me "BadMake" 245 (.ref 56),me "BadNumber" 261 (.ref 68),me "BadText" 277 (.ref 80),me "BadName" 293 (.ref 92),me "BadAge" 309 (.ref 104),me "BadBar" 325 (.ref 116),me "BadPlace" 341 (.ref 128),me "Taken" 357 (.ref 140),me "Full" 373 (.ref 152),me "NoTake" 389 (.ref 164),me "Shut" 405 (.ref 176),me "Joined" 421 (.ref 188),me "Needed" 437 (.ref 200),me "NothingLeft" 453 (.ref 212),me "BadSize" 469 (.ref 224),me "NoWay" 496 (.ref 243),me "is_bars" 506 (.ref 252),me "bars_of" 518 (.ref 259),me "check_run" 528 (.ref 266),me "joined" 542 (.ref 273),me "MOST_TAKES_makes" 546 (.int 40 545),me "MOST_FIGURES" 548 (.int 4 547),me "unfolded" 561 (.ref 280),me "made" 575 (.ref 287),me "checked_place" 583 (.ref 294),me "take_of" 591 (.ref 301),me "make_text" 602 (.ref 308),me "make_of" 610 (.ref 315),me "loose_make" 619 (.ref 322),me "close_bracket" 630 (.ref 329),me "number_of_figures" 637 (.ref 336),me "ends" 647 (.ref 343),me "pieces" 656 (.ref 350),me "farthest" 662 (.ref 355),me "bar_of" 668 (.ref 360),me "least_age" 683 (.ref 367),me "youngest" 689 (.ref 372),me "take_rows" 695 (.ref 377),me "clean_row" 701 (.ref 382),me "next_reach" 707 (.ref 387),me "few_tables" 715 (.ref 392),me "no_make" 722 (.ref 399),me "bare_table" 728 (.ref 404),me "next_table" 734 (.ref 409),me "fewest_joined" 740 (.ref 414),me "best_of" 753 (.ref 421),me "BestMakes" 855 (.ref 483),me "MOST_LETTERS" 859 (.int 8 858),me "MOST_TAKES_stand" 861 (.int 20 860),me "OLDEST" 863 (.int 20 862),me "Stand" 955 (.ref 544),me "put" 968 (.ref 555),me "join" 981 (.ref 562),me "found" 998 (.ref 569),me "aged" 1011 (.ref 576),me "drop" 1017 (.ref 581),me "free" 1027 (.ref 588),me "shut" 1037 (.ref 595),me "DEEDS" 1052 (.ref 596),me "stand_behind" 1061 (.ref 603),me "check_new" 1067 (.ref 608),me "check_age" 1074 (.ref 615),me "check_place" 1082 (.ref 622),me "with_key" 1092 (.ref 629),me "without_key" 1098 (.ref 634),me "LONGEST" 1102 (.int 40 1101),me "Room" 1363 (.ref 840),me "joining_of_takes" 1371 (.ref 851),me "_law_box" 1380 (.ref 858),me "_law_take" 1392 (.ref 865),me "_law_kinds" 1398 (.ref 870),me "_law_same" 1404 (.ref 875),me "_law_first" 1412 (.ref 882),me "_law_second" 1421 (.ref 889),me "_law_shut" 1429 (.ref 896),me "_law_full" 1438 (.ref 903),me "_law_raised" 1449 (.ref 910),me "_law_made" 1455 (.ref 915),me "law" 1461 (.ref 920)])],[ko 544 ⟨.type "type",none,(.cls ⟨"Stand",[.type "object"],[.ref 544,.type "object"],543, "Stand",true,[],[],false,none,false⟩),#[none,none,(some<|.str "Stand" 864),(some<|.str "Stand" 872),(some<|.builtin "object.__new__"),(some<|.bool true)]⟩,ko 543 ⟨.type "dict",none,(.dict #[jk P "__module__" 871 (.str "hissroom.stand" 856),jk P "__firstlineno__" 875 (.int 272 874),jk P "__init__" 886 (.ref 501),jk P "check_there" 894 (.ref 508),jk P "parts" 902 (.ref 515),jk P "source" 916 (.ref 522),jk P "takes_by_names" 929 (.ref 529),jk P "take" 937 (.ref 536),jk P "shelf" 943 (.ref 541),jk P "__static_attributes__" 948 (.ref 542),jk P "__dict__" 950 (.ref 545),jk P "__weakref__" 952 (.ref 546),jk P "__doc__" 953 (.none)] 4),#[]⟩],[ko 840 ⟨.type "type",none,(.cls ⟨"Room",[.type "object"],[.ref 840,.type "object"],839, "Room",true,[],[],false,none,false⟩),#[none,none,(some<|.str "Room" 1103),(some<|.str "Room" 1111),(some<|.builtin "object.__new__"),(some<|.bool true)]⟩,ko 839 ⟨.type "dict",none,(.dict #[jk P "__module__" 1110 (.str "hissroom.room" 1099),jk P "__firstlineno__" 1114 (.int 389 1113),jk P "__init__" 1122 (.ref 648),jk P "now" 1129 (.ref 655),jk P "put" 1139 (.ref 662),jk P "join" 1150 (.ref 669),jk P "found" 1160 (.ref 676),jk P "aged" 1169 (.ref 683),jk P "drop" 1177 (.ref 690),jk P "free" 1185 (.ref 697),jk P "shut" 1193 (.ref 704),jk P "deed" 1202 (.ref 711),jk P "undo" 1209 (.ref 718),jk P "redo" 1216 (.ref 725),jk P "deeds" 1223 (.ref 732),jk P "ahead" 1230 (.ref 739),jk P "size" 1237 (.ref 746),jk P "names" 1244 (.ref 753),jk P "bars" 1252 (.ref 760),jk P "age" 1260 (.ref 767),jk P "parts" 1268 (.ref 774),jk P "source" 1277 (.ref 781),jk P "cuts" 1287 (.ref 788),jk P "takes" 1297 (.ref 795),jk P "answer" 1304 (.ref 802),jk P "least" 1314 (.ref 809),jk P "few" 1321 (.ref 816),jk P "after" 1329 (.ref 823),jk P "coming" 1345 (.ref 830),jk P "twin" 1352 (.ref 837),jk P "__static_attributes__" 1356 (.ref 838),jk P "__dict__" 1358 (.ref 841),jk P "__weakref__" 1360 (.ref 842),jk P "__doc__" 1361 (.none)] 4),#[]⟩],[ko 483 ⟨.type "type",none,(.cls ⟨"BestMakes",[.type "object"],[.ref 483,.type "object"],482, "BestMakes",true,[],[],false,none,false⟩),#[none,none,(some<|.str "BestMakes" 754),(some<|.str "BestMakes" 762),(some<|.builtin "object.__new__"),(some<|.bool true)]⟩,ko 482 ⟨.type "dict",none,(.dict #[jk P "__module__" 761 (.str "hissroom.few" 741),jk P "__firstlineno__" 765 (.int 218 764),jk P "__init__" 776 (.ref 435),jk P "is_take" 787 (.ref 442),jk P "clean_takes" 793 (.ref 447),jk P "halves" 799 (.ref 452),jk P "counted" 807 (.ref 459),jk P "count_anew" 819 (.ref 466),jk P "numbered" 833 (.ref 473),jk P "rank" 842 (.ref 480),jk P "__static_attributes__" 848 (.ref 481),jk P "__dict__" 850 (.ref 484),jk P "__weakref__" 852 (.ref 485),jk P "__doc__" 853 (.none)] 4),#[]⟩],kx P 164 163 31 "NoTake" (some<|.ref 155) 374 382 Cp 381 27 162,kx P 116 115 31 "BadBar" (some<|.ref 107) 310 318 Cp 317 19 114,kx P 92 91 31 "BadName" (some<|.ref 83) 278 286 Cp 285 15 90,kx P 140 139 31 "Taken" (some<|.ref 131) 342 350 Cp 349 23 138,kx P 152 151 31 "Full" (some<|.ref 143) 358 366 Cp 365 25 150,kx P 104 103 31 "BadAge" (some<|.ref 95) 294 302 Cp 301 17 102,kx P 128 127 31 "BadPlace" (some<|.ref 119) 326 334 Cp 333 21 126,kx P 44 43 31 "BadBars" (some<|.ref 35) 214 222 Cp 221 7 42,kx P 176 175 31 "Shut" (some<|.ref 167) 390 398 Cp 397 29 174,kx P 188 187 31 "Joined" (some<|.ref 179) 406 414 Cp 413 31 186,kx P 200 199 31 "Needed" (some<|.ref 191) 422 430 Cp 429 33 198,kx P 224 223 31 "BadSize" (some<|.ref 215) 454 462 Cp 461 37 222,kx P 212 211 31 "NothingLeft" (some<|.ref 203) 438 446 Cp 445 35 210,kx P 68 67 31 "BadNumber" (some<|.ref 59) 246 254 Cp 253 11 66,kx P 56 55 31 "BadMake" (some<|.ref 47) 230 238 Cp 237 9 54,kx P 80 79 31 "BadText" (some<|.ref 71) 262 270 Cp 269 13 78,[ko 31 ⟨.type "type",none,(.cls ⟨"HissError",[.type "ValueError"],[.ref 31,.type "ValueError",.type "Exception",.type "BaseException",.type "object"],30, "HissError",true,[],[.ref 44,.ref 56,.ref 68,.ref 80,.ref 92,.ref 104,.ref 116,.ref 128,.ref 140,.ref 152,.ref 164,.ref 176,.ref 188,.ref 200,.ref 212,.ref 224,.ref 243],false,none,false⟩),#[(some<|.ref 22),none,(some<|.str "HissError" 196),(some<|.str "HissError" 204),(some<|.builtin "ValueError.__new__"),(some<|.bool true)]⟩,ko 30 ⟨.type "dict",none,(.dict #[jk P "__module__" 203 (.str "hissroom.errors" 194),jk P "__firstlineno__" 207 (.int 5 206),jk P "__static_attributes__" 208 (.ref 29),jk P "__weakref__" 210 (.ref 32),jk P "__doc__" 211 (.none)] 3),#[]⟩],[ko 243 ⟨.type "type",none,(.cls ⟨"NoWay",[.ref 31],[.ref 243,.ref 31,.type "ValueError",.type "Exception",.type "BaseException",.type "object"],242, "NoWay",true,[],[],false,none,false⟩),#[(some<|.ref 227),none,(some<|.str "NoWay" 470),(some<|.str "NoWay" 478),(some<|.builtin "ValueError.__new__"),(some<|.bool true)]⟩,ko 242 ⟨.type "dict",none,(.dict #[jk P "__module__" 477 (.str "hissroom.errors" 194),jk P "__firstlineno__" 481 (.int 39 480),jk P "__init__" 490 (.ref 240),jk P "__static_attributes__" 493 (.ref 241),jk P "__doc__" 494 (.none)] 2),#[]⟩],qu 852 "_law_box" wZ xD 1374 505 1 1378,qu 859 "_law_take" sH xD 1381 507 2 1390,Sm 871 "_law_same" s_same xD 1399 532 2 1402,qu 337 "ends" sO W0 640 140 2 645,qu 344 "pieces" nH W0 648 142 2 654,Sm 356 "bar_of" nJ W0 663 149 3 666,qu 246 "is_bars" mn Ss 499 45 2 504,qu 267 "joined" nI Ss 529 62 3 540,qu 623 "with_key" lA pE 1083 381 3 1090,Sm 630 "without_key" i0 pE 1093 385 2 1096,kp 495 "__init__" "Stand.__init__" hJ pE 876 274 5 884,kp 502 "check_there" "Stand.check_there" gz pE 887 280 2 892,kp 509 "parts" "Stand.parts" i9 pE 895 284 2 900,kp 516 "source" "Stand.source" iN pE 903 288 3 914,kp 523 "takes_by_names" "Stand.takes_by_names" fR pE 917 300 1 927,kp 530 "take" "Stand.take" jy pE 930 310 2 935,kn 537 "shelf" "Stand.shelf" i8 pE 938 314 1 941,Sm 604 "check_new" j4 pE 1062 368 2 1065,qu 609 "check_age" j5 pE 1068 375 1 1072,qu 616 "check_place" i7 pE 1075 378 2 1080,qu 549 "put" wW pE 956 317 2 966,qu 556 "join" sL pE 969 325 2 979,qu 563 "found" pL pE 982 334 2 996,qu 570 "aged" sQ pE 999 342 2 1009,Sm 577 "drop" sP pE 1012 349 2 1015,qu 582 "free" sN pE 1018 356 2 1025,qu 589 "shut" sI pE 1028 360 2 1035,qu 597 "stand_behind" iL pE 1053 365 2 1059,kp 642 "__init__" "Room.__init__" iz oH 1115 391 2 1120,kp 649 "now" "Room.now" lF oH 1123 398 1 1127,kp 705 "deed" "Room.deed" ki oH 1194 422 2 1200,kp 726 "deeds" "Room.deeds" jD oH 1217 440 1 1221,kp 740 "size" "Room.size" j6 oH 1231 446 1 1235,kp 747 "names" "Room.names" jB oH 1238 449 1 1242,kp 754 "bars" "Room.bars" kl oH 1245 452 2 1250,kp 761 "age" "Room.age" lG oH 1253 455 2 1258,kp 768 "parts" "Room.parts" jA oH 1261 458 2 1266,kp 775 "source" "Room.source" ja oH 1269 461 3 1275,kp 782 "cuts" "Room.cuts" kj oH 1278 464 1 1285,kp 789 "takes" "Room.takes" jz oH 1288 468 1 1295,kp 656 "put" "Room.put" lE oH 1130 401 4 1137,kp 663 "join" "Room.join" kc oH 1140 404 5 1148,kp 670 "found" "Room.found" jC oH 1151 407 4 1158,kp 677 "aged" "Room.aged" km oH 1161 410 3 1167,kp 684 "drop" "Room.drop" kh oH 1170 413 2 1175,kp 691 "free" "Room.free" ke oH 1178 416 2 1183,kp 698 "shut" "Room.shut" j7 oH 1186 419 2 1191,kp 719 "redo" "Room.redo" j9 oH 1210 434 1 1214,kp 429 "__init__" "BestMakes.__init__" ip Sr 766 220 4 774,kp 453 "counted" "BestMakes.counted" iE Sr 800 243 2 805,kp 467 "numbered" "BestMakes.numbered" il Sr 820 256 3 831,qu 845 "joining_of_takes" iM oH 1364 499 1 1369,qu 415 "best_of" mq Sr 743 211 4 751,kp 234 "__init__" "NoWay.__init__" iK Cp 482 41 3 488,kp 824 "coming" "Room.coming" jb oH 1330 485 1 1343,qu 883 "_law_second" nF xD 1413 553 3 1419,qu 260 "check_run" j3 Ss 519 55 4 526,qu 253 "bars_of" mv Ss 507 47 2 516,qu 274 "unfolded" lD Co 549 70 1 559,qu 288 "checked_place" iw Co 576 90 2 581,qu 295 "take_of" ma Co 584 94 2 589,qu 281 "made" sJ Co 562 80 4 573,qu 302 "make_text" mT Co 592 98 1 600,qu 323 "close_bracket" jJ Co 620 127 1 628,qu 330 "number_of_figures" gy Co 631 135 1 635,qu 316 "loose_make" jx Co 611 115 1 617,qu 309 "make_of" mh Co 603 108 1 608,qu 876 "_law_first" pO xD 1405 542 2 1410,qu 897 "_law_full" sM xD 1430 579 1 1436,qu 890 "_law_shut" mi xD 1422 574 1 1427,Sm 866 "_law_kinds" mI xD 1393 523 1 1396,qu 904 "_law_raised" nG xD 1439 584 3 1447,Sm 911 "_law_made" mj xD 1450 596 1 1453,Sm 916 "law" oB xD 1456 601 1 1459,[ko 596 ⟨.type "dict",none,(.dict #[jk P "put" 1038 (.ref 555),jk P "join" 1039 (.ref 562),jk P "found" 1040 (.ref 569),jk P "aged" 1041 (.ref 576),jk P "drop" 1042 (.ref 581),jk P "free" 1043 (.ref 588),jk P "shut" 1044 (.ref 595)] 7),#[]⟩]]
def hk:W.Hook:=W.kHook kk [3,544,543,840,839,483,482,164,163,116,115,92,91,140,139,152,151,104,103,128,127,44,43,176,175,188,187,200,199,224,223,212,211,68,67,56,55,80,79,31,30,243,242,858,857,865,864,875,874,343,342,350,349,360,359,252,251,273,272,629,628,634,633,501,500,508,507,515,514,522,521,529,528,536,535,541,540,608,607,615,614,622,621,555,554,562,561,569,568,576,575,581,580,588,587,595,594,603,602,648,647,655,654,711,710,732,731,746,745,753,752,760,759,767,766,774,773,781,780,788,787,795,794,662,661,669,668,676,675,683,682,690,689,697,696,704,703,725,724,435,434,459,458,473,472,851,850,421,420,240,239,830,829,889,888,266,265,259,258,280,279,294,293,301,300,287,286,308,307,329,328,336,335,322,321,315,314,882,881,903,902,896,895,870,869,910,909,915,914,920,919,596] (λ_=>by kernel_rfl)
def lw:W.OpenLaw:=PySem.Challenge.rw_hissroom_k49_refusals_apart
def qq:ae:={ lw.prog with main:={ lw.prog.main with body:=[oB]}}
def ll:ao Str:=[sS "_wall",sS "HissError",sS "BadBars",sS "BadMake",sS "BadNumber",sS "BadText",sS "BadName",sS "BadAge",sS "BadBar",sS "BadPlace",sS "Taken",sS "Full",sS "NoTake",sS "Shut",sS "Joined",sS "Needed",sS "NothingLeft",sS "BadSize",sS "NoWay",sS "is_bars",sS "bars_of",sS "check_run",sS "joined",sS "MOST_TAKES_makes",sS "MOST_FIGURES",sS "unfolded",sS "made",sS "checked_place",sS "take_of",sS "make_text",sS "make_of",sS "loose_make",sS "close_bracket",sS "number_of_figures",sS "ends",sS "pieces",sS "farthest",sS "bar_of",sS "least_age",sS "youngest",sS "take_rows",sS "clean_row",sS "next_reach",sS "few_tables",sS "no_make",sS "bare_table",sS "next_table",sS "fewest_joined",sS "best_of",sS "BestMakes",sS "MOST_LETTERS",sS "MOST_TAKES_stand",sS "OLDEST",sS "Stand",sS "put",sS "join",sS "found",sS "aged",sS "drop",sS "free",sS "shut",sS "DEEDS",sS "stand_behind",sS "check_new",sS "check_age",sS "check_place",sS "with_key",sS "without_key",sS "LONGEST",sS "Room",sS "joining_of_takes",sS "_law_box",sS "_law_take",sS "_law_kinds",sS "_law_same",sS "_law_first",sS "_law_second",sS "_law_shut",sS "_law_full",sS "_law_raised",sS "_law_made"]
def xt (s:ai):Bool:=W.xlAt qq [] s&&W.recOk (W.RowW.records lw.row.toRowW) s
def YL:Ih lw.prog qq ll xt hk.obs hk.val 7736 "special-get-raises" false:=λw os=>by kernel_rfl
def YK:Ih lw.prog qq ll xt hk.obs hk.val 7736 "special-get-raises" true:=λw os=>by kernel_rfl
def left:W.LeftO lw.prog qq ll xt hk.obs hk.val 7736:=Me (by kernel_rfl) rfl (λs=>by kernel_rfl) rfl YL.at YK.at
def said:lw.wellSaid=true:=(congrFun W.Fast.te9446332074065402090 lw).trans (by kernel_rfl)
def dd:DefRec:=⟨"law",jW oB,iI oB,eG oB,V6 oB⟩
def holds (F:W.WalkO qq ll (W.XL qq []) hk.says lw.row.toRowW dd [] (λf vs=>PySem.call f vs)):lw.Holds:=W.holds_law said λk1=>W.holds_open (q:=qq) (loose:=ll) (Xt:=xt) (XP:=W.XL qq []) (d:=dd) (kwd:=[]) left hk.of hk.keeps (λs e=>W.xl_of s (Bool.and_eq_true_iff.mp e).1) W.XL.keeps (by kernel_rfl) (by kernel_rfl) rfl (λs e=>W.recFacts_of (Bool.and_eq_true_iff.mp e).2) rfl k1 (by kernel_rfl) ⟨rfl,rfl,rfl,rfl,rfl,by kernel_rfl⟩ ⟨[.list []],by kernel_rfl,by kernel_rfl⟩ F
abbrev lx (f:ae->af->aa->(Str->aq ak)->Heap->Prop)(w:af)(mg:Str->aq ak)(eB:Heap):Prop:=f lw.prog w (kk w.params) mg eB
def fq (w:af)(x q:Str)(s:Stmt)(f:aj)(pm:ak)(c:aj)(l:(kk w.params).lookup f=some (fnQ x q s pm c):=by kernel_rfl)(c':W.codeIn (kk w.params) (.ref c) q=true:=by kernel_rfl)(k:W.keepIn (kk w.params) (.ref f)=true:=by kernel_rfl):=MU l c' k
def o7 (w:af)(x:Str)(s:Stmt)(f:aj)(pm:ak)(c:aj)(l:(kk w.params).lookup f=some (fnQ x x s pm c):=by kernel_rfl)(c':W.codeIn (kk w.params) (.ref c) x=true:=by kernel_rfl)(k:W.keepIn (kk w.params) (.ref f)=true:=by kernel_rfl):=MU l c' k
set_option maxHeartbeats 40000000 in
def fin:W.WalkO qq ll (W.XL qq []) hk.says lw.row.toRowW dd [] (λf vs=>PySem.call f vs):=by
 refine L2.O7 (l:=lw) (d:=dd) (n:=63) (k:=13) (x:= "_law_script") (K:=kk) (CX:=λ_=>nr) (sp:=λw=>R0<|kk w.params) rfl (by decide) rfl ⟨rfl,by decide,by decide⟩ (λw h Y=>W.kIn_of Y) (λw mg fa h X G hfa=>?_) (λ_ _ a ns hl _ hS=>⟨a,ns,rfl,hS,hl,λ_=>rfl⟩) λ_ _ _ _ _ z=>z;have e:=hfa.symm.trans (bZ X G<|show W.nsIn (kk w.params) mainGlobals "law"=sr 920 by kernel_rfl);cases e;have T:jY mg:=⟨bA X G<|by kernel_rfl,bA X G<|by kernel_rfl,bA X G<|by kernel_rfl,bA X G<|by kernel_rfl,bA X G<|by kernel_rfl,bA X G<|by kernel_rfl,bA X G<|by kernel_rfl,bA X G<|by kernel_rfl,bA X G<|by kernel_rfl,bA X G<|by kernel_rfl,bA X G<|by kernel_rfl,bA X G<|by kernel_rfl,bA X G<|by kernel_rfl,bA X G<|by kernel_rfl,bA X G<|by kernel_rfl,bA X G<|by kernel_rfl,bA X G<|by kernel_rfl⟩;have TV:mg "ValueError"=none:=bA X G (by kernel_rfl);have eF:ie (kk w.params) eJ:=⟨⟨by kernel_rfl,by kernel_rfl,by kernel_rfl,by kernel_rfl⟩,by kernel_rfl,by kernel_rfl,by kernel_rfl,by kernel_rfl⟩;have eL:jr (kk w.params) eX:=⟨⟨by kernel_rfl,by kernel_rfl,by kernel_rfl,by kernel_rfl⟩,by kernel_rfl,by kernel_rfl,by kernel_rfl⟩;have jw:yo (kk w.params) nY:=⟨⟨by kernel_rfl,by kernel_rfl,by kernel_rfl,by kernel_rfl⟩,by kernel_rfl,by kernel_rfl,by kernel_rfl,by kernel_rfl,by kernel_rfl⟩;have F0:=o7 w "_law_box" wZ 858 xD 857;have F1:=o7 w "_law_take" sH 865 xD 864;have F2:=o7 w "_law_same" s_same 875 xD 874;have F3:=o7 w "ends" sO 343 W0 342;have F4:=o7 w "pieces" nH 350 W0 349;have F5:=o7 w "bar_of" nJ 360 W0 359;have F6:=o7 w "is_bars" mn 252 Ss 251;have F7:=o7 w "joined" nI 273 Ss 272;have F8:=o7 w "with_key" lA 629 pE 628;have F9:=o7 w "without_key" i0 634 pE 633;have F10:=fq w "__init__" "Stand.__init__" hJ 501 pE 500;have F11:=fq w "check_there" "Stand.check_there" gz 508 pE 507;have F12:=fq w "parts" "Stand.parts" i9 515 pE 514;have F13:=fq w "source" "Stand.source" iN 522 pE 521;have F14:=fq w "takes_by_names" "Stand.takes_by_names" fR 529 pE 528;have F15:=fq w "take" "Stand.take" jy 536 pE 535;have F16:=fq w "shelf" "Stand.shelf" i8 541 pE 540;have F17:=o7 w "check_new" j4 608 pE 607;have F18:=o7 w "check_age" j5 615 pE 614;have F19:=o7 w "check_place" i7 622 pE 621;have F20:=o7 w "put" wW 555 pE 554;have F21:=o7 w "join" sL 562 pE 561;have F22:=o7 w "found" pL 569 pE 568;have F23:=o7 w "aged" sQ 576 pE 575;have F24:=o7 w "drop" sP 581 pE 580;have F25:=o7 w "free" sN 588 pE 587;have F26:=o7 w "shut" sI 595 pE 594;have F27:=o7 w "stand_behind" iL 603 pE 602;have F28:=fq w "__init__" "Room.__init__" iz 648 oH 647;have F29:=fq w "now" "Room.now" lF 655 oH 654;have F30:=fq w "deed" "Room.deed" ki 711 oH 710;have F31:=fq w "deeds" "Room.deeds" jD 732 oH 731;have F32:=fq w "size" "Room.size" j6 746 oH 745;have F33:=fq w "names" "Room.names" jB 753 oH 752;have F34:=fq w "bars" "Room.bars" kl 760 oH 759;have F35:=fq w "age" "Room.age" lG 767 oH 766;have F36:=fq w "parts" "Room.parts" jA 774 oH 773;have F37:=fq w "source" "Room.source" ja 781 oH 780
 have F38:=fq w "cuts" "Room.cuts" kj 788 oH 787;have F39:=fq w "takes" "Room.takes" jz 795 oH 794;have F40:=fq w "put" "Room.put" lE 662 oH 661;have F41:=fq w "join" "Room.join" kc 669 oH 668;have F42:=fq w "found" "Room.found" jC 676 oH 675;have F43:=fq w "aged" "Room.aged" km 683 oH 682;have F44:=fq w "drop" "Room.drop" kh 690 oH 689;have F45:=fq w "free" "Room.free" ke 697 oH 696;have F46:=fq w "shut" "Room.shut" j7 704 oH 703;have F47:=fq w "redo" "Room.redo" j9 725 oH 724;have F48:=fq w "__init__" "BestMakes.__init__" ip 435 Sr 434;have F49:=fq w "counted" "BestMakes.counted" iE 459 Sr 458;have F50:=fq w "numbered" "BestMakes.numbered" il 473 Sr 472;have F51:=o7 w "joining_of_takes" iM 851 oH 850;have F52:=o7 w "best_of" mq 421 Sr 420;have F53:=fq w "__init__" "NoWay.__init__" iK 240 Cp 239;have F54:=fq w "coming" "Room.coming" jb 830 oH 829;have F55:=o7 w "_law_second" nF 889 xD 888;have F56:=o7 w "check_run" j3 266 Ss 265;have F57:=o7 w "bars_of" mv 259 Ss 258;have F58:=o7 w "unfolded" lD 280 Co 279;have F59:=o7 w "checked_place" iw 294 Co 293;have F60:=o7 w "take_of" ma 301 Co 300;have F61:=o7 w "made" sJ 287 Co 286;have F62:=o7 w "make_text" mT 308 Co 307;have F63:=o7 w "close_bracket" jJ 329 Co 328;have F64:=o7 w "number_of_figures" gy 336 Co 335;have F65:=o7 w "loose_make" jx 322 Co 321;have F66:=o7 w "make_of" mh 315 Co 314;have F67:=o7 w "_law_first" pO 882 xD 881;have F68:=o7 w "_law_full" sM 903 xD 902;have F69:=o7 w "_law_shut" mi 896 xD 895;have Xi:=o7 w "_law_kinds" mI 870 xD 869;have F71:=o7 w "_law_raised" nG 910 xD 909;have F72:=o7 w "_law_made" mj 915 xD 914;have F73:=o7 w "law" oB 920 xD 919;refine⟨W.fnOf "law" "law" (jW oB) (iI oB) (eG oB) .none .none .none xD none (.ref 919) .none,λs v=>.of_eq rfl,λeB X0 G0=>?_⟩;have jN:=kr (x:= "NoTake") (C:=rV) (h:=eB) X0 G0 (by kernel_rfl) (by kernel_rfl);have jQ:=kr (x:= "BadBar") (C:=rY) (h:=eB) X0 G0 (by kernel_rfl) (by kernel_rfl);have iW:=kr (x:= "BadName") (C:=nZ) (h:=eB) X0 G0 (by kernel_rfl) (by kernel_rfl);have lq:=kr (x:= "Taken") (C:=uT) (h:=eB) X0 G0 (by kernel_rfl) (by kernel_rfl);have m3:=kr (x:= "Full") (C:=zY) (h:=eB) X0 G0 (by kernel_rfl) (by kernel_rfl);have jR:=kr (x:= "BadAge") (C:=rZ) (h:=eB) X0 G0 (by kernel_rfl) (by kernel_rfl);have iB:=kr (x:= "BadPlace") (C:=nv) (h:=eB) X0 G0 (by kernel_rfl) (by kernel_rfl);have gc:=kr (x:= "BadBars") (C:=jM) (h:=eB) X0 G0 (by kernel_rfl) (by kernel_rfl);have mZ:=kr (x:= "Shut") (C:=zX) (h:=eB) X0 G0 (by kernel_rfl) (by kernel_rfl);have jP:=kr (x:= "Joined") (C:=rX) (h:=eB) X0 G0 (by kernel_rfl) (by kernel_rfl);have jO:=kr (x:= "Needed") (C:=rW) (h:=eB) X0 G0 (by kernel_rfl) (by kernel_rfl);have iV:=kr (x:= "BadSize") (C:=pB) (h:=eB) X0 G0 (by kernel_rfl) (by kernel_rfl);have fN:=kr (x:= "NothingLeft") (C:=ij) (h:=eB) X0 G0 (by kernel_rfl) (by kernel_rfl);have gH:=kr (x:= "BadNumber") (C:=kE) (h:=eB) X0 G0 (by kernel_rfl) (by kernel_rfl);have ig:=kr (x:= "BadMake") (C:=iP) (h:=eB) X0 G0 (by kernel_rfl) (by kernel_rfl);have gR:=kr (x:= "BadText") (C:=kC) (h:=eB) X0 G0 (by kernel_rfl) (by kernel_rfl)
 have lP:=kr (x:= "HissError") (C:=gm) (h:=eB) X0 G0 (by kernel_rfl) (by kernel_rfl);have oP:RF "NoWay" jU mg:=⟨bZ X G<|by kernel_rfl⟩;have uX:uY mg "LONGEST" 40:=⟨1101,bZ X G<|by kernel_rfl⟩;have og:uY mg "MOST_FIGURES" 4:=⟨547,bZ X G<|by kernel_rfl⟩;have oa:uY mg "MOST_LETTERS" 8:=⟨858,bZ X G<|by kernel_rfl⟩;have lL:uY mg "MOST_TAKES_makes" 40:=⟨545,bZ X G<|by kernel_rfl⟩;have lK:uY mg "MOST_TAKES_stand" 20:=⟨860,bZ X G<|by kernel_rfl⟩;have yu:uY mg "OLDEST" 20:=⟨862,bZ X G<|by kernel_rfl⟩;have B4:Tab lw.prog w (kk w.params) mg "DEEDS" [("put",EA),("join",yi),("found",um),("aged",yn),("drop",ym),("free",yj),("shut",yh)]:=tab_of (x:= "DEEDS") (d:=596) (n:=7) [("put",1038,555),("join",1039,562),("found",1040,569),("aged",1041,576),("drop",1042,581),("free",1043,588),("shut",1044,595)] X G (by kernel_rfl) (by kernel_rfl) (by decide);have Ox:mg "put"=some (.ref EA):=bZ X G (by kernel_rfl);have GL:mg "join"=some (.ref yi):=bZ X G (by kernel_rfl);have B8:mg "found"=some (.ref um):=bZ X G (by kernel_rfl);have GP:mg "aged"=some (.ref yn):=bZ X G (by kernel_rfl);have GO:mg "drop"=some (.ref ym):=bZ X G (by kernel_rfl);have GN:mg "free"=some (.ref yj):=bZ X G (by kernel_rfl);have GK:mg "shut"=some (.ref yh):=bZ X G (by kernel_rfl);have XW:aal (kk w.params) jU:=⟨⟨by kernel_rfl,by kernel_rfl,by kernel_rfl⟩,by kernel_rfl,by kernel_rfl⟩;have KW:∀ j,j<17->lV (kk w.params) gU gm j:=kW17 (k16 kB kB kB kB kB kB kB kB kB kB kB kB kB kB kB kB) kBX;have KH:∀ j,j<17->W.kitOne (kk w.params) (.ref<|gU.getD j 0) (.ref gm)=some true:=kH17 (by kernel_rfl);have XG1:Ov (kk w.params) jU "first":=⟨⟨by kernel_rfl,by kernel_rfl,by kernel_rfl⟩,(KW 16<|by decide).ef,by kernel_rfl⟩;have XG2:Ov (kk w.params) jU "behind":=⟨⟨by kernel_rfl,by kernel_rfl,by kernel_rfl⟩,(KW 16<|by decide).ef,by kernel_rfl⟩;have C0:lx Tj w mg eB:=jT X G F0 (U6 F0 T )<|wm F0;have C1:lx N9 w mg eB:=jT X G F1 (Ql F1 T )<|si F1;have C2:lx Ob w mg eB:=jT X G F2 ((Hj F2 T  (bZ X G<|by kernel_rfl) F2.kp (si F2)  5).imp λvs H Q E h=>Lk h)<|si F2;have C3:lx Og w mg eB:=jT X G F3 (Qr F3 T )<|si F3;have C4:lx Em w mg eB:=jT X G F4 (Jg F4 T  C3)<|si F4;have C5:lx yg w mg eB:=jT X G F5 (Ji F5 T  C4)<|OY F5;have C6:lx zV w mg eB:=jT X G F6 (Fv F6 T )<|si F6;have C7:lx yf w mg eB:=jT X G F7 (Jh F7 T )<|OY F7;have C8:lx mF w mg eB:=jT X G F8 (Dk F8 T )<|OY F8;have C9:lx oZ w mg eB:=jT X G F9 (xj F9 T )<|si F9;have Ts:lx gp w mg eB:=HV X G F10 (tV F10 T eF)<|bd5 F10;have C11:lx iH w mg eB:=gZ F11 (qM F11 T eF jN)<|si F11;have C12:lx mR w mg eB:=gZ F12 (xm F12 T eF C11)<|si F12;have C13:lx nW w mg eB:=gZ F13 (vK F13 T eF jQ C12)<|OY F13;have C14:lx jF w mg eB:=mO F14 (pe F14 T eF C7)<|wm F14;have C15:lx p6 w mg eB:=gZ F15 (yR F15 T eF C11 C14)<|si F15;have C16:lx mQ w mg eB:=mO F16 (xl F16 T eF C14)<|wm F16;have C17:lx rk w mg eB:=gP X G F17 (A7 F17 T eF iW lq m3 lK oa)<|si F17;have C18:lx rl w mg eB:=gP X G F18 (A8 F18 T jR yu) (wm F18)
 have C19:lx mP w mg eB:=gP X G F19 (xk F19 T eF iB)<|si F19;have C20:lx Ti w mg eB:=gP X G F20 (U4 F20 T eF gc C17 C6 C18 C8 Ts)<|si F20;have C21:lx Od w mg eB:=gP X G F21 (Qo F21 T eF mZ C17 C11 C19 C8 Ts)<|si F21;have C22:lx HX w mg eB:=gP X G F22 (LV F22 T eF gc C13 C8 Ts)<|si F22;have C23:lx Oi w mg eB:=gP X G F23 (Qt F23 T eF jP C12 C18 C8 Ts)<|si F23;have C24:lx Oh w mg eB:=gP X G F24 (Qs F24 T eF jO C11 C9 Ts)<|si F24;have C25:lx Of w mg eB:=gP X G F25 (Qq F25 T eF C19 C9 Ts)<|si F25;have C26:lx Oa w mg eB:=gP X G F26 (Qm F26 T eF C19 C8 Ts)<|si F26;have C27:lx rj w mg eB:=gP X G F27 (vJ F27 T B4 Ox GL B8 GP GO GN GK C20 C21 C22 C23 C24 C25 C26)<|si F27;have C28:lx jL w mg eB:=N8 X G F28 (uF F28 T eL eF iV uX Ts)<|si F28;have O1:lx iO w mg eB:=mO F29 (Dp F29 T eL)<|wm F29;have WO:lx jv w mg eB:=gZ F30 (Bf F30 T eL O1 C27)<|si F30;have C31:lx B2 w mg eB:=mO F31 (yW F31 T eL)<|wm F31;have C32:lx En w mg eB:=mO F32 (A9 F32 T eL eF O1)<|wm F32;have C33:lx uf w mg eB:=mO F33 (yU F33 T eL eF O1)<|wm F33;have C34:lx vC w mg eB:=gZ F34 (Bh F34 T eL eF O1 C15)<|si F34;have C35:lx GC w mg eB:=gZ F35 (Dq F35 T eL eF O1 C15)<|si F35;have C36:lx B1 w mg eB:=gZ F36 (yT F36 T eL eF O1 C12)<|si F36;have C37:lx za w mg eB:=gZ F37 (xn F37 T eL eF O1 C13)<|OY F37;have C38:lx Eo w mg eB:=mO F38 (Bg F38 T eL eF O1 C16)<|wm F38;have C39:lx BZ w mg eB:=mO F39 (yS F39 T eL eF O1 C16)<|wm F39;have C40:lx nX w mg eB:=gZ F40 (Dn F40 T eL WO)<|Xf F40;have C41:lx oM w mg eB:=gZ F41 (Bc F41 T eL WO)<|bd5 F41;have C42:lx ug w mg eB:=gZ F42 (yV F42 T eL WO)<|Xf F42;have C43:lx vD w mg eB:=gZ F43 (Bi F43 T eL WO)<|OY F43;have C44:lx vB w mg eB:=gZ F44 (Be F44 T eL WO)<|si F44;have C45:lx vA w mg eB:=gZ F45 (Bd F45 T eL WO)<|si F45;have C46:lx rm w mg eB:=gZ F46 (Ba F46 T eL WO)<|si F46;have C47:lx vz w mg eB:=gZ F47 (Bb F47 T eL fN)<|wm F47;have C48:lx mV w mg eB:=HV X G F48 (rR)<|Xf F48;have C49:lx m9 w mg eB:=mO F49 (rR)<|si F49;have C50:lx mU w mg eB:=mO F50 (rR)<|OY F50;have C51:lx nV w mg eB:=jT X G F51 (rR)<|wm F51;have C52:lx uS w mg eB:=gP X G F52 (Fw F52 T jw gH C5 C48 C49 C50)<|Xf F52;have C53:lx kI w mg eB:=Rp X G F53 (tW F53 T XW)<|OY F53;have C54:lx sx w mg eB:=gZ F54 (xo F54 T eL eF fN O1 C16 C5 C53 C52 C51 C33)<|wm F54;have C55:lx Ek w mg eB:=gP X G F55 (Je F55 T eL C40 C41 C42 C43 C44 C45 C46 C34 C47 C54)<|OY F55;have C56:lx vw w mg eB:=gP X G F56 (A6 F56 T gc)<|Xf F56;have C57:lx zW w mg eB:=gP X G F57 (Fx F57 T  C56)<|si F57;have C58:lx ye w mg eB:=jT X G F58 (Dl F58 T )<|wm F58;have C59:lx qi w mg eB:=gP X G F59 (uE F59 T ig)<|si F59;have C60:lx zQ w mg eB:=gP X G F60 (Fp F60 T ig)<|si F60;have C61:lx Oc w mg eB:=gP X G F61 (Qn F61 T  C58 C7 C59 C60)<|Xf F61;have C62:lx vt w mg eB:=jT X G F62 (rR)<|wm F62;have C63:lx qh w mg eB:=jT X G F63 (rR)<|wm F63;have C64:lx m8 w mg eB:=jT X G F64 (qL F64 T og)<|wm F64;have C65:lx ue w mg eB:=gP X G F65 (yQ F65 T gR C64 C63)<|wm F65;have C66:lx zR w mg eB:=gP X G F66 (Fq F66 T gR lL C65 C62) (wm F66)
 have C67:lx HY w mg eB:=gP X G F67 (LW F67 T eL C57 C61 C52 C66 C28)<|si F67;have C68:lx Oe w mg eB:=gP X G F68 (Qp F68 T eL C28 C40)<|wm F68;have C69:lx zS w mg eB:=gP X G F69 (Fs F69 T eL C28 C40 C46 C41)<|wm F69;have C70:lx HW w mg eB:=Rq X G Xi (LU Xi T TV gc ig gH gR iW jR jQ iB iV lq m3 jN mZ jP jO fN oP)<|wm Xi;have C71:lx El w mg eB:=jT X G F71 (Jf F71 T lP C67 C55 C68 C69 C70)<|OY F71;have C72:lx zU w mg eB:=jT X G Xi (Fu Xi T TV gc ig gH gR iW jR jQ iB iV lq m3 jN mZ jP jO fN oP)<|wm Xi;have C73:lx zT w mg eB:=jT X G F72 (Ft F72 T lP gc ig gH gR iW jR jQ iB iV lq m3 jN mZ jP jO fN oP KW KH C53 C72)<|wm F72;exact U5 F73 T eL KW KH XG1 XG2 C0 C1 C2 C28 C40 C41 C71 C73 C53
end Pf
theorem PySem.Challenge.cw_hissroom_k49_refusals_apart_holds : PySem.Challenge.rw_hissroom_k49_refusals_apart.Holds :=
 Pf.holds Pf.fin