import PyProof.Rows.All
import Wide.All
import OpenK.AllK
import Wide.FinOn
import Lean
import PyProof.EqAt
import PyProof.EqKinds
import PyProof.TupleCall
import PyProof.NeKinds
import PyProof.ListRange
import PyProof.MaxThree
import PyProof.DictWalks
import PyProof.Rows.SortWalk
import PyProof.Rows.TopTwo
import PyProof.RangeIter
import PyProof.ExcArgsOwn
import PyProof.ExcBaseAll.ValueError
import PyProof.ExcAttrAll.ValueError
import KE.KIsAll
import OpenK.KOwn
import PyProof.StrBlock
import PyProof.DictItems
import PyProof.DictItemsLoops
import PyProof.DictValues
import KE.KRevSl
import KE.KxWritten
import KE.KIntText
import KE.KWords
import PyProof.Rows.StrStrike
import PyProof.Rows.RegReprOcc
import PyProof.MeetsStr2
import PyProof.Rows.StrSplitAre
import PyProof.AttrMissHeap
import KE.KSortTup
import PySem.Challenge.RW_hissroom_k19_whole_all_makes_gone_throug
set_option autoImplicit true
set_option maxHeartbeats 40000000
set_option Elab.async false
set_option linter.all false
set_option maxRecDepth 100000
set_option genSizeOf false
set_option maxHeartbeats 4000000
theorem iT {α:Type _}{l:List α}{i:Nat}(h:i<l.length):l[i]?=some l[i]:=List.getElem?_eq_getElem h
theorem kP {α:Type _}{l:List α}{i:Nat}{a:α}(h:l[i]?=some a):∃ h:i<l.length,l[i]=a:=List.getElem?_eq_some_iff.mp h
theorem gQ {α β:Type _}{as:List α}(f:α->β):(as.map f).length=as.length:=List.length_map f
theorem lC {α:Type _}{l:List α}{i:Nat}{a:α}(e:l[i]?=some a):a∈l:=List.mem_of_getElem? e
theorem kO {α:Type _}{as bs:List α}:(as++bs).length=as.length+bs.length:=List.length_append
theorem vX {α:Type _}{l₁ l₂:List α}{i:Nat}(h:i<l₁.length):(l₁++l₂)[i]?=l₁[i]?:=List.getElem?_append_left h
theorem p8 {α:Type _}{l₁ l₂:List α}{i:Nat}(h:l₁.length<=i):(l₁++l₂)[i]?=l₂[i - l₁.length]?:=List.getElem?_append_right h
theorem mQ {α:Type _}{a:α}(b:α){l:List α}(h:a∈l):a∈b::l:=List.mem_cons_of_mem b h
theorem ur {n:Nat}:(List.range n).length=n:=List.length_range
theorem Ff (n:Nat):(n:Int).toNat=n:=Int.toNat_natCast n
theorem jx {h:PySem.Heap}{a:PySem.Addr}{u:PySem.Obj}(v:PySem.Obj)(e:h.get? a=some u):(h.push v).get? a=some u:=PySem.Heap.get?_push_of_some v e
theorem fH {α β:Type}{M:PySem.Model}{A:PySem.Around}{E:PySem.Value->PySem.Shared->Prop}{s:PySem.Shared}{m:PySem.Sem α}{f:α->PySem.Sem β}{Q:β->PySem.Shared->Prop}(h:PySem.wpAny M A m (λa s=>PySem.wpAny M A (f a) Q E s) E s):PySem.wpAny M A (m>>=f) Q E s:=PySem.wpAny_bind h
theorem iO {h:PySem.Heap}{a:PySem.Addr}{o:PySem.Obj}(e:h.get? a=some o):a<h.objs.size:=PySem.Heap.lt_size e
theorem nX {α β:Type _}{f:α->β}{l:List α}{i:Nat}:(l.map f)[i]?=(l[i]?).map f:=List.getElem?_map ..
abbrev aa:=PySem.W.Frag
abbrev ae:=PySem.Program
abbrev af:=PySem.World
abbrev ag:=PySem.FuncData
abbrev ah:=PySem.Shared
abbrev ai:=PySem.Addr
abbrev aj:=PySem.Value
abbrev ak:=List.{0}
abbrev ao:=Option.{0}
abbrev aq:=@Nat.le_refl
abbrev ar:=@List.getD_eq_getElem?_getD
abbrev au:=@List.size_toArray
abbrev av:=@PySem.wpAny_pure
abbrev aw:=@Nat.ne_of_lt
abbrev az:=@List.map_cons
abbrev aA:=@if_pos
abbrev aB:=@decide_eq_true
abbrev aC:=@if_neg
abbrev aD:=@PySem.Heap.get?_push_size
abbrev aE:=@List.length_cons
abbrev aF:=@PySem.Heap.get?_update_other
abbrev aG:=@Nat.lt_of_lt_of_le
abbrev aH:=@List.mem_cons_self
abbrev aI:=@List.mem_append_right
abbrev aJ:=@Bool.false_ne_true
abbrev aK:=@Nat.le_trans
abbrev aL:=@PyProof.Rows.boot_isinstance
abbrev aM:=@List.not_mem_nil
abbrev aN:=@List.getElem_of_mem
abbrev aO:=@List.getElem?_set_self
abbrev aP:=@decide_eq_false
abbrev aQ:=@Nat.le_add_right
abbrev aR:=@List.length_replicate
abbrev aS:=@Nat.zero_le
abbrev aT:=@List.mem_cons
abbrev aU:=@Option.some.inj
abbrev aV:=@List.mem_of_mem_take
abbrev aW:=@List.getElem?_set_ne
abbrev aX:=@PySem.Heap.size_push
abbrev aY:=@Nat.lt_succ_of_lt
abbrev aZ:=@PySem.wpAny_field
abbrev a6:=@Nat.sub_self
abbrev a8:=@List.append_nil
abbrev a9:=@List.getElem_mem
abbrev ba:=@Nat.ne_of_gt
abbrev bc:=@List.map_map
abbrev bg:=@List.drop_eq_getElem_cons
abbrev bh:=@PyProof.Rows.callWith_type1
abbrev bj:=@PySem.AutoSeq1.wpAny_loadPart'
abbrev bo:=@Int.le_refl
abbrev bp:=@of_decide_eq_true
abbrev bq:=@PySem.wpAny_mono
abbrev bu:=@PyProof.Rows.boot_list
abbrev bw:=@List.getElem?_take_of_lt
abbrev bx:=@List.length_take
abbrev bz:=@List.length_drop
abbrev bA:=@decide_eq_true_eq
abbrev bB:=@PySem.wpAny_setField_rec
abbrev bC:=@List.length_singleton
abbrev bD:=@List.getElem?_zipWith
abbrev bE:=@PySem.Heap.get?_update_self
abbrev bF:=@List.length_zipWith
abbrev bG:=@List.getElem?_range
abbrev bH:=@PySem.PassesOwn.never
abbrev bI:=@List.map_append
abbrev bJ:=@Ne.symm
abbrev bL:=@List.take_of_length_le
abbrev bM:=@List.drop_of_length_le
abbrev bN:=@PySem.W.mg_none_of
abbrev bO:=@List.map_congr_left
abbrev bP:=@PySem.wpAny_seqItems
abbrev bQ:=@Nat.lt_succ_self
abbrev bR:=@PySem.wpAny_holding
abbrev bS:=@Nat.lt_of_le_of_lt
abbrev bT:=@Int.le_trans
abbrev bU:=@List.mem_range
abbrev bV:=@List.length_set
abbrev bW:=@Int.toNat_of_nonneg
abbrev bX:=@List.length_filter_le
abbrev bY:=@or_false
abbrev bZ:=@Nat.le_of_lt
abbrev b7:=@List.set_set
abbrev b8:=@PySem.wpAny_callSpecial?_slot
abbrev b9:=@List.mem_append_left
abbrev cb:=@Nat.lt_irrefl
abbrev cc:=@List.sum_cons
abbrev cf:=@List.zipWith_cons_cons
abbrev cg:=@List.flatMap_append
abbrev cj:=@Nat.min_eq_left
abbrev ck:=@Nat.lt_trans
abbrev cm:=@List.forIn_cons
abbrev cn:=@List.find?_cons
abbrev cq:=@congrArg
abbrev cu:=@Bool.and_eq_true
abbrev cv:=@Int.le_of_lt
abbrev cw:=@PySem.wpAny_Call_Name_kw
abbrev cx:=@List.take_left
abbrev cy:=@PySem.wpAny_truthy_bool
abbrev cz:=@Nat.lt_trichotomy
abbrev cA:=@List.ext_getElem?
abbrev cC:=@List.append_assoc
abbrev cE:=@List.foldl_cons
abbrev cF:=@List.take_succ_cons
abbrev cG:=@List.filterMap_cons
abbrev cH:=@Array.length_toList
abbrev cI:=@PySem.F.plain_min_loop
abbrev cJ:=@PySem.wpAny_pyIter_zip
abbrev cK:=@PySem.wpAny_call_entry
abbrev cL:=@List.all_eq_true
abbrev cM:=@PySem.F.excBase_ValueError
abbrev cO:=@List.zip_cons_cons
abbrev cP:=@List.getElem?_drop
abbrev cQ:=@PySem.F.slot_tuple_iterator_next
abbrev cR:=@Bool.false_eq_true
abbrev cS:=@PyProof.Rows.boot_min
abbrev cU:=@PySem.wpAny_updateSeq
abbrev cV:=@PySem.wpAny_passesOwn
abbrev cW:=@PySem.codeAny_builtin
abbrev cY:=@List.length_nil
abbrev cZ:=@PySem.wpAny_newObj_type
abbrev c0:=@PySem.wpAny_letGo
abbrev c3:=@PySem.Around.under_plainId
abbrev c4:=@PySem.plainId_quiet
abbrev c5:=@List.any_cons
abbrev c6:=@PySem.mem_of_lookup
abbrev c7:=@List.filter_sublist
abbrev c8:=@PySem.MeetsSeq3.plain_eq_loop
abbrev c9:=@Int.mul_nonneg
abbrev dc:=@Int.eq_ofNat_of_zero_le
abbrev de:=@PySem.F.plainAttrs_str
abbrev df:=@PyProof.Rows.boot_bool
abbrev dg:=@List.pairwise_lt_range
abbrev dh:=@Int.emod_lt_of_pos
abbrev dj:=@PySem.F.slot_zip_next
abbrev dk:=@PySem.W.kia_one
abbrev dm:=@List.all_cons
abbrev dq:=@PyProof.Rows.boot_max
abbrev dr:=@PyProof.Rows.boot_int
abbrev dt:=@List.Pairwise.sublist
abbrev du:=@PySem.F.slot_enumerate_next
abbrev dw:=@PySem.wpAny_pyIter_list
abbrev dA:=@List.flatMap_cons
abbrev dD:=@List.lookup_cons
abbrev dE:=@List.mem_map_of_mem
abbrev dF:=@PySem.F.plain_extend_loop
abbrev dG:=@PySem.wpAny_standAt
abbrev dH:=@PySem.wpAny_comprehension_free
abbrev dN:=@PySem.pushCells_keeps
abbrev dP:=@Int.emod_nonneg
abbrev dQ:=@Bool.eq_iff_iff
abbrev dR:=@PySem.Obj.data_mapFields
abbrev dU:=@List.lookup_append
abbrev dW:=@Int.lt_or_eq_of_le
abbrev dX:=@PyProof.Rows.boot_tuple
abbrev dY:=@List.getElem?_replicate
abbrev dZ:=@List.getElem?_cons_succ
abbrev d7:=@List.findIdx?_eq_some_iff_getElem
abbrev d8:=@PySem.wpAny_tryCatch
abbrev d9:=@PySem.wpAny_setField
abbrev eh:=@PySem.wpAny_pyIter_enum
abbrev eA:=@PySem.F.entry_min_loop
abbrev eB:=@List.pairwise_map
abbrev eE:=@List.nodup_append
abbrev eF:=@List.mem_map
abbrev eG:=@List.map_nil
abbrev eI:=@List.flatten_cons
abbrev eJ:=@List.any_eq_false
abbrev eK:=@List.Pairwise.imp
abbrev eL:=@Bool.and_false
abbrev eM:=@PySem.F.type_str_join
abbrev eN:=@PySem.F.slot_str_join
abbrev eO:=@PySem.Obj.isFreed_of_fields
abbrev eP:=@List.set_append_right
abbrev eR:=@List.getElem?_eq_none
abbrev eS:=@List.filterMap_eq_map
abbrev eT:=@Int.mul_ediv_add_emod
abbrev eU:=@Int.ediv_lt_of_lt_mul
abbrev eV:=@PySem.wpAny_rule
abbrev eW:=@Nat.min_eq_right
abbrev eX:=@List.flatMap_nil
abbrev eY:=@List.filter_cons
abbrev eZ:=@Int.ofNat_nonneg
namespace L2
def lQ {a b:Prop}{G:Prop}(q_:a/\b)(k:a->b->G):G:=by obtain⟨h0,h1⟩:=q_;exact k h0 h1
def jr {a b c:Prop}{G:Prop}(q_:a/\b/\c)(k:a->b->c->G):G:=by obtain⟨h0,h1,h2⟩:=q_;exact k h0 h1 h2
def z5 {a b c d:Prop}{G:Prop}(q_:a/\b/\c/\d)(k:a->b->c->d->G):G:=by obtain⟨h0,h1,h2,h3⟩:=q_;exact k h0 h1 h2 h3
def L6 {a b c d e:Prop}{G:Prop}(q_:a/\b/\c/\d/\e)(k:a->b->c->d->e->G):G:=by obtain⟨h0,h1,h2,h3,h4⟩:=q_;exact k h0 h1 h2 h3 h4
def zZ {a b c d e f:Prop}{G:Prop}(q_:a/\b/\c/\d/\e/\f)(k:a->b->c->d->e->f->G):G:=by obtain⟨h0,h1,h2,h3,h4,h5⟩:=q_;exact k h0 h1 h2 h3 h4 h5
def kA {lI:Sort _}{a:lI->Prop}{G:Prop}(q_:∃ x,a x)(k:∀ x,a x->G):G:=by obtain⟨x,h0⟩:=q_;exact k x h0
def fj {lI:Sort _}{a b:lI->Prop}{G:Prop}(q_:∃ x,a x/\b x)(k:∀ x,a x->b x->G):G:=by obtain⟨x,h0,h1⟩:=q_;exact k x h0 h1
def jB {lI:Sort _}{a b c:lI->Prop}{G:Prop}(q_:∃ x,a x/\b x/\c x)(k:∀ x,a x->b x->c x->G):G:=by obtain⟨x,h0,h1,h2⟩:=q_;exact k x h0 h1 h2
def sN {lI:Sort _}{a b c d:lI->Prop}{G:Prop}(q_:∃ x,a x/\b x/\c x/\d x)(k:∀ x,a x->b x->c x->d x->G):G:=by obtain⟨x,h0,h1,h2,h3⟩:=q_;exact k x h0 h1 h2 h3
def Qv {lI:Sort _}{a b c d e:lI->Prop}{G:Prop}(q_:∃ x,a x/\b x/\c x/\d x/\e x)(k:∀ x,a x->b x->c x->d x->e x->G):G:=by obtain⟨x,h0,h1,h2,h3,h4⟩:=q_;exact k x h0 h1 h2 h3 h4
def Xb {lI:Sort _}{nT:Sort _}{a:lI->nT->Prop}{G:Prop}(q_:∃ x y,a x y)(k:∀ x y,a x y->G):G:=by obtain⟨x,y,h0⟩:=q_;exact k x y h0
def nY {lI:Sort _}{nT:Sort _}{a b:lI->nT->Prop}{G:Prop}(q_:∃ x y,a x y/\b x y)(k:∀ x y,a x y->b x y->G):G:=by obtain⟨x,y,h0,h1⟩:=q_;exact k x y h0 h1
def fZ {lI:Sort _}{nT:Sort _}{a b c:lI->nT->Prop}{G:Prop}(q_:∃ x y,a x y/\b x y/\c x y)(k:∀ x y,a x y->b x y->c x y->G):G:=by obtain⟨x,y,h0,h1,h2⟩:=q_;exact k x y h0 h1 h2
def lP {lI:Sort _}{nT:Sort _}{a b c d:lI->nT->Prop}{G:Prop}(q_:∃ x y,a x y/\b x y/\c x y/\d x y)(k:∀ x y,a x y->b x y->c x y->d x y->G):G:=by obtain⟨x,y,h0,h1,h2,h3⟩:=q_;exact k x y h0 h1 h2 h3
def Qu {lI:Sort _}{nT:Sort _}{a b c d e:lI->nT->Prop}{G:Prop}(q_:∃ x y,a x y/\b x y/\c x y/\d x y/\e x y)(k:∀ x y,a x y->b x y->c x y->d x y->e x y->G):G:=by obtain⟨x,y,h0,h1,h2,h3,h4⟩:=q_;exact k x y h0 h1 h2 h3 h4
def Xa {lI:Sort _}{nT:Sort _}{a b c d e f:lI->nT->Prop}{G:Prop}(q_:∃ x y,a x y/\b x y/\c x y/\d x y/\e x y/\f x y)(k:∀ x y,a x y->b x y->c x y->d x y->e x y->f x y->G):G:=by obtain⟨x,y,h0,h1,h2,h3,h4,h5⟩:=q_;exact k x y h0 h1 h2 h3 h4 h5
def IU {lI:Sort _}{nT:Sort _}{sF:Sort _}{a b:lI->nT->sF->Prop}{G:Prop}(q_:∃ x y z,a x y z/\b x y z)(k:∀ x y z,a x y z->b x y z->G):G:=by obtain⟨x,y,z,h0,h1⟩:=q_;exact k x y z h0 h1
def IT {lI:Sort _}{nT:Sort _}{sF:Sort _}{a b c:lI->nT->sF->Prop}{G:Prop}(q_:∃ x y z,a x y z/\b x y z/\c x y z)(k:∀ x y z,a x y z->b x y z->c x y z->G):G:=by obtain⟨x,y,z,h0,h1,h2⟩:=q_;exact k x y z h0 h1 h2
def IS {lI:Sort _}{nT:Sort _}{sF:Sort _}{a b c d:lI->nT->sF->Prop}{G:Prop}(q_:∃ x y z,a x y z/\b x y z/\c x y z/\d x y z)(k:∀ x y z,a x y z->b x y z->c x y z->d x y z->G):G:=by obtain⟨x,y,z,h0,h1,h2,h3⟩:=q_;exact k x y z h0 h1 h2 h3
def IQ {lI:Sort _}{nT:Sort _}{sF:Sort _}{a b c d e:lI->nT->sF->Prop}{G:Prop}(q_:∃ x y z,a x y z/\b x y z/\c x y z/\d x y z/\e x y z)(k:∀ x y z,a x y z->b x y z->c x y z->d x y z->e x y z->G):G:=by obtain⟨x,y,z,h0,h1,h2,h3,h4⟩:=q_;exact k x y z h0 h1 h2 h3 h4
def IP {lI:Sort _}{nT:Sort _}{sF:Sort _}{a b c d e f:lI->nT->sF->Prop}{G:Prop}(q_:∃ x y z,a x y z/\b x y z/\c x y z/\d x y z/\e x y z/\f x y z)(k:∀ x y z,a x y z->b x y z->c x y z->d x y z->e x y z->f x y z->G):G:=by obtain⟨x,y,z,h0,h1,h2,h3,h4,h5⟩:=q_;exact k x y z h0 h1 h2 h3 h4 h5
def Tp {lI:Sort _}{nT:Sort _}{sF:Sort _}{AA:Sort _}{a b:lI->nT->sF->AA->Prop}{G:Prop}(q_:∃ x y z u,a x y z u/\b x y z u)(k:∀ x y z u,a x y z u->b x y z u->G):G:=by obtain⟨x,y,z,u,h0,h1⟩:=q_;exact k x y z u h0 h1
def gG {lI:Sort _}{nT:Sort _}{sF:Sort _}{AA:Sort _}{a b c d:lI->nT->sF->AA->Prop}{G:Prop}(q_:∃ x y z u,a x y z u/\b x y z u/\c x y z u/\d x y z u)(k:∀ x y z u,a x y z u->b x y z u->c x y z u->d x y z u->G):G:=by obtain⟨x,y,z,u,h0,h1,h2,h3⟩:=q_;exact k x y z u h0 h1 h2 h3
def To {lI:Sort _}{nT:Sort _}{sF:Sort _}{AA:Sort _}{a b c d e:lI->nT->sF->AA->Prop}{G:Prop}(q_:∃ x y z u,a x y z u/\b x y z u/\c x y z u/\d x y z u/\e x y z u)(k:∀ x y z u,a x y z u->b x y z u->c x y z u->d x y z u->e x y z u->G):G:=by obtain⟨x,y,z,u,h0,h1,h2,h3,h4⟩:=q_;exact k x y z u h0 h1 h2 h3 h4
def x6 {lI:Sort _}{nT:Sort _}{sF:Sort _}{AA:Sort _}{a b c d e f:lI->nT->sF->AA->Prop}{G:Prop}(q_:∃ x y z u,a x y z u/\b x y z u/\c x y z u/\d x y z u/\e x y z u/\f x y z u)(k:∀ x y z u,a x y z u->b x y z u->c x y z u->d x y z u->e x y z u->f x y z u->G):G:=by obtain⟨x,y,z,u,h0,h1,h2,h3,h4,h5⟩:=q_;exact k x y z u h0 h1 h2 h3 h4 h5
def W9 {lI:Sort _}{nT:Sort _}{sF:Sort _}{AA:Sort _}{a b c d e f g h:lI->nT->sF->AA->Prop}{G:Prop}(q_:∃ x y z u,a x y z u/\b x y z u/\c x y z u/\d x y z u/\e x y z u/\f x y z u/\g x y z u/\h x y z u)(k:∀ x y z u,a x y z u->b x y z u->c x y z u->d x y z u->e x y z u->f x y z u->g x y z u->h x y z u->G):G:=by obtain⟨x,y,z,u,h0,h1,h2,h3,h4,h5,h6,h7⟩:=q_;exact k x y z u h0 h1 h2 h3 h4 h5 h6 h7
def W8 {lI:Sort _}{nT:Sort _}{sF:Sort _}{AA:Sort _}{Ry:Sort _}{a b c d:lI->nT->sF->AA->Ry->Prop}{G:Prop}(q_:∃ x y z u v,a x y z u v/\b x y z u v/\c x y z u v/\d x y z u v)(k:∀ x y z u v,a x y z u v->b x y z u v->c x y z u v->d x y z u v->G):G:=by obtain⟨x,y,z,u,v,h0,h1,h2,h3⟩:=q_;exact k x y z u v h0 h1 h2 h3
def Tn {lI:Sort _}{nT:Sort _}{sF:Sort _}{AA:Sort _}{Ry:Sort _}{a b c d e:lI->nT->sF->AA->Ry->Prop}{G:Prop}(q_:∃ x y z u v,a x y z u v/\b x y z u v/\c x y z u v/\d x y z u v/\e x y z u v)(k:∀ x y z u v,a x y z u v->b x y z u v->c x y z u v->d x y z u v->e x y z u v->G):G:=by obtain⟨x,y,z,u,v,h0,h1,h2,h3,h4⟩:=q_;exact k x y z u v h0 h1 h2 h3 h4
def L5 {lI:Sort _}{nT:Sort _}{sF:Sort _}{AA:Sort _}{Ry:Sort _}{a b c d e f:lI->nT->sF->AA->Ry->Prop}{G:Prop}(q_:∃ x y z u v,a x y z u v/\b x y z u v/\c x y z u v/\d x y z u v/\e x y z u v/\f x y z u v)(k:∀ x y z u v,a x y z u v->b x y z u v->c x y z u v->d x y z u v->e x y z u v->f x y z u v->G):G:=by obtain⟨x,y,z,u,v,h0,h1,h2,h3,h4,h5⟩:=q_;exact k x y z u v h0 h1 h2 h3 h4 h5
open PySem PySem.Spec PyProof.Rows
abbrev Key:=Sum Int Str
def vU:Key->aj->Bool
 |.inl k,v=>Value.isInt k v
 |.inr x,v=>Value.isStrOf x v
def VZ (w:af):Key->Int
 |.inl k=>hashInt k
 |.inr x=>hashStr w x
def iJ:∀ {k:Key} {v:aj},vU k v=true->(∃ i t,k=Sum.inl i/\v=Value.int i t)\/(∃ x t,k=Sum.inr x/\v=Value.str x t)
 | .inl i,v,h=>by obtain⟨t,e⟩:=Value.isInt_shape (k:=i) (v:=v) h;exact .inl ⟨i,t,rfl,e⟩
 | .inr x,v,h=>by obtain⟨t,e⟩:=Value.isStrOf_shape (x:=x) (v:=v) h;exact .inr ⟨x,t,rfl,e⟩
def EX (i:Int)(t:Tok):vU (.inl i) (.int i t)=true:=by simp[vU,Value.isInt]
def EW (x:Str)(t:Tok):vU (.inr x) (.str x t)=true:=by simp[vU,Value.isStrOf]
def Px (a b:Int):decide ((Sum.inl a:Key)=Sum.inl b)=(a==b):=by
 by_cases e:a=b
 .subst e;simp
 .have h:¬ (Sum.inl a:Key)=Sum.inl b:=λq=>e<|Sum.inl.inj q;rw[aP h];exact(beq_eq_false_iff_ne.mpr e).symm
def Pr (a b:Str):decide ((Sum.inr a:Key)=Sum.inr b)=decide (a=b):=by
 by_cases e:a=b
 .subst e;simp
 .have h:¬ (Sum.inr a:Key)=Sum.inr b:=λq=>e<|Sum.inr.inj q;rw[aP h,aP e]
def Pw (a:Int)(b:Str):decide ((Sum.inl a:Key)=Sum.inr b)=false:=aP (λq=>nomatch q)
def Pu (a:Str)(b:Int):decide ((Sum.inr a:Key)=Sum.inl b)=false:=aP (λq=>nomatch q)
def jq (prog:ae)(w:af):PySem.KeyKind prog w Key where
 is:=vU
 hash:=VZ w
 inj:=λv a b ha hb=>by
  rcases iJ ha with⟨i,t,rfl,rfl⟩|⟨x,t,rfl,rfl⟩
  .rcases iJ hb with⟨j,u,rfl,e⟩ | ⟨y,u,rfl,e⟩
   .injection e with e1 _;rw[e1]
   .exact nomatch e
  .rcases iJ hb with⟨j,u,rfl,e⟩ | ⟨y,u,rfl,e⟩
   .exact nomatch e
   .injection e with e1 _;rw[e1]
 byValue:=λk v h=>by rcases iJ h with⟨i,t,rfl,rfl⟩|⟨x,t,rfl,rfl⟩<;> rfl
 pyHash:=λhv h=>by
  rcases iJ hv with⟨i,t,rfl,rfl⟩|⟨x,t,rfl,rfl⟩
  .exact wpAny_pyHash_int h
  .exact wpAny_pyHash_str h
 eqBool:=λhu hv h=>by
  rcases iJ hu with⟨i,t,rfl,rfl⟩|⟨x,t,rfl,rfl⟩
  .rcases iJ hv with⟨j,u,rfl,rfl⟩ | ⟨y,u,rfl,rfl⟩
   .rw[Px]at h;exact wpAny_eqBool_int h
   .rw[Pw]at h;exact SeqAt.EqAt.int_str i t y u _ _ _ _ h
  .rcases iJ hv with⟨j,u,rfl,rfl⟩ | ⟨y,u,rfl,rfl⟩
   .rw[Pu]at h;exact SeqAt.EqAt.str_int x t j u _ _ _ _ h
   .rw[Pr]at h;exact wpAny_eqBool_str h
 «strs»:=λk x t v h=>by
  rcases iJ h with⟨i,u,rfl,e⟩|⟨y,u,rfl,e⟩
  .exact nomatch e
  .injection e with e1 _;subst e1;cases v<;>rfl
def zt (prog:ae)(w:af)(i:Int)(t:Tok):(jq prog w).is (.inl i) (.int i t)=true:=EX i t
def zr (prog:ae)(w:af)(x:Str)(t:Tok):(jq prog w).is (.inr x) (.str x t)=true:=EW x t
inductive V where
 |gz|bl (b:Bool)|int (i:Int)|str (x:Str)|Ft (b:Array UInt8)|NF (b:UInt64)|ref (a:ai)|ty (n:String)
 deriving DecidableEq
def fW:V->aj->Prop
 |.gz,u=>u=Value.none
 |.bl b,u=>u=Value.bool b
 |.int i,u=>∃ t,u=Value.int i t
 |.str x,u=>∃ t,u=Value.str x t
 |.Ft b,u=>∃ t,u=Value.bytes b t
 |.NF b,u=>∃ t,u=Value.float b t
 |.ref a,u=>u=Value.ref a
 |.ty n,u=>u=Value.type n
abbrev fT:ak V->ak aj->Prop:=Paired fW
theorem fT.length {xs:ak V}{us:ak aj}(r:fT xs us):xs.length=us.length:=Paired.length r
theorem fT.get:∀ {xs:ak V} {us:ak aj} {i:Nat} {x:V},fT xs us->xs[i]?=some x->∃ u,us[i]?=some u/\fW x u
 |_,_,_,_,.nil,e=>by cases e
 |_,_,0,_,.cons r _,e=>by simp at e;subst e;exact⟨_,rfl,r⟩
 | _,_,i+1,x,.cons _ t,e=>by obtain⟨u,h1,h2⟩:=fT.get (i:=i) (x:=x) t (by simpa using e);exact⟨u,by simpa using h1,h2⟩
theorem fT.set {x:V}{u:aj}(r:fW x u):∀ {xs:ak V} {us:ak aj} (i:Nat),fT xs us->fT (xs.set i x) (us.set i u)
 |_,_,_,.nil=>.nil
 |_,_,0,.cons _ t=>.cons r t
 |_,_,i+1,.cons q t=>.cons q (fT.set r i t)
def fT.append {xs ys:ak V}{us ws:ak aj}(h:fT xs us)(s:fT ys ws):fT (xs++ys) (us++ws):=by
 induction h with
 |nil=>exact s
 |cons r t ih=>exact .cons r ih
theorem fT.take:∀ {xs:ak V} {us:ak aj} (n:Nat),fT xs us->fT (xs.take n) (us.take n)
 |_,_,0,_=>.nil
 |_,_,_+1,.nil=>.nil
 |_,_,n+1,.cons r t=>.cons r (fT.take n t)
theorem fT.drop:∀ {xs:ak V} {us:ak aj} (n:Nat),fT xs us->fT (xs.drop n) (us.drop n)
 |_,_,0,r=>r
 |_,_,_+1,.nil=>.nil
 |_,_,n+1,.cons _ t=>fT.drop n t
def fT.none_of:∀ {xs:ak V} {us:ak aj} {i:Nat},fT xs us->xs[i]?=none->us[i]?=none:=λ{xs us i} r e=>by have h1:=r.length;have h2:xs.length<=i:=List.getElem?_eq_none_iff.mp e;exact List.getElem?_eq_none_iff.mpr (by lia)
def p6:ao V->ao aj->Prop
 |some v,some u=>fW v u
 |none,none=>True
 |_,_=>False
def KV {κ:Type}:ak (κ×V)->ak (κ×aj)->Prop:=Paired λ(p:κ×V) (q:κ×aj)=>p.1=q.1/\fW p.2 q.2
def kV:Key->V
 |.inl i=>.int i
 |.inr x=>.str x
inductive HO where
 |lst (xs:List V)
 |tup (xs:List V)
 |dK (fw:List (Key×V))|dT (fw:List (List Key×V))
 |set (S:Int->Bool) (n:Nat)
 |ins (C dx:ai) (fs:List (Str×V))
 |own (x:ai)
 |xd (fs:List (Str×V))
 |met (f x:ai)
 |UK (lo hi:Int)
 |zM (o:Obj) (u:HO)
 |MN (ps:Array aj)
 |ext (φ:Heap->Prop)
abbrev Hp:=ai->ao HO
def upd (H:Hp)(a:ai)(o:HO):Hp:=λb=>if b=a then some o else H b
def fF {H:Hp}{a:ai}{o:HO}:upd H a o a=some o:=by delta upd;rw[aA rfl]
def fS {H:Hp}{a b:ai}{o:HO}(h:b≠a):upd H a o b=H b:=by delta upd;rw[aC h]
def Sg {H:Hp}{a b:ai}{o u:HO}(h:H a=some o)(h':H b=some u)(d:o≠u):a≠b:=by intro e;subst e;rw[h]at h';exact d (aU h')
def gb {H:Hp}{a b:ai}{o:HO}(h:H a=some o)(h':H b=none):a≠b:=by intro e;subst e;rw[h]at h';cases h'
section
variable (P:ae)(w:af)
def iS (H:Hp)(h:Heap)(a:ai):HO->Prop
 |.lst xs=>xs.length<=sizeLine/\∃(fE:ak aj) (n:Nat),fT xs fE/\h.get? a=some { cls:=.type "list",data:=.seq fE.toArray n}
 |.tup xs=>xs.length<=sizeLine/\∃ fE:ak aj,fT xs fE/\IsTup h a fE.toArray
 |.dK fw=>fw.length<=sizeLine/\(a==sysModules)=false/\∃ vs,KV fw vs/\h.DictOf (jq P w) a vs
 | .dT fw=>fw.length<=sizeLine/\(a==sysModules)=false/\∃ xs:ak (ak Key×ai×aj),
  Paired (λ(p:ak Key×V) (q:ak Key×ai×aj)=>p.1=q.1/\H q.2.1=some (.tup<|p.1.map kV)/\fW p.2 q.2.2) fw xs /\
  ∃ o es ep,h.get? a=some o/\o.ExactDict/\o.data=.dict es ep/\es.toList=xs.map (entryOfKey<|tupleKind<|jq P w)/\(xs.map (·.1)).Nodup
 |.set S n=>h.SetOf (intKind P w) a S n
 | .ins C dx fs=>H dx=some (.own a)/\fs.length<=1000/\dx≠a/\h.get? a=some (W.instObj C dx) /\
  ∃ mA,h.Ns1 dx mA/\(∀ f,p6 (fs.lookup f) (mA f))/\PySem.Within mA (fs.map (·.1))
 |.own _=>∃ o,h.get? a=some o
 |.xd fs=>∃ mA,h.Ns1 a mA/\∀ f,p6 (fs.lookup f) (mA f)
 |.UK lo hi=>∃ t u v,h.get? a=some { cls:=.type "range",data:=.fields #[.int lo t,.int hi u,.int 1 v]}
 |.zM o u=>h.get? a=some o/\iS H h a u
 |.MN ps=>h.get? a=some { cls:=.none,data:=.fields ps}
 |.met f x=>h.get? a=some (W.methodObj (.ref f)<|.ref x)
 |.ext φ=>φ h/\(∃ o,h.get? a=some o)/\∀ h1 h2:Heap,φ h1->(∀ o,h1.get? a=some o->h2.get? a=some o)->φ h2
def o6 (H:Hp)(h:Heap):Prop:=∀ a o,H a=some o->iS P w H h a o
end
section
variable {P:ae}{w:af}{H H':Hp}{h h':Heap}{a:ai}{o:HO}
theorem iS.lt (x:iS P w H h a o):a<h.objs.size:=by
 cases o with
 |lst xs=>obtain⟨_,_,_,_,e⟩:=x;exact iO e
 |tup xs=>obtain⟨_,_,_,p⟩:=x;exact p.lt
 |dK fw=>obtain⟨_,_,_,_,o,_,_,e,_⟩:=x;exact iO e
 |dT fw=>obtain⟨_,_,_,_,o,_,_,e,_⟩:=x;exact iO e
 |set S n=>obtain⟨o,_,_,_,e,_⟩:=x;exact iO e
 |ins C dx fs=>obtain⟨_,_,_,e,_⟩:=x;exact iO e
 |own y=>obtain⟨_,e⟩:=x;exact iO e
 |xd fs=>obtain⟨_,⟨_,_,_,e,_⟩,_⟩:=x;exact iO e
 |UK lo hi=>obtain⟨_,_,_,e⟩:=x;exact iO e
 |zM ob u=>obtain⟨e,_⟩:=x;exact iO e
 |MN ps=>exact iO (show h.get? a=some _ from x)
 |met f y=>exact iO (show h.get? a=some _ from x)
 |ext φ=>obtain⟨_,⟨_,e⟩,_⟩:=x;exact iO e
def Paired.ES {α β:Type}{F G:α->β->Prop}{l₁:ak α}{l₂:ak β}(h:Paired F l₁ l₂)(f:∀ a b,F a b->G a b):Paired G l₁ l₂:=by
 induction h with
 |nil=>exact .nil
 |cons r t ih=>exact .cons (f _ _ r) ih
def iS.wY (x:iS P w H h a o)(k:∀ b u,(b=a\/H b=some (.own a))->h.get? b=some u->h'.get? b=some u)
 (ho:∀ b,H b=some (.own a)->H' b=some (.own a)) (ht:∀ b xs,H b=some (.tup xs)->H' b=some (.tup xs)):iS P w H' h' a o:=by
 induction o with
 |lst xs=>obtain⟨z,fE,n,r,e⟩:=x;exact⟨z,fE,n,r,k _ _ (.inl rfl) e⟩
 |tup xs=>obtain⟨z,fE,r,ob,e,c⟩:=x;exact⟨z,fE,r,ob,k _ _ (.inl rfl) e,c⟩
 |dK fw=>obtain⟨z,y,vs,r,ob,es,ep,e,c⟩:=x;exact⟨z,y,vs,r,ob,es,ep,k _ _ (.inl rfl) e,c⟩
 | dT fw =>obtain⟨z,y,xs,r,ob,es,ep,e,c⟩:=x;exact⟨z,y,xs,Paired.ES r λp q z=>⟨z.1,ht _ _ z.2.1,z.2.2⟩,ob,es,ep,k _ _ (.inl rfl) e,c⟩
 |set S n=>obtain⟨ob,es,ep,t,e,c⟩:=x;exact⟨ob,es,ep,t,k _ _ (.inl rfl) e,c⟩
 | ins C dx fs =>obtain⟨d,z,ne,e,mA,⟨od,es,ep,e2,c⟩,r⟩:=x;exact⟨ho _ d,z,ne,k _ _ (.inl rfl) e,mA,⟨od,es,ep,k _ _ (.inr d) e2,c⟩,r⟩
 |own y=>obtain⟨ob,e⟩:=x;exact⟨ob,k _ _ (.inl rfl) e⟩
 |xd fs=>obtain⟨mA,⟨od,es,ep,e,c⟩,r⟩:=x;exact⟨mA,⟨od,es,ep,k _ _ (.inl rfl) e,c⟩,r⟩
 |UK lo hi=>obtain⟨t,u,v,e⟩:=x;exact⟨t,u,v,k _ _ (.inl rfl) e⟩
 |zM ob u ih=>obtain⟨e,q⟩:=x;exact⟨k _ _ (.inl rfl) e,ih q⟩
 | MN ps =>have e:h.get? a=some { cls:=.none,data:=.fields ps}:=x;exact k a _ (.inl rfl) e
 | met f y =>have e:h.get? a=some (W.methodObj (.ref f)<|.ref y):=x;exact k a _ (.inl rfl) e
 |ext φ=>obtain⟨p,⟨o,e⟩,st⟩:=x;exact⟨st _ _ p λo q=>k _ _ (.inl rfl) q,⟨o,k _ _ (.inl rfl) e⟩,st⟩
theorem o6.lt (x:o6 P w H h)(e:H a=some o):a<h.objs.size:=(x a o e).lt
def o6.fresh (x:o6 P w H h)(e:h.objs.size<=a):H a=none:=by
 cases q:H a with
 |none=>rfl
 |some u=>exact absurd (aG (x.lt q) e) (cb _)
def o6.iC (x:o6 P w H h)(k:∀ b u,h.get? b=some u->h'.get? b=some u):o6 P w H h':=λa o e =>(x a o e).wY (λb u _ q=>k b u q) (λ_ q=>q) λ_ _ q=>q
def o6.laid (x:o6 P w H h)(k:∀ b u,h.get? b=some u->h'.get? b=some u)(hp:h.objs.size<=a)(new:iS P w (upd H a o) h' a o):o6 P w (upd H a o) h':=λb u e=>by
 have hn:=x.fresh hp;by_cases hb:b=a
 .subst hb;rw[fF]at e;cases e;exact new
 .rw[fS hb]at e;exact(x b u e).wY (λc v _ q=>k c v q) (λc q=>by rw[fS (gb q hn)];exact q) λc xs q=>by rw[fS (gb q hn)];exact q
end
def Rd (H:Hp)(a:ai)(u:HO):Prop:=H a=some u\/∃ o,H a=some (.zM o u)
def Rd.ok {P:ae}{w:af}{H:Hp}{h:Heap}{a:ai}{u:HO}(r:Rd H a u)(x:o6 P w H h):iS P w H h a u:=by
 rcases r with r|⟨o,r⟩
 .exact x a u r
 .obtain⟨_,q⟩:=x a _ r;exact q
def Uj:ao HO->Prop
 |some (.lst _)=>True
 |some (.dK _)=>True
 |some (.dT _)=>True
 |some (.set _ _)=>True
 |some (.ins _ _ _)=>True
 |some (.ext _)=>True
 |_=>False
section
variable {P:ae}{w:af}{H:Hp}{h h':Heap}{x e:ai}{o':HO}
def o6.write (ok:o6 P w H h)(mu:Uj (H x))(he:e=x\/H e=some (.own x))(k:∀ b u,b≠e->h.get? b=some u->h'.get? b=some u)(Rj:∃ u,h'.get? e=some u)
 (new:iS P w (upd H x o') h' x o'):o6 P w (upd H x o') h':=λb u q=>by
 have Sd:∀ c y,H c=some (.own y)->c≠x:=λc y r z=>by subst z;rw[r]at mu;exact mu
 have VM:∀ c xs,H c=some (.tup xs)->c≠x:=λc xs r z=>by subst z;rw[r]at mu;exact mu
 by_cases hb:b=x
 .subst hb;rw[fF]at q;cases q;exact new
 .rw[fS hb]at q;by_cases Qj:b=e
  .have q':H b=some (.own x):=by
    rcases he with z|z
    .exact absurd (Qj.trans z) hb
    .rw[Qj];exact z
   rw[q]at q';cases q'
   obtain⟨v,hv⟩:=Rj
   exact⟨v,Qj▸hv⟩
  .refine(ok b u q).wY (λc v hc r=>k c v ?_ r) (λc r=>by rw[fS (Sd c b r)];exact r) λc xs r=>by rw[fS (VM c xs r)];exact r
   rcases hc with rfl|hc
   .exact Qj
   .rintro rfl;rcases he with z|z
    .exact Sd c b hc z
    .rw[hc]at z;cases z;exact hb rfl
end
structure Un (fs ex:List ai)(H H':Hp)(h h':Heap):Prop where
 keep:∀ b o,h.get? b=some o->H b=none->b∉fs->b∉ex->h'.get? b=some o
 slot:∀ b o,h.get? b=some o->H b=none->b∈fs->b∉ex->∃ sl,h'.get? b=some { o with slots:=sl}
 free:∀ b o,h.get? b=some o->H b=none->b∉ex->H' b=none
 there:∀ b o,h.get? b=some o->b∉ex->∃ o',h'.get? b=some o'
 u6:∀ b xs,H b=some (.tup xs)->H' b=some (.tup xs)
 uy:∀ b o u,H b=some (.zM o u)->H' b=some (.zM o u)
 u7:∀ b ps,H b=some (.MN ps)->∃ more,H' b=some (.MN<|ps++more)
section
variable {fs fs' ex ex':ak ai}{H H1 H2:Hp}{h h1 h2 h':Heap}{a x e:ai}{o:HO}
def Un.any (u:Un fs ex H H1 h h1){b:ai}{ob:Obj}(q:h.get? b=some ob)(n:H b=none)(hx:b∉ex):∃ sl,h1.get? b=some { ob with slots:=sl}:=by
 by_cases hb:b∈fs
 .exact u.slot b ob q n hb hx
 .exact⟨ob.slots,u.keep b ob q n hb hx⟩
def Un.iC (k:∀ b u,h.get? b=some u->h'.get? b=some u):Un fs ex H H h h' :=
 ⟨λb ob q _ _ _=>k b ob q,λb ob q _ _ _=>⟨ob.slots,k b ob q⟩,λ_ _ _ n _=>n,λb ob q _=>⟨ob,k b ob q⟩,λ_ _ q=>q,λ_ _ _ q=>q,λ_ ps q=>⟨#[],by rw[q];simp⟩⟩
def Un.refl:Un fs ex H H h h:=Un.iC λ_ _ q=>q
def Un.laid (k:∀ b u,h.get? b=some u->h'.get? b=some u)(hp:h.objs.size<=a)(hn:H a=none):Un fs ex H (upd H a o) h h' where
 keep:=λb u q _ _ _=>k b u q
 slot:=λb u q _ _ _=>⟨u.slots,k b u q⟩
 free:=λb u q n _=>by rw[fS (aw<|aG (iO q) hp)];exact n
 there:=λb u q _=>⟨u,k b u q⟩
 u6:=λb xs q=>by rw[fS (gb q hn)];exact q
 uy:=λb u xs q=>by rw[fS (gb q hn)];exact q
 u7:=λb ps q=>⟨#[],by rw[fS (gb q hn),q];simp⟩
def Un.write (mu:Uj (H x))(he:e=x\/H e=some (.own x))(k:∀ b u,b≠e->h.get? b=some u->h'.get? b=some u)(Rj:∃ u,h'.get? e=some u):Un fs ex H (upd H x o) h h':=by
 have hx:∀ b,H b=none->b≠x:=λb n z=>by subst z;rw[n]at mu;exact mu
 have hb:∀ b,H b=none->b≠e:=λb n z=>by
  subst z;rcases he with r|r
  .exact hx b n r
  .rw[n]at r;cases r
 have hm:∀ b u,H b=some u->¬ Uj (some u)->b≠x:=λb u q nm z=>by subst z;rw[q]at mu;exact nm mu
 refine⟨λb u q n _ _=>k b u (hb b n) q,λb u q n _ _=>⟨u.slots,k b u (hb b n) q⟩,λb u q n _=>by rw[fS (hx b n)];exact n,λb u q _=>?_,
  λb xs q=>by rw[fS (hm b _ q λz=>z)];exact q,λb u xs q=>by rw[fS (hm b _ q λz=>z)];exact q,λb ps q=>⟨#[],by rw[fS (hm b _ q λz=>z),q];simp⟩⟩
 by_cases Qj:b=e
 .subst Qj;exact Rj
 .exact⟨u,k b u Qj q⟩
end
def UB (h:Heap)(H:Hp):ak ai:=(List.range h.objs.size).filter λa=>(H a).isSome
def xV (h:Heap)(H:Hp):Heap:=W.hideAll h (UB h H)
def E9 (h:Heap)(H:Hp):(xV h H).objs.size=h.objs.size:=W.hideAll_size _ _
def Ib {h:Heap}{H:Hp}{b:ai}{o:Obj}(e:h.get? b=some o)(n:H b=none):(xV h H).get? b=some o :=
 W.hideAll_get _ e λhm=>by have q:(H b).isSome=true:=(List.mem_filter.mp hm).2;rw[n]at q;simp at q
def Lq {h:Heap}{H:Hp}{b:ai}{o:Obj}(e:(xV h H).get? b=some o):h.get? b=some o/\H b=none:=by
 have e':h.get? b=some o:=W.of_hideAll (UB h H) e;refine⟨e',?_⟩;cases q:H b with
 |none=>rfl
 | some x =>have hm:b∈UB h H:=List.mem_filter.mpr ⟨List.mem_range.mpr<|iO e',by simp[q]⟩;have z:(xV h H).get? b=none:=W.hideAll_none (UB h H) hm;rw[z]at e;cases e
def Mw (g h:Heap)(L:ai):ak (ai×Obj):=(List.range h.objs.size).filterMap λa=>if a=L\/(g.get? a).isSome=true then none else(h.get? a).map λo=>(a,o)
def rest (g h:Heap)(L d:ai):ak (ai×Obj):=(Mw g h L).filter λp=>decide (p.1≠d)
structure Mod (K:aa)(mg:Str->Option aj)(fg:Heap):Prop where
 Ss:K.In fg
 glob:fg.Ns mainGlobals mg
 blt:∃ mb,fg.Ns builtinsNs mb/\∀ x:Str,x ≠ "__name__"->mb x=bootBuiltins x
 nolimit:fg.NoLimit
structure Cx where
 prog:ae
 w:af
 K:aa
 mg:Str->Option aj
 fg:Heap
 A:Around
 N:List Str
 s₀:ah
 H₀:Hp
 env:Env
 fC:List Env
 stack:List Env
 ex:List ai
 fn:Str->Bool
 gN:Bool
 pn:List (ai×Obj)
 xe:aj->ah->Prop
def xX (l:ak Env):ak ai:=l.filterMap (·.frame)
abbrev Cx.fs (X:Cx):ak ai:=xX X.fC
def Uc (sc:Scope)(x:Str):Prop:=sc.names.lookup x=some .local\/sc.names.lookup x=some .cell\/sc.names.lookup x=some .free
def Loc (sc:Scope)(x:Str):Prop:=sc.names.lookup x=some .local\/sc.names.lookup x=some .cell
def Look (env:Env)(h:Heap)(m:Str->ao aj)(x:Str)(u:aj):Prop :=
 (env.kindOf x=some .local/\m x=some u)\/((env.kindOf x=some .cell\/env.kindOf x=some .free)/\∃ c,env.cells.lookup x=some c/\h.IsCell c (some u))
structure Cx.Ok (X:Cx):Prop where
 mod:Mod X.K X.mg X.fg
 kind:X.env.scope.kind=.function
 glob:X.env.globals=mainGlobals
 blt:X.env.builtins=builtinsNs
 above:X.s₀.heap.objs.size<=X.env.locals
 inj:∀ x y c,X.env.cells.lookup x=some c->X.env.cells.lookup y=some c->x=y
 has:∀ x,(X.env.kindOf x=some .cell\/X.env.kindOf x=some .free)->∃ c,X.env.cells.lookup x=some c
 T6:∀ x c,X.fn x=true->X.env.cells.lookup x=some c->X.s₀.heap.objs.size<=c
 hd:X.gN=true->X.A.handled=none
 frames:X.A.frames=some X.stack
 UI:X.stack=X.fC\/(X.stack=X.env::X.fC/\X.env.frame=some X.env.locals)
 Rp:∀ b∈X.ex,b≠X.env.locals/\∀ x c,X.env.cells.lookup x=some c->c≠b
 bs:∀ b o,X.fg.get? b=some o->X.s₀.heap.get? b=some o/\X.H₀ b=none
 FJ:X.fg.objs.size<=X.s₀.heap.objs.size
 EM:∀ b o,X.fg.get? b=some o->b∉X.ex
 Fl:∀ b∈X.ex,b∉X.fs
 qz:X.s₀.heap.FunFrames X.fg X.fC
 NB:∀ b∈X.fs,X.H₀ b=none
structure Inv (X:Cx)(fb:List (ai×Obj))(σ:List (Option V))(H:Hp)(s:ah):Prop where
 ok:X.Ok
 os:s.os=X.s₀.os
 bare:AllBare s.gens
 fg:Un X.fs X.ex X.H₀ H X.s₀.heap s.heap
 loc:∃ m,s.heap.Ns X.env.locals m/\∀(i:Nat) (x:Str) (v:V),X.N[i]?=some x->σ[i]?=some (some v)->Uc X.env.scope x->∃ u,fW v u/\Look X.env s.heap m x u
 cell:∀ x c,X.env.cells.lookup x=some c->∃ v,s.heap.IsCell c v
 free:H X.env.locals=none
 nM:∀ x c,X.env.cells.lookup x=some c->H c=none
 pin:∀ p∈X.pn++fb,s.heap.get? p.1=some p.2/\H p.1=none/\p.1≠X.env.locals/\p.1∉X.fs/\∀ v,p.2.data≠.cell v
 gT:o6 X.prog X.w H s.heap
 len:σ.length=X.N.length
section
variable {X:Cx}{fb:ak (ai×Obj)}{σ:ak (ao V)}{H H':Hp}{s:ah}{h':Heap}
def Cx.Ok.VP (ok:X.Ok){b:ai}{o:Obj}(e:X.fg.get? b=some o):b∉X.fs:=λhb=>by have:=(ok.qz.mem hb).1;rw[e]at this;cases this
theorem Inv.bs (I:Inv X fb σ H s):∀ b o,X.fg.get? b=some o->s.heap.get? b=some o/\H b=none:=λb o e =>⟨I.fg.keep b o (I.ok.bs b o e).1 (I.ok.bs b o e).2 (I.ok.VP e)<|I.ok.EM b o e,I.fg.free b o (I.ok.bs b o e).1 (I.ok.bs b o e).2<|I.ok.EM b o e⟩
def Inv.bk (I:Inv X fb σ H s):∀ b o,X.fg.get? b=some o->s.heap.get? b=some o:=λb o e=>(I.bs b o e).1
theorem Inv.mod (I:Inv X fb σ H s):Mod X.K X.mg X.fg:=I.ok.mod
def Inv.sL (I:Inv X fb σ H s):X.K.In s.heap:=I.ok.mod.Ss.keeps I.bk
theorem Inv.lt (I:Inv X fb σ H s):X.env.locals<s.heap.objs.size:=let ⟨_,hn,_⟩:=I.loc;hn.lt
def Inv.sz (I:Inv X fb σ H s):X.s₀.heap.objs.size<=s.heap.objs.size:=aK I.ok.above (bZ I.lt)
def Inv.VO (I:Inv X fb σ H s){a:ai}(h:s.heap.objs.size<=a):a∉X.fs:=λhb=>by obtain⟨_,o,ho,_⟩:=I.ok.qz.mem hb;exact absurd (aG (iO ho)<|aK I.sz h) (cb _)
def Inv.QI (I:Inv X fb σ H s):∀ x c,X.env.cells.lookup x=some c->c≠X.env.locals:=λx c e z=>by refine nY (I.cell x c e) λv o ho hd=>?_;obtain⟨m,⟨o',es,ep,Qd,Ic,_⟩,_⟩:=I.loc;rw[z,Qd]at ho;cases ho;rw[Ic]at hd;cases hd
theorem Inv.qz (I:Inv X fb σ H s):s.heap.FunFrames X.fg X.fC:=by
 have all:∀(l:ak Env),(∀ b∈xX l,b∈X.fs)->X.s₀.heap.FunFrames X.fg l->s.heap.FunFrames X.fg l:=by
  intro l;induction l with
  |nil=>intro _ _;trivial
  | cons env r ih =>intro hs hl;obtain⟨hk,⟨L,o,hf,hn,ho,hd⟩,hr⟩:=hl;have hL:L∈X.fs:=hs L (by delta xX;rw[cG,hf];exact aH);obtain⟨sl,e⟩:=I.fg.slot L o ho (I.ok.NB L hL) hL λz=>I.ok.Fl L z hL;exact⟨hk,⟨L,_,hf,hn,e,hd⟩,ih (λb hb=>hs b (by delta xX;rw[cG,hf];exact mQ _ hb)) hr⟩
 exact all X.fC (λ_ hb=>hb) I.ok.qz
theorem Inv.stack (I:Inv X fb σ H s):s.heap.FunFrames X.fg X.stack:=by
 rcases I.ok.UI with e|⟨e,hf⟩
 .rw[e];exact I.qz
 .rw[e];refine fj I.loc λm hn _=>?_;refine .cons (by rw[I.ok.kind];decide) hf hn ?_ I.qz;exact Heap.get?_none_of_le (aK I.ok.FJ I.ok.above)
def Inv.tS (I:Inv X fb σ H s):∀ b∈xX X.stack,b∈X.env.locals::X.fs:=λb hb=>by
 rcases I.ok.UI with e|⟨e,hf⟩
 .rw[e]at hb;exact mQ _ hb
 .rw[e]at hb;delta xX at hb;rw[cG,hf]at hb;exact hb
def Inv.qd (I:Inv X fb σ H s):∀ b∈xX X.stack,H b=none:=λb hb=>by
 rcases List.mem_cons.mp (I.tS b hb)with e|hb
 .rw[e];exact I.free
 .obtain⟨_,o,ho,_⟩:=I.ok.qz.mem hb;exact I.fg.free b o ho (I.ok.NB b hb) λz=>I.ok.Fl b z hb
def Inv.step {g':Array GenState}{t':Nat}{d':Drawn}{ch:ak ai}(I:Inv X fb σ H s)
 (Fd:∀ b∈ch,(b∈X.ex\/X.s₀.heap.objs.size<=b)/\b≠X.env.locals/\(∀ x c,X.env.cells.lookup x=some c->c≠b)/\∀ p∈X.pn++fb,p.1≠b)
 (keep:∀ b o,b≠X.env.locals->b∉X.fs->b∉ch->s.heap.get? b=some o->H b=none->h'.get? b=some o)
 (slot:∀ b o,b≠X.env.locals->b∈X.fs->b∉ch->s.heap.get? b=some o->H b=none->∃ sl,h'.get? b=some { o with slots:=sl}) (free:∀ b o,b∉ch->s.heap.get? b=some o->H b=none->H' b=none)
 (there:∀ b o,b∉ch->s.heap.get? b=some o->∃ o',h'.get? b=some o')
 (u6:∀ b xs,H b=some (.tup xs)->H' b=some (.tup xs)) (uy:∀ b o u,H b=some (.zM o u)->H' b=some (.zM o u)) (u7:∀ b ps,H b=some (.MN ps)->∃ more,H' b=some (.MN<|ps++more))
 (ns:∀ m,s.heap.Ns X.env.locals m->h'.Ns X.env.locals m) (gT:o6 X.prog X.w H' h') (hg:AllBare g'):
 Inv X fb σ H' {s with heap:=h',gens:=g',drawn:=d',toks:=t'}:=by
 have Yd:∀ b o,X.s₀.heap.get? b=some o->b≠X.env.locals:=λb o e=>aw<|aG (iO e) I.ok.above;have Aw:∀ b o,X.s₀.heap.get? b=some o->b∉X.ex->b∉ch:=λb o e hx hb=>by
  rcases(Fd b hb).1 with z|z
  .exact hx z
  .exact absurd (aG (iO e) z) (cb _)
 have cellK:∀ x c,X.env.cells.lookup x=some c->∀ v,s.heap.IsCell c v->h'.IsCell c v:=λx c e v h_=>fj h_ λo ho hd=>by
  have Sh:c∉ch:=λz=>(Fd c z).2.2.1 x c e rfl;by_cases hc:c∈X.fs
  .obtain⟨sl,q⟩:=slot c o (I.QI x c e) hc Sh ho<|I.nM x c e;exact⟨_,q,hd⟩
  .exact⟨o,keep c o (I.QI x c e) hc Sh ho<|I.nM x c e,hd⟩
 refine⟨I.ok,I.os,hg,⟨λb o e n hb hx=>?_,λb o e n hb hx=>?_,λb o e n hx=>?_,λb o e hx=>?_,λb xs e=>u6 b xs<|I.fg.u6 b xs e,λb o xs e=>uy b o xs<|I.fg.uy b o xs e,λb ps e=>?_⟩,?_,λx c e=>?_,?_,λx c e=>?_,λp hp=>?_,gT,I.len⟩
 .exact keep b o (Yd b o e) hb (Aw b o e hx) (I.fg.keep b o e n hb hx) (I.fg.free b o e n hx)
 .obtain⟨sl,e1⟩:=I.fg.slot b o e n hb hx;obtain⟨VB,e2⟩:=slot b _ (Yd b o e) hb (Aw b o e hx) e1<|I.fg.free b o e n hx;exact⟨VB,e2⟩
 .obtain⟨o',e1⟩:=I.fg.there b o e hx;exact free b o' (Aw b o e hx) e1 (I.fg.free b o e n hx)
 .obtain⟨o',e1⟩:=I.fg.there b o e hx;exact there b o' (Aw b o e hx) e1
 .obtain⟨m1,e1⟩:=I.fg.u7 b ps e;obtain⟨m2,e2⟩:=u7 b _ e1;exact⟨m1++m2,by rw[e2,Array.append_assoc]⟩
 .refine fj I.loc λm hn hl=>?_;refine⟨m,ns m hn,λi x v e1 e2 e3=>?_⟩;refine fj (hl i x v e1 e2 e3) λu r l=>?_;refine⟨u,r,?_⟩;rcases l with l|⟨k,c,e,z⟩
  .exact .inl l
  .exact .inr ⟨k,c,e,cellK x c e _ z⟩
 .obtain⟨v,z⟩:=I.cell x c e;exact⟨v,cellK x c e v z⟩
 .obtain⟨m,⟨o,_,_,ho,_⟩,_⟩:=I.loc;exact free _ o (λz=>(Fd _ z).2.1 rfl) ho I.free
 .refine nY (I.cell x c e) λv o ho hd=>?_;exact free c o (λz=>(Fd c z).2.2.1 x c e rfl) ho (I.nM x c e)
 .refine L6 (I.pin p hp) λe n ne nf d=>?_;have Sh:p.1∉ch:=λz=>(Fd p.1 z).2.2.2 p hp rfl;exact⟨keep p.1 p.2 ne nf Sh e n,free p.1 p.2 Sh e n,ne,nf,d⟩
def Inv.un {t':Nat}(I:Inv X fb σ H s)(u:Un X.fs [] H H' s.heap h')(gT:o6 X.prog X.w H' h'):Inv X fb σ H' { s with heap:=h',toks:=t'}:=by
 obtain⟨m,⟨o,es,ep,ho,r⟩,_⟩:=id I.loc;obtain⟨sl,hL⟩:=u.any ho I.free (by simp);exact I.step (g':=s.gens) (d':=s.drawn) (ch:=[]) (λ_ z=>nomatch z) (λb o _ hb _ e n=>u.keep b o e n hb<|by simp) (λb o _ hb _ e n=>u.slot b o e n hb<|by simp) (λb o _ e n=>u.free b o e n<|by simp) (λb o _ e=>u.there b o e<|by simp) u.u6 u.uy u.u7 (λm' hm=>by
  refine IU hm λo' W4 W6 Qd r'=>?_
  rw[ho]at Qd;cases Qd
  exact⟨_,W4,W6,hL,r'⟩) gT I.bare
def Inv.call {g':Array GenState}{t':Nat}{d':Drawn}{ch:ak ai}(I:Inv X fb σ H s)(u:Un (xX X.stack) ch H H' s.heap h')(gT:o6 X.prog X.w H' h')(hg:AllBare g')
 (Fd:∀ b∈ch,(b∈X.ex\/X.s₀.heap.objs.size<=b)/\b≠X.env.locals/\(∀ x c,X.env.cells.lookup x=some c->c≠b)/\∀ p∈X.pn++fb,p.1≠b):
 Inv X fb σ H' {s with heap:=h',gens:=g',drawn:=d',toks:=t'}:=by
 obtain⟨m,⟨o,es,ep,ho,r⟩,_⟩:=id I.loc;obtain⟨sl,hL⟩:=u.any ho I.free λz=>(Fd _ z).2.1 rfl;exact I.step (ch:=ch) Fd (λb o hL hb hc e n=>u.keep b o e n (λz=>(List.mem_cons.mp<|I.tS b z).elim hL hb) hc) (λb o _ _ hc e n=>u.any e n hc) (λb o hc e n=>u.free b o e n hc) (λb o hc e=>u.there b o e hc) u.u6 u.uy u.u7 (λm' hm=>by
  refine IU hm λo' W4 W6 Qd r'=>?_
  rw[ho]at Qd;cases Qd
  exact⟨_,W4,W6,hL,r'⟩) gT hg
def Inv.turned {t':Nat}{it:ai}(I:Inv X fb σ H s)(k:∀ b o,b≠it->s.heap.get? b=some o->h'.get? b=some o)(hn:H it=none)(hL:it≠X.env.locals)
 (h1:it∈X.ex\/X.s₀.heap.objs.size<=it) (h2:∀ x c,X.env.cells.lookup x=some c->c≠it) (h3:∀ p∈X.pn++fb,p.1≠it):Inv X fb σ H {s with heap:=h',toks:=t'}:=by
 have Yc:∀ b u,H b=some u->b≠it:=λb u e z=>by rw[z,hn]at e;cases e
 refine I.step (g':=s.gens) (d':=s.drawn) (ch:=[it]) (λb hb=>?_) (λb o _ _ hc e _=>k b o (λz=>hc<|by simp[z]) e) (λb o _ _ hc e _=>⟨o.slots,k b o (λz=>hc<|by simp[z]) e⟩) (λ_ _ _ _ n=>n)
  (λb o hc e=>⟨o,k b o (λz=>hc<|by simp[z]) e⟩) (λ_ _ e=>e) (λ_ _ _ e=>e) (λb ps e=>⟨#[],by rw[e];simp⟩) (λm hm=>?_) (λb u e=>?_) I.bare
 .have e:b=it:=by simpa using hb
  subst e
  exact⟨h1,hL,h2,h3⟩
 .refine IU hm λo es ep ho r=>?_;exact⟨o,es,ep,k _ o (bJ hL) ho,r⟩
 .refine(I.gT b u e).wY (λc v hc q=>k c v ?_ q) (λ_ q=>q) λ_ _ q=>q;rcases hc with z|z
  .rw[z];exact Yc b u e
  .exact Yc c _ z
def Inv.tok (I:Inv X fb σ H s)(t:Nat):Inv X fb σ H {s with toks:=t}:=I.un (h':=s.heap) (t':=t) Un.refl I.gT
theorem Inv.iC {t':Nat}(I:Inv X fb σ H s)(k:∀ b u,s.heap.get? b=some u->h'.get? b=some u):Inv X fb σ H {s with heap:=h',toks:=t'}:=I.un (Un.iC k) (I.gT.iC k)
theorem Inv.laid {a:ai}{o:HO}{t':Nat}(I:Inv X fb σ H s)(k:∀ b u,s.heap.get? b=some u->h'.get? b=some u)(hp:s.heap.objs.size<=a)(new:iS X.prog X.w (upd H a o) h' a o):
 Inv X fb σ (upd H a o) {s with heap:=h',toks:=t'}:=I.un (Un.laid k hp<|I.gT.fresh hp) (I.gT.laid k hp new)
theorem Inv.write {x e:ai}{o:HO}{t':Nat}(I:Inv X fb σ H s)(mu:Uj (H x))(he:e=x\/H e=some (.own x))(k:∀ b u,b≠e->s.heap.get? b=some u->h'.get? b=some u)(Rj:∃ u,h'.get? e=some u)
 (new:iS X.prog X.w (upd H x o) h' x o):Inv X fb σ (upd H x o) {s with heap:=h',toks:=t'}:=I.un (Un.write mu he k Rj) (I.gT.write mu he k Rj new)
def Inv.weak {iB:ak (ao V)}(I:Inv X fb σ H s)(hl:iB.length=σ.length)(w:∀(i:Nat) v,iB[i]?=some (some v)->σ[i]?=some (some v)):Inv X fb iB H s :=
 ⟨I.ok,I.os,I.bare,I.fg,let ⟨m,hn,oX⟩:=I.loc;⟨m,hn,λi x v e1 e2 e3=>oX i x v e1 (w i v e2) e3⟩,I.cell,I.free,I.nM,I.pin,I.gT,hl.trans I.len⟩
def Inv.nh {pins':ak (ai×Obj)}(I:Inv X fb σ H s)(h:∀ p∈pins',s.heap.get? p.1=some p.2/\H p.1=none/\p.1≠X.env.locals/\p.1∉X.fs/\∀ v,p.2.data≠.cell v):Inv X pins' σ H s :=
 ⟨I.ok,I.os,I.bare,I.fg,I.loc,I.cell,I.free,I.nM,λp hp=>(List.mem_append.mp hp).elim (λz=>I.pin p<|b9 _ z)<|h p,I.gT,I.len⟩
def zh {N:ak Str}(hN:N.Nodup){i j:Nat}{x:Str}(a:N[i]?=some x)(b:N[j]?=some x):i=j:=by obtain⟨h1,e1⟩:=kP a;obtain⟨h2,e2⟩:=kP b;exact(List.getElem_inj hN).mp (e1.trans e2.symm)
def vK {M:Model}{A:Around}{E:aj->ah->Prop}{i:Nat}{x:Str}{v:V}{u:aj}{Q:Unit->ah->Prop}(I:Inv X fb σ H s)(hN:X.N.Nodup)(hi:X.N[i]?=some x)(hx:Loc X.env.scope x)(r:fW v u)
 (h:∀ s',Inv X fb (σ.set i<|some v) H s'->(∃ a,Heap.SameBut a s.heap s'.heap/\(a=X.env.locals\/X.env.cells.lookup x=some a))->Q () s') (hf:X.fn x=true\/X.env.scope.names.lookup x=some .local:=by first|exact .inl rfl|exact .inr rfl|assumption):wpAny M A (storeName X.env x u) Q E s:=by
 refine fj (id I.loc) λm hn hl=>?_;have WL:(X.env.scope.kind==.class||(X.env.scope.kind==.module&&X.env.locals != X.env.globals))=false:=by rw[I.ok.kind];rfl
 have SJ:i<σ.length:=by rw[I.len];exact(kP hi).1
 have QI:=I.QI;have tracked:∀ {a:ai} {h':Heap},(∃ o,s.heap.get? a=some o/\H a=none)->Heap.SameBut a s.heap h'->o6 X.prog X.w H h':=λ{a h'} ha hs b ob e=>by
  obtain⟨_,_,Ny⟩:=ha;refine(I.gT b ob e).wY (λc w' hc q=>(hs.2 c ?_).trans q) (λ_ q=>q) λ_ _ q=>q;rintro rfl;rcases hc with rfl|hc
  .rw[Ny]at e;cases e
  .rw[Ny]at hc;cases hc
 rcases hx with hk|hk
 .refine wpAny_storeName_local hk hn (λh' Wn hs=>?_) WL;obtain⟨oL,_,_,hoL,_⟩:=id hn;refine h _ ⟨I.ok,I.os,I.bare,⟨λb o e n hb hx=>?_,λb o e n hb hx=>?_,I.fg.free,λb o e hx=>?_,I.fg.u6,I.fg.uy,I.fg.u7⟩,⟨_,Wn,λj y v' e1 e2 e3=>?_⟩,λy c e=>?_,I.free,I.nM,λp hp=>?_,tracked ⟨oL,hoL,I.free⟩ hs,by simpa using I.len⟩ ⟨_,hs,.inl rfl⟩
  .exact(hs.2 b<|aw<|aG (iO e) I.ok.above).trans (I.fg.keep b o e n hb hx)
  .obtain⟨sl,e1⟩:=I.fg.slot b o e n hb hx;exact⟨sl,(hs.2 b<|aw<|aG (iO e) I.ok.above).trans e1⟩
  .obtain⟨o',e1⟩:=I.fg.there b o e hx;exact⟨o',(hs.2 b<|aw<|aG (iO e) I.ok.above).trans e1⟩
  .by_cases hj:j=i
   .subst hj;rw[hi]at e1;cases e1;rw[aO SJ]at e2;cases e2;exact⟨u,r,.inl ⟨hk,by simp⟩⟩
   .rw[aW (bJ hj)]at e2;refine fj (hl j y v' e1 e2 e3) λu' r' q=>?_;refine⟨u',r',?_⟩;rcases q with⟨k,e⟩|⟨k,c,e,z⟩
    .refine .inl ⟨k,?_⟩;have:y≠x:=λe=>hj<|zh hN e1<|e▸hi;simp[this,e]
    .exact .inr ⟨k,c,e,z.sameBut hs<|QI y c e⟩
  .obtain⟨w',z⟩:=I.cell y c e;exact⟨w',z.sameBut hs<|QI y c e⟩
  .refine L6 (I.pin p hp) λe n ne nf d=>?_;exact⟨(hs.2 p.1 ne).trans e,n,ne,nf,d⟩
 .have Wz:X.fn x=true:=by
   rcases hf with z|z
   .exact z
   .rw[z]at hk;cases hk
  obtain⟨c,hc⟩:=I.ok.has x (.inl hk)
  obtain⟨w',z⟩:=I.cell x c hc
  refine wpAny_storeName_cell I.ok.kind hk hc z (λh' pT hs=>?_)
  refine fj (id z) λoc Yp Wl=>?_
  refine h {s with heap:=h'} ⟨I.ok,I.os,I.bare,⟨λb o e n hb hx=>?_,λb o e n hb hx=>?_,I.fg.free,λb o e hx=>?_,I.fg.u6,I.fg.uy,I.fg.u7⟩,⟨m,hn.sameBut hs<|bJ<|QI x c hc,λj y v' e1 e2 e3=>?_⟩,λy c' e=>?_,I.free,I.nM,λp hp=>?_,tracked ⟨oc,Yp,I.nM x c hc⟩ hs,by simpa using I.len⟩ ⟨c,hs,.inr hc⟩
  .exact(hs.2 b<|aw<|aG (iO e)<|I.ok.T6 x c Wz hc).trans (I.fg.keep b o e n hb hx)
  .obtain⟨sl,e1⟩:=I.fg.slot b o e n hb hx;exact⟨sl,(hs.2 b<|aw<|aG (iO e)<|I.ok.T6 x c Wz hc).trans e1⟩
  .obtain⟨o',e1⟩:=I.fg.there b o e hx;exact⟨o',(hs.2 b<|aw<|aG (iO e)<|I.ok.T6 x c Wz hc).trans e1⟩
  .by_cases hj:j=i
   .subst hj;rw[hi]at e1;cases e1;rw[aO SJ]at e2;cases e2;exact⟨u,r,.inr ⟨.inl hk,c,hc,pT⟩⟩
   .rw[aW (bJ hj)]at e2;refine fj (hl j y v' e1 e2 e3) λu' r' q=>?_;refine⟨u',r',?_⟩;rcases q with q|⟨k,c',e,z'⟩
    .exact .inl q
    .refine .inr ⟨k,c',e,z'.sameBut hs ?_⟩;rintro rfl;exact hj (zh hN e1<|I.ok.inj _ _ _ e hc▸hi)
  .by_cases Rl:c'=c
   .subst Rl;exact⟨_,pT⟩
   .obtain⟨w2,z2⟩:=I.cell y c' e;exact⟨w2,z2.sameBut hs Rl⟩
  .refine L6 (I.pin p hp) λe n ne nf d=>?_;refine⟨(hs.2 p.1 ?_).trans e,n,ne,nf,d⟩;intro q;rw[q,Yp]at e;have q':oc=p.2:=aU e;exact d w' (q'▸Wl)
def tR {M:Model}{A:Around}{E:aj->ah->Prop}{i:Nat}{x:Str}{v:V}{u:aj}{Q:Unit->ah->Prop}(I:Inv X fb σ H s)(hN:X.N.Nodup)(hi:X.N[i]?=some x)(hx:Loc X.env.scope x)(r:fW v u)
 (h:∀ s',Inv X fb (σ.set i<|some v) H s'->Q () s') (hf:X.fn x=true\/X.env.scope.names.lookup x=some .local:=by first|exact .inl rfl|exact .inr rfl|assumption):wpAny M A (storeName X.env x u) Q E s:=
 vK I hN hi hx r (λs' I' _=>h s' I') hf
def Inv.Jv {s':ah}{ch:ak ai}(I:Inv X fb σ H s)(ho:s'.os=s.os)(u:Un (xX X.stack) ch H H' s.heap s'.heap)(gT:o6 X.prog X.w H' s'.heap)(hg:AllBare s'.gens)
 (Fd:∀ b∈ch,(b∈X.ex\/X.s₀.heap.objs.size<=b)/\b≠X.env.locals/\(∀ x c,X.env.cells.lookup x=some c->c≠b)/\∀ p∈X.pn++fb,p.1≠b):Inv X fb σ H' s':=by
 obtain⟨h',g',d',t',o'⟩:=s';have e:o'=s.os:=ho;subst e;exact I.call (g':=g') (t':=t') (d':=d') u gT hg Fd
end
abbrev XK:=aj->ao ai->Hp->Prop
abbrev St:=ak (ao V)
abbrev VK:=V->Hp->Prop
abbrev TE:=St->Hp->VK->Prop
abbrev TT:=St->Hp->(Bool->Hp->Prop)->Prop
abbrev TA:=St->Hp->(ak V->Hp->Prop)->Prop
structure Ends where
 nx:St->Hp->Prop
 rt:VK
 bk:St->Hp->Prop:=λ_ _=>False
 ct:St->Hp->Prop:=λ_ _=>False
abbrev TS:=Ends->St->Hp->Prop
def EP (X:Cx)(fb:ak (ai×Obj))(σ:St)(Q:VK)(u:aj)(s':ah):Prop:=∃ v H',Inv X fb σ H' s'/\fW v u/\Q v H'
def TP (X:Cx)(fb:ak (ai×Obj))(σ:St)(Q:Bool->Hp->Prop)(b:Bool)(s':ah):Prop:=∃ H',Inv X fb σ H' s'/\Q b H'
def AP (X:Cx)(fb:ak (ai×Obj))(σ:St)(Q:ak V->Hp->Prop)(us:ak aj)(s':ah):Prop:=∃ vs H',Inv X fb σ H' s'/\fT vs us/\Q vs H'
def SP (X:Cx)(fb:ak (ai×Obj))(D:Ends)(f:Flow)(s':ah):Prop :=
 match f with
 |.next=>∃ iB H',Inv X fb iB H' s'/\D.nx iB H'
 |.brk=>∃ iB H',Inv X fb iB H' s'/\D.bk iB H'
 |.cont=>∃ iB H',Inv X fb iB H' s'/\D.ct iB H'
 |.ret u=>∃ v iB H',Inv X fb iB H' s'/\fW v u/\D.rt v H'
def PE (X:Cx)(e:Expr)(t:TE):Prop :=
 ∀(fb:ak (ai×Obj)) (s:ah) (σ:St) (H:Hp) (Q:VK),Inv X fb σ H s->t σ H Q->wpAny (model X.prog X.w) X.A (eval e X.env) (EP X fb σ Q) X.xe s
def PT (X:Cx)(e:Expr)(t:TT):Prop :=
 ∀(fb:ak (ai×Obj)) (s:ah) (σ:St) (H:Hp) (Q:Bool->Hp->Prop),Inv X fb σ H s->t σ H Q->wpAny (model X.prog X.w) X.A (isTrue e X.env<|eval e X.env) (TP X fb σ Q) X.xe s
def PW (X:Cx)(e:Expr)(t:TT):Prop :=
 ∀(whole:Sem aj) (fb:ak (ai×Obj)) (s:ah) (σ:St) (H:Hp) (Q:Bool->Hp->Prop),Inv X fb σ H s->t σ H Q->wpAny (model X.prog X.w) X.A (isTrue e X.env whole) (TP X fb σ Q) X.xe s
def PW.pt {X:Cx}{e:Expr}{t:TT}(h:PW X e t):PT X e t:=h _
def PA (X:Cx)(es:ak Expr)(t:TA):Prop :=
 ∀(pos:Pos) (fb:ak (ai×Obj)) (s:ah) (σ:St) (H:Hp) (Q:ak V->Hp->Prop),Inv X fb σ H s->t σ H Q->wpAny (model X.prog X.w) X.A (spliced<|backTo pos<|starEach es X.env) (AP X fb σ Q) X.xe s
def PS (X:Cx)(st:Stmt)(t:TS):Prop :=
 ∀(fb:ak (ai×Obj)) (s:ah) (σ:St) (H:Hp) (D:Ends),Inv X fb σ H s->t D σ H->wpAny (model X.prog X.w) X.A (exec st X.env) (SP X fb D) X.xe s
def yt (X:Cx)(st:ak Stmt)(t:TS):Prop :=
 ∀(fb:ak (ai×Obj)) (s:ah) (σ:St) (H:Hp) (D:Ends),Inv X fb σ H s->t D σ H->wpAny (model X.prog X.w) X.A (execs st X.env) (SP X fb D) X.xe s
def hZ {α:Type}{t:Sem α}{Q Q':α->ah->Prop}{M:Model}{A:Around}{E:aj->ah->Prop}{s:ah}(h:wpAny M A t Q E s)(hQ:∀ a s,Q a s->Q' a s):wpAny M A t Q' E s:=bq h hQ λ_ _ x=>x
section
variable {X:Cx}
def bin {a b:Expr}{ta tb:TE}(ha:PE X a ta)(hb:PE X b tb){fb:ak (ai×Obj)}{s:ah}{σ:St}{H:Hp}{R:V->V->Hp->Prop}(I:Inv X fb σ H s)(h:ta σ H λx H1=>tb σ H1 λy H2=>R x y H2)
 {α:Type} {Q:α->ah->Prop} {f:aj->aj->Sem α}
 (hf:∀ v u s2 x y H2,Inv X fb σ H2 s2->fW x v->fW y u->R x y H2->wpAny (model X.prog X.w) X.A (f v u) Q X.xe s2):
 wpAny (model X.prog X.w) X.A (eval a X.env) (λv s₁=>wpAny (model X.prog X.w) X.A (eval b X.env) (λu s₂=>wpAny (model X.prog X.w) X.A (f v u) Q X.xe s₂) X.xe s₁) X.xe s:=by
 refine hZ (ha fb s σ H _ I h) λv s1 h_=>fZ h_ λx H1 I1 r1 q1=>?_;refine hZ (hb fb s1 σ H1 _ I1 q1) λu s2 h_=>fZ h_ λy H2 I2 r2 q2=>?_;exact hf v u s2 x y H2 I2 r1 r2 q2
def Vi (i:Nat):TE:=λσ H Q=>∃ v,σ[i]?=some (some v)/\Q v H
def tC (v:V):TE:=λ_ H Q=>Q v H
def G7 {i:Nat}{x:Str}{pos:Pos}(hN:X.N[i]?=some x)(hv:Uc X.env.scope x)(hd:(x==("__debug__" : Str))=false:=by decide)(BA:(x==("__classdict__" : Str))=false:=by decide):PE X (.Name x pos) (Vi i):=by
 intro fb s σ H Q I h;refine fj h λv e h=>?_;refine fj I.loc λm hn hl=>?_;refine fj (hl i x v hN e hv) λu r l=>?_;have fin:EP X fb σ Q u s:=⟨v,H,I,r,h⟩;rcases l with⟨hk,hm⟩|⟨hk,c,hc,sv⟩
 .exact wpAny_Name (wpAny_loadName_local I.ok.kind hk hn hm fin) hd
 .rcases hk with hk | hk
  .exact wpAny_Name (wpAny_loadName_cell I.ok.kind hk hc sv fin) hd
  .exact wpAny_Name (wpAny_loadName_free I.ok.kind hk hc sv fin BA) hd
def gI {i j pos}:PE X (.Constant (.int i) j pos) (tC<|.int i):=λ_ _ _ H _ I h=>wpAny_Constant_int ⟨.int i,H,I.tok _,⟨_,rfl⟩,h⟩
def Hf {b j pos}:PE X (.Constant (.bool b) j pos) (tC<|.bl b):=λ_ _ _ H _ I h=>Constant_bool ⟨.bl b,H,I,rfl,h⟩
def OR {j pos}:PE X (.Constant .none j pos) (tC .gz):=λ_ _ _ H _ I h=>Constant_none ⟨.gz,H,I,rfl,h⟩
def OQ {x j pos}:PE X (.Constant (.str x) j pos) (tC<|.str x):=λ_ _ _ H _ I h=>Calls.Constant_str ⟨.str x,H,I.tok _,⟨_,rfl⟩,h⟩
def Gl (X:Cx)(x:Str):Prop:=X.env.kindOf x=some .globalImplicit
def tq {E:aj->ah->Prop}{fb:ak (ai×Obj)}{s:ah}{σ:St}{H:Hp}{x:Str}{u:aj}{pos:Pos}{Q:aj->ah->Prop}(I:Inv X fb σ H s)(hg:Gl X x)(hm:X.mg x=some u)(h:Q u s)
 (hd:(x==("__debug__" : Str))=false:=by decide):wpAny (model X.prog X.w) X.A (eval (.Name x pos) X.env) Q E s:=
 Calls.Name_function_global I.ok.kind hg (Calls.loadGlobal_global (I.ok.glob▸I.mod.glob.keeps I.bk) hm h) hd
def ku {E:aj->ah->Prop}{fb:ak (ai×Obj)}{s:ah}{σ:St}{H:Hp}{x:Str}{u:aj}{pos:Pos}{Q:aj->ah->Prop}(I:Inv X fb σ H s)(hg:Gl X x)(hm:X.mg x=none)(hv:bootBuiltins x=some u)(h:Q u s)
 (hn:x ≠ "__name__":=by decide) (hd:(x==("__debug__" : Str))=false:=by decide):wpAny (model X.prog X.w) X.A (eval (.Name x pos) X.env) Q E s:=by
 refine fj I.mod.blt λmb h1 h2=>?_;exact Calls.Name_function_global I.ok.kind hg (Calls.loadGlobal_builtin (I.ok.glob▸I.mod.glob.keeps I.bk) hm (I.ok.blt▸h1.keeps I.bk) ((h2 x hn).trans hv) h) hd
def Lf {x:Str}{v:V}{u:aj}{pos:Pos}(hg:Gl X x)(hm:X.mg x=some u)(r:fW v u)(hd:(x==("__debug__" : Str))=false:=by decide):PE X (.Name x pos) (tC v) :=
 λ_ _ _ H _ I h=>tq I hg hm ⟨v,H,I,r,h⟩ hd
def iZ {x:Str}{v:V}{u:aj}{pos:Pos}(hg:Gl X x)(hm:X.mg x=none)(hv:bootBuiltins x=some u)(r:fW v u)(hn:x ≠ "__name__":=by decide)(hd:(x==("__debug__" : Str))=false:=by decide):PE X (.Name x pos) (tC v) :=
 λ_ _ _ H _ I h=>ku I hg hm hv ⟨v,H,I,r,h⟩ hn hd
variable {a b:Expr}{ta tb:TE}{pos:Pos}
def PC (X:Cx)(op:CmpOp)(a b:Expr)(t:TE):Prop :=
 ∀(fb:ak (ai×Obj)) (s:ah) (σ:St) (H:Hp) (Q:VK),Inv X fb σ H s->t σ H Q ->
  wpAny (model X.prog X.w) X.A (eval a X.env) (λv s₁=>wpAny (model X.prog X.w) X.A (eval b X.env) (λu s₂=>wpAny (model X.prog X.w) X.A (compareOp op v u) (EP X fb σ Q) X.xe s₂) X.xe s₁) X.xe s
def Hu (b:Expr){op:CmpOp}(h:op≠.In)(h2:op≠.NotIn):behindInMarks op b=false:=by
 have e1:(op==CmpOp.In)=false:=by cases op<;>first|rfl|exact absurd rfl h
 have e2:(op==CmpOp.NotIn)=false:=by cases op<;>first|rfl|exact absurd rfl h2
 cases b<;>simp[behindInMarks,e1,e2]
def RD (ta:TE):TE:=λσ H Q=>ta σ H λx H1=>Q (.bl<|decide (x=.gz)) H1
def MU (ta:TE):TE:=λσ H Q=>ta σ H λx H1=>Q (.bl<|!decide (x=.gz)) H1
def fW.zg {x:V}{v:aj}(r:fW x v):(v==Value.none)=decide (x=.gz):=by
 cases x with
 |gz=>subst r;rfl
 |bl _=>subst r;rfl
 |int _=>obtain⟨t,rfl⟩:=r;rfl
 |str _=>obtain⟨t,rfl⟩:=r;rfl
 |Ft _=>obtain⟨t,rfl⟩:=r;rfl
 |NF _=>obtain⟨t,rfl⟩:=r;rfl
 |ref _=>subst r;rfl
 |ty _=>subst r;rfl
def OT {j pos'}(ha:PE X a ta):PC X .Is a (.Constant .none j pos') (RD ta):=by intro fb s σ H Q I h;refine hZ (ha fb s σ H _ I h) λv s1 h_=>fZ h_ λx H1 I1 r1 q1=>?_;exact Constant_none (is_none_gen ⟨.bl _,H1,I1,by rw[r1.zg];rfl,q1⟩)
def Lh {j pos'}(ha:PE X a ta):PC X .IsNot a (.Constant .none j pos') (MU ta):=by intro fb s σ H Q I h;refine hZ (ha fb s σ H _ I h) λv s1 h_=>fZ h_ λx H1 I1 r1 q1=>?_;exact Constant_none (isnot_none_gen ⟨.bl _,H1,I1,by rw[r1.zg];rfl,q1⟩)
def tB (t:TE):TT:=λσ H Q=>t σ H λx H1=>∃ c,x=.bl c/\Q c H1
def A0 {op:CmpOp}{t:TE}(h:PC X op a b t)(h1:behindInMarks op b=false:=by first | exact Hu _ rfl rfl | rfl):PT X (.Compare a [op] [b] pos) (tB t):=by intro fb s σ H Q I hw;refine wpAny_isTrue_Compare1 (hZ (h fb s σ H _ I hw) λv s1 h1=>hZ h1 λu s2 h2=>hZ h2 λc s3 h_=>fZ h_ λx H1 I1 r1 q1=>?_) h1;obtain⟨d,rfl,q⟩:=q1;subst r1;exact cy ⟨H1,I1,q⟩
variable {tA UH:TT}{rest:ak Expr}
def RJ (t u:TT):TT:=λσ H Q=>t σ H λc H1=>if c=true then u σ H1 Q else Q false H1
def X4 (t u:TT):TT:=λσ H Q=>t σ H λc H1=>if c=true then Q true H1 else u σ H1 Q
def Vm (t:TT):TT:=λσ H Q=>t σ H λc H1=>Q (!c) H1
def pw_and1 (ha:PT X a tA):PW X (.BoolOp .And [a] pos) tA:=by
 intro wh fb s σ H Q I h;refine isTrue_and (hZ (ha fb s σ H Q I h) λc s1 e=>?_);cases c with
 |true=>exact isTrue_and_nil e
 |false=>exact e
def pw_or1 (ha:PT X a tA):PW X (.BoolOp .Or [a] pos) tA:=by
 intro wh fb s σ H Q I h;refine isTrue_or (hZ (ha fb s σ H Q I h) λc s1 e=>?_);cases c with
 |false=>exact isTrue_or_nil e
 |true=>exact e
def pw_and (ha:PT X a tA)(hb:PW X (.BoolOp .And (b::rest) pos) UH):PW X (.BoolOp .And (a::b::rest) pos) (RJ tA UH):=by
 intro wh fb s σ H Q I h;refine isTrue_and (hZ (ha fb s σ H _ I h) λc s1 h_=>fj h_ λH1 I1 q1=>?_);cases c with
 |true=>exact hb wh fb s1 σ H1 Q I1 q1
 |false=>exact⟨H1,I1,q1⟩
def pw_or (ha:PT X a tA)(hb:PW X (.BoolOp .Or (b::rest) pos) UH):PW X (.BoolOp .Or (a::b::rest) pos) (X4 tA UH):=by
 intro wh fb s σ H Q I h;refine isTrue_or (hZ (ha fb s σ H _ I h) λc s1 h_=>fj h_ λH1 I1 q1=>?_);cases c with
 |true=>exact⟨H1,I1,q1⟩
 |false=>exact hb wh fb s1 σ H1 Q I1 q1
def OJ (ha:PT X a tA):PT X (.UnaryOp .Not a pos) (Vm tA):=by intro fb s σ H Q I h;exact isTrue_not (ha fb s σ H (λc H1=>Q (!c) H1) I h)
def G9 {op}{t:TE}(h:PE X a t):PE X (.BoolOp op [a] pos) t:=λfb s σ H Q I hw=>BoolOp_one (h fb s σ H Q I hw)
def tIf (t:TT)(ta tb:TE):TE:=λσ H Q=>t σ H λc H1=>if c=true then ta σ H1 Q else tb σ H1 Q
def Hb {c:Expr}(hc:PT X c tA)(ha:PE X a ta)(hb:PE X b tb):PE X (.IfExp c a b pos) (tIf tA ta tb):=by
 intro fb s σ H Q I h;refine wpAny_IfExp (hZ (hc fb s σ H _ I h) λd s1 h_=>fj h_ λH1 I1 q1=>?_);cases d with
 |true=>exact ha fb s1 σ H1 Q I1 q1
 |false=>exact hb fb s1 σ H1 Q I1 q1
end
def oH (K:aa)(H:Hp)(a:ai)(xs:ak V):Prop :=
 Rd H a (.lst xs) \/
  ∃(o:Obj) (fE:Array aj) (n:Nat),K.lookup a=some o/\o.cls=.type "list"/\o.dict=none/\o.data=.seq fE n/\fE.size<=sizeLine/\fT xs fE.toList
def Fx (K:aa)(H:Hp)(a:ai)(xs:ak V):Prop :=
 Rd H a (.tup xs) \/
  ∃(o:Obj) (fE:Array aj) (n:Nat),K.lookup a=some o/\o.cls=.type "tuple"/\o.data=.seq fE n/\fE.size<=sizeLine/\fT xs fE.toList
def Xy:aj->ao V
 |.none=>some .gz
 |.bool b=>some (.bl b)
 |.int i _=>some (.int i)
 |.str x _=>some (.str x)
 |.bytes b _=>some (.Ft b)
 |.float b _=>some (.NF b)
 |.ref a=>some (.ref a)
 |.type n=>some (.ty n)
 |_=>none
def fW.abs {x:V}{u:aj}(r:fW x u):Xy u=some x:=by
 cases x with
 |gz=>subst r;rfl
 |bl _=>subst r;rfl
 |int _=>obtain⟨t,rfl⟩:=r;rfl
 |str _=>obtain⟨t,rfl⟩:=r;rfl
 |Ft _=>obtain⟨t,rfl⟩:=r;rfl
 |NF _=>obtain⟨t,rfl⟩:=r;rfl
 |ref _=>subst r;rfl
 |ty _=>subst r;rfl
theorem fW.inj {x y:V}{u:aj}(r:fW x u)(q:fW y u):x=y:=aU (r.abs.symm.trans q.abs)
theorem fT.inj {xs ys:ak V}{us:ak aj}(h:fT xs us)(g:fT ys us):xs=ys:=by
 induction h generalizing ys with
 |nil=>cases g;rfl
 | cons r t ih =>
  cases g with
  |cons r' t'=>rw[r.inj r',ih t']
section
variable {X:Cx}{fb:ak (ai×Obj)}{σ:St}{H:Hp}{s:ah}{a:ai}{xs ys:ak V}
def oH.of {K:aa}(h:H a=some (.lst xs)):oH K H a xs:=.inl (.inl h)
def Fx.of {K:aa}(h:H a=some (.tup xs)):Fx K H a xs:=.inl (.inl h)
def Inv.list (I:Inv X fb σ H s)(h:oH X.K H a xs):∃ fE:ak aj,fT xs fE/\PlainL s.heap a fE.toArray/\xs.length<=sizeLine:=by
 rcases h with h|⟨o,fE,n,hk,hc,hd,hs,hz,r⟩
 .obtain⟨z,fE,n,r,e⟩:=h.ok I.gT;exact⟨fE,r,⟨_,n,e,rfl,rfl,rfl⟩,z⟩
 .refine⟨fE.toList,r,⟨o,n,I.sL a o hk,hc,hd,by simpa using hs⟩,?_⟩;have e:=r.length;simp only[cH]at e;lia
def Inv.tuple (I:Inv X fb σ H s)(h:Fx X.K H a xs):∃ fE:ak aj,fT xs fE/\IsTup s.heap a fE.toArray/\xs.length<=sizeLine:=by
 rcases h with h|⟨o,fE,n,hk,hc,hs,hz,r⟩
 .obtain⟨z,fE,r,p⟩:=h.ok I.gT;exact⟨fE,r,p,z⟩
 .refine⟨fE.toList,r,⟨o,I.sL a o hk,hc,n,by simpa using hs⟩,?_⟩;have e:=r.length;simp only[cH]at e;lia
def Inv.HD (I:Inv X fb σ H s)(h:oH X.K H a xs)(h':oH X.K H a ys):xs=ys:=by
 obtain⟨fE,r,⟨o,n,e,_,_,d⟩,_⟩:=I.list h;obtain⟨its',r',⟨o',n',e',_,_,d'⟩,_⟩:=I.list h';rw[e]at e';cases e';rw[d]at d';injection d' with d1 _;have:fE=its':=by simpa using cq Array.toList d1
 subst this;exact r.inj r'
end
abbrev Cx.u4 (X:Cx)(E:aj->ah->Prop):Cx:={ X with xe:=E}
abbrev Cx.O5 (X:Cx):Cx:=X.u4 λ_ _=>False
theorem Cx.Ok.u4 {X:Cx}(ok:X.Ok)(E:aj->ah->Prop):(X.u4 E).Ok :=
 ⟨ok.mod,ok.kind,ok.glob,ok.blt,ok.above,ok.inj,ok.has,ok.T6,ok.hd,ok.frames,ok.UI,ok.Rp,ok.bs,ok.FJ,ok.EM,ok.Fl,ok.qz,ok.NB⟩
def Cx.Ok.n9 {X:Cx}{E:aj->ah->Prop}(ok:(X.u4 E).Ok):X.Ok :=
 ⟨ok.mod,ok.kind,ok.glob,ok.blt,ok.above,ok.inj,ok.has,ok.T6,ok.hd,ok.frames,ok.UI,ok.Rp,ok.bs,ok.FJ,ok.EM,ok.Fl,ok.qz,ok.NB⟩
section
variable {X:Cx}{fb:ak (ai×Obj)}{σ:St}{H:Hp}{s:ah}{E:aj->ah->Prop}
theorem Inv.u4 (I:Inv X fb σ H s)(E:aj->ah->Prop):Inv (X.u4 E) fb σ H s:=⟨I.ok.u4 E,I.os,I.bare,I.fg,I.loc,I.cell,I.free,I.nM,I.pin,I.gT,I.len⟩
theorem Inv.n9 (I:Inv (X.u4 E) fb σ H s):Inv X fb σ H s:=⟨I.ok.n9,I.os,I.bare,I.fg,I.loc,I.cell,I.free,I.nM,I.pin,I.gT,I.len⟩
theorem SP.n9 {D:Ends}{f:Flow}{s':ah}(h:SP (X.u4 E) fb D f s'):SP X fb D f s':=by
 cases f with
 |next=>obtain⟨iB,H',I,q⟩:=h;exact⟨iB,H',I.n9,q⟩
 |brk=>obtain⟨iB,H',I,q⟩:=h;exact⟨iB,H',I.n9,q⟩
 |cont=>obtain⟨iB,H',I,q⟩:=h;exact⟨iB,H',I.n9,q⟩
 |ret u=>obtain⟨v,iB,H',I,r,q⟩:=h;exact⟨v,iB,H',I.n9,r,q⟩
theorem yt.O5 {st:ak Stmt}{t:TS}(h:yt X.O5 st t):yt X st t:=λfb s σ H D I hw =>bq (h fb s σ H D (I.u4 _) hw) (λ_ _ q=>q.n9) λ_ _ z=>False.elim z
end
section
variable {X:Cx}{st:Stmt}{rest:ak Stmt}{t u:TS}{e:Expr}{te:TE}{pos:Pos}
def RC:TS:=λD σ H=>D.nx σ H
def Vk (t u:TS):TS:=λD σ H=>t { D with nx:=u D} σ H
def l6:yt X [] RC:=λ_ _ σ H _ I h=>wpAny_execs_nil ⟨σ,H,I,h⟩
def h9 (h1:PS X st t)(h2:yt X rest u):yt X (st::rest) (Vk t u):=by
 intro fb s σ H D I h;refine wpAny_execs_cons (hZ (h1 fb s σ H { D with nx:=u D} I h) λf s1 q=>?_);cases f with
 | next =>refine nY q λiB H' I' q=>?_;exact h2 fb s1 iB H' D I' q
 |ret v=>exact q
 |brk=>exact q
 |cont=>exact q
def jP (h1:PS X st t):yt X [st] t:=by
 intro fb s σ H D I h;refine wpAny_execs_cons (hZ (h1 fb s σ H D I h) λf s1 q=>?_);cases f with
 |next=>exact wpAny_execs_nil q
 |ret v=>exact q
 |brk=>exact q
 |cont=>exact q
def Inv.quiet {fb:ak (ai×Obj)}{σ:St}{H:Hp}{s:ah}(I:Inv X fb σ H s):interactive X.env=false:=by simp[interactive,I.ok.kind]
def RE (te:TE):TS:=λD σ H=>te σ H λ_ H1=>D.nx σ H1
def K7 (he:PE X e te)(hs:swapsWith e none pos.line X.env=pure false:=by rfl):PS X (.Expr e pos) (RE te):=by intro fb s σ H D I h;exact wpAny_Expr_any (hZ (he fb s σ H _ I h) λv s1 h_=>fZ h_ λx H1 I1 r1 q1=>⟨σ,H1,I1,q1⟩) I.quiet hs
def Vl (te:TE):TS:=λD σ H=>te σ H D.rt
def mw (he:PE X e te):PS X (.Return (some e) pos) (Vl te):=by intro fb s σ H D I h;exact wpAny_Return_some (hZ (he fb s σ H _ I h) λv s1 h_=>fZ h_ λx H1 I1 r1 q1=>⟨x,σ,H1,I1,r1,q1⟩)
def Vo (c:TT)(t u:TS):TS:=λD σ H=>c σ H λb H1=>if b=true then t D σ H1 else u D σ H1
def rY {c:Expr}{a b:ak Stmt}{tc:TT}(hc:PT X c tc)(ha:yt X a t)(hb:yt X b u):PS X (.If c a b pos) (Vo tc t u):=by
 intro fb s σ H D I h;refine wpAny_If (hZ (hc fb s σ H _ I h) λd s1 h_=>fj h_ λH1 I1 q1=>?_);cases d with
 |true=>exact ha fb s1 σ H1 D I1 q1
 |false=>exact hb fb s1 σ H1 D I1 q1
end
abbrev TG:=V->St->Hp->(St->Hp->Prop)->Prop
abbrev Al:=ak V->St->Hp->(St->Hp->Prop)->Prop
def PG (X:Cx)(target:Expr)(t:TG):Prop :=
 ∀(fb:ak (ai×Obj)) (s:ah) (σ:St) (H:Hp) (v:V) (u:aj) (Q:St->Hp->Prop),Inv X fb σ H s->fW v u->t v σ H Q ->
  wpAny (model X.prog X.w) X.A (assign target X.env u) (λ_ s'=>∃ iB H',Inv X fb iB H' s'/\Q iB H') X.xe s
def FL (X:Cx)(ts:ak Expr)(t:Al):Prop :=
 ∀(fb:ak (ai×Obj)) (s:ah) (σ:St) (H:Hp) (vs:ak V) (us:ak aj) (Q:St->Hp->Prop),Inv X fb σ H s->fT vs us->t vs σ H Q ->
  wpAny (model X.prog X.w) X.A (assignInOrder ((assignEach ts X.env).map (·.2)) us) (λ_ s'=>∃ iB H',Inv X fb iB H' s'/\Q iB H') X.xe s
abbrev BV:=V->V->V->Hp->(Hp->Prop)->Prop
def MB (X:Cx)(t:BV):Prop :=
 ∀(fb:ak (ai×Obj)) (s:ah) (σ:St) (H:Hp) (o i v:V) (ov iv u:aj) (Q:Hp->Prop),Inv X fb σ H s->fW o ov->fW i iv->fW v u->t o i v H Q ->
  wpAny (model X.prog X.w) X.A (setItem ov iv u) (λ_ s'=>∃ H',Inv X fb σ H' s'/\Q H') X.xe s
abbrev NY:=V->V->Hp->VK->Prop
def QT (X:Cx)(op:Operator)(t:NY):Prop :=
 ∀(fb:ak (ai×Obj)) (s:ah) (σ:St) (H:Hp) (x y:V) (v u:aj) (Q:VK),Inv X fb σ H s->fW x v->fW y u->t x y H Q ->
  wpAny (model X.prog X.w) X.A (inplaceOp op v u) (EP X fb σ Q) X.xe s
section
variable {X:Cx}{pos:Pos}
def ux (i:Nat):TG:=λv σ H Q=>Q (σ.set i<|some v) H
def sV {i:Nat}{x:Str}(hN:X.N.Nodup)(hi:X.N[i]?=some x)(hx:Loc X.env.scope x)(hf:X.fn x=true\/X.env.scope.names.lookup x=some .local:=by first | exact .inl rfl | exact .inr rfl | assumption):PG X (.Name x pos) (ux i):=by intro fb s σ H v u Q I r h;exact wpAny_assign_Name (tR I hN hi hx r (λs' I'=>⟨_,H,I',h⟩) hf)
def WX:Al:=λvs σ H Q=>vs=[]/\Q σ H
def SX (t:TG)(u:Al):Al:=λvs σ H Q=>∃ v r,vs=v::r/\t v σ H λiB H'=>u r iB H' Q
def Lc:FL X [] WX:=by intro fb s σ H vs us Q I r h;obtain⟨e,h⟩:=h;subst e;cases r;exact assignInOrder_nil ⟨σ,H,I,h⟩
def G6 {e:Expr}{es:ak Expr}{t:TG}{u:Al}(h1:PG X e t)(h2:FL X es u)
 (hs:(assignEach (e::es) X.env).map (·.2)=assign e X.env::(assignEach es X.env).map (·.2):=by rfl):FL X (e::es) (SX t u):=by
 intro fb s σ H vs us Q I r h;obtain⟨v,vr,e1,h⟩:=h;subst e1;cases r with
 | cons r rr =>rw[hs];refine assignInOrder_cons (hZ (h1 fb s σ H _ _ _ I r h) λ_ s1 h_=>nY h_ λMF H1 I1 q1=>?_);exact h2 fb s1 MF H1 _ _ Q I1 rr q1
def WV (K:aa)(n:Nat)(t:Al):TG:=λv σ H Q=>∃ a xs,v=.ref a/\Fx K H a xs/\xs.length=n/\t xs σ H Q
def OO {es:ak Expr}{k:Nat}{t:Al}{n:Nat}(hc:X.gN=true)(h:FL X es t)
 (hn:(assignEach es X.env).length=n:=by rfl) (E8:(assignEach es X.env).findIdx? (·.1)=none:=by rfl):PG X (.Tuple es k pos) (WV X.K n t):=by
 intro fb s σ H v u Q I r hw;obtain⟨a,xs,e1,hq,hl,hw⟩:=hw;subst e1;subst r;refine jB (I.tuple hq) λfE rv ht hz=>?_;refine assign_Tuple_tuple (I.ok.hd hc) ht (by simp[hn,<- hl,rv.length]) E8 λh' hx=>?_;have I1:Inv X fb σ H {s with heap:=h'}:=I.iC (t':=s.toks) λb o e=>hx b o (aw<|iO e) e;exact h fb _ σ H xs _ Q I1 (by simpa using rv) hw
def WW (to ti:TE)(t:BV):TG:=λv σ H Q=>to σ H λo H1=>ti σ H1 λi H2=>t o i v H2 λH3=>Q σ H3
def ud {o i:Expr}{to ti:TE}{t:BV}(ho:PE X o to)(hi:PE X i ti)(hs:MB X t)
 (ha:∀ v,assign (.Subscript o i pos) X.env v=(do
   let ov <- holding [v] (eval o X.env)
   let iv <- holding [v,ov] (eval i X.env)
   standAt pos
   holding [v,ov,iv] (setItem ov iv v)
   release [v,ov,iv] []):=by intro _;rfl):PG X (.Subscript o i pos) (WW to ti t):=by
 intro fb s σ H v u Q I r h
 rw[ha]
 refine fH (bR<|hZ (ho fb s σ H _ I h) λov s1 h_=>fZ h_ λx H1 I1 r1 q1=>?_)
 refine fH (bR<|hZ (hi fb s1 σ H1 _ I1 q1) λiv s2 h_=>fZ h_ λy H2 I2 r2 q2=>?_)
 refine fH (dG<|fH<|bR<|hZ (hs fb s2 σ H2 x y v ov iv u _ I2 r1 r2 r q2) λ_ s3 h_=>fj h_ λH3 I3 q3=>?_)
 exact wpAny_release ⟨σ,H3,I3,q3⟩
def Og (te:TE)(g:TG):TS:=λD σ H=>te σ H λx H1=>g x σ H1 D.nx
def rg {tg e:Expr}{te:TE}{g:TG}(he:PE X e te)(hg:PG X tg g)(hs:swapsWithSole [tg] e pos.line X.env=pure false:=by rfl)(hw:swappedStores [tg] e X.env=pure none:=by rfl)
 (h1:(assignEach [tg] X.env).map (·.2)=[assign tg X.env]:=by rfl):PS X (.Assign [tg] e pos) (Og te g):=by
 intro fb s σ H D I h;refine wpAny_Assign_stores (hZ (he fb s σ H _ I h) λv s1 h_=>fZ h_ λx H1 I1 r1 q1=>?_) hs hw;rw[h1];exact hZ (hg fb s1 σ H1 x v _ I1 r1 q1) λ_ s2 q=>q
def q9 {i:Nat}{x:Str}{e:Expr}{te:TE}{pos':Pos}(hN:X.N.Nodup)(hi:X.N[i]?=some x)(hx:Loc X.env.scope x)(he:PE X e te)(hs:swapsWith e (some<|.Name x pos') pos.line X.env=pure false:=by rfl)(hf:X.fn x=true\/X.env.scope.names.lookup x=some .local:=by first | exact .inl rfl | exact .inr rfl | assumption):
 PS X (.Assign [.Name x pos'] e pos) (Og te<|ux i):=by
 intro fb s σ H D I h;refine wpAny_Assign_Name (hZ (he fb s σ H _ I h) λv s1 h_=>fZ h_ λy H1 I1 r1 q1=>?_) hs;exact tR I1 hN hi hx r1 (λs2 I2=>⟨_,H1,I2,q1⟩) hf
def Vv (i:Nat)(te:TE)(ti:NY):TS:=λD σ H=>∃ x,σ[i]?=some (some x)/\te σ H λy H1=>ti x y H1 λz H2=>D.nx (σ.set i<|some z) H2
def OM {i:Nat}{x:Str}{e:Expr}{te:TE}{op:Operator}{ti:NY}{pos':Pos}(hN:X.N.Nodup)(hi:X.N[i]?=some x)(hx:Loc X.env.scope x)(he:PE X e te)(ho:QT X op ti)(hf:X.fn x=true\/X.env.scope.names.lookup x=some .local:=by first | exact .inl rfl | exact .inr rfl | assumption):
 PS X (.AugAssign (.Name x pos') op e pos) (Vv i te ti):=by
 intro fb s σ H D I h;refine fj h λv e1 h=>?_;refine fj I.loc λm hn hl=>?_;have vis:Uc X.env.scope x:=by rcases hx with k|k;exact .inl k;exact .inr (.inl k)
 refine fj (hl i x v hi e1 vis) λu r l=>?_;refine wpAny_AugAssign_Name ?_;have go:wpAny (model X.prog X.w) X.A (eval e X.env) (λw s₂=>wpAny (model X.prog X.w) X.A (inplaceOp op u w) (λr s₃=>wpAny (model X.prog X.w) X.A (storeName X.env x r) (λ_=>SP X fb D .next) X.xe s₃) X.xe s₂) X.xe s:=by refine hZ (he fb s σ H _ I h) λw s1 h_=>fZ h_ λy H1 I1 r1 q1=>?_;refine hZ (ho fb s1 σ H1 v y u w _ I1 r r1 q1) λz s2 h_=>fZ h_ λzv H2 I2 r2 q2=>?_;exact tR I2 hN hi hx r2 (λs3 I3=>⟨_,H2,I3,q2⟩) hf
 rcases l with⟨hk,hm⟩|⟨hk,c,hc,sv⟩
 .exact wpAny_loadName_local I.ok.kind hk hn hm go
 .rcases hk with hk | hk
  .exact wpAny_loadName_cell I.ok.kind hk hc sv go
  .rcases hx with k | k
   .have:X.env.scope.names.lookup x=some .free:=hk;rw[k]at this;cases this
   .have:X.env.scope.names.lookup x=some .free:=hk;rw[k]at this;cases this
def RI (to ti te:TE)(Kr:V->V->Hp->VK->Prop)(UE:NY)(Kq:BV):TS:=λD σ H=>to σ H λo H1=>ti σ H1 λi H2=>Kr o i H2 λx H3=>te σ H3 λy H4=>UE x y H4 λz H5=>Kq o i z H5 λH6=>D.nx σ H6
def Ui (X:Cx)(t:V->V->Hp->VK->Prop):Prop :=
 ∀(fb:ak (ai×Obj)) (s:ah) (σ:St) (H:Hp) (o i:V) (ov iv:aj) (Q:VK),Inv X fb σ H s->fW o ov->fW i iv->t o i H Q ->
  wpAny (model X.prog X.w) X.A (getItem ov iv) (EP X fb σ Q) X.xe s
def K8 {o i e:Expr}{to ti te:TE}{Kr:V->V->Hp->VK->Prop}{UE:NY}{Kq:BV}{op:Operator}{mn:Pos}(ho:PE X o to)(hi:PE X i ti)(hg:Ui X Kr)(he:PE X e te)(hp:QT X op UE)(hs:MB X Kq)
 (ha:∀ ov iv new,augStore i ov iv new=(do holding [new,ov,iv] (setItem ov iv new);release [new,ov,iv] [];pure .next):=by intros;rfl):PS X (.AugAssign (.Subscript o i mn) op e pos) (RI to ti te Kr UE Kq):=by
 intro fb s σ H D I h;refine wpAny_AugAssign_SubscriptAny (hZ (ho fb s σ H _ I h) λov s1 h_=>fZ h_ λx1 H1 I1 r1 q1=>?_) ha;refine hZ (hi fb s1 σ H1 _ I1 q1) λiv s2 h_=>fZ h_ λx2 H2 I2 r2 q2=>?_;refine hZ (hg fb s2 σ H2 x1 x2 ov iv _ I2 r1 r2 q2) λold s3 h_=>fZ h_ λx3 H3 I3 r3 q3=>?_;refine hZ (he fb s3 σ H3 _ I3 q3) λv s4 h_=>fZ h_ λx4 H4 I4 r4 q4=>?_;refine hZ (hp fb s4 σ H4 x3 x4 old v _ I4 r3 r4 q4) λnew s5 h_=>fZ h_ λx5 H5 I5 r5 q5=>?_;exact hZ (hs fb s5 σ H5 x1 x2 x5 ov iv new _ I5 r1 r2 r5 q5) λ_ s6 h_=>fj h_ λH6 I6 q6=>⟨σ,H6,I6,q6⟩
def Yj (f:Int->Int->Int):NY:=λx y H Q=>∃ i j,x=.int i/\y=.int j/\Q (.int<|f i j) H
def PM:QT X .Add (Yj λi j=>i+j):=by intro fb s σ H x y v u Q I r1 r2 h;refine fZ h λi j e1 e2 q=>?_;subst e1;subst e2;obtain⟨t,rfl⟩:=r1;obtain⟨t',rfl⟩:=r2;exact iadd_int ⟨.int _,H,I.tok _,⟨_,rfl⟩,q⟩
def PL:QT X .Sub (Yj λi j=>i - j):=by intro fb s σ H x y v u Q I r1 r2 h;refine fZ h λi j e1 e2 q=>?_;subst e1;subst e2;obtain⟨t,rfl⟩:=r1;obtain⟨t',rfl⟩:=r2;exact isub_int ⟨.int _,H,I.tok _,⟨_,rfl⟩,q⟩
end
section
variable {X:Cx}{pos:Pos}
def Ob (c:TT)(tb:TS):TS:=λD σ H=>∃ W:Nat->St->Hp->Prop,(∃ m,W m σ H)/\∀ m σ H,W m σ H ->
 c σ H λb H1=>if b=true then ∃ N:St->Hp->Prop,(∀ iB H',N iB H'->∃ m',m'<m/\W m' iB H')/\tb { D with nx:=N,ct:=N,bk:=D.nx} σ H1 else D.nx σ H1
def GZ {c:Expr}{body:ak Stmt}{tc:TT}{tb:TS}(hp:PassesOwn (model X.prog X.w) X.A X.env X.xe)(hc:PT X c tc)(hb:yt X body tb):PS X (.While c body [] pos) (Ob tc tb):=by
 intro fb s σ H D I h;obtain⟨W,⟨m0,w0⟩,turn⟩:=h;refine wpAny_While (codeAny_whileLoop (λn s'=>∃ iB H',Inv X fb iB H' s'/\W n iB H') ?_ m0 ⟨σ,H,I,w0⟩);refine λn s1 h_=>nY h_ λMF H1 I1 w1=>?_;refine cV hp (hZ (hc fb s1 MF H1 _ I1<|turn n MF H1 w1) λb s2 h_=>fj h_ λH2 I2 q2=>?_);cases b with
 | true =>
  refine fj q2 λN hN q2=>?_;rw[aA rfl];refine cV hp (hZ (hb fb s2 MF H2 _ I2 q2) λf s3 q3=>?_);cases f with
  | next =>refine nY q3 λB3 H3 I3 n3=>?_;refine fj (hN B3 H3 n3) λm' hm w3=>?_;exact⟨m',hm,B3,H3,I3,w3⟩
  | cont =>refine nY q3 λB3 H3 I3 n3=>?_;refine fj (hN B3 H3 n3) λm' hm w3=>?_;exact⟨m',hm,B3,H3,I3,w3⟩
  |brk=>exact q3
  |ret v=>exact q3
 | false =>rw[aC aJ];exact wpAny_execs_nil ⟨MF,H2,I2,q2⟩
end
structure It where
 go:Nat->Hp->Prop
 FZ:Nat->Hp->V->Hp->Prop
 stop:Nat->Hp->Prop
def jH (X:Cx)(fb:ak (ai×Obj))(H:Hp)(b:ai):Prop :=
 H b=none/\b≠X.env.locals/\b∉X.fs/\(b∈X.ex\/X.s₀.heap.objs.size<=b)/\(∀ x c,X.env.cells.lookup x=some c->c≠b)/\∀ p∈X.pn++fb,p.1≠b
def Inv.zN {X:Cx}{fb:ak (ai×Obj)}{σ:St}{H H':Hp}{s:ah}{b:ai}(I:Inv X fb σ H s)(hb:s.heap.objs.size<=b)(hn:H' b=none):jH X fb H' b:=by
 refine⟨hn,ba<|aG I.lt hb,I.VO hb,.inr<|aK I.sz hb,λx c e z=>?_,λp hp z=>?_⟩
 .obtain⟨v,q⟩:=I.cell x c e;exact absurd (aG q.lt<|z▸hb) (cb _)
 .exact absurd (aG (iO (I.pin p hp).1)<|z▸hb) (cb _)
structure Turn (P:ae)(w:af)(K:aa)(tg:Expr)(J:It)(fp:List ai)(it:ai)(tn:Nat->Heap->Prop)(CM:Cx->Prop:=λX=>X.gN=true):Prop where
 mem:it∈fp
 obj:∀ i h,tn i h->∀ b∈fp,∃ o,h.get? b=some o/\∀ v,o.data≠.cell v
 keep:∀ i h h',tn i h->(∀ b∈fp,∀ o,h.get? b=some o->h'.get? b=some o)->tn i h'
 item:∀(X:Cx),X.prog=P->X.w=w->X.K=K->CM X->∀(i:Nat) (fb:List (ai×Obj)) (s:ah) (σ:St) (H:Hp) (E:aj->ah->Prop),Inv X fb σ H s->(∀ b∈fp,jH X fb H b)->tn i s.heap->J.go i H ->
  wpAny (model P w) X.A (pyNext<|.ref it) (λr s1=>∃ u,r=some u /\
   wpAny (model P w) X.A (letOwnedTupleGo tg (.ref it) u) (λ_ s2=>∃ x H',Inv X fb σ H' s2/\fW x u/\J.FZ i H x H'/\tn (i+1) s2.heap/\∀ b∈fp,H' b=none) E s1) E s
 done:∀(X:Cx),X.prog=P->X.w=w->X.K=K->CM X->∀(i:Nat) (fb:List (ai×Obj)) (s:ah) (σ:St) (H:Hp) (E:aj->ah->Prop),Inv X fb σ H s->(∀ b∈fp,jH X fb H b)->tn i s.heap->J.stop i H ->
  wpAny (model P w) X.A (pyNext<|.ref it) (λr s1=>r=none/\Inv X fb σ H s1) E s
 self:∀(A:Around) (i:Nat) (s:ah) (Q:aj->ah->Prop) (E:aj->ah->Prop),tn i s.heap->Q (.ref it) s->wpAny (model P w) A (pyIter<|.ref it) Q E s
abbrev TI:=St->Hp->(It->Hp->Prop)->Prop
def YO (X:Cx)(fb:ak (ai×Obj))(σ:St)(tg:Expr)(R:It->Hp->Prop)(Su:aj)(s2:ah):Prop :=
 ∃(it:ai) (fp:ak ai) (tn:Nat->Heap->Prop) (J:It) (H':Hp),Su=.ref it/\Inv X fb σ H' s2/\Turn X.prog X.w X.K tg J fp it tn/\tn 0 s2.heap/\(∀ b∈fp,jH X fb H' b)/\R J H'
def PI (X:Cx)(tg iter:Expr)(wi:TI):Prop :=
 ∀(fb:ak (ai×Obj)) (s:ah) (σ:St) (H:Hp) (R:It->Hp->Prop),Inv X fb σ H s->wi σ H R ->
  wpAny (model X.prog X.w) X.A (eval iter X.env) (λv s1=>wpAny (model X.prog X.w) X.A (pyIter v) (YO X fb σ tg R) X.xe s1) X.xe s
def NA {M:Model}{A:Around}{E:aj->ah->Prop}{s:ah}{tg:Expr}{it:ai}{u:aj}{o:Obj}{n:String}{vs:Array aj}{Q:Unit->ah->Prop}(ho:s.heap.get? it=some o)(hc:o.cls=.type n)(hd:o.data=.fields vs)
 (hn:["enumerate","zip","dict_itemiterator","dict_reverseitemiterator","odict_iterator","itertools.zip_longest","itertools.pairwise"].contains n=false) (hQ:Q () s):wpAny M A (letOwnedTupleGo tg (.ref it) u) Q E s:=by
 delta letOwnedTupleGo;cases tg <;> first
  |exact av hQ
  | (cases u <;> first
      |exact av hQ
      | (refine fH (wpAny_load ho ?_)
         rw[hc,hd]
         show wpAny M A (if(["enumerate","zip","dict_itemiterator","dict_reverseitemiterator","odict_iterator","itertools.zip_longest","itertools.pairwise"].contains n&&vs[0]?==some (rawInt _))=true then _ else _) Q E s
         rw[aC (by intro h;rw[hn,Bool.false_and]at h;cases h)]
         exact av hQ))
def XA (K:aa)(a:ai):It :=
 ⟨λi H=>∃ xs x,oH K H a xs/\xs[i]?=some x,λi H x H'=>H'=H/\∀ xs,oH K H a xs->xs[i]?=some x,λi H=>∃ xs,oH K H a xs/\xs.length<=i⟩
def Uk (lo:Int)(n:Nat):It:=⟨λi _=>i<n,λi H x H'=>H'=H/\x=.int (lo+i),λi _=>n<=i⟩
def Em {P:ae}{w:af}{K:aa}{tg:Expr}(a it:ai):Turn P w K tg (XA K a) [it] it (λi h=>h.IsListIter it a i) where
 mem:=by simp
 obj:=λi h st b hb=>by
  have e:b=it:=by simpa using hb
  subst e;refine jB st λo e c d=>?_;exact⟨o,e,λv z=>by rw[d]at z;cases z⟩
 keep:=λi h h' st k=>st.at λo e=>k it (by simp) o e
 item:=by intro X hP hw hK hc i fb s σ H E I hf st hg;subst hP hw hK;refine nY hg λxs x hq hx=>?_;refine jB (I.list hq) λfE rv p hz=>?_;refine fj (rv.get hx) λu hu ru=>?_;refine zZ (hf it<|by simp) λf0 f1 f2 f3 f4 f5=>?_;refine wpAny_pyNext_list_item st p.isList (x:=u) (by simpa using hu) λh' JX sb=>?_;have I1:Inv X fb σ H {s with heap:=h'}:=I.turned (t':=s.toks) (λb o hb e=>(sb.2 b hb).trans e) f0 f1 f3 f4 f5;refine jB (id JX) λo e c d=>?_;exact⟨u,rfl,NA (s:={s with heap:=h'}) e c d rfl ⟨x,H,I1,ru,⟨rfl,λys hy=>by rw[I.HD hy hq];exact hx⟩,JX,λb hb=>(hf b hb).1⟩⟩
 done:=by intro X hP hw hK hc i fb s σ H E I hf st hg;subst hP hw hK;obtain⟨xs,hq,hx⟩:=hg;refine jB (I.list hq) λfE rv p hz=>?_;refine zZ (hf it<|by simp) λf0 f1 f2 f3 f4 f5=>?_;have hl:=rv.length;exact wpAny_pyNext_list_end (I.ok.hd hc) st p.isList (by simp;lia) λh' eb=>⟨rfl,I.turned (t':=s.toks) (λb o hb e=>eb b o hb e) f0 f1 f3 f4 f5⟩
 self:=λ_ _ _ _ _ st h=>wpAny_pyIter_listiter st h
def AF {P:ae}{w:af}{K:aa}{tg:Expr}(it:ai)(lo:Int)(n:Nat):Turn P w K tg (Uk lo n) [it] it (λi h=>IsRangeIter h it (lo+(i:Nat)*1) ((n:Int) - (i:Nat)) 1) where
 mem:=by simp
 obj:=λi h st b hb=>by
  have e:b=it:=by simpa using hb
  subst e;exact⟨_,st,λv z=>by
   have z':Data.fields _=Data.cell v:=z
   cases z'⟩
 keep:=λi h h' st k=>k it (by simp) _ st
 item:=by intro X hP hw hK hc i fb s σ H E I hf st hg;subst hP hw hK;refine zZ (hf it<|by simp) λf0 f1 f2 f3 f4 f5=>?_;have W:=Walks.range (prog:=X.prog) (w:=X.w) (I.ok.hd hc) it lo 1 n;refine W.item i s _ _ hg st λv h' tk hv JX kk=>?_;obtain⟨t,rfl⟩:=hv;have I1:Inv X fb σ H {s with heap:=h',toks:=tk}:=I.turned (λb o hb e=>kk b o (by simpa using hb) e) f0 f1 f3 f4 f5;refine⟨_,rfl,NA (s:={s with heap:=h',toks:=tk}) (n:= "range_iterator") JX rfl rfl rfl ⟨.int<|lo+i,H,I1,⟨t,?_⟩,⟨rfl,rfl⟩,JX,λb hb=>(hf b hb).1⟩⟩;rw[Int.mul_one]
 done:=by intro X hP hw hK hc i fb s σ H E I hf st hg;subst hP hw hK;refine zZ (hf it<|by simp) λf0 f1 f2 f3 f4 f5=>?_;exact wpAny_pyNext_range_end (I.ok.hd hc) st (by have:n<=i:=hg;lia) λh' eb=>⟨rfl,I.turned (t':=s.toks) (λb o hb e=>eb b o hb e) f0 f1 f3 f4 f5⟩
 self:=λ_ _ _ _ _ st h=>wpAny_pyIter_rangeiter st h
section
variable {X:Cx}{tg:Expr}
def SD (K:aa)(tl:TE):TI:=λσ H R=>tl σ H λx H1=>∃ a,x=.ref a/\(∃ xs,oH K H1 a xs)/\R (XA K a) H1
def Lb {l:Expr}{tl:TE}(hl:PE X l tl):PI X tg l (SD X.K tl):=by
 intro fb s σ H R I h;refine hZ (hl fb s σ H _ I h) λv s1 h_=>fZ h_ λx H1 I1 r1 q1=>?_;obtain⟨a,e,⟨xs,hq⟩,q⟩:=q1;subst e;subst r1;refine jB (I1.list hq) λfE rv p hz=>?_;refine dw p.isList ?_;refine⟨s1.heap.objs.size,[s1.heap.objs.size],_,_,H1,rfl,I1.iC (t':=s1.toks) λb o e=>jx _ e,Em a _,⟨_,aD _ rfl,rfl,rfl⟩,λb hb=>?_,q⟩;have e:b=s1.heap.objs.size:=by simpa using hb
 subst e;exact I1.zN (aq _) (I1.gT.fresh<|aq _)
def yZ {fb:ak (ai×Obj)}{σ:St}{H:Hp}{s:ah}{R:It->Hp->Prop}{E:aj->ah->Prop}{lo hi:Int}{t u v:Tok}{tk:Nat}(I:Inv X fb σ H s)(h1:-(2 ^ 62)<=lo)(h2:lo<2 ^ 62)(h3:-(2 ^ 62)<=hi)(h4:hi<2 ^ 62)
 (q:R (Uk lo (hi - lo).toNat) H):wpAny (model X.prog X.w) X.A (pyIter<|.ref s.heap.objs.size) (YO X fb σ tg R) E {s with heap:=s.heap.push { cls:=.type "range",data:=.fields #[.int lo t,.int hi u,.int 1 v]},toks:=tk}:=by
 refine wpAny_pyIter_range (IsRange.new ..) (small_one h1 h2 h3 h4) ?_;have I1:Inv X fb σ H {s with heap:=s.heap.push { cls:=.type "range",data:=.fields #[.int lo t,.int hi u,.int 1 v]},toks:=tk}:=I.iC λb o e=>jx _ e;refine⟨(s.heap.push { cls:=.type "range",data:=.fields #[.int lo t,.int hi u,.int 1 v]}).objs.size,[(s.heap.push { cls:=.type "range",data:=.fields #[.int lo t,.int hi u,.int 1 v]}).objs.size],_,_,H,rfl,
  I1.iC (t':=tk) λb o e=>jx _ e,AF _ lo (hi - lo).toNat,?_,λb hb=>?_,q⟩
 .have e1:lo+((0:Nat):Int)*1=lo:=by simp
  have e2:(((hi - lo).toNat:Nat):Int) - ((0:Nat):Int)=Builtin.Range.rangeSize lo hi 1:=by rw[rangeSize_one];split<;>lia
  rw[e1,e2]
  exact aD _ rfl
 .have e:b=(s.heap.push { cls:=.type "range",data:=.fields #[.int lo t,.int hi u,.int 1 v]}).objs.size:=by simpa using hb
  subst e
  exact I1.zN (aq _) (I1.gT.fresh<|aq _)
def SA (ta:TA):TI:=λσ H R=>ta σ H λvs H1=>∃ j:Int,vs=[.int j] /\ -(2 ^ 62)<=j/\j<2 ^ 62/\R (Uk 0 j.toNat) H1
def Sz (ta:TA):TI:=λσ H R=>ta σ H λvs H1=>∃ i j:Int,vs=[.int i,.int j]/\(-(2 ^ 62)<=i/\i<2 ^ 62 /\ -(2 ^ 62)<=j/\j<2 ^ 62)/\R (Uk i (j - i).toNat) H1
def ED {a:Expr}{ta:TA}{p pos:Pos}(hg:Gl X "range")(hm:X.mg "range"=none)(ha:PA X [a] ta)(hs:starEach [a] X.env=[(false,eval a X.env)]:=by rfl):PI X tg (.Call (.Name "range" p) [a] [] pos) (SA ta):=by
 intro fb s σ H R I h;refine Call_ (ku I hg hm boot_range<|bh (hZ (ha pos fb s σ H _ I h) λus s1 h_=>fZ h_ λvs H1 I1 r1 q1=>?_) hs rfl);obtain⟨j,e,q1,q2,q⟩:=q1;subst e;cases r1 with
 | cons r rr =>cases rr;obtain⟨t,rfl⟩:=r;exact call_range_1 (yZ I1 (eZ _) (eZ _) q1 q2<|by simpa using q)
def EC {a b:Expr}{ta:TA}{p pos:Pos}(hg:Gl X "range")(hm:X.mg "range"=none)(ha:PA X [a,b] ta)(hs:starEach [a,b] X.env=[(false,eval a X.env),(false,eval b X.env)]:=by rfl)(sj:starEach [b] X.env=[(false,eval b X.env)]:=by rfl):
 PI X tg (.Call (.Name "range" p) [a,b] [] pos) (Sz ta):=by
 intro fb s σ H R I h;refine Call_ (ku I hg hm boot_range<|bh (hZ (ha pos fb s σ H _ I h) λus s1 h_=>fZ h_ λvs H1 I1 r1 q1=>?_) (by rw[hs,sj]) (by rw[sj];rfl));obtain⟨i,j,e,⟨q1,q2,q3,q4⟩,q⟩:=q1;subst e;cases r1 with
 | cons r rr =>
  cases rr with
  | cons r' rr =>cases rr;obtain⟨t,rfl⟩:=r;obtain⟨t',rfl⟩:=r';exact call_range_2 (yZ I1 q1 q2 q3 q4 q)
def Vp (wi:TI)(g:TG)(tb:TS):TS:=λD σ H=>wi σ H λJ H1=>∃ W:Nat->Nat->St->Hp->Prop,(∃ m,W 0 m σ H1)/\∀ i m σ H,W i m σ H ->
 (J.stop i H/\D.nx σ H)\/(J.go i H/\∃ N:St->Hp->Prop,(∀ iB H',N iB H'->∃ m',m'<m/\W (i+1) m' iB H')/\∀ x H',J.FZ i H x H'->g x σ H' λmY H2=>tb { D with nx:=N,ct:=N,bk:=D.nx} mY H2)
def rh (fp:ak ai)(h:Heap):ak (ai×Obj):=fp.filterMap λb=>(h.get? b).map λo=>(b,o)
def kr {fp:ak ai}{h:Heap}{b:ai}{o:Obj}(hb:b∈fp)(e:h.get? b=some o):(b,o)∈rh fp h:=List.mem_filterMap.mpr ⟨b,hb,by rw[e];rfl⟩
def EK {fp:ak ai}{h:Heap}{p:ai×Obj}(hp:p∈rh fp h):p.1∈fp/\h.get? p.1=some p.2:=by
 refine fj (List.mem_filterMap.mp hp) λb hb e=>?_;cases q:h.get? b with
 |none=>rw[q]at e;cases e
 | some o =>rw[q]at e;have e':(b,o)=p:=aU e;subst e';exact⟨hb,q⟩
def Inv.pinned {fb:ak (ai×Obj)}{σ:St}{H:Hp}{s:ah}{fp:ak ai}(I:Inv X fb σ H s)(hf:∀ b∈fp,jH X fb H b)(ho:∀ b∈fp,∃ o,s.heap.get? b=some o/\∀ v,o.data≠.cell v):Inv X (fb++rh fp s.heap) σ H s :=
 I.nh λp hp=>(List.mem_append.mp hp).elim (λz=>I.pin p<|aI _ z) λz=>by obtain⟨hb,e⟩:=EK z;refine z5 (hf p.1 hb) λf0 f1 f2 _=>?_;refine fj (ho p.1 hb) λo e' d=>?_;rw[e]at e';cases e';exact⟨e,f0,f1,f2,d⟩
def Inv.oa {fb pl:ak (ai×Obj)}{σ:St}{H:Hp}{s:ah}(I:Inv X (fb++pl) σ H s):Inv X fb σ H s:=I.nh λp hp=>I.pin p (aI _<|b9 _ hp)
def OK {iter:Expr}{body:ak Stmt}{wi:TI}{g:TG}{tb:TS}{pos:Pos}(hp:PassesOwn (model X.prog X.w) X.A X.env X.xe)(hc:X.gN=true)(hi:PI X tg iter wi)(hg:PG X tg g)(hb:yt X body tb)
 (hs:∀ x,foldedSetIterable iter X.env x=pure x:=by intro _;rfl):PS X (.For tg iter body [] pos) (Vp wi g tb):=by
 intro fb s σ H D I h;refine wpAny_For (hZ (hi fb s σ H _ I h) λv s1 h1=>hZ h1 λSu s2 h2=>?_) hs;obtain⟨it,fp,tn,J,H2,e,I2,T,M7,f2,W,⟨m0,w0⟩,turn⟩:=h2;subst e;have tT:∀ {H':Hp},(∀ b∈fp,H' b=none)->∀ b∈fp,jH X fb H' b:=λhn b hb=>⟨hn b hb,(f2 b hb).2⟩;refine codeAny_forLoop_any (λn s'=>∃ i iB H',Inv X fb iB H' s'/\tn i s'.heap/\(∀ b∈fp,H' b=none)/\W i n iB H') ?_ m0 ⟨0,σ,H2,I2,M7,λb hb=>(f2 b hb).1,w0⟩;refine λn s3 h_=>IS h_ λi B3 H3 I3 JW NC w3=>?_;rcases turn i n B3 H3 w3 with⟨stop,qn⟩|⟨go,N,hN,step⟩
 .refine cV hp (hZ (T.done X rfl rfl rfl hc i fb s3 B3 H3 X.xe I3 (tT NC) JW stop) λr s4 h_=>lQ h_ λhr I4=>?_);subst hr;exact wpAny_execs_nil ⟨B3,H3,I4,qn⟩
 .refine cV hp (hZ (T.item X rfl rfl rfl hc i fb s3 B3 H3 X.xe I3 (tT NC) JW go) λr s4 h_=>fj h_ λu hr h4=>?_);subst hr;refine cV hp (hZ h4 λ_ s5 h_=>Qu h_ λx H5 I5 r5 y5 Gw SY=>?_);have Uo:=I5.pinned (tT SY)<|T.obj _ _ Gw;refine cV hp (hZ (hg _ s5 B3 H5 x u _ Uo r5<|step x H5 y5) λ_ s6 h_=>nY h_ λJT H6 I6 q6=>?_);refine cV hp (hZ (hb _ s6 JT H6 _ I6 q6) λf s7 q7=>?_);have again:∀ {FQ:St} {H7:Hp},Inv X (fb++rh fp s5.heap) FQ H7 s7->N FQ H7->∃ m,m<n/\∃ i iB H',Inv X fb iB H' s7/\tn i s7.heap/\(∀ b∈fp,H' b=none)/\W i m iB H':=λ{FQ H7} I7 n7=>by refine fj (hN FQ H7 n7) λm' hm w7=>?_;refine⟨m',hm,i+1,FQ,H7,I7.oa,T.keep _ _ _ Gw λb hb o e=>(I7.pin (b,o)<|aI _<|aI _<|kr hb e).1,λb hb=>?_,w7⟩;refine fj (T.obj _ _ Gw b hb) λo e d=>?_;exact(I7.pin (b,o)<|aI _<|aI _<|kr hb e).2.1
  cases f with
  |next=>obtain⟨FQ,H7,I7,n7⟩:=q7;exact again I7 n7
  |cont=>obtain⟨FQ,H7,I7,n7⟩:=q7;exact again I7 n7
  |brk=>obtain⟨FQ,H7,I7,q7⟩:=q7;exact⟨FQ,H7,I7.oa,q7⟩
  |ret v=>obtain⟨x7,FQ,H7,I7,r7,q7⟩:=q7;exact⟨x7,FQ,H7,I7.oa,r7,q7⟩
end
abbrev R2:=V->V->Hp->VK->Prop
def jM (X:Cx)(f:aj->aj->Sem aj)(r:R2):Prop :=
 ∀(fb:ak (ai×Obj)) (s:ah) (σ:St) (H:Hp) (x y:V) (v u:aj) (Q:VK),Inv X fb σ H s->fW x v->fW y u->r x y H Q ->
  wpAny (model X.prog X.w) X.A (f v u) (EP X fb σ Q) X.xe s
def jd (X:Cx)(f:aj)(r:ak V->Hp->VK->Prop):Prop :=
 ∀(fb:ak (ai×Obj)) (s:ah) (σ:St) (H:Hp) (xs:ak V) (us:ak aj) (Q:VK),Inv X fb σ H s->fT xs us->r xs H Q ->
  wpAny (model X.prog X.w) X.A (call f us) (EP X fb σ Q) X.xe s
def RB (r:R2)(ta tb:TE):TE:=λσ H Q=>ta σ H λx H1=>tb σ H1 λy H2=>r x y H2 Q
def rI (C:Int->Int->Prop)(g:Int->Int->V):R2:=λx y H Q=>∃ i j,x=.int i/\y=.int j/\C i j/\Q (g i j) H
def K2 (g:Int->Int->V):R2:=λx y H Q=>∃ i j,x=.int i/\y=.int j/\Q (g i j) H
section
variable {X:Cx}{a b c:Expr}{ta tb tc:TE}{pos:Pos}
def Mr (ha:PE X a ta)(hb:PE X b tb){fb:ak (ai×Obj)}{s:ah}{σ:St}{H:Hp}{R:V->V->Hp->Prop}(I:Inv X fb σ H s)
 (h:ta σ H λx H1=>tb σ H1 λy H2=>R x y H2) {Q:aj->ah->Prop} {f:aj->aj->Sem aj}
 (hf:∀ v u s2 x y H2,Inv X fb σ H2 s2->fW x v->fW y u->R x y H2->wpAny (model X.prog X.w) X.A (f v u) Q X.xe s2):
 wpAny (model X.prog X.w) X.A (eval a X.env) (λv s₁=>wpAny (model X.prog X.w) X.A (eval b X.env) (λu s₂=>wpAny (model X.prog X.w) X.A (f v u) Q X.xe s₂) X.xe s₁) X.xe s:=by
 refine hZ (ha fb s σ H _ I h) λv s1 h_=>fZ h_ λx H1 I1 r1 q1=>?_;refine hZ (hb fb s1 σ H1 _ I1 q1) λu s2 h_=>fZ h_ λy H2 I2 r2 q2=>?_;exact hf v u s2 x y H2 I2 r1 r2 q2
def jJ {op:Operator}{r:R2}(ho:jM X (binaryOp op) r)(ha:PE X a ta)(hb:PE X b tb):PE X (.BinOp a op b pos) (RB r ta tb):=by intro fb s σ H Q I h;exact wpAny_BinOp (Mr ha hb I h λv u s2 x y H2 I2 rx ry q=>ho fb s2 σ H2 x y v u Q I2 rx ry q)
def Q5 {f:aj->aj->Sem aj}{C:Int->Int->Prop}{g:Int->Int->Int}
 (rule:∀(i j:Int) (t u:Tok) (s:ah) (Q:aj->ah->Prop) (E:aj->ah->Prop),C i j->Q (.int (g i j) s.toks) {s with toks:=s.toks+1}->wpAny (model X.prog X.w) X.A (f (.int i t)<|.int j u) Q E s):
 jM X f (rI C λi j=>.int<|g i j):=by
 intro fb s σ H x y v u Q I rx ry h;refine lP h λi j fV o7 hc q=>?_;subst fV;subst o7;obtain⟨t,rfl⟩:=rx;obtain⟨t',rfl⟩:=ry;exact rule i j t t' s _ _ hc ⟨.int<|g i j,H,I.tok _,⟨_,rfl⟩,q⟩
def Sb {f:aj->aj->Sem aj}{g:Int->Int->Int}
 (rule:∀(i j:Int) (t u:Tok) (s:ah) (Q:aj->ah->Prop) (E:aj->ah->Prop),Q (.int (g i j) s.toks) {s with toks:=s.toks+1}->wpAny (model X.prog X.w) X.A (f (.int i t)<|.int j u) Q E s):
 jM X f (K2 λi j=>.int<|g i j):=by
 intro fb s σ H x y v u Q I rx ry h;refine fZ h λi j fV o7 q=>?_;subst fV;subst o7;obtain⟨t,rfl⟩:=rx;obtain⟨t',rfl⟩:=ry;exact rule i j t t' s _ _ ⟨.int<|g i j,H,I.tok _,⟨_,rfl⟩,q⟩
def Lk {f:aj->aj->Sem aj}{g:Int->Int->Bool}
 (rule:∀(i j:Int) (t u:Tok) (s:ah) (Q:aj->ah->Prop) (E:aj->ah->Prop),Q (.bool<|g i j) s->wpAny (model X.prog X.w) X.A (f (.int i t)<|.int j u) Q E s):
 jM X f (K2 λi j=>.bl<|g i j):=by
 intro fb s σ H x y v u Q I rx ry h;refine fZ h λi j fV o7 q=>?_;subst fV;subst o7;obtain⟨t,rfl⟩:=rx;obtain⟨t',rfl⟩:=ry;exact rule i j t t' s _ _ ⟨.bl<|g i j,H,I,rfl,q⟩
def Ux (i j:Int):Prop:=0<j/\j<1073741824
def Uw (i j:Int):Prop:=0<=j/\j<=1000000/\i.natAbs<2 ^ 64
def JS (i j:Int):Prop:=(-(2 ^ 64)<i/\i<2 ^ 64)\/(-(2 ^ 64)<j/\j<2 ^ 64)
def JS.ok {i j:Int}(h:JS i j):IntMulOk i j:=by
 rcases h with⟨h1,h2⟩|⟨h1,h2⟩
 .exact .of_left (intBits_le_64 h1 h2)
 .exact .of_right (intBits_le_64 h1 h2)
def O1:jM X (binaryOp .Add) (K2 λi j=>.int<|i+j):=Sb λ_ _ _ _ _ _ _ q=>add_int q
def OV:jM X (binaryOp .Sub) (K2 λi j=>.int<|i - j):=Sb λ_ _ _ _ _ _ _ q=>sub_int q
def OY:jM X (binaryOp .Mult) (rI JS λi j=>.int<|i*j):=Q5 λ_ _ _ _ _ _ _ hc q=>mul_int q hc.ok
def Lj:jM X (binaryOp .FloorDiv) (rI Ux λi j=>.int<|i / j):=Q5 λi j _ _ _ _ _ hc q=>by have h1:(0:Int)<j:=hc.1;have h2:j<1073741824:=hc.2;exact floordiv_int (by lia) (by rw[Int.fdiv_eq_ediv_of_nonneg i (by lia)];exact q) (.inl<|PyProof.noPylong_small<|by lia)
def OZ:jM X (binaryOp .Mod) (rI (λ_ j=>0<j) λi j=>.int<|i%j):=Q5 λi j _ _ _ _ _ hc q=>by have h1:(0:Int)<j:=hc;exact mod_int' (by lia) (by rw[Int.fmod_eq_emod_of_nonneg i (by lia)];exact q)
def OW:jM X (binaryOp .Pow) (rI Uw λi j=>.int<|i ^ j.toNat):=Q5 λ_ _ _ _ _ _ _ hc q=>pow_int_small hc.1 hc.2.1 hc.2.2 q
end
def RO:V->V->Bool
 |.gz,.gz=>true|.gz,.int _=>true|.int _,.gz=>true|.gz,.bl _=>true|.bl _,.gz=>true|.gz,.str _=>true|.str _,.gz=>true
 |.int _,.int _=>true|.bl _,.bl _=>true|.str _,.str _=>true|.Ft _,.Ft _=>true
 |.int _,.str _=>true|.str _,.int _=>true|.bl _,.str _=>true|.str _,.bl _=>true
 |_,_=>false
def rEq:R2:=λx y H Q=>RO x y=true/\Q (.bl<|decide (x=y)) H
def rNe:R2:=λx y H Q=>RO x y=true/\Q (.bl<|!decide (x=y)) H
def DS {i j:Int}:decide (V.int i=V.int j)=(i==j):=by rw[dQ];simp
def Jh {i j:Bool}:decide (V.bl i=V.bl j)=(i==j):=by rw[dQ];simp
def DR {i j:Str}:decide (V.str i=V.str j)=(i==j):=by rw[dQ];simp
def DT {i j:Array UInt8}:decide (V.Ft i=V.Ft j)=(i.toList==j.toList):=by rw[dQ];cases i;cases j;simp
section
variable {X:Cx}{a b c:Expr}{ta tb tc:TE}{pos:Pos}
def gJ {fb:ak (ai×Obj)}{σ:St}{H:Hp}{s:ah}{Q:VK}{k k':Bool}(I:Inv X fb σ H s)(q:Q (.bl k) H)(e:k=k'):EP X fb σ Q (.bool k') s:=by subst e;exact⟨.bl k,H,I,rfl,q⟩
def Nm:jM X (compareOp .Eq) rEq:=by
 intro fb s σ H x y v u Q I rx ry h;obtain⟨hs,q⟩:=h;cases x with
 | gz =>
  cases rx;cases y with
  |gz=>subst ry;exact PySem.EqNone.eq_none_none (gJ I q<|by simp)
  |bl j=>subst ry;exact PySem.EqNone.eq_none_bool (gJ I q<|by simp)
  |int j=>obtain⟨t',rfl⟩:=ry;exact PySem.EqNone.eq_none_int (gJ I q<|by simp)
  |str j=>obtain⟨t',rfl⟩:=ry;exact PySem.EqNone.eq_none_str (gJ I q<|by simp)
  |_=>exact absurd (show false=true from hs) aJ
 | bl i =>
  subst rx;cases y with
  |gz=>subst ry;exact PySem.EqNone.eq_bool_none (gJ I q<|by simp)
  |bl j=>cases ry;exact eq_bool (gJ I q Jh)
  |str j=>obtain⟨t',rfl⟩:=ry;exact PySem.EqMixed.eq_bool_str (gJ I q<|by simp)
  |_=>exact absurd (show false=true from hs) aJ
 | int i =>
  obtain⟨t,rfl⟩:=rx;cases y with
  |gz=>cases ry;exact PySem.EqNone.eq_int_none (gJ I q<|by simp)
  |int j=>obtain⟨t',rfl⟩:=ry;exact eq_int (gJ I q DS)
  |str j=>obtain⟨t',rfl⟩:=ry;exact PySem.EqMixed.eq_int_str (gJ I q<|by simp)
  |_=>exact absurd (show false=true from hs) aJ
 | str i =>
  obtain⟨t,rfl⟩:=rx;cases y with
  |gz=>cases ry;exact PySem.EqNone.eq_str_none (gJ I q<|by simp)
  |bl j=>cases ry;exact PySem.EqMixed.eq_str_bool (gJ I q<|by simp)
  |int j=>obtain⟨t',rfl⟩:=ry;exact PySem.EqMixed.eq_str_int (gJ I q<|by simp)
  |str j=>obtain⟨t',rfl⟩:=ry;exact eq_str (gJ I q DR)
  |_=>exact absurd (show false=true from hs) aJ
 | Ft i =>
  obtain⟨t,rfl⟩:=rx;cases y with
  |Ft j=>obtain⟨t',rfl⟩:=ry;exact W.eq_bytes (gJ I q DT)
  |_=>exact absurd (show false=true from hs) aJ
 |_=>cases y<;>exact absurd (show false=true from hs) aJ
def R6:jM X (compareOp .NotEq) rNe:=by
 intro fb s σ H x y v u Q I rx ry h;obtain⟨hs,q⟩:=h;cases x with
 | gz =>
  cases rx;cases y with
  |gz=>subst ry;exact PySem.EqNone.ne_none_none (gJ I q<|by simp)
  |bl j=>subst ry;exact PySem.EqNone.ne_none_bool (gJ I q<|by simp)
  |int j=>obtain⟨t',rfl⟩:=ry;exact PySem.EqNone.ne_none_int (gJ I q<|by simp)
  |str j=>obtain⟨t',rfl⟩:=ry;exact PySem.EqNone.ne_none_str (gJ I q<|by simp)
  |_=>exact absurd (show false=true from hs) aJ
 | bl i =>
  subst rx;cases y with
  |gz=>subst ry;exact PySem.EqNone.ne_bool_none (gJ I q<|by simp)
  |bl j=>subst ry;exact ne_bool (gJ I q<|cq not Jh)
  |str j=>obtain⟨t',rfl⟩:=ry;exact PySem.EqMixed.ne_bool_str (gJ I q<|by simp)
  |_=>exact absurd (show false=true from hs) aJ
 | int i =>
  obtain⟨t,rfl⟩:=rx;cases y with
  |gz=>subst ry;exact PySem.EqNone.ne_int_none (gJ I q<|by simp)
  |int j=>obtain⟨t',rfl⟩:=ry;exact ne_int (gJ I q<|cq not DS)
  |str j=>obtain⟨t',rfl⟩:=ry;exact PySem.EqMixed.ne_int_str (gJ I q<|by simp)
  |_=>exact absurd (show false=true from hs) aJ
 | str i =>
  obtain⟨t,rfl⟩:=rx;cases y with
  |gz=>cases ry;exact PySem.EqNone.ne_str_none (gJ I q<|by simp)
  |bl j=>cases ry;exact PySem.EqMixed.ne_str_bool (gJ I q<|by simp)
  |int j=>obtain⟨t',rfl⟩:=ry;exact PySem.EqMixed.ne_str_int (gJ I q<|by simp)
  |str j=>obtain⟨t',rfl⟩:=ry;exact ne_str (gJ I q<|cq not DR)
  |_=>exact absurd (show false=true from hs) aJ
 | Ft i =>
  obtain⟨t,rfl⟩:=rx;cases y with
  |Ft j=>obtain⟨t',rfl⟩:=ry;exact W.ne_bytes (gJ I q<|cq not DT)
  |_=>exact absurd (show false=true from hs) aJ
 |_=>cases y<;>exact absurd (show false=true from hs) aJ
def R7:jM X (compareOp .Lt) (K2 λi j=>.bl<|decide (i<j)):=Lk λ_ _ _ _ _ _ _ q=>lt_int q
def R8:jM X (compareOp .LtE) (K2 λi j=>.bl<|decide (i<=j)):=Lk λ_ _ _ _ _ _ _ q=>le_int q
def R9:jM X (compareOp .Gt) (K2 λi j=>.bl<|decide (j<i)):=Lk λ_ _ _ _ _ _ _ q=>gt_int q
def Sa:jM X (compareOp .GtE) (K2 λi j=>.bl<|decide (j<=i)):=Lk λ_ _ _ _ _ _ _ q=>ge_int q
def EG:jM X (compareOp .In) (λx y H Q=>∃ i j,x=.str i/\y=.str j/\Q (.bl<|!(Builtin.Str.occurrences j i 0 j.length 1).isEmpty) H):=by intro fb s σ H x y v u Q I rx ry h;refine fZ h λi j fV o7 q=>?_;subst fV;subst o7;obtain⟨t,rfl⟩:=rx;obtain⟨t',rfl⟩:=ry;exact in_str (gJ I q rfl)
def jM.or {f:aj->aj->Sem aj}{r r':R2}(h:jM X f r)(h':jM X f r'):jM X f (λx y H Q=>r x y H Q\/r' x y H Q):=by
 intro fb s σ H x y v u Q I rx ry q;rcases q with q|q
 .exact h fb s σ H x y v u Q I rx ry q
 .exact h' fb s σ H x y v u Q I rx ry q
def i0 (b:Expr){op:CmpOp}(h:op≠.In:=by decide)(h2:op≠.NotIn:=by decide):behindInMarks op b=false:=by
 have e1:(op==CmpOp.In)=false:=by cases op<;>first|rfl|exact absurd rfl h
 have e2:(op==CmpOp.NotIn)=false:=by cases op<;>first|rfl|exact absurd rfl h2
 cases b<;>simp[behindInMarks,e1,e2]
def sW {op:CmpOp}{r:R2}(ho:jM X (compareOp op) r)(ha:PE X a ta)(hb:PE X b tb)(hm:behindInMarks op b=false):PE X (.Compare a [op] [b] pos) (RB r ta tb):=by intro fb s σ H Q I h;exact wpAny_Compare1 (Mr ha hb I h λv u s2 x y H2 I2 rx ry q=>ho fb s2 σ H2 x y v u Q I2 rx ry q) hm
def pR:(sizeLine:Nat)<2 ^ 63:=by rw[sizeLine_eq];decide
def A5:jM X (binaryOp .Add) (λx y H Q=>∃ i j,x=.str i/\y=.str j/\i.length+j.length<=sizeLine/\Q (.str<|i++j) H):=by intro fb s σ H x y v u Q I rx ry h;refine lP h λi j fV o7 hz q=>?_;subst fV;subst o7;obtain⟨t,rfl⟩:=rx;obtain⟨t',rfl⟩:=ry;exact add_str (λt' tk=>⟨.str<|i++j,H,I.tok _,⟨_,rfl⟩,q⟩) hz
def vals1 {x:V}{us:ak aj}(r:fT [x] us):∃ u,us=[u]/\fW x u:=by
 cases r with
 |cons r1 r2=>cases r2;exact⟨_,rfl,r1⟩
def vals2 {x y:V}{us:ak aj}(r:fT [x,y] us):∃ u w',us=[u,w']/\fW x u/\fW y w':=by
 cases r with
 | cons r1 r2 =>
  cases r2 with
  |cons r3 r4=>cases r4;exact⟨_,_,rfl,r1,r3⟩
def Fs (hc:X.gN=true):jd X (.builtin "max") (λxs H Q=>∃ i j,xs=[.int i,.int j]/\Q (.int<|if j>i then j else i) H):=by
 intro fb s σ H xs us Q I r h;refine nY h λi j fV q=>?_;subst fV;obtain⟨u,w',rfl,⟨t,rfl⟩,⟨t',rfl⟩⟩:=vals2 r;refine max_two_ints (I.ok.hd hc) λh' tk k=>⟨_,H,I.iC k,?_,q⟩;by_cases hj:j>i
 .rw[aA hj,aA hj];exact⟨_,rfl⟩
 .rw[aC hj,aC hj];exact⟨_,rfl⟩
end
structure BX (h:Heap)(x dx C:ai)(mA:Str->Option aj):Prop where
 obj:h.get? x=some (W.instObj C dx)
 ns:h.Ns1 dx mA
 ne:dx≠x
def ET {h:Heap}{dx:ai}{mA:Str->ao aj}(n:h.Ns1 dx mA):∃ od,h.get? dx=some od/\∀ name,W.lookIn name od=some (mA name):=by
 refine IQ n λo es ep ho hd hk _ hm=>?_;refine⟨o,ho,λname=>?_⟩;have e:=hm name;unfold nsFind findBy at e;rw[<- Array.find?_toList]at e;delta W.lookIn;rw[hd];dsimp only;split
 .rename_i y q;rw[q]at e;exact cq some e
 .rename_i q;rw[q]at e;have a:es.toList.any (·.refKey)=false:=by rw[eJ];intro y hy;refine Xb (hk y<|Array.mem_toList_iff.mp hy) λz t Wt=>?_;simp[DictEntry.refKey,Wt]
  have a':¬ es.toList.any (·.refKey)=true:=a▸aJ;rw[aC a'];exact cq some e
def BX.look {h:Heap}{x dx C:ai}{mA:Str->ao aj}(I:BX h x dx C mA):∃ od,W.InstAt h x (W.instObj C dx) C (some od)/\∀ name,W.lookIn name od=some (mA name) :=
 fj (ET I.ns) λod ho hl=>⟨od,⟨I.obj,rfl,rfl,ho⟩,hl⟩
section
variable {prog:ae}{w:af}{A:Around}{E:aj->ah->Prop}{s:ah}{K:aa}{x dx C f:ai}{mA:Str->ao aj}{name:Str}{v:aj}
def get_map {expr:Bool}{Q:aj->ah->Prop}(X:K.In s.heap)(I:BX s.heap x dx C mA)(hg:W.plainGet K C name=true)(hh:W.hasDictIn K C=true)
 (ha:W.findIn K (.ref C) name=some none) (hv:mA name=some v) (CW:W.handedIn v=true) (h:Q v {s with toks:=s.toks+1}):
 wpAny (model prog w) A (getAttr (.ref x) name expr) Q E s:=by
 refine fj I.look λod J hl=>?_;exact W.get_value X J (W.plainGet_of hg).1 (W.findObj_own hh ha rfl (by rw[hl,hv])) CW h
def Ii {pl:Sem Bool}{Q:aj×ak aj->ah->Prop}(X:K.In s.heap)(I:BX s.heap x dx C mA)(hg:W.plainGet K C name=true)
 (hf:W.findIn K (.ref C) name=some (some<|.ref f)) (ht:W.isFn K (.ref f)=true) (hv:mA name=none) (h:Q (.ref f,[.ref x]) s):
 wpAny (model prog w) A (getMethod (.ref x) name pl) Q E s:=by
 refine fj I.look λod J hl=>?_;exact W.method_fn X J (W.plainGet_of hg).1 (W.plainGet_of hg).2 hf (beq_iff_eq.mp ht) (by show(W.lookIn name od).map (·.isSome)=some false;rw[hl,hv];rfl) h
def KU {ns:ak Str}{Q:Unit->ah->Prop}(X:K.In s.heap)(I:BX s.heap x dx C mA)
 (hs:W.findIn K (.ref C) "__setattr__"=some (some<|.builtin "object.__setattr__")) (hp:W.plainOver K C=true) (ht:W.takerIn K C name=some none) (hh:W.hasDictIn K C=true)
 (hw:PySem.Within mA ns) (hsz:ns.length<=sizeLine)
 (h:∀ h',BX h' x dx C (λy=>if y=name then some v else mA y)->Heap.SameBut dx s.heap h'->Q () {s with heap:=h',toks:=s.toks+2}):
 wpAny (model prog w) A (setAttr (.ref x) name v) Q E s:=by
 refine fj I.look λod J hl=>?_;refine W.set_plain X J hs (W.osa_open (s:={s with toks:=s.toks+1}) (r:=none) X J hp ht λb=>?_);refine fj (W.any_some hh) λcd hc Ic=>?_;have hx:s.heap.get? x=some ⟨.ref C,some dx,.plain,#[]⟩:=I.obj;refine fH<|av<|fH<|fH<|wpAny_loadPart hx<|fH<|W.Looks.here (s:={s with toks:=s.toks+1}) (W.looks_clsIn X hc) ?_;rw[Ic];refine av (a:=some dx)<|fH<|av<|fH ?_;refine wpAny_nsSet1 (s:={s with toks:=s.toks+1}) I.ns λh' FG sj=>?_;refine IT (FG.count<|PySem.Within.cons name v hw) λoD esD epD hoD hdD hcD=>?_;refine fH (wpAny_lookBehind hoD (hdD▸pastItsLine_dict (aK hcD (by rw[aE];lia))) ?_);exact av (h _ ⟨(sj.2 _<|bJ I.ne).trans I.obj,FG,I.ne⟩ sj)
def HA {R:Result->ah->Prop}{vs:ak aj}{kw:ak (Str×aj)}(X:K.In s.heap)(hm:W.makesIn K C=true)
 (hi:W.findIn K (.ref C) "__init__"=some (some<|.ref f)) (hf:W.typeIn K (.ref f)=some (.type "function"))
 (h:codeAny (model prog w) (A.under<|.builtin "type.__call__" ⟨.ref C::vs,kw⟩) (.call (.ref f) ⟨.ref (s.heap.objs.size+1)::vs,kw⟩) (W.InitBack (s.heap.objs.size+1) R)
   {s with heap:=(s.heap.push W.emptyDict).push (W.instObj C s.heap.objs.size)}):
 codeAny (model prog w) A (.call (.ref C) ⟨vs,kw⟩) R s:=by
 obtain⟨hh,g,d,t,os⟩:=s;exact W.make_core (W.makes_of X hm) (W.looks_findIn X hi) (λself=>W.bind_fn X self hf) (.inl rfl) h
end
def ng (f:Str)(v:V):ak (Str×V)->ak (Str×V)
 |[]=>[(f,v)]
 |(g,x)::r=>if g=f then(g,v)::r else(g,x)::ng f v r
theorem r8 (f g:Str)(v:V):∀ fs:ak (Str×V),(ng f v fs).lookup g=if g=f then some v else fs.lookup g
 | []=>by
  show List.lookup g [(f,v)]=_;by_cases h:g=f
  .have hb:(g==f)=true:=beq_iff_eq.mpr h;simp only[List.lookup,hb,aA h]
  .have hb:(g==f)=false:=beq_eq_false_iff_ne.mpr h;simp only[List.lookup,hb,aC h]
 | (k,x)::r=>by
  have ih:=r8 f g v r;rw[show ng f v ((k,x)::r)=(if k=f then(k,v)::r else(k,x)::ng f v r)from rfl];by_cases hk:k=f
  .rw[aA hk];by_cases h:g=k
   .have hb:(g==k)=true:=beq_iff_eq.mpr h;simp only[List.lookup,hb,aA (h.trans hk)]
   .have hb:(g==k)=false:=beq_eq_false_iff_ne.mpr h;simp only[List.lookup,hb,aC (λe:g=f=>h<|e.trans hk.symm)]
  .rw[aC hk];by_cases h:g=k
   .have hb:(g==k)=true:=beq_iff_eq.mpr h;simp only[List.lookup,hb,aC (λe:g=f=>hk<|h.symm.trans e)]
   .have hb:(g==k)=false:=beq_eq_false_iff_ne.mpr h;simp only[List.lookup,hb];exact ih
theorem rm (f:Str)(v:V):∀ fs:ak (Str×V),f∈(ng f v fs).map (·.1)/\∀ g,g∈fs.map (·.1)->g∈(ng f v fs).map (·.1)
 |[]=>⟨by simp[ng],λg h=>by simp at h⟩
 | (k,x)::r=>by
  obtain⟨i1,i2⟩:=rm f v r;rw[show ng f v ((k,x)::r)=(if k=f then(k,v)::r else(k,x)::ng f v r)from rfl];by_cases hk:k=f
  .rw[aA hk];subst hk;exact⟨by simp,λg h=>by simpa using h⟩
  .rw[aC hk];refine⟨?_,λg h=>?_⟩
   .rw[az];exact mQ _ i1
   .rw[az]at h ⊢
    rcases List.mem_cons.mp h with e|e
    .exact List.mem_cons.mpr (.inl e)
    .exact mQ _ (i2 g e)
theorem se (f:Str)(v:V):∀ fs:ak (Str×V),(ng f v fs).length<=fs.length+1
 |[]=>by simp[ng]
 | (k,x)::r=>by
  have ih:=se f v r;rw[show ng f v ((k,x)::r)=(if k=f then(k,v)::r else(k,x)::ng f v r)from rfl];by_cases hk:k=f
  .rw[aA hk,aE,aE];lia
  .rw[aC hk,aE,aE];lia
def p6.some_of {v:V}{o:ao aj}(r:p6 (some v) o):∃ u,o=some u/\fW v u:=by
 cases o with
 |none=>exact(show False from r).elim
 |some u=>exact⟨u,rfl,r⟩
def p6.none_of {o:ao aj}(r:p6 none o):o=none:=by
 cases o with
 |none=>rfl
 |some u=>exact(show False from r).elim
def Fe {v:V}{u:aj}(r:fW v u):W.handedIn u=true:=by
 cases v with
 |gz=>cases(show u=Value.none from r);rfl
 |bl b=>cases(show u=Value.bool b from r);rfl
 |int i=>obtain⟨t,e⟩:=(show ∃ t,u=Value.int i t from r);subst e;rfl
 |str x=>obtain⟨t,e⟩:=(show ∃ t,u=Value.str x t from r);subst e;rfl
 |Ft b=>obtain⟨t,e⟩:=(show ∃ t,u=Value.bytes b t from r);subst e;rfl
 |NF b=>obtain⟨t,e⟩:=(show ∃ t,u=Value.float b t from r);subst e;rfl
 |ref a=>cases(show u=Value.ref a from r);rfl
 |ty n=>cases(show u=Value.type n from r);rfl
section
variable {P:ae}{w:af}{H H':Hp}{h h':Heap}{a C dx:ai}{fs fs':ak (Str×V)}
def tw (gT:o6 P w H h)(e:H a=some (.ins C dx fs)):∃ mA,BX h a dx C mA/\(∀ f,p6 (fs.lookup f) (mA f))/\PySem.Within mA (fs.map (·.1))/\fs.length<=1000/\H dx=some (.own a):=by obtain⟨d,z,ne,ob,mA,n,r,q⟩:=(show iS P w H h a (.ins C dx fs)from gT a _ e);exact⟨mA,⟨ob,n,ne⟩,r,q,z,d⟩
end
structure Eg (K:aa)(C:ai):Prop where
 pg:W.plainGet K C Str.empty=true
 hd:W.hasDictIn K C=true
 po:W.plainOver K C=true
 sa:W.findIn K (.ref C) "__setattr__"=some (some<|.builtin "object.__setattr__")
def Eg.get {K:aa}{C:ai}(c:Eg K C)(f:Str):W.plainGet K C f=true:=c.pg
def oI (K:aa)(C:ai)(f:Str):Prop:=W.findIn K (.ref C) f=some none
def oI.Rz {K:aa}{C:ai}{f:Str}(n:oI K C f):W.takerIn K C f=some none:=by delta W.takerIn;rw[show W.findIn K (.ref C) f=some none from n];rfl
structure Meth (K:aa)(C:ai)(m:Str)(f:ai):Prop where
 at_:W.findIn K (.ref C) m=some (some<|.ref f)
 fn:W.isFn K (.ref f)=true
 kp:W.keepIn K (.ref f)=true
section
variable {X:Cx}{fb:ak (ai×Obj)}{σ:St}{H:Hp}{s:ah}{a C dx:ai}{fs:ak (Str×V)}{f:Str}{v:V}{A:Around}{E:aj->ah->Prop}
def BC {b:Bool}{Q:aj->ah->Prop}(I:Inv X fb σ H s)(e:H a=some (.ins C dx fs))(c:Eg X.K C)(n:oI X.K C f)(l:fs.lookup f=some v)
 (h:∀ u s',Inv X fb σ H s'->fW v u->Q u s'):wpAny (model X.prog X.w) A (getAttr (.ref a) f b) Q E s:=by
 refine Qv (tw I.gT e) λmA O r _ _ _=>?_;refine fj (p6.some_of (v:=v) (o:=mA f)<|l▸r f) λu hu ru=>?_;exact get_map I.sL O (c.get f) c.hd n hu (Fe ru) (h u _ (I.tok _) ru)
def uu {m:Str}{g:ai}{pl:Sem Bool}{Q:aj×ak aj->ah->Prop}(I:Inv X fb σ H s)(e:H a=some (.ins C dx fs))(c:Eg X.K C)(k:Meth X.K C m g)(l:fs.lookup m=none)
 (h:Q (.ref g,[.ref a]) s):wpAny (model X.prog X.w) A (getMethod (.ref a) m pl) Q E s:=by
 refine Qv (tw I.gT e) λmA O r _ _ _=>?_;have hn:mA m=none:=p6.none_of<|l▸r m;exact Ii I.sL O (c.get m) k.at_ k.fn hn h
def AQ {y:V}{u:aj}{Q:Unit->ah->Prop}(I:Inv X fb σ H s)(e:H a=some (.ins C dx fs))(c:Eg X.K C)(n:oI X.K C f)(hl:fs.length<1000)(ry:fW y u)
 (h:∀ s',Inv X fb σ (upd H a<|.ins C dx<|ng f y fs) s'->Q () s'):wpAny (model X.prog X.w) A (setAttr (.ref a) f u) Q E s:=by
 refine Qv (tw I.gT e) λmA O r wi _ ho=>?_;have hz:(fs.map (·.1)).length<=sizeLine:=by rw[gQ,sizeLine_eq];lia
 refine KU I.sL O c.sa c.po n.Rz c.hd wi hz λh' O' sb=>h _ ?_;have hd:∃ o,h'.get? dx=some o:=let ⟨o,_,_,e',_⟩:=O'.ns;⟨o,e'⟩
 refine I.write (x:=a) (e:=dx) (e▸True.intro) (.inr ho) (λb q hb z=>(sb.2 b hb).trans z) hd ?_;refine⟨by rw[fS O.ne];exact ho,?_,O.ne,O'.obj,_,O'.ns,λg=>?_,λg hg=>?_⟩
 .have:=se f y fs;lia
 .rw[r8];by_cases q:g=f
  .rw[aA q,aA q];exact ry
  .rw[aC q,aC q];exact r g
 .by_cases q:g=f
  .rw[q];exact(rm f y fs).1
  .refine(rm f y fs).2 g (wi g λz=>hg ?_);show(if g=f then some u else mA g)=none;rw[aC q];exact z
def Inv.made (I:Inv X fb σ H s):Inv X fb σ (upd (upd H s.heap.objs.size<|.own<|s.heap.objs.size+1) (s.heap.objs.size+1)<|.ins C s.heap.objs.size [])
 {s with heap:=(s.heap.push W.emptyDict).push (W.instObj C s.heap.objs.size)}:=by
 have e1:(s.heap.push W.emptyDict).get? s.heap.objs.size=some W.emptyDict:=aD s.heap rfl;have e2:((s.heap.push W.emptyDict).push<|W.instObj C s.heap.objs.size).get? (s.heap.objs.size+1)=some (W.instObj C s.heap.objs.size):=by have:=aD (s.heap.push W.emptyDict) (o:=W.instObj C s.heap.objs.size) rfl;rwa [aX]at this
 have e3:(s.heap.push W.emptyDict).Ns s.heap.objs.size (λ_=>none):=⟨W.emptyDict,#[],_,e1,rfl,(λe he=>absurd he<|by simp),λ_=>rfl⟩;have I1:=I.laid (a:=s.heap.objs.size) (o:=.own<|s.heap.objs.size+1) (h':=s.heap.push W.emptyDict) (t':=s.toks) (λb u q=>jx _ q) (aq _) ⟨_,e1⟩;refine I1.laid (a:=s.heap.objs.size+1) (o:=.ins C s.heap.objs.size []) (t':=s.toks) (λb u q=>jx _ q) (Nat.le_of_eq<|aX _ _) ?_;have ne:s.heap.objs.size≠s.heap.objs.size+1:=aw<|bQ _;refine⟨by rw[fS ne,fF],aS _,ne,e2,λ_=>none,(Heap.Ns1.of_empty e3).at λo q=>jx _ q,λ_=>True.intro,λy hy=>absurd rfl hy⟩
def Mt {prog:ae}{w:af}{env:Env}{e:Expr}{f:Str}{pos:Pos}{s:ah}{Q:aj->ah->Prop}(hb:attributeBase e f env (eval e env)=eval e env)
 (h:wpAny (model prog w) A (eval e env) (λo s₁=>wpAny (model prog w) A (getAttr o f true) Q E s₁) E s):wpAny (model prog w) A (eval (.Attribute e f pos) env) Q E s:=
 Attribute_any_ h (by rw[arm_eval_Attribute,hb])
end
def Vq (K:aa)(ta:TE)(f:Str):TE:=λσ H Q=>ta σ H λx H1=>∃ a C dx fs v,x=.ref a/\H1 a=some (.ins C dx fs)/\Eg K C/\oI K C f/\fs.lookup f=some v/\Q v H1
def VE (K:aa)(ta tv:TE)(f:Str):TS:=λD σ H=>tv σ H λy H1=>ta σ H1 λx H2=>∃ a C dx fs,x=.ref a/\H2 a=some (.ins C dx fs)/\Eg K C/\oI K C f/\fs.length<1000 /\
 D.nx σ (upd H2 a<|.ins C dx<|ng f y fs)
section
variable {X:Cx}{o e value:Expr}{f:Str}{pos pos' mn:Pos}{ta tv:TE}
def OS (he:PE X e ta)(hb:attributeBase e f X.env (eval e X.env)=eval e X.env):PE X (.Attribute e f pos) (Vq X.K ta f):=by intro fb s σ H Q I h;refine Mt hb (hZ (he fb s σ H _ I h) λu s1 LP=>?_);obtain⟨x,H1,I1,rx,a,C,dx,fs,v,ex,ea,c,n,l,q⟩:=LP;subst ex;obtain rfl:u=Value.ref a:=rx;exact BC I1 ea c n l λu' s2 I2 ru=>⟨v,H1,I2,ru,q⟩
def OL (ha:PE X o ta)(hv:PE X value tv)(hs:swapsWith value (some<|.Attribute o f pos') pos.line X.env=pure false):PS X (.Assign [.Attribute o f pos'] value pos) (VE X.K ta tv f):=by intro fb s σ H D I h;refine plainObj_wpAny_Assign_Attribute (hZ (hv fb s σ H _ I h) λu s1 h_=>fZ h_ λy H1 I1 ry q=>hZ (ha fb s1 σ H1 _ I1 q) λov s2 HX=>?_) hs;obtain⟨x,H2,I2,rx,a,C,dx,fs,ex,ea,c,n,l,q2⟩:=HX;subst ex;obtain rfl:ov=Value.ref a:=rx;exact AQ I2 ea c n l ry λs3 I3=>⟨σ,_,I3,q2⟩
def Nq {pl:Sem Bool}{m:Str}{mW:Pos}{args:ak Expr}{fb:ak (ai×Obj)}{s:ah}{σ:St}{H:Hp}{Q:aj->ah->Prop}{te:TE}(he:PE X e te)(I:Inv X fb σ H s)
 (h:te σ H λx H1=>∃ a C dx fs g,x=.ref a/\H1 a=some (.ins C dx fs)/\Eg X.K C/\Meth X.K C m g/\fs.lookup m=none /\
   ∀ s1,Inv X fb σ H1 s1->wpAny (model X.prog X.w) X.A (callWith pos (.ref g) [.ref a] (backTo pos<|starEach args X.env)<|backToKw pos<|keywordEach [] X.env) Q X.xe s1)
 (ht:eval (.Call (.Attribute e m mW) args [] pos) X.env=(do
   let ov <- eval e X.env
   standAt mW.atName
   let (f,first) <- holding [ov] (getMethod ov m pl)
   callWith pos f first (backTo pos<|starEach args X.env) (backToKw pos<|keywordEach [] X.env))):
 wpAny (model X.prog X.w) X.A (eval (.Call (.Attribute e m mW) args [] pos) X.env) Q X.xe s:=by
 refine W.methodCall_KW (pl:=pl) (hZ (he fb s σ H _ I h) λu s1 HW=>?_) ht;obtain⟨x,H1,I1,rx,a,C,dx,fs,g,ex,ea,c,k,l,q⟩:=HW;subst ex;obtain rfl:u=Value.ref a:=rx;exact uu I1 ea c k l (q s1 I1)
end
section
variable {X:Cx}{fb:ak (ai×Obj)}{σ:St}{H:Hp}{s:ah}{A:Around}{E:aj->ah->Prop}{Q:aj->ah->Prop}{c:aj}{b:Bool}
inductive jw (K:aa)(H:Hp):V->aj->Prop where
 |gz:jw K H .gz (.type "NoneType")
 |bl (x:Bool):jw K H (.bl x) (.type "bool")
 |int (i:Int):jw K H (.int i) (.type "int")
 |str (x:Str):jw K H (.str x) (.type "str")
 |NF (x:UInt64):jw K H (.NF x) (.type "float")
 |lst {a:ai} {xs:List V} (e:H a=some (.lst xs)):jw K H (.ref a) (.type "list")
 |zM {a:ai} {o:Obj} {xs:List V} (e:H a=some (.zM o<|.lst xs)):jw K H (.ref a) (.type "list")
 |tup {a:ai} {xs:List V} (e:H a=some (.tup xs)):jw K H (.ref a) (.type "tuple")
 |dK {a:ai} {fw:List (Key×V)} (e:H a=some (.dK fw)):jw K H (.ref a) (.type "dict")
 |dT {a:ai} {fw:List (List Key×V)} (e:H a=some (.dT fw)):jw K H (.ref a) (.type "dict")
 | ins {a C dx:ai} {fs:List (Str×V)} (e:H a=some (.ins C dx fs)) (cl:Eg K C) (ha:W.findIn K (.ref C) "__class__"=some (some<|.builtin "object.__class__"))
  (hn:W.specialIn K (.builtin "object.__class__") "__get__"=some (some<|.builtin "getset_descriptor.__get__")) (Ym:W.takesIn K (.builtin "object.__class__")=some true)
  (hm:W.mroIn K C (.type "object")=some true):jw K H (.ref a) (.ref C)
def EZ {x:V}{u t:aj}(I:Inv X fb σ H s)(rx:fW x u)(ty:jw X.K H x t)(e:W.kitOne X.K t c=some b)(h:∀ tk,Q (.bool b) { s with toks:=tk}):
 wpAny (model X.prog X.w) A (call (.builtin "isinstance") [u,c]) Q E s:=by
 cases ty with
 |gz=>cases(show u=Value.none from rx);exact dk W.kitx_none I.sL True.intro e (λz=>nomatch z) h
 |bl y=>cases(show u=Value.bool y from rx);exact dk W.kitx_bool I.sL True.intro e (λz=>nomatch z) h
 |int i=>obtain⟨t,q⟩:=(show ∃ t,u=Value.int i t from rx);subst q;exact dk W.kitx_int I.sL True.intro e (λz=>nomatch z) h
 |str y=>obtain⟨t,q⟩:=(show ∃ t,u=Value.str y t from rx);subst q;exact dk W.kitx_str I.sL True.intro e (λz=>nomatch z) h
 |NF y=>obtain⟨t,q⟩:=(show ∃ t,u=Value.float y t from rx);subst q;exact dk W.kitx_float I.sL True.intro e (λz=>nomatch z) h
 | @lst a xs ea =>cases(show u=Value.ref a from rx);obtain⟨_,_,n,_,h1⟩:=(show iS X.prog X.w H s.heap a (.lst xs)from I.gT a _ ea);exact dk W.kitx_list I.sL ⟨_,h1,rfl⟩ e (λz=>nomatch z) h
 | @zM a ob xs ea =>cases(show u=Value.ref a from rx);obtain⟨_,_,_,n,_,h1⟩:=(show iS X.prog X.w H s.heap a (.zM ob<|.lst xs)from I.gT a _ ea);exact dk W.kitx_list I.sL ⟨_,h1,rfl⟩ e (λz=>nomatch z) h
 | @tup a xs ea =>cases(show u=Value.ref a from rx);obtain⟨_,_,_,p⟩:=(show iS X.prog X.w H s.heap a (.tup xs)from I.gT a _ ea);refine jB p λo h1 h2 _=>?_;exact dk W.kitx_tuple I.sL ⟨o,h1,h2⟩ e (λz=>nomatch z) h
 | @dK a fw ea =>cases(show u=Value.ref a from rx);obtain⟨_,_,vs,_,p⟩:=(show iS X.prog X.w H s.heap a (.dK fw)from I.gT a _ ea);refine IT p λo es ep h1 h2 _=>?_;exact dk W.kitx_dict I.sL ⟨o,h1,h2.1⟩ e (λz=>nomatch z) h
 | @dT a fw ea =>cases(show u=Value.ref a from rx);obtain⟨_,_,xs,_,o,es,ep,h1,h2,_⟩:=(show iS X.prog X.w H s.heap a (.dT fw)from I.gT a _ ea);exact dk W.kitx_dict I.sL ⟨o,h1,h2.1⟩ e (λz=>nomatch z) h
 | @ins a C dx fs ea cl ha hn Ym hm =>cases(show u=Value.ref a from rx);refine fj (tw I.gT ea) λmA O _=>?_;refine fj O.look λod J _=>?_;exact dk (W.kitx_own (cl.get _) cl.hd ha hn Ym hm) I.sL J e (λz=>nomatch z) h
end
structure iw (k:Nat)(A:Around):Prop where
 hd:A.handled=none
 dp:A.depth+3*k+5<recursionLimit
 un:A.units+16*k+200<cLine
def iw.mono {j k:Nat}{A:Around}(r:iw k A)(h:j<=k):iw j A:=⟨r.hd,by have:=r.dp;lia,by have:=r.un;lia⟩
theorem iw.deeper {k:Nat}{A:Around}(r:iw (k+1) A)(env:Env):iw k (A.deeper env) :=
 ⟨r.hd,by have:=r.dp;show A.depth+1+3*k+5<_;lia,by have:=r.un;show A.units+3+16*k+200<_;lia⟩
theorem iw.in1 {k:Nat}{A:Around}(r:iw (k+1) A):iw k A.in1 :=
 ⟨r.hd,by have:=r.dp;show A.depth+3*k+5<_;lia,by have:=r.un;show A.units+1+16*k+200<_;lia⟩
def Bh {A:Around}{C:ai}{us:ak aj}{kw:ak (Str×aj)}:(A.under<|.builtin "type.__call__" ⟨.ref C::us,kw⟩).depth=A.depth+1:=by first|rfl|simp[Around.under,Code.weight,Code.isCreation,Code.isGuard,Code.isCaller,Code.frames,Code.isFrame,guardIds]
def Bg {A:Around}{C:ai}{us:ak aj}{kw:ak (Str×aj)}:(A.under<|.builtin "type.__call__" ⟨.ref C::us,kw⟩).units=A.units+1:=by first|rfl|simp[Around.under,Code.cUnits,Code.frames,Code.isFrame]
def iw.make {k:Nat}{A:Around}(r:iw (k+1) A)(C:ai)(us:ak aj)(kw:ak (Str×aj)):iw k (A.under<|.builtin "type.__call__" ⟨.ref C::us,kw⟩) :=
 ⟨r.hd,by have:=r.dp;rw[Bh];lia,by have:=r.un;rw[Bg];lia⟩
theorem iw.depth {k:Nat}{A:Around}(r:iw k A):A.depth<recursionLimit:=by have:=r.dp;lia
theorem iw.units {k:Nat}{A:Around}(r:iw k A):A.units+64<cLine:=by have:=r.un;lia
def iw.N7 {k:Nat}{A:Around}(r:iw k A):A.units<cLine:=by have:=r.un;lia
def Ep:TA:=λ_ H Q=>Q [] H
def vI (ta:TE)(tr:TA):TA:=λσ H Q=>ta σ H λx H1=>tr σ H1 λxs H2=>Q (x::xs) H2
section
variable {X:Cx}{e:Expr}{es:ak Expr}{te:TE}{t:TA}{pos:Pos}
def gZ:PA X [] Ep:=λ_ _ _ _ H Q I h=>Calls.spliced_nil ⟨[],H,I,.nil,h⟩
def fJ (ha:PE X e te)(hr:PA X es t)(hs:starEach (e::es) X.env=(false,eval e X.env)::starEach es X.env:=by rfl):PA X (e::es) (vI te t):=by intro pos fb s σ H Q I h;rw[hs];refine Calls.spliced_cons (hZ (ha fb s σ H _ I h) λu s1 h_=>fZ h_ λx H1 I1 r1 q1=>?_);exact hZ (hr pos fb s1 σ H1 _ I1 q1) λus s2 h_=>fZ h_ λxs H2 I2 r2 q2=>⟨x::xs,H2,I2,.cons r1 r2,q2⟩
def Vj (t:TA):TE:=λσ H Q=>t σ H λxs H1=>xs.length<=sizeLine/\∀ p,H1 p=none->Q (.ref p) (upd H1 p<|.tup xs)
def Vn (t:TA):TE:=λσ H Q=>t σ H λxs H1=>xs.length<=sizeLine/\∀ p,H1 p=none->Q (.ref p) (upd H1 p<|.lst xs)
def OP {x1}(h:PA X es t):PE X (.Tuple es x1 pos) (Vj t):=by intro fb s σ H Q I hq;refine wpAny_Tuple_spliced (hZ (h pos fb s σ H _ I hq) λus s1 h_=>lP h_ λxs H1 I1 r z q=>⟨r.length▸z,?_⟩);have hf:H1 s1.heap.objs.size=none:=I1.gT.fresh<|aq _;refine⟨.ref s1.heap.objs.size,upd H1 s1.heap.objs.size<|.tup xs,I1.laid (t':=s1.toks) (λb u e=>jx _ e) (aq _) ?_,rfl,q _ hf⟩;exact⟨z,us,r,⟨_,aD _ rfl,rfl,_,rfl⟩⟩
def Ha (h:PA X es t):PE X (.List es pos) (Vn t):=by intro fb s σ H Q I hq;refine wpAny_List_spliced (hZ (h pos fb s σ H _ I hq) λus s1 h_=>lP h_ λxs H1 I1 r z q=>⟨r.length▸z,?_⟩);have hf:H1 s1.heap.objs.size=none:=I1.gT.fresh<|aq _;refine⟨.ref s1.heap.objs.size,upd H1 s1.heap.objs.size<|.lst xs,I1.laid (t':=s1.toks) (λb u e=>jx _ e) (aq _) ?_,rfl,q _ hf⟩;exact⟨z,us,0,r,aD _ rfl⟩
end
abbrev Sp:=ak V->Hp->VK->XK->Prop
abbrev Eh:=ak Env->Hp->ah->XK->aj->ah->Prop
structure vA (P:ae)(w:af)(K:aa)(mg:Str->Option aj)(fg:Heap)(A:Around)(fC:List Env)(s:ah)(H:Hp):Prop where
 frames:A.frames=some fC
 mod:Mod K mg fg
 bs:∀ b o,fg.get? b=some o->s.heap.get? b=some o/\H b=none
 FJ:fg.objs.size<=s.heap.objs.size
 qz:s.heap.FunFrames fg fC
 NB:∀ b∈xX fC,H b=none
 gT:o6 P w H s.heap
 bare:AllBare s.gens
def CE (fC:ak Env)(P:ae)(w:af)(H:Hp)(s:ah)(Q:VK)(u:aj)(s':ah):Prop :=
 ∃ v H',s'.os=s.os/\AllBare s'.gens/\Un (xX fC) [] H H' s.heap s'.heap/\o6 P w H' s'.heap/\fW v u/\Q v H'
def CR (CX:Eh)(fC:ak Env)(P:ae)(w:af)(H:Hp)(s:ah)(Q:VK)(E:XK)(r:Result)(s':ah):Prop :=
 match r with
 |.ok (.ret u)=>CE fC P w H s Q u s'
 |.ok _=>False
 |.error e=>CX fC H s E e s'
structure gA (P:ae)(w:af)(K:aa)(mg:Str->Option aj)(fg:Heap)(CX:Eh)(k:Nat)(f:ai)(fd:ag)(ps:List Str)(sp:Sp):Prop where
 len:∀ vs H Q E,sp vs H Q E->vs.length=ps.length
 run:∀(A:Around) (fC:List Env) (s:ah) (H:Hp) (args:Args) (us:List aj) (vs:List V) (Q:VK) (E:XK),iw k A->vA P w K mg fg A fC s H->BindsTo s fd args (ps.zip us)->fT vs us->sp vs H Q E ->
  codeAny (model P w) A (.call (.ref f) args) (CR CX fC P w H s Q E) s
def gA.imp {P:ae}{w:af}{K:aa}{mg:Str->ao aj}{fg:Heap}{CX:Eh}{k:Nat}{f:ai}{fd:ag}{ps:ak Str}{sp X6:Sp}(F:gA P w K mg fg CX k f fd ps sp)
 (h:∀ vs H Q E,X6 vs H Q E->sp vs H Q E):gA P w K mg fg CX k f fd ps X6:=
 ⟨λvs H Q E q=>F.len vs H Q E<|h _ _ _ _ q,λA fC s H args us vs Q E hr he hb hv hs=>F.run A fC s H args us vs Q E hr he hb hv<|h _ _ _ _ hs⟩
def vA.make {P:ae}{w:af}{K:aa}{mg:Str->ao aj}{fg:Heap}{A:Around}{fC:ak Env}{s:ah}{H:Hp}(e:vA P w K mg fg A fC s H)(C:ai)(us:ak aj)(kw:ak (Str×aj)):
 vA P w K mg fg (A.under<|.builtin "type.__call__" ⟨.ref C::us,kw⟩) fC s H:=⟨by first|exact e.frames|(simpa [Around.under,Code.envs,Code.isFrame,pushEnvs]using e.frames),e.mod,e.bs,e.FJ,e.qz,e.NB,e.gT,e.bare⟩
theorem vA.in1 {P:ae}{w:af}{K:aa}{mg:Str->ao aj}{fg:Heap}{A:Around}{fC:ak Env}{s:ah}{H:Hp}(e:vA P w K mg fg A fC s H):
 vA P w K mg fg A.in1 fC s H:=⟨e.frames,e.mod,e.bs,e.FJ,e.qz,e.NB,e.gT,e.bare⟩
section
variable {X:Cx}{fb:ak (ai×Obj)}{σ:St}{H:Hp}{s s':ah}
def Inv.Qt (I:Inv X fb σ H s):vA X.prog X.w X.K X.mg X.fg X.A X.stack s H :=
 ⟨I.ok.frames,I.ok.mod,I.bs,aK I.ok.FJ I.sz,I.stack,I.qd,I.gT,I.bare⟩
def Inv.after {Q:VK}{u:aj}(I:Inv X fb σ H s)(h:CE X.stack X.prog X.w H s Q u s'):EP X fb σ Q u s':=by refine Xa h λv H' os bare un gT r q=>?_;obtain⟨hh,g,d,t,os'⟩:=s';obtain rfl:os'=s.os:=os;exact⟨v,H',I.call (h':=hh) (g':=g) (d':=d) (t':=t) (ch:=[]) un gT bare λb z=>absurd z<|by simp,r,q⟩
end
def MY (sp:Sp)(x8:ak V)(E:XK)(t:TA):TE:=λσ H Q=>t σ H λvs H1=>sp (vs++x8) H1 Q E
def MV (C:ai)(m:Str)(sp:Sp)(x8:ak V)(E:XK)(ta:TE)(t:TA):TE:=λσ H Q=>ta σ H λx H1=>∃ a dx fs,x=.ref a/\H1 a=some (.ins C dx fs)/\fs.lookup m=none /\
 t σ H1 λvs H2=>sp (x::(vs++x8)) H2 Q E
def MW (C:ai)(sp:Sp)(x8:ak V)(E:XK)(t:TA):TE:=λσ H Q=>t σ H λvs H1=>∀ x dx,H1 x=none->H1 dx=none->dx≠x ->
 sp (.ref x::(vs++x8)) (upd (upd H1 dx<|.own x) x<|.ins C dx []) (λv H2=>v=.gz/\Q (.ref x) H2) E
def Binds (K:aa)(fd:ag)(ps:ak Str)(ds:ak aj):Prop :=
 ∀(s:ah) (us:ak aj),K.In s.heap->(us++ds).length=ps.length->BindsTo s fd ⟨us,[]⟩ (ps.zip<|us++ds)
def Binds.all {K:aa}{fd:ag}{ps:ak Str}(h:∀ us:ak aj,us.length=ps.length->bindArgs fd ⟨us,[]⟩=pure (ps.zip us)):Binds K fd ps []:=λs us _ hl=>by
 rw[a8]at hl ⊢
 exact .of_eq (h us hl)
def Passes (CX:Eh)(X:Cx)(E:XK):Prop:=∀(fb:ak (ai×Obj)) (σ:St) (H:Hp) (s:ah) (e:aj) (s':ah),Inv X fb σ H s->CX X.stack H s E e s'->X.xe e s'
section
variable {X:Cx}{CX:Eh}{k:Nat}{f C:ai}{fd:ag}{ps:ak Str}{sp:Sp}{x8:ak V}{ds:ak aj}{E:XK}{x m:Str}{p pos mW:Pos}{e o:Expr}{es:ak Expr}{ta:TE}{t:TA}
def GG {fb:ak (ai×Obj)}{σ:St}{H:Hp}{s:ah}{Q:VK}{us:ak aj}{vs:ak V}(F:gA X.prog X.w X.K X.mg X.fg CX k f fd ps sp)(hr:iw k X.A)(hb:Binds X.K fd ps ds)(hd:fT x8 ds)(hx:Passes CX X E)
 (I:Inv X fb σ H s) (r:fT vs us) (h:sp (vs++x8) H Q E):wpAny (model X.prog X.w) X.A (call (.ref f) us) (EP X fb σ Q) X.xe s:=by
 have r2:fT (vs++x8) (us++ds):=r.append hd;have hl:(us++ds).length=ps.length:=r2.length▸F.len _ _ _ _ h;refine wpAny_call (codeAny_mono (F.run X.A X.stack s H ⟨us,[]⟩ (us++ds) (vs++x8) Q E hr I.Qt (hb s us I.sL hl) r2 h) λr s' hq=>?_);cases r with
 |error e=>exact hx fb σ H s e s' I hq
 | ok fl =>
  cases fl with
  |ret u=>exact I.after hq
  |next=>exact False.elim hq
  |brk=>exact False.elim hq
  |cont=>exact False.elim hq
def CC (F:gA X.prog X.w X.K X.mg X.fg CX k f fd ps sp)(hr:iw k X.A)(hg:Gl X x)(hm:X.mg x=some (.ref f))(hk:W.keepIn X.K (.ref f)=true)(hb:Binds X.K fd ps ds)(hd:fT x8 ds)(hx:Passes CX X E)
 (ha:PA X (e::es) t) (vm:(x==("__debug__" : Str))=false:=by decide) (he:starEach (e::es) X.env=(false,eval e X.env)::starEach es X.env:=by rfl) (oz:(backTo pos<|starEach es X.env).any (·.1)=false:=by rfl):
 PE X (.Call (.Name x p) (e::es) [] pos) (MY sp x8 E t):=by
 intro fb s σ H Q I h;refine cw<|tq I hg hm ?_ vm;refine W.callWith_K (h₀:=X.fg) I.ok.mod.Ss hk (hZ (ha pos fb s σ H _ I h) λus s1 h_=>fZ h_ λvs H1 I1 r q=>⟨I1.sL,?_⟩) he oz;exact GG F hr hb hd hx I1 r q
def Ld {pl:Sem Bool}(he:PE X o ta)(c:Eg X.K C)(hm:Meth X.K C m f)(F:gA X.prog X.w X.K X.mg X.fg CX k f fd ps sp)(hr:iw k X.A)(hb:Binds X.K fd ps ds)(hd:fT x8 ds)(hx:Passes CX X E)(ha:PA X (e::es) t)
 (E8:starEach (e::es) X.env=(false,eval e X.env)::starEach es X.env:=by rfl) (oz:(backTo pos<|starEach es X.env).any (·.1)=false:=by rfl)
 (ht:eval (.Call (.Attribute o m mW) (e::es) [] pos) X.env=(do
   let ov <- eval o X.env
   standAt mW.atName
   let (f,first) <- holding [ov] (getMethod ov m pl)
   callWith pos f first (backTo pos<|starEach (e::es) X.env) (backToKw pos<|keywordEach [] X.env)):=by rfl):
 PE X (.Call (.Attribute o m mW) (e::es) [] pos) (MV C m sp x8 E ta t):=by
 intro fb s σ H Q I h;refine W.methodCall_KW (pl:=pl) (hZ (he fb s σ H _ I h) λu s1 LO=>?_) ht;obtain⟨x,H1,I1,rx,a,dx,fs,ex,ea,l,q⟩:=LO;subst ex;obtain rfl:u=Value.ref a:=rx;refine uu I1 ea c hm l ?_;refine W.callWith_K (first:=[.ref a]) (h₀:=X.fg) I.ok.mod.Ss hm.kp (hZ (ha pos fb s1 σ H1 _ I1 q) λus s2 h_=>fZ h_ λvs H2 I2 r q2=>⟨I2.sL,?_⟩) E8 oz;exact GG (us:=.ref a::us) (vs:=.ref a::vs) F hr hb hd hx I2 (.cons rfl r) q2
structure Mk (K:aa)(C f:ai):Prop where
 makes:W.makesIn K C=true
 init:W.findIn K (.ref C) "__init__"=some (some<|.ref f)
 fn:W.isFn K (.ref f)=true
 kp:W.keepIn K (.ref C)=true
def GF {fb:ak (ai×Obj)}{σ:St}{H:Hp}{s:ah}{Q:VK}{us:ak aj}{vs:ak V}(M:Mk X.K C f)(F:gA X.prog X.w X.K X.mg X.fg CX k f fd ps sp)(hr:iw (k+1) X.A)(hb:Binds X.K fd ps ds)(hd:fT x8 ds)
 (hx:Passes CX X E) (I:Inv X fb σ H s) (r:fT vs us)
 (h:∀ x dx,H x=none->H dx=none->dx≠x->sp (.ref x::(vs++x8)) (upd (upd H dx<|.own x) x<|.ins C dx []) (λv H2=>v=.gz/\Q (.ref x) H2) E):
 wpAny (model X.prog X.w) X.A (call (.ref C) us) (EP X fb σ Q) X.xe s:=by
 have hq:=h (s.heap.objs.size+1) s.heap.objs.size (I.gT.fresh<|Nat.le_succ _) (I.gT.fresh<|aq _)<|aw<|bQ _;have I2:=Inv.made (C:=C) I;have r2:fT (V.ref (s.heap.objs.size+1)::(vs++x8)) (Value.ref (s.heap.objs.size+1)::(us++ds)):=.cons rfl (r.append hd);have hl:(Value.ref (s.heap.objs.size+1)::us++ds).length=ps.length:=by have e:=r2.length;rw[F.len _ _ _ _ hq]at e;exact e.symm
 refine wpAny_call (HA (f:=f) I.sL M.makes M.init (beq_iff_eq.mp M.fn) (codeAny_mono (F.run _ X.stack _ _ ⟨Value.ref (s.heap.objs.size+1)::us,[]⟩ (Value.ref (s.heap.objs.size+1)::(us++ds)) _ _ E (hr.make C us [])
  (I2.Qt.make C us []) (hb _ (Value.ref (s.heap.objs.size+1)::us) I2.sL hl) r2 hq) λr s' Nw=>?_))
 cases r with
 |error e=>exact hx fb σ _ _ e s' I2 Nw
 | ok fl =>
  cases fl with
  | ret u =>refine lP (I2.after Nw) λv H' I3 rv ev q3=>?_;subst ev;exact⟨rv,⟨V.ref<|s.heap.objs.size+1,H',I3,rfl,q3⟩⟩
  |next=>exact False.elim Nw
  |brk=>exact False.elim Nw
  |cont=>exact False.elim Nw
def Le (M:Mk X.K C f)(F:gA X.prog X.w X.K X.mg X.fg CX k f fd ps sp)(hr:iw (k+1) X.A)(hg:Gl X x)(hm:X.mg x=some (.ref C))(hb:Binds X.K fd ps ds)(hd:fT x8 ds)(hx:Passes CX X E)
 (ha:PA X (e::es) t) (vm:(x==("__debug__" : Str))=false:=by decide) (he:starEach (e::es) X.env=(false,eval e X.env)::starEach es X.env:=by rfl) (oz:(backTo pos<|starEach es X.env).any (·.1)=false:=by rfl):
 PE X (.Call (.Name x p) (e::es) [] pos) (MW C sp x8 E t):=by
 intro fb s σ H Q I h;refine cw<|tq I hg hm ?_ vm;refine W.callWith_K (h₀:=X.fg) I.ok.mod.Ss M.kp (hZ (ha pos fb s σ H _ I h) λus s1 h_=>fZ h_ λvs H1 I1 r q=>⟨I1.sL,?_⟩) he oz;exact GF M F hr hb hd hx I1 r q
end
def PK (X:Cx)(UP:ak Keyword)(t:TA):Prop :=
 ∀(pos:Pos) (fb:ak (ai×Obj)) (s:ah) (σ:St) (H:Hp) (Q:ak V->Hp->Prop),Inv X fb σ H s->t σ H Q->wpAny (model X.prog X.w) X.A (evalAll ((backToKw pos<|keywordEach UP X.env).map (·.2))) (AP X fb σ Q) X.xe s
section
variable {X:Cx}{CX:Eh}{k:Nat}{f C:ai}{fd:ag}{ps ks:ak Str}{sp:Sp}{E:XK}{x m:Str}{p pos mW xP:Pos}{e o:Expr}{es:ak Expr}{UP:ak Keyword}{te ta:TE}{t tk:TA}{nm:ao Str}
def G2:PK X [] Ep:=λ_ _ _ _ H Q I h=>wpAny_evalAll_nil ⟨[],H,I,.nil,h⟩
def Cz (ha:PE X e te)(hr:PK X UP t):PK X (⟨nm,e,xP⟩::UP) (vI te t):=by intro pos fb s σ H Q I h;refine wpAny_evalAll_cons (fH<|hZ (ha fb s σ H _ I h) λu s1 h_=>fZ h_ λx H1 I1 r1 q1=>fH<|dG<|av ?_);exact hZ (hr pos fb s1 σ H1 _ I1 q1) λus s2 h_=>fZ h_ λxs H2 I2 r2 q2=>⟨x::xs,H2,I2,.cons r1 r2,q2⟩
variable {g:ak aj->ak aj->ak aj}{gV:ak V->ak V->ak V}
end
structure fN (N P:List Str)(sc:Scope):Prop where
 kind:sc.kind=.function
 co:sc.isCoroutine=false
 gen:sc.isGenerator=false
 nd:N.Nodup
 pre:N.take P.length=P
 par:∀ x∈P,sc.names.lookup x=some .local\/sc.names.lookup x=some .cell
 O7:∀ y∈sc.names,y.2≠.free
theorem wC {kindOf:Str->ao NameKind}{x:Str}:∀ {binds:ak (Str×aj)} {m:Str->ao aj},(∀ v,(x,v)∉binds)->bindL kindOf binds m x=m x
 |[],_,_=>rfl
 | (n,v)::r,m,h=>by
  unfold bindL;rw[wC λw hw=>h w<|mQ _ hw];split
  .have:x≠n:=by rintro rfl;exact h v aH
   simp[this]
  .rfl
theorem wF {kindOf:Str->ao NameKind}{x:Str}:∀ {binds:ak (Str×aj)} {m:Str->ao aj},(∀ v,(x,v)∉binds)->bindC kindOf binds m x=m x
 |[],_,_=>rfl
 | (n,v)::r,m,h=>by
  unfold bindC;rw[wF λw hw=>h w<|mQ _ hw];split
  .rfl
  .have:x≠n:=by rintro rfl;exact h v aH
   simp[this]
theorem wD {kindOf:Str->ao NameKind}{x:Str}{v:aj}:∀ {P:ak Str} {vs:ak aj} {i:Nat} {m:Str->ao aj},P.Nodup->P[i]?=some x->vs[i]?=some v->kindOf x=some .local ->
 bindL kindOf (P.zip vs) m x=some v
 |[],_,_,_,_,h,_,_=>by contradiction
 |_::_,[],_,_,_,_,h,_=>by cases h
 | p::P,w::vs,0,m,nd,h1,h2,hk=>by simp at h1 h2;subst h1;subst h2;show bindL kindOf ((p,w)::P.zip vs) m p=_;unfold bindL;rw[wC λv hv=>(List.nodup_cons.mp nd).1 (List.of_mem_zip hv).1,aA hk];simp
 | p::P,w::vs,i+1,m,nd,h1,h2,hk=>by unfold bindL;exact wD (i:=i) (List.nodup_cons.mp nd).2 (by simpa using h1) (by simpa using h2) hk
theorem wG {kindOf:Str->ao NameKind}{x:Str}{v:aj}:∀ {P:ak Str} {vs:ak aj} {i:Nat} {m:Str->ao aj},P.Nodup->P[i]?=some x->vs[i]?=some v->kindOf x≠some .local ->
 bindC kindOf (P.zip vs) m x=some v
 |[],_,_,_,_,h,_,_=>by contradiction
 |_::_,[],_,_,_,_,h,_=>by cases h
 | p::P,w::vs,0,m,nd,h1,h2,hk=>by simp at h1 h2;subst h1;subst h2;show bindC kindOf ((p,w)::P.zip vs) m p=_;unfold bindC;rw[wF λv hv=>(List.nodup_cons.mp nd).1 (List.of_mem_zip hv).1,aC hk];simp
 | p::P,w::vs,i+1,m,nd,h1,h2,hk=>by unfold bindC;exact wG (i:=i) (List.nodup_cons.mp nd).2 (by simpa using h1) (by simpa using h2) hk
def start (N:ak Str)(vs:ak V):St:=vs.map some++List.replicate (N.length - vs.length) none
def ph (CX:Eh)(P:ae)(w:af)(K:aa)(mg:Str->ao aj)(fg:Heap)(N:ak Str)(qual:Str)(scope:Scope)(f:ai)(cd:aj)(A:Around)(fC:ak Env)(s:ah)(H:Hp)(E:XK):Cx where
 prog:=P
 w:=w
 K:=K
 mg:=mg
 fg:=fg
 A:=A.deeper (envOfC qual scope s.heap.objs.size f cd)
 N:=N
 s₀:=s
 H₀:=H
 env:=envOfC qual scope s.heap.objs.size f cd
 fC:=fC
 stack:=envOfC qual scope s.heap.objs.size f cd::fC
 ex:=[]
 gN:=true
 fn:=λ_=>true
 pn:=[]
 xe:=λe s'=>wpAny (model P w) (A.deeper<|envOfC qual scope s.heap.objs.size f cd) (leaving (envOfC qual scope s.heap.objs.size f cd) e) (λ_ JZ=>CX fC H s E e JZ) (λe' JZ=>CX fC H s E e' JZ) s'
def mU {sc:Scope}{n:Nat}{x:Str}(h:sc.names.lookup x=some .cell):∃ c,(cellsFrom n sc.names []).lookup x=some c:=by have q:=W.cellsFrom_some sc.names n []<|.inl h;exact Option.isSome_iff_exists.mp q
def E4 {CX:Eh}{P:ae}{w:af}{K:aa}{mg:Str->ao aj}{fg:Heap}{N ps:ak Str}{qual:Str}{scope:Scope}{f:ai}{cd:aj}{A:Around}{fC:ak Env}{s s1:ah}{H:Hp}{E:XK}{us:ak aj}{vs:ak V}
 (S:fN N ps scope) (hd:A.handled=none) (e0:vA P w K mg fg A fC s H) (hl:vs.length=ps.length) (r:fT vs us)
 (x:InCallC s s.heap.objs.size (bindL (envOfC qual scope s.heap.objs.size f cd).kindOf (ps.zip us) λ_=>none) (cellsFrom (s.heap.objs.size+1) scope.names []) (bindC (envOfC qual scope s.heap.objs.size f cd).kindOf (ps.zip us) λ_=>none) s1):
 Inv (ph CX P w K mg fg N qual scope f cd A fC s H E) [] (start N vs) H s1:=by
 have oz:ps.length<=N.length:=by have:=cq List.length S.pre;rw[bx]at this;lia
 refine nY x.done λh1 tk fV hk=>?_;subst fV;have Se:∀ b:ai,b∉(ph CX P w K mg fg N qual scope f cd A fC s H E).ex:=λb z=>absurd (show b∈([]:ak ai)from z) (by simp);refine⟨⟨e0.mod,S.kind,rfl,rfl,aq _,λy z c h1 h2=>?_,λy hy=>?_,λy c _ h=>?_,λ_=>hd,Around.frames_deeper e0.frames,.inr ⟨rfl,rfl⟩,λb z=>absurd z<|Se b,e0.bs,e0.FJ,λb _ _=>Se b,λb z=>absurd z<|Se b,e0.qz,e0.NB⟩,
  rfl,e0.bare,Un.iC hk,⟨_,x.toInCall.ns,λi y v h1 h2 h3=>?_⟩,λy c h=>⟨_,x.cell y c h⟩,e0.gT.fresh (aq _),λy c h=>?_,λp hp=>absurd (show p∈([]:ak (ai×Obj))from hp)<|by simp,e0.gT.iC hk,?_⟩
 .exact name_of_addr x.apart (c6 h1) (c6 h2)
 .have hy:scope.names.lookup y=some .cell\/scope.names.lookup y=some .free:=hy;rcases hy with hy|hy
  .exact mU hy
  .exact absurd rfl (S.O7 _<|c6 hy)
 .exact bZ (x.above y c<|c6 h)
 .have hi:i<vs.length:=by
   unfold start at h2;by_cases hi:i<vs.length
   .exact hi
   .rw[p8 (by simpa using hi)]at h2;rw[dY]at h2;split at h2<;>cases h2
  have ha:vs[i]?=some v:=by
   unfold start at h2;rw[vX (by simpa using hi),nX]at h2;cases e:vs[i]? with
   |none=>rw[e]at h2;cases h2
   |some a=>rw[e]at h2;cases h2;rfl
  refine fj (r.get ha) λu hu rv=>?_
  have hp:ps[i]?=some y:=by rw[<- S.pre,bw (by lia)];exact h1
  have Ye:ps.Nodup:=S.pre▸S.nd.sublist (List.take_sublist _ _)
  refine⟨u,rv,?_⟩
  rcases S.par y (lC hp)with k|k
  .exact .inl ⟨k,wD Ye hp hu k⟩
  .refine kA (mU (n:=s.heap.objs.size+1) k) λc e=>?_;refine .inr ⟨.inl k,c,e,?_⟩;have q:=x.cell y c e;rw[wG Ye hp hu (by show scope.names.lookup y≠_;rw[k];decide)]at q;exact q
 .exact e0.gT.fresh (bZ<|x.above y c<|c6 h)
 .delta start;show _=N.length;rw[kO,gQ,aR];lia
def ND {CX:Eh}{P:ae}{w:af}{K:aa}{mg:Str->ao aj}{fg:Heap}{k:Nat}{f:ai}{name qual:Str}{params:Arguments}{body:ak Stmt}{scope:Scope}{dV kV doc pm jL ct oc:aj}{an od:ao ai}
 {Li:Array (ao aj)} {N ps:ak Str} {sp:Sp} (lk:K.lookup f=some ⟨oc,od,.func<|W.fnOf name qual params body scope dV kV doc pm an jL ct,Li⟩) (BA:W.codeIn K jL qual=true) (S:fN N ps scope)
 (len:∀ vs H Q E,sp vs H Q E->vs.length=ps.length)
 (uq:∀(A:Around) (fC:ak Env) (s:ah) (H:Hp) (vs:ak V) (Q:VK) (E:XK),iw k (A.deeper<|envOfC qual scope s.heap.objs.size f jL)->sp vs H Q E ->
   ∃ t,yt (ph CX P w K mg fg N qual scope f jL A fC s H E) body t/\t { nx:=λ_ H'=>Q .gz H',rt:=Q} (start N vs) H):
 gA P w K mg fg CX (k+1) f (W.fnOf name qual params body scope dV kV doc pm an jL ct) ps sp:=by
 refine⟨len,λA fC s H args us vs Q E hr e0 hb r J9=>?_⟩;have hl:=len _ _ _ _ J9;have KX:K.In s.heap:=e0.mod.Ss.keeps λb o e=>(e0.bs b o e).1;have lim:s.heap.NoLimit:=e0.mod.nolimit.keeps λb o e=>(e0.bs b o e).1;have SI:∀ y∈ps.zip us,scope.names.lookup y.1=some .local\/(scope.names.lookup y.1=some .cell/\((cellsFrom (s.heap.objs.size+1) scope.names []).lookup y.1).isSome=true):=λ⟨n,v⟩ hy=>by
  rcases S.par n (List.of_mem_zip hy).1 with q|q
  .exact .inl q
  .exact .inr ⟨q,W.cellsFrom_some _ _ _<|.inl q⟩
 refine codeAny_call_function hr.depth (KX _ _ lk) rfl S.co S.gen rfl (W.codeRec_of KX BA)<|hb _ _ _ _ ?_;refine wpAny_newFunctionEnv_cells S.kind SI λenv he s1 x=>?_;subst he;refine⟨lim.keeps x.toInCall.keep,codeAny_func ?_⟩;refine fj (uq A fC s H vs Q E (hr.deeper _) J9) λt ht hq=>?_;have I:Inv (ph CX P w K mg fg N qual scope f jL A fC s H E) [] (start N vs) H s1:=E4 S hr.hd e0 hl r x;refine bq (ht [] s1 (start N vs) H _ I hq) (λfl s' hs=>?_) λe s' hs=>hs;have fin:∀ {iB:St} {H':Hp} {v:V} {u:aj},Inv (ph CX P w K mg fg N qual scope f jL A fC s H E) [] iB H' s'->fW v u->Q v H'->CE fC P w H s Q u s' :=
  λ{iB H' v u} J rv q=>⟨v,H',J.os,J.bare,J.fg,J.gT,rv,q⟩
 cases fl with
 | ret u =>refine IT hs λv iB H' J rv q=>?_;exact fin J rv q
 | next =>refine nY hs λiB H' J q=>?_;exact fin (v:=V.gz) (u:=Value.none) J rfl q
 | brk =>refine nY hs λ_ _ _ q=>?_;exact False.elim q
 | cont =>refine nY hs λ_ _ _ q=>?_;exact False.elim q
section
variable {X:Cx}{x:Str}{p pos:Pos}{e:Expr}{es:ak Expr}{t:TA}{id T:String}{r:ak V->Hp->VK->Prop}
def Vu (r:ak V->Hp->VK->Prop)(t:TA):TE:=λσ H Q=>t σ H λvs H1=>r vs H1 Q
def gL (hc:jd X (.builtin id) r)(hg:Gl X x)(hm:X.mg x=none)(hv:bootBuiltins x=some (.builtin id))(ha:PA X (e::es) t)(hn:x ≠ "__name__":=by decide)(vm:(x==("__debug__" : Str))=false:=by decide)
 (he:starEach (e::es) X.env=(false,eval e X.env)::starEach es X.env:=by rfl) (oz:(backTo pos<|starEach es X.env).any (·.1)=false:=by rfl):PE X (.Call (.Name x p) (e::es) [] pos) (Vu r t):=by
 intro fb s σ H Q I h;refine cw<|ku I hg hm hv ?_ hn vm;exact PyProof.Rows.callWith_builtin1 (hZ (ha pos fb s σ H _ I h) λus s1 h_=>fZ h_ λvs H1 I1 r1 q1=>hc fb s1 σ H1 vs us Q I1 r1 q1) he oz
def vP (hc:jd X (.type T) r)(hg:Gl X x)(hm:X.mg x=none)(hv:bootBuiltins x=some (.type T))(ha:PA X (e::es) t)(hn:x ≠ "__name__":=by decide)(vm:(x==("__debug__" : Str))=false:=by decide)
 (he:starEach (e::es) X.env=(false,eval e X.env)::starEach es X.env:=by rfl) (oz:(backTo pos<|starEach es X.env).any (·.1)=false:=by rfl):PE X (.Call (.Name x p) (e::es) [] pos) (Vu r t):=by
 intro fb s σ H Q I h;refine cw<|ku I hg hm hv ?_ hn vm;exact bh (hZ (ha pos fb s σ H _ I h) λus s1 h_=>fZ h_ λvs H1 I1 r1 q1=>hc fb s1 σ H1 vs us Q I1 r1 q1) he oz
end
end L2
namespace HT
open PySem PyProof.Rows
section
variable {prog:ae}{w:af}{A:Around}{E:aj->ah->Prop}{s:ah}
def mJ (n d:Nat):ao Int->Nat
 |none=>d
 |some v=>if v<0 then(v+(n:Int)).toNat else min v.toNat n
def t6 (n d:Nat):mJ n d none=d:=rfl
def lq (n d k:Nat):mJ n d (some (k:Int))=min k n:=by show(if(k:Int)<0 then((k:Int)+(n:Int)).toNat else min (k:Int).toNat n)=min k n;rw[aC (by lia),Ff]
def AS (n d:Nat)(hd:d<=n)(o:ao Int):mJ n d o<=n:=by
 cases o with
 |none=>exact hd
 | some v =>
  show(if v<0 then(v+(n:Int)).toNat else min v.toNat n)<=n;by_cases hv:v<0
  .rw[aA hv];lia
  .rw[aC hv];exact Nat.min_le_right _ _
end
end HT
namespace L2
open PySem PySem.Spec PyProof.Rows
abbrev TO:=St->Hp->(ao Int->Hp->Prop)->Prop
def PO (X:Cx)(e:ao Expr)(t:TO):Prop :=
 ∀(fb:ak (ai×Obj)) (s:ah) (σ:St) (H:Hp) (Q:ao Int->Hp->Prop),Inv X fb σ H s->t σ H Q ->
  wpAny (model X.prog X.w) X.A (evalPart e X.env) (λu s'=>∃ o H',Inv X fb σ H' s'/\IsPart u o/\Q o H') X.xe s
def Kt:TO:=λ_ H Q=>Q none H
section
variable {X:Cx}{e:Expr}{te:TE}{lo hi:ao Expr}{tl th:TO}{pos p2:Pos}
def La:PO X none Kt:=by intro fb s σ H Q I h;rw[evalPart_none];exact av ⟨none,H,I,.none,h⟩
def U7 (X:Cx)(r:V->ao Int->ao Int->Hp->VK->Prop):Prop :=
 ∀(fb:ak (ai×Obj)) (s:ah) (σ:St) (H:Hp) (x:V) (v vl vu:aj) (lo hi:ao Int) (sl:ai) (Q:VK),Inv X fb σ H s->fW x v->s.heap.IsSliceOf sl vl vu .none->IsPart vl lo->IsPart vu hi->r x lo hi H Q ->
  ∃ T id,typeLookup (.type T) "__getitem__"=pure (some<|.builtin id)/\s.TypeIs v T/\wpAny (model X.prog X.w) X.A (getItem v<|.ref sl) (EP X fb σ Q) X.xe s
def tSl (r:V->ao Int->ao Int->Hp->VK->Prop)(te:TE)(tl th:TO):TE:=λσ H Q=>te σ H λx H1=>tl σ H1 λl H2=>th σ H2 λu H3=>r x l u H3 Q
def G8 {r:V->ao Int->ao Int->Hp->VK->Prop}(hr:U7 X r)(he:PE X e te)(hl:PO X lo tl)(hu:PO X hi th):PE X (.Subscript e (.Slice lo hi none p2) pos) (tSl r te tl th):=by intro fb s σ H Q I h;refine Subscript_ (hZ (he fb s σ H _ I h) λv s1 LN=>?_);obtain⟨x,H1,I1,r1,q1⟩:=LN;refine wpAny_Slice (hZ (hl fb s1 σ H1 _ I1 q1) λvl s2 PZ=>?_);obtain⟨l,H2,I2,pl,q2⟩:=PZ;refine hZ (hu fb s2 σ H2 _ I2 q2) λvu s3 Nv=>?_;obtain⟨u,H3,I3,pu,q3⟩:=Nv;rw[evalPart_none];refine av ?_;have I4:Inv X fb σ H3 { s3 with heap:=s3.heap.push { cls:=.type "slice",data:=.fields #[vl,vu,.none]}}:=I3.iC (t':=s3.toks) λb ob q=>jx _ q;obtain⟨T,id,hT,ht,hg⟩:=hr fb { s3 with heap:=s3.heap.push { cls:=.type "slice",data:=.fields #[vl,vu,.none]}} σ H3 x v vl vu l u s3.heap.objs.size Q I4 r1 (Heap.IsSliceOf.new ..) pl pu q3;show wpAny (model X.prog X.w) X.A (subscriptTail e (.Slice lo hi none p2) v<|.ref s3.heap.objs.size) (EP X fb σ Q) X.xe { s3 with heap:=s3.heap.push { cls:=.type "slice",data:=.fields #[vl,vu,.none]}};exact tail_any (ops:=[.ref s3.heap.objs.size,v]) ht hT hg (by with_unfolding_all rfl)
def BM (xs:ak V)(lo hi:ao Int):ak V:=(xs.drop<|HT.mJ xs.length 0 lo).take (HT.mJ xs.length xs.length hi - HT.mJ xs.length 0 lo)
def Ae (xs:ak V)(lo hi:ao Int):(BM xs lo hi).length<=xs.length:=by unfold BM;rw[bx,bz];lia
end
def FF (n:Nat)(i:Int):ao Nat:=if 0<=i then(if i<n then some i.toNat else none)else if -(n:Int)<=i then some (i+n).toNat else none
def o5 {α:Type}(xs:ak α)(i:Int):ao α:=(FF xs.length i).bind λj=>xs[j]?
def CV {n:Nat}{i:Int}{j:Nat}(h:FF n i=some j):seqIndex? i n=some j/\j<n /\ -(n:Int)<=i/\i<n:=by
 unfold FF at h;by_cases h0:0<=i
 .rw[aA h0]at h;by_cases h1:i<n
  .rw[aA h1]at h;have e:i.toNat=j:=aU h;exact⟨by rw[seqIndex_of h0 h1,e],by lia,by lia,h1⟩
  .rw[aC h1]at h;cases h
 .rw[aC h0]at h;by_cases h1:-(n:Int)<=i
  .rw[aA h1]at h;have e:(i+n).toNat=j:=aU h;exact⟨by rw[seqIndex_neg (by lia) h1,e],by lia,h1,by lia⟩
  .rw[aC h1]at h;cases h
def yo {α:Type}{xs:ak α}{i:Int}{v:α}(h:o5 xs i=some v):∃ j,seqIndex? i xs.length=some j/\xs[j]?=some v/\j<xs.length /\ -(xs.length:Int)<=i/\i<xs.length:=by
 unfold o5 at h;cases e:FF xs.length i with
 |none=>rw[e]at h;cases h
 | some j =>rw[e]at h;obtain⟨h1,h2,h3,h4⟩:=CV e;exact⟨j,h1,h,h2,h3,h4⟩
def lG {α:Type}{xs:ak α}{j:Nat}{v:α}(h:xs[j]?=some v):o5 xs (j:Int)=some v:=by
 have hj:j<xs.length:=(kP h).1;have e:FF xs.length (j:Int)=some j:=by unfold FF;rw[aA (by lia),aA (by lia)];simp
 unfold o5;rw[e];exact h
def yr (b:Expr):Prop:=∀ o i,subscripted b false o i=operate [o,i] (getItem o i)
def Ef (X:Cx)(r:R2):Prop :=
 ∀(value slice:Expr) (fb:ak (ai×Obj)) (s:ah) (σ:St) (H:Hp) (x y:V) (v u:aj) (Q:VK),Inv X fb σ H s->fW x v->fW y u->r x y H Q ->
  subscripted slice false v u=operate [v,u] (getItem v u)->wpAny (model X.prog X.w) X.A (subscriptTail value slice v u) (EP X fb σ Q) X.xe s
def Kh (X:Cx)(id:String)(r:V->ak V->Hp->VK->Prop):Prop :=
 ∀(fb:ak (ai×Obj)) (s:ah) (σ:St) (H:Hp) (x:V) (xs:ak V) (v:aj) (us:ak aj) (Q:VK),Inv X fb σ H s->fW x v->fT xs us->r x xs H Q ->
  wpAny (model X.prog X.w) X.A (call (.builtin id)<|v::us) (EP X fb σ Q) X.xe s
section
variable {X:Cx}{a b:Expr}{ta tb:TE}{pos:Pos}
def Ef.or {r r':R2}(h:Ef X r)(h':Ef X r'):Ef X (λx y H Q=>r x y H Q\/r' x y H Q):=by
 intro value slice fb s σ H x y v u Q I rx ry q hs;rcases q with q|q
 .exact h value slice fb s σ H x y v u Q I rx ry q hs
 .exact h' value slice fb s σ H x y v u Q I rx ry q hs
def oq {r:R2}(hr:Ef X r)(ha:PE X a ta)(hb:PE X b tb)(hs:yr b):PE X (.Subscript a b pos) (RB r ta tb):=by intro fb s σ H Q I h;exact Subscript_ (Mr ha hb I h λv u s2 x y H2 I2 rx ry q=>hr a b fb s2 σ H2 x y v u Q I2 rx ry q<|hs _ _)
def RW (K:aa):R2:=λx y H Q=>∃ p xs i v,x=.ref p/\y=.int i/\oH K H p xs/\o5 xs i=some v/\Q v H
def RU (K:aa):R2:=λx y H Q=>∃ p xs i v,x=.ref p/\y=.int i/\Fx K H p xs/\o5 xs i=some v/\Q v H
def RV:R2:=λx y H Q=>∃ z i c,x=.str z/\y=.int i/\z.length<=sizeLine/\o5 z.cps.toList i=some c/\Q (.str ⟨#[c]⟩) H
def LG:Ef X (RW X.K):=by
 intro value slice fb s σ H x y v u Q I rx ry h hs;obtain⟨p,xs,i,z,rfl,rfl,hq,he,q⟩:=h;cases rx;obtain⟨t,rfl⟩:=ry;obtain⟨fE,r,pl,hz⟩:=I.list hq;obtain⟨j,h1,h2,h3,h4,h5⟩:=yo he;obtain⟨w,ew,Cn⟩:=r.get h2;have hl:=r.length;have hn:=pR;have fin:EP X fb σ Q w s:=⟨z,H,I,Cn,q⟩;by_cases h0:0<=i
 .have hj:i.toNat=j:=by rw[seqIndex_of h0 h5]at h1;exact aU h1
  exact item_listR pl.isList h0 (by lia) (by rw[hj];simpa using ew) fin hs
 .have hj:(i+(fE.toArray.size:Int)).toNat=j:=by rw[seqIndex_neg (by lia) h4]at h1;rw[au,<- hl];exact aU h1
  exact subscriptTail_builtinR (x:=w) pl.isList.typeIs slot_list_getitem.lookup
   (wpAny_getItem_list_neg (Q:=λr s'=>r=w/\EP X fb σ Q r s') pl.isList (by lia) (by rw[au]<;> lia) (by lia) (by rw[hj];simpa using ew) ⟨rfl,fin⟩) hs
def PB:Ef X (RU X.K):=by
 intro value slice fb s σ H x y v u Q I rx ry h hs;obtain⟨p,xs,i,z,rfl,rfl,hq,he,q⟩:=h;cases rx;obtain⟨t,rfl⟩:=ry;obtain⟨fE,r,pl,hz⟩:=I.tuple hq;obtain⟨j,h1,h2,h3,h4,h5⟩:=yo he;obtain⟨w,ew,Cn⟩:=r.get h2;have hl:=r.length;have hn:=pR;have fin:EP X fb σ Q w s:=⟨z,H,I,Cn,q⟩;exact subscriptTail_builtinR (x:=w) pl.typeIs slot_tuple_getitem.lookup
  (getItem_tuple (j:=j) (Q:=λr s'=>r=w/\EP X fb σ Q r s') pl (by lia) (by lia) (by rw[au,<- hl];exact h1) (by simpa using ew) ⟨rfl,fin⟩) hs
def PF:Ef X RV:=by
 intro value slice fb s σ H x y v u Q I rx ry h hs;obtain⟨z,i,c,rfl,rfl,hz,he,q⟩:=h;obtain⟨t,rfl⟩:=rx;obtain⟨t',rfl⟩:=ry;obtain⟨j,h1,h2,h3,h4,h5⟩:=yo he;have hl:z.cps.toList.length=z.length:=by simp[Str.length]
 rw[hl]at h1 h4 h5;have hn:=pR;exact tail_any (typeIs_str s z t) slot_str_getitem.lookup (getItem_str (c:=c) (by
  have e1:decide (i < -(2 ^ 63:Int))=false:=aP (by lia)
  have e2:decide (i≥2 ^ 63)=false:=aP (by lia)
  rw[e1,e2,Bool.or_false]) (by rw[h1];simpa using h2) ⟨.str ⟨#[c]⟩,H,I.tok _,⟨_,rfl⟩,q⟩) hs
def rIx (K:aa):R2:=λx y H Q=>RW K x y H Q\/RU K x y H Q\/RV x y H Q
def PH:Ef X (rIx X.K):=LG.or (PB.or PF)
def Bf (fE:ak aj)(n j:Nat)(u:aj):Obj.mapSeq (·.setIfInBounds j u) { cls:=.type "list",data:=.seq fE.toArray n}={ cls:=.type "list",data:=.seq (fE.set j u).toArray n}:=by simp[Obj.mapSeq]
theorem Inv.lst {fb:ak (ai×Obj)}{σ:St}{H:Hp}{s:ah}{p:ai}{xs:ak V}(I:Inv X fb σ H s)(h:H p=some (.lst xs)):
 ∃(fE:ak aj) (n:Nat),fT xs fE/\s.heap.get? p=some { cls:=.type "list",data:=.seq fE.toArray n}/\xs.length<=sizeLine:=by
 obtain⟨z,fE,n,r,e⟩:=I.gT p _ h;exact⟨fE,n,r,e,z⟩
def Inv.Pm {fb:ak (ai×Obj)}{σ:St}{H:Hp}{s:ah}{p:ai}{xs ys:ak V}{fE its':ak aj}{n n':Nat}{f:Obj->Obj}(I:Inv X fb σ H s)(h:H p=some (.lst xs))
 (ho:s.heap.get? p=some { cls:=.type "list",data:=.seq fE.toArray n}) (hf:f { cls:=.type "list",data:=.seq fE.toArray n}={ cls:=.type "list",data:=.seq its'.toArray n'}) (r:fT ys its') (hz:ys.length<=sizeLine) (t:Nat):
 Inv X fb σ (upd H p<|.lst ys) {s with heap:=s.heap.update p f,toks:=t}:=by
 have e:(s.heap.update p f).get? p=some { cls:=.type "list",data:=.seq its'.toArray n'}:=by rw[bE f ho (by rw[hf]<;> rfl),hf]
 refine I.write (x:=p) (e:=p) (by rw[h];trivial) (.inl rfl) (λb u hb q=>(aF _ _<|bJ hb).trans q) ⟨_,e⟩ ?_;exact⟨hz,its',n',r,e⟩
def RT:V->V->V->Hp->(Hp->Prop)->Prop:=λo i v H Q=>∃ p xs k j,o=.ref p/\i=.int k/\H p=some (.lst xs)/\FF xs.length k=some j/\Q (upd H p<|.lst<|xs.set j v)
def set_list:MB X RT:=by
 intro fb s σ H o i v ov iv u Q I ro ri rv h;obtain⟨p,xs,k,j,rfl,rfl,hp,hj,q⟩:=h;cases ro;obtain⟨t,rfl⟩:=ri;obtain⟨fE,n,r,ho,hz⟩:=I.lst hp;obtain⟨h1,h2,h3,h4⟩:=CV hj;have hl:=r.length;have hn:=pR;have I':Inv X fb σ (upd H p<|.lst<|xs.set j v) { s with heap:=s.heap.update p (Obj.mapSeq (·.setIfInBounds j u))} :=
  I.Pm hp ho (Bf fE n j u) (r.set rv j) (by rw[bV];exact hz) s.toks
 by_cases h0:0<=k
 .have hk:k.toNat=j:=by rw[seqIndex_of h0 h4]at h1;exact aU h1
  exact W.ki_setAt ho h0 (by lia) (by rw[au,<- hl];exact h4) (by rw[hk];exact⟨_,I',q⟩)
 .have hk:(k+(fE.toArray.size:Int)).toNat=j:=by rw[seqIndex_neg (by lia) h3]at h1;rw[au,<- hl];exact aU h1
  exact W.ki_setBack ho (by lia) (by rw[au,<- hl];exact h3) (by lia) (by rw[hk];exact⟨_,I',q⟩)
def xl (lo hi:ao Int)(n:Nat):(sliceBounds lo hi none n).1=((HT.mJ n 0 lo:Nat):Int)/\(sliceBounds lo hi none n).2.1=((HT.mJ n n hi:Nat):Int)/\(sliceBounds lo hi none n).2.2=1:=by
 refine⟨?_,?_,rfl⟩
 .cases lo with
  |none=>simp[sliceBounds,HT.mJ]
  | some i =>
   simp only[sliceBounds,HT.mJ,Option.getD_none,show(1:Int)>0 by decide,if_true];by_cases h:i<0
   .simp only[h,if_true]<;> lia
   .simp only[h,if_false]<;> lia
 .cases hi with
  |none=>simp[sliceBounds,HT.mJ]
  | some i =>
   simp only[sliceBounds,HT.mJ,Option.getD_none,show(1:Int)>0 by decide,if_true];by_cases h:i<0
   .simp only[h,if_true]<;> lia
   .simp only[h,if_false]<;> lia
def va (fE:ak aj)(lo hi:ao Int):slicePick fE.toArray lo hi none=((fE.drop<|HT.mJ fE.length 0 lo).take<|HT.mJ fE.length fE.length hi - HT.mJ fE.length 0 lo).toArray:=by obtain⟨h1,h2,h3⟩:=xl lo hi fE.toArray.size;unfold slicePick;rw[h1,h2,h3];simp only[sliceRange_one,pick_run,au]<;> rfl
def VH (K:aa):V->ao Int->ao Int->Hp->VK->Prop:=λx lo hi H Q=>∃ a xs,x=.ref a/\oH K H a xs/\∀ p,H p=none->Q (.ref p) (upd H p<|.lst<|BM xs lo hi)
def KS:U7 X (VH X.K):=by intro fb s σ H x v vl vu lo hi sl Q I rx hs pl pu h;obtain⟨a,xs,rfl,hx,q⟩:=h;cases rx;obtain⟨fE,r,ht,hz⟩:=I.list hx;have hlen:=r.length;refine⟨"list",_,slot_list_getitem.lookup,ht.isList.typeIs,?_⟩;refine wpAny_getItem_list_slice ht.isList hs pl pu .none (by simp) ?_ (by rw[au]<;> lia);rw[va,<- hlen];refine⟨.ref s.heap.objs.size,_,I.laid (t':=s.toks) (o:=.lst<|BM xs lo hi) (λb ob q=>jx _ q) (aq _) ?_,rfl,q _<|I.gT.fresh<|aq _⟩;exact⟨aK (Ae xs lo hi) hz,_,0,(r.drop<|HT.mJ xs.length 0 lo).take<|HT.mJ xs.length xs.length hi - HT.mJ xs.length 0 lo,aD _ rfl⟩
def kR:V->Bool
 |.gz=>true
 |.bl _=>true
 |.int _=>true
 |.str _=>true
 |_=>false
def IH:V->V->Bool
 |.gz,.gz=>true
 |.bl a,.bl b=>a==b
 |.bl a,.int b=>(if a then 1 else 0)==b
 |.int a,.bl b=>a==(if b then 1 else 0)
 |.int a,.int b=>a==b
 |.str a,.str b=>a==b
 |_,_=>false
def BH {A:Around}{s:ah}{y x:V}{u v:aj}(ry:fW y u)(rx:fW x v)(fy:kR y=true)(fx:kR x=true):SeqAt.EqAt A s u v (IH y x):=by
 cases y with
 | gz =>
  cases ry;cases x with
  |gz=>cases rx;exact SeqAt.EqAt.same _
  |bl b=>cases rx;exact SeqAt.EqAt.none_bool b
  |int b=>obtain⟨t,rfl⟩:=rx;exact SeqAt.EqAt.none_int b t
  |str b=>obtain⟨t,rfl⟩:=rx;exact SeqAt.EqAt.none_str b t
  |_=>exact absurd (show false=true from fx) aJ
 | bl a =>
  cases ry;cases x with
  |gz=>cases rx;exact SeqAt.EqAt.bool_none a
  |bl b=>cases rx;exact SeqAt.EqAt.bool_bool a b
  |int b=>obtain⟨t,rfl⟩:=rx;exact SeqAt.EqAt.bool_int a b t
  |str b=>obtain⟨t,rfl⟩:=rx;exact SeqAt.EqAt.bool_str a b t
  |_=>exact absurd (show false=true from fx) aJ
 | int a =>
  obtain⟨t',rfl⟩:=ry;cases x with
  |gz=>cases rx;exact SeqAt.EqAt.int_none a t'
  |bl b=>cases rx;exact SeqAt.EqAt.int_bool a t' b
  |int b=>obtain⟨t,rfl⟩:=rx;exact SeqAt.EqAt.int_int a t' b t
  |str b=>obtain⟨t,rfl⟩:=rx;exact SeqAt.EqAt.int_str a t' b t
  |_=>exact absurd (show false=true from fx) aJ
 | str a =>
  obtain⟨t',rfl⟩:=ry;cases x with
  |gz=>cases rx;exact SeqAt.EqAt.str_none a t'
  |bl b=>cases rx;exact SeqAt.EqAt.str_bool a t' b
  |int b=>obtain⟨t,rfl⟩:=rx;exact SeqAt.EqAt.str_int a t' b t
  |str b=>obtain⟨t,rfl⟩:=rx;exact SeqAt.EqAt.str_str a t' b t
  |_=>exact absurd (show false=true from fx) aJ
 |_=>exact absurd (show false=true from fy) aJ
def BG (x:V)(u:aj):Bool:=match u with
 |.none=>IH .gz x
 |.bool b=>IH (.bl b) x
 |.int i _=>IH (.int i) x
 |.str z _=>IH (.str z) x
 |_=>false
def II {x y:V}{u:aj}(r:fW y u)(f:kR y=true):BG x u=IH y x:=by
 cases y with
 |gz=>cases r;rfl
 |bl b=>cases r;rfl
 |int i=>obtain⟨t,rfl⟩:=r;rfl
 |str z=>obtain⟨t,rfl⟩:=r;rfl
 |_=>exact absurd (show false=true from f) aJ
theorem qK {x:V}:∀ {xs:ak V} {us:ak aj},fT xs us->xs.all kR=true->us.any (BG x)=xs.any λy=>IH y x
 |_,_,.nil,_=>rfl
 | y::xs,u::us,.cons r t,f=>by rw[dm,cu]at f;rw[c5,c5,II r f.1,qK t f.2]
theorem ox {A:Around}{s:ah}{x:V}{v:aj}(rx:fW x v)(fx:kR x=true):∀ {xs:ak V} {us:ak aj},fT xs us->xs.all kR=true->∀ u∈us,SeqAt.EqAt A s u v (BG x u)
 |_,_,.nil,_=>λu hu=>by cases hu
 | y::xs,u::us,.cons r t,f=>λu' hu=>by
  rw[dm,cu]at f;rcases List.mem_cons.mp hu with rfl|hu
  .rw[II r f.1];exact BH r rx f.1 fx
  .exact ox rx fx t f.2 u' hu
def Ra (x:V)(xs:ak V):Bool:=xs.any λy=>IH y x
def X8 (K:aa)(neg:Bool):R2:=λx y H Q=>∃ p xs,y=.ref p/\(oH K H p xs\/Fx K H p xs)/\kR x=true/\xs.all kR=true/\Q (.bl<|if neg then !Ra x xs else Ra x xs) H
def EH:jM X (compareOp .In) (X8 X.K false):=by
 intro fb s σ H x y v u Q I rx ry h;obtain⟨p,xs,rfl,hq,fx,fs,q⟩:=h;cases ry;rcases hq with hq|hq
 .obtain⟨fE,r,pl,hz⟩:=I.list hq;refine SeqAt.in_listAt (BG x) pl.isList (λw hw=>ox rx fx r fs w<|by simpa using hw) ⟨.bl _,H,I,rfl,?_⟩;rw[show fE.toArray.any (BG x)=fE.any (BG x) by simp,qK r fs];exact q
 .obtain⟨fE,r,pl,hz⟩:=I.tuple hq;refine SeqAt.in_tupleAt (BG x) pl (λw hw=>ox rx fx r fs w<|by simpa using hw) ⟨.bl _,H,I,rfl,?_⟩;rw[show fE.toArray.any (BG x)=fE.any (BG x) by simp,qK r fs];exact q
def xA:jM X (compareOp .NotIn) (X8 X.K true):=by
 intro fb s σ H x y v u Q I rx ry h;obtain⟨p,xs,rfl,hq,fx,fs,q⟩:=h;cases ry;rcases hq with hq|hq
 .obtain⟨fE,r,pl,hz⟩:=I.list hq;refine SeqAt.notIn_listAt (BG x) pl.isList (λw hw=>ox rx fx r fs w<|by simpa using hw) ⟨.bl _,H,I,rfl,?_⟩;rw[show fE.toArray.any (BG x)=fE.any (BG x) by simp,qK r fs];exact q
 .obtain⟨fE,r,pl,hz⟩:=I.tuple hq;refine SeqAt.notIn_tupleAt (BG x) pl (λw hw=>ox rx fx r fs w<|by simpa using hw) ⟨.bl _,H,I,rfl,?_⟩;rw[show fE.toArray.any (BG x)=fE.any (BG x) by simp,qK r fs];exact q
def xx:jM X (compareOp .NotIn) (λx y H Q=>∃ i j,x=.str i/\y=.str j/\Q (.bl<|!(!(Builtin.Str.occurrences j i 0 j.length 1).isEmpty)) H):=by intro fb s σ H x y v u Q I rx ry h;obtain⟨i,j,rfl,rfl,q⟩:=h;obtain⟨t,rfl⟩:=rx;obtain⟨t',rfl⟩:=ry;exact notIn_str ⟨.bl _,H,I,rfl,q⟩
def yg:jd X (.builtin "len") (λxs H Q=>∃ p ys,xs=[.ref p]/\(oH X.K H p ys\/Fx X.K H p ys)/\Q (.int ys.length) H):=by
 intro fb s σ H xs us Q I r h;obtain⟨p,ys,rfl,hq,q⟩:=h;obtain⟨u,rfl,rx⟩:=vals1 r;cases rx;have hn:=pR;rcases hq with hq|hq
 .obtain⟨fE,r',pl,hz⟩:=I.list hq;have hlen:=r'.length;exact Calls.call_len_list pl.isList (by simp only[au]<;> lia) ⟨.int ys.length,H,I.tok _,⟨s.toks+1,by rw[au,hlen]⟩,q⟩
 .obtain⟨fE,r',pl,hz⟩:=I.tuple hq;have hlen:=r'.length;exact len_tuple pl (by simp only[au]<;> lia) ⟨.int ys.length,H,I.tok _,⟨s.toks+1,by rw[au,hlen]⟩,q⟩
def yf:jd X (.builtin "len") (λxs H Q=>∃ z,xs=[.str z]/\z.length<=sizeLine/\Q (.int z.length) H):=by intro fb s σ H xs us Q I r h;obtain⟨z,rfl,hz,q⟩:=h;obtain⟨u,rfl,t,rfl⟩:=vals1 r;have hn:=pR;exact len_str (by lia) ⟨.int z.length,H,I.tok _,⟨_,rfl⟩,q⟩
def jd.or {f:aj}{r r':ak V->Hp->VK->Prop}(h:jd X f r)(h':jd X f r'):jd X f (λxs H Q=>r xs H Q\/r' xs H Q):=by
 intro fb s σ H xs us Q I rs q;rcases q with q|q
 .exact h fb s σ H xs us Q I rs q
 .exact h' fb s σ H xs us Q I rs q
def ye:jd X (.type "list") (λxs H Q=>∃ p ys,xs=[.ref p]/\(oH X.K H p ys\/Fx X.K H p ys)/\∀ l,H l=none->Q (.ref l) (upd H l<|.lst ys)):=by
 intro fb s σ H xs us Q I r h;obtain⟨p,ys,rfl,hq,q⟩:=h;obtain⟨u,rfl,rx⟩:=vals1 r;cases rx;have fin:∀(fE:ak aj),fT ys fE->ys.length<=sizeLine->∀(h':Heap) (c':Nat),(∀ b o',s.heap.get? b=some o'->h'.get? b=some o') ->
  h'.get? s.heap.objs.size=some { cls:=.type "list",dict:=none,data:=.seq fE.toArray c',slots:=#[]}->EP X fb σ Q (.ref s.heap.objs.size) {s with heap:=h'}:=λfE r' hz h' c' kp e=>
  ⟨.ref s.heap.objs.size,_,I.laid (t':=s.toks) kp (aq _)<|show iS X.prog X.w _ h' _ (.lst ys)from⟨hz,fE,c',r',e⟩,rfl,q _<|I.gT.fresh<|aq _⟩
 rcases hq with hq|hq
 .obtain⟨fE,r',pl,hz⟩:=I.list hq;have hlen:=r'.length;obtain⟨o,ho,hc,n,hd⟩:=pl.isList;exact call_list_seq p (.inl rfl) ho hc hd (λh' c' kp e=>fin fE r' hz h' c' kp e) (by simp only[au]<;> lia)
 .obtain⟨fE,r',pl,hz⟩:=I.tuple hq;have hlen:=r'.length;obtain⟨o,ho,hc,n,hd⟩:=pl;exact call_list_seq p (.inr rfl) ho hc hd (λh' c' kp e=>fin fE r' hz h' c' kp e) (by simp only[au]<;> lia)
def Vg (K:aa)(T:String)(x:V)(H:Hp):Prop:=match x with
 |.str _=>T = "str"
 |.int _=>T = "int"
 | .ref p=>(T = "list"/\∃ xs,oH K H p xs)\/(T = "tuple"/\∃ o,K.lookup p=some o/\o.cls=.type "tuple"/\o.dict=none) \/
  (T = "dict"/\((∃ fw,H p=some (.dK fw))\/∃ fw,H p=some (.dT fw)))\/(T = "set"/\∃ S n,H p=some (.set S n))
 |_=>False
def N8 {fb:ak (ai×Obj)}{σ:St}{H:Hp}{s:ah}{T:String}{x:V}{v:aj}(I:Inv X fb σ H s)(r:fW x v)(ty:Vg X.K T x H):
 s.TypeIs v T/\∀ a,v=.ref a->∃ ob,s.heap.get? a=some ob/\ob.dict=none:=by
 cases x with
 | str z =>obtain⟨t,rfl⟩:=r;cases(show T = "str" from ty);exact⟨typeIs_str s z t,λ_ e=>nomatch e⟩
 | int i =>obtain⟨t,rfl⟩:=r;cases(show T = "int" from ty);exact⟨typeIs_int s i t,λ_ e=>nomatch e⟩
 | ref p =>
  cases r;rcases ty with⟨rfl,xs,hq⟩|⟨rfl,o,hk,hc,hd⟩|⟨rfl,hk⟩|⟨rfl,S,n,hk⟩
  .obtain⟨fE,_,pl,_⟩:=I.list hq;refine⟨pl.isList.typeIs,λa e=>?_⟩;cases e;obtain⟨o,n,e,c,hd,_⟩:=pl;exact⟨o,e,hd⟩
  .refine⟨⟨o,I.sL p o hk,hc⟩,λa e=>?_⟩;cases e;exact⟨o,I.sL _ o hk,hd⟩
  .have z:∃ o,s.heap.get? p=some o/\o.ExactDict:=by
    rcases hk with⟨fw,hk⟩|⟨fw,hk⟩
    .obtain⟨_,_,_,_,o,_,_,e,ex,_⟩:=I.gT p _ hk;exact⟨o,e,ex⟩
    .obtain⟨_,_,_,_,o,_,_,e,ex,_⟩:=I.gT p _ hk;exact⟨o,e,ex⟩
   obtain⟨o,e,ex⟩:=z
   refine⟨⟨o,e,ex.1⟩,λa e2=>?_⟩
   cases e2
   exact⟨o,e,ex.2.1⟩
  .obtain⟨o,_,_,_,e,ex,_⟩:=I.gT p _ hk;refine⟨⟨o,e,ex.1⟩,λa e2=>?_⟩;cases e2;exact⟨o,e,ex.2.1⟩
 |_=>exact False.elim ty
def tBM (K:aa)(T:String)(r:V->ak V->Hp->VK->Prop)(to:TE)(t:TA):TE:=λσ H Q=>to σ H λx H1=>Vg K T x H1/\t σ H1 λxs H2=>r x xs H2 Q
variable {o e:Expr}{es:ak Expr}{to:TE}{t:TA}{name:Str}{mW kT:Pos}{T id:String}{r:V->ak V->Hp->VK->Prop}
def R0 (pa:PlainAttrs T)(slot:Slot T name id)(Wc:typeOf (.builtin id)=pure (.type "method_descriptor"))(hm:Kh X id r)(ho:PE X o to)(ha:PA X (e::es) t)
 (Ie:attributeBase o name X.env (eval o X.env)=eval o X.env:=by rfl)
 (Qh:((backTo kT<|starEach (e::es) X.env).all (λx=>!x.1)&&(backToKw kT<|keywordEach [] X.env).all (λx=>x.1.isSome)
   && decide ((e::es).length+([]:ak Keyword).length+(if([]:ak Keyword).isEmpty then 0 else 1)<30))=true:=by rfl)
 (Ia:(mW.endLine==kT.line)=true:=by rfl) (hs:starEach (e::es) X.env=(false,eval e X.env)::starEach es X.env:=by rfl) (Bz:(backTo kT<|starEach es X.env).any (·.1)=false:=by rfl):
 PE X (.Call (.Attribute o name mW) (e::es) [] kT) (tBM X.K T r to t):=by
 intro fb s σ H Q I h;refine wpAny_Call_method_late Ie Qh Ia rfl (hZ (ho fb s σ H _ I h) λv s1 LP=>?_);obtain⟨x,H1,I1,r1,ty,q1⟩:=LP;obtain⟨h1,h2⟩:=N8 I1 r1 ty;refine⟨T,id,pa,slot,Wc,h1,h2,?_⟩;have hA:=ha kT fb s1 σ H1 _ I1 q1;rw[hs]at hA ⊢
 refine Calls.callWith_builtin (by show(false||(backTo kT<|starEach es X.env).any (·.1))=false;rw[Bz]<;> rfl)<|Calls.evalArgs_plain ?_;exact hZ hA λus s2 HX=>by obtain⟨vs,H2,I2,r2,q2⟩:=HX;exact hm fb s2 σ H2 x vs v us Q I2 r1 r2 q2
end
def YQ (X:Cx)(id:String)(r:V->ak V->Hp->VK->Prop):Prop :=
 ∀(fb:ak (ai×Obj)) (s:ah) (σ:St) (H:Hp) (x:V) (xs:ak V) (v:aj) (us:ak aj) (Q:VK),Inv X fb σ H s->fW x v->fT xs us->r x xs H Q ->
  wpAny (model X.prog X.w) X.A (call (.builtin id)<|v::us) (EP X fb σ Q) X.xe s
def fT.one {x:V}{us:ak aj}(h:fT [x] us):∃ u,us=[u]/\fW x u:=by
 cases h with
 |cons r t=>cases t;exact⟨_,rfl,r⟩
def fT.two {x y:V}{us:ak aj}(h:fT [x,y] us):∃ u v,us=[u,v]/\fW x u/\fW y v:=by
 cases h with
 |cons r t=>obtain⟨v,rfl,q⟩:=fT.one t;exact⟨_,v,rfl,r,q⟩
section
variable {X:Cx}{fb:ak (ai×Obj)}{σ:St}{H:Hp}{s:ah}{l b:ai}{xs ys zs:ak V}
def Inv.Sn {fE its':ak aj}{n:Nat}{f:Array aj->Array aj}{t':Nat}(I:Inv X fb σ H s)(hH:H l=some (.lst xs))
 (e:s.heap.get? l=some { cls:=.type "list",data:=.seq fE.toArray n}) (hf:f fE.toArray=its'.toArray) (hv:fT ys its') (hz:ys.length<=sizeLine):
 Inv X fb σ (upd H l<|.lst ys) {s with heap:=s.heap.update l<|Obj.mapSeq f,toks:=t'}:=by
 have q:=PySem.IsL.update e f;rw[hf]at q;refine I.write (x:=l) (e:=l) (by rw[hH];exact trivial) (.inl rfl) (λb' u hb hu=>(aF s.heap (Obj.mapSeq f)<|bJ hb).trans hu) ⟨_,q⟩ ?_;exact⟨hz,its',_,hv,q⟩
def Inv.VT {fE:ak aj}{t':Nat}(I:Inv X fb σ H s)(hv:fT ys fE)(hz:ys.length<=sizeLine):
 Inv X fb σ (upd H s.heap.objs.size<|.lst ys) {s with heap:=s.heap.push { cls:=.type "list",data:=.seq fE.toArray},toks:=t'}:=
 I.laid (λ_ _ q=>jx _ q) (aq _) ⟨hz,fE,0,hv,aD _ rfl⟩
theorem Inv.fresh (I:Inv X fb σ H s):H s.heap.objs.size=none:=I.gT.fresh (aq _)
def Inv.k7 (I:Inv X fb σ H s)(hH:H l=some (.lst xs)):xs.length<=sizeLine/\∃(fE:ak aj) (n:Nat),fT xs fE/\xs.length=fE.length/\s.heap.get? l=some { cls:=.type "list",data:=.seq fE.toArray n}:=by obtain⟨z,fE,n,r,e⟩:=I.gT l _ hH;exact⟨z,fE,n,r,r.length,e⟩
def Ht {n:Nat}(h:n<=sizeLine):Builtin.List.listTooLong n=false:=by unfold Builtin.List.listTooLong;exact aP (by lia)
end
section
variable {X:Cx}
def K4:V->ak V->Hp->VK->Prop:=λx vs H Q=>∃ l xs y,x=.ref l/\vs=[y]/\H l=some (.lst xs)/\xs.length<sizeLine/\Q .gz (upd H l<|.lst<|xs++[y])
def EO:YQ X "list.append" K4:=by intro fb s σ H x vs v us Q I rx rv h;obtain⟨l,xs,y,rfl,rfl,hH,hz,q⟩:=h;cases rx;obtain⟨u,rfl,ru⟩:=rv.one;obtain⟨z,fE,n,r,hl,e⟩:=I.k7 hH;refine call_meets F.slot_list_append ⟨_,e,rfl⟩ F.entry_list_append (F.args_list_append_2 _ _) (PySem.list_append l fE.toArray n u (by rw[au];lia)) ⟨e,?_⟩;refine⟨.gz,_,I.Sn (its':=fE++[u]) hH e (by simp) (r.append<|.cons ru .nil) ?_,rfl,q⟩;rw[kO,bC];lia
def K3:V->ak V->Hp->VK->Prop:=λx vs H Q=>∃ l b xs zs,x=.ref l/\vs=[.ref b]/\H l=some (.lst xs)/\H b=some (.lst zs)/\xs.length+zs.length<=sizeLine/\Q .gz (upd H l<|.lst<|xs++zs)
def Q6:YQ X "list.extend" K3:=by
 intro fb s σ H x vs v us Q I rx rv h;obtain⟨l,b,xs,zs,rfl,rfl,hH,hB,hz,q⟩:=h;cases rx;obtain⟨u,rfl,ru⟩:=rv.one;cases ru;obtain⟨z,fE,n,r,hl,e⟩:=I.k7 hH;obtain⟨z2,Bw,n2,r2,sm,e2⟩:=I.k7 hB;have hsz:fE.toArray.size+Bw.toArray.size<=sizeLine:=by rw[au,au];lia
 have SG:¬ (!fE.toArray.isEmpty&&Builtin.List.listTooLong (fE.toArray.size+Bw.toArray.size))=true:=by rw[Ht hsz,eL];exact aJ
 refine call_meets F.slot_list_extend ⟨_,e,rfl⟩ F.entry_list_extend (F.args_list_extend_2 _ _)
  (AutoSeq1.list_extend_list_list_0 l fE.toArray n b Bw.toArray n2 SG (by rw[au];lia)<|by lia) ⟨e,e2,?_⟩
 refine⟨.gz,_,I.Sn (its':=fE++Bw) hH e (by simp) (r.append r2) ?_,rfl,q⟩;rw[kO];lia
def VI:R2:=λx y H Q=>∃ l b xs zs,x=.ref l/\y=.ref b/\H l=some (.lst xs)/\H b=some (.lst zs)/\xs.length+zs.length<=sizeLine/\∀ p,H p=none->Q (.ref p) (upd H p<|.lst<|xs++zs)
def O0:jM X (binaryOp .Add) VI:=by
 intro fb s σ H x y v u Q I rx ry h;obtain⟨l,b,xs,zs,rfl,rfl,hH,hB,hz,q⟩:=h;cases rx;cases ry;obtain⟨z,fE,n,r,hl,e⟩:=I.k7 hH;obtain⟨z2,Bw,n2,r2,sm,e2⟩:=I.k7 hB;refine PySem.P.add_list e e2 ?_ (by rw[au,au];lia);have ea:fE.toArray++Bw.toArray=(fE++Bw).toArray:=by simp
 rw[ea];exact⟨.ref _,_,I.VT (t':=s.toks) (r.append r2) (by rw[kO];lia),rfl,q _ I.fresh⟩
end
end L2
namespace Att
open PySem PySem.W PySem.Calls PyProof.Rows
def sM {P:Params}{h:Heap}:∀(ns:ak Int) (vs:ak aj),WellAll P h vs (ns.map WData.int)->IntsAre vs ns:=by
 intro ns;induction ns with
 | nil =>intro vs w;rw[eG]at w;cases w;exact .nil
 | cons n ns ih =>
  intro vs w;rw[az]at w;cases w with
  | cons a b =>cases a;exact .cons _ _ (ih _ b)
def Ex {l:OpenLaw}{n:Nat}(hn:l.most=some n){P:Params}{h:Heap}{args:ak WData}{vals:ak aj}
 (LQ:l.row.toRowW.claim.pre args=true) (Wa:WellAll P h vals args):
 ∃ a vs ns,vals=[Value.ref a]/\args=[WData.list (ns.map WData.int)]/\h.get? a=some { cls:=.type "list",data:=.seq vs.toArray}/\IntsAre vs ns/\ns.length<=n:=by
 have hsh:WShape.hasAll [] args [.list .int]=true:=(pre_splitW LQ).1;have hc:l.pre.holds [] { args:=args}=true:=(pre_splitW LQ).2;obtain⟨d,r,rfl,h1,h2⟩:=hasAllW_cons hsh;obtain rfl:=hasAllW_nil h2;obtain⟨xs,rfl,h3⟩:=hasW_list h1;obtain⟨ns,rfl⟩:=items_int h3;have hlen:ns.length<=n:=by
  unfold OpenLaw.pre at hc;have h4:(WTm.not<|.lt (.lit<|.int (n:Int))<|.len<|.arg 0).holds [] { args:=[.list (ns.map .int)]}=true:=by have h4:=(holds_andW hc).1;rw[hn]at h4;exact h4
  have h5:=condW_of h4<|w_not<|w_lt w_lit<|w_len_list<|w_arg rfl;rw[gQ]at h5;refine Nat.le_of_not_lt λq=>?_;have q':(n:Int)<((ns.length:Nat):Int):=by lia
  first
   |(rw[aB q']at h5;exact absurd h5<|by decide)
   |(simp at h5;lia)
 cases Wa with
 | cons w1 w2 =>
  cases w2;cases w1 with
  |list ho WQ=>exact⟨_,_,ns,rfl,rfl,ho,sM ns _ WQ,hlen⟩
def EB (l:OpenLaw)(args:ak WData):l.row.toRowW.claim.post args (.bool true) args=true :=
 postW_of (r:=l.row.toRowW) (X:=(true==true))
  (show WShape.has [] (.bool true) .bool=true by first|rfl|decide|simp[WShape.has,WShape.arms,WShape.armsAll])
  (show(WTm.eq .res<|.lit<|.bool true).value [] { args:=args,res:=some<|.bool true,after:=args}=some (.bool<|true==true)from w_eq_bool (w_res rfl) w_lit) rfl
def Ak {l:OpenLaw}{n:Nat}{q:ae}{loose:ak Str}{XP:(Str->ao aj)->Heap->Prop}{YP:af->Heap->Prop}{d:DefRec}
 (hn:l.most=some n) (WH:d.params.defaults=[])
 (call:∀(w:af) (s₀ s₁:ah) (mg mb:Str->ao aj) (fa:ai) (o:Obj) (pm cd doc:aj) (a:ai) (vs:ak aj) (ns:ak Int),
   Ground q loose [] XP w s₀ mg mb s₁.heap->YP w s₁.heap ->
   s₁.heap.get? fa=some o->o.data=.func (docDef d.name d.params d.body d.scope pm cd doc)->s₁.heap.CodeRec cd d.name->mg d.name=some (.ref fa) ->
   s₁.heap.get? a=some { cls:=.type "list",data:=.seq vs.toArray}->IntsAre vs ns->ns.length<=n->s₁.gens=#[] ->
   codeAny (model l.prog w) callerA (.call (.ref fa) ⟨[.ref a],[]⟩) (λr s'=>r=.ok (.ret<|.bool true)/\OldK s₁.heap s'.heap/\s'.os=s₁.os/\AllBare s'.gens) s₁):
 WalkO q loose XP YP l.row.toRowW d [] (λf vs=>PySem.call f vs):=by
 intro w s₀ s₁ mg mb G Y fa o pm cd doc dV kV ho hd BA hD Wo hg args vals as LQ hlay hrd Wa hlo;obtain rfl:dV=.none:=Dflts.none hD WH;obtain rfl:kV=.none:=Dflts.noKw hD;obtain⟨a,vs,ns,rfl,rfl,Qc,hints,hlen⟩:=Ex hn LQ Wa;refine enter_call (codeAny_mono (call w s₀ s₁ mg mb fa o pm cd doc a vs ns G Y ho (fd_plain hd) BA Wo Qc hints hlen hg) λr s' hq=>?_);obtain⟨rfl,h2,h3,h4⟩:=hq;exact⟨.inl ⟨.bool true,.bool true,[],rfl,λ_=>rfl,.bool true,EB l _,λ_=>⟨List.Pairwise.nil,λ_ hm=>(nomatch hm)⟩⟩,h2,h3,h4⟩
end Att
namespace L2
open PySem PySem.Spec PyProof.Rows
def Ek {vs:ak aj}{ns:ak Int}(h:IntsAre vs ns):fT (ns.map V.int) vs:=by
 induction h with
 |nil=>exact .nil
 |cons n t h ih=>exact .cons ⟨t,rfl⟩ ih
def QU (H:Hp):Prop:=∀ b,H b=none\/∃ o xs,H b=some (.zM o<|.lst xs)
def HF {P:ae}{w:af}{K:aa}{mg mb:Str->ao aj}{CX:Eh}{k:Nat}{fa a:ai}{fd:ag}{x:Str}{sp:Sp}{s₁:ah}{vs:ak aj}{ns:ak Int}
 (KX:K.In s₁.heap) (Rh:s₁.heap.Ns mainGlobals mg) (hb:s₁.heap.Ns builtinsNs mb) (hbb:∀ x:Str,x ≠ "__name__"->mb x=bootBuiltins x) (Wr:s₁.heap.NoLimit) (hg:s₁.gens=#[])
 (ha:s₁.heap.get? a=some { cls:=.type "list",data:=.seq vs.toArray}) (hi:IntsAre vs ns) (hl:ns.length<=sizeLine) (hr:iw k callerA)
 (F:∀ fg:Heap,K.In fg->fg.Ns mainGlobals mg->gA P w K mg fg CX k fa fd [x] sp) (SN:∀(s:ah) (u:aj),BindsTo s fd ⟨[u],[]⟩ [(x,u)])
 (J9:∀ H:Hp,QU H->oH K H a (ns.map V.int)->sp [.ref a] H (λv _=>v=.bl true) λ_ _ _=>False)
 (WT:∀ H e s',CX [] H s₁ (λ_ _ _=>False) e s'->False):
 codeAny (model P w) callerA (.call (.ref fa) ⟨[.ref a],[]⟩) (λr s'=>r=.ok (.ret<|.bool true)/\OldK s₁.heap s'.heap/\s'.os=s₁.os/\AllBare s'.gens) s₁:=by
 have rv:=Ek hi;have VV:=hi.length;have core:∀ H:Hp,QU H->oH K H a (ns.map V.int)->o6 P w H s₁.heap->(∀ b,H b≠none->b=a)->(H a≠none->K.lookup a=none) ->
  codeAny (model P w) callerA (.call (.ref fa) ⟨[.ref a],[]⟩) (λr s'=>r=.ok (.ret<|.bool true)/\OldK s₁.heap s'.heap/\s'.os=s₁.os/\AllBare s'.gens) s₁:=by
  intro H hO hS gT hA hK;have D8:∀ {b:ai} {o:Obj},s₁.heap.get? b=some o->H b=none->(xV s₁.heap H).get? b=some o:=λe n=>Ib e n;have Se:∀ {b:ai} {o:Obj} {es:Array DictEntry} {ep:Nat},s₁.heap.get? b=some o->o.data=.dict es ep->H b=none:=λ{b o es ep} e d=>by
   cases q:H b with
   |none=>rfl
   | some u =>have e':b=a:=hA b (by rw[q];simp);subst e';rw[ha]at e;cases e;have d':Data.seq vs.toArray _=Data.dict es ep:=d;cases d'
  have UM:∀ {b:ai} {m:Str->ao aj},s₁.heap.Ns b m->(xV s₁.heap H).Ns b m:=λ{b m} HW=>by obtain⟨o,es,ep,e,d,r⟩:=HW;exact⟨o,es,ep,D8 e<|Se e d,d,r⟩
  have Yx:K.In (xV s₁.heap H):=λb o e=>D8 (KX b o e) (by
   cases q:H b with
   |none=>rfl
   | some u =>
    have e':b=a:=hA b (by rw[q];simp)
    subst e'
    rw[hK (by rw[q];simp)]at e;cases e)
  have hM:Mod K mg (xV s₁.heap H):=⟨Yx,UM Rh,⟨mb,UM hb,hbb⟩,let ⟨mc,h1,h2⟩:=Wr;⟨mc,UM h1,h2⟩⟩;have e0:vA P w K mg (xV s₁.heap H) callerA [] s₁ H:=⟨rfl,hM,λb o e=>Lq e,Nat.le_of_eq<|E9 _ _,trivial,λb hb=>absurd (show b∈([]:ak ai)from hb)<|by simp,gT,.of_eq hg⟩;refine codeAny_mono ((F _ Yx<|UM Rh).run callerA [] s₁ H ⟨[.ref a],[]⟩ [.ref a] [.ref a] _ _ hr e0 (SN s₁<|.ref a) (.cons rfl .nil)<|J9 H hO hS) λr s' h=>?_;cases r with
  |error e=>exact(WT H e s' h).elim
  | ok fl =>
   cases fl with
   |next=>exact False.elim h
   |brk=>exact False.elim h
   |cont=>exact False.elim h
   | ret u =>
    obtain⟨v,H',os,bare,un,Wj,r',q⟩:=h;have q':v=.bl true:=q;subst q';obtain rfl:u=Value.bool true:=r';refine⟨rfl,OldK.of_keep λb o e=>?_,os,bare⟩;cases q:H b with
    |none=>exact un.keep b o e q (by intro z;exact absurd (show b∈([]:ak ai)from z)<|by simp) (by simp)
    | some u =>
     rcases hO b with z|⟨ob,xs,z⟩
     .rw[q]at z;cases z
     .have z2:=un.uy b ob _ z;obtain⟨e1,_⟩:=gT b _ z;obtain⟨e2,_⟩:=Wj b _ z2;rw[e]at e1;cases e1;exact e2
 cases hk:K.lookup a with
 | some o =>have e:=KX a o hk;rw[ha]at e;cases e;refine core (λ_=>none) (λ_=>.inl rfl) (.inr ⟨_,vs.toArray,_,hk,rfl,rfl,rfl,by rw[au,VV];exact hl,by simpa using rv⟩) (λb u z=>by have z':(none:ao HO)=some u:=z;cases z') (λb z=>absurd rfl z) λz=>absurd rfl z
 | none =>
  refine core (λb=>if b=a then some (.zM { cls:=.type "list",data:=.seq vs.toArray} (.lst<|ns.map V.int))else none) (λb=>?_) (.inl<|.inr ⟨{ cls:=.type "list",data:=.seq vs.toArray},aA rfl⟩) (λb u z=>?_) (λb z=>?_) λ_=>hk
  .by_cases hb:b=a
   .exact .inr ⟨_,_,aA hb⟩
   .exact .inl (aC hb)
  .by_cases hb:b=a
   .have z':=(aA hb).symm.trans z;cases z';subst hb;exact⟨ha,by rw[gQ];exact hl,vs,_,rv,ha⟩
   .have z':=(aC hb).symm.trans z;cases z'
  .by_cases hb:b=a
   .exact hb
   .exact absurd (aC hb) z
def Km {l:W.OpenLaw}{n k:Nat}{q:ae}{loose:ak Str}{XP:(Str->ao aj)->Heap->Prop}{YP:af->Heap->Prop}{d:DefRec}{K:Params->aa}{CX:af->Eh}{sp:af->Sp}{x:Str}
 (hn:l.most=some n) (FG:n<=sizeLine) (WH:d.params.defaults=[]) (hr:iw k callerA)
 (hY:∀(w:af) (h:Heap),YP w h->(K w.params).In h)
 (F:∀(w:af) (mg:Str->ao aj) (fa:ai) (h:Heap),(K w.params).In h->h.Ns mainGlobals mg->mg d.name=some (.ref fa) ->
   ∃ fd:ag,(∀(s:ah) (u:aj),BindsTo s fd ⟨[u],[]⟩ [(x,u)]) /\
    ∀ fg:Heap,(K w.params).In fg->fg.Ns mainGlobals mg->gA l.prog w (K w.params) mg fg (CX w) k fa fd [x] (sp w))
 (J9:∀(w:af) (H:Hp) (a:ai) (ns:ak Int),ns.length<=n->QU H->oH (K w.params) H a (ns.map V.int)->sp w [.ref a] H (λv _=>v=.bl true) λ_ _ _=>False)
 (WT:∀(w:af) (H:Hp) (s:ah) (e:aj) (s':ah),CX w [] H s (λ_ _ _=>False) e s'->False):
 W.WalkO q loose XP YP l.row.toRowW d [] (λf vs=>PySem.call f vs):=by
 refine Att.Ak hn WH λw s₀ s₁ mg mb fa o pm cd doc a vs ns G Y ho hd BA Wo Qc hints hlen hg=>?_;have KX:=hY w _ Y;obtain⟨fd,hb,hF⟩:=F w mg fa _ KX G.T.g Wo;exact HF KX G.T.g G.T.b G.T.builtins G.T.nolimit hg Qc hints (aK hlen FG) hr hF hb (λH hO hS=>J9 w H a ns hlen hO hS) λH e s'=>WT w H s₁ e s'
def jt (s:Stmt):Arguments:=match s with
 |.FunctionDef _ a _ _ _ _ _ _ _ _=>a
 |_=>{ posonlyargs:=[],args:=[],vararg:=none,kwonlyargs:=[],kw_defaults:=[],kwarg:=none,defaults:=[]}
def iM (s:Stmt):ak Stmt:=match s with
 |.FunctionDef _ _ b _ _ _ _ _ _ _=>b
 |_=>[]
def fo (s:Stmt):Scope:=match s with
 |.FunctionDef _ _ _ _ _ _ sc _ _ _=>sc
 |_=>{ kind:=.function,names:=[],isGenerator:=false,isCoroutine:=false}
abbrev j4:Eh:=λ_ _ _ _ _ _=>False
abbrev E0:XK:=λ_ _ _=>False
def Hg {X:Cx}:Passes j4 X E0:=λ_ _ _ _ _ _ _ h=>h.elim
structure j7 (K:aa)(x qual:Str)(st:Stmt)(f:ai)(fd:ag):Prop where
 ex:∃(oc:aj) (od:Option ai) (kV doc pm:aj) (an:Option ai) (jL ct:aj) (Li:Array (Option aj)),
  fd=W.fnOf x qual (jt st) (iM st) (fo st) .none kV doc pm an jL ct/\K.lookup f=some ⟨oc,od,.func fd,Li⟩/\W.codeIn K jL qual=true
 kp:W.keepIn K (.ref f)=true
section
variable {P:ae}{w:af}{K:aa}{mg:Str->ao aj}{fg:Heap}
def j7.ok {x qual:Str}{st:Stmt}{f:ai}{fd:ag}{N ps:ak Str}{k:Nat}{sp:Sp}(F:j7 K x qual st f fd)(S:fN N ps (fo st))(len:∀ vs H Q E,sp vs H Q E->vs.length=ps.length)
 (uq:∀(jL:aj) (A:Around) (fC:ak Env) (s:ah) (H:Hp) (vs:ak V) (Q:VK) (E:XK),iw k (A.deeper<|envOfC qual (fo st) s.heap.objs.size f jL)->sp vs H Q E ->
   ∃ t,yt (ph j4 P w K mg fg N qual (fo st) f jL A fC s H E).O5 (iM st) t/\t { nx:=λ_ H'=>Q .gz H',rt:=Q} (start N vs) H):gA P w K mg fg j4 (k+1) f fd ps sp:=by
 obtain⟨oc,od,kV,doc,pm,an,jL,ct,Li,rfl,lk,BA⟩:=F.ex
 refine ND lk BA S len λA fC s H vs Q E hr J9=>?_
 obtain⟨t,h,q⟩:=uq jL A fC s H vs Q E hr J9
 exact⟨t,h.O5,q⟩
def j7.binds {x qual:Str}{st:Stmt}{f:ai}{fd:ag}{ps:ak Str}(F:j7 K x qual st f fd)
 (h:∀(kV doc pm:aj) (an:ao ai) (jL ct:aj) (us:ak aj),us.length=ps.length->bindArgs (W.fnOf x qual (jt st) (iM st) (fo st) .none kV doc pm an jL ct) ⟨us,[]⟩=pure (ps.zip us)):Binds K fd ps []:=by
 obtain⟨oc,od,kV,doc,pm,an,jL,ct,Li,rfl,lk,BA⟩:=F.ex;exact .all (h kV doc pm an jL ct)
def Qm {x qual:Str}{st:Stmt}{f:ai}{oc:aj}{od an:ao ai}{Li:Array (ao aj)}{kV doc pm jL ct:aj}(l:K.lookup f=some ⟨oc,od,.func<|W.fnOf x qual (jt st) (iM st) (fo st) .none kV doc pm an jL ct,Li⟩)
 (c:W.codeIn K jL qual=true) (k:W.keepIn K (.ref f)=true):j7 K x qual st f (W.fnOf x qual (jt st) (iM st) (fo st) .none kV doc pm an jL ct):=⟨⟨oc,od,kV,doc,pm,an,jL,ct,Li,rfl,l,c⟩,k⟩
end
def si {A:Around}{k:Nat}(hr:iw k A):A.units+1<cLine:=bS (Nat.add_le_add_left (by decide:1<=64) _) hr.units
def V2 {A B:Prop}(h:B):if false=true then A else B:=by rw[aC aJ];exact h
def V1 {A B:Prop}(h:A):if true=true then A else B:=by rw[aA rfl];exact h
def gW (H H':Hp):Prop:=∀ b o,H b=some o->H' b=some o
def gW.refl (H:Hp):gW H H:=λ_ _ h=>h
def gW.trans {H H1 H2:Hp}(a:gW H H1)(b:gW H1 H2):gW H H2:=λc o h=>b c o (a c o h)
def gW.free {H H':Hp}(e:gW H H'){l:ai}(h:H' l=Option.none):H l=Option.none:=by
 cases q:H l with
 |none=>rfl
 | some o =>rw[e l o q]at h;cases h
end L2
namespace L2
open PySem PySem.W PyProof.Rows
noncomputable abbrev ML:=Fast.tw14082659384304107361
noncomputable abbrev MK:=Fast.tw14364793385576792824
noncomputable abbrev Oa:=Fast.tw4187177175401517315
noncomputable abbrev YN (w:af)(os:OsState):ah:=⟨boot_heap w.params,#[],boot_drawn,boot_toks,os⟩
def Fv (P:Params):((boot_heap P).isNs mainGlobals,(boot_heap P).objs.size,(boot_heap P).nsMap mainGlobals "__annotations__")=(true,11,some (.ref 6)):=by kernel_rfl
def LA {p q:ae}{loose:ak Str}{Xt:ah->Bool}{α:Type}{Yf:ah->α}{Ya:af->α}{N M:Nat}
 (e:opening p=plainProg p.main.scope.names) (hN:Nat.ble 600 N=true) (f:∀ s,fenceModules? p s=some s) (le:Nat.ble M N=true)
 (h:∀(w:af) (os:OsState),(ML MK p w 11 (some<|.ref 6) M (YN w os)<|topStub p).map (λs =>
   (staticsOk (importedModules p.main.body) (boot_heap w.params) s.heap&&namesBound p s.heap&&gensDone s&&laidKept (boot_heap w.params) s.heap,Oa q loose (importedModules p.main.body) Xt true s,Yf s))=some (true,openGood q loose,Ya w)):
 LeftO p q loose Xt Yf Ya N:=λw=>by
 obtain⟨⟨h0,gs,d,k,os⟩,e1,e2⟩:=Option.map_eq_some_iff.mp<|boot_open e hN f w;obtain⟨rfl,rfl,rfl,rfl⟩:h0=boot_heap w.params/\gs=#[]/\d=boot_drawn/\k=boot_toks:=by simpa using e2
 have b:=Fv w.params;simp at b;refine fj (Option.map_eq_some_iff.mp<|h w os) λs1 r e3=>?_;simp only[Prod.mk.injEq]at e3;have r':topRun treeTable p w 11 (some<|.ref 6) M (YN w os) (topStub p)=some s1:=by rwa [show topRun=ML from Fast.te14082659384304107361,show treeTable=MK from Fast.te14364793385576792824]
 have r2:=topRun_mono (N - M) _ _ _ _ r';rw[show M+(N - M)=N by have:=Nat.le_of_ble_eq_true le;lia]at r2;have t:topFrom treeTable p w N ⟨boot_heap w.params,#[],boot_drawn,boot_toks,os⟩=some s1:=by delta topFrom;rw[b.1,b.2.1,b.2.2,r2];show(match staticsOk (importedModules p.main.body) (boot_heap w.params) s1.heap&&namesBound p s1.heap&&gensDone s1&&laidKept (boot_heap w.params) s1.heap with|true=>_|false=>_)=_;rw[e3.1]
 delta openEnds;rw[e1];show(topFrom treeTable p w N _).map _=_;rw[t];refine cq some<|Prod.ext ?_ e3.2.2;rw[<- e3.2.1];exact congrFun (congrFun (congrFun (congrFun (congrFun (congrFun Fast.te4187177175401517315 q) loose)<|importedModules p.main.body) Xt) true) s1
def tG (P:Params)(x:Str)(t:Nat)(v:aj):DictEntry:=⟨PyData.keyHash P x,.str x t,v⟩
def Sm (P:Params)(nm:Str)(t:Nat)(es:ak (Str×Nat×aj)):Obj:=⟨.type "dict",none,.dict ((([("__name__",165,.str nm t),("__doc__",166,.none),("__package__",167,.none),("__loader__",168,.builtin "__main__.__loader__#opaque"),("__spec__",169,.none),("__annotations__",170,.ref 6),("__builtins__",171,.ref 4),("__file__",173,.str "/claim/cut.py" 172),("__cached__",174,.none)]:ak (Str×Nat×aj))++es).map λe=>tG P e.1 e.2.1 e.2.2).toArray<|es.length+9,#[]⟩
abbrev sS (x:String):Str:=Str.ofString x
abbrev me (x:String)(t:Nat)(v:aj):Str×Nat×aj:=(Str.ofString x,t,v)
abbrev ko (a:ai)(o:Obj):ai×Obj:=(a,o)
abbrev sr (a:ai):ao (ao aj):=some (some<|.ref a)
abbrev sn:ao (ao aj):=some none
def U1 (x q:Str)(s:Stmt)(pm:aj)(c:ai):Obj:=⟨.type "function",none,.func<|fnOf x q (jt s) (iM s) (fo s) .none .none .none pm none (.ref c) .none,#[]⟩
def coQ (x q:Str)(t l a r1 r2:Nat)(v1 v2:aj)(r3 t2:Nat):Obj:=⟨.type "code",none,.fields #[.str x t,.str q (t+1),.str "/claim/cut.py" (t+2),.int l 0,.int a 0,.int 0 0,.int 0 0,.int 3 0,.ref r1,.bool true,.int 181 0,.ref r2,.none,v1,v2,.ref r3,.int t2 0,.int l 0,.str "/claim/cut.py" (t2+1)],#[]⟩
def Ij {K:Frag}(l:K.lookup f=some (U1 x q s pm c):=by kernel_rfl)(c':codeIn K (.ref c) q=true:=by kernel_rfl)(k:keepIn K (.ref f)=true:=by kernel_rfl):j7 K x q s f (fnOf x q (jt s) (iM s) (fo s) .none .none .none pm none (.ref c) .none):=Qm l c' k
def QL {α:Type}{P:ak α->Prop}(h:∀ a,P [a])(us:ak α)(e:us.length=1):P us:=by obtain⟨a,rfl⟩:=List.length_eq_one_iff.mp e;exact h a
def Kg {α:Type}{P:ak α->Prop}{n:Nat}(h:∀ a us,us.length=n->P (a::us))(us:ak α)(e:us.length=n+1):P us:=by
 cases us with
 |nil=>cases e
 |cons a us=>exact h a us (Nat.succ.inj e)
def Mj (s:Stmt):ak Stmt:=match s with
 |.ClassDef _ _ _ b _ _ _ _ _ _ _=>b
 |_=>[]
def Qw (s:Stmt):Pos:=match s with
 |.FunctionDef _ _ _ _ _ _ _ _ _ p=>p
 |_=>⟨0,0,0,0⟩
end L2
namespace L2
open PySem PySem.Spec PyProof.Rows
def jW (cells:ak (Str×ai)):ak (Str×NameKind)->ak (Str×ai)->ak (Str×ai)
 |[],acc=>acc
 |(n,k)::r,acc=>if k==.free then jW cells r ((n,(cells.lookup n).getD 0)::acc)else jW cells r acc
theorem pW (f:Str×NameKind->ak (Str×ai)->Sem (ForInStep<|ak<|Str×ai))
 (hf:∀ n k cs,f (n,k) cs=if k==.free then(do let a <- cellOf env n;pure (.yield<|(n,a)::cs))else pure (.yield cs)):
 ∀(names:ak (Str×NameKind)) (acc:ak (Str×ai)),(∀ y∈names,y.2=.free->∃ c,env.cells.lookup y.1=some c) ->
  forIn names acc f=pure (jW env.cells names acc)
 |[],acc,_=>rfl
 | (n,k)::r,acc,h=>by
  rw[cm,hf];unfold jW;have hr:∀ y∈r,y.2=.free->∃ c,env.cells.lookup y.1=some c:=λy hy=>h y<|mQ _ hy;by_cases hk:(k==NameKind.free)=true
  .rw[aA hk,aA hk];refine kA (h (n,k) aH<|by simpa using hk) λc hc=>?_;have pT:=hc;have e:cellOf env n=pure c:=by delta cellOf;rw[pT]
   rw[e,pT,pure_bind,pure_bind];exact pW f hf r _ hr
  .rw[aC hk,aC hk,pure_bind];exact pW f hf r _ hr
def mD (h:∀ y∈scope.names,y.2=.free->∃ c,env.cells.lookup y.1=some c):closureFor scope env=pure (jW env.cells scope.names []):=by
 simp only[closureFor];rw[pW _ (λn k cs=>by
  by_cases hk:(k==NameKind.free)=true
  .simp
  .simp only[hk,cR,if_false]) scope.names [] h]
 rfl
theorem nv:∀ {names:ak (Str×NameKind)} {acc:ak (Str×ai)},(∀ y∈names,y.2=.free->∃ c,cells.lookup y.1=some c) ->
 ∀ n c,(n,c)∈jW cells names acc->(n,c)∈acc\/cells.lookup n=some c
 |[],acc,_,n,c,h=>.inl h
 | (m,k)::r,acc,hf,n,c,h=>by
  unfold jW at h;have hr:∀ y∈r,y.2=.free->∃ c,cells.lookup y.1=some c:=λy hy=>hf y<|mQ _ hy;split at h
  .rename_i hk;rcases nv hr n c h with h|h
   .rcases List.mem_cons.mp h with e | h
    .cases e;refine kA (hf (m,k) aH<|by simpa using hk) λc hc=>?_;have pT:=hc;exact .inr (by rw[pT];rfl)
    .exact .inl h
   .exact .inr h
  .exact nv hr n c h
theorem pX:∀(names:ak (Str×NameKind)) (acc:ak (Str×ai)) (n:Str),(acc.lookup n).isSome=true->((jW cells names acc).lookup n).isSome=true
 |[],acc,n,h=>h
 | (m,k)::r,acc,n,h=>by
  unfold jW;split
  .refine pX r _ n ?_;rw[dD];cases n==m
   .exact h
   .rfl
  .exact pX r _ n h
theorem nA:∀(names:ak (Str×NameKind)) (acc:ak (Str×ai)) (n:Str),(n,NameKind.free)∈names->((jW cells names acc).lookup n).isSome=true
 | (m,k)::r,acc,n,h=>by
  unfold jW;rcases List.mem_cons.mp h with e|h
  .cases e;refine pX r _ m ?_;simp
  .split
   .exact nA r _ n h
   .exact nA r _ n h
theorem kJ:∀(names:ak (Str×NameKind)) (n:Nat) (a b:ak (Str×ai)),cellsFrom n names (a++b)=cellsFrom n names a++b
 |[],_,_,_=>rfl
 | (m,k)::r,n,a,b=>by
  unfold cellsFrom;split
  .exact kJ r (n+1) ((m,n)::a) b
  .exact kJ r n a b
def ou
 (h:Q (newEnv scope s.heap.objs.size env.globals (cellsFrom (s.heap.objs.size+1) scope.names cl) env.qual none .none (some env) builtinsNs) {s with heap:=pushCells (s.heap.push { cls:=.type "dict",data:=.dict #[]}) scope.names}):
 wpAny M A (newFunctionEnv scope env.globals cl [] env.qual none .none<|some env) Q E s:=by
 simp only[newFunctionEnv,Option.isSome_some,if_true];refine fH (wpAny_alloc<|fH<|wpAny_layCells _ (λname kind cells=>by cases Wu:kind==NameKind.cell<;>simp[Wu]) _ _ _ _ ?_);rw[show({s with heap:=s.heap.push { cls:=.type "dict",data:=.dict #[]}}:ah).heap.objs.size=s.heap.objs.size+1 from aX ..];exact fH (av<|av h)
def gY (js:ak (ao Nat))(σ:St):St:=js.map λo=>o.bind λj=>(σ[j]?).join
def tI (XN:ak Str)(xsc:Scope)(N:ak Str)(js:ak (ao Nat))(sc:Scope):Bool :=
 (sc.kind==.function)&&(sc.names.all λy=>(y.2 != .local)||(sc.names.lookup y.1==some .local)) &&
 (sc.names.all λy=>(y.2 != .free)||(xsc.names.lookup y.1==some .cell)||(xsc.names.lookup y.1==some .free)) &&
 (js.length==N.length)&&decide N.Nodup &&
 ((N.zip js).all λp=>match p.2 with
   |none=>true
   |some j=>XN[j]?==some p.1&&sc.names.contains (p.1,NameKind.free)&&sc.names.lookup p.1==some .free&&!(sc.names.contains (p.1,NameKind.cell)))
structure jI (X:Cx)(N:List Str)(js:List (Option Nat))(sc:Scope):Prop where
 kind:sc.kind=.function
 loc:∀ y∈sc.names,y.2=.local->sc.names.lookup y.1=some .local
 free:∀ y∈sc.names,y.2=.free->X.env.kindOf y.1=some .cell\/X.env.kindOf y.1=some .free
 len:js.length=N.length
 nd:N.Nodup
 slot:∀(i:Nat) (x:Str) (j:Nat),N[i]?=some x->js[i]?=some (some j)->X.N[j]?=some x/\(x,NameKind.free)∈sc.names/\sc.names.lookup x=some .free/\(x,NameKind.cell)∉sc.names
def BO (h:tI XN xsc N js sc=true)(hN:X.N=XN:=by rfl)(hs:X.env.scope=xsc:=by rfl):jI X N js sc:=by
 subst hN;subst hs;delta tI at h;simp only[cu,cL,Bool.or_eq_true,bne_iff_ne,beq_iff_eq,bA]at h;obtain⟨⟨⟨⟨⟨h1,h2⟩,h3⟩,h4⟩,h5⟩,h6⟩:=h;refine⟨h1,λy hy e=>(h2 y hy).resolve_left λz=>z e,λy hy e=>?_,h4,h5,λi x j e1 e2=>?_⟩
 .rcases h3 y hy with(z | z) | z
  .exact absurd e z
  .exact .inl z
  .exact .inr z
 .have hm:(x,some j)∈N.zip js:=List.mem_iff_getElem?.mpr ⟨i,by rw[List.getElem?_zip_eq_some];exact⟨e1,e2⟩⟩;have q:=h6 _ hm;simp at q;exact⟨q.1.1.1,q.1.1.2,q.1.2,q.2⟩
theorem kH:∀(names:ak (Str×NameKind)) (n:Nat) (acc:ak (Str×ai)) (x:Str) (c:ai),(x,c)∈cellsFrom n names acc->(x,NameKind.cell)∈names\/(x,c)∈acc
 |[],_,_,_,_,h=>.inr h
 | (m,k)::r,n,acc,x,c,h=>by
  unfold cellsFrom at h;split at h
  .rename_i hk;rcases kH r _ _ x c h with h|h
   .exact .inl (mQ _ h)
   .rcases List.mem_cons.mp h with e | h
    .cases e;have zG:k=NameKind.cell:=by simpa using hk
     exact .inl (zG▸aH)
    .exact .inr h
  .rcases kH r _ _ x c h with h | h
   .exact .inl (mQ _ h)
   .exact .inr h
theorem r9 {α β:Type}(g:Str->α->β):∀(l:ak (Str×α)) (x:Str),(l.map λp=>(p.1,g p.1 p.2)).lookup x=(l.lookup x).map (g x)
 |[],_=>rfl
 | (n,k)::r,x=>by
  rw[az,dD,dD];cases hb:x==n with
  |true=>rw[beq_iff_eq.mp hb];rfl
  |false=>exact r9 g r x
def qZ (env:Env)(x:Str)(k:NameKind):NameKind:=if(k==.free&&env.scope.kind==.function&&env.kindOf x==some .cell)then .cell else k
def jQ:(relabel sc env).names.lookup x=(sc.names.lookup x).map (qZ env x):=by rw[<- r9];congr 1;refine bO λp _=>?_;obtain⟨n,k⟩:=p;show(if _ then _ else _)=(n,qZ env n k);delta qZ;split<;>rfl
def yY (h:qZ env x k=.cell\/qZ env x k=.free):k=.cell\/k=.free:=by
 delta qZ at h;split at h
 .rename_i q;simp at q;exact .inr q.1.1
 .exact h
def vO:qZ env x .free=.cell\/qZ env x .free=.free:=by
 delta qZ;split
 .exact .inl rfl
 .exact .inr rfl
def lV (sc:Scope)(C:ai)(env:Env):Env where
 scope:=relabel sc env
 locals:=C
 globals:=env.globals
 cells:=cellsFrom (C+1) sc.names (jW env.cells sc.names [])
 qual:=env.qual
 func:=none
 code:=env.code
 frame:=env.frame
 builtins:=env.builtins
def n0 (X:Cx)(N:ak Str)(sc:Scope)(fp:ak ai)(s:ah)(H:Hp):Cx where
 prog:=X.prog
 w:=X.w
 K:=X.K
 mg:=X.mg
 fg:=X.fg
 A:=X.A
 N:=N
 s₀:=s
 H₀:=H
 env:=lV sc (s.heap.objs.size+1) X.env
 fC:=X.stack
 stack:=X.stack
 ex:=fp
 fn:=λx=>sc.names.lookup x==some .cell
 gN:=X.gN
 pn:=[]
 xe:=λ_ _=>False
def qy (sc:Scope)(h:Heap):Heap:=pushCells ((h.push { cls:=.type "list",dict:=none,data:=.seq ([]:ak aj).toArray}).push { cls:=.type "dict",data:=.dict #[]}) sc.names
def su:∀ b o,h.get? b=some o->(qy sc h).get? b=some o:=λb o e=>dN _ _ b o (jx _<|jx _ e)
def Fc:(qy sc h).get? h.objs.size=some { cls:=.type "list",dict:=none,data:=.seq ([]:ak aj).toArray} :=
 dN _ _ _ _ (jx _<|aD _ rfl)
def uv {i:Nat}(h:(gY js σ)[i]?=some (some v)):∃ j,js[i]?=some (some j)/\σ[j]?=some (some v):=by
 delta gY at h;rw[nX]at h;cases e:js[i]? with
 |none=>rw[e]at h;cases h
 | some o =>
  rw[e]at h;cases o with
  |none=>cases h
  | some j =>
   refine⟨j,rfl,?_⟩;have h':(σ[j]?).join=some v:=aU h;cases q:σ[j]? with
   |none=>rw[q]at h';cases h'
   |some z=>rw[q]at h';have:z=some v:=h';rw[this]
section
variable {X:Cx}{fb:ak (ai×Obj)}{σ:St}{H:Hp}{s:ah}{N:ak Str}{js:ak (ao Nat)}{sc:Scope}{fp:ak ai}
def HQ (I:Inv X fb σ H s)(hc:jI X N js sc)(hf:∀ b∈fp,jH X fb H b)(ho:∀ b∈fp,∃ o,s.heap.get? b=some o)(tk:Nat):
 Inv (n0 X N sc fp s H) [] (gY js σ) H {s with heap:=qy sc s.heap,toks:=tk}:=by
 have hC:(s.heap.push { cls:=.type "list",dict:=none,data:=.seq ([]:ak aj).toArray}).objs.size=s.heap.objs.size+1:=aX ..
 have Il:∀ y∈sc.names,y.2=.free->∃ c,X.env.cells.lookup y.1=some c:=λy hy e=>I.ok.has y.1<|hc.free y hy e;have ok:=cellsFrom_ok sc.names ((s.heap.push { cls:=.type "list",dict:=none,data:=.seq ([]:ak aj).toArray}).push { cls:=.type "dict",data:=.dict #[]}) (s.heap.objs.size+1+1) [] ⟨λ_ _ hm=>(nomatch hm),List.Pairwise.nil⟩
  (by rw[aX,hC];exact aq _)
 rw[aX,hC]at ok;have eC:(lV sc (s.heap.objs.size+1) X.env).cells=cellsFrom (s.heap.objs.size+1+1) sc.names []++jW X.env.cells sc.names []:=kJ sc.names _ [] _;have lk:∀ x c,(lV sc (s.heap.objs.size+1) X.env).cells.lookup x=some c->(x,c)∈cellsFrom (s.heap.objs.size+1+1) sc.names []\/X.env.cells.lookup x=some c:=λx c e=>by
  rw[eC]at e;rcases List.mem_append.mp (mem_of_lookup e)with h|h
  .exact .inl h
  .rcases nv Il x c h with h | h
   .cases h
   .exact .inr h
 have big:∀(x:Str) (c:Nat),(x,c)∈cellsFrom (s.heap.objs.size+1+1) sc.names []->s.heap.objs.size+1+1<=c:=λx c h=>(ok.empty x c h).2;have small:∀(x:Str) (c:Nat),X.env.cells.lookup x=some c->c<s.heap.objs.size:=λx c h=>let ⟨_,q⟩:=I.cell x c h;q.lt
 have has:∀ x,((lV sc (s.heap.objs.size+1) X.env).kindOf x=some .cell\/(lV sc (s.heap.objs.size+1) X.env).kindOf x=some .free)->∃ c,(lV sc (s.heap.objs.size+1) X.env).cells.lookup x=some c:=λx h=>by
  have h':(relabel sc X.env).names.lookup x=some .cell\/(relabel sc X.env).names.lookup x=some .free:=h;rw[jQ]at h';rw[eC,dU];cases q:sc.names.lookup x with
  |none=>rw[q]at h';rcases h' with h'|h'<;>cases h'
  | some k =>
   rw[q]at h';have hk:=yY (env:=X.env) (x:=x) (k:=k) (h'.elim (λz=>.inl<|aU z) λz=>.inr<|aU z);rcases hk with rfl|rfl
   .obtain⟨c,pT⟩:=mU q;exact⟨c,by rw[pT];rfl⟩
   .have z:=nA (cells:=X.env.cells) sc.names [] x<|mem_of_lookup q;obtain⟨c,pT⟩:=Option.isSome_iff_exists.mp z;cases q2:(cellsFrom (s.heap.objs.size+1+1) sc.names []).lookup x with
    |none=>exact⟨c,by rw[pT];rfl⟩
    |some d=>exact⟨d,rfl⟩
 have FE:(n0 X N sc fp s H).Ok:=by
  refine⟨I.ok.mod,hc.kind,I.ok.glob,I.ok.blt,Nat.le_succ _,λx y c h1 h2=>?_,has,λx c hx h=>?_,I.ok.hd,I.ok.frames,.inl rfl,λb hb=>⟨?_,λx c h=>?_⟩,I.bs,aK I.ok.FJ I.sz,λb o e hb=>?_,λb hb hs=>?_,I.stack,I.qd⟩
  .rcases lk x c h1 with g1 | g1 <;> rcases lk y c h2 with g2 | g2
   .exact name_of_addr ok.apart g1 g2
   .exact absurd (aG (small _ _ g2)<|aK (aQ _ 2)<|big _ _ g1) (cb _)
   .exact absurd (aG (small _ _ g1)<|aK (aQ _ 2)<|big _ _ g2) (cb _)
   .exact I.ok.inj x y c g1 g2
  .have E7:sc.names.lookup x=some .cell:=by simpa [n0]using hx
   have h':(lV sc (s.heap.objs.size+1) X.env).cells.lookup x=some c:=h
   rw[eC,dU]at h'
   obtain⟨c2,pT⟩:=mU (n:=s.heap.objs.size+1+1) E7
   rw[pT]at h'
   have e:c2=c:=aU h'
   subst e
   exact aK (aQ _ 2) (big _ _<|mem_of_lookup pT)
  .obtain⟨o,e⟩:=ho b hb;exact aw (aY<|iO e)
  .obtain⟨o,e⟩:=ho b hb;have l:=iO e;rcases lk x c h with g|g
   .exact ba (aG l<|aK (aQ _ 2)<|big _ _ g)
   .exact(hf b hb).2.2.2.2.1 x c g
  .rcases(hf b hb).2.2.2.1 with z | z
   .exact I.ok.EM b o e z
   .exact absurd (aG (iO e)<|aK I.ok.FJ z) (cb _)
  .rcases List.mem_cons.mp (I.tS b hs)with z | z
   .exact(hf b hb).2.1 z
   .exact(hf b hb).2.2.1 z
 have qw:∀ b u,s.heap.get? b=some u->(qy sc s.heap).get? b=some u:=su;have VN:(qy sc s.heap).Ns (s.heap.objs.size+1) λ_=>none:=by have q:=(Heap.Ns.new (s.heap.push { cls:=.type "list",dict:=none,data:=.seq ([]:ak aj).toArray})<|.type "dict").keeps<|dN sc.names _;rw[hC]at q;exact q
 refine⟨FE,rfl,I.bare,Un.iC qw,⟨_,VN,λi x v e1 e2 e3=>?_⟩,λx c h=>?_,I.gT.fresh<|Nat.le_succ _,λx c h=>?_,λp hp=>absurd (show p∈([]:ak (ai×Obj))from hp)<|by simp,I.gT.iC qw,?_⟩
 .refine fj (uv e2) λj hj hv=>?_;refine z5 (hc.slot i x j e1 hj) λg1 g2 g3 g4=>?_;have kx:=hc.free _ g2 rfl;refine fj I.loc λm hn hl=>?_;refine fj (hl j x v g1 hv<|.inr kx) λu r l=>?_;refine⟨u,r,?_⟩;rcases l with⟨z,_⟩|⟨_,c,Rl,sv⟩
  .have z':X.env.kindOf x=some .local:=z;rcases kx with k|k<;>(have k':X.env.kindOf x=_:=k;rw[z']at k';cases k')
  .have kY:(lV sc (s.heap.objs.size+1) X.env).kindOf x=some .cell\/(lV sc (s.heap.objs.size+1) X.env).kindOf x=some .free:=by
    show(relabel sc X.env).names.lookup x=some .cell\/(relabel sc X.env).names.lookup x=some .free;rw[jQ,g3];rcases vO (env:=X.env) (x:=x)with q|q
    .exact .inl (show some (qZ X.env x .free)=_ by rw[q])
    .exact .inr (show some (qZ X.env x .free)=_ by rw[q])
   obtain⟨c',h'⟩:=has x kY
   refine .inr ⟨kY,c',h',?_⟩
   rcases lk x c' h' with g|g
   .rcases kH _ _ _ _ _ g with z | z
    .exact absurd z g4
    .cases z
   .rw[Rl]at g;cases g;exact sv.keeps qw
 .rcases lk x c h with g | g
  .exact⟨_,(ok.empty x c g).1⟩
  .obtain⟨v,q⟩:=I.cell x c g;exact⟨v,q.keeps qw⟩
 .rcases lk x c h with g | g
  .exact I.gT.fresh (aK (aQ _ 2)<|big _ _ g)
  .exact I.nM x c g
 .delta gY;rw[gQ];exact hc.len
end
section
variable {X:Cx}{fb:ak (ai×Obj)}{σ:St}{H:Hp}{s:ah}
def Inv.adopt (I:Inv X fb σ H s)(hn:H D=none)(hL:D≠X.env.locals)(h1:X.s₀.heap.objs.size<=D)(h2:∀ x c,X.env.cells.lookup x=some c->c≠D)(h3:∀ p∈X.pn++fb,p.1≠D)
 (e:s.heap.get? D=some { cls:=.type "list",data:=.seq fE.toArray n}) (r:fT ys fE) (hz:ys.length<=sizeLine):Inv X fb σ (upd H D<|.lst ys) s:=by
 have ne:∀ b,b∉[D]->b≠D:=λb h z=>h (by simp[z]);refine I.step (g':=s.gens) (d':=s.drawn) (t':=s.toks) (h':=s.heap) (λb hb=>?_) (λb o _ _ _ q _=>q) (λb o _ _ _ q _=>⟨o.slots,q⟩) (λb o hb q z=>by rwa [fS (ne b hb)]) (λb o _ q=>⟨o,q⟩)
  (λb xs q=>by rwa [fS (gb q hn)]) (λb o u q=>by rwa [fS (gb q hn)]) (λb ps q=>⟨#[],by rw[fS (gb q hn),q];simp⟩) (λm q=>q) (λb u q=>?_) I.bare
 .have z:b=D:=by simpa using hb
  subst z
  exact⟨.inr h1,hL,h2,h3⟩
 .by_cases hb:b=D
  .subst hb;rw[fF]at q;cases q;exact⟨hz,fE,n,r,e⟩
  .rw[fS hb]at q;exact(I.gT b u q).wY (λc v _ z=>z) (λc z=>by rw[fS (gb z hn)];exact z) λc xs z=>by rw[fS (gb z hn)];exact z
def JQ (X:Cx)(ifs:ak Expr)(t:TT):Prop :=
 ∀(fb:ak (ai×Obj)) (s:ah) (σ:St) (H:Hp) (Q:Bool->Hp->Prop),Inv X fb σ H s->t σ H Q ->
  wpAny (model X.prog X.w) X.A (forIn ifs true λc r=>if r=true then do let ok <- isTrue c X.env (eval c X.env);pure (ForInStep.yield ok)else pure (ForInStep.yield r)) (TP X fb σ Q) X.xe s
def Vh:TT:=λ_ H Q=>Q true H
def Cu:JQ X [] Vh:=λ_ _ _ H _ I h=>wpAny_tests_nil ⟨H,I,h⟩
def K5 (h:PT X c t):JQ X [c] t:=λfb s σ H Q I q=>wpAny_tests_one (h fb s σ H Q I q)
def Ext (σ iB:St):Prop:=σ.length=iB.length/\∀(i:Nat) v,σ[i]?=some (some v)->iB[i]?=some (some v)
def Ext.R3:Ext (none::none::r) (v::u::r):=⟨rfl,λi z h=>by
 match i,h with
 |0,h=>simp at h
 |1,h=>simp at h
 |i+2,h=>simpa using h⟩
def Gb (js:ak (ao Nat))(g:TG)(tt:TT)(te:TE)(J:It)(σ:St)(H1:Hp)(fin:ak V->Hp->Prop):Prop :=
 ∃ W:Nat->Nat->ak V->Hp->Prop,(∃ m,W 0 m [] H1)/\∀ i m ys H,W i m ys H ->
  (J.stop i H/\fin ys H)\/(J.go i H/\∀ x H',J.FZ i H x H'->g x (gY js σ) H' λmY H2=>Ext (gY js σ) mY/\tt mY H2 λb H3 =>
    if b=true then te mY H3 λy H4=>ys.length<sizeLine/\∃ m',m'<m/\W (i+1) m' (ys++[y]) H4 else ∃ m',m'<m/\W (i+1) m' ys H3)
def yb (I:Nat->ah->Prop)
 (turn:∀ n s,I n s->wpAny (model prog w) A (pyNext it) (λr s₁=>match r with
   |none=>R (.ok .next) s₁
   | some v=>wpAny (model prog w) A (letOwnedTupleGo target it v) (λ_ yR=>wpAny (model prog w) A (assign target env v) (λ_ s₂ =>
    wpAny (model prog w) A (forIn ifs true λc r=>if r=true then do let ok <- isTrue c env (eval c env);pure (ForInStep.yield ok)else pure (ForInStep.yield r)) (λok s₃ =>
     if ok=true then wpAny (model prog w) A (eval elt env) (λx s₄ =>
      wpAny (model prog w) A (call (.builtin "list.append") [acc,x]) (λ_ s₅=>∃ m,m<n/\I m s₅) (λ_ _=>False) s₄) (λ_ _=>False) s₃
     else ∃ m,m<n/\I m s₃) (λ_ _=>False) s₂) (λ_ _=>False) yR) (λ_ _=>False) s₁) (λ_ _=>False) s)
 (n:Nat) (h:I n s):
 codeAny (model prog w) A (.compLoop (.ListComp elt [⟨target,iter,ifs,0⟩] scope pos) 0 it acc env) R s:=by
 refine codeAny_loop rfl I (λn s hI=>wpAny_noted<|fH<|dG<|fH<|bq (turn n s hI) (λr s₁ h₁=>?_) λ_ _ h'=>h'.elim) n h;cases r with
 |none=>exact av h₁
 | some v =>
  refine fH (bq h₁ (λ_ yR HS=>fH<|bq HS (λ_ s₂ h₂=>fH<|bq h₂ (λok s₃ h₃=>?_) λ_ _ h'=>h'.elim) λ_ _ h'=>h'.elim) λ_ _ h'=>h'.elim);cases ok with
  |false=>exact av ⟨rfl,h₃⟩
  | true =>exact fH (fH<|bq h₃ (λx s₄ h₄=>fH<|bq h₄ (λ_ s₅ h₅=>av<|av ⟨rfl,h₅⟩) λ_ _ h'=>h'.elim) λ_ _ h'=>h'.elim)
variable {N:ak Str}{js:ak (ao Nat)}{sc:Scope}{fp:ak ai}{tg elt iter:Expr}{ifs:ak Expr}{g:TG}{tt:TT}{te:TE}
def lobj (fE:ak aj)(n:Nat):Obj:={ cls:=.type "list",data:=.seq fE.toArray n}
def uP (I:Inv X fb σ H s)(hc:jI X N js sc)(gN:CM (n0 X N sc fp s H))
 (T:Turn X.prog X.w X.K tg J fp it tn CM) (st:tn 0 s.heap) (hf:∀ b∈fp,jH X fb H b)
 (hg:PG (n0 X N sc fp s H) tg g) (ht:JQ (n0 X N sc fp s H) ifs tt) (he:PE (n0 X N sc fp s H) elt te) (q:Gb js g tt te J σ H fin)
 (hR:∀ s' H' ys m,Inv X fb σ (upd H' s.heap.objs.size<|.lst ys) s'->H' s.heap.objs.size=none->fin ys H'->s'.heap.Ns (s.heap.objs.size+1) m->H' (s.heap.objs.size+1)=none->R (.ok .next) s'):
 codeAny (model X.prog X.w) X.A (.compStart (.ListComp elt [⟨tg,iter,ifs,0⟩] sc pos) 0 (.ref it) (.ref s.heap.objs.size)<|lV sc (s.heap.objs.size+1) X.env) R {s with heap:=qy sc s.heap,toks:=tk}:=by
 have Rg:∀ b∈fp,∃ o,s.heap.get? b=some o:=λb hb=>let ⟨o,e,_⟩:=T.obj 0 s.heap st b hb;⟨o,e⟩
 have I0:=HQ I hc hf Rg tk;have FE:=I0.ok;obtain⟨W,⟨m0,w0⟩,turn⟩:=q;have small:∀ b∈fp,b≠s.heap.objs.size:=λb hb=>let ⟨o,e⟩:=Rg b hb;aw (iO e)
 have tT:∀ {fE:ak aj} {k:Nat} {H':Hp},(∀ b∈fp,H' b=none)->∀ b∈fp,jH (n0 X N sc fp s H) [(s.heap.objs.size,lobj fE k)] H' b:=λ{fE k H'} hn b hb =>
  ⟨hn b hb,(FE.Rp b hb).1,FE.Fl b hb,.inl hb,(FE.Rp b hb).2,λp hp=>by
   have e:p=(s.heap.objs.size,lobj fE k):=by simpa [n0]using hp
   rw[e];exact(small b hb).symm⟩
 have M8:tn 0 (qy sc s.heap):=T.keep 0 _ _ st λb _ o e=>su b o e;have I1:Inv (n0 X N sc fp s H) [(s.heap.objs.size,lobj [] 0)] (gY js σ) H { s with heap:=qy sc s.heap,toks:=tk}:=I0.nh λp hp=>by
  have e:p=(s.heap.objs.size,lobj [] 0):=by simpa using hp
  subst e;refine⟨Fc,I.gT.fresh<|aq _,aw<|bQ _,λz=>?_,λv z=>by cases z⟩;obtain⟨_,o,ho,_⟩:=FE.qz.mem z;exact cb _ (iO ho)
 have loop:codeAny (model X.prog X.w) X.A (.compLoop (.ListComp elt [⟨tg,iter,ifs,0⟩] sc pos) 0 (.ref it) (.ref s.heap.objs.size)<|lV sc (s.heap.objs.size+1) X.env) R { s with heap:=qy sc s.heap,toks:=tk}:=by
  refine yb (λn s'=>∃ i ys fE k H',Inv (n0 X N sc fp s H) [(s.heap.objs.size,lobj fE k)] (gY js σ) H' s'/\tn i s'.heap/\(∀ b∈fp,H' b=none)/\fT ys fE/\ys.length<=sizeLine/\W i n ys H') ?_ m0
   ⟨0,[],[],0,H,I1,M8,λb hb=>(hf b hb).1,.nil,aS _,w0⟩
  refine λn s3 h_=>L5 h_ λi ys fE k H3 I3 JW NC rv hz w3=>?_;have len:=rv.length;rcases turn i n ys H3 w3 with⟨stop,qf⟩|⟨go,step⟩
  .refine hZ (T.done (n0 X N sc fp s H) rfl rfl rfl gN i _ s3 _ H3 _ I3 (tT NC) JW stop) λr s4 h_=>lQ h_ λhr I4=>?_;subst hr;show R (.ok .next) s4;have hD:=I4.pin (s.heap.objs.size,lobj fE k)<|aI _ aH;refine fj I4.loc λm Rh _=>?_;have IX:Inv X fb σ H3 s4:=I.Jv (ch:=fp) I4.os I4.fg I4.gT I4.bare λb hb=>by refine zZ (hf b hb) λf0 f1 f2 f3 f4 f5=>?_;exact⟨f3,f1,f4,f5⟩
   have neD:∀(b:ai) (o:Obj),s.heap.get? b=some o->b≠s.heap.objs.size:=λb o e=>aw<|iO e;refine hR s4 H3 ys m (IX.adopt hD.2.1 (ba I.lt) I.sz (λx c e=>?_) (λp hp=>neD _ _ (I.pin p hp).1) hD.1 rv hz) hD.2.1 qf Rh I4.free;obtain⟨v,q⟩:=I.cell x c e;exact aw q.lt
  .refine hZ (T.item (n0 X N sc fp s H) rfl rfl rfl gN i _ s3 _ H3 _ I3 (tT NC) JW go) λr s4 h_=>fj h_ λu hr h4=>?_;subst hr;refine hZ h4 λ_ s5 h_=>Qu h_ λx H5 I5 r5 y5 Gw SY=>?_;have Uo:=I5.pinned (tT SY)<|T.obj _ _ Gw;refine hZ (hg _ s5 _ H5 x u _ Uo r5<|step x H5 y5) λ_ s6 ⟨JT,H6,I6,⟨IG,q6⟩⟩=>?_;refine hZ (ht _ s6 JT H6 _ I6 q6) λb s7 h_=>fj h_ λH7 I7 q7=>?_;have back:∀ {s':ah} {H':Hp},Inv (n0 X N sc fp s H) ([(s.heap.objs.size,lobj fE k)]++rh fp s5.heap) JT H' s'->tn (i+1) s'.heap/\(∀ b∈fp,H' b=none)/\Inv (n0 X N sc fp s H) [(s.heap.objs.size,lobj fE k)] (gY js σ) H' s':=λ{s' H'} I'=>by refine⟨T.keep _ _ _ Gw λb hb o e=>(I'.pin (b,o)<|aI _<|aI _<|kr hb e).1,λb hb=>?_,(I'.weak IG.1 IG.2).oa⟩;refine fj (T.obj _ _ Gw b hb) λo e d=>?_;exact(I'.pin (b,o)<|aI _<|aI _<|kr hb e).2.1
   cases b with
   | false =>
    rw[aC aJ]at q7 ⊢
    refine fj q7 λm' hm w7=>?_;refine jr (back I7) λt7 f7 XB=>?_;exact⟨m',hm,i+1,ys,fE,k,H7,XB,t7,f7,rv,hz,w7⟩
   | true =>
    rw[aA rfl]at q7 ⊢
    refine hZ (he _ s7 JT H7 _ I7 q7) λy s8 LO=>?_;obtain⟨yv,H8,I8,ry,ky,m',hm,w8⟩:=LO;refine jr (back I8) λt8 f8 Um=>?_;have hD:=Um.pin (s.heap.objs.size,lobj fE k)<|aI _ aH;have eD:s8.heap.get? s.heap.objs.size=some { cls:=.type "list",data:=.seq fE.toArray k}:=hD.1;refine call_meets F.slot_list_append ⟨_,eD,rfl⟩ F.entry_list_append (F.args_list_append_2 _ _) (PySem.list_append s.heap.objs.size fE.toArray k y (by rw[au];lia)) ⟨eD,?_⟩;have q:=PySem.IsL.update eD (·.push y);have Ti:fE.toArray.push y=(fE++[y]).toArray:=by simp
    have keep:∀(b:ai) (o:Obj),b≠s.heap.objs.size->s8.heap.get? b=some o->(s8.heap.update s.heap.objs.size (Obj.mapSeq (·.push y))).get? b=some o:=λb o hb e=>(aF s8.heap (Obj.mapSeq (·.push y))<|bJ hb).trans e;have T5:∀ x c,(n0 X N sc fp s H).env.cells.lookup x=some c->c≠s.heap.objs.size:=λx c e z=>by refine nY (Um.cell x c e) λv o ho hd=>?_;rw[z,eD]at ho;cases ho;cases hd
    have I9:Inv (n0 X N sc fp s H) [] (gY js σ) H8 { s8 with heap:=s8.heap.update s.heap.objs.size (Obj.mapSeq (·.push y))} :=
     (Um.nh (pins':=[]) λp hp=>absurd hp<|by simp).turned (t':=s8.toks) keep hD.2.1 hD.2.2.1 (.inr<|aq _) T5 (λp hp=>absurd (show p∈([]:ak (ai×Obj))from hp)<|by simp)
    rw[Ti]at q;obtain⟨k',q'⟩:∃ k',(s8.heap.update s.heap.objs.size (Obj.mapSeq (·.push y))).get? s.heap.objs.size=some (lobj (fE++[y]) k'):=⟨_,q⟩;refine⟨m',hm,i+1,ys++[yv],fE++[y],k',H8,I9.nh λp hp=>?_,T.keep _ _ _ t8 λb hb o e=>keep b o (small b hb) e,f8,rv.append<|.cons ry .nil,by rw[kO,bC];lia,w8⟩;have e:p=(s.heap.objs.size,lobj (fE++[y]) k'):=by simpa using hp
    subst e;exact⟨q',hD.2.1,hD.2.2.1,hD.2.2.2.1,λv z=>by cases z⟩
 exact codeAny_compStart_list loop (T.self _ 0 _ _ _ M8 loop)
def Gv (wi:TI)(js:ak (ao Nat))(g:TG)(tt:TT)(te:TE):TE:=λσ H Q=>wi σ H λJ H1=>Gb js g tt te J σ H1 λys H'=>∀ D,H' D=none->Q (.ref D) (upd H' D<|.lst ys)
def CB (hc:jI X N js sc)(gN:X.gN=true)(hi:PI X tg iter wi)(hg:∀ fp s H,PG (n0 X N sc fp s H) tg g)(ht:∀ fp s H,JQ (n0 X N sc fp s H) ifs tt)(he:∀ fp s H,PE (n0 X N sc fp s H) elt te)
 (hs:∀ x,foldedSetIterable iter X.env x=pure x:=by intro _;rfl):PE X (.ListComp elt [⟨tg,iter,ifs,0⟩] sc pos) (Gv wi js g tt te):=by
 intro fb s σ H Q I h;refine dH rfl hs (mD λy hy e=>I.ok.has y.1<|hc.free y hy e) hc.kind hc.loc (hZ (hi fb s σ H _ I h) λv s1 h1=>hZ h1 λSu s2 h2=>?_);refine L5 h2 λit fp tn J H2 e I2 T M7 f2 q=>?_;subst e;refine cZ<|ou ?_;simp;refine uP I2 hc gN T M7 f2 (hg fp s2 H2) (ht fp s2 H2) (he fp s2 H2) q λs' H' ys m IX nD qf nC hn=>⟨m,nC,λh' sb=>?_⟩;have Aw:∀(b:ai) (o:Obj),s2.heap.get? b=some o->b≠s2.heap.objs.size+1:=λb o e=>aw<|aY<|iO e;have IY:Inv X fb σ (upd H' s2.heap.objs.size<|.lst ys) { s' with heap:=h'}:=IX.turned (t':=s'.toks) (it:=s2.heap.objs.size+1) (λb o hb e=>(sb.2 b hb).trans e) (by rwa [fS (ba<|bQ _)])
  (ba<|aY I2.lt) (.inr<|Nat.le_succ_of_le I2.sz) (λx c e=>let ⟨v,z⟩:=I2.cell x c e;aw (aY z.lt)) (λp hp=>Aw _ _ (I2.pin p hp).1)
 exact⟨.ref _,_,IY,rfl,qf _ nD⟩
def A1 (hc:jI X N js sc)(gN:X.gN=true)(hN:X.N.Nodup)(E7:X.N[i]?=some x)(hx:Loc X.env.scope x)(hi:PI X tg iter wi)(hg:∀ fp s H,PG (n0 X N sc fp s H) tg g)
 (ht:∀ fp s H,JQ (n0 X N sc fp s H) ifs tt) (he:∀ fp s H,PE (n0 X N sc fp s H) elt te) (LL:swapsWith (.ListComp elt [⟨tg,iter,ifs,0⟩] sc pos) (some<|.Name x pos') AK.line X.env=pure true:=by rfl)
 (hs:∀ x,foldedSetIterable iter X.env x=pure x:=by intro _;rfl) (hf:X.fn x=true\/X.env.scope.names.lookup x=some .local:=by first|exact .inl rfl|exact .inr rfl|assumption):
 PS X (.Assign [.Name x pos'] (.ListComp elt [⟨tg,iter,ifs,0⟩] sc pos) AK) (Og (Gv wi js g tt te)<|ux i):=by
 intro fb s σ H D I h;rw[exec_Assign_Name_used _ _ _ _ LL];refine fH<|dG<|fH ?_;refine fH (bq (dH rfl hs (mD λy hy e=>I.ok.has y.1<|hc.free y hy e) hc.kind hc.loc
  (hZ (hi fb s σ H _ I h) λv s1 h1=>hZ h1 λSu s2 h2=>?_)) (λ_ s' hq=>av<|av hq) λ_ _ e=>e)
 refine L5 h2 λit fp tn J H2 e I2 T M7 f2 q=>?_;subst e;refine cZ<|ou ?_;have hC:(s2.heap.push { cls:=.type "list",dict:=none,data:=.seq ([]:ak aj).toArray}).objs.size=s2.heap.objs.size+1:=aX ..
 simp only[hC];refine uP I2 hc gN T M7 f2 (hg fp s2 H2) (ht fp s2 H2) (he fp s2 H2) q λs' H' ys m IX nD qf nC hn=>?_;have Aw:∀(b:ai) (o:Obj),s2.heap.get? b=some o->b≠s2.heap.objs.size+1:=λb o e=>aw<|aY<|iO e;have hnC:upd H' s2.heap.objs.size (.lst ys) (s2.heap.objs.size+1)=none:=by rw[fS (ba<|bQ _)];exact hn
 refine wpAny_assign_Name (vK (v:=.ref s2.heap.objs.size) IX hN E7 hx rfl (λJZ IZ ch=>?_) hf);refine fj ch λa sba ha=>?_;have hac:s2.heap.objs.size+1≠a:=by
  rcases ha with z|z
  .rw[z];exact ba (aY I2.lt)
  .let ⟨v,z⟩:=I2.cell x a z;exact ba (aY z.lt)
 refine⟨m,nC.sameBut sba hac,λh' sb=>?_⟩;have IY:Inv X fb (σ.set i<|some<|.ref s2.heap.objs.size) (upd H' s2.heap.objs.size<|.lst ys) { JZ with heap:=h'}:=IZ.turned (t':=JZ.toks) (λb o hb e=>(sb.2 b hb).trans e) hnC
  (ba<|aY I2.lt) (.inr<|Nat.le_succ_of_le I2.sz) (λx c e=>let ⟨v,z⟩:=I2.cell x c e;aw (aY z.lt)) (λp hp=>Aw _ _ (I2.pin p hp).1)
 exact⟨_,_,IY,qf _ nD⟩
end
open Builtin Builtin.Str
def j6 {α:Type}(xs:ak α)(lo hi:ao Int):ak α:=(xs.drop<|HT.mJ xs.length 0 lo).take (HT.mJ xs.length xs.length hi - HT.mJ xs.length 0 lo)
def Mm (n:Nat)(lo:ao Int):(match lo with | none=>(0:Int) | some i=>max 0<|min (if i<0 then i+(n:Int)else i) (n:Int))=((HT.mJ n 0 lo:Nat):Int):=by
 cases lo with
 |none=>rfl
 |some i=>delta HT.mJ;split<;>lia
def Mn (n:Nat)(hi:ao Int):(match hi with | none=>(n:Int) | some i=>max 0<|min (if i<0 then i+(n:Int)else i) (n:Int))=((HT.mJ n n hi:Nat):Int):=by
 cases hi with
 |none=>rfl
 |some i=>delta HT.mJ;split<;>lia
def m5 (lo hi:ao Int)(n:Nat):strSliceIndices lo hi 1 n=sliceRange ((HT.mJ n 0 lo:Nat):Int) ((HT.mJ n n hi:Nat):Int) 1:=by rw[<- Mm,<- Mn];cases lo<;>cases hi<;>rfl
def Eu (x:Str)(lo hi:ao Int):(strSliceIndices lo hi 1 x.length).filterMap (x.cps[·]?)=j6 x.cps.toList lo hi:=by
 have hl:x.cps.toList.length=x.length:=by simp[Str.length]
 delta j6;rw[hl];have ha:=HT.AS x.length 0 (aS _) lo;have hb:=HT.AS x.length x.length (aq _) hi;by_cases Ka:HT.mJ x.length 0 lo<=HT.mJ x.length x.length hi
 .rw[<- StrLaws.sliced_plain x Ka hb,m5,m5];congr 2
  .rw[HT.lq,cj ha]
  .rw[HT.lq,cj hb]
 .rw[m5];have e:HT.mJ x.length x.length hi - HT.mJ x.length 0 lo=0:=by lia
  rw[e,List.take_zero];delta sliceRange;have h1:¬ (((HT.mJ x.length 0 lo:Nat):Int)<((HT.mJ x.length x.length hi:Nat):Int)):=by lia
  simp[h1]
def Ag {α:Type}(xs:ak α)(lo hi:ao Int):(j6 xs lo hi).length<=xs.length:=by delta j6;rw[bx,bz];lia
section
variable {X:Cx}
def VG:V->ao Int->ao Int->Hp->VK->Prop:=λx lo hi H Q=>∃ z:Str,x=.str z/\z.length<=sizeLine/\Q (.str ⟨(j6 z.cps.toList lo hi).toArray⟩) H
def Ov:U7 X VG:=by
 intro fb s σ H x v vl vu lo hi sl Q I rx hs pl pu h;obtain⟨z,rfl,hz,q⟩:=h;obtain⟨t,rfl⟩:=rx;refine⟨"str",_,F.slot_str_getitem.lookup,typeIs_str _ _ _,?_⟩;obtain⟨l,el⟩:∃ l:ao (Int×Tok),vl=partValue l/\l.map (·.1)=lo:=by
  cases pl with
  |none=>exact⟨none,rfl,rfl⟩
  |int i t=>exact⟨some (i,t),rfl,rfl⟩
 obtain⟨u,eu⟩:∃ u:ao (Int×Tok),vu=partValue u/\u.map (·.1)=hi:=by
  cases pu with
  |none=>exact⟨none,rfl,rfl⟩
  |int i t=>exact⟨some (i,t),rfl,rfl⟩
 obtain⟨rfl,el⟩:=el;obtain⟨rfl,eu⟩:=eu;refine wpAny_getItem_str_slice (l:=l) (u:=u) (st:=none) hs rfl ?_;delta sliceMade;have e:slicePicked z l u none=strSliceIndices lo hi 1 z.length:=by delta slicePicked;rw[el,eu];rfl
 rw[e,Eu];by_cases hc:(((none:ao (Int×Tok)).map (·.1)).getD 1==1&&(strSliceIndices lo hi 1 z.length).length==z.length)=true
 .rw[aA hc];refine⟨.str z,H,I,⟨_,rfl⟩,?_⟩;have pT:(strSliceIndices lo hi 1 z.length).length=z.length:=by simpa using hc
  have hl:z.cps.toList.length=z.length:=by simp[Str.length]
  have h3:j6 z.cps.toList lo hi=z.cps.toList:=by
   rw[m5]at pT;delta sliceRange at pT;have hb:=HT.AS z.length z.length (aq _) hi;delta j6;rw[hl];by_cases ky:((HT.mJ z.length 0 lo:Nat):Int)<((HT.mJ z.length z.length hi:Nat):Int)
   .simp[ky]at pT;have a0:HT.mJ z.length 0 lo=0:=by lia
    have b0:HT.mJ z.length z.length hi=z.length:=by lia
    rw[a0,b0,List.drop_zero,Nat.sub_zero,<- hl,List.take_length]
   .simp[ky]at pT;have z0:z.cps.toList=[]:=List.length_eq_zero_iff.mp (by lia);rw[z0];simp
  have e2:(⟨(j6 z.cps.toList lo hi).toArray⟩:Str)=z:=by rw[h3]
  rw[e2]at q;exact q
 .rw[aC hc];refine⟨?_,.str _,H,I.tok _,⟨_,rfl⟩,q⟩;have hl:z.cps.toList.length=z.length:=by simp[Str.length]
  have:=Ag z.cps.toList lo hi;show(j6 z.cps.toList lo hi).toArray.size<=sizeLine;rw[au];lia
theorem vD:∀ {ys:ak Str} {us:ak aj},fT (ys.map V.str) us->StrsAre us ys
 |[],_,h=>by cases h;exact .nil
 | y::r,_,h=>by
  cases h with
  |cons a b=>obtain⟨t,rfl⟩:=a;exact .cons _ _ (vD b)
theorem sx:∀(ys:ak Str) (acc:Array Nat),ys.foldl (λacc p=>acc++(#[]:Array Nat)++p.cps) acc=acc++(ys.map (·.cps.toList)).flatten.toArray
 |[],acc=>rfl
 | y::r,acc=>by rw[cE,sx r,az,eI];apply Array.toList_inj.mp;simp
def Bv (z:Str)(hz:z.cps=#[])(ys:ak Str):Txt.join z ys=⟨(ys.map (·.cps.toList)).flatten.toArray⟩:=by
 delta Txt.join glued;rw[hz];congr 1;cases ys with
 |nil=>rfl
 | cons y r =>rw[sx,az,eI];apply Array.toList_inj.mp;simp
def rJoin (K:aa):V->ak V->Hp->VK->Prop:=λx vs H Q=>∃(z:Str) (l:ai) (ys:ak Str),x=.str z/\z.cps=#[]/\vs=[.ref l]/\oH K H l (ys.map V.str)/\(ys.map (·.length)).sum<=16777216/\Q (.str ⟨(ys.map (·.cps.toList)).flatten.toArray⟩) H
def Lr:Kh X "str.join" (rJoin X.K):=by
 intro fb s σ H x vs v us Q I rx rv h;refine IP h λz l ys fV hz o7 hl hs q=>?_;subst fV;subst o7;obtain⟨t,rfl⟩:=rx;refine fj rv.one λu fV ru=>?_;subst fV;subst ru;refine jB (I.list hl) λfE r p _=>?_;have zl:z.length=0:=by delta Str.length;rw[hz];rfl
 refine join_list p.isList (by simpa using vD r) (by lia) λt' k=>?_;rw[Bv z hz];exact⟨.str _,H,I.tok _,⟨_,rfl⟩,q⟩
theorem Cs (c:Nat):∀(n:Nat) (acc:Array Nat),(List.replicate n #[c]).foldl (·++·) acc=acc++(List.replicate n c).toArray
 |0,acc=>rfl
 | n+1,acc=>by rw[List.replicate_succ,cE,Cs c n,List.replicate_succ];apply Array.toList_inj.mp;simp
def mul_one (c:Nat)(n:Int):Txt.mul ⟨#[c]⟩ n=⟨(List.replicate n.toNat c).toArray⟩:=by
 delta Txt.mul;by_cases h1:n<1
 .rw[aA h1];have e:n.toNat=0:=by lia
  rw[e];rfl
 .rw[aC h1];by_cases h2:(n==1||(⟨#[c]⟩:Str).length==0)=true
  .rw[aA h2];have e:n=1:=by simpa [Str.length]using h2
   rw[e];rfl
  .rw[aC h2];congr 1;have:=Cs c n.toNat #[];rw[this];apply Array.toList_inj.mp;simp
def A4:jM X (binaryOp .Mult) (λx y H Q=>∃(c:Nat) (n:Int),x=.str ⟨#[c]⟩/\y=.int n /\ -1000000<=n/\n<=1000000/\Q (.str ⟨(List.replicate n.toNat c).toArray⟩) H):=by
 intro fb s σ H x y v u Q I rx ry h;obtain⟨c,n,rfl,rfl,h1,h2,q⟩:=h;obtain⟨t,rfl⟩:=rx;obtain⟨t',rfl⟩:=ry;refine SB.mul ⟨?_,λhn _=>?_,λhn _=>?_⟩ λt' k=>?_
 .rw[aP (by lia),aP (by lia)];rfl
 .have e:((⟨#[c]⟩:Str).length:Int)=1:=rfl;have:(1:Int)<=(2 ^ 63 - 1) / n:=(Int.le_ediv_iff_mul_le<|by lia).mpr (by lia);lia
 .have e:(⟨#[c]⟩:Str).length=1:=rfl;delta tooLong sizeLine;rw[aP (by lia)]
 .rw[mul_one];exact⟨.str _,H,I.tok _,⟨_,rfl⟩,q⟩
def Ju:jd X (.builtin "isinstance") (λvs H Q=>∃ x T t b,vs=[x,.ty T]/\jw X.K H x t/\W.kitOne X.K t (.type T)=some b/\Q (.bl b) H):=by intro fb s σ H vs us Q I rv h;refine gG h λx T t b fV ty e q=>?_;subst fV;refine fZ (vals2 rv) λu w' fV r1 r2=>?_;subst fV;subst r2;exact EZ I r1 ty e λtk=>⟨.bl b,H,I.tok tk,rfl,q⟩
end
end L2
namespace L2
open PySem PySem.Spec PyProof.Rows
open Builtin Builtin.Str
section
variable {X:Cx}
def jM.imp {f:aj->aj->Sem aj}{r r':R2}(h:jM X f r)(hi:∀ x y H Q,r' x y H Q->r x y H Q):jM X f r':=λfb s σ H x y v u Q I r1 r2 q=>h fb s σ H x y v u Q I r1 r2 (hi x y H Q q)
def PE.imp (h:PE X e t)(hi:∀ σ H Q,t' σ H Q->t σ H Q):PE X e t':=λfb s σ H Q I q=>h fb s σ H Q I (hi σ H Q q)
def PT.imp (h:PT X e t)(hi:∀ σ H Q,t' σ H Q->t σ H Q):PT X e t':=λfb s σ H Q I q=>h fb s σ H Q I (hi σ H Q q)
def PG.imp (h:PG X e t)(hi:∀ v σ H Q,t' v σ H Q->t v σ H Q):PG X e t':=λfb s σ H v u Q I r q=>h fb s σ H v u Q I r (hi v σ H Q q)
def FL.imp (h:FL X e t)(hi:∀ v σ H Q,t' v σ H Q->t v σ H Q):FL X e t':=λfb s σ H v u Q I r q=>h fb s σ H v u Q I r (hi v σ H Q q)
def PS.imp (h:PS X e t)(hi:∀ D σ H,t' D σ H->t D σ H):PS X e t':=λfb s σ H D I q=>h fb s σ H D I (hi D σ H q)
def jd.imp (h:jd X f r)(hi:∀ vs H Q,r' vs H Q->r vs H Q):jd X f r':=λfb s σ H vs us Q I rv q=>h fb s σ H vs us Q I rv (hi vs H Q q)
def Kh.imp {id:String}(h:Kh X id r)(hi:∀ x vs H Q,r' x vs H Q->r x vs H Q):Kh X id r':=λfb s σ H x vs v us Q I r1 rv q=>h fb s σ H x vs v us Q I r1 rv (hi x vs H Q q)
def T7 (i:Nat):TE:=λσ H Q=>match σ[i]? with|some (some v)=>Q v H|_=>False
def j9 (i:Nat)(hN:X.N[i]?=some x:=by rfl)(hv:Uc X.env.scope x:=by first | exact Or.inl rfl | exact Or.inr (Or.inl rfl) | exact Or.inr<|Or.inr rfl)(hd:(x==("__debug__" : Str))=false:=by decide)
 (BA:(x==("__classdict__" : Str))=false:=by decide):PE X (.Name x pos) (T7 i):=(G7 hN hv hd BA).imp λσ H Q q=>by
 delta T7 at q;split at q
 .rename_i v e;exact⟨v,e,q⟩
 .exact q.elim
def GY:R2:=λx y H Q=>match x,y with
 |.int i,.int j=>Q (.int<|i+j) H
 |.str i,.str j=>i.length+j.length<=sizeLine/\Q (.str<|i++j) H
 |.ref l,.ref b=>∃ xs zs,H l=some (.lst xs)/\H b=some (.lst zs)/\xs.length+zs.length<=sizeLine/\∀ p,H p=none->Q (.ref p) (upd H p<|.lst<|xs++zs)
 |_,_=>False
def JO:jM X (binaryOp .Add) GY:=(O1.or<|A5.or O0).imp λx y H Q q=>by
 delta GY at q;split at q
 .exact .inl ⟨_,_,rfl,rfl,q⟩
 .exact .inr (.inl ⟨_,_,rfl,rfl,q.1,q.2⟩)
 .obtain⟨xs,zs,a,b,c,d⟩:=q;exact .inr (.inr ⟨_,_,xs,zs,rfl,rfl,a,b,c,d⟩)
 .exact q.elim
def Q4 (C:Int->Int->Prop)(g:Int->Int->V):R2:=λx y H Q=>match x,y with
 |.int i,.int j=>C i j/\Q (g i j) H
 |_,_=>False
def xq (g:Int->Int->V):R2:=λx y H Q=>match x,y with
 |.int i,.int j=>Q (g i j) H
 |_,_=>False
def jM.i2 {f:aj->aj->Sem aj}{C:Int->Int->Prop}{g:Int->Int->V}(h:jM X f (rI C g)):jM X f (Q4 C g):=h.imp λx y H Q q=>by
 delta Q4 at q;split at q
 .exact⟨_,_,rfl,rfl,q.1,q.2⟩
 .exact q.elim
def jM.SE {f:aj->aj->Sem aj}{g:Int->Int->V}(h:jM X f (K2 g)):jM X f (xq g):=h.imp λx y H Q q=>by
 delta xq at q;split at q
 .exact⟨_,_,rfl,rfl,q⟩
 .exact q.elim
def Vx:jM X (binaryOp .Sub) (xq λi j=>.int<|i - j):=OV.SE
def GP:R2:=λx y H Q=>match x,y with
 |.int i,.int j=>JS i j/\Q (.int<|i*j) H
 |.str z,.int n=>∃ c:Nat,z=⟨#[c]⟩ /\ -1000000<=n/\n<=1000000/\Q (.str ⟨(List.replicate n.toNat c).toArray⟩) H
 |_,_=>False
def mulC:jM X (binaryOp .Mult) GP:=(OY.or A4).imp λx y H Q q=>by
 delta GP at q;split at q
 .exact .inl ⟨_,_,rfl,rfl,q.1,q.2⟩
 .obtain⟨c,rfl,a,b,d⟩:=q;exact .inr ⟨c,_,rfl,rfl,a,b,d⟩
 .exact q.elim
def divC:jM X (binaryOp .FloorDiv) (Q4 Ux λi j=>.int<|i / j):=Lj.i2
def zq:jM X (binaryOp .Mod) (Q4 (λ_ j=>0<j) λi j=>.int<|i%j):=OZ.i2
def powC:jM X (binaryOp .Pow) (Q4 Uw λi j=>.int<|i ^ j.toNat):=OW.i2
def Yh:jM X (compareOp .Lt) (xq λi j=>.bl<|decide (i<j)):=R7.SE
def leC:jM X (compareOp .LtE) (xq λi j=>.bl<|decide (i<=j)):=R8.SE
def Yz:jM X (compareOp .Gt) (xq λi j=>.bl<|decide (j<i)):=R9.SE
def YA:jM X (compareOp .GtE) (xq λi j=>.bl<|decide (j<=i)):=Sa.SE
def GW (neg:Bool):R2:=λx y H Q=>match x,y with
 |.int i,.int j=>Q (.bl<|neg != decide (i=j)) H
 |.str i,.str j=>Q (.bl<|neg != decide (i=j)) H
 |.bl i,.bl j=>Q (.bl<|neg != decide (i=j)) H
 |_,_=>False
def rE [Decidable p][Decidable q](h:p↔q):decide p=decide q:=by
 by_cases hp:p
 .rw[aB hp,aB (h.mp hp)]
 .rw[aP hp,aP λz=>hp<|h.mpr z]
def dI {i j:Int}:decide (V.int i=V.int j)=decide (i=j):=rE (by simp)
def dS:decide (V.str i=V.str j)=decide (i=j):=rE (by simp)
def dB:decide (V.bl i=V.bl j)=decide (i=j):=rE (by simp)
def W5:jM X (compareOp .Eq) (GW false):=Nm.imp λx y H Q q=>by
 delta GW at q;split at q
 .exact⟨rfl,by simpa using q⟩
 .exact⟨rfl,by simpa using q⟩
 .exact⟨rfl,by simpa using q⟩
 .exact q.elim
def Aw:jM X (compareOp .NotEq) (GW true):=R6.imp λx y H Q q=>by
 delta GW at q;split at q
 .exact⟨rfl,by simpa using q⟩
 .exact⟨rfl,by simpa using q⟩
 .exact⟨rfl,by simpa using q⟩
 .exact q.elim
def cT (t:TE):TT:=λσ H Q=>t σ H λx H1=>match x with|.bl c=>Q c H1|_=>False
end
def bK (Q:Bool->Hp->Prop):VK:=λx H1=>match x with|.bl c=>Q c H1|_=>False
section
variable {X:Cx}{a b e:Expr}{t ta tb:TE}{pos:Pos}
def cB (t:TE):TT:=λσ H Q=>t σ H (bK Q)
def l5 (ho:jM X (compareOp op) r)(ha:PE X a ta)(hb:PE X b tb)(hm:behindInMarks op b=false):PT X (.Compare a [op] [b] pos) (cB<|RB r ta tb):=by
 intro fb s σ H Q I h;refine wpAny_isTrue_Compare1 (Mr ha hb I h λv u s2 x y H2 I2 rx ry q=>hZ (ho _ s2 σ H2 x y v u _ I2 rx ry q) λc s3 h_=>fZ h_ λz H3 I3 r3 q3=>?_) hm;cases z with
 |bl d=>subst r3;exact cy ⟨H3,I3,q3⟩
 |_=>exact q3.elim
def qi (h:PE X e t)(he:∀ whole,isTrue e X.env whole=(do let v <- whole;standAt e.pos;holding [v] (truthy v)):=by intro _;rfl):PT X e (cB t):=by
 intro fb s σ H Q I hw;refine isTrue_plain (hZ (h fb s σ H _ I hw) λv s1 h_=>fZ h_ λx H1 I1 r1 q1=>?_)<|he _;cases x with
 |bl d=>subst r1;exact cy ⟨H1,I1,q1⟩
 |_=>exact q1.elim
def Xu (ta tb:TE):TE:=λσ H Q=>ta σ H λx H1=>match x with|.bl c=>if c=true then tb σ H1 Q else Q (.bl false) H1|_=>False
def xw {rest:ak Expr}(ha:PE X a ta)(hb:PE X (.BoolOp .And (b::rest) pos) tb):PE X (.BoolOp .And (a::b::rest) pos) (Xu ta tb):=by
 intro fb s σ H Q I h;refine BoolOp_and (hZ (ha fb s σ H _ I h) λv s1 h_=>fZ h_ λx H1 I1 r1 q1=>?_);cases x with
 | bl c =>
  subst r1;refine cy ?_;cases c with
  |true=>exact hb fb s1 σ H1 Q I1 q1
  |false=>exact⟨.bl false,H1,I1,rfl,q1⟩
 |_=>exact q1.elim
def opt {α:Type}(o:ao α)(k:α->Prop):Prop:=match o with|some v=>k v|none=>False
def gR {α:Type}{o:ao α}{k:α->Prop}(h:opt o k):∃ v,o=some v/\k v:=by
 cases o with
 |none=>exact h.elim
 |some v=>exact⟨v,rfl,h⟩
def OH:R2:=λx y H Q=>match x,y with
 |.ref p,.int i=>∃ xs,(H p=some (.lst xs)\/H p=some (.tup xs))/\opt (o5 xs i) λv=>Q v H
 |.str z,.int i=>z.length<=sizeLine/\opt (o5 z.cps.toList i) λc=>Q (.str ⟨#[c]⟩) H
 |_,_=>False
def Ef.imp (h:Ef X r)(hi:∀ x y H Q,r' x y H Q->r x y H Q):Ef X r':=λvalue slice fb s σ H x y v u Q I r1 r2 q=>h value slice fb s σ H x y v u Q I r1 r2 (hi x y H Q q)
def HN:Ef X OH:=PH.imp λx y H Q q=>by
 delta OH at q;split at q
 .refine fj q λxs h q=>?_;refine fj (gR q) λv e q=>?_;rcases h with h|h
  .exact .inl ⟨_,xs,_,v,rfl,rfl,oH.of h,e,q⟩
  .exact .inr (.inl ⟨_,xs,_,v,rfl,rfl,Fx.of h,e,q⟩)
 .refine lQ q λhz q=>?_;refine fj (gR q) λv e q=>?_;exact .inr (.inr ⟨_,_,v,rfl,rfl,hz,e,q⟩)
 .exact q.elim
def RR:V->ao Int->ao Int->Hp->VK->Prop:=λx lo hi H Q=>match x with
 |.ref p=>∃ xs,H p=some (.lst xs)/\∀ l,H l=none->Q (.ref l) (upd H l<|.lst<|BM xs lo hi)
 |.str z=>z.length<=sizeLine/\Q (.str ⟨(j6 z.cps.toList lo hi).toArray⟩) H
 |_=>False
def slC:U7 X RR:=by
 intro fb s σ H x v vl vu lo hi sl Q I rx hs pl pu h;delta RR at h;split at h
 .refine fj h λxs h1 h2=>?_;exact KS fb s σ H _ v vl vu lo hi sl Q I rx hs pl pu ⟨_,xs,rfl,oH.of h1,h2⟩
 .exact Ov fb s σ H _ v vl vu lo hi sl Q I rx hs pl pu ⟨_,rfl,h.1,h.2⟩
 .cases h
def cNo:TO:=λ_ H Q=>Q none H
def T8 (t:TE):TO:=λσ H Q=>t σ H λx H1=>match x with|.int i=>Q (some i) H1|_=>False
def ON:PO X none cNo:=La
def G1 (h:PE X e te):PO X (some e) (T8 te):=by
 intro fb s σ H Q I hw;refine hZ (h fb s σ H _ I hw) λu s1 h_=>fZ h_ λx H1 I1 r1 q1=>?_;cases x with
 |int i=>obtain⟨t,rfl⟩:=r1;exact⟨some i,H1,I1,.int i t,q1⟩
 |_=>exact q1.elim
def GS:ak V->Hp->VK->Prop:=λvs H Q=>match vs with
 |[.ref p]=>∃ xs,(H p=some (.lst xs)\/H p=some (.tup xs))/\Q (.int xs.length) H
 |[.str z]=>z.length<=sizeLine/\Q (.int z.length) H
 |_=>False
def Lz:jd X (.builtin "len") GS:=(yg.or yf).imp λvs H Q q=>by
 delta GS at q;split at q
 .refine fj q λxs h q=>?_;rcases h with h|h
  .exact .inl ⟨_,xs,rfl,.inl<|oH.of h,q⟩
  .exact .inl ⟨_,xs,rfl,.inr<|Fx.of h,q⟩
 .exact .inr ⟨_,rfl,q.1,q.2⟩
 .exact q.elim
def GO:BV:=λo i v H Q=>match o,i with
 |.ref p,.int k=>∃ xs,H p=some (.lst xs)/\opt (FF xs.length k) λj=>Q (upd H p<|.lst<|xs.set j v)
 |_,_=>False
def setC:MB X GO:=by
 intro fb s σ H o i v ov iv u Q I ro ri rv h;delta GO at h;split at h
 .refine fj h λxs hx q=>?_;refine fj (gR q) λj e q=>?_;exact set_list fb s σ H _ _ v ov iv u Q I ro ri rv ⟨_,xs,_,j,rfl,rfl,hx,e,q⟩
 .cases h
def Nj:V->V->Hp->VK->Prop:=λo i H Q=>match o,i with
 |.ref p,.int k=>∃ xs,H p=some (.lst xs)/\0<=k/\opt (xs[k.toNat]?) λv=>Q v H
 |_,_=>False
def WU:Ui X Nj:=by
 intro fb s σ H o i ov iv Q I ro ri h;delta Nj at h;split at h
 .refine jB h λxs hx h0 q=>?_;refine fj (gR q) λv e q=>?_;subst ro;obtain⟨t,rfl⟩:=ri;obtain⟨z,fE,n,r,hl,ho⟩:=I.k7 hx;refine fj (r.get e) λw ew Cn=>?_;have ky:=(kP e).1;have hn:=pR;exact wpAny_getItem_list (⟨_,ho,rfl,n,rfl⟩:s.heap.IsList _ fE.toArray) h0 (by lia) (by simpa using ew) ⟨v,H,I,Cn,q⟩
 .cases h
def Sy (f:Int->Int->Int):NY:=λx y H Q=>match x,y with|.int i,.int j=>Q (.int<|f i j) H|_,_=>False
def xR:QT X .Add (Sy λi j=>i+j):=by
 intro fb s σ H x y v u Q I r1 r2 h;delta Sy at h;split at h
 .exact PM fb s σ H _ _ v u Q I r1 r2 ⟨_,_,rfl,rfl,h⟩
 .cases h
def JB (n:Nat)(t:Al):TG:=λv σ H Q=>match v with|.ref a=>∃ xs,H a=some (.tup xs)/\xs.length=n/\t xs σ H Q|_=>False
def Aj (t:TG)(u:Al):Al:=λvs σ H Q=>match vs with|v::r=>t v σ H λiB H'=>u r iB H' Q|[]=>False
def JC:Al:=λvs σ H Q=>match vs with|[]=>Q σ H|_=>False
def xu {t:Al}(hc:X.gN=true)(h:FL X es t)(hn:(assignEach es X.env).length=n:=by rfl)(E8:(assignEach es X.env).findIdx? (·.1)=none:=by rfl):PG X (.Tuple es k pos) (JB n t) :=
 (OO hc h hn E8).imp λv σ H Q q=>by
  delta JB at q;split at q
  .obtain⟨xs,a,b,c⟩:=q;exact⟨_,xs,rfl,Fx.of a,b,c⟩
  .exact q.elim
def mK {t:TG}(h1:PG X e t)(h2:FL X es u)(hs:(assignEach (e::es) X.env).map (·.2)=assign e X.env::(assignEach es X.env).map (·.2):=by rfl):FL X (e::es) (Aj t u) :=
 (G6 h1 h2 hs).imp λv σ H Q q=>by
  delta Aj at q;split at q
  .exact⟨_,_,rfl,q⟩
  .exact q.elim
def uc:FL X [] JC:=Lc.imp λv σ H Q q=>by
 delta JC at q;split at q
 .exact⟨rfl,q⟩
 .exact q.elim
def AY:V->ak V->Hp->VK->Prop:=λx vs H Q=>match x,vs with
 |.str z,[.ref l]=>z.cps=#[]/\∃ ys:ak Str,H l=some (.lst<|ys.map V.str)/\(ys.map (·.length)).sum<=16777216/\Q (.str ⟨(ys.map (·.cps.toList)).flatten.toArray⟩) H
 |_,_=>False
def HL:Kh X "str.join" AY:=Lr.imp λx vs H Q q=>by
 delta AY at q;split at q
 .obtain⟨a,ys,b,c,d⟩:=q;exact⟨_,_,ys,rfl,a,rfl,oH.of b,c,d⟩
 .exact q.elim
def Ni (K:aa):ak V->Hp->VK->Prop:=λvs H Q=>match vs with
 |[x,.ty T]=>∃ t b,jw K H x t/\W.kitOne K t (.type T)=some b/\Q (.bl b) H
 |_=>False
def pS:jd X (.builtin "isinstance") (Ni X.K):=Ju.imp λvs H Q q=>by
 delta Ni at q;split at q
 .obtain⟨t,b,h1,h2,h3⟩:=q;exact⟨_,_,t,b,rfl,h1,h2,h3⟩
 .exact q.elim
def AX (K:aa):ak V->Hp->VK->Prop:=λvs H Q=>match vs with
 |[.ref p]=>∃ ys,oH K H p ys/\∀ l,H l=none->Q (.ref l) (upd H l<|.lst ys)
 |_=>False
def ui:jd X (.type "list") (AX X.K):=ye.imp λvs H Q q=>by
 delta AX at q;split at q
 .obtain⟨ys,h1,h2⟩:=q;exact⟨_,ys,rfl,.inl h1,h2⟩
 .exact q.elim
def Nh:ak V->Hp->VK->Prop:=λvs H Q=>∃ i j,vs=[.int i,.int j]/\Q (.int<|max i j) H
def Ph (hc:X.gN=true):jd X (.builtin "max") Nh:=(Fs hc).imp λvs H Q q=>by
 refine nY q λi j fV q=>?_;subst fV;refine⟨_,_,rfl,?_⟩;have e:(if j>i then j else i)=max i j:=by split<;>lia
 rwa [e]
end
def mC {B:Prop}[Decidable c](h1:c->A)(h2:¬ c->B):if decide c=true then A else B:=by
 by_cases h:c
 .rw[aA (aB h)];exact h1 h
 .rw[aC (by simp[h])];exact h2 h
def Sv {B:Prop}[Decidable c](h1:¬ c->A)(h2:c->B):if(true != decide c)=true then A else B:=by
 by_cases h:c
 .rw[aC (by simp[h])];exact h2 h
 .rw[aA (by simp[h])];exact h1 h
def nK {B:Prop}[Decidable c](h1:c->A)(h2:¬ c->B):if(false != decide c)=true then A else B:=by
 by_cases h:c
 .rw[aA (by simp[h])];exact h1 h
 .rw[aC (by simp[h])];exact h2 h
def Sx {B:Prop}(h1:b=true->A)(h2:b=false->B):if b=true then A else B:=by
 cases b with
 |true=>exact h1 rfl
 |false=>exact h2 rfl
def YV (n i:Nat)(Pv:Nat->ak V->Hp->Prop)(ys:ak V):VK:=λy H4=>ys.length<sizeLine/\∃ m',m'<n - i/\(m'=n - (i+1)/\i+1<=n/\Pv (i+1) (ys++[y]) H4)
def YJ {n i:Nat}{Pv:Nat->ak V->Hp->Prop}{ys:ak V}{y:V}{H:Hp}(hi:i<n)(hl:ys.length<sizeLine)(p:Pv (i+1) (ys++[y]) H):YV n i Pv ys y H:=⟨hl,n - (i+1),by lia,rfl,hi,p⟩
def CSk (n i:Nat)(Pv:Nat->ak V->Hp->Prop)(ys:ak V)(H3:Hp):Prop:=∃ m',m'<n - i/\(m'=n - (i+1)/\i+1<=n/\Pv (i+1) ys H3)
end L2
namespace L2
open PySem PySem.Spec PyProof.Rows
structure pv (P:ae)(w:af)(K:aa)(mg:Str->Option aj)(fg:Heap)(x:Str)(k:Nat)(ps:List Str)(sp:Sp):Prop where
 ex:∃ f fd,gA P w K mg fg j4 k f fd ps sp/\mg x=some (.ref f)/\W.keepIn K (.ref f)=true/\Binds K fd ps []
def ue (C:pv X.prog X.w X.K X.mg X.fg x k ps sp)(hr:iw k X.A)(hg:Gl X x)(ha:PA X (e::es) t)
 (vm:(x==("__debug__" : Str))=false:=by decide) (he:starEach (e::es) X.env=(false,eval e X.env)::starEach es X.env:=by rfl) (oz:(backTo pos<|starEach es X.env).any (·.1)=false:=by rfl):
 PE X (.Call (.Name x p) (e::es) [] pos) (MY sp [] E0 t):=by
 refine lP C.ex λf fd F hm hk hb=>?_;exact CC F hr hg hm hk hb .nil Hg ha vm he oz
def Vt (t u:TS):TS:=λD σ H=>∃ M:St->Hp->Prop,t { D with nx:=M} σ H/\∀ iB H',M iB H'->u D iB H'
def K6 {st:Stmt}{rest:ak Stmt}(h1:PS X st t)(h2:yt X rest u):yt X (st::rest) (Vt t u):=by
 intro fb s σ H D I h;refine fj h λM a b=>?_;refine wpAny_execs_cons (hZ (h1 fb s σ H { D with nx:=M} I a) λf s1 q=>?_);cases f with
 | next =>refine nY q λiB H' I' q=>?_;exact h2 fb s1 iB H' D I' (b iB H' q)
 |ret v=>exact q
 |brk=>exact q
 |cont=>exact q
def fA {α:Type}{o:ao α}{k:α->Prop}{v:α}(e:o=some v)(h:k v):opt o k:=by rwa [e]
def OB (b:ai)(H H':Hp):Prop:=∀ c,c≠b->H' c=H c
def OB.refl:OB b H H:=λ_ _=>rfl
theorem OB.upd (h:OB b H H'):OB b H (L2.upd H' b o):=λc n=>by rw[fS n];exact h c n
def pM:(0:Int)<2147483647:=by decide
def pN:(0:Int)<1000000007:=by decide
def OX (l:ak Nat):Prop:=∀ c∈l,c=111\/c=120
def OX.of (h:l.all (λc=>c==111||c==120)=true):OX l:=λc hc=>by have:=List.all_eq_true.mp h c hc;simpa using this
def OX.app (ha:OX a)(hb:OX b):OX (a++b):=λc h=>(List.mem_append.mp h).elim (ha c) (hb c)
def OX.one (h:c=111\/c=120):OX [c]:=λd hd=>by rwa [List.mem_singleton.mp hd]
def OX.rep (h:c=111\/c=120):OX (List.replicate n c):=λd hd=>by rwa [(List.mem_replicate.mp hd).2]
def yj {l:ak Nat}{v:Int}(h0:0<=v)(h1:v<l.length):∃ c,o5 l v=some c/\c∈l:=by
 have ky:v.toNat<l.length:=by lia
 refine⟨l[v.toNat],?_,a9 _⟩;have q:=lG<|iT ky;rwa [bW h0]at q
def nB (a b:ak Nat):((⟨a.toArray⟩:Str)++(⟨b.toArray⟩:Str))=⟨(a++b).toArray⟩:=by show(⟨a.toArray++b.toArray⟩:Str)=_;congr 1;simp
def EU (a:ak Nat):(⟨a.toArray⟩:Str).length=a.length:=by simp[Str.length]
theorem uB:∀ l:ak Nat,((l.map λc=>(⟨#[c]⟩:Str)).map (·.cps.toList)).flatten=l
 |[]=>rfl
 |c::r=>by rw[az,az,eI,uB r];rfl
theorem vJ:∀ l:ak Nat,((l.map λc=>(⟨#[c]⟩:Str)).map (·.length)).sum=l.length
 |[]=>rfl
 | c::r=>by rw[az,az,cc,vJ r];show 1+r.length=r.length+1;lia
def M9 (K:aa):Sp:=λvs H Q _=>∃(a:ai) (ns:ak Int),vs=[.ref a]/\oH K H a (ns.map V.int)/\ns.length<=63/\∀ H',Q (.bl true) H'
def So (z:Str):z.length=z.cps.toList.length:=by simp[Str.length]
def S9 (b:Bool):(false != b)=b:=by cases b<;>rfl
def UC (b:Bool):(true != b)=!b:=by cases b<;>rfl
def iI (K:aa)(T:String):W.kitOne K (.type T) (.type T)=some true:=by delta W.kitOne;simp
def lS (c:Bool)(h:Heap)(it a:ai)(k:Nat):Prop:=if c=true then h.IsTupleIter it a k else h.IsListIter it a k
def ju (c:Bool)(h:Heap)(a:ai)(fE:Array aj):Prop:=if c=true then h.IsTuple a fE else h.IsList a fE
theorem lS.extBut {c:Bool}{h h':Heap}{it a b:ai}{k:Nat}(x:lS c h it a k)(hs:Heap.ExtBut b h h')(Ka:it≠b):lS c h' it a k:=by
 cases c with
 |true=>exact Heap.IsTupleIter.extBut x hs Ka
 |false=>exact Heap.IsListIter.extBut x hs Ka
theorem ju.extBut {c:Bool}{h h':Heap}{a b:ai}{fE:Array aj}(x:ju c h a fE)(hs:Heap.ExtBut b h h')(Ka:a≠b):ju c h' a fE:=by
 cases c with
 |true=>exact Heap.IsTuple.extBut x hs Ka
 |false=>exact Heap.IsList.extBut x hs Ka
def ju.lt {c:Bool}{h:Heap}{a:ai}{fE:Array aj}(x:ju c h a fE):a≠h.objs.size:=by
 cases c with
 |true=>let ⟨o,e,_⟩:=x;exact aw (iO e)
 |false=>let ⟨o,e,_⟩:=x;exact aw (iO e)
def lS.ex {c:Bool}{h:Heap}{it a:ai}{k:Nat}(x:lS c h it a k):∃ o,h.get? it=some o:=by
 cases c with
 |true=>let ⟨o,e,_⟩:=x;exact⟨o,e⟩
 |false=>let ⟨o,e,_⟩:=x;exact⟨o,e⟩
theorem lS.data {c:Bool}{h:Heap}{it a:ai}{k:Nat}(x:lS c h it a k):∃ o,h.get? it=some o/\∀ v,o.data≠.cell v:=by
 cases c with
 |true=>let ⟨o,e,_,d⟩:=x;exact⟨o,e,λv z=>by rw[d]at z;cases z⟩
 |false=>let ⟨o,e,_,d⟩:=x;exact⟨o,e,λv z=>by rw[d]at z;cases z⟩
def lS.at {c:Bool}{h h':Heap}{it a:ai}{k:Nat}(x:lS c h it a k)(e:∀ o,h.get? it=some o->h'.get? it=some o):lS c h' it a k:=by
 cases c with
 |true=>let ⟨o,q,r⟩:=x;exact⟨o,e o q,r⟩
 |false=>let ⟨o,q,r⟩:=x;exact⟨o,e o q,r⟩
section
variable {prog:ae}{w:af}{A:Around}{E:aj->ah->Prop}{s:ah}
def Bb {it t:ai}{i:Nat}{items}{x:aj}{Q:aj->ah->Prop}(hit:s.heap.IsTupleIter it t i)(ht:s.heap.IsTuple t items)(hx:items[i]?=some x)
 (hQ:∀ h',h'.IsTupleIter it t (i+1)->Heap.SameBut it s.heap h'->Q x {s with heap:=h'}):wpAny (model prog w) A (Builtin.SmallTypes.nextOf<|.ref it) Q E s:=by
 refine jB (id hit) λo ho hc hd=>?_;obtain⟨ol,Rf,_,nl,WE⟩:=ht;refine fH<|b8 hit.typeIs cQ<|cK cQ hit.typeIs F.entry_tuple_iterator_next ?_<|F.args_tuple_iterator_next_1 _;show wpAny _ _ (field (.ref it) 0>>=_) _ _ s;refine fH<|aZ ho hd (x:=.ref t) rfl ?_;refine fH<|aZ ho hd (x:=.int i 0) rfl ?_;refine fH<|bP Rf WE ?_;simp only[Ff,hx];refine fH (d9 ho hd (by simp)<|av ⟨x,rfl,av<|hQ _ ?_<|Heap.SameBut.update ..⟩);exact⟨_,bE _ ho<|eO<|dR hd _,(Obj.cls_mapFields ..).trans hc,by rw[dR hd];simp[rawInt]⟩
def EN {it t:ai}{i:Nat}{items}{Q:aj->ah->Prop}(hh:A.handled=none)(hit:s.heap.IsTupleIter it t i)(ht:s.heap.IsTuple t items)(hx:items[i]?=none)
 (hE:∀ h' e,Heap.ExtBut it s.heap h'->(∃ o,h'.get? e=some o/\o.cls=.type "StopIteration")->E (.ref e) {s with heap:=h'}):wpAny (model prog w) A (Builtin.SmallTypes.nextOf<|.ref it) Q E s:=by
 refine jB (id hit) λo ho hc hd=>?_;obtain⟨ol,Rf,_,nl,WE⟩:=ht;refine fH<|b8 (name:=Str.ofString "__next__") hit.typeIs cQ<|cK cQ hit.typeIs F.entry_tuple_iterator_next ?_<|F.args_tuple_iterator_next_1 _;show wpAny _ _ (field (.ref it) 0>>=_) _ _ s;refine fH<|aZ ho hd (x:=.ref t) rfl ?_;refine fH<|aZ ho hd (x:=.int i 0) rfl ?_;refine fH<|bP Rf WE ?_;simp only[Ff,hx];refine fH (eV<|fH<|d9 ho hd (by simp) ?_);refine fH ?_;refine fH (cZ ?_<|by size_fits);refine fH (m:=firstArgMember _ _) (wpAny_of_eq (a:=Value.none) (by first|rfl|(simp only[firstArgMember];rfl)) ?_);refine cZ ?_ (by size_fits);refine fH<|wpAny_handled ?_;first|rw[show A.in1.handled=none from hh]|rw[hh]
 refine fH<|av<|wpAny_throw ?_;exact hE _ _ (((Heap.SameBut.update ..).extBut.push _).push _) ⟨_,aD _ rfl,rfl⟩
def kq {c:Bool}{it l:ai}{i:Nat}{items:Array aj}{x:aj}{Q:aj->ah->Prop}(hit:lS c s.heap it l i)(hl:ju c s.heap l items)(hx:items[i]?=some x)
 (hQ:∀ h',lS c h' it l (i+1)->Heap.SameBut it s.heap h'->Q x {s with heap:=h'}):wpAny (model prog w) A (Builtin.SmallTypes.nextOf<|.ref it) Q E s:=by
 cases c with
 |true=>exact Bb hit hl hx hQ
 |false=>exact wpAny_nextOf_list_item hit hl hx hQ
def oQ {c:Bool}{it l:ai}{i:Nat}{items:Array aj}{Q:aj->ah->Prop}(hh:A.handled=none)(hit:lS c s.heap it l i)(hl:ju c s.heap l items)(hx:items[i]?=none)
 (hE:∀ h' e,Heap.ExtBut it s.heap h'->(∃ o,h'.get? e=some o/\o.cls=.type "StopIteration")->E (.ref e) {s with heap:=h'}):wpAny (model prog w) A (Builtin.SmallTypes.nextOf<|.ref it) Q E s:=by
 cases c with
 |true=>exact EN hh hit hl hx hE
 |false=>exact wpAny_nextOf_list_end hh hit hl hx hE
def ZK (z TO i1 i2:ai)(h h':Heap):Prop:=∀ d o,d≠z->d≠TO->d≠i1->d≠i2->h.get? d=some o->h'.get? d=some o
def ZK.trans {z TO i1 i2:ai}{h h1 h2:Heap}(a:ZK z TO i1 i2 h h1)(b:ZK z TO i1 i2 h1 h2):ZK z TO i1 i2 h h2:=λd o q1 q2 q3 q4 e=>b d o q1 q2 q3 q4 (a d o q1 q2 q3 q4 e)
abbrev nE (h:Heap)(z TI TO:ai)(f:aj)(bb:Bool):Prop:=h.get? z=some { cls:=.type "zip",dict:=none,data:=.fields #[f,.bool bb,.bool false,.ref TI,.ref TO],slots:=#[]}
structure ZG (c:Bool)(z TI TO i1 i2 l1 l2:ai)(f:aj)(bb:Bool)(a b:aj)(k1 k2:Nat)(xs ys:Array aj)(h:Heap):Prop where
 z:nE h z TI TO f bb
 ti:IsPair h TI (.ref i1) (.ref i2)
 to:IsPair h TO a b
 n1:lS c h i1 l1 k1
 n2:lS c h i2 l2 k2
 q1:ju c h l1 xs
 q2:ju c h l2 ys
section
variable {c:Bool}{z TI TO i1 i2 l1 l2:ai}{f f' a b x y:aj}{bb bb':Bool}{k1 k2:Nat}{xs ys:Array aj}{h h':Heap}
def ZG.mz (S:ZG c z TI TO i1 i2 l1 l2 f bb a b k1 k2 xs ys h)(D:ZipApart z TI TO i1 i2 l1 l2)(e:nE h' z TI TO f' bb')(k:Heap.ExtBut z h h'):ZG c z TI TO i1 i2 l1 l2 f' bb' a b k1 k2 xs ys h' :=
 ⟨e,k _ _ D.TIz S.ti,k _ _ D.TOz S.to,S.n1.extBut k D.i1z,S.n2.extBut k D.i2z,S.q1.extBut k D.l1z,S.q2.extBut k D.l2z⟩
def ZG.m1 {j:Nat}(S:ZG c z TI TO i1 i2 l1 l2 f bb a b k1 k2 xs ys h)(D:ZipApart z TI TO i1 i2 l1 l2)(e:lS c h' i1 l1 j)(k:Heap.ExtBut i1 h h'):ZG c z TI TO i1 i2 l1 l2 f bb a b j k2 xs ys h' :=
 ⟨k _ _ D.i1z.symm S.z,k _ _ D.TIi1 S.ti,k _ _ D.TOi1 S.to,e,S.n2.extBut k D.i12.symm,S.q1.extBut k D.l1i1,S.q2.extBut k D.l2i1⟩
def ZG.m2 {j:Nat}(S:ZG c z TI TO i1 i2 l1 l2 f bb a b k1 k2 xs ys h)(D:ZipApart z TI TO i1 i2 l1 l2)(e:lS c h' i2 l2 j)(k:Heap.ExtBut i2 h h'):ZG c z TI TO i1 i2 l1 l2 f bb a b k1 j xs ys h' :=
 ⟨k _ _ D.i2z.symm S.z,k _ _ D.TIi2 S.ti,k _ _ D.TOi2 S.to,S.n1.extBut k D.i12,e,S.q1.extBut k D.l1i2,S.q2.extBut k D.l2i2⟩
def ZG.mo (S:ZG c z TI TO i1 i2 l1 l2 f bb a b k1 k2 xs ys h)(D:ZipApart z TI TO i1 i2 l1 l2)(e:IsPair h' TO x y)(k:Heap.ExtBut TO h h'):ZG c z TI TO i1 i2 l1 l2 f bb x y k1 k2 xs ys h' :=
 ⟨k _ _ D.TOz.symm S.z,k _ _ D.TITO S.ti,e,S.n1.extBut k D.TOi1.symm,S.n2.extBut k D.TOi2.symm,S.q1.extBut k D.l1TO,S.q2.extBut k D.l2TO⟩
theorem ZG.push (S:ZG c z TI TO i1 i2 l1 l2 f bb a b k1 k2 xs ys h)(o:Obj):ZG c z TI TO i1 i2 l1 l2 f bb a b k1 k2 xs ys (h.push o) :=
 ⟨jx _ S.z,jx _ S.ti,jx _ S.to,S.n1.at λ_ e=>jx _ e,S.n2.at λ_ e=>jx _ e,
  S.q1.extBut (λ_ _ _ e=>jx _ e) (S.q1.lt),S.q2.extBut (λ_ _ _ e=>jx _ e) (S.q2.lt)⟩
def tJ (k:Heap.ExtBut z h h'):ZK z TO i1 i2 h h':=λd o q _ _ _ e=>k d o q e
def N6 (k:Heap.ExtBut TO h h'):ZK z TO i1 i2 h h':=λd o _ q _ _ e=>k d o q e
def Ej (k:Heap.ExtBut i1 h h'):ZK z TO i1 i2 h h':=λd o _ _ q _ e=>k d o q e
def Kj (k:Heap.ExtBut i2 h h'):ZK z TO i1 i2 h h':=λd o _ _ _ q e=>k d o q e
end
section
variable {c:Bool}{z TI TO i1 i2 l1 l2:ai}{k k1 k2:Nat}{xs ys:Array aj}{x y a b f:aj}{bb:Bool}
def rT {a:ai}{Q:ao Obj->ah->Prop}(h:Q (s.heap.get? a) s):wpAny (model prog w) A (loadIfAlive a) Q E s:=λΓ p _=>by exact h
def Dj {Q:Bool->ah->Prop}(hz:nE s.heap z TI TO f bb)(hf:f=.none\/∃ T0:ai,f=rawInt T0/\s.heap.get? T0=none)(q:Q true s):wpAny (model prog w) A (Builtin.SmallTypes.ownedTupleIsFree<|.ref z) Q E s:=by
 rcases hf with rfl|⟨T0,rfl,hd⟩
 .exact fH (aZ hz rfl rfl (av q))
 .refine fH<|aZ hz rfl rfl ?_;show wpAny _ _ (loadIfAlive T0>>=_) _ _ s;refine fH<|rT ?_;rw[hd];exact av q
def D5 {Q:Bool->ah->Prop}{T0:ai}{o:Obj}(hz:nE s.heap z TI TO (rawInt T0) bb)(hd:s.heap.get? T0=some o)(q:∀ g,nE g z TI TO (rawInt T0) true->Heap.SameBut z s.heap g->Q false { s with heap:=g}):wpAny (model prog w) A (Builtin.SmallTypes.ownedTupleIsFree<|.ref z) Q E s:=by
 refine fH<|aZ hz rfl rfl ?_;show wpAny _ _ (loadIfAlive T0>>=_) _ _ s;refine fH<|rT ?_;rw[hd];refine fH<|aZ hz rfl rfl ?_;cases bb with
 |true=>exact av (q s.heap hz ⟨rfl,λ_ _=>rfl⟩)
 |false=>exact fH (bB hz (by simp) λg e t=>av<|q g e t)
def wK {Q:aj->ah->Prop}(D:ZipApart z TI TO i1 i2 l1 l2)(S:ZG c z TI TO i1 i2 l1 l2 f bb a b k1 k2 xs ys s.heap)(hf:f=.none\/∃ T0:ai,f=rawInt T0/\s.heap.get? T0=none)(hx:xs[k1]?=some x)(hy:ys[k2]?=some y)
 (hQ:∀ h',ZG c z TI TO i1 i2 l1 l2 (rawInt s.heap.objs.size) false x y (k1+1) (k2+1) xs ys h'->IsPair h' s.heap.objs.size x y->h'.objs.size=s.heap.objs.size+1->ZK z TO i1 i2 s.heap h'->Q (.ref s.heap.objs.size) {s with heap:=h'}):
 wpAny (model prog w) A (Builtin.«zip.__next__» ⟨[.ref z],[]⟩) (λfin s'=>∃ v,fin=.done (.ret v)/\Q v s') E s:=by
 refine fH<|av<|fH<|aZ S.z rfl (x:=.bool false) rfl (fH<|aZ S.z rfl (x:=.ref TI) rfl (fH<|bP S.ti rfl ?_));refine fH (m:=Builtin.SmallTypes.ownedTupleIsFree<|.ref z)<|Dj S.z hf ?_;refine fH (eV<|fH<|aZ S.z rfl (x:=.ref TO) rfl (fH<|bB S.z (by simp) λg1 e1 t1=>?_));have S1:=S.mz D (f':=.ellipsis) (bb':=bb) e1 t1.extBut;refine fH ?_;rw[show(#[Value.ref i1,Value.ref i2]:Array aj).toList.zipIdx=[(.ref i1,0),(.ref i2,1)]from rfl,cm];refine fH (fH<|wpAny_onRaise<|fH<|kq S1.n1 S1.q1 hx λg2 e2 t2=>av ?_);have S2:=S1.m1 D e2 t2.extBut;refine fH (bP S2.to rfl (fH<|wpAny_updateSeq_pair S2.to λg3 e3 t3=>fH<|c0<|av ?_));have S3:=S2.mo D (x:=x) (y:=b) e3 t3.extBut;dsimp only;rw[cm];refine fH (fH<|wpAny_onRaise<|fH<|kq S3.n2 S3.q2 hy λg4 e4 t4=>av ?_);have S4:=S3.m2 D e4 t4.extBut;refine fH (bP S4.to rfl (fH<|wpAny_updateSeq_pair S4.to λg5 e5 t5=>fH<|c0<|av ?_));have S5:=S4.mo D (x:=x) (y:=y) e5 t5.extBut;dsimp only;rw[List.forIn_nil];have sz:g5.objs.size=s.heap.objs.size:=t5.1.trans<|t4.1.trans<|t3.1.trans<|t2.1.trans t1.1;refine av<|fH<|bP S5.to rfl (fH<|wpAny_newTuple ?_);have S6:=S5.push { cls:=.type "tuple",data:=.seq #[x,y]};refine fH (fH<|bB S6.z (by simp) λg7 e7 t7=>?_);have S7:=S6.mz D (f':=rawInt g5.objs.size) (bb':=bb) e7 t7.extBut;refine bB S7.z (by simp) λg8 e8 t8=>?_;have S8:=S7.mz D (f':=rawInt g5.objs.size) (bb':=false) e8 t8.extBut;have Uy:g5.objs.size≠z:=ba<|iO S5.z;have hT:IsPair g8 g5.objs.size x y:=t8.extBut _ _ Uy<|t7.extBut _ _ Uy<|aD _ rfl;have z8:g8.objs.size=s.heap.objs.size+1:=by rw[t8.1,t7.1,aX,sz]
 have kk:ZK z TO i1 i2 s.heap g8:=((((((tJ t1.extBut).trans<|Ej t2.extBut).trans<|N6 t3.extBut).trans<|Kj t4.extBut).trans<|N6 t5.extBut).trans λd o _ _ _ _ e=>jx _ e).trans<|(tJ t7.extBut).trans<|tJ t8.extBut;rw[sz]at S8 hT;refine av ⟨_,rfl,?_⟩;rw[sz];exact hQ g8 S8 hT z8 kk
def Kk {Q:aj->ah->Prop}{T0:ai}{o:Obj}(D:ZipApart z TI TO i1 i2 l1 l2)(S:ZG c z TI TO i1 i2 l1 l2 (rawInt T0) bb a b k1 k2 xs ys s.heap)(hd:s.heap.get? T0=some o)(hx:xs[k1]?=some x)(hy:ys[k2]?=some y)
 (hQ:∀ h',ZG c z TI TO i1 i2 l1 l2 (rawInt T0) true a b (k1+1) (k2+1) xs ys h'->IsPair h' s.heap.objs.size x y->h'.objs.size=s.heap.objs.size+1->ZK z TO i1 i2 s.heap h'->Q (.ref s.heap.objs.size) {s with heap:=h'}):
 wpAny (model prog w) A (Builtin.«zip.__next__» ⟨[.ref z],[]⟩) (λfin s'=>∃ v,fin=.done (.ret v)/\Q v s') E s:=by
 refine fH<|av<|fH<|aZ S.z rfl (x:=.bool false) rfl (fH<|aZ S.z rfl (x:=.ref TI) rfl (fH<|bP S.ti rfl ?_));refine fH (D5 S.z hd λg1 e1 t1=>?_);have S1:=S.mz D (bb':=true) e1 t1.extBut;show wpAny _ _ (forIn (#[Value.ref i1,Value.ref i2]:Array aj) (none,#[]) _>>=_) _ _ _;rw[<- Array.forIn_toList];refine fH ?_;rw[show(#[Value.ref i1,Value.ref i2]:Array aj).toList=[.ref i1,.ref i2]from rfl,cm];refine fH (fH<|bR<|fH<|kq (s:={s with heap:=g1}) S1.n1 S1.q1 hx λg2 e2 t2=>av<|av ?_);have S2:=S1.m1 D e2 t2.extBut;dsimp only;rw[cm];refine fH (fH<|bR<|fH<|kq (s:={s with heap:=g2}) S2.n2 S2.q2 hy λg3 e3 t3=>av<|av ?_);have S3:=S2.m2 D e3 t3.extBut;dsimp only;rw[List.forIn_nil];refine av (fH<|wpAny_newTuple (av ⟨_,rfl,?_⟩) (by show 2<=sizeLine;decide));have sz:g3.objs.size=s.heap.objs.size:=t3.1.trans<|t2.1.trans t1.1;have S4:=S3.push { cls:=.type "tuple",data:=.seq #[x,y]};have hT:IsPair (g3.push { cls:=.type "tuple",data:=.seq #[x,y]}) g3.objs.size x y:=aD _ rfl;have z4:(g3.push { cls:=.type "tuple",data:=.seq #[x,y]}).objs.size=s.heap.objs.size+1:=by rw[aX,sz]
 have kk:ZK z TO i1 i2 s.heap (g3.push { cls:=.type "tuple",data:=.seq #[x,y]}):=(((tJ t1.extBut).trans<|Ej t2.extBut).trans<|Kj t3.extBut).trans λd o _ _ _ _ e=>jx _ e;rw[sz]at hT ⊢
 exact hQ _ S4 hT z4 kk
def ZZ (c:Bool)(z TI TO i1 i2 l1 l2:ai)(k:Nat)(h:Heap):Prop:=∃ f bb a b,nE h z TI TO f bb/\(f=.none\/∃ T0:ai,f=rawInt T0)/\IsPair h TI (.ref i1) (.ref i2)/\IsPair h TO a b/\lS c h i1 l1 k/\lS c h i2 l2 k
def ZZ.keep {k:Nat}{h h':Heap}(Z:ZZ c z TI TO i1 i2 l1 l2 k h)(kp:∀ b∈[z,TI,TO,i1,i2],∀ o,h.get? b=some o->h'.get? b=some o):ZZ c z TI TO i1 i2 l1 l2 k h':=by refine x6 Z λf bb a b h1 h2 h3 h4 h5 h6=>?_;exact⟨f,bb,a,b,kp z (by simp) _ h1,h2,kp TI (by simp) _ h3,kp TO (by simp) _ h4,h5.at λo e=>kp i1 (by simp) o e,h6.at λo e=>kp i2 (by simp) o e⟩
def mZ {Q:Fin->ah->Prop}(hh:A.handled=none)(D:ZipApart z TI TO i1 i2 l1 l2)(S:ZG c z TI TO i1 i2 l1 l2 f bb a b k1 k2 xs ys s.heap)(hf:f=.none\/∃ T0:ai,f=rawInt T0/\s.heap.get? T0=none)(hx:xs[k1]?=none\/ys[k2]?=none)
 (hE:∀ h' e,ZK z TO i1 i2 s.heap h'->(∃ o,h'.get? e=some o/\o.cls=.type "StopIteration")->E (.ref e) {s with heap:=h'}):
 wpAny (model prog w) A (Builtin.«zip.__next__» ⟨[.ref z],[]⟩) Q E s:=by
 refine fH<|av<|fH<|aZ S.z rfl (x:=.bool false) rfl (fH<|aZ S.z rfl (x:=.ref TI) rfl (fH<|bP S.ti rfl ?_));refine fH<|Dj S.z hf ?_;refine fH (eV<|fH<|aZ S.z rfl (x:=.ref TO) rfl (fH<|bB S.z (by simp) λg1 e1 t1=>?_));have S1:=S.mz D (f':=.ellipsis) (bb':=bb) e1 t1.extBut;refine fH ?_;rw[show(#[Value.ref i1,Value.ref i2]:Array aj).toList.zipIdx=[(.ref i1,0),(.ref i2,1)]from rfl,cm];cases ex:xs[k1]? with
 | none =>
  refine fH (fH<|wpAny_onRaise<|fH<|oQ hh S1.n1 S1.q1 ex λg2 e t2 he=>?_);refine fj he λoe Qb SM=>?_;have J7:nE g2 z TI TO .ellipsis bb:=t2 _ _ D.i1z.symm S1.z;have WA:e≠z:=λq=>by subst q;rw[J7]at Qb;cases Qb;simp at SM
  exact bB J7 (by simp) λg3 _ t3=>hE g3 e (((tJ t1.extBut).trans<|Ej t2).trans<|tJ t3.extBut) ⟨oe,t3.extBut _ _ WA Qb,SM⟩
 | some x =>
  have hy:ys[k2]?=none:=by
   rcases hx with q|q
   .rw[ex]at q;cases q
   .exact q
  refine fH (fH<|wpAny_onRaise<|fH<|kq S1.n1 S1.q1 ex λg2 e2 t2=>av ?_);have S2:=S1.m1 D e2 t2.extBut;refine fH (bP S2.to rfl (fH<|wpAny_updateSeq_pair S2.to λg3 e3 t3=>fH<|c0<|av ?_));have S3:=S2.mo D (x:=x) (y:=b) e3 t3.extBut;dsimp only;rw[cm];refine fH (fH<|wpAny_onRaise<|fH<|oQ hh S3.n2 S3.q2 hy λg4 e t4 he=>?_);refine fj he λoe Qb SM=>?_;have J7:nE g4 z TI TO .ellipsis bb:=t4 _ _ D.i2z.symm S3.z;have WA:e≠z:=λq=>by subst q;rw[J7]at Qb;cases Qb;simp at SM
  exact bB J7 (by simp) λg5 _ t5=>hE g5 e ((((((tJ t1.extBut).trans<|Ej t2.extBut).trans<|N6 t3.extBut).trans<|Kj t4)).trans<|tJ t5.extBut) ⟨oe,t5.extBut _ _ WA Qb,SM⟩
def wJ {Q:Fin->ah->Prop}{T0:ai}{o:Obj}(hh:A.handled=none)(D:ZipApart z TI TO i1 i2 l1 l2)(S:ZG c z TI TO i1 i2 l1 l2 (rawInt T0) bb a b k1 k2 xs ys s.heap)(hd:s.heap.get? T0=some o)(hx:xs[k1]?=none\/ys[k2]?=none)
 (hE:∀ h' e,ZK z TO i1 i2 s.heap h'->(∃ o,h'.get? e=some o/\o.cls=.type "StopIteration")->E (.ref e) {s with heap:=h'}):
 wpAny (model prog w) A (Builtin.«zip.__next__» ⟨[.ref z],[]⟩) Q E s:=by
 refine fH<|av<|fH<|aZ S.z rfl (x:=.bool false) rfl (fH<|aZ S.z rfl (x:=.ref TI) rfl (fH<|bP S.ti rfl ?_));refine fH (D5 S.z hd λg1 e1 t1=>?_);have S1:=S.mz D (bb':=true) e1 t1.extBut;show wpAny _ _ (forIn (#[Value.ref i1,Value.ref i2]:Array aj) (none,#[]) _>>=_) _ _ _;rw[<- Array.forIn_toList];refine fH ?_;rw[show(#[Value.ref i1,Value.ref i2]:Array aj).toList=[.ref i1,.ref i2]from rfl,cm];cases ex:xs[k1]? with
 |none=>exact fH (fH<|bR<|fH<|oQ hh S1.n1 S1.q1 ex λg2 e t2 he=>hE g2 e ((tJ t1.extBut).trans<|Ej t2) he)
 | some x =>
  have hy:ys[k2]?=none:=by
   rcases hx with q|q
   .rw[ex]at q;cases q
   .exact q
  refine fH (fH<|bR<|fH<|kq (s:={s with heap:=g1}) S1.n1 S1.q1 ex λg2 e2 t2=>av<|av ?_);have S2:=S1.m1 D e2 t2.extBut;dsimp only;rw[cm];exact fH (fH<|bR<|fH<|oQ (s:={s with heap:=g2}) hh S2.n2 S2.q2 hy λg3 e t3 he=>hE g3 e (((tJ t1.extBut).trans<|Ej t2.extBut).trans<|Kj t3) he)
def B4 {Q:aj->ah->Prop}(D:ZipApart z TI TO i1 i2 l1 l2)(Z:ZZ c z TI TO i1 i2 l1 l2 k s.heap)(q1:ju c s.heap l1 xs)(q2:ju c s.heap l2 ys)(hx:xs[k]?=some x)(hy:ys[k]?=some y)
 (hQ:∀ h',ZZ c z TI TO i1 i2 l1 l2 (k+1) h'->ju c h' l1 xs->ju c h' l2 ys->IsPair h' s.heap.objs.size x y->h'.objs.size=s.heap.objs.size+1->ZK z TO i1 i2 s.heap h'->Q (.ref s.heap.objs.size) {s with heap:=h'}):
 wpAny (model prog w) A (Builtin.«zip.__next__» ⟨[.ref z],[]⟩) (λfin s'=>∃ v,fin=.done (.ret v)/\Q v s') E s:=by
 refine x6 Z λf bb a b h1 h2 h3 h4 h5 h6=>?_;rcases h2 with rfl|⟨T0,rfl⟩
 .exact wK D ⟨h1,h3,h4,h5,h6,q1,q2⟩ (.inl rfl) hx hy λh' S=>hQ h' ⟨_,_,_,_,S.z,.inr ⟨_,rfl⟩,S.ti,S.to,S.n1,S.n2⟩ S.q1 S.q2
 .cases hd:s.heap.get? T0 with
  |none=>exact wK D ⟨h1,h3,h4,h5,h6,q1,q2⟩ (.inr ⟨T0,rfl,hd⟩) hx hy λh' S=>hQ h' ⟨_,_,_,_,S.z,.inr ⟨_,rfl⟩,S.ti,S.to,S.n1,S.n2⟩ S.q1 S.q2
  |some o=>exact Kk D ⟨h1,h3,h4,h5,h6,q1,q2⟩ hd hx hy λh' S=>hQ h' ⟨_,_,_,_,S.z,.inr ⟨_,rfl⟩,S.ti,S.to,S.n1,S.n2⟩ S.q1 S.q2
def B5 {Q:Fin->ah->Prop}(hh:A.handled=none)(D:ZipApart z TI TO i1 i2 l1 l2)(Z:ZZ c z TI TO i1 i2 l1 l2 k s.heap)(q1:ju c s.heap l1 xs)(q2:ju c s.heap l2 ys)(hx:xs[k]?=none\/ys[k]?=none)
 (hE:∀ h' e,ZK z TO i1 i2 s.heap h'->(∃ o,h'.get? e=some o/\o.cls=.type "StopIteration")->E (.ref e) {s with heap:=h'}):
 wpAny (model prog w) A (Builtin.«zip.__next__» ⟨[.ref z],[]⟩) Q E s:=by
 refine x6 Z λf bb a b h1 h2 h3 h4 h5 h6=>?_;rcases h2 with rfl|⟨T0,rfl⟩
 .exact mZ hh D ⟨h1,h3,h4,h5,h6,q1,q2⟩ (.inl rfl) hx hE
 .cases hd:s.heap.get? T0 with
  |none=>exact mZ hh D ⟨h1,h3,h4,h5,h6,q1,q2⟩ (.inr ⟨T0,rfl,hd⟩) hx hE
  |some o=>exact wJ hh D ⟨h1,h3,h4,h5,h6,q1,q2⟩ hd hx hE
def wI {Q:ao aj->ah->Prop}(hz:nE s.heap z TI TO f bb)(h:wpAny (model prog w) A.in1 (Builtin.«zip.__next__» ⟨[.ref z],[]⟩) (λfin s'=>∃ v,fin=.done (.ret v)/\Q (some v) s') (λe s'=>(∃ o,∃ a,e=.ref a/\s'.heap.get? a=some o/\o.cls=.type "StopIteration")/\Q none s') s):wpAny (model prog w) A (pyNext<|.ref z) Q E s:=by have ty:s.TypeIs (.ref z) "zip":=⟨_,hz,rfl⟩;refine fH (wpAny_attempt<|b8 ty dj<|cK dj ty F.entry_zip_next (bq h (λfin s' h_=>fj h_ λv e q=>⟨v,e,av q⟩) λe s' ⟨⟨o,a,he,ho,hc⟩,q⟩=>?_)<|F.args_zip_next_1 _);subst he;exact fH (wpAny_isInstance ⟨o,ho,hc⟩ isSubtype_stop<|av q)
end
end
def Am (c:Bool)(H:Hp)(a:ai)(xs:ak V):Prop:=if c=true then H a=some (.tup xs)else H a=some (.lst xs)
def Am.inj {c:Bool}{H:Hp}{a:ai}{xs ys:ak V}(h:Am c H a xs)(h':Am c H a ys):xs=ys:=by
 cases c with
 |true=>have h1:H a=some (.tup xs):=h;have h2:H a=some (.tup ys):=h';rw[h1]at h2;cases h2;rfl
 |false=>have h1:H a=some (.lst xs):=h;have h2:H a=some (.lst ys):=h';rw[h1]at h2;cases h2;rfl
def Am.ex {c:Bool}{H:Hp}{a:ai}{xs:ak V}(h:Am c H a xs):∃ o,H a=some o:=by
 cases c with
 |true=>exact⟨_,h⟩
 |false=>exact⟨_,h⟩
def Am.val {X:Cx}{fb:ak (ai×Obj)}{σ:St}{H:Hp}{s:ah}{c:Bool}{a:ai}{xs:ak V}(I:Inv X fb σ H s)(h:Am c H a xs):∃ fE:ak aj,fT xs fE/\ju c s.heap a fE.toArray:=by
 cases c with
 | true =>obtain⟨_,fE,r,p⟩:=(I.gT a _ h);exact⟨fE,r,p⟩
 | false =>obtain⟨_,fE,n,r,_,e⟩:=I.k7 h;exact⟨fE,r,⟨_,e,rfl,n,rfl⟩⟩
def Xz (c:Bool)(a1 a2:ai):It :=
 ⟨λi H=>∃ xs ys x y,Am c H a1 xs/\Am c H a2 ys/\xs[i]?=some x/\ys[i]?=some y,
  λi H v H'=>∃ T x y,v=.ref T/\H T=none/\H'=upd H T (.tup [x,y])/\(∀ xs,Am c H a1 xs->xs[i]?=some x)/\(∀ ys,Am c H a2 ys->ys[i]?=some y),
  λi H=>∃ xs ys,Am c H a1 xs/\Am c H a2 ys/\(xs.length<=i\/ys.length<=i)⟩
section
variable {X:Cx}{fb:ak (ai×Obj)}{σ:St}{H:Hp}{s:ah}
def Inv.yP {ch:ak ai}{h'':Heap}{x y:V}{u v:aj}(I:Inv X fb σ H s)(fr:∀ b∈ch,jH X fb H b)(Bq:∀ b o,b∉ch->s.heap.get? b=some o->h''.get? b=some o)(WR:IsPair h'' s.heap.objs.size u v)(ru:fW x u)(rv:fW y v):
 Inv X fb σ (upd H s.heap.objs.size<|.tup [x,y]) {s with heap:=h''}:=by
 have hn:=I.gT.fresh<|aq _;refine I.step (g':=s.gens) (d':=s.drawn) (t':=s.toks) (h':=h'') (ch:=ch) (λb hb=>?_) (λb o _ _ hb e _=>Bq b o hb e) (λb o _ _ hb e _=>⟨o.slots,Bq b o hb e⟩)
  (λb o hb e n=>by rw[fS (aw<|iO e)];exact n) (λb o hb e=>⟨o,Bq b o hb e⟩)
  (λb zs e=>by rw[fS (gb e hn)];exact e) (λb o u e=>by rw[fS (gb e hn)];exact e) (λb ps e=>⟨#[],by rw[fS (gb e hn),e];simp⟩) (λm hm=>?_) (λb o e=>?_) I.bare
 .refine zZ (fr b hb) λf0 f1 f2 f3 f4 f5=>?_;exact⟨f3,f1,f4,f5⟩
 .refine IU hm λo es ep ho rr=>?_;exact⟨o,es,ep,Bq _ o (λq=>(fr _ q).2.1 rfl) ho,rr⟩
 .by_cases hb:b=s.heap.objs.size
  .subst hb;rw[fF]at e;cases e;exact⟨by show 2<=sizeLine;decide,[u,v],.cons ru<|.cons rv .nil,⟨_,WR,rfl,0,rfl⟩⟩
  .rw[fS hb]at e;refine(I.gT b o e).wY (λd v' hd q=>Bq d v' (λhm=>?_) q) (λd q=>by rw[fS (gb q hn)];exact q) λd zs q=>by rw[fS (gb q hn)];exact q
   have nn:=(fr d hm).1;rcases hd with rfl|hd
   .rw[nn]at e;cases e
   .rw[nn]at hd;cases hd
def Inv.yQ {ch:ak ai}{h'':Heap}(I:Inv X fb σ H s)(fr:∀ b∈ch,jH X fb H b)(Bq:∀ b o,b∉ch->s.heap.get? b=some o->h''.get? b=some o):Inv X fb σ H { s with heap:=h''}:=by
 refine I.step (g':=s.gens) (d':=s.drawn) (t':=s.toks) (h':=h'') (λb hb=>?_) (λb o _ _ hb e _=>Bq b o hb e) (λb o _ _ hb e _=>⟨o.slots,Bq b o hb e⟩)
  (λb o hb e n=>n) (λb o hb e=>⟨o,Bq b o hb e⟩) (λb zs e=>e) (λb o u e=>e) (λb ps e=>⟨#[],by rw[e];simp⟩) (λm hm=>?_) (λb o e=>?_) I.bare
 .refine zZ (fr b hb) λf0 f1 f2 f3 f4 f5=>?_;exact⟨f3,f1,f4,f5⟩
 .refine IU hm λo es ep ho rr=>?_;exact⟨o,es,ep,Bq _ o (λq=>(fr _ q).2.1 rfl) ho,rr⟩
 .refine(I.gT b o e).wY (λd v' hd q=>Bq d v' (λhm=>?_) q) (λd q=>q) λd zs q=>q;have nn:=(fr d hm).1;rcases hd with rfl|hd
  .rw[nn]at e;cases e
  .rw[nn]at hd;cases hd
end
def Gg {P:ae}{w:af}{K:aa}{elts:ak Expr}{kk:Nat}{mn:Pos}{c:Bool}{z TI TO i1 i2 l1 l2:ai}(D:ZipApart z TI TO i1 i2 l1 l2):
 Turn P w K (.Tuple elts kk mn) (Xz c l1 l2) [z,TI,TO,i1,i2] z (λi h=>IsZip h z TI TO .none/\IsPair h TI (.ref i1) (.ref i2)/\(∃ a b,IsPair h TO a b)/\lS c h i1 l1 i/\lS c h i2 l2 i) where
 mem:=by simp
 obj:=λi h st b hb=>by
  obtain⟨hz,Dh,⟨a,b',Dg⟩,h1,h2⟩:=st;simp only[aT,aM,bY]at hb;rcases hb with rfl|rfl|rfl|rfl|rfl
  .exact⟨_,hz,λv q=>by cases q⟩
  .exact⟨_,Dh,λv q=>by cases q⟩
  .exact⟨_,Dg,λv q=>by cases q⟩
  .exact h1.data
  .exact h2.data
 keep:=λi h h' st k=>by obtain⟨hz,Dh,⟨a,b',Dg⟩,h1,h2⟩:=st;exact⟨k z (by simp) _ hz,k TI (by simp) _ Dh,⟨a,b',k TO (by simp) _ Dg⟩,h1.at λo e=>k i1 (by simp) o e,h2.at λo e=>k i2 (by simp) o e⟩
 item:=by
  intro X hP hw hK hc i fb s σ H E I hf st hg;subst hP hw hK;obtain⟨hz,Dh,⟨a,b',Dg⟩,h1,h2⟩:=st;refine gG hg λxs ys x y q1 q2 ex ey=>?_;refine fj (q1.val I) λus r1 p1=>?_;refine fj (q2.val I) λws r2 p2=>?_;refine fj (r1.get ex) λu eu ru=>?_;refine fj (r2.get ey) λv ev rv=>?_;refine wI hz (wK D ⟨hz,Dh,Dg,h1,h2,p1,p2⟩ (.inl rfl) (by simpa using eu) (by simpa using ev) λh' S' hT _ hk=>?_);refine⟨_,rfl,wpAny_letOwnedTupleGo_zip S'.z λh'' e'' Vw=>?_⟩;have Ug:=S'.mz D (f':=.none) (bb':=false) e'' Vw.extBut;have Tz:s.heap.objs.size≠z:=ba<|iO hz;have WR:IsPair h'' s.heap.objs.size u v:=Vw.extBut _ _ Tz hT;have kp:ZK z TO i1 i2 s.heap h'':=hk.trans<|tJ Vw.extBut;have hn:H s.heap.objs.size=none:=I.gT.fresh<|aq _;have fr:∀ b∈[z,TO,i1,i2],jH X fb H b:=λb hb=>hf b (by
   simp only[aT,aM,bY]at hb ⊢
   rcases hb with q|q|q|q<;>simp[q])
  have Bq:∀ b o,b∉[z,TO,i1,i2]->s.heap.get? b=some o->h''.get? b=some o:=λb o hb e=>kp b o (λq=>hb<|by simp[q]) (λq=>hb<|by simp[q]) (λq=>hb<|by simp[q]) (λq=>hb<|by simp[q]) e;have I1:Inv X fb σ (upd H s.heap.objs.size<|.tup [x,y]) {s with heap:=h''}:=I.yP fr Bq WR ru rv;refine⟨.ref s.heap.objs.size,_,I1,rfl,⟨_,x,y,rfl,hn,rfl,λzs q=>by rw[q.inj q1];exact ex,λzs q=>by rw[q.inj q2];exact ey⟩,⟨Ug.z,Ug.ti,⟨_,_,Ug.to⟩,Ug.n1,Ug.n2⟩,λb hb=>?_⟩;obtain⟨o,e,_⟩:∃ o,s.heap.get? b=some o/\True:=by
   simp only[aT,aM,bY]at hb;rcases hb with rfl|rfl|rfl|rfl|rfl
   .exact⟨_,hz,trivial⟩
   .exact⟨_,Dh,trivial⟩
   .exact⟨_,Dg,trivial⟩
   .obtain⟨o,e⟩:=h1.ex;exact⟨o,e,trivial⟩
   .obtain⟨o,e⟩:=h2.ex;exact⟨o,e,trivial⟩
  rw[fS (aw<|iO e)];exact(hf b hb).1
 done:=by
  intro X hP hw hK hc i fb s σ H E I hf st hg;subst hP hw hK;obtain⟨hz,Dh,⟨a,b',Dg⟩,h1,h2⟩:=st;refine fZ hg λxs ys q1 q2 hx=>?_;refine fj (q1.val I) λus r1 p1=>?_;refine fj (q2.val I) λws r2 p2=>?_;have hl:=r1.length;have sm:=r2.length;refine wI hz (mZ (I.ok.hd hc) D ⟨hz,Dh,Dg,h1,h2,p1,p2⟩ (.inl rfl) (by simp;lia) λh' e hk h_=>kA h_ λo he=>⟨⟨o,e,rfl,he⟩,rfl,?_⟩);have fr:∀ b∈[z,TO,i1,i2],jH X fb H b:=λb hb=>hf b (by
   simp only[aT,aM,bY]at hb ⊢
   rcases hb with q|q|q|q<;>simp[q])
  have Bq:∀ b o,b∉[z,TO,i1,i2]->s.heap.get? b=some o->h'.get? b=some o:=λb o hb e=>hk b o (λq=>hb<|by simp[q]) (λq=>hb<|by simp[q]) (λq=>hb<|by simp[q]) (λq=>hb<|by simp[q]) e;exact I.yQ fr Bq
 self:=λ_ _ _ _ _ st h=>cJ st.1 h
def pG (a:ai):Obj:={ cls:=.type "tuple_iterator",data:=.fields #[.ref a,.int 0 0]}
def zH (l1 l2:ai)(h:Heap):Heap :=
 ((((h.push<|pG l1).push<|pG l2).push { cls:=.type "tuple",data:=.seq #[.ref h.objs.size,.ref (h.push<|pG l1).objs.size]}).push { cls:=.type "tuple",data:=.seq #[.none,.none]}).push
  { cls:=.type "zip",data:=.fields #[.none,.bool false,.bool false,.ref ((h.push<|pG l1).push<|pG l2).objs.size,.ref (((h.push<|pG l1).push<|pG l2).push { cls:=.type "tuple",data:=.seq #[.ref h.objs.size,.ref (h.push<|pG l1).objs.size]}).objs.size]}
def FT (l1 l2:ai)(xs ys:Array aj):Meets (Builtin.«zip.__new__» ⟨[.type "zip",.ref l1,.ref l2],[]⟩) (λ_ R s=>s.heap.IsTuple l1 xs/\s.heap.IsTuple l2 ys /\
 R (.ok<|.ret<|.ref<|s.heap.objs.size+4) {s with heap:=zH l1 l2 s.heap}):=
 .of_wp λprog w A R s h=>by
  obtain⟨hp,g,d,tk,os⟩:=s;refine jr h λYs sm h=>?_;have Wf:=sub_zip;have t1:=Ys;have t2:Heap.IsTuple (Shared.heap ⟨hp.push { cls:=.type "tuple_iterator",data:=.fields #[.ref l1,.int 0 0]},g,d,tk,os⟩) l2 ys:=Heap.IsTuple.push sm _;wp_walk using wpAny_pyIter_tuple t1,wpAny_pyIter_tuple t2;refine⟨_,rfl,?_⟩;have e:hp.objs.size+4=((((hp.push<|pG l1).push<|pG l2).push { cls:=.type "tuple",data:=.seq #[.ref hp.objs.size,.ref (hp.push<|pG l1).objs.size]}).push { cls:=.type "tuple",data:=.seq #[.none,.none]}).objs.size:=by simp only[aX]
  have h':R (.ok<|.ret<|.ref<|hp.objs.size+4) _:=h;rw[e]at h';exact h'
def tK {prog:ae}{w:af}{A:Around}{E:aj->ah->Prop}{s:ah}{c:Bool}{l1 l2:ai}{xs ys:Array aj}{Q:aj->ah->Prop}(p1:ju c s.heap l1 xs)(p2:ju c s.heap l2 ys)
 (h:∀ h',IsZip h' (s.heap.objs.size+4) (s.heap.objs.size+2) (s.heap.objs.size+3) .none->IsPair h' (s.heap.objs.size+2) (.ref s.heap.objs.size) (.ref<|s.heap.objs.size+1)->IsPair h' (s.heap.objs.size+3) .none .none ->
   lS c h' s.heap.objs.size l1 0->lS c h' (s.heap.objs.size+1) l2 0->(∀ b o,s.heap.get? b=some o->h'.get? b=some o)->Q (.ref<|s.heap.objs.size+4) {s with heap:=h'}):
 wpAny (model prog w) A (call (.type "zip") [.ref l1,.ref l2]) Q E s:=by
 cases c with
 |false=>exact call_zip_2 p1 p2 λh' a1 a2 a3 a4 a5 _ a7=>h h' a1 a2 a3 a4 a5 a7
 | true =>
  refine callType_new F.called_zip rfl (F.typeCall_zip_2 _ _) (F.newCall_zip_2 _ _) (λobj=>F.args_object_init_3 obj _ _) F.entry_zip_new (FT l1 l2 xs ys) ⟨p1,p2,?_⟩;have z1:(s.heap.push<|pG l1).objs.size=s.heap.objs.size+1:=aX ..
  have z2:((s.heap.push<|pG l1).push<|pG l2).objs.size=s.heap.objs.size+2:=by rw[aX,z1]
  have z3:(((s.heap.push<|pG l1).push<|pG l2).push { cls:=.type "tuple",data:=.seq #[.ref s.heap.objs.size,.ref (s.heap.push<|pG l1).objs.size]}).objs.size=s.heap.objs.size+3:=by rw[aX,z2]
  have z4:((((s.heap.push<|pG l1).push<|pG l2).push { cls:=.type "tuple",data:=.seq #[.ref s.heap.objs.size,.ref (s.heap.push<|pG l1).objs.size]}).push { cls:=.type "tuple",data:=.seq #[.none,.none]}).objs.size=s.heap.objs.size+4:=by rw[aX,z3]
  have g0:(zH l1 l2 s.heap).get? s.heap.objs.size=some (pG l1):=jx _<|jx _<|jx _<|jx _<|aD _ rfl;have g1:(zH l1 l2 s.heap).get? (s.heap.push<|pG l1).objs.size=some (pG l2):=jx _<|jx _<|jx _<|aD _ rfl;have g2:(zH l1 l2 s.heap).get? ((s.heap.push<|pG l1).push<|pG l2).objs.size=some _:=jx _<|jx _<|aD _ rfl;have g3:(zH l1 l2 s.heap).get? (((s.heap.push<|pG l1).push<|pG l2).push { cls:=.type "tuple",data:=.seq #[.ref s.heap.objs.size,.ref (s.heap.push<|pG l1).objs.size]}).objs.size=some _:=jx _<|aD _ rfl;have g4:(zH l1 l2 s.heap).get? ((((s.heap.push<|pG l1).push<|pG l2).push { cls:=.type "tuple",data:=.seq #[.ref s.heap.objs.size,.ref (s.heap.push<|pG l1).objs.size]}).push { cls:=.type "tuple",data:=.seq #[.none,.none]}).objs.size=some _:=aD _ rfl;rw[z1]at g1;rw[z2,z1]at g2;rw[z3]at g3;rw[z4,z2,z3]at g4;exact⟨⟨_,g4,rfl⟩,h _ g4 g2 g3 ⟨_,g0,rfl,rfl⟩ ⟨_,g1,rfl,rfl⟩ λb o e=>jx _<|jx _<|jx _<|jx _<|jx _ e⟩
section
variable {X:Cx}
def V8 (ta:TA):TI:=λσ H R=>ta σ H λvs H1=>match vs with
 |[.ref a,.ref b]=>∃(c:Bool) (xs ys:ak V),Am c H1 a xs/\Am c H1 b ys/\R (Xz c a b) H1
 |_=>False
def G3 {elts:ak Expr}{kk:Nat}{mn:Pos}{a b:Expr}{ta:TA}{p pos:Pos}(hg:Gl X "zip")(hm:X.mg "zip"=none)(ha:PA X [a,b] ta)(hs:starEach [a,b] X.env=[(false,eval a X.env),(false,eval b X.env)]:=by rfl)(sj:starEach [b] X.env=[(false,eval b X.env)]:=by rfl):
 PI X (.Tuple elts kk mn) (.Call (.Name "zip" p) [a,b] [] pos) (V8 ta):=by
 intro fb s σ H R I h;refine Call_ (ku I hg hm boot_zip<|bh (hZ (ha pos fb s σ H _ I h) λus s1 LN=>?_) (by rw[hs,sj]) (by rw[sj];rfl));obtain⟨vs,H1,I1,r1,q1⟩:=LN;try dsimp only at q1
 split at q1
 .rename_i l1 l2;refine IT q1 λc xs ys q1 q2 q=>?_;refine fZ r1.two λu1 u2 fV e1 e2=>?_;subst fV;subst e1;subst e2;refine fj (q1.val I1) λus r1 p1=>?_;refine fj (q2.val I1) λws r2 p2=>?_;have lt:∀ {l:ai} {o:HO},H1 l=some o->l<s1.heap.objs.size:=λe=>I1.gT.lt e;refine kA q1.ex λo1 w1=>?_;refine kA q2.ex λo2 w2=>?_;refine tK p1 p2 λh' hz Dh Dg n1 n2 kp=>cJ hz ?_;have I2:Inv X fb σ H1 { s1 with heap:=h'}:=I1.iC (t':=s1.toks) kp;refine⟨s1.heap.objs.size+4,_,_,_,H1,rfl,I2,Gg (c:=c)<|zipApart_new (lt w1)<|lt w2,⟨hz,Dh,⟨_,_,Dg⟩,n1,n2⟩,λb hb=>?_,q⟩;have yE:s1.heap.objs.size<=b:=by
   simp at hb;rcases hb with e|e|e|e|e<;>subst e
   .exact aQ ..
   .exact aQ ..
   .exact aQ ..
   .exact aq _
   .exact aQ ..
  exact I1.zN yE (I1.gT.fresh yE)
 .exact q1.elim
def GX (g:ak Bool->Bool):ak V->Hp->VK->Prop:=λvs H Q=>match vs with
 |[.ref p]=>∃ bs:ak Bool,H p=some (.lst<|bs.map V.bl)/\Q (.bl<|g bs) H
 |_=>False
def range_all (bs:ak Bool):(List.range bs.length).all (λi=>bs.getD i true)=bs.all id:=by
 rw[dQ,cL,cL];constructor
 .intro h b hb;obtain⟨i,hi,e⟩:=aN hb;have:=h i (by simpa using hi);rw[ar,iT hi,e]at this;exact this
 .intro h i hi;have Ri:i<bs.length:=by simpa using hi
  rw[ar,iT Ri];exact h _ (a9 _)
def T9 (hc:X.gN=true):jd X (.builtin "all") (GX λbs=>bs.all id):=by
 intro fb s σ H vs us Q I rv h;delta GX at h;split at h
 .rename_i p;refine fj h λbs hp q=>?_;refine fj rv.one λu fV ru=>?_;subst fV;subst ru;obtain⟨z,fE,n,r,hl,e⟩:=I.k7 hp;have zF:s.heap.IsList p fE.toArray:=⟨_,e,rfl,n,rfl⟩;have lt:p≠s.heap.objs.size:=aw<|iO e;refine call_all_walk (dw zF ⟨_,_,_,_,_,_,λi=>bs.getD i true,rfl,Walks.list (A:=X.A.in1) (I.ok.hd hc) s.heap.objs.size p lt fE.toArray,⟨⟨_,aD _ rfl,rfl,rfl⟩,zF.push _⟩,?_,λh' tk kp=>?_⟩)
  .intro i v s' Q' E' hv hq;have CW:fE[i]?=some v:=by simpa using hv
   have hb:∃ b,bs[i]?=some b/\v=.bool b:=by
    cases eb:(bs.map V.bl)[i]? with
    |none=>have:=r.none_of eb;rw[CW]at this;cases this
    | some y =>
     refine fj (r.get eb) λu hu ry=>?_;rw[CW]at hu;cases hu;rw[nX]at eb;cases e2:bs[i]? with
     |none=>rw[e2]at eb;cases eb
     |some b=>rw[e2]at eb;cases eb;exact⟨b,rfl,ry⟩
   obtain⟨b,eb,rfl⟩:=hb;have e3:bs.getD i true=b:=by rw[ar,eb];rfl
   have Nw:Q' (bs.getD i true) s':=hq;rw[e3]at Nw;exact cy Nw
  .have I2:Inv X fb σ H { s with heap:=h',toks:=tk}:=I.iC λb o e'=>kp b o (by simpa using aw<|iO e')<|jx _ e';have len:fE.toArray.size=bs.length:=by rw[au,<- hl,gQ]
   rw[len,range_all];exact⟨.bl _,H,I2,rfl,q⟩
 .cases h
def RX:R2:=λx y H Q=>match x,y with
 |.gz,.gz=>Q (.bl true) H
 |.int i,.int j=>Q (.bl<|decide (i=j)) H
 |.str i,.str j=>Q (.bl<|decide (i=j)) H
 |.bl i,.bl j=>Q (.bl<|decide (i=j)) H
 |_,_=>False
def YE:jM X (compareOp .Eq) RX:=Nm.imp λx y H Q q=>by
 delta RX at q;split at q
 .exact⟨rfl,by simpa using q⟩
 .exact⟨rfl,by rwa [dI]⟩
 .exact⟨rfl,dS▸q⟩
 .exact⟨rfl,dB▸q⟩
 .exact q.elim
end
section
variable {js:ak (ao Nat)}{g:TG}{tt:TT}{te:TE}{σ:St}{H:Hp}{fin:ak V->Hp->Prop}
def D3 {c:Bool}{a1 a2:ai}{xs zs:ak V}(hn:xs.length=zs.length)(Pv:Nat->ak V->Hp->Prop)(h0:Pv 0 [] H)(hl:∀ i ys H,Pv i ys H->Am c H a1 xs/\Am c H a2 zs)
 (hs:∀ i x y ys H T,i<xs.length->xs[i]?=some x->zs[i]?=some y->Pv i ys H->H T=none->g (.ref T) (gY js σ) (upd H T<|.tup [x,y]) λmY H2=>Ext (gY js σ) mY/\tt mY H2 λb H3=>if b=true then te mY H3 (YV xs.length i Pv ys)else CSk xs.length i Pv ys H3)
 (hd:∀ ys H,Pv xs.length ys H->fin ys H):Gb js g tt te (Xz c a1 a2) σ H fin:=by
 refine⟨λi m ys H=>m=xs.length - i/\i<=xs.length/\Pv i ys H,⟨xs.length,rfl,aS _,h0⟩,?_⟩;refine λi m ys H h_=>jr h_ λfV hi p=>?_;subst fV;refine lQ (hl i ys H p) λq1 q2=>?_;by_cases ky:i<xs.length
 .refine .inr ⟨⟨xs,zs,xs[i],zs[i]'(by lia),q1,q2,by simp[ky],by simp[show i<zs.length by lia]⟩,λv H' yl=>?_⟩;refine IQ yl λT x y fV hT o7 h1 h2=>?_;subst fV;subst o7;exact hs i x y ys H T ky (h1 xs q1) (h2 zs q2) p hT
 .have e:i=xs.length:=by lia
  subst e
  exact .inl ⟨⟨xs,zs,q1,q2,.inl<|aq _⟩,hd ys H p⟩
end
inductive DV where
 |gz|bl (b:Bool)|int (i:Int)|str (z:Str)|lst (ds:List DV)|tup (ds:List DV)
mutual
def dep:DV->Nat
 |.lst ds=>vn ds+1
 |.tup ds=>vn ds+1
 |_=>0
def vn:List DV->Nat
 |[]=>0
 |d::ds=>max (dep d) (vn ds)
end
mutual
def JV:DV->Nat
 |.lst ds=>max ds.length (u5 ds)
 |.tup ds=>max ds.length (u5 ds)
 |_=>0
def u5:List DV->Nat
 |[]=>0
 |d::ds=>max (JV d) (u5 ds)
end
mutual
def Is (H:Hp):DV->V->Prop
 |.gz,v=>v=.gz
 |.bl b,v=>v=.bl b
 |.int i,v=>v=.int i
 |.str z,v=>v=.str z
 |.lst ds,v=>∃ p vs,v=.ref p/\H p=some (.lst vs)/\lj H ds vs
 |.tup ds,v=>∃ p vs,v=.ref p/\H p=some (.tup vs)/\lj H ds vs
def lj (H:Hp):List DV->List V->Prop
 |[],vs=>vs=[]
 |d::ds,vs=>∃ v r,vs=v::r/\Is H d v/\lj H ds r
end
mutual
theorem Is.mono {H H':Hp}(s:gW H H'):∀(d:DV) (v:V),Is H d v->Is H' d v
 |.gz,_,h=>h
 |.bl _,_,h=>h
 |.int _,_,h=>h
 |.str _,_,h=>h
 | .lst ds,_,h=>by obtain⟨p,vs,e,hp,q⟩:=h;exact⟨p,vs,e,s _ _ hp,lj.mono s ds vs q⟩
 | .tup ds,_,h=>by obtain⟨p,vs,e,hp,q⟩:=h;exact⟨p,vs,e,s _ _ hp,lj.mono s ds vs q⟩
theorem lj.mono {H H':Hp}(s:gW H H'):∀(ds:List DV) (vs:List V),lj H ds vs->lj H' ds vs
 |[],_,h=>h
 | d::ds,_,h=>by obtain⟨v,r,e,h1,h2⟩:=h;exact⟨v,r,e,Is.mono s d v h1,lj.mono s ds r h2⟩
end
theorem lj.len {H:Hp}:∀ {ds:ak DV} {vs:ak V},lj H ds vs->vs.length=ds.length
 |[],_,h=>by rw[show _=[]from h];rfl
 |d::ds,_,h=>by obtain⟨v,r,rfl,_,h2⟩:=h;rw[aE,aE,lj.len h2]
theorem lj.get {H:Hp}:∀ {ds:ak DV} {vs:ak V} {i:Nat} {v:V},lj H ds vs->vs[i]?=some v->∃ d,ds[i]?=some d/\Is H d v
 |[],_,i,v,h,e=>by rw[show _=[]from h]at e;contradiction
 | d::ds,_,0,v,h,e=>by obtain⟨v',r,rfl,h1,h2⟩:=h;simp at e;subst e;exact⟨d,rfl,h1⟩
 | d::ds,_,i+1,v,h,e=>by refine fZ h λv' r fV h1 h2=>?_;subst fV;refine fj (lj.get h2<|by simpa using e) λd' e1 e2=>?_;exact⟨d',by simpa using e1,e2⟩
theorem uK:∀ {ds:ak DV} {i:Nat} {d:DV},ds[i]?=some d->dep d<=vn ds
 |d::ds,0,d',h=>by simp at h;subst h;unfold vn;lia
 |d::ds,i+1,d',h=>by have:=uK (i:=i) (by simpa using h);unfold vn;lia
theorem tM:∀ {ds:ak DV} {i:Nat} {d:DV},ds[i]?=some d->JV d<=u5 ds
 |d::ds,0,d',h=>by simp at h;subst h;unfold u5;lia
 |d::ds,i+1,d',h=>by have:=tM (i:=i) (by simpa using h);unfold u5;lia
def qV (n:Nat):Sp:=λvs H Q _=>match vs with
 |[x,y]=>∃ d,dep d<=n/\JV d<sizeLine/\Is H d x/\Is H d y/\∀ H',gW H H'->Q (.bl true) H'
 |_=>False
def Vz:Sp:=λ_ _ _ _=>False
def spS:Nat->Sp
 |0=>Vz
 |n+1=>qV n
theorem gW.upd {H:Hp}{p:ai}{o:HO}(h:H p=none):gW H (L2.upd H p o):=λb u e=>by rwa [fS (gb e h)]
def D1 {α:Type}{l:ak α}{n:Int}(h:0<=n):j6 l none (some n)=l.take n.toNat:=by
 obtain⟨m,rfl⟩:∃ m:Nat,n=(m:Int):=⟨n.toNat,by lia⟩;delta j6;rw[HT.lq,HT.t6,List.drop_zero,Nat.sub_zero,Ff];by_cases hm:m<=l.length
 .rw[cj hm]
 .rw[eW (by lia),List.take_length,bL (by lia)]
def wm {α:Type}{l:ak α}{n:Int}(h:0<=n):j6 l (some n) none=l.drop n.toNat:=by
 obtain⟨m,rfl⟩:∃ m:Nat,n=(m:Int):=⟨n.toNat,by lia⟩;delta j6;rw[HT.lq,HT.t6,Ff];by_cases hm:m<=l.length
 .rw[cj hm,bL (by rw[bz];lia)]
 .rw[eW (by lia),bM (aq _),bM (by lia),List.take_nil]
section
variable {X:Cx}
def y6:V->ak V->Hp->VK->Prop:=λx vs H Q=>∃ l y xs,x=.ref l/\vs=[y]/\H l=some (.lst xs)/\xs.length<sizeLine/\Q .gz (upd H l<|.lst<|xs++[y])
def Mu:Kh X "list.append" y6:=Kh.imp EO λx vs H Q q=>by refine IQ q λl y xs fV o7 a b c=>?_;subst fV;subst o7;exact⟨_,xs,_,rfl,rfl,a,b,c⟩
end
def rr (l:ak Nat):Nat->Nat×ak (Nat×Nat)
 |0=>(0,[])
 |i+1=>if l[i]?=some 120 then(i+1,if(rr l i).1<i then(rr l i).2++[((rr l i).1,i)]else(rr l i).2)else rr l i
theorem D7 (ns:ak Int):∀ k,k<ns.length->argBest (λi j=>decide (ns.getD j 0<ns.getD i 0)) k<=k/\∀ j,j<=k->ns.getD j 0<=ns.getD (argBest (λi j=>decide (ns.getD j 0<ns.getD i 0)) k) 0
 |0,_=>⟨aq _,λj hj=>by rw[show j=0 by lia];exact bo _⟩
 | k+1,h=>by
  let ⟨h1,h2⟩:=D7 ns k<|bZ ‹_›;unfold argBest;by_cases hb:ns.getD (argBest (λi j=>decide (ns.getD j 0<ns.getD i 0)) k) 0<ns.getD (k+1) 0
  .rw[aA (aB hb)];refine⟨aq _,λj hj=>?_⟩;by_cases e:j=k+1
   .rw[e];exact bo _
   .exact bT (h2 j<|by lia) (cv hb)
  .rw[aC (by simp only[bA];exact hb)];refine⟨by lia,λj hj=>?_⟩;by_cases e:j=k+1
   .lia
   .exact h2 j (by lia)
section
variable {X:Cx}
def GR:ak V->Hp->VK->Prop:=λvs H Q=>match vs with
 |[.ref p]=>∃ ns:ak Int,H p=some (.lst<|ns.map V.int)/\ns≠[]/\∀ m,m∈ns->(∀ x∈ns,x<=m)->Q (.int m) H
 |_=>False
def VS (hc:X.gN=true):jd X (.builtin "max") GR:=by
 intro fb s σ H vs us Q I rv h;delta GR at h;split at h
 .rename_i p;obtain⟨ns,hp,vW,q⟩:=h;refine fj rv.one λu fV ru=>?_;subst fV;subst ru;obtain⟨z,fE,n,r,hl,e⟩:=I.k7 hp;have zF:s.heap.IsList p fE.toArray:=⟨_,e,rfl,n,rfl⟩;have lt:=aw<|iO e;have len:fE.toArray.size=ns.length:=by rw[au,<- hl,gQ]
  have pos:0<ns.length:=List.length_pos_iff.mpr vW;have val:∀ i v,fE.toArray[i]?=some v->∃ t,i<ns.length/\v=.int (ns.getD i 0) t:=λi v hv=>by
   have CW:fE[i]?=some v:=by simpa using hv
   cases eb:(ns.map V.int)[i]? with
   |none=>have:=r.none_of eb;rw[CW]at this;cases this
   | some y =>
    refine fj (r.get eb) λu hu ry=>?_;rw[CW]at hu;cases hu;rw[nX]at eb;cases e2:ns[i]? with
    |none=>rw[e2]at eb;cases eb
    | some b =>rw[e2]at eb;cases eb;obtain⟨t,rfl⟩:=ry;exact⟨t,(kP e2).1,by rw[ar,e2];rfl⟩
  refine call_max_walk (dw zF ⟨_,_,_,_,_,_,λi j=>decide (ns.getD j 0<ns.getD i 0),rfl,Walks.list (A:=X.A.in1) (I.ok.hd hc) s.heap.objs.size p lt fE.toArray,⟨⟨_,aD _ rfl,rfl,rfl⟩,zF.push _⟩,?_,by rw[len];exact pos,?_,λv h' tk hv kp=>?_⟩)
  .intro b hb;simp at hb;rw[aX];rcases hb with rfl|rfl
   .exact bQ _
   .exact aY (iO e)
  .intro i j vi vj s' Q' E' hi hj hq;obtain⟨t,_,rfl⟩:=val i vi hi;obtain⟨t',_,rfl⟩:=val j vj hj;exact gt_int hq
  .have I2:Inv X fb σ H { s with heap:=h',toks:=tk}:=I.iC λb o e'=>kp b o (by simpa using aw<|iO e')<|jx _ e';rw[len]at hv;refine fj (val _ v hv) λt ky fV=>?_;subst fV;obtain⟨b1,b2⟩:=D7 ns (ns.length - 1) (by lia);refine⟨.int _,H,I2,⟨t,rfl⟩,q _ ?_ λx hx=>?_⟩
   .rw[ar,iT ky];exact a9 _
   .obtain⟨j,hj,ej⟩:=aN hx;have:=b2 j (by lia);rwa [ar,iT hj,ej]at this
 .cases h
def Dr (l:ak Nat)(c i:Nat):Int->Prop:=λr=>(r = -1/\∀ v,i<=v->l[v]?≠some c)\/∃ k:Nat,r=(k:Int)/\i<=k/\l[k]?=some c/\∀ v,i<=v->v<k->l[v]?≠some c
def GV:V->ak V->Hp->VK->Prop:=λx vs H Q=>∃(z:Str) (c:Nat) (i:Int),x=.str z/\vs=[.str ⟨#[c]⟩,.int i]/\0<=i/\i<=z.length/\∀ r,Dr z.cps.toList c i.toNat r->Q (.int r) H
def Tb:Kh X "str.find" GV:=by
 intro fb s σ H x vs v us Q I rx rv h
 .refine IQ h λz c i fV o7 h0 h1 q=>?_;subst fV;subst o7;obtain⟨t,rfl⟩:=rx;refine fZ rv.two λu1 u2 fV r1 r2=>?_;subst fV;obtain⟨t1,rfl⟩:=r1;obtain⟨t2,rfl⟩:=r2;refine SC.find3 ⟨.int _,H,I.tok _,⟨_,rfl⟩,q _ ?_⟩;have fi:fromIndex z.length i=i.toNat:=by delta fromIndex;lia
  have gd:∀ v,z.cps.getD v 0≠c\/¬ v<z.length->z.cps.toList[v]?≠some c:=λv hv e=>by
   have ky:=(kP e).1;have Wq:v<z.length:=by rwa [So]
   rcases hv with hv|hv
   .exact hv (by rw[iT ky]at e;injection e with e;rw[<- e];simp[Array.getD,show v<z.cps.size by simpa using ky])
   .exact hv Wq
  rcases StrLaws.find3_spec z c i with⟨e,hn⟩|⟨k,e,k1,k2,k3,k4⟩
  .refine .inl ⟨e,λv hv=>gd v ?_⟩;by_cases hl:v<z.length
   .exact .inl (hn v (by lia) hl)
   .exact .inr hl
  .refine .inr ⟨k,e,by lia,?_,λv h1 h2=>gd v<|.inl<|k4 v (by lia) h2⟩;have ky:k<z.cps.toList.length:=by rwa [<- So]
   rw[iT ky,<- k3];simp[Array.getD,show k<z.cps.size by simpa using ky]
end
def QV (l:ak Nat)(e t:Nat):Prop:=e<=t/\t<=l.length/\(∀ v,e<=v->v<t->l[v]?=some 111)/\(t=l.length\/l[t]?=some 120)
def QV.uniq (a:QV l e t)(b:QV l e u):t=u:=by
 refine z5 a λa1 a2 a3 a4=>?_;refine z5 b λb1 b2 b3 b4=>?_;rcases cz t u with h|h|h
 .rcases a4 with q | q
  .lia
  .have:=b3 t a1 h;rw[q]at this;cases this
 .exact h
 .rcases b4 with q | q
  .lia
  .have:=a3 u b1 h;rw[q]at this;cases this
def Nl (ho:OX l)(h:v<l.length)(n:l[v]?≠some 120):l[v]?=some 111:=by
 have e:=iT h;rcases ho _ (a9 h)with q|q
 .rw[e,q]
 .exact absurd (by rw[e,q]) n
def Dr.cl {l:ak Nat}{e:Nat}{r:Int}(ho:OX l)(he:e<=l.length)(h:Dr l 120 e r):(r<0->QV l e l.length)/\(¬ r<0->QV l e r.toNat/\r=(r.toNat:Int)):=by
 rcases h with⟨rfl,hn⟩|⟨k,rfl,h1,h2,h3⟩
 .exact⟨λ_=>⟨he,aq _,λv a b=>Nl ho b<|hn v a,.inl rfl⟩,λq=>absurd (by decide) q⟩
 .have hk:=(kP h2).1;exact⟨λq=>absurd q<|by lia,λ_=>⟨⟨‹_›,(bZ ‹_›),λv a b=>Nl ho (by lia)<|h3 v a<|by lia,.inr<|h2⟩,by rw[Ff]⟩⟩
def Uq (es:ak Int)(l:ak Nat)(e:Int)(m:Int):Prop:=∃ t,QV l e.toNat t/\m∈es/\m<=(t:Int)/\∀ x∈es,x<=(t:Int)->x<=m
theorem Uq.uniq {es:ak Int}{l:ak Nat}{e m k:Int}(a:Uq es l e m)(b:Uq es l e k):m=k:=by refine sN a λt a1 a2 a3 a4=>?_;refine sN b λu b1 b2 b3 b4=>?_;cases a1.uniq b1;exact Int.le_antisymm (b4 m a2 a3) (a4 k b2 b3)
def e9 (n:Int)(cs:ak Int):ak Int:=0::cs++[n]
inductive D where
 |gz|bl (b:Bool)|int (i:Int)|str (z:Str)|lst (ds:List D)|tup (ds:List D)|jf (ks:List Key) (ds:List D)|mr (k:Nat)|obj (C:ai) (ns:List Str) (ds:List D)|qP (ks:List Key) (ds:List D)|fn (a:ai)
inductive MO where
 |box|lst (ds:List D)|jf (ks:List Key) (ds:List D)|uC (o:Obj) (fw:List (Key×V)) (ds:List D)|ins (C:ai) (ns:List Str) (ds:List D)|lD (ks:List (List Key)) (ds:List D)|gx (φ:List ai) (H:Hp)|exc (c:aj)
inductive Pq where
 |v|i|s|l|m|b|t
def FI:ak Pq->Type
 |[]=>Prop
 |.v::ps=>D->FI ps
 |.i::ps=>Int->FI ps
 |.s::ps=>Str->FI ps
 |.m::ps=>Nat->FI ps
 |.b::ps=>Bool->FI ps
 |.l::ps|.t::ps=>ak D->FI ps
def dM:(ps:ak Pq)->ak D->FI ps->Prop
 |[],[],k=>k
 |.v::ps,n::ds,k|.i::ps,.int n::ds,k|.s::ps,.str n::ds,k|.l::ps,.lst n::ds,k|.m::ps,.mr n::ds,k|.b::ps,.bl n::ds,k|.t::ps,.tup n::ds,k=>dM ps ds (k n)
 |_,_,_=>False
def J5:(ps:ak Pq)->FI ps->(ak D->Prop)->Prop
 |[],k,E=>E []/\k
 |.v::ps,k,E=>∃ x:D,J5 ps (k x) λl=>E (x::l)
 |.i::ps,k,E=>∃ x:Int,J5 ps (k x) λl=>E (.int x::l)
 |.s::ps,k,E=>∃ x:Str,J5 ps (k x) λl=>E (.str x::l)
 |.l::ps,k,E=>∃ x:ak D,J5 ps (k x) λl=>E (.lst x::l)
 |.m::ps,k,E=>∃ x:Nat,J5 ps (k x) λl=>E (.mr x::l)
 |.b::ps,k,E=>∃ x:Bool,J5 ps (k x) λl=>E (.bl x::l)
 |.t::ps,k,E=>∃ x:ak D,J5 ps (k x) λl=>E (.tup x::l)
theorem zE:∀ {ps:ak Pq} {k:FI ps} {E E':ak D->Prop},(∀ l,E l->E' l)->J5 ps k E->J5 ps k E'
 |[],k,E,E',h,x=>⟨h _ x.1,x.2⟩
 |.v::ps,k,E,E',h,⟨x,y⟩|.i::ps,k,E,E',h,⟨x,y⟩|.s::ps,k,E,E',h,⟨x,y⟩|.l::ps,k,E,E',h,⟨x,y⟩|.m::ps,k,E,E',h,⟨x,y⟩|.b::ps,k,E,E',h,⟨x,y⟩|.t::ps,k,E,E',h,⟨x,y⟩=>⟨x,zE (λl=>h _) y⟩
theorem dJ:∀ {ps:ak Pq} {ds:ak D} {k:FI ps},dM ps ds k->J5 ps k λl=>ds=l
 |[],[],k,h=>⟨rfl,h⟩
 |.v::ps,n::ds,k,h|.i::ps,.int n::ds,k,h|.s::ps,.str n::ds,k,h|.l::ps,.lst n::ds,k,h|.m::ps,.mr n::ds,k,h|.b::ps,.bl n::ds,k,h|.t::ps,.tup n::ds,k,h=>⟨n,zE (λl e=>by rw[e])<|dJ (ps:=ps) h⟩
abbrev MS:=ak MO
def zx (μ:MS)(k:Nat):ao (ak D):=match μ[k]? with|some (.lst ds)=>some ds|_=>none
def ni (h:zx μ k=some ds):μ[k]?=some (.lst ds):=by
 delta zx at h;split at h
 .cases h;assumption
 .cases h
def Bj (h:μ[k]?=some (.lst ds)):zx μ k=some ds:=by delta zx;rw[h]
def xO {μ:MS}(h:k<μ.length):zx (μ.set k<|.lst ds) k=some ds:=Bj (aO h)
def qu:zx (μ++[.lst ds]) μ.length=some ds:=Bj (by rw[p8 (aq _),a6];rfl)
def Lx (h:zx μ k=some ds):zx (μ++[m]) k=some ds:=Bj (by rw[vX (kP<|ni h).1];exact ni h)
abbrev DE:=ak (ao D)
mutual
def iP (φ:List ai)(H:Hp):D->V->Prop
 |.gz,v=>v=.gz
 |.bl b,v=>v=.bl b
 |.int i,v=>v=.int i
 |.str z,v=>v=.str z
 |.lst ds,v=>∃ p vs,v=.ref p/\p∉φ/\H p=some (.lst vs)/\fB φ H ds vs
 |.tup ds,v=>∃ p vs,v=.ref p/\p∉φ/\H p=some (.tup vs)/\fB φ H ds vs
 |.jf ks ds,v=>∃ p fw vs,v=.ref p/\p∉φ/\H p=some (.dK fw)/\fw.map (·.1)=ks/\vs=fw.map (·.2)/\fB φ H ds vs
 |.mr k,v=>∃ p,φ[k]?=some p/\v=.ref p
 |.obj C ns ds,v=>∃ p dx fs vs,v=.ref p/\p∉φ/\H p=some (.ins C dx fs)/\fs.map (·.1)=ns/\vs=fs.map (·.2)/\fB φ H ds vs
 |.qP ks ds,v=>∃ p o fw vs,v=.ref p/\p∉φ/\H p=some (.zM o<|.dK fw)/\fw.map (·.1)=ks/\vs=fw.map (·.2)/\fB φ H ds vs
 |.fn a,v=>v=.ref a
def fB (φ:List ai)(H:Hp):List D->List V->Prop
 |[],vs=>vs=[]
 |d::ds,vs=>∃ v r,vs=v::r/\iP φ H d v/\fB φ H ds r
end
structure Fr (φ:List ai)(H:Hp)(gg:List ai)(H':Hp):Prop where
 ext:∃ ψ,gg=φ++ψ/\∀ c∈ψ,H c=none
 keep:∀ c o,c∉φ->H c=some o->H' c=some o
 U3:∀ c,H' c=none->H c=none
def Fr.refl (φ:ak ai)(H:Hp):Fr φ H φ H:=⟨⟨[],by simp,λ_ h=>nomatch h⟩,λ_ _ _ h=>h,λ_ h=>h⟩
def Fr.trans (a:Fr φ H gy H1)(b:Fr gy H1 kL H2):Fr φ H kL H2:=by
 obtain⟨⟨ψ,rfl,E6⟩,k1,d1⟩:=a;obtain⟨⟨χ,rfl,hχ⟩,k2,d2⟩:=b;refine⟨⟨ψ++χ,by simp,λc hc=>?_⟩,λc o hc e=>k2 c o (λh=>?_)<|k1 c o hc e,λc h=>d1 c<|d2 c h⟩
 .rcases List.mem_append.mp hc with h | h
  .exact E6 c h
  .exact d1 c (hχ c h)
 .rcases List.mem_append.mp h with h | h
  .exact hc h
  .rw[E6 c h]at e;cases e
def Fr.same (h:gW H H'):Fr φ H φ H':=⟨⟨[],by simp,λ_ h=>nomatch h⟩,λc o _ e=>h c o e,λc e=>h.free e⟩
def Fr.new (h:H p=none):Fr φ H φ (upd H p o):=.same (gW.upd h)
def Fr.put (h:p∈φ):Fr φ H φ (upd H p o) :=
 ⟨⟨[],by simp,λ_ h=>nomatch h⟩,λc u hc e=>by rw[fS (λz=>hc (by rw[z];exact h))];exact e,λc e=>by
  delta upd at e
  split at e
  .cases e
  .exact e⟩
def Fr.snoc (h:H p=none):Fr φ H (φ++[p]) H:=⟨⟨[p],rfl,λc hc=>by rwa [List.mem_singleton.mp hc]⟩,λ_ _ _ e=>e,λ_ e=>e⟩
def Fr.vR (f:Fr φ H gg H')(h:p∉φ)(e:H p=some o):p∉gg:=by
 obtain⟨⟨ψ,rfl,E6⟩,_,_⟩:=f;intro hc;rcases List.mem_append.mp hc with q|q
 .exact h q
 .rw[E6 p q]at e;cases e
def Fr.get (f:Fr φ H gg H'){k:Nat}(h:φ[k]?=some p):gg[k]?=some p:=by obtain⟨⟨ψ,rfl,E6⟩,_,_⟩:=f;rwa [vX (kP h).1]
mutual
theorem iP.mono {φ gg:List ai}{H H':Hp}(f:Fr φ H gg H'):∀ {d:D} {v:V},iP φ H d v->iP gg H' d v
 |.gz,_,h=>h
 |.bl _,_,h=>h
 |.int _,_,h=>h
 |.str _,_,h=>h
 |.lst _,_,h=>by obtain⟨p,vs,e,n,hp,q⟩:=h;exact⟨p,vs,e,f.vR n hp,f.keep _ _ n hp,fB.mono f q⟩
 |.tup _,_,h=>by obtain⟨p,vs,e,n,hp,q⟩:=h;exact⟨p,vs,e,f.vR n hp,f.keep _ _ n hp,fB.mono f q⟩
 |.jf _ _,_,h=>by obtain⟨p,fw,vs,e,n,hp,q1,q2,q⟩:=h;exact⟨p,fw,vs,e,f.vR n hp,f.keep _ _ n hp,q1,q2,fB.mono f q⟩
 |.mr _,_,h=>by obtain⟨p,e,q⟩:=h;exact⟨p,f.get e,q⟩
 |.obj _ _ _,_,h=>by obtain⟨p,dx,fs,vs,e,n,hp,q1,q2,q⟩:=h;exact⟨p,dx,fs,vs,e,f.vR n hp,f.keep _ _ n hp,q1,q2,fB.mono f q⟩
 |.qP _ _,_,h=>by obtain⟨p,dx,fs,vs,e,n,hp,q1,q2,q⟩:=h;exact⟨p,dx,fs,vs,e,f.vR n hp,f.keep _ _ n hp,q1,q2,fB.mono f q⟩
 |.fn _,_,h=>h
theorem fB.mono {φ gg:List ai}{H H':Hp}(f:Fr φ H gg H'):∀ {ds:List D} {vs:List V},fB φ H ds vs->fB gg H' ds vs
 |[],_,h=>h
 |_::_,_,h=>by obtain⟨v,r,e,h1,h2⟩:=h;exact⟨v,r,e,iP.mono f h1,fB.mono f h2⟩
end
theorem fB.len:∀ {ds:ak D} {vs:ak V},fB φ H ds vs->vs.length=ds.length
 |[],_,h=>by rw[show _=[]from h];rfl
 |d::ds,_,h=>by obtain⟨v,r,rfl,_,h2⟩:=h;rw[aE,aE,fB.len h2]
theorem fB.get:∀ {ds:ak D} {vs:ak V} {i:Nat} {d:D},fB φ H ds vs->ds[i]?=some d->∃ v,vs[i]?=some v/\iP φ H d v
 |[],_,i,d,h,e=>by cases e
 |d::ds,_,0,d',h,e=>by obtain⟨v',r,rfl,h1,h2⟩:=h;simp at e;subst e;exact⟨v',rfl,h1⟩
 | d::ds,_,i+1,d',h,e=>by refine fZ h λv' r fV h1 h2=>?_;subst fV;refine fj (fB.get h2<|by simpa using e) λv e1 e2=>?_;exact⟨v,by simpa using e1,e2⟩
def fB.zL {i:Nat}(h:fB φ H ds vs)(e:vs[i]?=some v):∃ d,ds[i]?=some d/\iP φ H d v:=by have hl:=h.len;have hi:=(kP e).1;refine fj (h.get (d:=ds[i]'(by lia))<|iT<|by lia) λu e1 e2=>?_;rw[e]at e1;cases e1;exact⟨_,iT<|by lia,e2⟩
theorem fB.app:∀ {ds es:ak D} {vs us:ak V},fB φ H ds vs->fB φ H es us->fB φ H (ds++es) (vs++us)
 |[],_,_,_,h,g=>by rw[show _=[]from h];exact g
 |d::ds,es,_,us,h,g=>by obtain⟨v,r,rfl,h1,h2⟩:=h;exact⟨v,r++us,rfl,h1,h2.app g⟩
theorem fB.take:∀ {ds:ak D} {vs:ak V} (n:Nat),fB φ H ds vs->fB φ H (ds.take n) (vs.take n)
 |_,_,0,_=>rfl
 |[],_,n+1,h=>by rw[show _=[]from h];rfl
 |d::ds,_,n+1,h=>by obtain⟨v,r,rfl,h1,h2⟩:=h;exact⟨v,r.take n,rfl,h1,h2.take n⟩
theorem fB.drop:∀ {ds:ak D} {vs:ak V} (n:Nat),fB φ H ds vs->fB φ H (ds.drop n) (vs.drop n)
 |_,_,0,h=>h
 |[],_,n+1,h=>by rw[show _=[]from h];rfl
 |d::ds,_,n+1,h=>by obtain⟨v,r,rfl,h1,h2⟩:=h;exact h2.drop n
theorem fB.set (hd:iP φ H d v):∀ {ds:ak D} {vs:ak V} (n:Nat),fB φ H ds vs->fB φ H (ds.set n d) (vs.set n v)
 |[],_,n,h=>by rw[show _=[]from h];cases n<;>rfl
 |e::ds,_,0,h=>by obtain⟨w,r,rfl,h1,h2⟩:=h;exact⟨v,r,rfl,hd,h2⟩
 |e::ds,_,n+1,h=>by obtain⟨w,r,rfl,h1,h2⟩:=h;exact⟨w,r.set n v,rfl,h1,h2.set hd n⟩
theorem fB.ints:∀ {ns:ak Int} {vs:ak V},fB φ H (ns.map D.int) vs->vs=ns.map V.int
 |[],_,h=>h
 |n::ns,_,h=>by obtain⟨v,r,rfl,h1,h2⟩:=h;rw[show v=.int n from h1,fB.ints h2];rfl
theorem fB.YK:∀ {ns:ak Bool} {vs:ak V},fB φ H (ns.map D.bl) vs->vs=ns.map V.bl
 |[],_,h=>h
 |n::ns,_,h=>by obtain⟨v,r,rfl,h1,h2⟩:=h;rw[show v=.bl n from h1,fB.YK h2];rfl
theorem fB.strs:∀ {ns:ak Str} {vs:ak V},fB φ H (ns.map D.str) vs->vs=ns.map V.str
 |[],_,h=>h
 |n::ns,_,h=>by obtain⟨v,r,rfl,h1,h2⟩:=h;rw[show v=.str n from h1,fB.strs h2];rfl
def BxF (φ:ak ai)(H:Hp)(b:ai):Prop:=∃(q:ai) (ns:ak Int) (i r z:Int),H b=some (.lst [.ref q,.int i,.int r,.int z])/\H q=some (.lst<|ns.map V.int)/\q∉φ/\0<=i/\0<=z/\z<2147483647
def Ut (p:ai)(c:aj)(h:Heap):Prop:=∃ oe vs,h.get? p=some oe/\oe.cls=c/\oe.dict=none/\oe.data=.fields vs/\vs[2]?=some .none
def vz (φ:ak ai)(H:Hp):MO->ai->Prop
 |.box,p=>BxF φ H p
 |.lst ds,p=>∃ vs,H p=some (.lst vs)/\fB φ H ds vs
 |.jf ks ds,p=>∃ fw vs,H p=some (.dK fw)/\fw.map (·.1)=ks/\vs=fw.map (·.2)/\fB φ H ds vs
 |.uC o fw ds,p=>H p=some (.zM o<|.dK fw)/\fB φ H ds (fw.map (·.2))
 |.ins C ns ds,p=>∃ dx fs,H p=some (.ins C dx fs)/\fs.map (·.1)=ns/\fB φ H ds (fs.map (·.2))
 |.lD ks ds,p=>∃ fw,H p=some (.dT fw)/\fw.map (·.1)=ks/\fB φ H ds (fw.map (·.2))
 |.gx ka H0,p=>Fr ka H0 φ H/\H p=H0 p/\(∃ o,H p=some o)/\∀ zs,H p≠some (.tup zs)
 |.exc c,p=>H p=some (.ext<|Ut p c)
structure fU (φ:List ai)(H:Hp)(μ:MS):Prop where
 nd:φ.Nodup
 len:φ.length=μ.length
 at_:∀(k:Nat) (m:MO),μ[k]?=some m->∃ p,φ[k]?=some p/\vz φ H m p
theorem vz.mono (f:Fr φ H gg H')(s:∀ o,H p=some o->H' p=some o)(h:vz φ H m p):vz gg H' m p:=by
 cases m with
 |box=>let ⟨q,ns,i,r,z,h1,h2,h3,h4⟩:=h;exact⟨q,ns,i,r,z,s _ h1,f.keep _ _ h3 h2,f.vR h3 h2,h4⟩
 |lst ds=>let ⟨vs,h1,h2⟩:=h;exact⟨vs,s _ h1,h2.mono f⟩
 |jf ks ds=>let ⟨fw,vs,h1,h2,h3,h4⟩:=h;exact⟨fw,vs,s _ h1,h2,h3,h4.mono f⟩
 |uC o fw ds=>exact⟨s _ h.1,h.2.mono f⟩
 |ins C ns ds=>let ⟨dx,fs,h1,h2,h3⟩:=h;exact⟨dx,fs,s _ h1,h2,h3.mono f⟩
 |lD ks ds=>let ⟨fw,h1,h2,h3⟩:=h;exact⟨fw,s _ h1,h2,h3.mono f⟩
 |gx ka H0=>let ⟨h1,h2,⟨o,h3⟩,h4⟩:=h;exact⟨h1.trans f,(s _ h3).trans<|h3.symm.trans h2,⟨o,s _ h3⟩,λzs e=>h4 zs<|h3.trans<|(s _ h3).symm.trans e⟩
 |exc c=>exact s _ h
def vz.ex (h:vz φ H m p):∃ o,H p=some o:=by
 cases m with
 |box=>let ⟨q,ns,i,r,z,h1,_⟩:=h;exact⟨_,h1⟩
 |lst ds=>let ⟨vs,h1,_⟩:=h;exact⟨_,h1⟩
 |jf ks ds=>let ⟨fw,vs,h1,_⟩:=h;exact⟨_,h1⟩
 |uC o fw ds=>exact⟨_,h.1⟩
 |ins C ns ds=>let ⟨dx,fs,h1,_⟩:=h;exact⟨_,h1⟩
 |lD ks ds=>let ⟨fw,h1,_⟩:=h;exact⟨_,h1⟩
 |gx ka H0=>exact h.2.2.1
 |exc c=>exact⟨_,h⟩
theorem fU.same (h:fU φ H μ)(s:gW H H'):fU φ H' μ :=
 ⟨h.nd,h.len,λk m e=>let ⟨p,e1,e2⟩:=h.at_ k m e;⟨p,e1,e2.mono (.same s) λo q=>s _ _ q⟩⟩
def fU.mem (h:fU φ H μ)(hp:p∈φ):∃ o,H p=some o:=by obtain⟨k,hk,e⟩:=aN hp;refine fj (h.at_ k (μ[k]'(by have:=h.len;lia))<|iT _) λq e1 e2=>?_;rw[iT hk,e]at e1;cases e1;exact e2.ex
def fU.fresh (h:fU φ H μ)(hp:H p=none):p∉φ:=λq=>by refine kA (h.mem q) λo e=>?_;rw[hp]at e;cases e
theorem fU.snoc (h:fU φ H μ)(hp:H p=none)(hm:vz (φ++[p]) (upd H p o) m p):fU (φ++[p]) (upd H p o) (μ++[m])/\Fr φ H (φ++[p]) (upd H p o):=by
 have f1:Fr φ H (φ++[p]) H:=.snoc hp;have f:Fr φ H (φ++[p]) (upd H p o):=⟨f1.ext,λc u hc e=>gW.upd hp _ _ e,λc e=>(gW.upd hp).free e⟩;refine⟨⟨?_,by rw[kO,kO,h.len];rfl,λk n e=>?_⟩,f⟩
 .rw[eE];exact⟨h.nd,by simp,λa ha b hb=>by rw[List.mem_singleton.mp hb];intro z;exact h.fresh hp<|z▸‹_›⟩
 .by_cases hk:k<μ.length
  .rw[vX hk]at e;let ⟨q,e1,e2⟩:=h.at_ k n e;exact⟨q,f.get e1,e2.mono f λu eu=>gW.upd hp _ _ eu⟩
  .have zG:k=μ.length:=by have:=(kP e).1;rw[kO,bC]at this;lia
   subst zG
   rw[p8 (aq _),a6]at e
   cases e
   exact⟨p,by rw[p8 (h.len▸aq _),h.len,a6];rfl,hm⟩
theorem fU.put (h:fU φ H μ)(hk:φ[k]?=some p)(hm:vz φ (upd H p o) m p):fU φ (upd H p o) (μ.set k m):=by
 have hp:=lC hk;have f:Fr φ H φ (upd H p o):=.put hp;refine⟨h.nd,by rw[bV];exact h.len,λj n e=>?_⟩;by_cases hj:k=j
 .subst hj;have hl:k<μ.length:=by have:=(kP hk).1;have:=h.len;lia
  rw[aO hl]at e;cases e;exact⟨p,hk,hm⟩
 .rw[aW hj]at e;let ⟨q,e1,e2⟩:=h.at_ j n e;refine⟨q,e1,e2.mono f λu eu=>?_⟩;rw[fS]
  .exact eu
  .intro z;subst z;have a1:=kP hk;have a2:=kP e1;refine kA a1 λi1 r1=>?_;refine kA a2 λi2 r2=>?_;rcases Nat.lt_or_gt_of_ne hj with z|z
   .exact List.pairwise_iff_getElem.mp h.nd k j i1 i2 z (r1.trans r2.symm)
   .exact List.pairwise_iff_getElem.mp h.nd j k i2 i1 z (r2.trans r1.symm)
def jZ (φ:ak ai)(H:Hp)(ρ:DE)(σ:St):Prop:=ρ.length=σ.length/\∀(i:Nat) (d:D),ρ[i]?=some (some d)->∃ v,σ[i]?=some (some v)/\iP φ H d v
theorem jZ.mono (f:Fr φ H gg H')(h:jZ φ H ρ σ):jZ gg H' ρ σ:=⟨h.1,λi d e=>let ⟨v,a,b⟩:=h.2 i d e;⟨v,a,b.mono f⟩⟩
theorem jZ.set (h:jZ φ H ρ σ)(hd:iP φ H d v)(i:Nat):jZ φ H (ρ.set i<|some d) (σ.set i<|some v):=by
 refine⟨by rw[bV,bV];exact h.1,λj e hj=>?_⟩;by_cases lH:i=j
 .subst lH;have hl:i<ρ.length:=by have:=(kP hj).1;rwa [bV]at this
  rw[aO hl]at hj;cases hj;exact⟨v,aO<|h.1▸‹_›,hd⟩
 .rw[aW lH]at hj;let ⟨u,a,b⟩:=h.2 j e hj;exact⟨u,by rwa [aW lH],b⟩
def lv (μ:MS):D->ao (ak D)
 |.lst ds=>some ds
 |.mr k=>zx μ k
 |_=>none
def lc:D->ak D->MS->Prop
 |.mr k,ds=>λμ=>zx μ k=some ds
 |_,_=>λ_=>True
def jA (M:fU φ H μ)(i:iP φ H d v)(h:lv μ d=some ds):∃ p vs,v=.ref p/\H p=some (.lst vs)/\fB φ H ds vs:=by
 cases d with
 |lst es=>cases h;obtain⟨p,vs,rfl,_,hp,ha⟩:=i;exact⟨p,vs,rfl,hp,ha⟩
 | mr k =>obtain⟨p,hp,rfl⟩:=i;have e:=ni h;obtain⟨q,e1,vs,hv,ha⟩:=M.at_ k _ e;rw[hp]at e1;cases e1;exact⟨p,vs,rfl,hv,ha⟩
 |_=>cases h
def oU (M:fU φ H μ)(i:iP φ H d (.ref p))(h:lv μ d=some ds)(f:Fr φ H gg H')(M':fU gg H' fI)(c:lc d ds fI):∃ vs,H' p=some (.lst vs)/\fB gg H' ds vs:=by
 cases d with
 |lst es=>cases h;obtain⟨p',vs,e,n,hp,ha⟩:=i;cases e;exact⟨vs,f.keep _ _ n hp,ha.mono f⟩
 | mr k =>refine fj i λp' hp e=>?_;cases e;obtain⟨q,e1,vs,hv,ha⟩:=M'.at_ k _<|ni c;rw[f.get hp]at e1;cases e1;exact⟨vs,hv,ha⟩
 |_=>cases h
def zB (h:lv μ d=some ds):lc d ds μ:=by cases d<;>first|trivial|exact h
abbrev DK:=D->MS->Prop
abbrev De:=DE->MS->DK->Prop
abbrev DA:=DE->MS->(ak D->MS->Prop)->Prop
abbrev Dt:=DE->MS->(Bool->MS->Prop)->Prop
def qM (φ:ak ai)(H:Hp)(K:DK)(Q:VK):Prop:=∀ d fI gg v H',K d fI->Fr φ H gg H'->fU gg H' fI->iP gg H' d v->Q v H'
def qM.mono {K:DK}(h:qM φ H K Q)(f:Fr φ H gy H1):qM gy H1 K Q:=λd fI gg v H' k g m i=>h d fI gg v H' k (f.trans g) m i
def tD (w:De):TE:=λσ H Q=>∃ φ ρ μ K,jZ φ H ρ σ/\fU φ H μ/\w ρ μ K/\qM φ H K Q
def RH (w:DA):TA:=λσ H Q=>∃ φ ρ μ K,jZ φ H ρ σ/\fU φ H μ/\w ρ μ K/\∀ ds fI gg vs H',K ds fI->Fr φ H gg H'->fU gg H' fI->fB gg H' ds vs->Q vs H'
def u9 (w:Dt):TT:=λσ H Q=>∃ φ ρ μ K,jZ φ H ρ σ/\fU φ H μ/\w ρ μ K/\∀ b fI gg H',K b fI->Fr φ H gg H'->fU gg H' fI->Q b H'
section
variable {X:Cx}{a b e:Expr}{pos:Pos}
abbrev PD (X:Cx)(e:Expr)(w:De):Prop:=PE X e (tD w)
def Ab (i:Nat):De:=λρ μ K=>match ρ[i]? with|some (some d)=>K d μ|_=>False
def dC (d:D):De:=λ_ μ K=>K d μ
def dv (i:Nat)(hN:X.N[i]?=some x:=by rfl)(hv:Uc X.env.scope x:=by first | exact Or.inl rfl | exact Or.inr (Or.inl rfl) | exact Or.inr<|Or.inr rfl)(hd:(x==("__debug__" : Str))=false:=by decide)
 (BA:(x==("__classdict__" : Str))=false:=by decide):PD X (.Name x pos) (Ab i):=(G7 hN hv hd BA).imp λσ H Q q=>by
 refine gG q λφ ρ μ K E M w L=>?_;unfold Ab at w;split at w
 .rename_i d hd;refine fj (E.2 i d hd) λv e r=>?_;exact⟨v,e,L d μ φ v H w (.refl _ _) M r⟩
 .exact w.elim
def fP {i j pos}:PD X (.Constant (.int i) j pos) (dC<|.int i):=gI.imp λσ H Q h_=>gG h_ λφ ρ μ K E M w L=>L _ _ φ _ H w (.refl _ _) M rfl
def Md {b j pos}:PD X (.Constant (.bool b) j pos) (dC<|.bl b):=Hf.imp λσ H Q h_=>gG h_ λφ ρ μ K E M w L=>L _ _ φ _ H w (.refl _ _) M rfl
def DU {j pos}:PD X (.Constant .none j pos) (dC .gz):=OR.imp λσ H Q h_=>gG h_ λφ ρ μ K E M w L=>L _ _ φ _ H w (.refl _ _) M rfl
def lg {x j pos}:PD X (.Constant (.str x) j pos) (dC<|.str x):=OQ.imp λσ H Q h_=>gG h_ λφ ρ μ K E M w L=>L _ _ φ _ H w (.refl _ _) M rfl
abbrev Ar:=D->D->MS->DK->Prop
def vp (ro:Ar)(wa wb:De):De:=λρ μ K=>wa ρ μ λx fM=>wb ρ fM λy iA=>ro x y iA K
def pq (r:R2)(ro:Ar):Prop:=∀ φ H x y dx dy μ K Q,fU φ H μ->iP φ H dx x->iP φ H dy y->ro dx dy μ K->qM φ H K Q->r x y H Q
def Cd (so:pq r ro)(h:tD (vp ro wa wb) σ H Q):RB r (tD wa) (tD wb) σ H Q:=by refine gG h λφ ρ μ K E M w L=>?_;exact⟨φ,ρ,μ,_,E,M,w,λd1 fM gy v1 H1 k1 f1 M1 i1=>⟨gy,ρ,fM,_,E.mono f1,M1,k1,λd2 iA kL v2 H2 k2 f2 M2 i2=>so kL H2 v1 v2 d1 d2 iA K Q M2 (i1.mono f2) i2 k2<|L.mono<|f1.trans f2⟩⟩
def rF (h:jM X (binaryOp op) r)(so:pq r ro)(ha:PD X a wa)(hb:PD X b wb):PD X (.BinOp a op b pos) (vp ro wa wb):=(jJ h ha hb).imp λσ H Q q=>Cd so q
def Jk (h:jM X (compareOp op) r)(so:pq r ro)(ha:PD X a wa)(hb:PD X b wb)(hm:behindInMarks op b=false):PD X (.Compare a [op] [b] pos) (vp ro wa wb):=(sW h ha hb hm).imp λσ H Q q=>Cd so q
def Xd (h:Ef X r)(so:pq r ro)(ha:PD X a wa)(hb:PD X b wb)(hs:yr b):PD X (.Subscript a b pos) (vp ro wa wb):=(oq h ha hb hs).imp λσ H Q q=>Cd so q
def oC (w:De):Dt:=λρ μ K=>w ρ μ λd fI=>match d with|.bl b=>K b fI|_=>False
def Ky (h:u9 (oC w) σ H Q):cB (tD w) σ H Q:=by
 refine gG h λφ ρ μ K E M k L=>?_;refine⟨φ,ρ,μ,_,E,M,k,λd fI gg v H' k' f M' i=>?_⟩;cases d with
 |bl b=>subst i;exact L b fI gg H' k' f M'
 |_=>exact k'.elim
def ma {w:De}(h:PD X e w)(he:∀ whole,isTrue e X.env whole=(do let v <- whole;standAt e.pos;holding [v] (truthy v)):=by intro _;rfl):PT X e (u9<|oC w):=(qi h he).imp λσ H Q q=>Ky q
def lE (h:jM X (compareOp op) r)(so:pq r ro)(ha:PD X a wa)(hb:PD X b wb)(hm:behindInMarks op b=false):PT X (.Compare a [op] [b] pos) (u9<|oC<|vp ro wa wb) :=
 (l5 h ha hb hm).imp λσ H Q q=>by
  refine gG q λφ ρ μ K E M k L=>?_;refine Cd so ⟨φ,ρ,μ,_,E,M,k,λd fI gg v H' k' f M' i=>?_⟩;cases d with
  |bl b=>subst i;exact L b fI gg H' k' f M'
  |_=>exact k'.elim
def Mf (neg:Bool)(w:De):De:=λρ μ K=>w ρ μ λd fI=>match d with|.gz=>K (.bl<|!neg) fI|_=>K (.bl neg) fI
def HP (i:iP φ H d v):decide (v=V.gz)=(match d with | .gz=>true | _=>false):=by
 cases d with
 |gz=>subst i;rfl
 |bl _=>subst i;rfl
 |int _=>subst i;rfl
 |str _=>subst i;rfl
 |lst _=>obtain⟨p,vs,rfl,_⟩:=i;rfl
 |tup _=>obtain⟨p,vs,rfl,_⟩:=i;rfl
 |jf _ _=>obtain⟨p,fw,vs,rfl,_⟩:=i;rfl
 |mr _=>obtain⟨p,_,rfl⟩:=i;rfl
 |obj _ _ _=>obtain⟨p,dx,fs,vs,rfl,_⟩:=i;rfl
 |qP _ _=>obtain⟨p,dx,fs,vs,rfl,_⟩:=i;rfl
 |fn _=>subst i;rfl
def Oc (h:tD (Mf false w) σ H Q):RD (tD w) σ H Q:=by refine gG h λφ ρ μ K E M k L=>?_;refine⟨φ,ρ,μ,_,E,M,k,λd fI gg v H' k' f M' i=>?_⟩;show Q (.bl _) H';rw[HP i];cases d<;>exact L _ fI gg _ H' k' f M' rfl
def Ku (h:tD (Mf true w) σ H Q):MU (tD w) σ H Q:=by refine gG h λφ ρ μ K E M k L=>?_;refine⟨φ,ρ,μ,_,E,M,k,λd fI gg v H' k' f M' i=>?_⟩;show Q (.bl _) H';rw[HP i];cases d<;>exact L _ fI gg _ H' k' f M' rfl
end
section
variable {X:Cx}{a b e:Expr}{es:ak Expr}{pos:Pos}
def PA.imp (h:PA X es t)(hi:∀ σ H Q,t' σ H Q->t σ H Q):PA X es t':=λpos fb s σ H Q I q=>h pos fb s σ H Q I (hi σ H Q q)
def yt.imp {st:ak Stmt}(h:yt X st t)(hi:∀ D σ H,t' D σ H->t D σ H):yt X st t':=λfb s σ H D I q=>h fb s σ H D I (hi D σ H q)
def BL:DA:=λ_ μ K=>K [] μ
def sC (wa:De)(wr:DA):DA:=λρ μ K=>wa ρ μ λx fM=>wr ρ fM λxs iA=>K (x::xs) iA
abbrev uW (X:Cx)(es:ak Expr)(w:DA):Prop:=PA X es (RH w)
def jU:uW X [] BL:=gZ.imp λσ H Q h_=>gG h_ λφ ρ μ K E M w L=>L [] μ φ [] H w (.refl _ _) M rfl
def gB (ha:PD X e wa)(hr:uW X es wr)(hs:starEach (e::es) X.env=(false,eval e X.env)::starEach es X.env:=by rfl):uW X (e::es) (sC wa wr):=(fJ ha hr hs).imp λσ H Q q=>by refine gG q λφ ρ μ K E M w L=>?_;exact⟨φ,ρ,μ,_,E,M,w,λd1 fM gy v1 H1 k1 f1 M1 i1=>⟨gy,ρ,fM,_,E.mono f1,M1,k1,λds iA kL vs H2 k2 f2 M2 i2=>L _ iA kL _ H2 k2 (f1.trans f2) M2 ⟨v1,vs,rfl,i1.mono f2,i2⟩⟩⟩
def JN {K:DK}(L:qM φ H K Q)(M:fU φ H μ)(h:fB φ H ds vs)(k:K (.lst ds) μ)(hp:H p=none):Q (.ref p) (upd H p<|.lst vs) :=
 L _ μ φ _ _ k (.new hp) (M.same<|gW.upd hp) ⟨p,vs,rfl,M.fresh hp,fF,h.mono<|.new hp⟩
def QP {K:DK}(L:qM φ H K Q)(M:fU φ H μ)(h:fB φ H ds vs)(k:K (.tup ds) μ)(hp:H p=none):Q (.ref p) (upd H p<|.tup vs) :=
 L _ μ φ _ _ k (.new hp) (M.same<|gW.upd hp) ⟨p,vs,rfl,M.fresh hp,fF,h.mono<|.new hp⟩
def Ua {K:DK}(L:qM φ H K Q)(M:fU φ H μ)(h:fB φ H ds vs)(k:K (.mr μ.length) (μ++[.lst ds]))(hp:H p=none):Q (.ref p) (upd H p<|.lst vs):=by have f:Fr φ H (φ++[p]) (upd H p<|.lst vs):=⟨(Fr.snoc hp).ext,λc u _ e=>gW.upd hp _ _ e,λc e=>(gW.upd hp).free e⟩;obtain⟨M',_⟩:=M.snoc (m:=.lst ds) hp ⟨vs,fF,h.mono f⟩;exact L _ _ _ _ _ k f M' ⟨p,by rw[p8 (M.len▸aq _),M.len,a6];rfl,rfl⟩
def nL (m:Bool)(ds:ak D)(μ:MS)(K:DK):Prop:=match m with|false=>K (.lst ds) μ|true=>K (.mr μ.length) (μ++[.lst ds])
def JM {K:DK}(L:qM φ H K Q)(M:fU φ H μ)(h:fB φ H ds vs)(k:nL m ds μ K)(hp:H p=none):Q (.ref p) (upd H p<|.lst vs):=by
 cases m with
 |false=>exact JN L M h k hp
 |true=>exact Ua L M h k hp
def Xi (m:Bool)(w:DA):De:=λρ μ K=>w ρ μ λds fM=>ds.length<=sizeLine/\nL m ds fM K
def Xf (w:DA):De:=λρ μ K=>w ρ μ λds fM=>ds.length<=sizeLine/\K (.tup ds) fM
def lh (m:Bool)(h:uW X es w):PD X (.List es pos) (Xi m w):=(Ha h).imp λσ H Q h_=>gG h_ λφ ρ μ K E M w L =>⟨φ,ρ,μ,_,E,M,w,λds fM gy vs H1 k1 f1 M1 i1=>⟨i1.len▸k1.1,λp hp=>JM (L.mono f1) M1 i1 k1.2 hp⟩⟩
def nO {x1}(h:uW X es w):PD X (.Tuple es x1 pos) (Xf w):=(OP h).imp λσ H Q h_=>gG h_ λφ ρ μ K E M w L =>⟨φ,ρ,μ,_,E,M,w,λds fM gy vs H1 k1 f1 M1 i1=>⟨i1.len▸k1.1,λp hp=>QP (L.mono f1) M1 i1 k1.2 hp⟩⟩
abbrev lp:=ak D->MS->DK->Prop
def iD (f:lp):Sp:=λvs H Q _=>∃ φ ds μ K,fB φ H ds vs/\fU φ H μ/\f ds μ K/\qM φ H K Q
def uO (f:lp)(w:DA):De:=λρ μ K=>w ρ μ λds fM=>f ds fM K
def QB (C:pv X.prog X.w X.K X.mg X.fg x k ps (iD f))(hr:iw k X.A)(hg:Gl X x)(ha:uW X (e::es) w)
 (vm:(x==("__debug__" : Str))=false:=by decide) (he:starEach (e::es) X.env=(false,eval e X.env)::starEach es X.env:=by rfl) (oz:(backTo pos<|starEach es X.env).any (·.1)=false:=by rfl):
 PD X (.Call (.Name x p) (e::es) [] pos) (uO f w):=(ue C hr hg ha vm he oz).imp λσ H Q h_=>gG h_ λφ ρ μ K E M w L=>
 ⟨φ,ρ,μ,_,E,M,w,λds fM gy vs H1 k1 f1 M1 i1=>by show iD f (vs++[]) H1 Q E0;rw[a8];exact⟨gy,ds,fM,K,i1,M1,k1,L.mono f1⟩⟩
def mF (r:ak V->Hp->VK->Prop)(f:lp):Prop:=∀ φ H vs ds μ K Q,fU φ H μ->fB φ H ds vs->f ds μ K->qM φ H K Q->r vs H Q
def MX (so:mF r f)(h:tD (uO f w) σ H Q):Vu r (RH w) σ H Q:=by refine gG h λφ ρ μ K E M w L=>?_;exact⟨φ,ρ,μ,_,E,M,w,λds fM gy vs H1 k1 f1 M1 i1=>so gy H1 vs ds fM K Q M1 i1 k1<|L.mono f1⟩
def pz {id:String}(hc:jd X (.builtin id) r)(so:mF r f)(hg:Gl X x)(hm:X.mg x=none)(hv:bootBuiltins x=some (.builtin id))(ha:uW X (e::es) w)(hn:x ≠ "__name__":=by decide)(vm:(x==("__debug__" : Str))=false:=by decide)
 (he:starEach (e::es) X.env=(false,eval e X.env)::starEach es X.env:=by rfl) (oz:(backTo pos<|starEach es X.env).any (·.1)=false:=by rfl):PD X (.Call (.Name x p) (e::es) [] pos) (uO f w):=
 (gL hc hg hm hv ha hn vm he oz).imp λσ H Q q=>MX so q
def Fm (hc:jd X (.type T) r)(so:mF r f)(hg:Gl X x)(hm:X.mg x=none)(hv:bootBuiltins x=some (.type T))(ha:uW X (e::es) w)(hn:x ≠ "__name__":=by decide)(vm:(x==("__debug__" : Str))=false:=by decide)
 (he:starEach (e::es) X.env=(false,eval e X.env)::starEach es X.env:=by rfl) (oz:(backTo pos<|starEach es X.env).any (·.1)=false:=by rfl):PD X (.Call (.Name x p) (e::es) [] pos) (uO f w):=
 (vP hc hg hm hv ha hn vm he oz).imp λσ H Q q=>MX so q
abbrev Uu:=D->ak D->MS->DK->Prop
def Mz (K:aa)(T:String)(r:V->ak V->Hp->VK->Prop)(f:Uu):Prop:=∀ φ H x vs d ds μ K' Q,fU φ H μ->iP φ H d x->fB φ H ds vs->f d ds μ K'->qM φ H K' Q->r x vs H Q
def Ru (T:String)(μ:MS):D->Prop
 |.str _=>T = "str"
 |.lst _=>T = "list"
 |.jf _ _=>T = "dict"
 |.mr k=>match μ[k]? with|some (.lst _)=>T = "list" | some (.jf _ _)=>T = "dict" | _=>False
 |_=>False
def Ru.is (M:fU φ H μ)(i:iP φ H d v)(h:Ru T μ d):Vg Kf T v H:=by
 cases d with
 |str z=>subst i;exact h
 |lst ds=>obtain⟨p,vs,rfl,_,hp,_⟩:=i;exact .inl ⟨h,vs,oH.of hp⟩
 |jf ks ds=>obtain⟨p,fw,vs,rfl,_,hp,_⟩:=i;exact .inr (.inr<|.inl ⟨h,.inl ⟨fw,hp⟩⟩)
 | mr k =>
  obtain⟨p,hp,rfl⟩:=i;delta Ru at h;dsimp only at h;cases e:μ[k]? with
  |none=>rw[e]at h;exact h.elim
  | some m =>
   refine fj (M.at_ k m e) λq e1 e2=>?_;rw[hp]at e1;cases e1;rw[e]at h;cases m with
   |box=>exact h.elim
   |lst ds=>let ⟨vs,hv,_⟩:=e2;exact .inl ⟨h,vs,oH.of hv⟩
   |jf ks ds=>let ⟨fw,vs,hv,_⟩:=e2;exact .inr (.inr<|.inl ⟨h,.inl ⟨fw,hv⟩⟩)
   |_=>exact h.elim
 |_=>exact h.elim
def dMt (T:String)(f:Uu)(wo:De)(w:DA):De:=λρ μ K=>wo ρ μ λx fM=>Ru T fM x/\w ρ fM λds iA=>f x ds iA K
def Ji {id:String}(pa:PlainAttrs T)(slot:Slot T name id)(Wc:typeOf (.builtin id)=pure (.type "method_descriptor"))(hm:Kh X id r)(so:Mz X.K T r f)(ho:PD X o wo)(ha:uW X (e::es) w)
 (Ie:attributeBase o name X.env (eval o X.env)=eval o X.env:=by rfl)
 (Qh:((backTo kT<|starEach (e::es) X.env).all (λx=>!x.1)&&(backToKw kT<|keywordEach [] X.env).all (λx=>x.1.isSome)
   && decide ((e::es).length+([]:ak Keyword).length+(if([]:ak Keyword).isEmpty then 0 else 1)<30))=true:=by rfl)
 (Ia:(mW.endLine==kT.line)=true:=by rfl) (hs:starEach (e::es) X.env=(false,eval e X.env)::starEach es X.env:=by rfl) (Bz:(backTo kT<|starEach es X.env).any (·.1)=false:=by rfl):
 PD X (.Call (.Attribute o name mW) (e::es) [] kT) (dMt T f wo w):=(R0 pa slot Wc hm ho ha Ie Qh Ia hs Bz).imp λσ H Q q=>by
 refine gG q λφ ρ μ K E M w L=>?_;exact⟨φ,ρ,μ,_,E,M,w,λd1 fM gy v1 H1 k1 f1 M1 i1=>⟨Ru.is M1 i1 k1.1,⟨gy,ρ,fM,_,E.mono f1,M1,k1.2,λds iA kL vs H2 k2 f2 M2 i2=>so kL H2 v1 vs d1 ds iA K Q M2 (i1.mono f2) i2 k2<|L.mono<|f1.trans f2⟩⟩⟩
def NM (t u:Dt):Dt:=λρ μ K=>t ρ μ λc fM=>if c=true then u ρ fM K else K false fM
def Jb (t u:Dt):Dt:=λρ μ K=>t ρ μ λc fM=>if c=true then K true fM else u ρ fM K
def NL (t:Dt):Dt:=λρ μ K=>t ρ μ λc fM=>K (!c) fM
abbrev Fy (X:Cx)(e:Expr)(w:Dt):Prop:=PT X e (u9 w)
def Kz (h:u9 (NM t u) σ H Q):RJ (u9 t) (u9 u) σ H Q:=by
 refine gG h λφ ρ μ K E M w L=>?_;refine⟨φ,ρ,μ,_,E,M,w,λb fM gy H1 k1 f1 M1=>?_⟩;cases b with
 |true=>exact⟨gy,ρ,fM,_,E.mono f1,M1,k1,λb iA kL H2 k2 f2 M2=>L b iA kL H2 k2 (f1.trans f2) M2⟩
 |false=>exact L _ fM gy H1 k1 f1 M1
def Od (h:u9 (Jb t u) σ H Q):X4 (u9 t) (u9 u) σ H Q:=by
 refine gG h λφ ρ μ K E M w L=>?_;refine⟨φ,ρ,μ,_,E,M,w,λb fM gy H1 k1 f1 M1=>?_⟩;cases b with
 |false=>exact⟨gy,ρ,fM,_,E.mono f1,M1,k1,λb iA kL H2 k2 f2 M2=>L b iA kL H2 k2 (f1.trans f2) M2⟩
 |true=>exact L _ fM gy H1 k1 f1 M1
abbrev Rv (X:Cx)(e:Expr)(w:Dt):Prop:=PW X e (u9 w)
def PW.imp (h:PW X e t)(hi:∀ σ H Q,t' σ H Q->t σ H Q):PW X e t':=λwh fb s σ H Q I q=>h wh fb s σ H Q I (hi σ H Q q)
def Gr (h:Fy X a t):Rv X (.BoolOp .And [a] pos) t:=pw_and1 h
def Cc (h:Fy X a t):Rv X (.BoolOp .Or [a] pos) t:=pw_or1 h
def MT {rest:ak Expr}(ha:Fy X a t)(hb:Rv X (.BoolOp .And (b::rest) pos) u):Rv X (.BoolOp .And (a::b::rest) pos) (NM t u):=(pw_and ha hb).imp λσ H Q q=>Kz q
def Gp {rest:ak Expr}(ha:Fy X a t)(hb:Rv X (.BoolOp .Or (b::rest) pos) u):Rv X (.BoolOp .Or (a::b::rest) pos) (Jb t u):=(pw_or ha hb).imp λσ H Q q=>Od q
def MQ (h:Fy X a t):Fy X (.UnaryOp .Not a pos) (NL t):=(OJ h).imp λσ H Q q=>by refine gG q λφ ρ μ K E M w L=>?_;exact⟨φ,ρ,μ,_,E,M,w,λb fM gy H1 k1 f1 M1=>L _ fM gy H1 k1 f1 M1⟩
def dIf (t:Dt)(wa wb:De):De:=λρ μ K=>t ρ μ λc fM=>if c=true then wa ρ fM K else wb ρ fM K
def Qy (hc:Fy X c t)(ha:PD X a wa)(hb:PD X b wb):PD X (.IfExp c a b pos) (dIf t wa wb):=(Hb hc ha hb).imp λσ H Q q=>by
 refine gG q λφ ρ μ K E M w L=>?_;refine⟨φ,ρ,μ,_,E,M,w,λb fM gy H1 k1 f1 M1=>?_⟩;cases b with
 |true=>exact⟨gy,ρ,fM,_,E.mono f1,M1,k1,L.mono f1⟩
 |false=>exact⟨gy,ρ,fM,_,E.mono f1,M1,k1,L.mono f1⟩
def MZ (hi:∀ Q,tD w σ H Q->t σ H Q)(h:u9 (oC w) σ H Q):tB t σ H Q:=by
 refine gG h λφ ρ μ K E M k L=>?_;refine hi _ ⟨φ,ρ,μ,_,E,M,k,λd fI gg v H' k' f M' i=>?_⟩;cases d with
 |bl b=>subst i;exact⟨b,rfl,L b fI gg H' k' f M'⟩
 |_=>exact k'.elim
def MR {j pos'}(h:PD X a w):Fy X (.Compare a [.Is] [.Constant .none j pos'] pos) (oC<|Mf false w):=(A0<|OT h).imp λσ H Q q=>MZ (λQ q=>Oc q) q
def AJ {j pos'}(h:PD X a w):Fy X (.Compare a [.IsNot] [.Constant .none j pos'] pos) (oC<|Mf true w):=(A0<|Lh h).imp λσ H Q q=>MZ (λQ q=>Ku q) q
end
structure DN where
 nx:DE->MS->Prop
 rt:DK
 bk:DE->MS->Prop:=λ_ _=>False
 ct:DE->MS->Prop:=λ_ _=>False
abbrev Ds:=DN->DE->MS->Prop
def N3 (φ:ak ai)(H:Hp)(k:DE->MS->Prop)(q:St->Hp->Prop):Prop:=∀ j5 fI gg iB H',k j5 fI->Fr φ H gg H'->jZ gg H' j5 iB->fU gg H' fI->q iB H'
def N3.mono (h:N3 φ H k q)(f:Fr φ H gy H1):N3 gy H1 k q:=λj5 fI gg iB H' a b c d=>h j5 fI gg iB H' a (f.trans b) c d
structure U8 (φ:List ai)(H:Hp)(N:DN)(E:Ends):Prop where
 nx:N3 φ H N.nx E.nx
 rt:qM φ H N.rt E.rt
 bk:N3 φ H N.bk E.bk
 ct:N3 φ H N.ct E.ct
theorem U8.mono (h:U8 φ H N E)(f:Fr φ H gy H1):U8 gy H1 N E:=⟨h.nx.mono f,h.rt.mono f,h.bk.mono f,h.ct.mono f⟩
def Vr (w:Ds):TS:=λE σ H=>∃ φ ρ μ N,jZ φ H ρ σ/\fU φ H μ/\w N ρ μ/\U8 φ H N E
abbrev yu (X:Cx)(st:Stmt)(w:Ds):Prop:=PS X st (Vr w)
abbrev Ed (X:Cx)(st:ak Stmt)(w:Ds):Prop:=yt X st (Vr w)
section
variable {X:Cx}{a b e:Expr}{es:ak Expr}{pos:Pos}{st:Stmt}{rest:ak Stmt}
def YH:Ds:=λN ρ μ=>N.nx ρ μ
def Xh (t u:Ds):Ds:=λN ρ μ=>t { N with nx:=λj5 fI=>u N j5 fI} ρ μ
def Xq (t u:Ds):Ds:=λN ρ μ=>∃ M:DE->MS->Prop,t { N with nx:=M} ρ μ/\∀ j5 fI,M j5 fI->u N j5 fI
def jb:Ed X [] YH:=l6.imp λE σ H h_=>gG h_ λφ ρ μ N A M w L=>L.nx ρ μ φ σ H w (.refl _ _) A M
def fv (h1:yu X st t)(h2:Ed X rest u):Ed X (st::rest) (Xh t u):=(h9 h1 h2).imp λE σ H h_=>gG h_ λφ ρ μ N A M w L =>⟨φ,ρ,μ,_,A,M,w,⟨λj5 fI gg iB H' k f A' M'=>⟨gg,j5,fI,N,A',M',k,L.mono f⟩,L.rt,L.bk,L.ct⟩⟩
def JL (h1:yu X st t)(h2:Ed X rest u):Ed X (st::rest) (Xq t u):=(h9 h1 h2).imp λE σ H ⟨φ,ρ,μ,N,A,M,⟨P,w1,w2⟩,L⟩ =>⟨φ,ρ,μ,_,A,M,w1,⟨λj5 fI gg iB H' k f A' M'=>⟨gg,j5,fI,N,A',M',w2 j5 fI k,L.mono f⟩,L.rt,L.bk,L.ct⟩⟩
def fQ (h:yu X st t):Ed X [st] t:=jP h
def TR (w:De):Ds:=λN ρ μ=>w ρ μ λ_ fI=>N.nx ρ fI
def Oz (h:PD X e w)(hs:swapsWith e none pos.line X.env=pure false:=by rfl):yu X (.Expr e pos) (TR w):=(K7 h hs).imp λE σ H h_=>gG h_ λφ ρ μ N A M w L=>⟨φ,ρ,μ,_,A,M,w,λd fM gy v1 H1 k1 f1 M1 i1=>L.nx ρ fM gy σ H1 k1 f1 (A.mono f1) M1⟩
def Tw (w:De):Ds:=λN ρ μ=>w ρ μ N.rt
def gq (h:PD X e w):yu X (.Return (some e) pos) (Tw w):=(mw h).imp λE σ H h_=>gG h_ λφ ρ μ N A M w L=>⟨φ,ρ,μ,_,A,M,w,L.rt⟩
def TN (c:Dt)(t u:Ds):Ds:=λN ρ μ=>c ρ μ λb fM=>if b=true then t N ρ fM else u N ρ fM
def kZ (hc:Fy X c t)(h1:Ed X body u)(h2:Ed X orelse v):yu X (.If c body orelse pos) (TN t u v):=(rY hc h1 h2).imp λE σ H h_=>gG h_ λφ ρ μ N A M w L =>
 ⟨φ,ρ,μ,_,A,M,w,λb fM gy H1 k1 f1 M1=>by
  cases b with
  |true=>exact⟨gy,ρ,fM,N,A.mono f1,M1,k1,L.mono f1⟩
  |false=>exact⟨gy,ρ,fM,N,A.mono f1,M1,k1,L.mono f1⟩⟩
def Me (i:Nat)(w:De):Ds:=λN ρ μ=>w ρ μ λd fI=>N.nx (ρ.set i<|some d) fI
def RP (hN:X.N.Nodup)(hi:X.N[i]?=some x)(hx:Loc X.env.scope x)(he:PD X e w)(hf:X.fn x=true\/X.env.scope.names.lookup x=some .local:=by first | exact .inl rfl | exact .inr rfl | assumption)
 (LL:swapsWith e (some<|.Name x pos') pos.line X.env=pure false:=by rfl):yu X (.Assign [.Name x pos'] e pos) (Me i w):=(q9 (pos':=pos') hN hi hx he LL hf).imp λE σ H h_=>gG h_ λφ ρ μ N A M w L=>
 ⟨φ,ρ,μ,_,A,M,w,λd fM gy v1 H1 k1 f1 M1 i1=>L.nx _ fM gy _ H1 k1 f1 ((A.mono f1).set i1 i) M1⟩
abbrev DG:=D->DE->MS->(DE->MS->Prop)->Prop
abbrev N4:=ak D->DE->MS->(DE->MS->Prop)->Prop
def MA (g:TG)(w:DG)(S:ak Nat):Prop:=∀ φ H ρ σ μ d v K,jZ φ H ρ σ->fU φ H μ->iP φ H d v->w d ρ μ K->g v σ H λmY H2=>H2=H/\mY.length=σ.length/\(∀ i,i∉S->mY[i]?=σ[i]?)/\∃ nZ,jZ φ H nZ mY/\K nZ μ
def JP (g:Al)(w:N4)(S:ak Nat):Prop:=∀ φ H ρ σ μ ds vs K,jZ φ H ρ σ->fU φ H μ->fB φ H ds vs->w ds ρ μ K->g vs σ H λmY H2=>H2=H/\mY.length=σ.length/\(∀ i,i∉S->mY[i]?=σ[i]?)/\∃ nZ,jZ φ H nZ mY/\K nZ μ
def pC (g:TG):Prop:=∀ v σ H Q Q',(∀ iB H',Q iB H'->Q' iB H')->g v σ H Q->g v σ H Q'
def rP (g:Al):Prop:=∀ v σ H Q Q',(∀ iB H',Q iB H'->Q' iB H')->g v σ H Q->g v σ H Q'
def BJ (i:Nat):DG:=λd ρ μ K=>K (ρ.set i<|some d) μ
def NO (n:Nat)(t:N4):DG:=λd ρ μ K=>match d with|.tup ds=>ds.length=n/\t ds ρ μ K|_=>False
def BK (t:DG)(u:N4):N4:=λds ρ μ K=>match ds with|d::r=>t d ρ μ λj5 fI=>u r j5 fI K|[]=>False
def Jg:N4:=λds ρ μ K=>match ds with|[]=>K ρ μ|_=>False
def xa (i:Nat):MA (ux i) (BJ i) [i]:=λφ H ρ σ μ d v K E M h w=>⟨rfl,bV,λj hj=>aW λz=>hj<|by simp[z],_,E.set h i,w⟩
def oR (i:Nat):pC (ux i):=λv σ H Q Q' h q=>h _ _ q
def Gz:JP JC Jg []:=λφ H ρ σ μ ds vs K E M h w=>by
 cases ds with
 |nil=>subst h;exact⟨rfl,rfl,λ_ _=>rfl,ρ,E,w⟩
 |cons d r=>exact w.elim
def xI:rP JC:=λv σ H Q Q' h q=>by
 cases v with
 |nil=>exact h _ _ q
 |cons x r=>exact q
def tf (h1:pC g)(h2:rP u):rP (Aj g u):=λv σ H Q Q' h q=>by
 cases v with
 |nil=>exact q
 |cons x r=>exact h1 _ _ _ _ _ (λiB H' q'=>h2 _ _ _ _ _ h q') q
def Hy (h2:rP u):pC (JB n u):=λv σ H Q Q' h q=>by
 cases v with
 |ref a=>let ⟨xs,e,l,q⟩:=q;exact⟨xs,e,l,h2 _ _ _ _ _ h q⟩
 |_=>exact q
def xg (h1:MA g w S)(m1:pC g)(h2:JP u y T)(m2:rP u):JP (Aj g u) (BK w y) (S++T):=λφ H ρ σ μ ds vs K E M h k=>by
 cases ds with
 |nil=>exact k.elim
 | cons d r =>refine fZ h λv vr fV hd hr=>?_;subst fV;refine m1 _ _ _ _ _ (λMF H1 PZ=>?_)<|h1 φ H ρ σ μ d v _ E M hd k;obtain⟨e1,l1,n1,ρ1,E1,k1⟩:=PZ;subst e1;refine m2 _ _ _ _ _ (λmY H2 Nv=>?_)<|h2 φ H1 ρ1 MF μ r vr K E1 M hr k1;obtain⟨e2,l2,n2,nZ,E2,k2⟩:=Nv;refine⟨e2,l2.trans l1,λi hi=>?_,nZ,E2,k2⟩;rw[n2 i (λz=>hi<|aI _ z),n1 i (λz=>hi<|b9 _ z)]
def Gy (h2:JP u y S):MA (JB n u) (NO n y) S:=λφ H ρ σ μ d v K E M h k=>by
 cases d with
 | tup ds =>refine lP h λp vs fV hn hp ha=>?_;subst fV;exact⟨vs,hp,ha.len▸k.1,h2 φ H ρ σ μ ds vs K E M ha k.2⟩
 |_=>exact k.elim
structure Tg (X:Cx)(tg:Expr)(g:TG)(w:DG)(S:List Nat):Prop where
 pg:PG X tg g
 so:MA g w S
 mo:pC g
def Xr (w:De)(g:DG):Ds:=λN ρ μ=>w ρ μ λd fM=>g d ρ fM N.nx
def GD (he:PD X e w)(hg:Tg X tg g y S)(hs:swapsWithSole [tg] e pos.line X.env=pure false:=by rfl)(hw:swappedStores [tg] e X.env=pure none:=by rfl)
 (h1:(assignEach [tg] X.env).map (·.2)=[assign tg X.env]:=by rfl):yu X (.Assign [tg] e pos) (Xr w y):=(rg he hg.pg hs hw h1).imp λE σ H h_=>gG h_ λφ ρ μ N A M w L=>
 ⟨φ,ρ,μ,_,A,M,w,λd fM gy v1 H1 k1 f1 M1 i1=>hg.mo _ _ _ _ _ (λmY H2 ⟨e2,_,_,nZ,E2,k2⟩=>by subst e2;exact L.nx nZ fM gy mY _ k2 f1 E2 M1)<|hg.so gy H1 ρ σ fM d v1 _ (A.mono f1) M1 i1 k1⟩
def Ud (t:BV)(w:D->D->D->MS->(MS->Prop)->Prop):Prop:=∀ φ H o i v dO di d μ K Q,fU φ H μ->iP φ H dO o->iP φ H di i->iP φ H d v->w dO di d μ K->(∀ fI H',K fI->Fr φ H φ H'->fU φ H' fI->Q H')->t o i v H Q
def Jc:D->D->D->MS->(MS->Prop)->Prop:=λo i d μ K=>match o,i with
 |.mr k,.int j=>opt (zx μ k) λds=>opt (FF ds.length j) λn=>K (μ.set k<|.lst<|ds.set n d)
 |_,_=>False
def Ol:Ud GO Jc:=λφ H o i v dO di d μ K Q M hO hi hd w q=>by
 delta Jc at w;split at w
 .rename_i k j;refine fj (gR w) λds em w=>?_;have em:=ni em;obtain⟨p,hp,rfl⟩:=hO;subst hi;obtain⟨p',e1,vs,hv,ha⟩:=M.at_ k _ em;rw[hp]at e1;cases e1;refine fj (gR w) λn en w=>?_;refine⟨vs,hv,fA (by rwa [ha.len]) ?_⟩;have f:Fr φ H φ (upd H p<|.lst<|vs.set n v):=.put<|lC hp;exact q _ _ w f (M.put hp ⟨_,fF,(ha.set hd n).mono f⟩)
 .exact w.elim
def TZ (w wo wi:De):Ds:=λN ρ μ=>w ρ μ λd fM=>wo ρ fM λo iA=>wi ρ iA λi rS=>Jc o i d rS λJU=>N.nx ρ JU
def OC {o i:Expr}{w wo wi:De}{pos':Pos}(he:PD X e w)(ho:PD X o wo)(hi:PD X i wi)
 (ha:∀ v,assign (.Subscript o i pos') X.env v=(do
   let ov <- holding [v] (eval o X.env)
   let iv <- holding [v,ov] (eval i X.env)
   standAt pos'
   holding [v,ov,iv] (setItem ov iv v)
   release [v,ov,iv] []):=by intro _;rfl) (hs:swapsWithSole [.Subscript o i pos'] e pos.line X.env=pure false:=by rfl) (hw:swappedStores [.Subscript o i pos'] e X.env=pure none:=by rfl)
 (h1:(assignEach [.Subscript o i pos'] X.env).map (·.2)=[assign (.Subscript o i pos') X.env]:=by rfl):yu X (.Assign [.Subscript o i pos'] e pos) (TZ w wo wi):=(rg he (ud ho hi setC ha) hs hw h1).imp λE σ H h_=>gG h_ λφ ρ μ N A M w L=>by
 exact⟨φ,ρ,μ,_,A,M,w,λd fM gy v1 H1 k1 f1 M1 i1=>⟨gy,ρ,fM,_,A.mono f1,M1,k1,λd2 iA kL v2 H2 k2 f2 M2 i2=>⟨kL,ρ,iA,_,A.mono<|f1.trans f2,M2,k2,λd3 rS Ei v3 H3 k3 f3 M3 i3=>Ol Ei H3 _ _ _ d2 d3 d rS _ _ M3 (i2.mono f3) i3 (i1.mono<|f2.trans f3) k3 λfI H' k4 f4 M4=>L.nx ρ fI Ei σ H' k4 ((f1.trans<|f2.trans f3).trans f4) (A.mono<|(f1.trans<|f2.trans f3).trans f4) M4⟩⟩⟩
def Ue (t:NY)(ro:Ar):Prop:=∀ φ H x y dx dy μ K Q,fU φ H μ->iP φ H dx x->iP φ H dy y->ro dx dy μ K->qM φ H K Q->t x y H Q
def TX (i:Nat)(w:De)(ro:Ar):Ds:=λN ρ μ=>match ρ[i]? with|some (some x)=>w ρ μ λy fM=>ro x y fM λz iA=>N.nx (ρ.set i<|some z) iA|_=>False
def GC (hN:X.N.Nodup)(hi:X.N[i]?=some x)(hx:Loc X.env.scope x)(he:PD X e w)(ho:QT X op ti)(so:Ue ti ro)(hf:X.fn x=true\/X.env.scope.names.lookup x=some .local:=by first | exact .inl rfl | exact .inr rfl | assumption):
 yu X (.AugAssign (.Name x pos') op e pos) (TX i w ro):=(OM (pos':=pos') hN hi hx he ho hf).imp λE σ H h_=>gG h_ λφ ρ μ N A M w L=>by
 delta TX at w;split at w
 .rename_i d hd;refine fj (A.2 i d hd) λv hv WD=>?_;exact⟨v,hv,φ,ρ,μ,_,A,M,w,λd1 fM gy v1 H1 k1 f1 M1 i1=>so gy H1 _ _ d d1 fM _ _ M1 (WD.mono f1) i1 k1 λd2 iA kL v2 H2 k2 f2 M2 i2=>L.nx _ iA kL _ H2 k2 (f1.trans f2) ((A.mono<|f1.trans f2).set i2 i) M2⟩
 .exact w.elim
def QC (c:Dt)(b:Ds):Ds:=λN ρ μ=>∃ W:Nat->DE->MS->Prop,(∃ m,W m ρ μ)/\∀ m ρ μ,W m ρ μ ->
 c ρ μ λt fM=>if t=true then b { N with nx:=λj5 fI=>∃ m',m'<m/\W m' j5 fI,ct:=λj5 fI=>∃ m',m'<m/\W m' j5 fI,bk:=N.nx} ρ fM else N.nx ρ fM
def KZ (hp:PassesOwn (model X.prog X.w) X.A X.env X.xe)(hc:Fy X c t)(hb:Ed X body u):yu X (.While c body [] pos) (QC t u):=(GZ hp hc hb).imp λE σ H ⟨φ,ρ,μ,N,A,M,⟨W,⟨m0,w0⟩,turn⟩,L⟩=>by
 refine⟨λm iB H'=>∃ gg j5 fI,Fr φ H gg H'/\jZ gg H' j5 iB/\fU gg H' fI/\W m j5 fI,⟨m0,φ,ρ,μ,.refl _ _,A,M,w0⟩,?_⟩;refine λm iB H' h_=>IS h_ λgg j5 fI f' A' M' w'=>?_;refine⟨gg,j5,fI,_,A',M',turn m j5 fI w',λb fM gy H1 k1 f1 M1=>?_⟩;cases b with
 | true =>refine⟨λmY H2=>∃ m',m'<m/\∃ kL nZ iA,Fr φ H kL H2/\jZ kL H2 nZ mY/\fU kL H2 iA/\W m' nZ iA,λmY H2 q=>q,gy,j5,fM,_,A'.mono f1,M1,k1,?_⟩;have nx:N3 gy H1 (λj5 fI=>∃ m',m'<m/\W m' j5 fI) λmY H2=>∃ m',m'<m/\∃ kL nZ iA,Fr φ H kL H2/\jZ kL H2 nZ mY/\fU kL H2 iA/\W m' nZ iA:=λnZ iA kL mY H2 ⟨m',hm,w2⟩ f2 A2 M2=>⟨m',hm,kL,nZ,iA,(f'.trans f1).trans f2,A2,M2,w2⟩;exact⟨nx,L.rt.mono<|f'.trans f1,L.nx.mono<|f'.trans f1,nx⟩
 |false=>exact L.nx j5 fM gy iB H1 k1 (f'.trans f1) (A'.mono f1) M1
def Wk (J:It)(φ:ak ai)(H:Hp)(ds:ak D)(c:MS->Prop):Prop:=∀ gg H' fI,Fr φ H gg H'->fU gg H' fI->c fI->∀ i,
 (∀ d,ds[i]?=some d->J.go i H'/\∀ x Ao,J.FZ i H' x Ao->Fr gg H' gg Ao/\fU gg Ao fI/\iP gg Ao d x)/\(i=ds.length->J.stop i H')
abbrev DI:=DE->MS->(ak D->(MS->Prop)->MS->Prop)->Prop
def Vs (w:DI):TI:=λσ H R=>∃ φ ρ μ K,jZ φ H ρ σ/\fU φ H μ/\w ρ μ K/\∀ ds c fI gg J H',K ds c fI->Fr φ H gg H'->fU gg H' fI->Wk J gg H' ds c->R J H'
abbrev FN (X:Cx)(tg iter:Expr)(w:DI):Prop:=PI X tg iter (Vs w)
def PI.imp (h:PI X tg iter t)(hi:∀ σ H Q,t' σ H Q->t σ H Q):PI X tg iter t':=λfb s σ H Q I q=>h fb s σ H Q I (hi σ H Q q)
def zO (g:DG)(b:Ds)(N:DN)(c:MS->Prop):ak D->DE->MS->Prop
 |[],ρ,μ=>c μ/\N.nx ρ μ
 |d::ds,ρ,μ=>c μ/\g d ρ μ λnZ iA=>b { N with nx:=λj5 fI=>zO g b N c ds j5 fI,ct:=λj5 fI=>zO g b N c ds j5 fI,bk:=N.nx} nZ iA
def Xo (wi:DI)(g:DG)(b:Ds):Ds:=λN ρ μ=>wi ρ μ λds c fM=>zO g b N c ds ρ fM
def mI {tg iter:Expr}{body:ak Stmt}{wi:DI}{g:TG}{y:DG}{S:ak Nat}{u:Ds}(hp:PassesOwn (model X.prog X.w) X.A X.env X.xe)(hc:X.gN=true)(hi:FN X tg iter wi)(hg:Tg X tg g y S)(hb:Ed X body u)
 (hs:∀ x,foldedSetIterable iter X.env x=pure x:=by intro _;rfl):yu X (.For tg iter body [] pos) (Xo wi y u):=(OK hp hc hi hg.pg hb hs).imp λE σ H h_=>gG h_ λφ ρ μ N A M w L=>by
 refine⟨φ,ρ,μ,_,A,M,w,λds c fM gy J H1 k1 f1 M1 wk=>⟨λi m iB H'=>m=ds.length - i/\i<=ds.length/\∃ gg j5 fI,Fr gy H1 gg H'/\jZ gg H' j5 iB/\fU gg H' fI/\zO y u N c (ds.drop i) j5 fI,⟨ds.length,rfl,aS _,gy,ρ,fM,.refl _ _,A.mono f1,M1,k1⟩,?_⟩⟩;rintro i m iB H' ⟨rfl,hi,gg,j5,fI,f',A',M',w'⟩;by_cases ky:i<ds.length
 .rw[bg ky]at w';refine lQ w' λc' w'=>?_;refine lQ ((wk gg H' fI f' M' c' i).1 ds[i]<|iT ky) λgo FZ=>?_;refine .inr ⟨go,λmY H2=>∃ kL nZ iA,Fr gy H1 kL H2/\jZ kL H2 nZ mY/\fU kL H2 iA/\zO y u N c (ds.drop<|i+1) nZ iA,λmY H2 q=>⟨ds.length - (i+1),by lia,rfl,ky,q⟩,λx H2 hy=>?_⟩;refine jr (FZ x H2 hy) λf2 M2 i2=>?_;refine hg.mo _ _ _ _ _ (λB3 H3 HX=>?_)<|hg.so gg H2 j5 iB fI _ x _ (A'.mono f2) M2 i2 w';obtain⟨e3,_,_,MG,E3,k3⟩:=HX;subst e3;refine⟨gg,MG,fI,_,E3,M2,k3,?_⟩;have nx:N3 gg H3 (λj5 fI=>zO y u N c (ds.drop<|i+1) j5 fI) λmY H2=>∃ kL nZ iA,Fr gy H1 kL H2/\jZ kL H2 nZ mY/\fU kL H2 iA/\zO y u N c (ds.drop<|i+1) nZ iA:=λnZ iA kL mY H2 w2 g2 A2 N2=>⟨kL,nZ,iA,(f'.trans f2).trans g2,A2,N2,w2⟩;have ff:=f1.trans<|f'.trans f2;exact⟨nx,L.rt.mono ff,L.nx.mono ff,nx⟩
 .have e:i=ds.length:=by lia
  subst e
  rw[List.drop_length]at w'
  exact .inl ⟨(wk gg H' fI f' M' w'.1 _).2 rfl,L.nx j5 fI gg iB H' w'.2 (f1.trans f') A' M'⟩
end
def pH (js:ak (ao Nat))(ρ:DE):DE:=js.map λo=>o.bind λj=>(ρ[j]?).join
theorem jZ.gY {φ:ak ai}{H:Hp}{ρ:DE}{σ:St}(h:jZ φ H ρ σ)(js:ak (ao Nat)):jZ φ H (pH js ρ) (gY js σ):=by
 refine⟨by delta pH L2.gY;rw[gQ,gQ],λi d e=>?_⟩;unfold pH at e;rw[nX]at e;delta L2.gY;rw[nX];cases q:js[i]? with
 |none=>rw[q]at e;cases e
 | some o =>
  rw[q]at e;cases o with
  |none=>cases e
  | some j =>
   have e':(ρ[j]?).join=some d:=aU e;have e2:ρ[j]?=some (some d):=by
    cases z:ρ[j]? with
    |none=>rw[z]at e';cases e'
    |some y=>rw[z]at e';have:y=some d:=e';rw[this]
   refine fj (h.2 j d e2) λv hv hd=>?_;refine⟨v,?_,hd⟩;show some ((σ[j]?).join)=_;rw[hv];rfl
def NT (ρ:DE)(y:DG)(t:Dt)(w:De)(d:D)(μ:MS)(K:ao D->MS->Prop):Prop:=y d ρ μ λnZ iA=>t nZ iA λb rS=>if b=true then w nZ rS (λz JU=>K (some z) JU)else K none rS
def pB (it:D->MS->(ao D->MS->Prop)->Prop)(c:MS->Prop):ak D->MS->(ak D->MS->Prop)->Prop
 |[],μ,K=>c μ/\K [] μ
 |d::ds,μ,K=>c μ/\it d μ λo fM=>pB it c ds fM λys iA=>K (o.toList++ys) iA
def r6 (S:ak Nat)(js:ak (ao Nat)):Bool:=S.all λi=>js[i]?==some none
def IF (ho:r6 S js=true)(hl:mY.length=(gY js σ).length)(hn:∀ i,i∉S->mY[i]?=(gY js σ)[i]?):Ext (gY js σ) mY:=by
 refine⟨hl.symm,λi v e=>?_⟩;by_cases hi:i∈S
 .have q:=List.all_eq_true.mp ho i hi;have q':js[i]?=some none:=by simpa using q
  refine fj (uv e) λj e1 _=>?_;rw[q']at e1;cases e1
 .rwa [hn i hi]
def Ac (m:Bool)(wi:DI)(js:ak (ao Nat))(y:DG)(t:Dt)(w:De):De:=λρ μ K=>wi ρ μ λds c fM=>ds.length<=sizeLine/\pB (NT (pH js ρ) y t w) c ds fM λys iA=>nL m ys iA K
def Ce (so:MA g y S)(mo:pC g)(ho:r6 S js=true)(h:tD (Ac m wi js y t w) σ H Q):Gv (Vs wi) js g (u9 t) (tD w) σ H Q:=by
 refine gG h λφ ρ μ K A M k L=>?_;refine⟨φ,ρ,μ,_,A,M,k,λds c fM gy J H1 k1 f1 M1 wk=>?_⟩;refine lQ k1 λhz k1=>?_;refine⟨λi n ys H'=>n=ds.length - i/\i<=ds.length/\ys.length<=i/\∃ gg zs fI,Fr gy H1 gg H'/\fB gg H' zs ys/\fU gg H' fI/\pB (NT (pH js ρ) y t w) c (ds.drop i) fI λr iA=>nL m (zs++r) iA K,
  ⟨ds.length,rfl,aS _,aS _,gy,[],fM,.refl _ _,rfl,M1,k1⟩,?_⟩
 rintro i n ys H' ⟨rfl,hi,hy,gg,zs,fI,f',Z',M',w'⟩;by_cases ky:i<ds.length
 .rw[bg ky]at w';refine lQ w' λc' w'=>?_;refine lQ ((wk gg H' fI f' M' c' i).1 ds[i]<|iT ky) λgo FZ=>?_;refine .inr ⟨go,λx H2 HU=>?_⟩;refine jr (FZ x H2 HU) λf2 M2 i2=>?_;have E2:=((A.mono<|f1.trans<|f'.trans f2).gY js);refine mo _ _ _ _ _ (λB3 H3 HW=>?_)<|so gg H2 _ _ fI _ x _ E2 M2 i2 w';obtain⟨e3,l3,n3,MG,E3,k3⟩:=HW;refine⟨IF ho l3 n3,?_⟩;subst e3;refine⟨gg,MG,fI,_,E3,M2,k3,λb JU Rw H4 k4 f4 M4=>?_⟩;have ff:=f'.trans<|f2.trans f4;cases b with
  | true =>
   refine⟨Rw,MG,JU,_,E3.mono f4,M4,k4,λd5 Rx Vb v5 H5 k5 f5 M5 i5=>⟨by lia,ds.length - (i+1),by lia,rfl,ky,by rw[kO,bC];lia,Vb,zs++[d5],Rx,ff.trans f5,(Z'.mono<|f2.trans<|f4.trans f5).app ⟨v5,[],rfl,i5,rfl⟩,M5,?_⟩⟩;have e:(λr iA=>nL m (zs++[d5]++r) iA K)=λr iA=>nL m (zs++((some d5).toList++r)) iA K:=by funext r iA;rw[cC];rfl
   rwa [e]
  | false =>exact⟨ds.length - (i+1),by lia,rfl,ky,by lia,Rw,zs,JU,ff,Z'.mono<|f2.trans f4,M4,k4⟩
 .have e:i=ds.length:=by lia
  subst e
  rw[List.drop_length]at w'
  refine .inl ⟨(wk gg H' fI f' M' w'.1 _).2 rfl,λp hp=>?_⟩
  have q:nL m (zs++[]) fI K:=w'.2
  rw[a8]at q
  exact JM (L.mono<|f1.trans f') M' Z' q hp
section
variable {X:Cx}{a b e:Expr}{es:ak Expr}{pos:Pos}
variable {N:ak Str}{js:ak (ao Nat)}{sc:Scope}{tg elt iter:Expr}{ifs:ak Expr}{g:TG}{y:DG}{S:ak Nat}{t:Dt}{w:De}
abbrev BW (X:Cx)(ifs:ak Expr)(t:Dt):Prop:=JQ X ifs (u9 t)
def JQ.imp {t:TT}(h:JQ X ifs t)(hi:∀ σ H Q,t' σ H Q->t σ H Q):JQ X ifs t':=λfb s σ H Q I q=>h fb s σ H Q I (hi σ H Q q)
def Xe:Dt:=λ_ μ K=>K true μ
def hX:BW X [] Xe:=Cu.imp λσ H Q h_=>gG h_ λφ ρ μ K A M k L=>L true μ φ H k (.refl _ _) M
def pF (h:Fy X c t):BW X [c] t:=K5 h
def QA (m:Bool){wi:DI}(hc:jI X N js sc)(gN:X.gN=true)(so:MA g y S)(mo:pC g)(ho:r6 S js=true)(hi:FN X tg iter wi)(hg:∀ fp s H,PG (n0 X N sc fp s H) tg g)(ht:∀ fp s H,BW (n0 X N sc fp s H) ifs t)(he:∀ fp s H,PD (n0 X N sc fp s H) elt w)
 (hs:∀ x,foldedSetIterable iter X.env x=pure x:=by intro _;rfl):PD X (.ListComp elt [⟨tg,iter,ifs,0⟩] sc pos) (Ac m wi js y t w):=(CB hc gN hi hg ht he hs).imp λσ H Q q=>Ce so mo ho q
def Ez (m:Bool){wi:DI}{pos' AK:Pos}{i:Nat}{x:Str}(hc:jI X N js sc)(gN:X.gN=true)(so:MA g y S)(mo:pC g)(ho:r6 S js=true)(hN:X.N.Nodup)(E7:X.N[i]?=some x)(hx:Loc X.env.scope x)(hi:FN X tg iter wi)(hg:∀ fp s H,PG (n0 X N sc fp s H) tg g)
 (ht:∀ fp s H,BW (n0 X N sc fp s H) ifs t) (he:∀ fp s H,PD (n0 X N sc fp s H) elt w) (LL:swapsWith (.ListComp elt [⟨tg,iter,ifs,0⟩] sc pos) (some<|.Name x pos') AK.line X.env=pure true:=by rfl)
 (hs:∀ x,foldedSetIterable iter X.env x=pure x:=by intro _;rfl) (hf:X.fn x=true\/X.env.scope.names.lookup x=some .local:=by first|exact .inl rfl|exact .inr rfl|assumption):
 yu X (.Assign [.Name x pos'] (.ListComp elt [⟨tg,iter,ifs,0⟩] sc pos) AK) (Me i<|Ac m wi js y t w):=(A1 hc gN hN E7 hx hi hg ht he LL hs hf).imp λE σ H h_=>gG h_ λφ ρ μ N A M w L=>
 Ce so mo ho ⟨φ,ρ,μ,_,A,M,w,λd fM gy v1 H1 k1 f1 M1 i1=>L.nx _ fM gy _ H1 k1 f1 ((A.mono f1).set i1 i) M1⟩
def Xk (w:De):DI:=λρ μ K=>w ρ μ λd fM=>opt (lv fM d) λds=>K ds (lc d ds) fM
def Kl (h:∀ gg H' fI,Fr φ H gg H'->fU gg H' fI->c fI->∃ vs,H' p=some (.lst vs)/\fB gg H' ds vs):Wk (XA Kf p) φ H ds c:=λgg H' fI f M c' i=>by refine fj (h gg H' fI f M c') λvs hp ha=>?_;refine⟨λd hd=>?_,λhi=>⟨vs,oH.of hp,by rw[ha.len,hi];exact aq _⟩⟩;refine fj (ha.get hd) λv hv hi=>?_;refine⟨⟨vs,v,oH.of hp,hv⟩,λx Ao hy=>?_⟩;refine lQ hy λfV hy=>?_;subst fV;have e:=hy vs<|oH.of hp;rw[hv]at e;cases e;exact⟨.refl _ _,M,hi⟩
def ib (h:PD X a w):FN X tg a (Xk w):=(Lb h).imp λσ H Q h_=>gG h_ λφ ρ μ K A M k L=>by refine⟨φ,ρ,μ,_,A,M,k,λd fM gy v1 H1 k1 f1 M1 i1=>?_⟩;refine fj (gR k1) λds el k1=>?_;refine fZ (jA M1 i1 el) λp vs fV hp ha=>?_;subst fV;exact⟨p,rfl,⟨vs,oH.of hp⟩,L ds _ fM gy _ H1 k1 f1 M1<|Kl λgg H' fI f M c=>oU M1 i1 el f M c⟩
def m9 (lo:Int)(n:Nat):ak D:=(List.range n).map λi=>D.int (lo+(i:Nat))
def yJ {lo:Int}:Wk (Uk lo n) φ H (m9 lo n) λ_=>True:=λgg H' fI f M _ i=>by
 have hl:(m9 lo n).length=n:=by delta m9;rw[gQ,ur]
 refine⟨λd hd=>?_,λhi=>by rw[hl]at hi;exact Nat.le_of_eq hi.symm⟩;have hi:i<n:=by have:=(kP hd).1;lia
 refine⟨hi,λx Ao hy=>?_⟩;obtain⟨rfl,rfl⟩:=hy;refine⟨.refl _ _,M,?_⟩;unfold m9 at hd;rw[nX,bG hi]at hd;cases hd;rfl
def TL (w:DA):DI:=λρ μ K=>w ρ μ λds fM=>match ds with
 |[.int j]=> -(2 ^ 62)<=j/\j<2 ^ 62/\K (m9 0 j.toNat) (λ_=>True) fM
 |_=>False
def TK (w:DA):DI:=λρ μ K=>w ρ μ λds fM=>match ds with
 |[.int i,.int j]=>(-(2 ^ 62)<=i/\i<2 ^ 62 /\ -(2 ^ 62)<=j/\j<2 ^ 62)/\K (m9 i (j - i).toNat) (λ_=>True) fM
 |_=>False
def jS {w:DA}(hg:Gl X "range")(hm:X.mg "range"=none)(ha:uW X [a] w)(hs:starEach [a] X.env=[(false,eval a X.env)]:=by rfl):FN X tg (.Call (.Name "range" p) [a] [] pos) (TL w):=(ED hg hm ha hs).imp λσ H Q h_=>gG h_ λφ ρ μ K A M k L=>by
 refine⟨φ,ρ,μ,_,A,M,k,λds fM gy vs H1 k1 f1 M1 i1=>?_⟩;split at k1
 .refine fZ i1 λv r fV h1 h2=>?_;subst fV;subst h1;subst h2;exact⟨_,rfl,k1.1,k1.2.1,L _ _ fM gy _ H1 k1.2.2 f1 M1 yJ⟩
 .exact k1.elim
def qx {w:DA}(hg:Gl X "range")(hm:X.mg "range"=none)(ha:uW X [a,b] w)(hs:starEach [a,b] X.env=[(false,eval a X.env),(false,eval b X.env)]:=by rfl)(sj:starEach [b] X.env=[(false,eval b X.env)]:=by rfl):FN X tg (.Call (.Name "range" p) [a,b] [] pos) (TK w):=(EC hg hm ha hs sj).imp λσ H Q h_=>gG h_ λφ ρ μ K A M k L=>by
 refine⟨φ,ρ,μ,_,A,M,k,λds fM gy vs H1 k1 f1 M1 i1=>?_⟩;split at k1
 .obtain⟨v,r,rfl,h1,u,r',rfl,h2,h3⟩:=i1;subst h1;subst h2;subst h3;exact⟨_,_,rfl,k1.1,L _ _ fM gy _ H1 k1.2 f1 M1 yJ⟩
 .exact k1.elim
end
mutual
def ER (n:Nat):D->Prop
 |.lst ds=>sJ n ds
 |.tup ds=>sJ n ds
 |.jf _ ds=>sJ n ds
 |.mr k=>k<n
 |.obj _ _ ds=>sJ n ds
 |.qP _ ds=>sJ n ds
 |_=>True
def sJ (n:Nat):List D->Prop
 |[]=>True
 |d::ds=>ER n d/\sJ n ds
end
def xJ (n:Nat):MO->Prop
 |.box=>True
 |.lst ds=>sJ n ds
 |.jf _ ds=>sJ n ds
 |.uC _ _ ds=>sJ n ds
 |.ins _ _ ds=>sJ n ds
 |.lD _ ds=>sJ n ds
 |.gx ka _=>ka.length<=n
 |.exc _=>True
def Fr.MP (f:Fr ka H0 φ H)(h:ka.length<=n):Fr ka H0 (φ.take n) H:=by obtain⟨⟨ψ,rfl,E6⟩,k,d⟩:=f;exact⟨⟨ψ.take<|n - ka.length,by rw[List.take_append,bL h],λc hc=>E6 c<|aV hc⟩,k,d⟩
def Fr.VW (f:Fr ka H0 φ H)(h:ka.length<=j)(hp:φ[j]?=some p):H0 p=none:=by obtain⟨⟨ψ,rfl,E6⟩,k,d⟩:=f;rw[p8 h]at hp;exact E6 p (lC hp)
def Fr.RA (f:Fr ka H0 φ H)(h:ka.length<=n)(hp:H0 p=none):Fr ka H0 (φ.take n++[p]) H:=by obtain⟨⟨ψ,e,E6⟩,k,d⟩:=f.MP h;exact⟨⟨ψ++[p],by rw[e,cC],λc hc=>by rcases List.mem_append.mp hc with z|z;exact E6 c z;rwa [List.mem_singleton.mp z]⟩,k,d⟩
mutual
theorem iP.jv {n:Nat}{φ:List ai}{H:Hp}:∀ {d:D} {v:V},ER n d->iP φ H d v->iP (φ.take n) H d v
 |.gz,_,_,h=>h
 |.bl _,_,_,h=>h
 |.int _,_,_,h=>h
 |.str _,_,_,h=>h
 |.lst _,_,m,h=>by obtain⟨p,vs,e,nn,hp,q⟩:=h;exact⟨p,vs,e,λz=>nn<|aV z,hp,fB.jv m q⟩
 |.tup _,_,m,h=>by obtain⟨p,vs,e,nn,hp,q⟩:=h;exact⟨p,vs,e,λz=>nn<|aV z,hp,fB.jv m q⟩
 |.jf _ _,_,m,h=>by obtain⟨p,fw,vs,e,nn,hp,q1,q2,q⟩:=h;exact⟨p,fw,vs,e,λz=>nn<|aV z,hp,q1,q2,fB.jv m q⟩
 |.mr k,_,m,h=>by obtain⟨p,e,q⟩:=h;exact⟨p,by rw[bw m];exact e,q⟩
 |.obj _ _ _,_,m,h=>by obtain⟨p,dx,fs,vs,e,nn,hp,q1,q2,q⟩:=h;exact⟨p,dx,fs,vs,e,λz=>nn<|aV z,hp,q1,q2,fB.jv m q⟩
 |.qP _ _,_,m,h=>by obtain⟨p,dx,fs,vs,e,nn,hp,q1,q2,q⟩:=h;exact⟨p,dx,fs,vs,e,λz=>nn<|aV z,hp,q1,q2,fB.jv m q⟩
 |.fn _,_,_,h=>h
theorem fB.jv {n:Nat}{φ:List ai}{H:Hp}:∀ {ds:List D} {vs:List V},sJ n ds->fB φ H ds vs->fB (φ.take n) H ds vs
 |[],_,_,h=>h
 |_::_,_,m,h=>by obtain⟨v,r,e,h1,h2⟩:=h;exact⟨v,r,e,iP.jv m.1 h1,fB.jv m.2 h2⟩
end
theorem fU.jv (h:fU φ H μ)(hm:∀(k:Nat) (m:MO),k<n->μ[k]?=some m->xJ n m):fU (φ.take n) H (μ.take n):=by
 refine⟨h.nd.sublist<|List.take_sublist _ _,by rw[bx,bx,h.len],λk m e=>?_⟩;have hk:k<n:=by have:=(kP e).1;rw[bx]at this;lia
 rw[bw hk]at e;refine fj (h.at_ k m e) λp e1 e2=>?_;refine⟨p,by rwa [bw hk],?_⟩;have hb:=hm k m hk e;cases m with
 |box=>let ⟨q,ns,i,r,z,h1,h2,h3,h4⟩:=e2;exact⟨q,ns,i,r,z,h1,h2,λz=>h3<|aV z,h4⟩
 |lst ds=>let ⟨vs,h1,h2⟩:=e2;exact⟨vs,h1,h2.jv hb⟩
 |jf ks ds=>let ⟨fw,vs,h1,h2,h3,h4⟩:=e2;exact⟨fw,vs,h1,h2,h3,h4.jv hb⟩
 |uC o fw ds=>exact⟨e2.1,e2.2.jv hb⟩
 |ins C ns ds=>let ⟨dx,fs,h1,h2,h3⟩:=e2;exact⟨dx,fs,h1,h2,h3.jv hb⟩
 |lD ks ds=>let ⟨fw,h1,h2,h3⟩:=e2;exact⟨fw,h1,h2,h3.jv hb⟩
 |gx ka H0=>exact⟨e2.1.MP hb,e2.2⟩
 |exc c=>exact e2
mutual
theorem iP.bound {φ:List ai}{H:Hp}:∀ {d:D} {v:V},iP φ H d v->ER φ.length d
 |.gz,_,_=>True.intro
 |.bl _,_,_=>True.intro
 |.int _,_,_=>True.intro
 |.str _,_,_=>True.intro
 |.lst _,_,h=>by obtain⟨p,vs,e,nn,hp,q⟩:=h;exact fB.bound q
 |.tup _,_,h=>by obtain⟨p,vs,e,nn,hp,q⟩:=h;exact fB.bound q
 |.jf _ _,_,h=>by obtain⟨p,fw,vs,e,nn,hp,q1,q2,q⟩:=h;exact fB.bound q
 |.mr k,_,h=>by obtain⟨p,e,q⟩:=h;exact(kP e).1
 |.obj _ _ _,_,h=>by obtain⟨p,dx,fs,vs,e,nn,hp,q1,q2,q⟩:=h;exact fB.bound q
 |.qP _ _,_,h=>by obtain⟨p,dx,fs,vs,e,nn,hp,q1,q2,q⟩:=h;exact fB.bound q
 |.fn _,_,_=>True.intro
theorem fB.bound {φ:List ai}{H:Hp}:∀ {ds:List D} {vs:List V},fB φ H ds vs->sJ φ.length ds
 |[],_,_=>True.intro
 |_::_,_,h=>by obtain⟨v,r,e,h1,h2⟩:=h;exact⟨iP.bound h1,fB.bound h2⟩
end
theorem fU.bound (h:fU φ H μ):∀(k:Nat) (m:MO),μ[k]?=some m->xJ μ.length m:=λk m e=>by
 refine fj (h.at_ k m e) λp e1 e2=>?_;rw[<- h.len];cases m with
 |box=>exact True.intro
 |lst ds=>let ⟨vs,h1,h2⟩:=e2;exact h2.bound
 |jf ks ds=>let ⟨fw,vs,h1,h2,h3,h4⟩:=e2;exact h4.bound
 |uC o fw ds=>exact e2.2.bound
 |ins C ns ds=>let ⟨dx,fs,h1,h2,h3⟩:=e2;exact h3.bound
 |lD ks ds=>let ⟨fw,h1,h2,h3⟩:=e2;exact h3.bound
 |gx ka H0=>obtain⟨⟨ψ,e,_⟩,_⟩:=e2.1;show ka.length<=φ.length;rw[e,kO];lia
 |exc c=>exact True.intro
def kl {gg:ak ai}(hp:p∈gg)(h:q∉gg):q∉gg.take n++[p]:=λz=>by
 rcases List.mem_append.mp z with z|z
 .exact h (aV z)
 .exact h (by rwa [List.mem_singleton.mp z])
mutual
theorem iP.Xx {n:Nat}{gg:List ai}{H:Hp}{p:ai}(hp:p∈gg):∀ {d:D} {v:V},ER n d->iP gg H d v->iP (gg.take n++[p]) H d v
 |.gz,_,_,h=>h
 |.bl _,_,_,h=>h
 |.int _,_,_,h=>h
 |.str _,_,_,h=>h
 |.lst _,_,m,h=>by obtain⟨q,vs,e,nn,hq,z⟩:=h;exact⟨q,vs,e,kl hp nn,hq,fB.nR hp m z⟩
 |.tup _,_,m,h=>by obtain⟨q,vs,e,nn,hq,z⟩:=h;exact⟨q,vs,e,kl hp nn,hq,fB.nR hp m z⟩
 |.jf _ _,_,m,h=>by obtain⟨q,fw,vs,e,nn,hq,q1,q2,z⟩:=h;exact⟨q,fw,vs,e,kl hp nn,hq,q1,q2,fB.nR hp m z⟩
 | .mr k,_,m,h=>by
  obtain⟨q,e,z⟩:=h;have hk:k<(gg.take n).length:=by rw[bx];have:=(kP e).1;have m':k<n:=m;lia
  exact⟨q,by rw[vX hk,bw m];exact e,z⟩
 |.obj _ _ _,_,m,h=>by obtain⟨q,dx,fs,vs,e,nn,hq,q1,q2,z⟩:=h;exact⟨q,dx,fs,vs,e,kl hp nn,hq,q1,q2,fB.nR hp m z⟩
 |.qP _ _,_,m,h=>by obtain⟨q,dx,fs,vs,e,nn,hq,q1,q2,z⟩:=h;exact⟨q,dx,fs,vs,e,kl hp nn,hq,q1,q2,fB.nR hp m z⟩
 |.fn _,_,_,h=>h
theorem fB.nR {n:Nat}{gg:List ai}{H:Hp}{p:ai}(hp:p∈gg):∀ {ds:List D} {vs:List V},sJ n ds->fB gg H ds vs->fB (gg.take n++[p]) H ds vs
 |[],_,_,h=>h
 |_::_,_,m,h=>by obtain⟨v,r,e,h1,h2⟩:=h;exact⟨v,r,e,iP.Xx hp m.1 h1,fB.nR hp m.2 h2⟩
end
def uY (R:D->D->Prop)(ds es:ak D):Prop:=ds.length=es.length/\∀(i:Nat) (a b:D),ds[i]?=some a->es[i]?=some b->R a b
def Ap (n:Nat)(μ:MS):Nat->D->D->Prop
 |0,d,d'=>d'=d/\ER n d
 |k+1,d,d'=>(d'=d/\ER n d)\/(∃ j ds es,d=.mr j/\n<=j/\μ[j]?=some (.lst ds)/\d'=.lst es/\uY (Ap n μ k) ds es)\/(∃ ds es,d=.lst ds/\d'=.lst es/\uY (Ap n μ k) ds es)\/(∃ ds es,d=.tup ds/\d'=.tup es/\uY (Ap n μ k) ds es)\/(∃ j ks ds es,d=.mr j/\n<=j/\μ[j]?=some (.jf ks ds)/\d'=.jf ks es/\uY (Ap n μ k) ds es)
theorem fB.Hr:∀ {ds:ak D} {vs:ak V},ds.length=vs.length->(∀(i:Nat) (d:D) (v:V),ds[i]?=some d->vs[i]?=some v->iP φ H d v)->fB φ H ds vs
 | [],vs,hl,_=>by cases vs with
  |nil=>rfl
  |cons v r=>contradiction
 | d::ds,vs,hl,h=>by cases vs with
  |nil=>cases hl
  |cons v r=>exact⟨v,r,rfl,h 0 d v rfl rfl,fB.Hr (by simpa using hl) λi a b e1 e2=>h (i+1) a b (by simpa using e1)<|by simpa using e2⟩
def Ap.is (M:fU φ H μ)(CK:∀ {j:Nat} {p:ai},n<=j->φ[j]?=some p->p∉φ.take n):∀ {k:Nat} {d d':D} {v:V},Ap n μ k d d'->iP φ H d v->iP (φ.take n) H d' v:=by
 intro k;induction k with
 |zero=>intro d d' v h i;obtain⟨rfl,hb⟩:=h;exact i.jv hb
 | succ k ih =>
  have all:∀ {ds es:ak D} {vs:ak V},uY (Ap n μ k) ds es->fB φ H ds vs->fB (φ.take n) H es vs:=λ{ds es vs} ha hd =>fB.Hr (by rw[hd.len,ha.1]) λi b v e1 e2=>by refine fj (hd.zL e2) λa e3 hv=>?_;exact ih (ha.2 i a b e3 e1) hv
  intro d d' v h i;rcases h with⟨rfl,hb⟩|⟨j,ds,es,rfl,hj,e,rfl,ha⟩|⟨ds,es,rfl,rfl,ha⟩|⟨ds,es,rfl,rfl,ha⟩|⟨j,ks,ds,es,rfl,hj,e,rfl,ha⟩
  .exact i.jv hb
  .obtain⟨p,hp,rfl⟩:=i;obtain⟨p',e1,vs,hv,hd⟩:=M.at_ j _ e;rw[hp]at e1;cases e1;exact⟨p,vs,rfl,CK hj hp,hv,all ha hd⟩
  .refine lP i λp vs fV hn hp hd=>?_;subst fV;exact⟨p,vs,rfl,λz=>hn<|aV z,hp,all ha hd⟩
  .refine lP i λp vs fV hn hp hd=>?_;subst fV;exact⟨p,vs,rfl,λz=>hn<|aV z,hp,all ha hd⟩
  .obtain⟨p,hp,rfl⟩:=i;obtain⟨p',e1,fw,vs,hv,h1,h2,hd⟩:=M.at_ j _ e;rw[hp]at e1;cases e1;exact⟨p,fw,vs,rfl,CK hj hp,hv,h1,h2,all ha hd⟩
def yw (n:Nat)(μ:MS):Nat->D->D->Prop
 |0,d,d'=>d'=d/\ER n d
 |k+1,d,d'=>(d'=d/\ER n d)\/(∃ j ds es,d=.mr j/\n<=j/\μ[j]?=some (.lst ds)/\d'=.lst es/\uY (yw n μ k) ds es)\/(∃ ds es,d=.lst ds/\d'=.lst es/\uY (yw n μ k) ds es)\/(∃ ds es,d=.tup ds/\d'=.tup es/\uY (yw n μ k) ds es)\/(∃ j o fw ds es,d=.mr j/\n<=j/\μ[j]?=some (.uC o fw ds)/\d'=.qP (fw.map (·.1)) es/\uY (yw n μ k) ds es)\/(∃ j C ns ds es,d=.mr j/\n<=j/\μ[j]?=some (.ins C ns ds)/\d'=.obj C ns es/\uY (yw n μ k) ds es)
def yw.is (M:fU φ H μ)(CK:∀ {j:Nat} {p:ai},n<=j->φ[j]?=some p->p∉φ.take n):∀ {k:Nat} {d d':D} {v:V},yw n μ k d d'->iP φ H d v->iP (φ.take n) H d' v:=by
 intro k;induction k with
 |zero=>intro d d' v h i;obtain⟨rfl,hb⟩:=h;exact i.jv hb
 | succ k ih =>
  have all:∀ {ds es:ak D} {vs:ak V},uY (yw n μ k) ds es->fB φ H ds vs->fB (φ.take n) H es vs:=λ{ds es vs} ha hd =>fB.Hr (by rw[hd.len,ha.1]) λi b v e1 e2=>by refine fj (hd.zL e2) λa e3 hv=>?_;exact ih (ha.2 i a b e3 e1) hv
  intro d d' v h i;rcases h with⟨rfl,hb⟩|⟨j,ds,es,rfl,hj,e,rfl,ha⟩|⟨ds,es,rfl,rfl,ha⟩|⟨ds,es,rfl,rfl,ha⟩|⟨j,o,fw,ds,es,rfl,hj,e,rfl,ha⟩|⟨j,C,ns,ds,es,rfl,hj,e,rfl,ha⟩
  .exact i.jv hb
  .obtain⟨p,hp,rfl⟩:=i;obtain⟨p',e1,vs,hv,hd⟩:=M.at_ j _ e;rw[hp]at e1;cases e1;exact⟨p,vs,rfl,CK hj hp,hv,all ha hd⟩
  .refine lP i λp vs fV hn hp hd=>?_;subst fV;exact⟨p,vs,rfl,λz=>hn<|aV z,hp,all ha hd⟩
  .refine lP i λp vs fV hn hp hd=>?_;subst fV;exact⟨p,vs,rfl,λz=>hn<|aV z,hp,all ha hd⟩
  .refine fj i λp hp fV=>?_;subst fV;refine jB (M.at_ j _ e) λp' e1 hv hd=>?_;rw[hp]at e1;cases e1;exact⟨p,o,fw,_,rfl,CK hj hp,hv,rfl,rfl,all ha hd⟩
  .refine fj i λp hp fV=>?_;subst fV;obtain⟨p',e1,dx,fs,hv,h1,hd⟩:=M.at_ j _ e;rw[hp]at e1;cases e1;exact⟨p,dx,fs,_,rfl,CK hj hp,hv,h1,rfl,all ha hd⟩
inductive Fz (n:Nat)(K:DK):DK where
 |keep {d μ} (k:K d μ):Fz n K d μ
 |drop {d μ} (hd:ER n d) (hm:∀(j:Nat) (m:MO),j<n->μ[j]?=some m->xJ n m) (k:K d (μ.take n)):Fz n K d μ
 |lst {j ds μ} (hj:n<=j) (e:μ[j]?=some (.lst ds)) (hd:sJ n ds) (hm:∀(j:Nat) (m:MO),j<n->μ[j]?=some m->xJ n m) (k:K (.lst ds) (μ.take n)):Fz n K (.mr j) μ
 |one {j ds μ} (hj:n<=j) (e:μ[j]?=some (.lst ds)) (hd:sJ n ds) (hm:∀(j:Nat) (m:MO),j<n->μ[j]?=some m->xJ n m) (k:K (.mr n) (μ.take n++[.lst ds])):Fz n K (.mr j) μ
 |deep {f d d' μ} (e:Ap n μ f d d') (hm:∀(j:Nat) (m:MO),j<n->μ[j]?=some m->xJ n m) (k:K d' (μ.take n)):Fz n K d μ
 |jf {j ks ds μ} (hj:n<=j) (e:μ[j]?=some (.jf ks ds)) (hd:sJ n ds) (hm:∀(j:Nat) (m:MO),j<n->μ[j]?=some m->xJ n m) (k:K (.jf ks ds) (μ.take n)):Fz n K (.mr j) μ
 |obj {j C ns ds μ} (hj:n<=j) (e:μ[j]?=some (.ins C ns ds)) (hd:sJ n ds) (hm:∀(j:Nat) (m:MO),j<n->μ[j]?=some m->xJ n m) (k:K (.obj C ns ds) (μ.take n)):Fz n K (.mr j) μ
 |qP {j o fw ds μ} (hj:n<=j) (e:μ[j]?=some (.uC o fw ds)) (hd:sJ n ds) (hm:∀(j:Nat) (m:MO),j<n->μ[j]?=some m->xJ n m) (k:K (.qP (fw.map (·.1)) ds) (μ.take n)):Fz n K (.mr j) μ
 |Ts {f d d' μ} (e:yw n μ f d d') (hm:∀(j:Nat) (m:MO),j<n->μ[j]?=some m->xJ n m) (k:K d' (μ.take n)):Fz n K d μ
def qM.fz {K:DK}(M:fU φ H μ)(L:qM φ H K Q):qM φ H (Fz μ.length K) Q:=λd fI gg v H' k f M' i=>by
 have DJ:gg.take μ.length=φ:=by obtain⟨⟨ψ,rfl,_⟩,_,_⟩:=f;rw[<- M.len,cx]
 have f0:Fr φ H (gg.take μ.length) H':=by rw[DJ];exact⟨⟨[],by simp,λ_ h=>nomatch h⟩,f.keep,f.U3⟩
 have CK:∀ {j:Nat} {p:ai},μ.length<=j->gg[j]?=some p->p∉gg.take μ.length:=λ{j p} hj e hp=>by obtain⟨i,hi,ei⟩:=aN hp;rw[bx]at hi;rw[List.getElem_take]at ei;obtain⟨CZ,ej⟩:=kP e;exact List.pairwise_iff_getElem.mp M'.nd i j (by lia) CZ (by lia) (ei.trans ej.symm)
 cases k with
 |keep k=>exact L d fI gg v H' k f M' i
 |drop hd hm k=>exact L d _ _ v H' k f0 (M'.jv hm) (i.jv hd)
 | @lst j ds _ hj e hd hm k =>refine fj i λp hp fV=>?_;subst fV;obtain⟨p',e1,vs,hv,ha⟩:=M'.at_ j _ e;rw[hp]at e1;cases e1;exact L _ _ _ _ H' k f0 (M'.jv hm) ⟨p,vs,rfl,CK hj hp,hv,ha.jv hd⟩
 | @one j ds _ hj e hd hm k =>
  refine fj i λp hp fV=>?_;subst fV;obtain⟨p',e1,vs,hv,ha⟩:=M'.at_ j _ e;rw[hp]at e1;cases e1;have M0:=M'.jv hm;have Yo:p∉φ:=by have:=CK hj hp;rwa [DJ]at this
  have hH:H p=none:=by
   obtain⟨⟨ψ,rfl,E6⟩,_,_⟩:=f;refine E6 p ?_;have q:=lC hp;rcases List.mem_append.mp q with q|q
   .exact absurd q Yo
   .exact q
  have M1:=M0;rw[DJ]at M1;have f1:Fr φ H (φ++[p]) H':=⟨⟨[p],rfl,λc hc=>by rw[List.mem_singleton.mp hc];exact hH⟩,f.keep,f.U3⟩;have len:(fI.take μ.length).length=μ.length:=by rw[<- M1.len,M.len]
  have pin:p∈gg:=lC hp;have WD:fB (φ++[p]) H' ds vs:=by have q:=fB.nR pin hd ha;rwa [DJ]at q
  have M2:fU (φ++[p]) H' (fI.take μ.length++[.lst ds]):=by
   refine⟨?_,by rw[kO,kO,M1.len];rfl,λk m ek=>?_⟩
   .rw[eE];exact⟨M.nd,by simp,λa ha b hb=>by rw[List.mem_singleton.mp hb];intro z;exact Yo (by rw[<- z];exact ha)⟩
   .by_cases hk:k<μ.length
    .rw[vX (by rw[len];exact hk)]at ek;rw[bw hk]at ek;refine fj (M'.at_ k m ek) λq e1 e2=>?_;have e1':φ[k]?=some q:=by rw[<- DJ,bw hk];exact e1
     refine⟨q,by rw[vX (by rw[M.len];exact hk)];exact e1',?_⟩;have hb:=hm k m hk ek;cases m with
     | box =>refine W8 e2 λb ns i r z h1 h2 h3 h4=>?_;exact⟨b,ns,i,r,z,h1,h2,by have:=kl (n:=μ.length) pin h3;rwa [DJ]at this,h4⟩
     |lst es=>obtain⟨us,h1,h2⟩:=e2;exact⟨us,h1,by have:=fB.nR pin hb h2;rwa [DJ]at this⟩
     |jf ks es=>obtain⟨fw,us,h1,h2,h3,h4⟩:=e2;exact⟨fw,us,h1,h2,h3,by have:=fB.nR pin hb h4;rwa [DJ]at this⟩
     |uC o fw es=>exact⟨e2.1,by have:=fB.nR pin hb e2.2;rwa [DJ]at this⟩
     |ins C ns es=>obtain⟨dx,fs,h1,h2,h3⟩:=e2;exact⟨dx,fs,h1,h2,by have:=fB.nR pin hb h3;rwa [DJ]at this⟩
     |lD ks es=>obtain⟨fw,h1,h2,h3⟩:=e2;exact⟨fw,h1,h2,by have:=fB.nR pin hb h3;rwa [DJ]at this⟩
     |gx ka H0=>exact⟨by have:=e2.1.RA (n:=μ.length) hb (p:=p)<|e2.1.VW (aK hb hj) hp;rwa [DJ]at this,e2.2⟩
     |exc c=>exact e2
    .have zG:k=μ.length:=by have:=(kP ek).1;rw[kO,bC,len]at this;lia
     subst zG
     rw[p8 (by rw[len];exact aq _),len,a6]at ek
     cases ek
     exact⟨p,by rw[p8 (by rw[M.len];exact aq _),M.len,a6];rfl,vs,hv,WD⟩
  exact L _ _ _ _ H' k f1 M2 ⟨p,by rw[p8 (by rw[M.len];exact aq _),M.len,a6];rfl,rfl⟩
 |@deep f' d d' _ e hm k=>exact L _ _ _ _ H' k f0 (M'.jv hm) (e.is M' CK i)
 | @jf j ks ds _ hj e hd hm k =>obtain⟨p,hp,rfl⟩:=i;obtain⟨p',e1,fw,vs,hv,h1,h2,ha⟩:=M'.at_ j _ e;rw[hp]at e1;cases e1;exact L _ _ _ _ H' k f0 (M'.jv hm) ⟨p,fw,vs,rfl,CK hj hp,hv,h1,h2,ha.jv hd⟩
 | @obj j C ns ds _ hj e hd hm k =>refine fj i λp hp fV=>?_;subst fV;obtain⟨p',e1,dx,fs,h1,h2,h3⟩:=M'.at_ j _ e;rw[hp]at e1;cases e1;exact L _ _ _ _ H' k f0 (M'.jv hm) ⟨p,dx,fs,_,rfl,CK hj hp,h1,h2,rfl,h3.jv hd⟩
 | @qP j o fw ds _ hj e hd hm k =>refine fj i λp hp fV=>?_;subst fV;obtain⟨p',e1,h1,h3⟩:=M'.at_ j _ e;rw[hp]at e1;cases e1;exact L _ _ _ _ H' k f0 (M'.jv hm) ⟨p,o,fw,_,rfl,CK hj hp,h1,rfl,rfl,h3.jv hd⟩
 |@Ts f' d d' _ e hm k=>exact L _ _ _ _ H' k f0 (M'.jv hm) (e.is M' CK i)
def AW (n:Nat)(K:DK):DN:={ nx:=λ_ fI=>Fz n K .gz fI,rt:=λd fI=>Fz n K d fI}
def oh (N:ak Str)(ds:ak D):DE:=ds.map some++List.replicate (N.length - ds.length) none
theorem jZ.start {φ:ak ai}{H:Hp}{N:ak Str}{ds:ak D}{vs:ak V}(h:fB φ H ds vs):jZ φ H (oh N ds) (start N vs):=by
 have hl:=h.len;delta oh L2.start;refine⟨by simp[hl],λi d e=>?_⟩;by_cases hi:i<ds.length
 .rw[vX (by rw[gQ];exact hi),nX]at e;have e':ds[i]?=some d:=by
   cases q:ds[i]? with
   |none=>rw[q]at e;cases e
   |some z=>rw[q]at e;cases e;rfl
  refine fj (h.get e') λv hv hd=>?_;exact⟨v,by rw[vX (by rw[gQ];lia),nX,hv];rfl,hd⟩
 .rw[p8 (by rw[gQ];lia)]at e;have:=lC e;have:=List.eq_of_mem_replicate this;cases this
section
variable {P:ae}{w:af}{K:aa}{mg:Str->ao aj}{fg:Heap}
def j7.O4 {x qual:Str}{st:Stmt}{f:ai}{fd:ag}{N ps:ak Str}{k:Nat}{fs:lp}(F:j7 K x qual st f fd)(S:fN N ps (fo st))(len:∀ ds μ Kd,fs ds μ Kd->ds.length=ps.length)
 (uq:∀(jL:aj) (A:Around) (fC:ak Env) (s:ah) (H:Hp) (E:XK),iw k (A.deeper<|envOfC qual (fo st) s.heap.objs.size f jL) ->
   ∃ W,Ed (ph j4 P w K mg fg N qual (fo st) f jL A fC s H E).O5 (iM st) W/\∀ ds μ Kd,(∀(j:Nat) (m:MO),μ[j]?=some m->xJ μ.length m)->sJ μ.length ds->fs ds μ Kd->W (AW μ.length Kd) (oh N ds) μ):gA P w K mg fg j4 (k+1) f fd ps (iD fs):=by
 refine F.ok S (λvs H Q E h=>?_) (λjL A fC s H vs Q E hr h=>?_)
 .refine gG h λφ ds μ Kd ha M hf L=>?_;rw[ha.len];exact len ds μ Kd hf
 .refine gG h λφ ds μ Kd ha M hf L=>?_;refine fj (uq jL A fC s H E hr) λW hW q=>?_;exact⟨_,hW,φ,oh N ds,μ,AW μ.length Kd,.start ha,M,q ds μ Kd M.bound (M.len▸ha.bound) hf,⟨λj5 fI gg iB H' k' f' A' M'=>L.fz M .gz fI gg .gz H' k' f' M' rfl,L.fz M,λ_ _ _ _ _ k' _ _ _=>k'.elim,λ_ _ _ _ _ k' _ _ _=>k'.elim⟩⟩
end
def AD:typeLookup (.type "zip") "__len__"=pure none:=by kernel_rfl
def yG:typeLookup (.type "zip") "__length_hint__"=pure none:=by kernel_rfl
def My (z TI TO i1 i2 l1 l2:ai)(i:Nat)(xs ys:Array aj)(h:Heap):Prop:=ZZ false z TI TO i1 i2 l1 l2 i h/\ju false h l1 xs/\ju false h l2 ys
section
variable {P:ae}{w:af}{A:Around}{s:ah}{E:aj->ah->Prop}{z TI TO i1 i2 l1 l2:ai}{i:Nat}{xs ys:Array aj}{x y:aj}{Q:ao aj->ah->Prop}
def My.next (Z:My z TI TO i1 i2 l1 l2 i xs ys s.heap)(D:ZipApart z TI TO i1 i2 l1 l2)(hx:xs[i]?=some x)(hy:ys[i]?=some y)
 (hQ:∀ h',My z TI TO i1 i2 l1 l2 (i+1) xs ys h'->IsPair h' s.heap.objs.size x y->ZK z TO i1 i2 s.heap h'->Q (some<|.ref s.heap.objs.size) {s with heap:=h'}):wpAny (model P w) A (pyNext<|.ref z) Q E s:=
 Tp Z.1 λ_ _ _ _ hz _=>wI hz (B4 D Z.1 Z.2.1 Z.2.2 hx hy λh' a b c d _ e=>hQ h' ⟨a,b,c⟩ d e)
def My.over (hh:A.handled=none)(Z:My z TI TO i1 i2 l1 l2 i xs ys s.heap)(D:ZipApart z TI TO i1 i2 l1 l2)(hx:xs[i]?=none\/ys[i]?=none)
 (hQ:∀ h',ZK z TO i1 i2 s.heap h'->Q none {s with heap:=h'}):wpAny (model P w) A (pyNext<|.ref z) Q E s:=
 Tp Z.1 λ_ _ _ _ hz _=>wI hz (B5 hh D Z.1 Z.2.1 Z.2.2 hx λh' e hk h_=>kA h_ λo he=>⟨⟨o,e,rfl,he⟩,hQ h' hk⟩)
def My.but {S:ai}{h h':Heap}(Z:My z TI TO i1 i2 l1 l2 i xs ys h)(e:Heap.ExtBut S h h')(n:S∉[z,TI,TO,i1,i2,l1,l2]):My z TI TO i1 i2 l1 l2 i xs ys h' :=
 ⟨Z.1.keep λb hb o q=>e b o (λr=>n (by simp only[aT,aM,bY]at hb ⊢;lia)) q,Z.2.1.extBut e λr=>n<|by simp[r],Z.2.2.extBut e λr=>n<|by simp[r]⟩
end
section
variable {X:Cx}{fb:ak (ai×Obj)}{σ:St}
def sE (H:Hp)(xs ys:ak V)(us:ak V):Prop:=∀(i:Nat) (u:V),us[i]?=some u->∃ T x y,u=V.ref T/\H T=some (.tup [x,y])/\xs[i]?=some x/\ys[i]?=some y
def sE.same {H H':Hp}{xs ys us:ak V}(h:sE H xs ys us)(s:gW H H'):sE H' xs ys us:=λi u e=>let ⟨T,x,y,a,b,c⟩:=h i u e;⟨T,x,y,a,s _ _ b,c⟩
def FW {A:Around}{R:Result->ah->Prop}{z TI TO i1 i2 l1 l2 S:ai}{H0:Hp}{xs ys:ak V}{xv yv:ak aj}{res:aj}(hh:A.handled=none)(D:ZipApart z TI TO i1 i2 l1 l2)(rx:fT xs xv)(ry:fT ys yv)(hz1:xs.length<=sizeLine)
 (nS:S∉[z,TI,TO,i1,i2,l1,l2])
 (hR:∀ s' H' us fE c,Inv X fb σ H' s'->gW H0 H'->H' S=none->s'.heap.get? S=some (lobj fE c)->fT us fE->us.length=min xs.length ys.length->sE H' xs ys us->R (.ok<|.ret res) s'):
 ∀(k i:Nat) (s:ah) (H:Hp) (us:ak V) (fE:ak aj) (c:Nat),min xs.length ys.length - i=k->i<=min xs.length ys.length->us.length=i->Inv X fb σ H s->gW H0 H->(∀ b∈[z,TO,i1,i2,S],jH X fb H b)->s.heap.get? S=some (lobj fE c)->fT us fE->sE H xs ys us ->
  My z TI TO i1 i2 l1 l2 i xv.toArray yv.toArray s.heap->codeAny (model X.prog X.w) A (.builtin "list.extend.loop" ⟨[.ref S,.ref z,res],[]⟩) R s:=by
 have lx:=rx.length
 have ly:=ry.length
 have Np:S≠z/\S≠TO/\S≠i1/\S≠i2:=by simp only[aT,aM,bY,not_or]at nS;exact⟨nS.1,nS.2.2.1,nS.2.2.2.1,nS.2.2.2.2.1⟩
 have zk:∀ {h h':Heap},ZK z TO i1 i2 h h'->∀ b o,b∉[z,TO,i1,i2]->h.get? b=some o->h'.get? b=some o:=λkk b o hb e=>kk b o (λq=>hb<|by simp[q]) (λq=>hb<|by simp[q]) (λq=>hb<|by simp[q]) (λq=>hb<|by simp[q]) e
 have sub:∀ b∈[z,TO,i1,i2],b∈[z,TO,i1,i2,S]:=λb hb=>by
  simp only[aT,aM,bY]at hb ⊢
  rcases hb with q|q|q|q<;>simp[q]
 have YM:S∉[z,TO,i1,i2]:=by simp only[aT,aM,bY,not_or];exact⟨Np.1,Np.2.1,Np.2.2.1,Np.2.2.2⟩
 intro k
 induction k with
 | zero =>
  intro i s H us fE c hk hi hu I hS fp gS rv pr Z;have ei:i=min xs.length ys.length:=by lia
  refine cW F.entry_extend_loop ?_;rw[c3 dF _];show wpAny _ A.in1 (pyNext (.ref z)>>=_) _ _ s;refine fH (Z.over (A:=A.in1) hh D (by simp;lia) λh' kk=>?_);have I':=I.yQ (ch:=[z,TO,i1,i2]) (λb hb=>fp b<|sub b hb)<|zk kk;exact av (hR _ H us fE c I' hS (fp S<|by simp).1 (zk kk _ _ YM gS) rv (hu.trans ei) pr)
 | succ k ih =>
  intro i s H us fE c hk hi hu I hS fp gS rv pr Z;have ky:i<min xs.length ys.length:=by lia
  obtain⟨x,ex⟩:∃ x,xs[i]?=some x:=⟨xs[i]'(by lia),iT _⟩;obtain⟨y,ey⟩:∃ y,ys[i]?=some y:=⟨ys[i]'(by lia),iT _⟩;refine fj (rx.get ex) λu eu ru=>?_;refine fj (ry.get ey) λv ev rv'=>?_;have lu:=rv.length;refine cW F.entry_extend_loop ?_;rw[c3 dF _];show wpAny _ A.in1 (pyNext (.ref z)>>=_) _ _ s;refine fH (Z.next (A:=A.in1) D (by simpa using eu) (by simpa using ev) λh' Z' hT kk=>?_);have I':=I.yP (ch:=[z,TO,i1,i2]) (λb hb=>fp b<|sub b hb) (zk kk) hT ru rv';have hn:H s.heap.objs.size=none:=I.gT.fresh<|aq _;have S1:gW H (upd H s.heap.objs.size<|.tup [x,y]):=gW.upd hn;have neT:∀ b∈[z,TO,i1,i2,S],b≠s.heap.objs.size:=λb hb q=>by
   have nl:S<s.heap.objs.size:=iO gS;refine x6 Z.1 λ_ _ _ _ z1 _ _ z2 z3 z4=>?_;obtain⟨_,z3⟩:=z3.ex;obtain⟨_,z4⟩:=z4.ex;have nz:z<s.heap.objs.size:=iO z1;have n1:i1<s.heap.objs.size:=iO z3;have n2:i2<s.heap.objs.size:=iO z4;have n3:TO<s.heap.objs.size:=iO z2;simp only[aT,aM,bY]at hb;rcases hb with e|e|e|e|e
   .exact aw nz (e.symm.trans q)
   .exact aw n3 (e.symm.trans q)
   .exact aw n1 (e.symm.trans q)
   .exact aw n2 (e.symm.trans q)
   .exact aw nl (e.symm.trans q)
  have SV:=zk kk _ _ YM gS;have YC:∀ b∈[z,TO,i1,i2,S],jH X fb (upd H s.heap.objs.size<|.tup [x,y]) b:=λb hb=>⟨by rw[fS (neT b hb)];exact(fp b hb).1,(fp b hb).2⟩;show wpAny _ A.in1 (updateSeq S (·.push (Value.ref s.heap.objs.size))>>=_) _ _ _;refine fH (cU SV rfl (av ⟨c4 dF _,?_⟩) (by rw[au];lia) (by show(fE.toArray.push _).size<=sizeLine+1;rw[Array.size_push,au];lia));have but:Heap.ExtBut S h' (h'.update S (Obj.mapSeq (·.push (Value.ref s.heap.objs.size)))):=λb o hb e=>(aF _ _<|bJ hb).trans e;have gS2:=bE (Obj.mapSeq (·.push (Value.ref s.heap.objs.size))) SV rfl;have I2:=I'.yQ (ch:=[S]) (h'':=h'.update S (Obj.mapSeq (·.push (Value.ref s.heap.objs.size)))) (λb hb=>by rw[List.mem_singleton.mp hb];exact YC S<|by simp) λb o hb e=>but b o (λq=>hb<|by simp[q]) e;have e2:fE.toArray.push (Value.ref s.heap.objs.size)=(fE++[Value.ref s.heap.objs.size]).toArray:=by simp
  obtain⟨c',gS3⟩:∃ c',(h'.update S (Obj.mapSeq (·.push (Value.ref s.heap.objs.size)))).get? S=some (lobj (fE++[Value.ref s.heap.objs.size]) c'):=by have q:=PySem.IsL.update SV (·.push (Value.ref s.heap.objs.size));rw[e2]at q;exact⟨_,q⟩
  refine ih (i+1) _ _ (us++[.ref s.heap.objs.size]) _ c' (by lia) ky (by rw[kO,bC,hu]) I2 (hS.trans S1) YC gS3 (rv.append<|.cons (show fW (V.ref s.heap.objs.size) _ from rfl) .nil) ?_ (Z'.but but nS)
  .intro j u' ej;by_cases hj:j<us.length
   .rw[vX hj]at ej;exact pr.same S1 j u' ej
   .rw[p8 (by lia)]at ej;have hj0:j - us.length=0:=by have:=(kP ej).1;rw[bC]at this;lia
    rw[hj0]at ej;cases ej;have:j=i:=by lia
    subst this;exact⟨_,x,y,rfl,fF,ex,ey⟩
def HB {H:Hp}{s:ah}{a b:ai}{xs ys:ak V}{Q:VK}(I:Inv X fb σ H s)(gN:X.gN=true)(ha:H a=some (.lst xs))(hb:H b=some (.lst ys))
 (hQ:∀ l us H',H l=none->gW H H'->H' l=some (.lst us)->us.length=min xs.length ys.length->sE H' xs ys us->Q (.ref l) H'):
 wpAny (model X.prog X.w) X.A (call (.type "zip") [.ref a,.ref b]) (λv s1=>wpAny (model X.prog X.w) X.A (call (.type "list") [v]) (EP X fb σ Q) X.xe s1) X.xe s:=by
 obtain⟨z1,xv,n1,rx,lx,ea⟩:=I.k7 ha;obtain⟨z2,yv,n2,ry,ly,eb⟩:=I.k7 hb;have p1:ju false s.heap a xv.toArray:=⟨_,ea,rfl,n1,rfl⟩;have p2:ju false s.heap b yv.toArray:=⟨_,eb,rfl,n2,rfl⟩;have la:(a:Nat)<s.heap.objs.size:=iO ea;have lb:(b:Nat)<s.heap.objs.size:=iO eb;refine tK p1 p2 λh' hz Dh Dg i1 i2 kp=>?_;have I1:Inv X fb σ H {s with heap:=h'}:=I.iC (t':=s.toks) kp;have D:ZipApart (s.heap.objs.size+4) (s.heap.objs.size+2) (s.heap.objs.size+3) s.heap.objs.size (s.heap.objs.size+1) a b:=zipApart_new la lb;refine callType_codes (Q₁:=λobj s₁=>obj=.ref h'.objs.size/\s₁={s with heap:=h'.push { cls:=.type "list",data:=.seq #[]}}) F.called_list (F.typeCall_list_1 _) F.entry_list_init (code_list_new _ ⟨rfl,rfl⟩) λobj s₁ h₁=>?_;obtain⟨rfl,rfl⟩:=h₁;have hS:(h'.push { cls:=.type "list",data:=.seq #[]}).get? h'.objs.size=some (lobj [] 0):=aD _ rfl;refine⟨⟨_,hS,rfl⟩,F.args_list_init_2 _ _,?_⟩;have I2:Inv X fb σ H {s with heap:=h'.push { cls:=.type "list",data:=.seq #[]}}:=I1.iC (t':=s.toks) λ_ _ e=>jx _ e;have sz:s.heap.objs.size+4<h'.objs.size:=iO hz;have YB:∀ c,s.heap.objs.size<=c->jH X fb H c:=λc hc=>I.zN hc<|I.gT.fresh hc;refine fH ?_;delta Builtin.List.listItems;refine fH<|bP hS rfl (av ?_);show wpAny _ X.A.in1.in1 (updateSeq h'.objs.size (λ_=>#[])>>=λ_=>letGo (#[]:Array aj).toList.reverse>>=λ_=>Builtin.List.listExtendWith (.ref h'.objs.size) (.ref<|s.heap.objs.size+4) .none) _ _ _;refine fH<|cU hS rfl ?_;refine fH<|c0 ?_;have fill:∀(g:Heap) (tk c:Nat),(∀ d o,d≠h'.objs.size->(h'.push { cls:=.type "list",data:=.seq #[]}).get? d=some o->g.get? d=some o)->g.get? h'.objs.size=some (lobj [] c) ->
  codeAny (model X.prog X.w) X.A.in1 (.builtin "list.extend.loop" ⟨[.ref h'.objs.size,.ref (s.heap.objs.size+4),.none],[]⟩) (wants (λr s₂=>r=.none/\EP X fb σ Q (.ref h'.objs.size) s₂) X.xe) {s with heap:=g,toks:=tk}:=λg tk c kg gS=>by
  have Nt:∀ d o,h'.get? d=some o->g.get? d=some o:=λd o e=>kg d o (aw<|iO e)<|jx _ e;have I3:Inv X fb σ H {s with heap:=g,toks:=tk}:=I1.iC (t':=tk) Nt;have nS:h'.objs.size∉[s.heap.objs.size+4,s.heap.objs.size+2,s.heap.objs.size+3,s.heap.objs.size,s.heap.objs.size+1,a,b]:=by simp only[aT,aM,bY,not_or];have sz':(s.heap.objs.size:Nat)+4<h'.objs.size:=sz;refine⟨?_,?_,?_,?_,?_,ba<|ck la<|by lia,ba<|ck lb<|by lia⟩<;> (intro q;lia)
  refine FW (A:=X.A.in1) (I.ok.hd gN) D rx ry z1 nS (H0:=H) ?_ _ 0 _ H [] [] c rfl (aS _) rfl I3 (gW.refl _) ?_ gS .nil (λi u e=>by simp at e) ⟨⟨_,_,_,_,Nt _ _ hz,.inl rfl,Nt _ _ Dh,Nt _ _ Dg,i1.at λ_ e=>Nt _ _ e,i2.at λ_ e=>Nt _ _ e⟩,⟨_,Nt _ _<|kp _ _ ea,rfl,n1,rfl⟩,⟨_,Nt _ _<|kp _ _ eb,rfl,n2,rfl⟩⟩
  .intro s' H' us fE c' I' S' Np SV rv lu pr;refine⟨rfl,?_⟩;have Wy:=YB h'.objs.size (by lia);have I4:=I'.adopt (ys:=us) Np Wy.2.1 (by have:=I.sz;lia) Wy.2.2.2.2.1 Wy.2.2.2.2.2 SV rv (by lia);exact⟨.ref h'.objs.size,_,I4,rfl,hQ _ us _ (I.gT.fresh<|by lia) (S'.trans<|gW.upd Np) fF lu<|pr.same<|gW.upd Np⟩
  .intro d hd;simp only[aT,aM,bY]at hd;refine YB d ?_;rcases hd with e|e|e|e|e<;>subst e<;>lia
 have hS₂:=bE (Obj.mapSeq λ_=>(#[]:Array aj)) hS rfl;have X9:∀(d:ai) (o:Obj),d≠h'.objs.size->(h'.push { cls:=.type "list",data:=.seq #[]}).get? d=some o->((h'.push { cls:=.type "list",data:=.seq #[]}).update h'.objs.size<|Obj.mapSeq λ_=>(#[]:Array aj)).get? d=some o :=
  λd o hd e=>(aF _ _<|bJ hd).trans e
 have J7:=X9 _ _ (aw sz)<|jx { cls:=.type "list",data:=.seq #[]} hz;have Vf:Shared.TypeIs {s with heap:=(h'.push { cls:=.type "list",data:=.seq #[]}).update h'.objs.size (Obj.mapSeq λ_=>(#[]:Array aj))} (.ref<|s.heap.objs.size+4) "zip":=⟨_,J7,rfl⟩;delta Builtin.List.listExtendWith;refine fH<|wpAny_typeOf Vf ?_;have e1:Builtin.List.listSameRef (.ref h'.objs.size) (.ref<|s.heap.objs.size+4)=false:=by simp only[Builtin.List.listSameRef];exact beq_false_of_ne (ba sz)
 have e2:(Value.type "zip"==Value.type "list")=false:=by decide
 have e3:(Value.type "zip"==Value.type "tuple")=false:=by decide
 simp only[e1,e2,e3,Bool.or_false,cR,if_false];refine fH<|cJ J7 ?_;refine fH<|bR ?_;delta Builtin.List.listLengthHint;refine fH<|wpAny_specialOf Vf AD ?_;show wpAny _ _ (specialOf (Value.ref<|s.heap.objs.size+4) (Str.ofString "__length_hint__")>>=_) _ _ _;refine fH<|wpAny_specialOf Vf yG ?_;refine av ?_;show wpAny _ _ (rule "list.extend.makes-room" >>= λ_=>Builtin.List.listTouch (.ref h'.objs.size) >>= λ_ =>
  again (.builtin "list.extend.loop" ⟨[.ref h'.objs.size,.ref (s.heap.objs.size+4),.none],[]⟩)) _ _ _
 refine fH<|eV ?_;refine fH ?_;show wpAny _ _ (updateSeq h'.objs.size (·.push .none)>>=λ_=>updateSeq h'.objs.size (·.pop)) _ _ _;refine fH<|cU hS₂ rfl ?_;have hS₃:=bE (Obj.mapSeq (·.push Value.none)) hS₂ rfl;refine cU (hz:=by seq_fits) hS₃ rfl ?_;have hS₄:=bE (Obj.mapSeq (·.pop)) hS₃ rfl;refine av ⟨c4 dF _,fill _ s.toks _ (λd o hd e=>?_) hS₄⟩;exact(aF _ _<|bJ hd).trans ((aF _ _<|bJ hd).trans<|X9 d o hd e)
end
def YT (l:ai):It :=
 ⟨λi H=>∃ xs x,H l=some (.lst xs)/\xs[i]?=some x,
  λi H v H'=>∃ T x,v=.ref T/\H T=none/\H'=upd H T (.tup [.int i,x])/\∀ xs,H l=some (.lst xs)->xs[i]?=some x,
  λi H=>∃ xs,H l=some (.lst xs)/\i=xs.length⟩
def AH {P:ae}{w:af}{K:aa}{elts:ak Expr}{kk:Nat}{mn:Pos}{e it l:ai}(WC:e≠it)(hle:l≠e)(Yr:l≠it):
 Turn P w K (.Tuple elts kk mn) (YT l) [e,it] e (λi h=>(∃ old,IsEnum h e it i old)/\h.IsListIter it l i) where
 mem:=by simp
 obj:=λi h st b hb=>by
  obtain⟨⟨old,he⟩,o,ho,hc,hd⟩:=st;simp only[aT,aM,bY]at hb;rcases hb with rfl|rfl
  .exact⟨_,he,λv q=>by cases q⟩
  .exact⟨o,ho,λv q=>by rw[hd]at q;cases q⟩
 keep:=λi h h' st k=>by obtain⟨⟨old,he⟩,o,ho,r⟩:=st;exact⟨⟨old,k e (by simp) _ he⟩,o,k it (by simp) _ ho,r⟩
 item:=by
  intro X hP hw hK hc i fb s σ H E I hf st hg;subst hP hw hK;obtain⟨⟨old,he⟩,hit⟩:=st;refine nY hg λxs x hl ex=>?_;obtain⟨_,fE,n,r,_,ho⟩:=I.k7 hl;have zF:s.heap.IsList l fE.toArray:=⟨_,ho,rfl,n,rfl⟩;refine fj (r.get ex) λu eu ru=>?_;have ky:i<fE.toArray.size:=by rw[au];exact(kP eu).1
  have D:=Draws.list (prog:=X.prog) (w:=X.w) (A:=X.A.in1) (I.ok.hd hc) it l Yr fE.toArray;refine wpAny_pyNext_enum_itemD D he ⟨hit,zF⟩ ky WC (by simp[WC,bJ hle]) λy h1 tk hPy ho1 Wg hT hsz hk=>?_;have hy:y=u:=by
   have q:fE[i]?=some y:=by simpa using hPy
   rw[eu]at q;exact(aU q).symm
  subst hy;refine⟨_,rfl,wpAny_letOwnedTupleGo_enum ho1 λh2 Rk sj=>?_⟩;have fr:∀ b∈[e,it],jH X fb H b:=hf;have Yg:e<s.heap.objs.size:=iO he;have ne1:s.heap.objs.size≠e:=ba Yg;have Ql:IsPair h2 s.heap.objs.size (.int i tk) y:=(sj.2 _ ne1).trans hT;have kp:∀ b o,b∉[e,it]->s.heap.get? b=some o->h2.get? b=some o:=λb o hb q=>by have b1:b≠e:=λz=>hb (by simp[z]);have b2:b≠it:=λz=>hb (by simp[z]);exact(sj.2 b b1).trans (hk b o b1 b2 q)
  have hn:H s.heap.objs.size=none:=I.gT.fresh<|aq _;have I1:=(I.yP (ch:=[e,it]) (h'':=h2) (x:=.int i) (y:=x) fr kp Ql ⟨tk,rfl⟩ ru).tok<|tk+1;refine⟨.ref s.heap.objs.size,_,I1,rfl,⟨_,x,rfl,hn,rfl,λzs q=>by rw[hl]at q;cases q;exact ex⟩,⟨⟨_,by simpa using Rk⟩,Wg.1.at λo q=>(sj.2 it<|bJ WC).trans q⟩,λb hb=>?_⟩;have lti:it<s.heap.objs.size:=by obtain⟨o,q,_⟩:=hit;exact iO q
  rw[fS]
  .exact(hf b hb).1
  .simp only[aT,aM,bY]at hb;rcases hb with rfl|rfl
   .exact aw Yg
   .exact aw lti
 done:=by
  intro X hP hw hK hc i fb s σ H E I hf st hg;subst hP hw hK;obtain⟨⟨old,he⟩,hit⟩:=st;obtain⟨xs,hl,ei⟩:=hg;obtain⟨_,fE,n,r,ll,ho⟩:=I.k7 hl;have zF:s.heap.IsList l fE.toArray:=⟨_,ho,rfl,n,rfl⟩;have D:=Draws.list (prog:=X.prog) (w:=X.w) (A:=X.A.in1) (I.ok.hd hc) it l Yr fE.toArray;have en:i=fE.toArray.size:=by rw[au,ei];exact ll
  refine wpAny_pyNext_enum_endD D he (by rw[<- en];exact⟨hit,zF⟩) λh' hx=>⟨rfl,?_⟩;exact I.yQ (ch:=[e,it]) (λb hb=>hf b hb) λb o hb q=>hx b o (λz=>hb<|by simp[z]) q
 self:=λ_ _ _ _ _ st h=>let ⟨⟨_,e⟩,_⟩:=st;eh e h
section
variable {X:Cx}{a b e:Expr}{es:ak Expr}{pos:Pos}
def PV (ta:TA):TI:=λσ H R=>ta σ H λvs H1=>match vs with
 |[.ref l]=>∃ xs,H1 l=some (.lst xs)/\R (YT l) H1
 |_=>False
def G5 {elts:ak Expr}{kk:Nat}{mn:Pos}{ta:TA}{p:Pos}(hg:Gl X "enumerate")(hm:X.mg "enumerate"=none)(ha:PA X [a] ta)(hs:starEach [a] X.env=[(false,eval a X.env)]:=by rfl):
 PI X (.Tuple elts kk mn) (.Call (.Name "enumerate" p) [a] [] pos) (PV ta):=by
 intro fb s σ H R I h;refine Call_ (ku I hg hm (show bootBuiltins "enumerate"=some (.type "enumerate") by decide +kernel)<|bh (hZ (ha pos fb s σ H _ I h) λus s1 LO=>?_) hs rfl);obtain⟨vs,H1,I1,r1,q1⟩:=LO;try dsimp only at q1
 split at q1
 .rename_i l;refine fj q1 λxs hl q=>?_;refine fj r1.one λu fV ru=>?_;subst fV;subst ru;obtain⟨_,fE,n,r,ll,ho⟩:=I1.k7 hl;have lt:=iO ho;refine call_enumerate_list ⟨_,ho,rfl,n,rfl⟩ λh' he hi hsz kp=>eh he ?_;have I2:Inv X fb σ H1 { s1 with heap:=h'}:=I1.iC (t':=s1.toks) kp;refine⟨s1.heap.objs.size+1,_,_,_,H1,rfl,I2,AH (ba<|bQ _) (aw<|aY lt)<|aw lt,⟨⟨_,he⟩,hi⟩,λb hb=>?_,q⟩;have yE:s1.heap.objs.size<=b:=by
   simp at hb;rcases hb with e|e<;>subst e
   .exact Nat.le_succ _
   .exact aq _
  exact I1.zN yE (I1.gT.fresh yE)
 .exact q1.elim
def Xj (w:DA):DI:=λρ μ K=>w ρ μ λds fM=>match ds with
 |[x,y]=>opt (lv fM x) λxs=>opt (lv fM y) λys=>K (List.zipWith (λa b=>D.tup [a,b]) xs ys) (λfI=>lc x xs fI/\lc y ys fI) fM
 |_=>False
def HR {elts:ak Expr}{kk:Nat}{mn:Pos}{w:DA}{p:Pos}(hg:Gl X "zip")(hm:X.mg "zip"=none)(ha:uW X [a,b] w)(hs:starEach [a,b] X.env=[(false,eval a X.env),(false,eval b X.env)]:=by rfl)(sj:starEach [b] X.env=[(false,eval b X.env)]:=by rfl):
 FN X (.Tuple elts kk mn) (.Call (.Name "zip" p) [a,b] [] pos) (Xj w):=(G3 hg hm ha hs sj).imp λσ H Q h_=>gG h_ λφ ρ μ K A M k L=>by
 refine⟨φ,ρ,μ,_,A,M,k,λds fM gy vs H1 k1 f1 M1 i1=>?_⟩;split at k1
 .rename_i x y;refine fj (gR k1) λxs ex k1=>?_;refine fj (gR k1) λys ey k1=>?_
  .obtain⟨v,r,rfl,h1,u,r',rfl,h2,h3⟩:=i1;subst h3;refine fZ (jA M1 h1 ex) λp1 vx fV Qa ax=>?_;subst fV;refine fZ (jA M1 h2 ey) λp2 vy fV P0 ay=>?_;subst fV;refine⟨false,vx,vy,Qa,P0,L _ _ fM gy _ H1 k1 f1 M1 λgg H' fI f M' c i=>?_⟩;refine fj (oU M1 h1 ex f M' c.1) λvx hx ax=>?_;refine fj (oU M1 h2 ey f M' c.2) λvy hy ay=>?_;have lx:=ax.len;have ly:=ay.len;refine⟨λd hd=>?_,λhi=>⟨vx,vy,hx,hy,by rw[bF]at hi;lia⟩⟩;rw[bD]at hd;cases e1:xs[i]? with
   |none=>rw[e1]at hd;cases hd
   | some dx =>
    cases e2:ys[i]? with
    |none=>rw[e1,e2]at hd;cases hd
    | some dy =>rw[e1,e2]at hd;cases hd;refine fj (ax.get e1) λv1 g1 j1=>?_;refine fj (ay.get e2) λv2 g2 j2=>?_;refine⟨⟨vx,vy,v1,v2,hx,hy,g1,g2⟩,λz Ao LK=>?_⟩;refine IQ LK λT x' y' fV hT o7 q1 q2=>?_;subst fV;subst o7;have c1:=q1 vx hx;have c2:=q2 vy hy;rw[g1]at c1;cases c1;rw[g2]at c2;cases c2;have fn:=Fr.new (φ:=gg) (o:=.tup [v1,v2]) hT;exact⟨fn,M'.same<|gW.upd hT,T,_,rfl,M'.fresh hT,fF,v1,_,rfl,j1.mono fn,v2,_,rfl,j2.mono fn,rfl⟩
 .exact k1.elim
def k9 (ds:ak D):ak D:=List.zipWith (λi d=>D.tup [.int (i:Nat),d]) (List.range ds.length) ds
def rC {ds:ak D}{i:Nat}{d:D}(h:(k9 ds)[i]?=some d):∃ x,ds[i]?=some x/\d=.tup [.int i,x]:=by
 delta k9 at h;rw[bD]at h;cases e:ds[i]? with
 |none=>rw[e]at h;cases q:(List.range ds.length)[i]?<;>(rw[q]at h;cases h)
 | some x =>have hi:=(kP e).1;rw[e,bG hi]at h;cases h;exact⟨x,rfl,rfl⟩
def jK (ds:ak D):(k9 ds).length=ds.length:=by delta k9;rw[bF,ur,Nat.min_self]
def Xl (w:DA):DI:=λρ μ K=>w ρ μ λds fM=>match ds with
 |[x]=>opt (lv fM x) λxs=>K (k9 xs) (λfI=>lc x xs fI) fM
 |_=>False
def tE {elts:ak Expr}{kk:Nat}{mn:Pos}{w:DA}{p:Pos}(hg:Gl X "enumerate")(hm:X.mg "enumerate"=none)(ha:uW X [a] w)(hs:starEach [a] X.env=[(false,eval a X.env)]:=by rfl):
 FN X (.Tuple elts kk mn) (.Call (.Name "enumerate" p) [a] [] pos) (Xl w):=(G5 hg hm ha hs).imp λσ H Q h_=>gG h_ λφ ρ μ K A M k L=>by
 refine⟨φ,ρ,μ,_,A,M,k,λds fM gy vs H1 k1 f1 M1 i1=>?_⟩;split at k1
 .rename_i x;refine fj (gR k1) λxs ex k1=>?_
  .refine fZ i1 λv r fV h1 h3=>?_;subst fV;subst h3;refine fZ (jA M1 h1 ex) λp1 vx fV Qa ax=>?_;subst fV;refine⟨vx,Qa,L _ _ fM gy _ H1 k1 f1 M1 λgg H' fI f M' c i=>?_⟩;refine fj (oU M1 h1 ex f M' c) λvx hx ax=>?_;have lx:=ax.len;refine⟨λd hd=>?_,λhi=>⟨vx,hx,by rw[jK]at hi;lia⟩⟩;refine fj (rC hd) λdx e1 fV=>?_;subst fV;refine fj (ax.get e1) λv1 g1 j1=>?_;refine⟨⟨vx,v1,hx,g1⟩,λz Ao LK=>?_⟩;refine lP LK λT x' fV hT o7 q1=>?_;subst fV;subst o7;have c1:=q1 vx hx;rw[g1]at c1;cases c1;have fn:=Fr.new (φ:=gg) (o:=.tup [.int i,v1]) hT;exact⟨fn,M'.same<|gW.upd hT,T,_,rfl,M'.fresh hT,fF,.int i,_,rfl,rfl,v1,_,rfl,j1.mono fn,rfl⟩
 .exact k1.elim
def dLZ (m:Bool)(w:DA):De:=λρ μ K=>w ρ μ λds fM=>match ds with
 |[x,y]=>opt (lv fM x) λxs=>opt (lv fM y) λys=>nL m (List.zipWith (λa b=>D.tup [a,b]) xs ys) fM K
 |_=>False
def Cy {φ:ak ai}{H:Hp}{xs ys:ak D}{vx vy us:ak V}(ax:fB φ H xs vx)(ay:fB φ H ys vy)(hu:us.length=min vx.length vy.length)(nφ:∀(T:ai) (zs:ak V),H T=some (.tup zs)->T∉φ)(h:sE H vx vy us):fB φ H (List.zipWith (λa b=>D.tup [a,b]) xs ys) us:=by
 have key:∀(ds:ak D) (us:ak V),ds.length=us.length->(∀(i:Nat) (d:D) (u:V),ds[i]?=some d->us[i]?=some u->iP φ H d u)->fB φ H ds us:=by
  intro ds;induction ds with
  | nil=>intro us hl _;cases us with
   |nil=>rfl
   |cons _ _=>contradiction
  | cons d ds ih =>
   intro us hl hh;cases us with
   |nil=>cases hl
   |cons u us=>exact⟨u,us,rfl,hh 0 d u rfl rfl,ih us (by simpa using hl) λi d' u' e1 e2=>hh (i+1) d' u' (by simpa using e1)<|by simpa using e2⟩
 refine key _ _ (by rw[bF,hu,ax.len,ay.len]) λi d u e1 e2=>?_;refine IS (h i u e2) λT x y fV hT hx hy=>?_;subst fV;refine fj (ax.zL hx) λdx ex ix=>?_;refine fj (ay.zL hy) λdy ey iy=>?_;rw[bD,ex,ey]at e1;cases e1;exact⟨T,_,rfl,nφ T _ hT,hT,x,_,rfl,ix,y,_,rfl,iy,rfl⟩
def Fp (m:Bool){w:DA}{p p2 qj:Pos}(gN:X.gN=true)(hg:Gl X "list")(hm:X.mg "list"=none)(Qg:Gl X "zip")(Qe:X.mg "zip"=none)(ha:uW X [a,b] w)(hs:starEach [a,b] X.env=[(false,eval a X.env),(false,eval b X.env)]:=by rfl)(sj:starEach [b] X.env=[(false,eval b X.env)]:=by rfl)
 (HV:starEach [.Call (.Name "zip" p2) [a,b] [] qj] X.env=[(false,eval (.Call (.Name "zip" p2) [a,b] [] qj) X.env)]:=by rfl):
 PD X (.Call (.Name "list" p) [.Call (.Name "zip" p2) [a,b] [] qj] [] pos) (dLZ m w):=by
 intro fb s σ H Q I h;refine cw<|ku I hg hm boot_list ?_;refine gG h λφ ρ μ K A M k L=>?_;refine bh ?_ HV rfl;rw[HV];refine Calls.spliced_cons ?_;have hq:RH w σ H (λvs H1=>match vs with | [.ref a,.ref b]=>∃(xs ys:ak V),H1 a=some (.lst xs)/\H1 b=some (.lst ys)/\∀ l us H',H1 l=none->gW H1 H'->H' l=some (.lst us)->us.length=min xs.length ys.length->sE H' xs ys us->Q (.ref l) H' | _=>False):=by
  refine⟨φ,ρ,μ,_,A,M,k,λds fM gy vs H1 k1 f1 M1 i1=>?_⟩;split at k1
  .rename_i x y;refine fj (gR k1) λxs ex k1=>?_;refine fj (gR k1) λys ey k1=>?_
   .obtain⟨v,r,rfl,h1,u,r',rfl,h2,h3⟩:=i1;cases(show r'=[]from h3);refine fZ (jA M1 h1 ex) λp1 vx fV Qa ax=>?_;subst fV;refine fZ (jA M1 h2 ey) λp2 vy fV P0 ay=>?_;subst fV;refine⟨vx,vy,Qa,P0,λl us H' hl S' hu len pr=>?_⟩;have oX:l∉gy:=M1.fresh hl;have M2:=M1.same S';have f2:Fr gy H1 gy H':=.same S';have nt:∀(T:ai) (zs:ak V),H' T=some (.tup zs)->T∉gy:=λT zs e hT=>by
     obtain⟨j,hj,ej⟩:=aN hT;refine fj (M2.at_ j (fM[j]'(by have:=M2.len;lia))<|iT _) λq e1 e2=>?_;rw[iT hj,ej]at e1;cases e1;revert e2;cases fM[j]'(by have:=M2.len;lia)with
     |box=>rintro⟨q,ns,i,r,z,h1,_⟩;rw[e]at h1;cases h1
     |lst ds=>rintro⟨vs,h1,_⟩;rw[e]at h1;cases h1
     |jf ks ds=>rintro⟨fw,vs,h1,_⟩;rw[e]at h1;cases h1
     |uC o fw ds=>rintro⟨h1,_⟩;rw[e]at h1;cases h1
     |ins C ns ds=>rintro⟨dx,fs,h1,_⟩;rw[e]at h1;cases h1
     |lD ks ds=>rintro⟨fw,h1,_⟩;rw[e]at h1;cases h1
     |gx ka H0=>rintro⟨_,_,_,h4⟩;exact absurd e (h4 _)
     |exc c=>intro h1;rw[show _=_ from h1]at e;cases e
    have al:=Cy (ax.mono f2) (ay.mono f2) len nt pr;cases m with
    |false=>exact L _ fM gy _ H' k1 (f1.trans f2) M2 ⟨l,us,rfl,oX,hu,al⟩
    | true =>
     have f3:Fr gy H1 (gy++[l]) H':=⟨(Fr.snoc (φ:=gy) hl).ext,λc o _ e=>S' c o e,λc e=>S'.free e⟩;have M3:fU (gy++[l]) H' (fM++[.lst (List.zipWith (λa b=>D.tup [a,b]) xs ys)]):=by
      have nt':∀(T:ai) (zs:ak V),H' T=some (.tup zs)->T∉gy++[l]:=λT zs e hT=>by
       rcases List.mem_append.mp hT with q|q
       .exact nt T zs e q
       .rw[List.mem_singleton.mp q,hu]at e;cases e
      have al':=Cy (ax.mono f3) (ay.mono f3) len nt' pr;refine⟨?_,by rw[kO,kO,M1.len];rfl,λk n e=>?_⟩
      .rw[eE];exact⟨M1.nd,by simp,λa ha b hb=>by rw[List.mem_singleton.mp hb];intro z;exact oX (by rw[<- z];exact ha)⟩
      .by_cases hk:k<fM.length
       .rw[vX hk]at e;refine fj (M1.at_ k n e) λq e1 e2=>?_;exact⟨q,f3.get e1,e2.mono f3 λu eu=>S' _ _ eu⟩
       .have zG:k=fM.length:=by have:=(kP e).1;rw[kO,bC]at this;lia
        subst zG
        rw[p8 (aq _),a6]at e
        cases e
        exact⟨l,by rw[p8 (by rw[M1.len];exact aq _),M1.len,a6];rfl,us,hu,al'⟩
     exact L _ _ (gy++[l]) _ H' k1 (f1.trans f3) M3 ⟨l,by rw[p8 (by rw[M1.len];exact aq _),M1.len,a6];rfl,rfl⟩
  .exact k1.elim
 refine Call_ (ku I Qg Qe boot_zip<|bh (hZ (ha qj fb s σ H _ I hq) λus s1 LN=>?_) (by rw[hs,sj]) (by rw[sj];rfl));obtain⟨vs,H1,I1,r1,q1⟩:=LN;try dsimp only at q1
 split at q1
 .rename_i l1 l2;refine fZ q1 λxs ys h1 h2 q=>?_;refine fZ r1.two λu1 u2 fV e1 e2=>?_;subst fV;subst e1;cases e2;exact hZ (HB I1 gN h1 h2 q) λv s2 hv=>Calls.spliced_nil hv
 .exact q1.elim
end
def qM.val {K:DK}(L:qM φ H K Q)(M:fU φ H μ)(k:K d μ)(i:iP φ H d v):Q v H:=L d μ φ v H k (.refl _ _) M i
def Jp (m:Bool):Ar:=λx y μ K=>match x,y with
 |.int i,.int j=>K (.int<|i+j) μ
 |.str i,.str j=>i.length+j.length<=sizeLine/\K (.str<|i++j) μ
 |x,y=>opt (lv μ x) λxs=>opt (lv μ y) λys=>xs.length+ys.length<=sizeLine/\nL m (xs++ys) μ K
def Ot:pq GY (Jp m):=λφ H x y dx dy μ K Q M hx hy k L=>by
 delta Jp at k;split at k
 .subst hx;subst hy;exact L.val M k rfl
 .subst hx;subst hy;exact⟨k.1,L.val M k.2 rfl⟩
 .refine fj (gR k) λxs ex k=>?_;refine fj (gR k) λys ey k=>?_;refine fZ (jA M hx ex) λp vx fV hp ax=>?_;subst fV;refine fZ (jA M hy ey) λq vy fV hq ay=>?_;subst fV;exact⟨vx,vy,hp,hq,by rw[ax.len,ay.len];exact k.1,λl hl=>JM L M (ax.app ay) k.2 hl⟩
def YI (C:Int->Int->Prop)(g:Int->Int->D):Ar:=λx y μ K=>match x,y with
 |.int i,.int j=>C i j/\K (g i j) μ
 |_,_=>False
def uN (g:Int->Int->D):Ar:=λx y μ K=>match x,y with
 |.int i,.int j=>K (g i j) μ
 |_,_=>False
def RN {g:Int->Int->Int}:pq (Q4 C λi j=>.int<|g i j) (YI C λi j=>.int<|g i j):=λφ H x y dx dy μ K Q M hx hy k L=>by
 delta YI at k;split at k
 .subst hx;subst hy;exact⟨k.1,L.val M k.2 rfl⟩
 .exact k.elim
def Oo {g:Int->Int->Int}:pq (xq λi j=>.int<|g i j) (uN λi j=>.int<|g i j):=λφ H x y dx dy μ K Q M hx hy k L=>by
 delta uN at k;split at k
 .subst hx;subst hy;exact L.val M k rfl
 .exact k.elim
def xh {g:Int->Int->Bool}:pq (xq λi j=>.bl<|g i j) (uN λi j=>.bl<|g i j):=λφ H x y dx dy μ K Q M hx hy k L=>by
 delta uN at k;split at k
 .subst hx;subst hy;exact L.val M k rfl
 .exact k.elim
def TC:Ar:=λx y μ K=>match x,y with
 |.int i,.int j=>JS i j/\K (.int<|i*j) μ
 |.str z,.int n=>∃ c:Nat,z=⟨#[c]⟩ /\ -1000000<=n/\n<=1000000/\K (.str ⟨(List.replicate n.toNat c).toArray⟩) μ
 |_,_=>False
def qW:pq GP TC:=λφ H x y dx dy μ K Q M hx hy k L=>by
 delta TC at k;split at k
 .subst hx;subst hy;exact⟨k.1,L.val M k.2 rfl⟩
 .subst hx;subst hy;obtain⟨c,rfl,h1,h2,k⟩:=k;exact⟨c,rfl,h1,h2,L.val M k rfl⟩
 .exact k.elim
def Mh (neg:Bool):Ar:=λx y μ K=>match x,y with
 |.int i,.int j=>K (.bl<|neg != decide (i=j)) μ
 |.str i,.str j=>K (.bl<|neg != decide (i=j)) μ
 |.bl i,.bl j=>K (.bl<|neg != decide (i=j)) μ
 |_,_=>False
def AN:pq (GW neg) (Mh neg):=λφ H x y dx dy μ K Q M hx hy k L=>by
 delta Mh at k;split at k
 .subst hx;subst hy;exact L.val M k rfl
 .subst hx;subst hy;exact L.val M k rfl
 .subst hx;subst hy;exact L.val M k rfl
 .exact k.elim
def U4:Ar:=λx y μ K=>match x,y with
 |.str z,.int i=>z.length<=sizeLine/\opt (o5 z.cps.toList i) λc=>K (.str ⟨#[c]⟩) μ
 |.tup ds,.int i=>opt (o5 ds i) λd=>K d μ
 |x,.int i=>opt (lv μ x) λds=>opt (o5 ds i) λd=>K d μ
 |_,_=>False
theorem fB.o5 {φ:ak ai}{H:Hp}{ds:ak D}{vs:ak V}{i:Int}{d:D}(h:fB φ H ds vs)(e:o5 ds i=some d):∃ v,o5 vs i=some v/\iP φ H d v:=by
 delta L2.o5 at e ⊢
 rw[h.len];cases q:FF ds.length i with
 |none=>rw[q]at e;cases e
 |some j=>rw[q]at e;exact h.get e
def RM:pq OH U4:=λφ H x y dx dy μ K Q M hx hy k L=>by
 delta U4 at k;split at k
 .subst hx;subst hy;refine fj (gR k.2) λc e k'=>?_;exact⟨k.1,fA e<|L.val M k' rfl⟩
 .subst hy;refine fj (gR k) λd e k=>?_;refine lP hx λp vs fV _ hp ha=>?_;subst fV;refine fj (ha.o5 e) λv ev iv=>?_;exact⟨vs,.inr hp,fA ev<|L.val M k iv⟩
 .subst hy;refine fj (gR k) λds el k=>?_;refine fj (gR k) λd e k=>?_;refine fZ (jA M hx el) λp vs fV hp ha=>?_;subst fV;refine fj (ha.o5 e) λv ev iv=>?_;exact⟨vs,.inl hp,fA ev<|L.val M k iv⟩
 .exact k.elim
abbrev DO:=DE->MS->(ao Int->MS->Prop)->Prop
def UG (w:DO):TO:=λσ H Q=>∃ φ ρ μ K,jZ φ H ρ σ/\fU φ H μ/\w ρ μ K/\∀ o fI gg H',K o fI->Fr φ H gg H'->fU gg H' fI->Q o H'
def dNo:DO:=λ_ μ K=>K none μ
def Tx (w:De):DO:=λρ μ K=>w ρ μ λd fM=>match d with|.int i=>K (some i) fM|_=>False
def cutD (ds:ak D)(lo hi:ao Int):ak D:=(ds.drop<|HT.mJ ds.length 0 lo).take (HT.mJ ds.length ds.length hi - HT.mJ ds.length 0 lo)
def Xg (m:Bool)(w:De)(l h:DO):De:=λρ μ K=>w ρ μ λx fM=>l ρ fM λlo iA=>h ρ iA λhi rS=>match x with
 |.str z=>z.length<=sizeLine/\K (.str ⟨(j6 z.cps.toList lo hi).toArray⟩) rS
 |x=>opt (lv rS x) λds=>nL m (cutD ds lo hi) rS K
section
variable {X:Cx}{a b e:Expr}{es:ak Expr}{pos:Pos}
def PO.imp {e:ao Expr}{t t':TO}(h:PO X e t)(hi:∀ σ H Q,t' σ H Q->t σ H Q):PO X e t':=λfb s σ H Q I q=>h fb s σ H Q I (hi σ H Q q)
def Hs:PO X none (UG dNo):=ON.imp λσ H Q h_=>gG h_ λφ ρ μ K A M k L=>L none μ φ H k (.refl _ _) M
def lN (h:PD X e w):PO X (some e) (UG<|Tx w):=(G1 h).imp λσ H Q ⟨φ,ρ,μ,K,A,M,k,L⟩ =>
 ⟨φ,ρ,μ,_,A,M,k,λd fM gy v1 H1 k1 f1 M1 i1=>by
  cases d with
  |int i=>cases i1;exact L _ fM gy H1 k1 f1 M1
  |_=>exact k1.elim⟩
def fB.cut (h:fB φ H ds vs)(lo hi:ao Int):fB φ H (cutD ds lo hi) (BM vs lo hi):=by delta cutD BM;rw[h.len];exact(h.drop _).take _
def mf (m:Bool){lo:ao Expr}(ha:PD X a w)(hl:PO X lo (UG l))(hh:PO X hi (UG h)):PD X (.Subscript a (.Slice lo hi none p) pos) (Xg m w l h):=(G8 slC ha hl hh).imp λσ H Q h_=>gG h_ λφ ρ μ K A M k L=>by
 refine⟨φ,ρ,μ,_,A,M,k,λd fM gy v1 H1 k1 f1 M1 i1=>⟨gy,ρ,fM,_,A.mono f1,M1,k1,λlo iA kL H2 k2 f2 M2=>⟨kL,ρ,iA,_,A.mono<|f1.trans f2,M2,k2,λhi rS Ei H3 k3 f3 M3=>?_⟩⟩⟩;have i3:=i1.mono<|f2.trans f3;have L3:=L.mono<|f1.trans<|f2.trans f3;split at k3
 .subst i3;exact⟨k3.1,L3.val M3 k3.2 rfl⟩
 .refine fj (gR k3) λds el k=>?_;refine fZ (jA M3 i3 el) λp vs fV hp ha=>?_;subst fV;exact⟨vs,hp,λl hl=>JM L3 M3 (ha.cut lo hi) k hl⟩
end
def LW:lp:=λds μ K=>match ds with
 |[.str z]=>z.length<=sizeLine/\K (.int z.length) μ
 |[.tup xs]=>K (.int xs.length) μ
 |[x]=>opt (lv μ x) λxs=>K (.int xs.length) μ
 |_=>False
def Om:mF GS LW:=λφ H vs ds μ K Q M h k L=>by
 delta LW at k;split at k
 .obtain⟨v,r,rfl,h1,h2⟩:=h;subst h2;subst h1;exact⟨k.1,L.val M k.2 rfl⟩
 .obtain⟨v,r,rfl,h1,h2⟩:=h;subst h2;refine lP h1 λp vs fV _ hp ha=>?_;subst fV;exact⟨vs,.inr hp,ha.len▸L.val M k rfl⟩
 .obtain⟨v,r,rfl,h1,h2⟩:=h;subst h2;refine fj (gR k) λxs el k=>?_;refine fZ (jA M h1 el) λp vs fV hp ha=>?_;subst fV;exact⟨vs,.inl hp,ha.len▸L.val M k rfl⟩
 .exact k.elim
def WZ:lp:=λds μ K=>dM [.i,.i] ds λi j=>K (.int<|max i j) μ
def AL:mF Nh WZ:=λφ H vs ds μ K Q M h k L=>by obtain⟨_,_,rfl,k⟩:=dJ k;obtain⟨v,r,rfl,h1,u,r',rfl,h2,h3⟩:=h;cases h3;cases h1;cases h2;exact⟨_,_,rfl,L.val M k rfl⟩
def Tf:lp:=λds μ K=>dM [.v] ds λx=>∃ ns:ak Int,lv μ x=some (ns.map D.int)/\ns≠[]/\∀ m,m∈ns->(∀ y∈ns,y<=m)->K (.int m) μ
def KO:mF GR Tf:=λφ H vs ds μ K Q M h k L=>by obtain⟨_,rfl,k⟩:=dJ k;obtain⟨v,r,rfl,h1,h2⟩:=h;cases h2;let ⟨ns,el,hn,k⟩:=k;obtain⟨p,vs,rfl,hp,ha⟩:=jA M h1 el;exact⟨ns,by rw[hp,ha.ints],hn,λm a b=>L.val M (k m a b) rfl⟩
def W2 (g:ak Bool->Bool):lp:=λds μ K=>dM [.v] ds λx=>∃ bs:ak Bool,lv μ x=some (bs.map D.bl)/\K (.bl<|g bs) μ
def Oq {g:ak Bool->Bool}:mF (GX g) (W2 g):=λφ H vs ds μ K Q M h k L=>by obtain⟨_,rfl,k⟩:=dJ k;obtain⟨v,r,rfl,h1,h2⟩:=h;cases h2;let ⟨bs,el,k⟩:=k;obtain⟨p,vs,rfl,hp,ha⟩:=jA M h1 el;exact⟨bs,by rw[hp,ha.YK],L.val M k rfl⟩
def Th (m:Bool):lp:=λds μ K=>dM [.v] ds λx=>opt (lv μ x) λxs=>nL m xs μ K
def oM:mF (AX Kf) (Th m):=λφ H vs ds μ K Q M h k L=>by obtain⟨_,rfl,k⟩:=dJ k;obtain⟨v,r,rfl,h1,h2⟩:=h;cases h2;let ⟨xs,el,k⟩:=gR k;obtain⟨p,vs,rfl,hp,ha⟩:=jA M h1 el;exact⟨vs,oH.of hp,λl hl=>JM L M ha k hl⟩
def IA:Uu:=λd ds μ K=>match d,ds with
 |.str z,[x]=>z.cps=#[]/\∃ ys:ak Str,lv μ x=some (ys.map D.str)/\(ys.map (·.length)).sum<=16777216/\K (.str ⟨(ys.map (·.cps.toList)).flatten.toArray⟩) μ
 |_,_=>False
def xf:Mz Kf "str" AY IA:=λφ H x vs d ds μ K Q M hx h k L=>by
 delta IA at k;split at k
 .subst hx;obtain⟨v,r,rfl,h1,h2⟩:=h;subst h2;obtain⟨hz,ys,el,hs,k⟩:=k;refine fZ (jA M h1 el) λp vs fV hp ha=>?_;subst fV;exact⟨hz,ys,by rw[hp,ha.strs],hs,L.val M k rfl⟩
 .exact k.elim
def NH:Uu:=λd ds μ K=>match d,ds with
 |.str z,[.str y,.int i]=>∃ c:Nat,y=⟨#[c]⟩/\0<=i/\i<=z.length/\∀ r,Dr z.cps.toList c i.toNat r->K (.int r) μ
 |_,_=>False
def KP:Mz Kf "str" GV NH:=λφ H x vs d ds μ K Q M hx h k L=>by
 delta NH at k;split at k
 .subst hx;obtain⟨v,r,rfl,h1,u,r',rfl,h2,h3⟩:=h;subst h3;subst h1;subst h2;obtain⟨c,rfl,h0,h1,k⟩:=k;exact⟨_,c,_,rfl,rfl,h0,h1,λr hr=>L.val M (k r hr) rfl⟩
 .exact k.elim
def Si (M:fU φ H μ)(hx:iP φ H (.mr k) x)(e:μ[k]?=some (.lst ds)):∃ p vs,x=.ref p/\φ[k]?=some p/\H p=some (.lst vs)/\fB φ H ds vs:=by refine fj hx λp hp fV=>?_;subst fV;obtain⟨q,e1,vs,hv,ha⟩:=M.at_ k _ e;rw[hp]at e1;cases e1;exact⟨p,vs,rfl,hp,hv,ha⟩
def Pe {K:DK}(L:qM φ H K Q)(M:fU φ H μ)(hp:φ[k]?=some p)(ha:fB φ H ds vs)(hd:iP φ H d v)(kk:K d (μ.set k<|.lst ds)):Q v (upd H p<|.lst vs):=by have f:Fr φ H φ (upd H p<|.lst vs):=.put<|lC hp;exact L d _ φ v _ kk f (M.put hp ⟨_,fF,ha.mono f⟩) (hd.mono f)
def DH:Uu:=λd ds μ K=>match d,ds with
 |.mr k,[y]=>opt (zx μ k) λxs=>xs.length<sizeLine/\K .gz (μ.set k<|.lst<|xs++[y])
 |_,_=>False
def Et:Mz Kf "list" y6 DH:=λφ H x vs d ds μ K Q M hx h k L=>by
 delta DH at k;split at k
 .refine fj (gR k) λxs em k=>?_
  .refine lP (Si M hx<|ni em) λp us fV hp hv ha=>?_;subst fV;obtain⟨v,r,rfl,h1,h2⟩:=h;subst h2;exact⟨_,_,us,rfl,rfl,hv,ha.len▸k.1,Pe (d:=.gz) L M hp (ha.app<|show fB φ H [_] [v]from⟨v,[],rfl,h1,rfl⟩) rfl k.2⟩
 .exact k.elim
def AM {f:Int->Int->Int}:Ue (Sy f) (uN λi j=>.int<|f i j):=λφ H x y dx dy μ K Q M hx hy k L=>by
 delta uN at k;split at k
 .subst hx;subst hy;exact L.val M k rfl
 .exact k.elim
mutual
def sO:D->D->Bool
 |.gz,.gz=>true
 |.bl a,.bl b=>a==b
 |.bl a,.int b=>(if a then 1 else 0)==b
 |.int a,.bl b=>a==(if b then 1 else 0)
 |.int a,.int b=>a==b
 |.str a,.str b=>a==b
 |.lst xs,.lst ys=>pf xs ys
 |.tup xs,.tup ys=>pf xs ys
 |_,_=>false
def pf:List D->List D->Bool
 |[],[]=>true
 |x::xs,y::ys=>sO x y&&pf xs ys
 |_,_=>false
end
mutual
def xr:Nat->D->Prop
 |n+1,.lst ds=>AZ n ds
 |n+1,.tup ds=>AZ n ds
 |0,.lst _=>False
 |0,.tup _=>False
 |_,.jf _ _=>False
 |_,.mr _=>False
 |_,.obj _ _ _=>False
 |_,.qP _ _=>False
 |_,.fn _=>False
 |_,_=>True
def AZ:Nat->List D->Prop
 |_,[]=>True
 |n,d::ds=>xr n d/\AZ n ds
end
theorem qh:∀ {ds:ak D} {i:Nat} {d:D},AZ n ds->ds[i]?=some d->xr n d
 |[],_,_,_,e=>by cases e
 |d::ds,0,d',h,e=>by simp at e;subst e;exact h.1
 |d::ds,i+1,d',h,e=>qh h.2 (by simpa using e)
mutual
theorem z9 {φ:List ai}{H:Hp}:∀ {n:Nat} {d e:D} {v:V},xr n d->xr n e->iP φ H d v->iP φ H e v->sO d e=true:=λ{n d e v} pd pe hd he=>by
 cases d with
 | gz=>cases(show v=_ from hd);cases e with
  |gz=>rfl
  |lst _=>obtain⟨_,_,q,_⟩:=he;cases q
  |tup _=>obtain⟨_,_,q,_⟩:=he;cases q
  |jf _ _=>obtain⟨_,_,_,q,_⟩:=he;cases q
  |mr _=>obtain⟨_,_,q⟩:=he;cases q
  |obj _ _ _=>obtain⟨_,_,_,_,q,_⟩:=he;cases q
  |qP _ _=>obtain⟨_,_,_,_,q,_⟩:=he;cases q
  |_=>cases(show _=_ from he)
 | bl b=>cases(show v=_ from hd);cases e with
  |bl c=>cases(show _=_ from he);simp[sO]
  |lst _=>obtain⟨_,_,q,_⟩:=he;cases q
  |tup _=>obtain⟨_,_,q,_⟩:=he;cases q
  |jf _ _=>obtain⟨_,_,_,q,_⟩:=he;cases q
  |mr _=>obtain⟨_,_,q⟩:=he;cases q
  |obj _ _ _=>obtain⟨_,_,_,_,q,_⟩:=he;cases q
  |qP _ _=>obtain⟨_,_,_,_,q,_⟩:=he;cases q
  |_=>cases(show _=_ from he)
 | int b=>cases(show v=_ from hd);cases e with
  |int c=>cases(show _=_ from he);simp[sO]
  |lst _=>obtain⟨_,_,q,_⟩:=he;cases q
  |tup _=>obtain⟨_,_,q,_⟩:=he;cases q
  |jf _ _=>obtain⟨_,_,_,q,_⟩:=he;cases q
  |mr _=>obtain⟨_,_,q⟩:=he;cases q
  |obj _ _ _=>obtain⟨_,_,_,_,q,_⟩:=he;cases q
  |qP _ _=>obtain⟨_,_,_,_,q,_⟩:=he;cases q
  |_=>cases(show _=_ from he)
 | str b=>cases(show v=_ from hd);cases e with
  |str c=>cases(show _=_ from he);simp[sO]
  |lst _=>obtain⟨_,_,q,_⟩:=he;cases q
  |tup _=>obtain⟨_,_,q,_⟩:=he;cases q
  |jf _ _=>obtain⟨_,_,_,q,_⟩:=he;cases q
  |mr _=>obtain⟨_,_,q⟩:=he;cases q
  |obj _ _ _=>obtain⟨_,_,_,_,q,_⟩:=he;cases q
  |qP _ _=>obtain⟨_,_,_,_,q,_⟩:=he;cases q
  |_=>cases(show _=_ from he)
 | lst ds =>
  obtain⟨p,vs,rfl,_,hp,ha⟩:=hd;cases n with
  |zero=>exact False.elim pd
  | succ n =>
   cases e with
   | lst es =>obtain⟨p',Vc,q,_,CY,SR⟩:=he;cases q;rw[hp]at CY;cases CY;exact rD pd pe ha SR
   |tup es=>obtain⟨p',Vc,q,_,CY,SR⟩:=he;cases q;rw[hp]at CY;cases CY
   |jf _ _=>exact False.elim pe
   |mr _=>exact False.elim pe
   |obj _ _ _=>exact False.elim pe
   |qP _ _=>exact False.elim pe
   |fn _=>exact False.elim pe
   |_=>cases(show _=_ from he)
 | tup ds =>
  obtain⟨p,vs,rfl,_,hp,ha⟩:=hd;cases n with
  |zero=>exact False.elim pd
  | succ n =>
   cases e with
   | tup es =>obtain⟨p',Vc,q,_,CY,SR⟩:=he;cases q;rw[hp]at CY;cases CY;exact rD pd pe ha SR
   |lst es=>obtain⟨p',Vc,q,_,CY,SR⟩:=he;cases q;rw[hp]at CY;cases CY
   |jf _ _=>exact False.elim pe
   |mr _=>exact False.elim pe
   |obj _ _ _=>exact False.elim pe
   |qP _ _=>exact False.elim pe
   |fn _=>exact False.elim pe
   |_=>cases(show _=_ from he)
 |jf _ _=>exact absurd pd (by cases n<;>exact id)
 |mr _=>exact absurd pd (by cases n<;>exact id)
 |obj _ _ _=>exact absurd pd (by cases n<;>exact id)
 |qP _ _=>exact absurd pd (by cases n<;>exact id)
 |fn _=>exact absurd pd (by cases n<;>exact id)
theorem rD {φ:List ai}{H:Hp}:∀ {n:Nat} {ds es:List D} {vs:List V},AZ n ds->AZ n es->fB φ H ds vs->fB φ H es vs->pf ds es=true:=λ{n ds es vs} pd pe hd he=>by
 cases ds with
 | nil =>
  cases(show vs=[]from hd);cases es with
  |nil=>unfold pf;rfl
  |cons e es=>obtain⟨_,_,q,_⟩:=he;cases q
 | cons d ds =>
  obtain⟨v,r,rfl,h1,h2⟩:=hd;cases es with
  |nil=>cases(show _=_ from he)
  | cons e es =>obtain⟨v',r',q,h3,h4⟩:=he;cases q;unfold AZ at pd pe;unfold pf;rw[z9 pd.1 pe.1 h1 h3,rD pd.2 pe.2 h2 h4];rfl
end
theorem oB:∀ {ds es:ak D},ds.length≠es.length->pf ds es=false
 |[],[],h=>absurd rfl h
 |[],_::_,_=>rfl
 |_::_,[],_=>rfl
 |d::ds,e::es,h=>by unfold pf;rw[oB (by simpa using h),eL]
def vw (ds es:ak D)(j:Nat):Bool:=match ds[j]?,es[j]? with|some a,some b=>sO a b|_,_=>true
def ua (n:Nat)(f:Nat->Bool):(List.range<|n+1).all f=(f 0&&(List.range n).all λj=>f<|j+1):=by rw[List.range_succ_eq_map,dm,List.all_map];rfl
theorem lR:∀(ds es:ak D),ds.length=es.length->(List.range ds.length).all (vw ds es)=pf ds es
 |[],[],_=>rfl
 |[],_::_,h=>by contradiction
 |_::_,[],h=>by cases h
 | d::ds,e::es,h=>by
  rw[aE,ua];have ih:=lR ds es (by simpa using h);have e1:(λj=>vw (d::ds) (e::es)<|j+1)=vw ds es:=by funext j;delta vw;simp
  rw[e1,ih];rfl
section
variable {X:Cx}{fb:ak (ai×Obj)}{σ:St}{H:Hp}{s:ah}{φ:ak ai}
def wM (r:fT xs us)(h1:j<us.toArray.size):∃ x,xs[j]?=some x/\fW x us.toArray[j]:=by
 have hx:j<xs.length:=by rwa [r.length]
 refine fj (r.get<|iT hx) λu eu ru=>?_;refine⟨_,iT hx,?_⟩;have:us.toArray[j]=u:=by have:=kP eu;simpa using this.2
 rwa [this]
def tW (I:Inv X fb σ H s)(pd:xr n d)(hd:iP φ H d x)(ru:fW x u):(∀ p,u≠.ref p)\/∃ p fE ds vs,u=.ref p/\fT vs fE/\fB φ H ds vs/\∃ m,n=m+1/\AZ m ds/\((d=.lst ds/\s.heap.IsList p fE.toArray)\/(d=.tup ds/\s.heap.IsTuple p fE.toArray)):=by
 cases d with
 |gz=>subst hd;subst ru;exact .inl λp q=>by cases q
 |bl b=>subst hd;subst ru;exact .inl λp q=>by cases q
 |int b=>subst hd;obtain⟨t,rfl⟩:=ru;exact .inl λp q=>by cases q
 |str b=>subst hd;obtain⟨t,rfl⟩:=ru;exact .inl λp q=>by cases q
 | lst ds =>
  refine lP hd λp vs fV _ hp ha=>?_;subst fV;subst ru;obtain⟨_,fE,k,r,_,ho⟩:=I.k7 hp;cases n with
  |zero=>exact False.elim pd
  |succ n=>exact .inr ⟨p,fE,ds,vs,rfl,r,ha,n,rfl,pd,.inl ⟨rfl,⟨_,ho,rfl,k,rfl⟩⟩⟩
 | tup ds =>
  refine lP hd λp vs fV _ hp ha=>?_;subst fV;subst ru;obtain⟨_,fE,r,ho⟩:=(I.gT p _ hp);cases n with
  |zero=>exact False.elim pd
  |succ n=>exact .inr ⟨p,fE,ds,vs,rfl,r,ha,n,rfl,pd,.inr ⟨rfl,ho⟩⟩
 |jf _ _=>exact absurd pd (by cases n<;>exact id)
 |mr _=>exact absurd pd (by cases n<;>exact id)
 |obj _ _ _=>exact absurd pd (by cases n<;>exact id)
 |qP _ _=>exact absurd pd (by cases n<;>exact id)
 |fn _=>exact absurd pd (by cases n<;>exact id)
def Dp (pd:xr n d)(hd:iP φ H d x)(fx:kR x=true):(d=.gz/\x=.gz)\/(∃ b,d=.bl b/\x=.bl b)\/(∃ b,d=.int b/\x=.int b)\/∃ b,d=.str b/\x=.str b:=by
 cases d with
 |gz=>exact .inl ⟨rfl,hd⟩
 |bl b=>exact .inr (.inl ⟨b,rfl,hd⟩)
 |int b=>exact .inr (.inr<|.inl ⟨b,rfl,hd⟩)
 |str b=>exact .inr (.inr<|.inr ⟨b,rfl,hd⟩)
 |lst ds=>obtain⟨p,vs,rfl,_⟩:=hd;cases fx
 |tup ds=>obtain⟨p,vs,rfl,_⟩:=hd;cases fx
 |jf _ _=>exact absurd pd (by cases n<;>exact id)
 |mr _=>exact absurd pd (by cases n<;>exact id)
 |obj _ _ _=>exact absurd pd (by cases n<;>exact id)
 |qP _ _=>exact absurd pd (by cases n<;>exact id)
 |fn _=>exact absurd pd (by cases n<;>exact id)
def GN (I:Inv X fb σ H s)(n:Nat)(A:Around)(ds es:ak D)(vs ws:ak V)(fE vk:ak aj)(p q:ai)(hu:A.units<cLine)
 (ih:∀(d e:D) (x y:V) (u v:aj),xr n d->xr n e->iP φ H d x->iP φ H e y->fW x u->fW y v->SeqAt.EqAt A.in1 s u v (sO d e)) (pd:AZ n ds) (pe:AZ n es) (hd:fB φ H ds vs) (he:fB φ H es ws) (rv:fT vs fE) (Cn:fT ws vk):
 (s.heap.IsList p fE.toArray->s.heap.IsList q vk.toArray->SeqAt.RcAt A s (.ref p) (.ref q) (pf ds es))/\(s.heap.IsTuple p fE.toArray->s.heap.IsTuple q vk.toArray->SeqAt.RcAt A s (.ref p) (.ref q) (pf ds es)):=by
 have l1:fE.toArray.size=ds.length:=by rw[au,<- rv.length,hd.len]
 have l2:vk.toArray.size=es.length:=by rw[au,<- Cn.length,he.len]
 have el:∀ j (h1:j<fE.toArray.size) (h2:j<vk.toArray.size),SeqAt.EqAt A.in1 s fE.toArray[j] vk.toArray[j] (vw ds es j):=λj h1 h2=>by
  refine fj (wM rv h1) λx ex rx=>?_;refine fj (wM Cn h2) λy ey ry=>?_;refine fj (hd.zL ex) λd ed V7=>?_;refine fj (he.zL ey) λe ee ie=>?_;have q:vw ds es j=sO d e:=by delta vw;rw[ed,ee]
  rw[q];exact ih d e x y _ _ (qh pd ed) (qh pe ee) V7 ie rx ry
 constructor
 .intro hl hq;by_cases hlen:ds.length=es.length
  .have:=SeqAt.RcAt.lists hl hq (by rw[l1,l2,hlen]) hu el;rwa [l1,lR ds es hlen]at this
  .rw[oB hlen];exact SeqAt.RcAt.lists_lengths hl hq (by rw[l1,l2];simpa using hlen) hu
 .intro hl hq;have:=SeqAt.RcAt.tuples hl hq hu el;rw[l1,l2]at this;by_cases hlen:ds.length=es.length
  .rw[<- hlen,Nat.min_self,lR ds es hlen]at this;simpa using this
  .rw[oB hlen];have e0:(ds.length==es.length)=false:=by simpa using hlen
   rwa [e0,eL]at this
def IJ (I:Inv X fb σ H s):∀(n:Nat) (A:Around) (d e:D) (x y:V) (u v:aj),A.units+n<cLine->xr n d->xr n e->iP φ H d x->iP φ H e y->fW x u->fW y v->SeqAt.EqAt A s u v (sO d e):=by
 intro n;induction n with
 | zero =>
  intro A d e x y u v hu pd pe hd he ru rv;have fl:∀ {d:D} {x:V},xr 0 d->iP φ H d x->kR x=true:=λ{d x} pd hd=>by
   cases d with
   |gz=>subst hd;rfl
   |bl b=>subst hd;rfl
   |int b=>cases(show x=_ from hd);rfl
   |str b=>cases(show x=_ from hd);rfl
   |_=>exact False.elim pd
  have q:=BH (A:=A) (s:=s) ru rv (fl pd hd)<|fl pe he;have eq:IH x y=sO d e:=by
   cases d <;> first
    |exact False.elim pd
    | (cases(show x=_ from hd)
       cases e <;> first
        |exact False.elim pe
        |(cases(show y=_ from he);rfl))
  rw[eq]at q;exact q
 | succ n ih =>
  intro A d e x y u v hu pd pe hd he ru rv;have xU:A.units<cLine:=by lia
  have hu1:A.in1.units+n<cLine:=by show A.units+1+n<cLine;lia
  rcases tW I pd hd ru with fd|⟨p,fE,ds,vs,rfl,r1,a1,m1,e1,p1,k1⟩
  .rcases tW I pe he rv with fe | ⟨q,vk,es,ws,rfl,r2,a2,m2,e2,p2,k2⟩
   .have fl:∀ {d:D} {x:V} {u:aj},xr (n+1) d->iP φ H d x->fW x u->(∀ p,u≠.ref p)->kR x=true:=λ{d x u} pd hd ru fu=>by
     cases d with
     |gz=>cases(show x=_ from hd);rfl
     |bl b=>cases(show x=_ from hd);rfl
     |int b=>cases(show x=_ from hd);rfl
     |str b=>cases(show x=_ from hd);rfl
     |lst ds=>obtain⟨p,vs,rfl,_⟩:=hd;cases ru;exact absurd rfl (fu p)
     |tup ds=>obtain⟨p,vs,rfl,_⟩:=hd;cases ru;exact absurd rfl (fu p)
     |_=>exact False.elim pd
    have fx:=fl pd hd ru fd
    have fy:=fl pe he rv fe
    have q:=BH (A:=A) (s:=s) ru rv fx fy
    have eq:IH x y=sO d e:=by
     rcases Dp pd hd fx with⟨rfl,rfl⟩|⟨b,rfl,rfl⟩|⟨b,rfl,rfl⟩|⟨b,rfl,rfl⟩<;>
     rcases Dp pe he fy with⟨rfl,rfl⟩|⟨c,rfl,rfl⟩|⟨c,rfl,rfl⟩|⟨c,rfl,rfl⟩<;> (rfl)
    rw[eq]at q
    exact q
   .rcases k2 with⟨rfl,hl⟩ | ⟨rfl,hl⟩
    .cases d with
     |gz=>cases(show x=_ from hd);subst ru;exact SeqAt.EqAt.none_list hl xU
     |bl b=>cases(show x=_ from hd);cases ru;exact SeqAt.EqAt.bool_list b hl xU
     |int b=>cases(show x=_ from hd);obtain⟨t,rfl⟩:=ru;exact SeqAt.EqAt.int_list b t hl xU
     |str b=>cases(show x=_ from hd);obtain⟨t,rfl⟩:=ru;exact SeqAt.EqAt.str_list b t hl xU
     |lst _=>obtain⟨_,_,rfl,_⟩:=hd;cases ru;exact absurd rfl (fd _)
     |tup _=>obtain⟨_,_,rfl,_⟩:=hd;cases ru;exact absurd rfl (fd _)
     |_=>exact False.elim pd
    .cases d with
     |gz=>cases(show x=_ from hd);cases ru;exact SeqAt.EqAt.none_tuple hl xU
     |bl b=>cases(show x=_ from hd);cases ru;exact SeqAt.EqAt.bool_tuple b hl xU
     |int b=>cases(show x=_ from hd);obtain⟨t,rfl⟩:=ru;exact SeqAt.EqAt.int_tuple b t hl xU
     |str b=>cases(show x=_ from hd);obtain⟨t,rfl⟩:=ru;exact SeqAt.EqAt.str_tuple b t hl xU
     |lst _=>obtain⟨_,_,rfl,_⟩:=hd;cases ru;exact absurd rfl (fd _)
     |tup _=>obtain⟨_,_,rfl,_⟩:=hd;cases ru;exact absurd rfl (fd _)
     |_=>exact False.elim pd
  .rcases tW I pe he rv with fe | ⟨q,vk,es,ws,rfl,r2,a2,m2,e2,p2,k2⟩
   .rcases k1 with⟨rfl,hl⟩ | ⟨rfl,hl⟩
    .cases e with
     |gz=>cases(show y=_ from he);cases rv;exact SeqAt.EqAt.list_none hl xU
     |bl b=>cases(show y=_ from he);cases rv;exact SeqAt.EqAt.list_bool b hl xU
     |int b=>cases(show y=_ from he);obtain⟨t,rfl⟩:=rv;exact SeqAt.EqAt.list_int b t hl xU
     |str b=>cases(show y=_ from he);obtain⟨t,rfl⟩:=rv;exact SeqAt.EqAt.list_str b t hl xU
     |lst _=>obtain⟨_,_,rfl,_⟩:=he;cases rv;exact absurd rfl (fe _)
     |tup _=>obtain⟨_,_,rfl,_⟩:=he;cases rv;exact absurd rfl (fe _)
     |_=>exact False.elim pe
    .cases e with
     |gz=>cases(show y=_ from he);cases rv;exact SeqAt.EqAt.tuple_none hl xU
     |bl b=>cases(show y=_ from he);cases rv;exact SeqAt.EqAt.tuple_bool b hl xU
     |int b=>cases(show y=_ from he);obtain⟨t,rfl⟩:=rv;exact SeqAt.EqAt.tuple_int b t hl xU
     |str b=>cases(show y=_ from he);obtain⟨t,rfl⟩:=rv;exact SeqAt.EqAt.tuple_str b t hl xU
     |lst _=>obtain⟨_,_,rfl,_⟩:=he;cases rv;exact absurd rfl (fe _)
     |tup _=>obtain⟨_,_,rfl,_⟩:=he;cases rv;exact absurd rfl (fe _)
     |_=>exact False.elim pe
   .cases e1;cases e2;have rc:=GN I n A ds es vs ws fE vk p q xU (λd e x y u v a b c d' e' f'=>ih A.in1 d e x y u v hu1 a b c d' e' f') p1 p2 a1 a2 r1 r2;by_cases Wh:p=q
    .subst Wh;have hv:x=y:=ru.inj rv;subst hv;rw[z9 pd pe hd he];exact SeqAt.EqAt.same _
    .rcases k1 with⟨rfl,hl⟩ | ⟨rfl,hl⟩<;> rcases k2 with⟨rfl,sm⟩ | ⟨rfl,sm⟩
     .exact .of_refs Wh (rc.1 hl sm)
     .exact SeqAt.EqAt.list_tuple hl sm xU
     .exact SeqAt.EqAt.tuple_list hl sm xU
     .exact .of_refs Wh (rc.2 hl sm)
end
section
variable {X:Cx}
def Vy:D->D->ao (ak D×ak D)
 |.lst xs,.lst ys=>some (xs,ys)
 |.tup xs,.tup ys=>some (xs,ys)
 |_,_=>none
def OI (n:Nat)(neg:Bool):R2:=λx y H Q=>∃ φ d e,xr n d/\xr n e/\iP φ H d x/\iP φ H e y/\(Vy d e).isSome=true/\Q (.bl<|neg != sO d e) H
def B9 (I:Inv X fb σ H s)(pd:xr n d)(pe:xr n e)(hd:iP φ H d x)(he:iP φ H e y)(rx:fW x u)(ry:fW y v)(hs:(Vy d e).isSome=true):
 ∃ p q fE vk ds es vs ws m,u=.ref p/\v=.ref q/\n=m+1/\fT vs fE/\fT ws vk/\fB φ H ds vs/\fB φ H es ws/\AZ m ds/\AZ m es/\((d=.lst ds/\e=.lst es/\s.heap.IsList p fE.toArray/\s.heap.IsList q vk.toArray)\/(d=.tup ds/\e=.tup es/\s.heap.IsTuple p fE.toArray/\s.heap.IsTuple q vk.toArray)):=by
 rcases tW I pd hd rx with fd|⟨p,fE,ds,vs,rfl,r1,a1,m1,rfl,p1,k1⟩
 .cases d with
  |lst _=>obtain⟨_,_,rfl,_⟩:=hd;subst rx;exact absurd rfl (fd _)
  |tup _=>obtain⟨_,_,rfl,_⟩:=hd;subst rx;exact absurd rfl (fd _)
  |_=>cases hs
 .rcases tW I pe he ry with fe | ⟨q',vk,es,ws,rfl,r2,a2,m2,e2,p2,k2⟩
  .rcases k1 with⟨rfl,_⟩ | ⟨rfl,_⟩
   .cases e with
    |lst _=>obtain⟨_,_,rfl,_⟩:=he;subst ry;exact absurd rfl (fe _)
    |_=>cases hs
   .cases e with
    |tup _=>obtain⟨_,_,rfl,_⟩:=he;subst ry;exact absurd rfl (fe _)
    |_=>cases hs
  .cases e2;refine⟨p,q',fE,vk,ds,es,vs,ws,m1,rfl,rfl,rfl,r1,r2,a1,a2,p1,p2,?_⟩;rcases k1 with⟨rfl,hl⟩|⟨rfl,hl⟩<;> rcases k2 with⟨rfl,sm⟩|⟨rfl,sm⟩
   .exact .inl ⟨rfl,rfl,hl,sm⟩
   .cases hs
   .cases hs
   .exact .inr ⟨rfl,rfl,hl,sm⟩
def Qs (hu:X.A.units+n<cLine):jM X (compareOp .Eq) (OI n false):=by
 intro fb s σ H x y u v Q I rx ry h;refine IP h λφ d e pd pe hd he hs q=>?_;obtain⟨p,q',fE,vk,ds,es,vs,ws,m1,rfl,rfl,rfl,r1,r2,a1,a2,p1,p2,kk⟩:=B9 I pd pe hd he rx ry hs;have rc:=GN I m1 X.A ds es vs ws fE vk p q' (by lia) (λd e x y u v a b c d' e' f'=>IJ I m1 X.A.in1 d e x y u v (by lia) a b c d' e' f') p1 p2 a1 a2 r1 r2;rcases kk with⟨rfl,rfl,hl,sm⟩|⟨rfl,rfl,hl,sm⟩
 .exact rc.1 hl sm X.prog X.w X.xe _ ⟨.bl _,H,I,rfl,by rw[S9]at q;exact q⟩
 .exact rc.2 hl sm X.prog X.w X.xe _ ⟨.bl _,H,I,rfl,by rw[S9]at q;exact q⟩
def O9 (hu:X.A.units+n<cLine):jM X (compareOp .NotEq) (OI n true):=by
 intro fb s σ H x y u v Q I rx ry h;refine IP h λφ d e pd pe hd he hs q=>?_;obtain⟨p,q',fE,vk,ds,es,vs,ws,m1,rfl,rfl,rfl,r1,r2,a1,a2,p1,p2,kk⟩:=B9 I pd pe hd he rx ry hs;have l1:fE.toArray.size=ds.length:=by rw[au,<- r1.length,a1.len]
 have l2:vk.toArray.size=es.length:=by rw[au,<- r2.length,a2.len]
 have el:∀ j (h1:j<fE.toArray.size) (h2:j<vk.toArray.size),SeqAt.EqAt X.A.in1 s fE.toArray[j] vk.toArray[j] (vw ds es j):=λj h1 h2=>by
  refine fj (wM r1 h1) λx ex rx=>?_;refine fj (wM r2 h2) λy ey ry=>?_;refine fj (a1.zL ex) λd ed V7=>?_;refine fj (a2.zL ey) λe ee ie=>?_;have q:vw ds es j=sO d e:=by delta vw;rw[ed,ee]
  rw[q];exact IJ I m1 X.A.in1 d e x y _ _ (by lia) (qh p1 ed) (qh p2 ee) V7 ie rx ry
 have fin:Q (.bl<|!pf ds es) H->EP X fb σ Q (.bool<|!pf ds es) s:=λq=>⟨.bl _,H,I,rfl,q⟩;rcases kk with⟨rfl,rfl,hl,sm⟩|⟨rfl,rfl,hl,sm⟩
 .rw[UC]at q;by_cases hlen:ds.length=es.length
  .have:=SeqAt.RcNeAt.lists hl sm (by rw[l1,l2,hlen]) (by lia) el;rw[l1,lR ds es hlen]at this;exact this X.prog X.w X.xe _ (fin q)
  .have t:=fin q;rw[oB hlen]at t;exact SeqAt.RcNeAt.lists_lengths hl sm (by rw[l1,l2];simpa using hlen) (by lia) X.prog X.w X.xe _ t
 .rw[UC]at q;have this:=SeqAt.RcNeAt.tuples hl sm (by lia) el;rw[l1,l2]at this;by_cases hlen:ds.length=es.length
  .rw[<- hlen,Nat.min_self,lR ds es hlen]at this;exact this X.prog X.w X.xe _ (by simpa using fin q)
  .have t:=fin q;rw[oB hlen]at t;have e0:(ds.length==es.length)=false:=by simpa using hlen
   rw[e0,eL]at this;exact this X.prog X.w X.xe _ t
def Xp (n:Nat)(neg:Bool):Ar:=λx y μ K=>xr n x/\xr n y/\(Vy x y).isSome=true/\K (.bl<|neg != sO x y) μ
def GB:pq (OI n neg) (Xp n neg):=λφ H x y dx dy μ K Q M hx hy k L=>⟨φ,dx,dy,k.1,k.2.1,hx,hy,k.2.2.1,L.val M k.2.2.2 rfl⟩
end
def nu:D->Bool
 |.gz=>true
 |.bl _=>true
 |.int _=>true
 |.str _=>true
 |_=>false
section
variable {X:Cx}
def GU (neg:Bool):R2:=λx y H Q=>match x,y with
 |.str z,.str t=>∃ c:Nat,z=⟨#[c]⟩/\Q (.bl<|neg != decide (c∈t.cps.toList)) H
 |x,.ref p=>∃ xs,(H p=some (.lst xs)\/H p=some (.tup xs))/\kR x=true/\xs.all kR=true/\Q (.bl<|neg != Ra x xs) H
 |_,_=>False
def Yk:jM X (compareOp .In) (GU false):=(EG.or EH).imp λx y H Q q=>by
 delta GU at q;split at q
 .obtain⟨c,rfl,q⟩:=q;exact .inl ⟨_,_,rfl,rfl,by rw[StrLaws.found_one];rw[S9]at q;exact q⟩
 .refine sN q λxs h h1 h2 q=>?_;rw[S9]at q;rcases h with h|h
  .exact .inr ⟨_,xs,rfl,.inl<|oH.of h,h1,h2,q⟩
  .exact .inr ⟨_,xs,rfl,.inr<|Fx.of h,h1,h2,q⟩
 .exact q.elim
def O6:jM X (compareOp .NotIn) (GU true):=(xx.or xA).imp λx y H Q q=>by
 delta GU at q;split at q
 .obtain⟨c,rfl,q⟩:=q;exact .inl ⟨_,_,rfl,rfl,by rw[StrLaws.found_one];rw[UC]at q;exact q⟩
 .refine sN q λxs h h1 h2 q=>?_;rw[UC]at q;rcases h with h|h
  .exact .inr ⟨_,xs,rfl,.inl<|oH.of h,h1,h2,q⟩
  .exact .inr ⟨_,xs,rfl,.inr<|Fx.of h,h1,h2,q⟩
 .exact q.elim
end
def Xn (neg:Bool):Ar:=λx y μ K=>match x,y with
 |.str z,.str t=>∃ c:Nat,z=⟨#[c]⟩/\K (.bl<|neg != decide (c∈t.cps.toList)) μ
 |x,y=>opt (lv μ y) λds=>nu x=true/\ds.all nu=true/\K (.bl<|neg != ds.any λd=>sO d x) μ
def Im (i:iP φ H d v)(h:nu d=true):kR v=true:=by cases d<;>first|exact(Bool.noConfusion h)|(subst i;rfl)
def Qn (i:iP φ H d v)(j:iP φ H e u)(h:nu d=true)(h':nu e=true):IH v u=sO d e:=by
 cases d <;> first
  |exact(Bool.noConfusion h)
  | (subst i
     cases e <;> first
      |exact(Bool.noConfusion h')
      |(subst j;rfl))
theorem Dn (i:iP φ H x v)(hx:nu x=true):∀ {ds:ak D} {vs:ak V},fB φ H ds vs->ds.all nu=true->vs.all kR=true/\Ra v vs=ds.any λd=>sO d x
 |[],_,h,_=>by subst h;exact⟨rfl,rfl⟩
 | d::ds,_,h,f=>by
  obtain⟨u,r,rfl,h1,h2⟩:=h;rw[dm,cu]at f;refine lQ (Dn i hx h2 f.2) λa b=>?_;unfold Ra at b ⊢
  rw[dm,c5,c5,a,b,Im h1 f.1,Qn h1 i f.1 hx];exact⟨rfl,rfl⟩
def GA:pq (GU neg) (Xn neg):=λφ H x y dx dy μ K Q M hx hy k L=>by
 delta Xn at k;split at k
 .subst hx;subst hy;obtain⟨c,rfl,k⟩:=k;exact⟨c,rfl,L.val M k rfl⟩
 .refine sN (gR k) λds el f1 f2 k=>?_;refine fZ (jA M hy el) λp vs fV hp ha=>?_;subst fV;refine lQ (Dn hx f1 ha f2) λa b=>?_;have fx:=Im hx f1;have key:∃ xs,(H p=some (.lst xs)\/H p=some (.tup xs))/\kR x=true/\xs.all kR=true/\Q (.bl<|neg != Ra x xs) H:=⟨vs,.inl hp,fx,a,b▸L.val M k rfl⟩;cases x<;>exact key
def UA:D->MS->ao String
 |.gz,_=>some "NoneType"
 |.bl _,_=>some "bool"
 |.int _,_=>some "int"
 |.str _,_=>some "str"
 |.lst _,_=>some "list"
 |.tup _,_=>some "tuple"
 |.jf _ _,_=>some "dict"
 |.mr k,μ=>match μ[k]? with|some (.lst _)=>some "list" | some (.jf _ _)=>some "dict" | _=>none
 |.obj _ _ _,_=>none
 |.qP _ _,_=>none
 |.fn _,_=>none
def PJ (t T:String):Bool:=t==T||(t == "bool"&&T == "int")
def Xm (T:String)(w:De):De:=λρ μ K=>w ρ μ λd fM=>opt (UA d fM) λt=>K (.bl<|PJ t T) fM
def Pp (K:aa)(ht:t∈["NoneType","bool","int","str","list","tuple","dict"])(hT:T∈["bool","int","str","list","tuple","dict"]):W.kitOne K (.type t) (.type T)=some (PJ t T):=by simp at ht hT;rcases ht with rfl|rfl|rfl|rfl|rfl|rfl|rfl<;>rcases hT with rfl|rfl|rfl|rfl|rfl|rfl<;>first|rfl|exact iI K _
def N9 (M:fU φ H μ)(i:iP φ H d v)(e:UA d μ=some t):jw Kf H v (.type t)/\t∈["NoneType","bool","int","str","list","tuple","dict"]:=by
 cases d with
 |gz=>cases e;subst i;exact⟨.gz,by simp⟩
 |bl b=>cases e;subst i;exact⟨.bl b,by simp⟩
 |int b=>cases e;subst i;exact⟨.int b,by simp⟩
 |str b=>cases e;subst i;exact⟨.str b,by simp⟩
 |lst ds=>cases e;obtain⟨p,vs,rfl,_,hp,_⟩:=i;exact⟨.lst hp,by simp⟩
 |tup ds=>cases e;obtain⟨p,vs,rfl,_,hp,_⟩:=i;exact⟨.tup hp,by simp⟩
 |jf ks ds=>cases e;obtain⟨p,fw,vs,rfl,_,hp,_⟩:=i;exact⟨.dK hp,by simp⟩
 |obj _ _ _=>cases e
 |qP _ _=>cases e
 |fn _=>cases e
 | mr k =>
  delta UA at e;dsimp only at e;obtain⟨p,hp,rfl⟩:=i;cases em:μ[k]? with
  |none=>rw[em]at e;cases e
  | some m =>
   rw[em]at e;refine fj (M.at_ k m em) λq e1 e2=>?_;rw[hp]at e1;cases e1;cases m with
   |box=>cases e
   |lst ds=>cases e;obtain⟨vs,hv,_⟩:=e2;exact⟨.lst hv,by simp⟩
   |jf ks ds=>cases e;obtain⟨fw,vs,hv,_⟩:=e2;exact⟨.dK hv,by simp⟩
   |_=>cases e
def NP (hT:T∈["bool","int","str","list","tuple","dict"])(hg:Gl X "isinstance")(hm:X.mg "isinstance"=none)(Qg:Gl X x)(Qe:X.mg x=none)(hv:bootBuiltins x=some (.type T))(ha:PD X a w)(hn:x ≠ "__name__":=by decide)(hd:(x==("__debug__" : Str))=false:=by decide)
 (hs:starEach [a,.Name x p2] X.env=(false,eval a X.env)::starEach [.Name x p2] X.env:=by rfl) (sj:starEach [.Name x p2] X.env=(false,eval (.Name x p2) X.env)::starEach [] X.env:=by rfl) (oz:(backTo pos<|starEach [.Name x p2] X.env).any (·.1)=false:=by rfl):
 PD X (.Call (.Name "isinstance" p) [a,.Name x p2] [] pos) (Xm T w):=
 (gL pS hg hm boot_isinstance (fJ ha (fJ (iZ (v:=.ty T) Qg Qe hv rfl hn hd) gZ sj) hs) (by decide) rfl hs oz).imp λσ H Q h_=>gG h_ λφ ρ μ K A M k L=>by refine⟨φ,ρ,μ,_,A,M,k,λd fM gy v1 H1 k1 f1 M1 i1=>?_⟩;refine fj (gR k1) λt et k1=>?_;obtain⟨h1,h2⟩:=N9 M1 i1 et;exact⟨.type t,PJ t T,h1,Pp X.K h2 hT,L _ fM gy _ H1 k1 f1 M1 rfl⟩
def Q1 (H:Hp)(b q:ai):Prop:=∃(ns:ak Int) (i r z:Int),H b=some (.lst [.ref q,.int i,.int r,.int z])/\H q=some (.lst<|ns.map V.int)/\q≠b/\0<=i/\0<=z/\z<2147483647
def sT:Sp:=λvs H Q _=>match vs with
 |[.ref b,.int n]=>∃ q,Q1 H b q/\0<n/\n<1073741824/\∀ v H',0<=v->v<n->Q1 H' b q->OB b H H'->Q (.int v) H'
 |_=>False
def rW (h:sT vs H Q E):∃ b n q,vs=[.ref b,.int n]/\Q1 H b q/\0<n/\n<1073741824/\∀ v H',0<=v->v<n->Q1 H' b q->OB b H H'->Q (.int v) H':=by
 delta sT at h;split at h
 .obtain⟨q,h⟩:=h;exact⟨_,_,q,rfl,h⟩
 .cases h
def Iv:lp:=λds μ K=>dM [.m,.i] ds λk n=>μ[k]?=some .box/\0<n/\n<1073741824/\∀ v,0<=v->v<n->K (.int v) μ
def Gi (h:iD Iv vs H Q E):sT vs H Q E:=by
 obtain⟨φ,ds,μ,K,ha,M,k,L⟩:=h;obtain⟨kk,n,rfl,k⟩:=dJ k;obtain⟨v,r,rfl,h1,u,r',rfl,h2,h3⟩:=ha;cases h3;cases h2;obtain⟨b,hb,rfl⟩:=h1;obtain⟨em,hn,FG,k⟩:=k;obtain⟨b',e1,q,ns,i,r,z,g1,g2,g3,g4,g5,g6⟩:=M.at_ kk _ em;rw[hb]at e1;cases e1;have bin:=lC hb;have qb:q≠b:=λe=>g3 (by rwa [e]);refine⟨q,⟨ns,i,r,z,g1,g2,qb,g4,g5,g6⟩,hn,FG,λv H' v0 v1 B' ob=>?_⟩;obtain⟨ns',i',r',z',b1,b2,b3,b4,b5,b6⟩:=B';have f:Fr φ H φ H':=⟨⟨[],by simp,λ_ h=>nomatch h⟩,λc o hc e=>(ob c λe'=>hc<|by rwa [e']).trans e,λc e=>by
  by_cases hc:c=b
  .rw[hc,b1]at e;cases e
  .rw[<- ob c hc];exact e⟩
 refine L _ μ φ _ H' (k v v0 v1) f ⟨M.nd,M.len,λj m ej=>?_⟩ rfl;by_cases hj:j=kk
 .subst hj;rw[em]at ej;cases ej;exact⟨b,hb,q,ns',i',r',z',b1,b2,g3,b4,b5,b6⟩
 .obtain⟨p,e1,e2⟩:=M.at_ j m ej;refine⟨p,e1,e2.mono f λo eo=>?_⟩;have pb:p≠b:=λe=>by
   subst e;obtain⟨i1,r1⟩:=kP hb;obtain⟨i2,r2⟩:=kP e1;rcases Nat.lt_or_gt_of_ne hj with z|z
   .exact List.pairwise_iff_getElem.mp M.nd j kk i2 i1 z (r2.trans r1.symm)
   .exact List.pairwise_iff_getElem.mp M.nd kk j i1 i2 z (r1.trans r2.symm)
  rwa [ob p pb]
def wZ (K:aa):Sp:=λvs H Q _=>match vs with
 |[.ref a]=>∃ ns:ak Int,oH K H a (ns.map V.int)/\∀ b q H',Q1 H' b q->H b=none->H q=none->gW H H'->Q (.ref b) H'
 |_=>False
def Fu (h:Q1 H b q):fU [b] H [.box]:=by
 refine x6 h λns i r z h1 h2 h3 h4 h5 h6=>?_;refine⟨by simp,rfl,λk m e=>?_⟩;cases k with
 |zero=>cases e;exact⟨b,rfl,q,ns,i,r,z,h1,h2,by simpa using h3,h4,h5,h6⟩
 |succ k=>cases e
mutual
def Av:Nat->D->Prop
 |n+1,.lst ds=>ds.length<=100000/\JY n ds
 |n+1,.tup ds=>ds.length<=100000/\JY n ds
 |0,.lst _=>False
 |0,.tup _=>False
 |_,.jf _ _=>False
 |_,.mr _=>False
 |_,.obj _ _ _=>False
 |_,.qP _ _=>False
 |_,.fn _=>False
 |_,_=>True
def JY:Nat->List D->Prop
 |_,[]=>True
 |n,d::ds=>Av n d/\JY n ds
end
theorem xk:∀ {ds:ak D},(∀ d∈ds,Av n d)->JY n ds
 |[],_=>by trivial
 |d::ds,h=>⟨h d aH,xk λx hx=>h x<|mQ _ hx⟩
def xi {n:Nat}{ds:ak D}(hl:ds.length<=100000)(h:∀ d∈ds,Av n d):Av (n+1) (.lst ds):=⟨hl,xk h⟩
def Ou {n:Nat}{ds:ak D}(hl:ds.length<=100000)(h:∀ d∈ds,Av n d):Av (n+1) (.tup ds):=⟨hl,xk h⟩
def tV {n:Nat}{i:Int}:Av n (.int i):=by cases n<;>trivial
mutual
theorem tU:∀ {n:Nat} {d:D},Av n d->xr n d:=λ{n d} h=>by
 cases d with
 | lst ds =>
  cases n with
  |zero=>exact absurd h id
  |succ n=>exact AO h.2
 | tup ds =>
  cases n with
  |zero=>exact absurd h id
  |succ n=>exact AO h.2
 |jf _ _=>exact absurd h (by cases n<;>exact id)
 |mr _=>exact absurd h (by cases n<;>exact id)
 |obj _ _ _=>exact absurd h (by cases n<;>exact id)
 |qP _ _=>exact absurd h (by cases n<;>exact id)
 |fn _=>exact absurd h (by cases n<;>exact id)
 |_=>cases n<;>trivial
theorem AO:∀ {n:Nat} {ds:List D},JY n ds->AZ n ds:=λ{n ds} h=>by
 cases ds with
 |nil=>unfold AZ;trivial
 |cons d ds=>unfold JY at h;unfold AZ;exact⟨tU h.1,AO h.2⟩
end
mutual
def sG:D->DV
 |.gz=>.gz
 |.bl b=>.bl b
 |.int i=>.int i
 |.str z=>.str z
 |.lst ds=>.lst (og ds)
 |.tup ds=>.tup (og ds)
 |_=>.gz
def og:List D->List DV
 |[]=>[]
 |d::ds=>sG d::og ds
end
theorem qQ:∀ ds:ak D,(og ds).length=ds.length
 |[]=>rfl
 |d::ds=>by unfold og;rw[aE,aE,qQ ds]
mutual
theorem oi {φ:List ai}{H:Hp}:∀ {n:Nat} {d:D},Av n d->(∀ v,iP φ H d v->Is H (sG d) v)/\dep (sG d)<=n/\JV (sG d)<=100000:=λ{n d} h=>by
 cases d with
 | lst ds =>
  cases n with
  |zero=>exact absurd h id
  | succ n =>
   have h:_/\JY n _:=h;obtain⟨a,b,c⟩:=xj (φ:=φ) (H:=H) h.2;refine⟨λv hv=>?_,?_,?_⟩
   .obtain⟨p,vs,rfl,_,hp,q⟩:=hv;unfold sG;exact⟨p,vs,rfl,hp,a vs q⟩
   .unfold sG dep;lia
   .have:=qQ ds;unfold sG JV;lia
 | tup ds =>
  cases n with
  |zero=>exact absurd h id
  | succ n =>
   have h:_/\JY n _:=h;obtain⟨a,b,c⟩:=xj (φ:=φ) (H:=H) h.2;refine⟨λv hv=>?_,?_,?_⟩
   .obtain⟨p,vs,rfl,_,hp,q⟩:=hv;unfold sG;exact⟨p,vs,rfl,hp,a vs q⟩
   .unfold sG dep;lia
   .have:=qQ ds;unfold sG JV;lia
 |gz=>exact⟨λv hv=>hv,aS _,aS _⟩
 |bl b=>exact⟨λv hv=>hv,aS _,aS _⟩
 |int b=>exact⟨λv hv=>hv,aS _,aS _⟩
 |str b=>exact⟨λv hv=>hv,aS _,aS _⟩
 |jf _ _=>exact absurd h (by cases n<;>exact id)
 |mr _=>exact absurd h (by cases n<;>exact id)
 |obj _ _ _=>exact absurd h (by cases n<;>exact id)
 |qP _ _=>exact absurd h (by cases n<;>exact id)
 |fn _=>exact absurd h (by cases n<;>exact id)
theorem xj {φ:List ai}{H:Hp}:∀ {n:Nat} {ds:List D},JY n ds->(∀ vs,fB φ H ds vs->lj H (og ds) vs)/\vn (og ds)<=n/\u5 (og ds)<=100000:=λ{n ds} h=>by
 cases ds with
 |nil=>exact⟨λvs hv=>hv,aS _,aS _⟩
 | cons d ds =>
  unfold JY at h;obtain⟨a,b,c⟩:=oi (φ:=φ) (H:=H) h.1;obtain⟨a',b',c'⟩:=xj (φ:=φ) (H:=H) h.2;refine⟨λvs hv=>?_,?_,?_⟩
  .obtain⟨v,r,rfl,h1,h2⟩:=hv;unfold og;exact⟨v,r,rfl,a v h1,a' r h2⟩
  .unfold og vn;lia
  .unfold og u5;lia
end
def LS (μ:MS):D->ao D
 |.mr k=>(zx μ k).map .lst
 |x=>some x
def Di (M:fU φ H μ)(e:LS μ x=some d)(hs:Av n d)(h:iP φ H x v):Is H (sG d) v:=by
 cases x with
 | mr k =>
  obtain⟨p,hp,rfl⟩:=h;have e':(zx μ k).map D.lst=some d:=e;cases q:zx μ k with
  |none=>rw[q]at e';cases e'
  | some ds =>
   rw[q]at e';cases e';obtain⟨p',e1,vs,hv,ha⟩:=M.at_ k _<|ni q;rw[hp]at e1;cases e1;cases n with
   |zero=>exact absurd hs id
   | succ n =>exact⟨p,vs,rfl,hv,(xj (H:=H) hs.2).1 vs ha⟩
 |gz=>cases e;exact(oi (H:=H) hs).1 v h
 |bl b=>cases e;exact(oi (H:=H) hs).1 v h
 |int b=>cases e;exact(oi (H:=H) hs).1 v h
 |str b=>cases e;exact(oi (H:=H) hs).1 v h
 |lst b=>cases e;exact(oi (H:=H) hs).1 v h
 |tup b=>cases e;exact(oi (H:=H) hs).1 v h
 |obj _ _ _=>cases e;exact(oi (H:=H) hs).1 v h
 |qP _ _=>cases e;exact(oi (H:=H) hs).1 v h
 |fn _=>cases e;exact(oi (H:=H) hs).1 v h
 |jf _ _=>cases e;exact absurd hs (by cases n<;>exact id)
theorem jc (hc:c μ)(f:D->ao D):∀ {ds:ak D} {K:ak D->MS->Prop},(∀ d∈ds,∀(K':ao D->MS->Prop),K' (f d) μ->it d μ K')->K (ds.filterMap f) μ->pB it c ds μ K
 |[],K,_,k=>⟨hc,k⟩
 | d::ds,K,h,k=>⟨hc,h d aH _ (jc hc f (λx hx=>h x<|mQ _ hx) (by
  cases e:f d with
  |none=>rw[List.filterMap_cons_none e]at k;exact k
  |some y=>rw[List.filterMap_cons_some e]at k;exact k))⟩
theorem wq (Pv:ak D->ak D->MS->Prop):∀ {ds:ak D} {μ:MS} {ys:ak D} {K:ak D->MS->Prop},Pv ds ys μ->(∀ d lW ys μ,Pv (d::lW) ys μ->c μ/\∀(K':ao D->MS->Prop),(∀ o fI,Pv lW (ys++o.toList) fI->K' o fI)->it d μ K')->(∀ ys μ,Pv [] ys μ->c μ)->(∀ zs μ,Pv [] (ys++zs) μ->K zs μ)->pB it c ds μ K
 |[],μ,ys,K,h,hs,hc,hk=>⟨hc ys μ h,hk [] μ<|by rwa [a8]⟩
 | d::ds,μ,ys,K,h,hs,hc,hk=>by let ⟨c',st⟩:=hs d ds ys μ h;exact⟨c',st _ λo fI h'=>wq Pv h' hs hc λzs iA h2=>hk _ iA<|by rwa [<- cC]⟩
theorem iK (Pv:ak D->DE->MS->Prop):∀ {ds:ak D} {ρ:DE} {μ:MS},Pv ds ρ μ->(∀ d lW ρ μ,Pv (d::lW) ρ μ->c μ/\∀(nx:DE->MS->Prop),(∀ j5 fI,Pv lW j5 fI->nx j5 fI)->g d ρ μ λnZ iA=>b { N with nx:=nx,ct:=nx,bk:=N.nx} nZ iA)->(∀ ρ μ,Pv [] ρ μ->c μ/\N.nx ρ μ)->zO g b N c ds ρ μ
 |[],ρ,μ,h,hs,hd=>hd ρ μ h
 | d::ds,ρ,μ,h,hs,hd=>by refine lQ (hs d ds ρ μ h) λc' st=>?_;exact⟨c',st _ λj5 fI h'=>iK Pv h' hs hd⟩
structure mX (mg:Str->Option aj):Prop where
 len:mg "len"=none
 range:mg "range"=none
 list:mg "list"=none
 isinstance:mg "isinstance"=none
 max:mg "max"=none
 min:mg "min"=none
 bool:mg "bool"=none
 tuple:mg "tuple"=none
 str:mg "str"=none
 int:mg "int"=none
 all:mg "all"=none
 any:mg "any"=none
 zip:mg "zip"=none
 enumerate:mg "enumerate"=none
 reversed:mg "reversed"=none
 dict:mg "dict"=none
 sorted:mg "sorted"=none
abbrev txt (l:ak Nat):Str:=⟨l.toArray⟩
def NK:lp:=λds μ K=>dM [.m,.i] ds λk n=>μ[k]?=some .box/\1<=n/\n<=1000/\∀ l:ak Nat,l.length=n.toNat->OX l->K (.str<|txt l) μ
structure Cuts (n:Int)(cs:List Int):Prop where
 J6:∀ c∈cs,1<=c/\c<n
 up:cs.Pairwise (·<·)
def NJ:lp:=λds μ K=>dM [.m,.i] ds λk n=>μ[k]?=some .box/\1<=n/\n<=1000/\∀ cs:ak Int,cs.length<=n.toNat->Cuts n cs->K (.lst<|cs.map D.int) μ
def B8 (l:ak Nat):D:=.str (txt l)
def Good (n:Int)(ls:ak (ak Nat)):Prop:=∀ l∈ls,(l.length:Int)=n/\OX l
def zR:lp:=λds μ K=>dM [.m,.i,.l,.m] ds λk n cs t=>μ[k]?=some .box/\k≠t/\1<=n/\n<=1000/\∃(pj:ak Int) (ls:ak (ak Nat)),cs=pj.map D.int/\pj.length<=1000/\Cuts n pj/\μ[t]?=some (.lst<|ls.map B8)/\ls≠[]/\ls.length<=100/\Good n ls /\
 ∀ oV:ak (ak Nat),oV.length=ls.length->Good n oV->K (.mr t) (μ.set t<|.lst<|oV.map B8)
abbrev Tk:=ak Nat×Int
def rV (t:Tk):D:=.tup [.str (txt t.1),.int t.2]
structure Eb (n:Int)(ts:List Tk):Prop where
 oA:ts.length<=20
 ok:∀ t∈ts,(t.1.length:Int)=n/\OX t.1/\0<=t.2/\t.2<=60
def NI:lp:=λds μ K=>dM [.i,.v] ds λn x=>∃ cs:ak Int,lv μ x=some (cs.map D.int)/\cs.length<=1000/\K (.lst<|(e9 n cs).map D.int) μ
def fO (n:Int)(cs:ak Int):(e9 n cs).length=cs.length+2:=by delta e9;simp
def zY (n:Int)(cs:ak Int):[D.int 0]++cs.map D.int++[D.int n]=(e9 n cs).map D.int:=by delta e9;simp
def sz (h:n<=100000):n<=sizeLine:=aK h (by decide)
def X5 (h:n<=100000):n<sizeLine:=bS h (by decide)
def Nk (es:ak Int):ak (Int×Int):=es.zip es.tail
def RZ (p:Int×Int):D:=.tup [.int p.1,.int p.2]
def Dy:lp:=λds μ K=>dM [.i,.v] ds λn x=>∃ cs:ak Int,lv μ x=some (cs.map D.int)/\cs.length<=1000/\K (.lst<|(Nk<|e9 n cs).map RZ) μ
def vq (l:ak Nat)(a b:Int):ak Nat:=j6 l (some a) (some b)
def bad (ts:ak Tk)(p:Int×Int):Bool:=ts.all λt=>decide (120∈vq t.1 p.1 p.2)
def jC (es:ak Int)(ts:ak Tk):ao (Int×Int):=(Nk es).find? (bad ts)
def R5:ao (Int×Int)->D
 |some p=>RZ p
 |none=>.gz
def IE:lp:=λds μ K=>dM [.i,.v,.v] ds λn x y=>∃(cs:ak Int) (ts:ak Tk),lv μ x=some (cs.map D.int)/\lv μ y=some (ts.map rV)/\cs.length<=1000/\Eb n ts/\n<=1000/\K (R5<|jC (e9 n cs) ts) μ
theorem rH (hc:c μ):∀ {ds:ak D} {K:ak D->MS->Prop},(∀ d∈ds,∀(K':ao D->MS->Prop),K' (some d) μ->K' none μ->it d μ K')->(∀ zs,zs.Sublist ds->K zs μ)->pB it c ds μ K
 |[],K,_,k=>⟨hc,k []<|.slnil⟩
 |d::ds,K,h,k=>⟨hc,h d aH _ (rH hc (λx hx=>h x<|mQ _ hx) λzs hz=>k _<|hz.cons₂ d)<|rH hc (λx hx=>h x<|mQ _ hx) λzs hz=>k _<|hz.cons d⟩
theorem rJ {α:Type}(g:α->D)(P:α->Prop){it:D->MS->(ao D->MS->Prop)->Prop}{c:MS->Prop}{μ:MS}(hc:c μ):∀ {ds:ak D} {K:ak D->MS->Prop},(∀ d∈ds,∀(K':ao D->MS->Prop),(∀ a,P a->K' (some<|g a) μ)->it d μ K')->(∀ as:ak α,as.length=ds.length->(∀ a∈as,P a)->K (as.map g) μ)->pB it c ds μ K
 |[],K,_,k=>⟨hc,k [] rfl λ_ h=>nomatch h⟩
 | d::ds,K,h,k=>⟨hc,h d aH _ λa ha=>rJ g P hc (λx hx=>h x<|mQ _ hx) λas hl hp=>k (a::as) (by rw[aE,aE,hl]) λx hx=>by
  rcases List.mem_cons.mp hx with e|e
  .rwa [e]
  .exact hp x e⟩
def Cp (lo:Int)(n:Nat):m9 lo n=((List.range n).map λi=>lo+(i:Nat)).map D.int:=by rw[bc];rfl
def i9 (lo:Int)(n:Nat):(m9 lo n).length=n:=by delta m9;rw[gQ,ur]
def GK {lo:Int}(h:d∈m9 lo n):∃ i:Nat,i<n/\d=.int (lo+i):=by refine fj (List.mem_map.mp h) λi hi fV=>?_;subst fV;exact⟨i,by simpa using hi,rfl⟩
def OE (lo:Int)(n:Nat):((List.range n).map λi=>lo+(i:Nat)).Pairwise (·<·):=by rw[eB];exact eK (λh=>by lia) dg
def yX {n:Int}{cs:ak Int}(h1:1<=n)(h:cs.Sublist ((List.range (n - 1).toNat).map λi=>1+((i:Nat):Int))):cs.length<=n.toNat/\Cuts n cs:=by
 refine⟨?_,λc hc=>?_,(OE 1 _).sublist h⟩
 .have:=h.length_le;rw[gQ,ur]at this;lia
 .obtain⟨i,hi,rfl⟩:=List.mem_map.mp<|h.subset hc;rw[bU]at hi;lia
def KA {α:Type}{g:α->D}{zs:ak D}{as:ak α}(h:zs.Sublist (as.map g)):∃ bs:ak α,bs.Sublist as/\zs=bs.map g:=by refine fj (List.sublist_map_iff.mp h) λbs hb e=>?_;exact⟨bs,hb,e⟩
def gr {n:Int}{cs:ak Int}(h1:1<=n)(h:Cuts n cs):(e9 n cs).Pairwise (·<·):=by
 delta e9;rw[List.cons_append,List.pairwise_cons];refine⟨λx hx=>?_,?_⟩
 .rcases List.mem_append.mp hx with q | q
  .have:=h.J6 x q;lia
  .rw[List.mem_singleton.mp q];assumption
 .rw[List.pairwise_append];exact⟨h.up,List.pairwise_singleton _ _,λx hx y hy=>by rw[List.mem_singleton.mp hy];exact(h.J6 x hx).2⟩
def iL {n:Int}{cs:ak Int}(h1:1<=n)(h:Cuts n cs){x:Int}(hx:x∈e9 n cs):0<=x/\x<=n:=by
 rcases List.mem_cons.mp hx with q|q
 .lia
 .rcases List.mem_append.mp q with q | q
  .have:=h.J6 x q;lia
  .rw[List.mem_singleton.mp q];lia
def kb {es:ak Int}(h:es.Pairwise (·<·)){i j:Nat}{a b:Int}(hi:es[i]?=some a)(hj:es[j]?=some b)(lH:i<j):a<b:=by refine kA (kP hi) λh1 r1=>?_;refine kA (kP hj) λh2 r2=>?_;have:=List.pairwise_iff_getElem.mp h i j h1 h2 lH;rwa [r1,r2]at this
def o4 {α β:Type}{g:α->β}{xs:ak α}{i:Nat}{a:α}(h:xs[i]?=some a):o5 (xs.map g) (i:Int)=some (g a):=lG (by rw[nX,h];rfl)
def kF (l:ak Nat):(txt l).length=l.length:=EU l
def yN (l:ak Nat):(txt l).cps.toList=l:=by simp
def tH {α:Type}(l:ak α)(lo hi:ao Int):(j6 l lo hi).length<=l.length:=Ag l lo hi
def lK {μ:MS}(h:μ[t]?=some m):μ.set t m=μ:=by
 refine cA λi=>?_;by_cases e:t=i
 .subst e;rw[aO (kP h).1,h]
 .rw[aW e]
def xn:(μ++[x]).set μ.length y=μ++[y]:=by rw[eP _ _ (aq _),a6];rfl
def QF {μ:MS}{x:D}{xs:ak D}{i:Int}{d:D}{K:DK}(e:lv μ x=some xs)(h:o5 xs i=some d)(k:K d μ):U4 x (.int i) μ K:=by
 cases x with
 |lst ds=>cases e;exact fA h k
 |mr j=>exact fA e (fA h k)
 |_=>cases e
def Af (l:ak Nat)(i j:Nat):vq l i j=(l.drop i).take (j - i):=by
 delta vq j6;rw[HT.lq,HT.lq];rcases Nat.le_total i l.length with q|q
 .rw[cj q];rcases Nat.le_total j l.length with z|z
  .rw[cj z]
  .rw[eW z,bL (bz▸aq _),bL (bz▸Nat.sub_le_sub_right z i)]
 .rw[eW q,bM (aq _),bM q,List.take_nil,List.take_nil]
def Cw:(Nk es)[i]?=(match es[i]?,es[i+1]? with | some a,some b=>some (a,b) | _,_=>none):=by delta Nk;rw[List.zip,bD,List.getElem?_tail];cases es[i]?<;>cases es[i+1]?<;>rfl
def MI (hr:iw k A)(hn:n<=64):A.units+n<cLine:=by have:=hr.units;lia
def LB:jZ [b] H (none::some (.mr 0)::List.replicate m none) (x::some (.ref b)::List.replicate m none):=by
 refine⟨by simp,λi d e=>?_⟩;cases i with
 |zero=>cases e
 | succ i =>
  cases i with
  |zero=>cases e;exact⟨_,rfl,b,rfl,rfl⟩
  | succ i =>have:=List.eq_of_mem_replicate<|lC e;cases this
def Sq:DN:={ nx:=λ_ _=>False,rt:=λd _=>d=.bl true}
def Po (B:Q1 H b q)(w:W Sq (none::some (.mr 0)::List.replicate m none) [.box])(k:∀ H',Q (.bl true) H'):Vr W { nx:=λ_ H'=>Q .gz H',rt:=Q} (some (.ref a)::some (.ref b)::List.replicate m none) H :=
 ⟨[b],_,[.box],Sq,LB,Fu B,w,⟨λ_ _ _ _ _ z=>z.elim,λd fI gg v H' kd _ _ i=>by subst kd;subst i;exact k H',λ_ _ _ _ _ z=>z.elim,λ_ _ _ _ _ z=>z.elim⟩⟩
section
variable {κ:Type}[DecidableEq κ]
def nU (fw:ak (κ×V))(k:κ):ao V:=(fw.find? λkv=>decide (kv.1=k)).map (·.2)
def putK (fw:ak (κ×V))(k:κ)(v:V):ak (κ×V) :=
 if(fw.any λkv=>decide (kv.1=k))=true then fw.map (λkv=>if kv.1=k then(kv.1,v)else kv)else fw++[(k,v)]
def n6 {p:κ×V}{r:ak (κ×V)}{k:κ}(e:p.1=k):nU (p::r) k=some p.2:=by simp[nU,cn,e]
def n8 {p:κ×V}{r:ak (κ×V)}{k:κ}(e:¬ p.1=k):nU (p::r) k=nU r k:=by simp[nU,cn,e]
theorem yM (k:κ):∀ fw:ak (κ×V),(fw.any λkv=>decide (kv.1=k))=(nU fw k).isSome
 |[]=>rfl
 | p::r=>by
  rw[c5];by_cases e:p.1=k
  .simp only[n6 e,aB e,Bool.true_or,Option.isSome_some]
  .rw[n8 e,aP e,Bool.false_or];exact yM k r
def oy (fw:ak (κ×V))(k:κ)(v:V):(putK fw k v).length<=fw.length+1:=by
 delta putK;split
 .rw[gQ];lia
 .rw[kO,aE,cY];lia
def p6.rp {o:ao V}{u:ao aj}(r:p6 o u):o.isSome=u.isSome:=by
 cases o with
 | none=>cases u with
  |none=>rfl
  |some _=>exact(show False from r).elim
 | some _=>cases u with
  |none=>exact(show False from r).elim
  |some _=>rfl
def KV.val {fw:ak (κ×V)}{vs:ak (κ×aj)}(r:KV fw vs)(k:κ):p6 (nU fw k) (valueAt vs k):=by
 delta KV at r;induction r with
 |nil=>exact True.intro
 | @cons p q ps qs h t ih =>
  obtain⟨h1,h2⟩:=h;by_cases e:p.1=k
  .have e':q.1=k:=h1.symm.trans e;have b:valueAt (q::qs) k=some q.2:=by simp[valueAt,cn,e']
   rw[n6 e,b];exact h2
  .have e':¬ q.1=k:=λz=>e<|h1.trans z;have b:valueAt (q::qs) k=valueAt qs k:=by simp[valueAt,cn,e']
   rw[n8 e,b];exact ih
theorem KV.any {fw:ak (κ×V)}{vs:ak (κ×aj)}(r:KV fw vs)(k:κ):(fw.any λkv=>decide (kv.1=k))=vs.any λkv=>decide (kv.1=k):=by
 delta KV at r;induction r with
 |nil=>rfl
 |cons h t ih=>rw[c5,c5,ih,h.1]
def KV.OG {fw:ak (κ×V)}{vs:ak (κ×aj)}(r:KV fw vs)(k:κ){y:V}{u:aj}(ry:fW y u):
 KV (fw.map λkv=>if kv.1=k then(kv.1,y)else kv) (vs.map λkv=>if kv.1=k then(kv.1,u)else kv):=by
 delta KV at r ⊢
 induction r with
 |nil=>exact .nil
 | @cons p q ps qs h t ih =>
  rw[az,az];refine .cons ?_ ih;refine lQ h λh1 h2=>?_;by_cases e:p.1=k
  .rw[aA e,aA (h1.symm.trans e)];exact⟨h1,ry⟩
  .rw[aC e,aC (λz=>e<|h1.trans z)];exact⟨h1,h2⟩
def KV.put {fw:ak (κ×V)}{vs:ak (κ×aj)}(r:KV fw vs)(k:κ){y:V}{u:aj}(ry:fW y u):KV (putK fw k y) (stored vs k u):=by
 delta putK stored;rw[r.any k];by_cases e:(vs.any λkv=>decide (kv.1=k))=true
 .rw[aA e,aA e];exact r.OG k ry
 .rw[aC e,aC e];exact Paired.snoc r ⟨rfl,ry⟩
theorem KV.length {fw:ak (κ×V)}{vs:ak (κ×aj)}(r:KV fw vs):fw.length=vs.length:=Paired.length r
end
def zD {P:ae}{w:af}{k:Key}{u:aj}(r:fW (kV k) u):(jq P w).is k u=true:=by
 cases k with
 |inl i=>obtain⟨t,e⟩:=(show ∃ t,u=Value.int i t from r);subst e;exact zt P w i t
 |inr x=>obtain⟨t,e⟩:=(show ∃ t,u=Value.str x t from r);subst e;exact zr P w x t
theorem vV {P:ae}{w:af}:∀ {ks:ak Key} {us:ak aj},fT (ks.map kV) us->ItemsAre (jq P w) ks us
 |[],_,r=>by rw[eG]at r;cases r;exact .nil
 | k::ks,_,r=>by
  rw[az]at r;cases r with
  |cons h t=>exact .cons (zD h) (vV t)
abbrev KT (H:Hp):ak (ak Key×V)->ak (ak Key×ai×aj)->Prop:=Paired λp q=>p.1=q.1/\H q.2.1=some (.tup<|p.1.map kV)/\fW p.2 q.2.2
def KT.val {H:Hp}{fw:ak (ak Key×V)}{xs:ak (ak Key×ai×aj)}(r:KT H fw xs)(k:ak Key):p6 (nU fw k) ((atKey xs k).map (·.2)):=by
 induction r with
 |nil=>exact True.intro
 | @cons p q ps qs h t ih =>
  refine jr h λh1 _ h2=>?_;by_cases e:p.1=k
  .have e':q.1=k:=h1.symm.trans e;have b:atKey (q::qs) k=some q.2:=by simp[atKey,cn,e']
   rw[n6 e,b];exact h2
  .have e':¬ q.1=k:=λz=>e<|h1.trans z;have b:atKey (q::qs) k=atKey qs k:=by simp[atKey,cn,e']
   rw[n8 e,b];exact ih
def KT.OG {H:Hp}{fw:ak (ak Key×V)}{xs:ak (ak Key×ai×aj)}(r:KT H fw xs)(k:ak Key){y:V}{u:aj}(ry:fW y u):
 KT H (fw.map λkv=>if kv.1=k then(kv.1,y)else kv) (xs.map<|putAt k u):=by
 induction r with
 |nil=>exact .nil
 | @cons p q ps qs h t ih =>
  rw[az,az];refine .cons ?_ ih;refine jr h λh1 h2 h3=>?_;delta putAt;by_cases e:p.1=k
  .rw[aA e,aA (h1.symm.trans e)];exact⟨h1,h2,ry⟩
  .rw[aC e,aC (λz=>e<|h1.trans z)];exact⟨h1,h2,h3⟩
def KT.put {H:Hp}{fw:ak (ak Key×V)}{xs:ak (ak Key×ai×aj)}(r:KT H fw xs)(k:ak Key){b:ai}{y:V}{u:aj}(hb:H b=some (.tup<|k.map kV))(ry:fW y u):
 KT H (putK fw k y) (storedH xs k b u):=by
 have e:(fw.any λkv=>decide (kv.1=k))=(atKey xs k).isSome:=by rw[yM,(r.val k).rp,Option.isSome_map]
 delta putK storedH;rw[e];by_cases q:(atKey xs k).isSome=true
 .rw[aA q,aA q];exact r.OG k ry
 .rw[aC q,aC q];exact Paired.snoc r ⟨rfl,hb,ry⟩
def KT.keeps {H H':Hp}{fw:ak (ak Key×V)}{xs:ak (ak Key×ai×aj)}(r:KT H fw xs)(ht:∀ b ys,H b=some (.tup ys)->H' b=some (.tup ys)):KT H' fw xs :=
 Paired.ES r λ_ _ z=>⟨z.1,ht _ _ z.2.1,z.2.2⟩
section
variable {P:ae}{w:af}{H:Hp}{h:Heap}{a:ai}
def Nf {u:HO}(ok:o6 P w H h)(e:Rd H a u):iS P w H h a u:=e.ok ok
def DP {fw:ak (Key×V)}(ok:o6 P w H h)(e:Rd H a (.dK fw)):fw.length<=sizeLine/\(a==sysModules)=false/\∃ vs,KV fw vs/\h.DictOf (jq P w) a vs :=
 show iS P w H h a (.dK fw)from Nf ok e
def NN {fw:ak (Key×V)}(ok:o6 P w H h)(e:H a=some (.dK fw)):fw.length<=sizeLine/\(a==sysModules)=false/\∃ vs,KV fw vs/\h.DictOf (jq P w) a vs:=DP ok (.inl e)
def xQ {ks:ak Key}(ok:o6 P w H h)(e:H a=some (.tup<|ks.map kV)):(tupleKind<|jq P w).is h ks a:=by obtain⟨_,fE,r,o,h1,h2,n,h3⟩:=(show iS P w H h a (.tup<|ks.map kV)from ok a _ e);exact⟨o,fE.toArray,n,h1,h2,h3,by simpa using vV r⟩
def DM {fw:ak (ak Key×V)}(ok:o6 P w H h)(e:Rd H a (.dT fw)):fw.length<=sizeLine/\(a==sysModules)=false /\
 ∃ xs,KT H fw xs/\h.DictOfH (tupleKind<|jq P w) a xs:=by
 obtain⟨z,y,xs,r,o,es,ep,h1,h2,h3,h4,h5⟩:=(show iS P w H h a (.dT fw)from Nf ok e);refine⟨z,y,xs,r,o,es,ep,h1,h2,h3,h4,λx hx=>?_,h5⟩;have all:∀ {l:ak (ak Key×V)} {m:ak (ak Key×ai×aj)},KT H l m->∀ x∈m,(tupleKind<|jq P w).is h x.1 x.2.1:=by
  intro l m q;induction q with
  |nil=>intro x hx;exact nomatch hx
  | @cons p q ps qs hq t ih =>
   intro x hx;rcases List.mem_cons.mp hx with e|hx
   .subst e;exact xQ ok (hq.1▸hq.2.1)
   .exact ih x hx
 exact all r x hx
def Tq {fw:ak (ak Key×V)}(ok:o6 P w H h)(e:H a=some (.dT fw)):fw.length<=sizeLine/\(a==sysModules)=false /\
 ∃ xs,KT H fw xs/\h.DictOfH (tupleKind<|jq P w) a xs:=DM ok (.inl e)
end
def yx (H:Hp)(a:ai)(y:V)(r:ao V):Prop :=
 (∃ fw k,Rd H a (.dK fw)/\y=kV k/\r=nU fw k)\/∃ fw k b,Rd H a (.dT fw)/\y=.ref b/\H b=some (.tup<|k.map kV)/\r=nU fw k
def Aq (H:Hp)(a:ai)(y v:V)(H':Hp):Prop :=
 (∃ fw k,H a=some (.dK fw)/\y=kV k/\fw.length<sizeLine/\H'=upd H a (.dK<|putK fw k v)) \/
 ∃ fw k b,H a=some (.dT fw)/\y=.ref b/\H b=some (.tup<|k.map kV)/\fw.length<sizeLine/\H'=upd H a (.dT<|putK fw k v)
def yx.t {H:Hp}{a b:ai}{fw:ak (ak Key×V)}{k:ak Key}(e:H a=some (.dT fw))(eb:H b=some (.tup<|k.map kV)):yx H a (.ref b) (nU fw k):=.inr ⟨fw,k,b,.inl e,rfl,eb,rfl⟩
theorem Aq.k {H:Hp}{a:ai}{fw:ak (Key×V)}{k:Key}{v:V}(e:H a=some (.dK fw))(hl:fw.length<sizeLine):Aq H a (kV k) v (upd H a<|.dK<|putK fw k v):=.inl ⟨fw,k,e,rfl,hl,rfl⟩
def Aq.t {H:Hp}{a b:ai}{fw:ak (ak Key×V)}{k:ak Key}{v:V}(e:H a=some (.dT fw))(eb:H b=some (.tup<|k.map kV))(hl:fw.length<sizeLine):
 Aq H a (.ref b) v (upd H a<|.dT<|putK fw k v):=.inr ⟨fw,k,b,e,rfl,eb,hl,rfl⟩
section
variable {X:Cx}{fb:ak (ai×Obj)}{σ:St}{H:Hp}{s:ah}{a:ai}{y v:V}{u r:aj}{o:ao V}{A:Around}{E:aj->ah->Prop}
def Inv.big (I:Inv X fb σ H s):sysModules<s.heap.objs.size:=by have h:mainGlobals<s.heap.objs.size:=(I.mod.glob.keeps I.bk).lt;exact ck (by decide) h
def Fq {Q:aj->ah->Prop}(hu:A.units+1<cLine)(I:Inv X fb σ H s)(g:yx H a y (some v))(ry:fW y u)(h:∀ w' s',Inv X fb σ H s'->fW v w'->Q w' s'):
 wpAny (model X.prog X.w) A (getItem (.ref a) u) Q E s:=by
 rcases g with⟨fw,k,e,ey,l⟩|⟨fw,k,b,e,ey,eb,l⟩
 .subst ey;obtain⟨z,hd,vs,rel,dd⟩:=DP I.gT e;refine fj (p6.some_of (v:=v) (o:=valueAt vs k)<|l▸rel.val k) λw' hw Cn=>?_;exact wpAny_getItem_of (zD ry) dd.mapOf hw (h w' _ (I.tok _) Cn)
 .subst ey;cases(show u=Value.ref b from ry);obtain⟨z,hd,xs,rel,dd⟩:=DM I.gT e;refine fj (p6.some_of (v:=v) (o:=(atKey xs k).map (·.2))<|l▸rel.val k) λw' hw Cn=>?_;refine fj (Option.map_eq_some_iff.mp hw) λp hp P0=>?_;refine wpAny_getItem_heap (tupleKind_room_in1 hu) (xQ I.gT eb) dd hp ?_;rw[P0];exact h w' _ (I.tok _) Cn
def Ma {Q:aj->ah->Prop}(hu:A.units+1<cLine)(I:Inv X fb σ H s)(g:yx H a y o)(ry:fW y u)(h:∀ s',Inv X fb σ H s'->Q (.bool<|!o.isSome) s'):
 wpAny (model X.prog X.w) A (compareOp .NotIn u<|.ref a) Q E s:=by
 rcases g with⟨fw,k,e,ey,l⟩|⟨fw,k,b,e,ey,eb,l⟩
 .subst ey;obtain⟨z,hd,vs,rel,dd⟩:=DP I.gT e;refine wpAny_notIn_of (zD ry) hd dd.mapOf ?_;rw[<- (rel.val k).rp,<- l];exact h _ (I.tok _)
 .subst ey;cases(show u=Value.ref b from ry);obtain⟨z,hd,xs,rel,dd⟩:=DM I.gT e;refine wpAny_notIn_heap (tupleKind_room_in1 hu) (xQ I.gT eb) hd dd ?_;have q:=(rel.val k).rp;rw[Option.isSome_map]at q;rw[<- q,<- l];exact h _ (I.tok _)
def x9 {h':Heap}{t':Nat}{ob:HO}(I:Inv X fb σ H s)(mu:Uj (H a))(hs:Heap.SameBut a s.heap h')(he:∃ q,h'.get? a=some q)(new:iS X.prog X.w (upd H a ob) h' a ob):
 Inv X fb σ (upd H a ob) {s with heap:=h',toks:=t'}:=
 I.write (x:=a) (e:=a) mu (.inl rfl) (λb q hb z=>(hs.2 b hb).trans z) he new
def Jf {P:ae}{w:af}{H':Hp}{h':Heap}{fw:ak (Key×V)}{vs:ak (Key×aj)}(z:fw.length<=sizeLine)(hd:(a==sysModules)=false)(rel:KV fw vs)(dd:h'.DictOf (jq P w) a vs):
 iS P w H' h' a (.dK fw):=⟨z,hd,vs,rel,dd⟩
def Fo {H':Hp}{Q:Unit->ah->Prop}(hu:A.units+1<cLine)(I:Inv X fb σ H s)(g:Aq H a y v H')(ry:fW y u)(rv:fW v r)(h:∀ s',Inv X fb σ H' s'->Q () s'):
 wpAny (model X.prog X.w) A (setItem (.ref a) u r) Q E s:=by
 rcases g with⟨fw,k,e,ey,l,eH⟩|⟨fw,k,b,e,ey,eb,l,eH⟩
 .subst ey eH;obtain⟨z,hd,vs,rel,dd⟩:=NN I.gT e;have hz:vs.length<=sizeLine:=rel.length▸z;have hl:(putK fw k v).length<=sizeLine:=by have:=oy fw k v;lia
  refine wpAny_setItem_pairs (hsz:=hz) (zD ry) dd λh' mR hs=>h _ ?_;have he:∃ q,h'.get? a=some q:=let ⟨q,_,_,hq,_⟩:=mR;⟨q,hq⟩
  exact x9 I (e▸True.intro) hs he (Jf hl hd (rel.put k rv) mR)
 .subst ey eH;cases(show u=Value.ref b from ry);obtain⟨z,hd,xs,rel,dd⟩:=Tq I.gT e;have hz:xs.length<=sizeLine:=by rw[<- Paired.length rel];exact z
  have hl:(putK fw k v).length<=sizeLine:=by have:=oy fw k v;lia
  refine wpAny_setItem_heap (hsz:=hz) (tupleKind_room_in1 hu) (xQ I.gT eb) dd λh' mR hs=>h _ ?_;refine IP mR λq es ep hq h2 h3 h4 _ h5=>?_;refine x9 I (e▸True.intro) hs ⟨q,hq⟩ ⟨hl,hd,_,(rel.put k eb rv).keeps λc ys ec=>?_,q,es,ep,hq,h2,h3,h4,h5⟩;rw[fS (Sg ec e λz=>nomatch z)];exact ec
end
def MC (i:Expr):Prop:=∀ ov iv,subscripted i false ov iv=operate [ov,iv] (getItem ov iv)
def KC {prog:ae}{w:af}{A:Around}{E:aj->ah->Prop}{s:ah}{env:Env}{value slice:Expr}{pos:Pos}{T id:String}{Q:aj->ah->Prop}
 (hl:typeLookup (.type T) "__getitem__"=pure (some<|.builtin id)) (hs:MC slice)
 (h:wpAny (model prog w) A (eval value env) (λo s₁=>wpAny (model prog w) A (eval slice env) (λi s₂=>s₂.TypeIs o T/\wpAny (model prog w) A (getItem o i) Q E s₂) E s₁) E s):
 wpAny (model prog w) A (eval (.Subscript value slice pos) env) Q E s:=by
 refine Subscript_ (bq h (λo s₁ h₁=>bq h₁ (λi s₂ h₂=>?_) λ_ _ x=>x) λ_ _ x=>x);obtain⟨hT,h₂⟩:=h₂;delta subscriptTail;refine fH ?_;rw[getitemInPython_of_ne hT.not_modules];refine fH<|wpAny_specialOf hT hl ?_;have fin:wpAny (model prog w) A (subscripted slice false o i) (λr s₃=>wpAny (model prog w) A (letTemporaryGo value o r >>= λ_=>pure r) Q E s₃) E s₂:=by rw[hs o i];exact wpAny_operating (bq h₂ (λr s₃ h₃=>fH<|wpAny_letTemporaryGo<|av h₃) λ_ _ x=>x)
 first
  |exact av (fH fin)
  |exact fH (av<|fH fin)
  |exact fH fin
def z7 {X:Cx}{fb:ak (ai×Obj)}{σ:St}{H:Hp}{s:ah}{a:ai}{y:V}{o:ao V}(I:Inv X fb σ H s)(g:yx H a y o):s.TypeIs (.ref a) "dict":=by
 rcases g with⟨fw,k,e,_,_⟩|⟨fw,k,b,e,_,_,_⟩
 .obtain⟨_,_,vs,_,dd⟩:=DP I.gT e;exact dd.typeIs
 .obtain⟨_,_,xs,_,dd⟩:=DM I.gT e;exact dd.typeIs
def RG (td ty:TE):TE:=λσ H Q=>td σ H λx H1=>ty σ H1 λy H2=>∃ a v,x=.ref a/\yx H2 a y (some v)/\Q v H2
def Cf (ty td:TE):TE:=λσ H Q=>ty σ H λy H1=>td σ H1 λx H2=>∃ a o,x=.ref a/\yx H2 a y o/\Q (.bl<|!o.isSome) H2
def RQ (td ty tv:TE):TS:=λD σ H=>tv σ H λv H1=>td σ H1 λx H2=>ty σ H2 λy H3=>∃ a H4,x=.ref a/\Aq H3 a y v H4/\D.nx σ H4
section
variable {X:Cx}{o i e value:Expr}{pos pos' mn:Pos}{td ty tv:TE}
def CA (hu:X.A.units+1<cLine)(ho:PE X o td)(hi:PE X i ty)(hs:MC i):PE X (.Subscript o i pos) (RG td ty):=by intro fb s σ H Q I h;refine KC PySem.F.slot_dict_getitem.lookup hs (hZ (ho fb s σ H _ I h) λu s1 h_=>fZ h_ λx H1 I1 rx q1=>hZ (hi fb s1 σ H1 _ I1 q1) λiv s2 PZ=>?_);obtain⟨y,H2,I2,ry,a,v,ex,g,q2⟩:=PZ;subst ex;obtain rfl:u=Value.ref a:=rx;exact⟨z7 I2 g,Fq hu I2 g ry λw' s3 I3 Cn=>⟨v,H2,I3,Cn,q2⟩⟩
def EE (hu:X.A.units+1<cLine)(hi:PE X i ty)(ho:PE X o td):PC X .NotIn i o (Cf ty td):=by intro fb s σ H Q I h;refine hZ (hi fb s σ H _ I h) λiv s1 h_=>fZ h_ λy H1 I1 ry q1=>hZ (ho fb s1 σ H1 _ I1 q1) λu s2 Nv=>?_;obtain⟨x,H2,I2,rx,a,ov,ex,g,q2⟩:=Nv;subst ex;obtain rfl:u=Value.ref a:=rx;exact Ma hu I2 g ry λs3 I3=>⟨.bl<|!ov.isSome,H2,I3,rfl,q2⟩
def Cv (hu:X.A.units+1<cLine)(ho:PE X o td)(hi:PE X i ty)(hv:PE X value tv)(hs:swapsWith value (some<|.Subscript o i pos') pos.line X.env=pure false):
 PS X (.Assign [.Subscript o i pos'] value pos) (RQ td ty tv):=by
 intro fb s σ H D I h;refine wpAny_Assign_Subscript (hZ (hv fb s σ H _ I h) λr s1 h_=>fZ h_ λv H1 I1 rv q1=>hZ (ho fb s1 σ H1 _ I1 q1) λu s2 h_=>fZ h_ λx H2 I2 rx q2=>hZ (hi fb s2 σ H2 _ I2 q2) λiv s3 LP=>?_) hs;obtain⟨y,H3,I3,ry,a,H4,ex,g,q3⟩:=LP;subst ex;obtain rfl:u=Value.ref a:=rx;exact Fo hu I3 g ry rv λs4 I4=>⟨σ,H4,I4,q3⟩
end
def z6 {P:ae}{w:af}{H:Hp}(h:Heap)(hb:sysModules<h.objs.size):iS P w H (h.push { cls:=.type "dict",data:=.dict #[]}) h.objs.size (.dK []) :=
 ⟨aS _,beq_eq_false_iff_ne.mpr<|bJ<|aw hb,[],.nil,Heap.DictOf.new h⟩
def Ja {P:ae}{w:af}{H:Hp}(h:Heap)(hb:sysModules<h.objs.size):iS P w H (h.push { cls:=.type "dict",data:=.dict #[]}) h.objs.size (.dT []) :=
 ⟨aS _,beq_eq_false_iff_ne.mpr<|bJ<|aw hb,[],.nil,_,#[],0,aD _ rfl,⟨rfl,rfl,rfl⟩,rfl,rfl,List.nodup_nil⟩
def Of:TE:=λ_ H Q=>∀ p,H p=none->Q (.ref p) (upd H p<|.dK [])
def Oe:TE:=λ_ H Q=>∀ p,H p=none->Q (.ref p) (upd H p<|.dT [])
section
variable {X:Cx}{pos:Pos}
def Hd:PE X (.Dict [] [] pos) Of:=λfb s σ H Q I h =>wpAny_Dict_empty ⟨.ref s.heap.objs.size,_,I.laid (a:=s.heap.objs.size) (o:=.dK []) (t':=s.toks) (λ_ _ q=>jx _ q) (aq _)<|z6 s.heap I.big,rfl,h _<|I.gT.fresh<|aq _⟩
def Hc:PE X (.Dict [] [] pos) Oe:=λfb s σ H Q I h =>wpAny_Dict_empty ⟨.ref s.heap.objs.size,_,I.laid (a:=s.heap.objs.size) (o:=.dT []) (t':=s.toks) (λ_ _ q=>jx _ q) (aq _)<|Ja s.heap I.big,rfl,h _<|I.gT.fresh<|aq _⟩
end
structure M1 (X:Cx)(o:Expr)(m:Str)(mW:Pos)(e:Expr)(kT:Pos):Prop where
 fg:attributeBase o m X.env (eval o X.env)=eval o X.env
 oA:((backTo kT<|starEach [e] X.env).all (λx=>!x.1)&&(backToKw kT<|keywordEach [] X.env).all (λx=>x.1.isSome)
  && decide (([e]:List Expr).length+([]:List Keyword).length+(if([]:List Keyword).isEmpty then 0 else 1)<30))=true
 line:(mW.endLine==kT.line)=true
 trees:backTo kT (starEach [e] X.env)=[(false,eval e X.env)]
structure M2 (X:Cx)(o:Expr)(m:Str)(mW:Pos)(e f:Expr)(kT:Pos):Prop where
 fg:attributeBase o m X.env (eval o X.env)=eval o X.env
 oA:((backTo kT<|starEach [e,f] X.env).all (λx=>!x.1)&&(backToKw kT<|keywordEach [] X.env).all (λx=>x.1.isSome)
  && decide (([e,f]:List Expr).length+([]:List Keyword).length+(if([]:List Keyword).isEmpty then 0 else 1)<30))=true
 line:(mW.endLine==kT.line)=true
 trees:backTo kT (starEach [e,f] X.env)=[(false,eval e X.env),(false,eval f X.env)]
def u0 (X:Cx)(N:ak Str)(sc:Scope)(fp:ak ai)(s:ah)(H:Hp):Cx where
 prog:=X.prog
 w:=X.w
 K:=X.K
 mg:=X.mg
 fg:=X.fg
 A:=X.A
 N:=N
 s₀:=s
 H₀:=H
 env:=lV sc s.heap.objs.size X.env
 fC:=X.stack
 stack:=X.stack
 ex:=fp
 fn:=λx=>sc.names.lookup x==some .cell
 gN:=X.gN
 pn:=[]
 xe:=λ_ _=>False
def uo (sc:Scope)(h:Heap):Heap:=pushCells (h.push { cls:=.type "dict",data:=.dict #[]}) sc.names
def sq:∀ b o,h.get? b=some o->(uo sc h).get? b=some o:=λb o e=>dN _ _ b o (jx _ e)
section
variable {X:Cx}{fb:ak (ai×Obj)}{σ:St}{H:Hp}{s:ah}{N:ak Str}{js:ak (ao Nat)}{sc:Scope}{fp:ak ai}
def E5 (I:Inv X fb σ H s)(hc:jI X N js sc)(hf:∀ b∈fp,jH X fb H b)(ho:∀ b∈fp,∃ o,s.heap.get? b=some o)(tk:Nat):
 Inv (u0 X N sc fp s H) [] (gY js σ) H {s with heap:=uo sc s.heap,toks:=tk}:=by
 have Il:∀ y∈sc.names,y.2=.free->∃ c,X.env.cells.lookup y.1=some c:=λy hy e=>I.ok.has y.1<|hc.free y hy e;have ok:=cellsFrom_ok sc.names (s.heap.push { cls:=.type "dict",data:=.dict #[]}) (s.heap.objs.size+1) [] ⟨λ_ _ hm=>(nomatch hm),List.Pairwise.nil⟩
  (by rw[aX];exact aq _)
 rw[aX]at ok;have eC:(lV sc s.heap.objs.size X.env).cells=cellsFrom (s.heap.objs.size+1) sc.names []++jW X.env.cells sc.names []:=kJ sc.names _ [] _;have lk:∀ x c,(lV sc s.heap.objs.size X.env).cells.lookup x=some c->(x,c)∈cellsFrom (s.heap.objs.size+1) sc.names []\/X.env.cells.lookup x=some c:=λx c e=>by
  rw[eC]at e;rcases List.mem_append.mp (mem_of_lookup e)with h|h
  .exact .inl h
  .rcases nv Il x c h with h | h
   .cases h
   .exact .inr h
 have big:∀(x:Str) (c:Nat),(x,c)∈cellsFrom (s.heap.objs.size+1) sc.names []->s.heap.objs.size+1<=c:=λx c h=>(ok.empty x c h).2;have small:∀(x:Str) (c:Nat),X.env.cells.lookup x=some c->c<s.heap.objs.size:=λx c h=>let ⟨_,q⟩:=I.cell x c h;q.lt
 have has:∀ x,((lV sc s.heap.objs.size X.env).kindOf x=some .cell\/(lV sc s.heap.objs.size X.env).kindOf x=some .free)->∃ c,(lV sc s.heap.objs.size X.env).cells.lookup x=some c:=λx h=>by
  have h':(relabel sc X.env).names.lookup x=some .cell\/(relabel sc X.env).names.lookup x=some .free:=h;rw[jQ]at h';rw[eC,dU];cases q:sc.names.lookup x with
  |none=>rw[q]at h';rcases h' with h'|h'<;>cases h'
  | some k =>
   rw[q]at h';have hk:=yY (env:=X.env) (x:=x) (k:=k) (h'.elim (λz=>.inl<|aU z) λz=>.inr<|aU z);rcases hk with rfl|rfl
   .obtain⟨c,pT⟩:=mU (n:=s.heap.objs.size+1) q;exact⟨c,by rw[pT];rfl⟩
   .have z:=nA (cells:=X.env.cells) sc.names [] x<|mem_of_lookup q;obtain⟨c,pT⟩:=Option.isSome_iff_exists.mp z;cases q2:(cellsFrom (s.heap.objs.size+1) sc.names []).lookup x with
    |none=>exact⟨c,by rw[pT];rfl⟩
    |some d=>exact⟨d,rfl⟩
 have FE:(u0 X N sc fp s H).Ok:=by
  refine⟨I.ok.mod,hc.kind,I.ok.glob,I.ok.blt,aq _,λx y c h1 h2=>?_,has,λx c hx h=>?_,I.ok.hd,I.ok.frames,.inl rfl,λb hb=>⟨?_,λx c h=>?_⟩,I.bs,aK I.ok.FJ I.sz,λb o e hb=>?_,λb hb hs=>?_,I.stack,I.qd⟩
  .rcases lk x c h1 with g1 | g1 <;> rcases lk y c h2 with g2 | g2
   .exact name_of_addr ok.apart g1 g2
   .exact absurd (aG (small _ _ g2)<|aK (aQ _ 1)<|big _ _ g1) (cb _)
   .exact absurd (aG (small _ _ g1)<|aK (aQ _ 1)<|big _ _ g2) (cb _)
   .exact I.ok.inj x y c g1 g2
  .have E7:sc.names.lookup x=some .cell:=by simpa [u0]using hx
   have h':(lV sc s.heap.objs.size X.env).cells.lookup x=some c:=h
   rw[eC,dU]at h'
   obtain⟨c2,pT⟩:=mU (n:=s.heap.objs.size+1) E7
   rw[pT]at h'
   have e:c2=c:=aU h'
   subst e
   exact aK (aQ _ 1) (big _ _<|mem_of_lookup pT)
  .obtain⟨o,e⟩:=ho b hb;exact aw (iO e)
  .obtain⟨o,e⟩:=ho b hb;have l:=iO e;rcases lk x c h with g|g
   .exact ba (aG l<|aK (aQ _ 1)<|big _ _ g)
   .exact(hf b hb).2.2.2.2.1 x c g
  .rcases(hf b hb).2.2.2.1 with z | z
   .exact I.ok.EM b o e z
   .exact absurd (aG (iO e)<|aK I.ok.FJ z) (cb _)
  .rcases List.mem_cons.mp (I.tS b hs)with z | z
   .exact(hf b hb).2.1 z
   .exact(hf b hb).2.2.1 z
 have qw:∀ b u,s.heap.get? b=some u->(uo sc s.heap).get? b=some u:=sq;have VN:(uo sc s.heap).Ns s.heap.objs.size λ_=>none:=by have q:=(Heap.Ns.new s.heap<|.type "dict").keeps<|dN sc.names _;exact q
 refine⟨FE,rfl,I.bare,Un.iC qw,⟨_,VN,λi x v e1 e2 e3=>?_⟩,λx c h=>?_,I.gT.fresh<|aq _,λx c h=>?_,λp hp=>absurd (show p∈([]:ak (ai×Obj))from hp)<|by simp,I.gT.iC qw,?_⟩
 .refine fj (uv e2) λj hj hv=>?_;refine z5 (hc.slot i x j e1 hj) λg1 g2 g3 g4=>?_;have kx:=hc.free _ g2 rfl;refine fj I.loc λm hn hl=>?_;refine fj (hl j x v g1 hv<|.inr kx) λu r l=>?_;refine⟨u,r,?_⟩;rcases l with⟨z,_⟩|⟨_,c,Rl,sv⟩
  .have z':X.env.kindOf x=some .local:=z;rcases kx with k|k<;>(have k':X.env.kindOf x=_:=k;rw[z']at k';cases k')
  .have kY:(lV sc s.heap.objs.size X.env).kindOf x=some .cell\/(lV sc s.heap.objs.size X.env).kindOf x=some .free:=by
    show(relabel sc X.env).names.lookup x=some .cell\/(relabel sc X.env).names.lookup x=some .free;rw[jQ,g3];rcases vO (env:=X.env) (x:=x)with q|q
    .exact .inl (show some (qZ X.env x .free)=_ by rw[q])
    .exact .inr (show some (qZ X.env x .free)=_ by rw[q])
   obtain⟨c',h'⟩:=has x kY
   refine .inr ⟨kY,c',h',?_⟩
   rcases lk x c' h' with g|g
   .rcases kH _ _ _ _ _ g with z | z
    .exact absurd z g4
    .cases z
   .rw[Rl]at g;cases g;exact sv.keeps qw
 .rcases lk x c h with g | g
  .exact⟨_,(ok.empty x c g).1⟩
  .obtain⟨v,q⟩:=I.cell x c g;exact⟨v,q.keeps qw⟩
 .rcases lk x c h with g | g
  .exact I.gT.fresh (aK (aQ _ 1)<|big _ _ g)
  .exact I.nM x c g
 .delta gY;rw[gQ];exact hc.len
end
def vt {D:ai}(I:Nat->ah->Prop)
 (turn:∀ n s,I n s->wpAny (model prog w) A (pyNext it) (λr s₁=>match r with
   |none=>R (.ok .next) s₁
   | some v=>wpAny (model prog w) A (letOwnedTupleGo target it v) (λ_ yR=>wpAny (model prog w) A (assign target env v) (λ_ s₂ =>
    wpAny (model prog w) A (forIn ifs true λc r=>if r=true then do let ok <- isTrue c env (eval c env);pure (ForInStep.yield ok)else pure (ForInStep.yield r)) (λok s₃ =>
     if ok=true then wpAny (model prog w) A (eval kx env) (λkv s₄=>wpAny (model prog w) A (eval vx env) (λvv s₅ =>
      wpAny (model prog w) A (dictSet D kv vv) (λ_ s₆=>∃ m,m<n/\I m s₆) (λ_ _=>False) s₅) (λ_ _=>False) s₄) (λ_ _=>False) s₃
     else ∃ m,m<n/\I m s₃) (λ_ _=>False) s₂) (λ_ _=>False) yR) (λ_ _=>False) s₁) (λ_ _=>False) s)
 (n:Nat) (h:I n s):
 codeAny (model prog w) A (.compLoop (.DictComp kx vx [⟨target,iter,ifs,0⟩] scope pos) 0 it (.ref D) env) R s:=by
 refine codeAny_loop rfl I (λn s hI=>wpAny_noted<|fH<|dG<|fH<|bq (turn n s hI) (λr s₁ h₁=>?_) λ_ _ h'=>h'.elim) n h;cases r with
 |none=>exact av h₁
 | some v =>
  refine fH (bq h₁ (λ_ yR HS=>fH<|bq HS (λ_ s₂ h₂=>fH<|bq h₂ (λok s₃ h₃=>?_) λ_ _ h'=>h'.elim) λ_ _ h'=>h'.elim) λ_ _ h'=>h'.elim);cases ok with
  |false=>exact av ⟨rfl,h₃⟩
  | true =>exact fH (fH<|bq h₃ (λx s₄ h₄=>fH<|bR<|bq h₄ (λy s₅ h₅=>fH<|dG<|bR<|bq h₅ (λ_ s₆ h₆=>av ⟨rfl,h₆⟩) λ_ _ h'=>h'.elim) λ_ _ h'=>h'.elim) λ_ _ h'=>h'.elim)
def Ga (js:ak (ao Nat))(g:TG)(tt:TT)(tk tv:TE)(J:It)(σ:St)(D:ai)(H1:Hp)(fin:ak (Key×V)->Hp->Prop):Prop :=
 ∃ W:Nat->Nat->ak (Key×V)->Hp->Prop,(∃ m,W 0 m [] H1)/\∀ i m fw H,W i m fw H ->
  (J.stop i H/\fin fw H)\/(J.go i H/\∀ x H',J.FZ i H x H'->g x (gY js σ) H' λmY H2=>Ext (gY js σ) mY/\tt mY H2 λb H3 =>
    if b=true then tk mY H3 λk H4=>tv mY H4 λv H5=>∃(kk:Key) (Bp:ak (Key×V)),k=kV kk/\H5 D=some (.dK Bp)/\Bp.length<sizeLine/\∃ m',m'<m/\W (i+1) m' (putK Bp kk v) (upd H5 D<|.dK<|putK Bp kk v)else ∃ m',m'<m/\W (i+1) m' fw H3)
section
variable {X:Cx}{fb:ak (ai×Obj)}{σ:St}{H:Hp}{s:ah}
def dict_set (I:Inv X fb σ H s)(e:H a=some (.dK fw))(l:fw.length<sizeLine)(ry:fW (kV k) u)(rv:fW v r)
 (h:∀ s',Inv X fb σ (upd H a<|.dK<|putK fw k v) s'->Q () s'):wpAny (model X.prog X.w) A (dictSet a u r) Q E s:=by
 obtain⟨z,hd,vs,rel,dd⟩:=NN I.gT e;have hz:vs.length<=sizeLine:=rel.length▸‹_›
 have hl:(putK fw k v).length<=sizeLine:=by have:=oy fw k v;lia
 refine wpAny_dictSet_pairs (zD ry) dd λh' mR hs=>h _ ?_;have he:∃ q,h'.get? a=some q:=let ⟨q,_,_,hq,_⟩:=mR;⟨q,hq⟩
 exact x9 I (e▸True.intro) hs he (Jf hl hd (rel.put k rv) mR)
variable {N:ak Str}{js:ak (ao Nat)}{sc:Scope}{fp:ak ai}{tg kx vx iter:Expr}{ifs:ak Expr}{g:TG}{tt:TT}{tk tv:TE}
def Ah {D:ai}(I:Inv X fb σ H s)(hc:jI X N js sc)(gN:X.gN=true)
 (T:Turn X.prog X.w X.K tg J fp it tn) (st:tn 0 s.heap) (hf:∀ b∈fp,jH X fb H b)
 (hg:PG (u0 X N sc fp s H) tg g) (ht:JQ (u0 X N sc fp s H) ifs tt) (hk:PE (u0 X N sc fp s H) kx tk) (hv:PE (u0 X N sc fp s H) vx tv) (q:Ga js g tt tk tv J σ D H fin)
 (hR:∀ s' H' fw m,Inv X fb σ H' s'->fin fw H'->s'.heap.Ns s.heap.objs.size m->H' s.heap.objs.size=none->R (.ok .next) s'):
 codeAny (model X.prog X.w) X.A (.compStart (.DictComp kx vx [⟨tg,iter,ifs,0⟩] sc pos) 0 (.ref it) (.ref D)<|lV sc s.heap.objs.size X.env) R {s with heap:=uo sc s.heap,toks:=tok}:=by
 have Rg:∀ b∈fp,∃ o,s.heap.get? b=some o:=λb hb=>let ⟨o,e,_⟩:=T.obj 0 s.heap st b hb;⟨o,e⟩
 have I0:=E5 I hc hf Rg tok;have FE:=I0.ok;obtain⟨W,⟨m0,w0⟩,turn⟩:=q;have tT:∀ {H':Hp},(∀ b∈fp,H' b=none)->∀ b∈fp,jH (u0 X N sc fp s H) [] H' b:=λ{H'} hn b hb =>⟨hn b hb,(FE.Rp b hb).1,FE.Fl b hb,.inl hb,(FE.Rp b hb).2,λp hp=>absurd (show p∈([]:ak (ai×Obj))from hp)<|by simp⟩
 have M8:tn 0 (uo sc s.heap):=T.keep 0 _ _ st λb _ o e=>sq b o e;have loop:codeAny (model X.prog X.w) X.A (.compLoop (.DictComp kx vx [⟨tg,iter,ifs,0⟩] sc pos) 0 (.ref it) (.ref D)<|lV sc s.heap.objs.size X.env) R { s with heap:=uo sc s.heap,toks:=tok}:=by
  refine vt (λn s'=>∃ i fw H',Inv (u0 X N sc fp s H) [] (gY js σ) H' s'/\tn i s'.heap/\(∀ b∈fp,H' b=none)/\W i n fw H') ?_ m0
   ⟨0,[],H,I0,M8,λb hb=>(hf b hb).1,w0⟩
  refine λn s3 h_=>IS h_ λi fw H3 I3 JW NC w3=>?_;rcases turn i n fw H3 w3 with⟨stop,qf⟩|⟨go,step⟩
  .refine hZ (T.done (u0 X N sc fp s H) rfl rfl rfl gN i _ s3 _ H3 _ I3 (tT NC) JW stop) λr s4 h_=>lQ h_ λhr I4=>?_;subst hr;refine fj I4.loc λm Rh _=>?_;have IX:=I.Jv (ch:=fp) I4.os I4.fg I4.gT I4.bare λb hb=>by refine zZ (hf b hb) λf0 f1 f2 f3 f4 f5=>?_;exact⟨f3,f1,f4,f5⟩
   exact hR s4 H3 fw m IX qf Rh I4.free
  .refine hZ (T.item (u0 X N sc fp s H) rfl rfl rfl gN i _ s3 _ H3 _ I3 (tT NC) JW go) λr s4 h_=>fj h_ λu hr h4=>?_;subst hr;refine hZ h4 λ_ s5 h_=>Qu h_ λx H5 I5 r5 y5 Gw SY=>?_;have Uo:=I5.pinned (tT SY)<|T.obj _ _ Gw;refine hZ (hg _ s5 _ H5 x u _ Uo r5<|step x H5 y5) λ_ s6 ⟨JT,H6,I6,⟨IG,q6⟩⟩=>?_;refine hZ (ht _ s6 JT H6 _ I6 q6) λb s7 h_=>fj h_ λH7 I7 q7=>?_;have back:∀ {s':ah} {H':Hp},Inv (u0 X N sc fp s H) ([]++rh fp s5.heap) JT H' s'->tn (i+1) s'.heap/\(∀ b∈fp,H' b=none)/\Inv (u0 X N sc fp s H) [] (gY js σ) H' s':=λ{s' H'} I'=>by refine⟨T.keep _ _ _ Gw λb hb o e=>(I'.pin (b,o)<|aI _<|aI _<|kr hb e).1,λb hb=>?_,(I'.weak IG.1 IG.2).oa⟩;refine fj (T.obj _ _ Gw b hb) λo e d=>?_;exact(I'.pin (b,o)<|aI _<|aI _<|kr hb e).2.1
   cases b with
   | false =>refine fj q7 λm' hm w7=>?_;refine jr (back I7) λt7 f7 XB=>?_;exact⟨m',hm,i+1,fw,H7,XB,t7,f7,w7⟩
   | true =>refine hZ (hk _ s7 JT H7 _ I7 q7) λy s8 h_=>fZ h_ λyk H8 I8 ry q8=>hZ (hv _ s8 JT H8 _ I8 q8) λz s9 HX=>?_;obtain⟨zv,H9,I9,rz,kk,Bp,ek,eD,hl,m',hm,w9⟩:=HX;subst ek;refine dict_set (X:=u0 X N sc fp s H) I9 eD hl ry rz λs10 I10=>?_;refine jr (back I10) λt8 f8 Um=>?_;exact⟨m',hm,i+1,_,_,Um,t8,f8,w9⟩
 exact codeAny_compStart_dict loop (T.self _ 0 _ _ _ M8 loop)
def Gu (wi:TI)(js:ak (ao Nat))(g:TG)(tt:TT)(tk tv:TE):TE:=λσ H Q=>wi σ H λJ H1=>∀ D,H1 D=none->Ga js g tt tk tv J σ D (upd H1 D<|.dK []) λ_ H'=>Q (.ref D) H'
end
def Ip:D->V
 |.bl b=>.bl b
 |.int i=>.int i
 |.str z=>.str z
 |_=>.gz
def Qp (h:nu d=true):iP φ H d (Ip d):=by cases d<;>first|exact(Bool.noConfusion h)|rfl
def BD (h:nu d=true)(i:iP φ H d v):v=Ip d:=by cases d<;>first|exact(Bool.noConfusion h)|exact i
theorem Qo:∀ {ds:ak D},ds.all nu=true->fB φ H ds (ds.map Ip)
 |[],_=>rfl
 | d::ds,h=>by rw[dm,cu]at h;exact⟨_,_,rfl,Qp h.1,Qo h.2⟩
theorem Dq:∀ {ds:ak D} {vs:ak V},ds.all nu=true->fB φ H ds vs->vs=ds.map Ip
 |[],_,_,h=>h
 | d::ds,_,f,h=>by obtain⟨v,r,rfl,h1,h2⟩:=h;rw[dm,cu]at f;rw[BD f.1 h1,Dq f.2 h2];rfl
def HK:D->ao Key
 |.int i=>some (.inl i)
 |.str z=>some (.inr z)
 |_=>none
def tu (e:HK d=some k)(i:iP φ H d v):v=kV k:=by
 cases d with
 |int n=>cases e;exact i
 |str z=>cases e;exact i
 |_=>cases e
def dput (fw:ak (Key×D))(k:Key)(d:D):ak (Key×D):=if(fw.any λkv=>decide (kv.1=k))=true then fw.map (λkv=>if kv.1=k then(kv.1,d)else kv)else fw++[(k,d)]
def uI (fw:ak (Key×D))(k:Key):ao D:=(fw.find? λkv=>decide (kv.1=k)).map (·.2)
def AE (fw:ak (Key×D)):ak (Key×V):=fw.map λp=>(p.1,Ip p.2)
def Jd (fw:ak (Key×D))(k:Key)(d:D):AE (dput fw k d)=putK (AE fw) k (Ip d):=by
 delta dput putK AE;have e:((fw.map λp=>(p.1,Ip p.2)).any λkv=>decide (kv.1=k))=(fw.any λkv=>decide (kv.1=k)):=by rw[List.any_map];rfl
 rw[e];split
 .rw[bc,bc];congr 1;funext p;by_cases h:p.1=k
  .simp[h]
  .simp[h]
 .rw[bI];rfl
def Je (fw:ak (Key×D))(k:Key)(d:D):(dput fw k d).length<=fw.length+1:=by
 delta dput;split
 .rw[gQ];lia
 .rw[kO,bC];lia
def wj (h:(fw.map (·.2)).all nu=true)(hd:nu d=true):((dput fw k d).map (·.2)).all nu=true:=by
 delta dput;rw[cL]at h ⊢
 intro x hx;split at hx
 .rw[bc]at hx;obtain⟨p,hp,rfl⟩:=List.mem_map.mp hx;show nu (if p.1=k then(p.1,d)else p).2=true;split
  .exact hd
  .exact h _ (List.mem_map.mpr ⟨p,hp,rfl⟩)
 .rw[bI]at hx;rcases List.mem_append.mp hx with q|q
  .exact h x q
  .rwa [List.mem_singleton.mp q]
abbrev Tr (fw:ak (Key×D)):D:=.jf (fw.map (·.1)) (fw.map (·.2))
def uL (it:D->MS->(ao (Key×D)->MS->Prop)->Prop)(c:MS->Prop)(μ:MS):ak D->ak (Key×D)->(ak (Key×D)->Prop)->Prop
 |[],fw,K=>c (μ++[.jf (fw.map (·.1)) (fw.map (·.2))])/\K fw
 | d::ds,fw,K=>c (μ++[.jf (fw.map (·.1)) (fw.map (·.2))])/\it d (μ++[.jf (fw.map (·.1)) (fw.map (·.2))]) λo fI=>fI=μ++[.jf (fw.map (·.1)) (fw.map (·.2))]/\(match o with
  |some (k,y)=>nu y=true/\uL it c μ ds (dput fw k y) K
  |none=>uL it c μ ds fw K)
def Jn (ρ:DE)(y:DG)(t:Dt)(wk wv:De)(d:D)(μ:MS)(K:ao (Key×D)->MS->Prop):Prop:=y d ρ μ λnZ iA=>t nZ iA λb rS=>if b=true then wk nZ rS λkd JU=>opt (HK kd) λk=>wv nZ JU λv Rx=>K (some (k,v)) Rx else K none rS
def Jo (wi:DI)(js:ak (ao Nat))(y:DG)(t:Dt)(wk wv:De):De:=λρ μ K=>wi ρ μ λds c fM=>ds.length<=sizeLine/\uL (Jn (pH js ρ) y t wk wv) c fM ds [] λfw=>K (Tr fw) fM
def Fr.Nn (f:Fr φ H gg H')(hl:gg.length=φ.length):gg=φ:=by obtain⟨⟨ψ,rfl,_⟩,_,_⟩:=f;rw[kO]at hl;have:ψ=[]:=List.length_eq_zero_iff.mp (by lia);rw[this,a8]
def Gs (so:MA g y S)(mo:pC g)(ho:r6 S js=true)(h:tD (Jo wi js y t wk wv) σ H Q):Gu (Vs wi) js g (u9 t) (tD wk) (tD wv) σ H Q:=by
 refine gG h λφ ρ μ K A M k L=>?_;refine⟨φ,ρ,μ,_,A,M,k,λds c fM gy J H1 k1 f1 M1 X3 D hD=>?_⟩;obtain⟨hz,k1⟩:=k1;have hDf:D∉gy:=M1.fresh hD;have fD:Fr gy H1 (gy++[D]) (upd H1 D<|.dK []):=⟨(Fr.snoc (φ:=gy) hD).ext,λc u _ e=>gW.upd hD _ _ e,λc e=>(gW.upd hD).free e⟩;obtain⟨MD,_⟩:=M1.snoc (m:=.jf [] []) (o:=.dK []) hD ⟨[],[],fF,rfl,rfl,rfl⟩;have YL:∀ {H':Hp} {fw:ak (Key×L2.D)},(fw.map (·.2)).all nu=true->fU (gy++[D]) H' (fM++[.jf (fw.map (·.1)) (fw.map (·.2))])->H' D=some (.dK<|AE fw):=λ{H' fw} Nz M'=>by
  obtain⟨p,e1,Bp,vs,e2,e3,e4,e5⟩:=M'.at_ fM.length _ (by rw[p8 (aq _),a6];rfl);rw[p8 (by rw[M1.len];exact aq _),M1.len,a6]at e1;cases e1;rw[e2];congr 2;have e6:=Dq Nz e5;rw[e4]at e6;delta AE;have key:∀(as:ak (Key×V)) (bs:ak (Key×L2.D)),as.map (·.1)=bs.map (·.1)->as.map (·.2)=(bs.map (·.2)).map Ip->as=bs.map λp=>(p.1,Ip p.2):=by
   intro as;induction as with
   | nil=>intro bs h1 _;cases bs with
    |nil=>rfl
    |cons _ _=>cases h1
   | cons a as ih =>
    intro bs h1 h2;cases bs with
    |nil=>cases h1
    | cons b bs =>
     simp only[az,List.cons.injEq]at h1 h2 ⊢
     exact⟨Prod.ext h1.1 h2.1,ih bs h1.2<|by simpa using h2.2⟩
  exact key Bp fw e3 e6
 refine⟨λi n kv H'=>n=ds.length - i/\i<=ds.length/\∃ fw:ak (Key×L2.D),kv=AE fw/\fw.length<=i/\(fw.map (·.2)).all nu=true/\Fr gy H1 (gy++[D]) H'/\fU (gy++[D]) H' (fM++[.jf (fw.map (·.1)) (fw.map (·.2))])/\uL (Jn (pH js ρ) y t wk wv) c fM (ds.drop i) fw λfw=>K (Tr fw) fM,
  ⟨ds.length,rfl,aS _,[],rfl,aS _,rfl,fD,MD,k1⟩,?_⟩
 rintro i n kv H' ⟨rfl,hi,fw,rfl,UU,Nz,f',M',w'⟩;by_cases ky:i<ds.length
 .rw[bg ky]at w';refine lQ w' λc' w'=>?_;refine lQ ((X3 _ H' _ f' M' c' i).1 ds[i]<|iT ky) λgo FZ=>?_;refine .inr ⟨go,λx H2 HU=>?_⟩;refine jr (FZ x H2 HU) λf2 M2 i2=>?_;have E2:=((A.mono<|f1.trans<|f'.trans f2).gY js);refine mo _ _ _ _ _ (λB3 H3 HW=>?_)<|so _ H2 _ _ _ _ x _ E2 M2 i2 w';obtain⟨e3,l3,n3,MG,E3,k3⟩:=HW;refine⟨IF ho l3 n3,?_⟩;subst e3;refine⟨_,MG,_,_,E3,M2,k3,λb JU Rw H4 k4 f4 M4=>?_⟩;cases b with
  | true =>
   refine⟨Rw,MG,JU,_,E3.mono f4,M4,k4,λd5 Rx Vb v5 H5 k5 f5 M5 i5=>?_⟩;refine fj (gR k5) λkk ekk k5=>?_;refine⟨Vb,MG,Rx,_,E3.mono<|f4.trans f5,M5,k5,λd6 μ6 φ6 v6 H6 k6 f6 M6 i6=>?_⟩;refine jr k6 λe6 UW w6=>?_;subst e6;have ff:=f2.trans<|f4.trans<|f5.trans f6;have ef:φ6=gy++[D]:=ff.Nn (by rw[M6.len,M'.len]);subst ef;have hDv:=YL Nz M6;refine⟨kk,_,tu ekk i5,hDv,by delta AE;rw[gQ];lia,ds.length - (i+1),by lia,rfl,ky,dput fw kk d6,by rw[Jd,BD UW i6],by have:=Je fw kk d6;lia,wj Nz UW,?_,?_,w6⟩
   .refine(f'.trans ff).trans (.put<|aI _<|List.mem_singleton.mpr rfl)
   .have hp:(gy++[D])[fM.length]?=some D:=by rw[p8 (by rw[M1.len];exact aq _),M1.len,a6];rfl
    have q:=M6.put (k:=fM.length) (p:=D) (o:=.dK<|putK (AE fw) kk v6) (m:=.jf ((dput fw kk d6).map (·.1)) ((dput fw kk d6).map (·.2))) hp
     ⟨AE<|dput fw kk d6,((dput fw kk d6).map (·.2)).map Ip,by rw[fF,Jd,BD UW i6],by delta AE;rw[bc];rfl,by unfold AE;rw[bc,bc];rfl,Qo<|wj Nz UW⟩
    have e:(fM++[MO.jf (fw.map (·.1)) (fw.map (·.2))]).set fM.length (.jf ((dput fw kk d6).map (·.1)) ((dput fw kk d6).map (·.2)))=fM++[.jf ((dput fw kk d6).map (·.1)) ((dput fw kk d6).map (·.2))]:=xn
    rw[e]at q
    exact q
  | false =>obtain⟨e4,w4⟩:=k4;subst e4;have ff:=f2.trans f4;have ef:Rw=gy++[D]:=ff.Nn (by rw[M4.len,M'.len]);subst ef;exact⟨ds.length - (i+1),by lia,rfl,ky,fw,rfl,by lia,Nz,f'.trans ff,M4,w4⟩
 .have e:i=ds.length:=by lia
  subst e
  rw[List.drop_length]at w'
  refine .inl ⟨(X3 _ H' _ f' M' w'.1 _).2 rfl,?_⟩
  have M'':fU gy H' fM:=by have q:=M'.jv (n:=fM.length) (λk m hk e=>by rw[vX hk]at e;exact M1.bound k m e);rw[cx,show(gy++[D]).take fM.length=gy by rw[<- M1.len,cx]]at q;exact q
  have f'':Fr gy H1 gy H':=⟨⟨[],by simp,λ_ h=>nomatch h⟩,f'.keep,f'.U3⟩
  exact L _ fM gy _ H' w'.2 (f1.trans f'') M'' ⟨D,AE fw,_,rfl,hDf,YL Nz M',by unfold AE;rw[bc];rfl,rfl,by
   have:(AE fw).map (·.2)=(fw.map (·.2)).map Ip:=by unfold AE;rw[bc,bc];rfl
   rw[this];exact Qo Nz⟩
section
variable {X:Cx}{a b e:Expr}{es:ak Expr}{pos:Pos}
variable {N:ak Str}{js:ak (ao Nat)}{sc:Scope}{tg kx vx iter:Expr}{ifs:ak Expr}{g:TG}{y:DG}{S:ak Nat}{t:Dt}{wk wv:De}
def TJ:Ar:=λx y μ K=>match x with
 |.jf ks ds=>opt (HK y) λk=>opt (uI (ks.zip ds) k) λd=>K d μ
 |_=>False
def IV:∀ {ds:ak D} {fw:ak (Key×V)} {k:Key} {d:D},fw.map (·.1)=ks->fB φ H ds (fw.map (·.2))->uI (ks.zip ds) k=some d->∃ v,nU fw k=some v/\iP φ H d v:=by
 intro ds fw;induction fw generalizing ks ds with
 |nil=>intro k d h1 h2 h3;subst h1;cases h3
 | cons p fw ih =>
  intro k d h1 h2 h3;cases ks with
  |nil=>cases h1
  | cons k0 ks =>
   cases ds with
   |nil=>cases h2
   | cons d0 ds =>
    refine fZ h2 λv r e h4 h5=>?_;simp at h1 e;refine lQ e λfV o7=>?_;subst fV;subst o7;obtain⟨rfl,h1⟩:=h1;rw[cO]at h3;delta uI at h3;rw[cn]at h3;by_cases hk:p.1=k
    .simp only[hk,decide_true]at h3;cases h3;exact⟨p.2,n6 hk,h4⟩
    .simp only[hk,decide_false]at h3;refine fj (ih h1 h5 h3) λv a b=>?_;exact⟨v,by rwa [n8 hk],b⟩
def DW (hu:X.A.units+1<cLine)(ha:PD X a wa)(hb:PD X b wb)(hs:MC b):PD X (.Subscript a b pos) (vp TJ wa wb):=(CA hu ha hb hs).imp λσ H Q h_=>gG h_ λφ ρ μ K A M k L=>by
 refine⟨φ,ρ,μ,_,A,M,k,λd1 fM gy v1 H1 k1 f1 M1 i1=>⟨gy,ρ,fM,_,A.mono f1,M1,k1,λd2 iA kL v2 H2 k2 f2 M2 i2=>?_⟩⟩;unfold TJ at k2;split at k2
 .refine fj (gR k2) λk ek k2=>?_;refine fj (gR k2) λd ed k2=>?_;refine IP (i1.mono f2) λp fw vs fV _ hp e1 e2 ha=>?_;subst fV;cases tu ek i2;subst e2;refine fj (IV e1 ha ed) λv ev iv=>?_;exact⟨p,v,rfl,.inl ⟨fw,k,.inl hp,rfl,ev.symm⟩,(L.mono<|f1.trans f2).val M2 k2 iv⟩
 .exact k2.elim
end
theorem tL (ns:ak Int):∀ k,k<ns.length->argBest (λi j=>decide (ns.getD i 0<ns.getD j 0)) k<=k/\∀ j,j<=k->ns.getD (argBest (λi j=>decide (ns.getD i 0<ns.getD j 0)) k) 0<=ns.getD j 0
 |0,_=>⟨aq _,λj hj=>by rw[show j=0 by lia];exact bo _⟩
 | k+1,h=>by
  let ⟨h1,h2⟩:=tL ns k<|bZ ‹_›;unfold argBest;by_cases hb:ns.getD (k+1) 0<ns.getD (argBest (λi j=>decide (ns.getD i 0<ns.getD j 0)) k) 0
  .rw[aA (aB hb)];refine⟨aq _,λj hj=>?_⟩;by_cases e:j=k+1
   .rw[e];exact bo _
   .exact bT (cv hb) (h2 j<|by lia)
  .rw[aC (by simp only[bA];exact hb)];refine⟨by lia,λj hj=>?_⟩;by_cases e:j=k+1
   .lia
   .exact h2 j (by lia)
section
variable {prog:ae}{w:af}{A:Around}{R:Result->ah->Prop}{I:ai}{fp wr:ak ai}{n:Nat}{P:Nat->aj->Prop}{St:Nat->Heap->Prop}{kw:ak (Str×aj)}
def Lw (W:Walks prog w A.in1 I fp wr n P St)(bt:Nat->Nat->Bool)(WK:CmpOf prog w A.in1 .Lt P bt)(S:ai)(Yw:S∉fp):
 ∀(k j:Nat) (s:ah) (vb:aj) (c:Nat),n - (j+1)=k->j+1<=n->St (j+1) s.heap->P (argBest bt j) vb->s.heap.get? S=some { cls:=.type "list",dict:=none,data:=.seq #[vb,vb] c,slots:=#[]} ->
 (∀ v h' tk,P (argBest bt<|n - 1) v->(∀ b o,b∉wr->b≠S->s.heap.get? b=some o->h'.get? b=some o)->R (.ok<|.ret v) {s with heap:=h',toks:=tk}) ->
 codeAny (model prog w) A (.builtin "min.loop" ⟨[.ref I,.none,.ref S],kw⟩) R s:=by
 have Sw:S∉wr:=λh=>Yw<|W.sub _ h;have nm:(toString "min"++toString ".loop" : String) = "min.loop":=by decide
 intro k;induction k with
 | zero =>
  intro j s vb c hk hj E8 hP hS hR;have ej:j+1=n:=by lia
  refine cW eA ?_;refine fH<|bP hS rfl ?_;refine fH (d8<|W.done s _ _ (ej▸E8) λh' tk kp=>?_);refine fH<|cU (kp S _ Sw hS) rfl (fH<|c0<|av ?_);exact hR vb _ tk (by rw[<- ej];exact hP) λb o hb hbS e=>(aF _ _<|bJ hbS).trans (kp b o hb e)
 | succ k ih =>
  intro j s vb c hk hj E8 hP hS hR;have lt:j+1<n:=by lia
  refine cW eA ?_;show wpAny _ _ (seqItems? (.ref S)>>=_) _ _ s;refine fH<|bP hS rfl ?_;refine fH (d8<|W.item (j+1) s _ _ lt E8 λv h' tk hv LM kp=>?_);have Rn:=kp S _ Sw hS;show wpAny _ _ (tryCatch (holding [v,v]<|richCompare .Lt v vb>>=_) _>>=_) _ _ _;refine fH<|d8<|bR<|fH<|WK (j+1) (argBest bt j) v vb _ _ _ hv hP<|fH<|bR<|cy<|fH<|c0<|av ?_;cases hb:bt (j+1) (argBest bt j)with
  | true =>
   simp only[if_true];refine fH<|cU Rn rfl (fH<|c0 ?_);rw[nm];refine av ⟨c4 cI _,ih (j+1) _ v _ (by lia) lt (W.frame _ _ _ LM λb WN o e=>?_) (by simp only[argBest,hb,if_true];exact hv) (bE _ Rn rfl) λv' h2 UD J8 Nr=>?_⟩
   .exact(aF _ _ (λh:S=b=>Yw (by rw[h];exact WN))).trans e
   .exact hR v' h2 UD J8 λb o h1 h3 e=>Nr b o h1 h3 ((aF _ _<|bJ h3).trans<|kp b o h1 e)
  | false =>simp only[cR,if_false];refine fH<|c0 ?_;rw[nm];exact av ⟨c4 cI _,ih (j+1) _ vb c (by lia) lt LM (by simp only[argBest,hb,cR,if_false];exact hP) Rn λv' h2 UD J8 Nr=>hR v' h2 UD J8 λb o h1 h3 e=>Nr b o h1 h3<|kp b o h1 e⟩
end
def BS (a v:aj):argsOk "min" ⟨[a],[(Str.ofString "default",v)]⟩:=by kernel_rfl
section
variable {X:Cx}
def zu {dv:aj}(I:Inv X fb σ H s)(gN:X.gN=true)(hp:H p=some (.lst<|ns.map V.int))(rd:fW d dv)(q:if ns=[]then Q d H else ∀ m,m∈ns->(∀ y∈ns,m<=y)->Q (.int m) H):
 wpAny (model X.prog X.w) X.A (call (.builtin "min") [.ref p] [(Str.ofString "default",dv)]) (EP X fb σ Q) X.xe s:=by
 have nm:(toString "min"++toString ".loop" : String) = "min.loop":=by decide
 obtain⟨_,fE,n,r,hl,e⟩:=I.k7 hp;have zF:s.heap.IsList p fE.toArray:=⟨_,e,rfl,n,rfl⟩;have lt:p≠s.heap.objs.size:=aw<|iO e;have len:fE.toArray.size=ns.length:=by rw[au,<- hl,gQ]
 have val:∀(i:Nat) (v:aj),fE.toArray[i]?=some v->∃ t,i<ns.length/\v=.int (ns.getD i 0) t:=λi v hv=>by
  have CW:fE[i]?=some v:=by simpa using hv
  cases eb:(ns.map V.int)[i]? with
  |none=>have:=r.none_of eb;rw[CW]at this;cases this
  | some y =>
   refine fj (r.get eb) λu hu ry=>?_;rw[CW]at hu;cases hu;rw[nX]at eb;cases e2:ns[i]? with
   |none=>rw[e2]at eb;cases eb
   | some b =>rw[e2]at eb;cases eb;obtain⟨t,rfl⟩:=ry;exact⟨t,(kP e2).1,by rw[ar,e2];rfl⟩
 refine PyProof.Rows.kmk_tree PySem.F.kind_min PySem.F.plain_min PySem.F.entry_min (BS _ _) ?_;show wpAny _ _ (Builtin.Builtins.bindParams "min" ["key","default"] 0 ⟨[],[(Str.ofString "default",dv)]⟩>>=_) _ _ s;refine fH<|wpAny_of_eq rfl (fH<|av<|fH<|dw zF<|fH<|wpAny_newList ?_<|aS _);rw[nm];have W:=Walks.list (prog:=X.prog) (w:=X.w) (A:=X.A.in1) (I.ok.hd gN) s.heap.objs.size p lt fE.toArray;have hS:((s.heap.push { cls:=.type "list_iterator",data:=.fields #[.ref p,.int 0 0]}).push { cls:=.type "list",data:=.seq ([]:ak aj).toArray}).get? (s.heap.push { cls:=.type "list_iterator",data:=.fields #[.ref p,.int 0 0]}).objs.size=some { cls:=.type "list",dict:=none,data:=.seq #[] 0,slots:=#[]}:=aD _ rfl;have RK:(s.heap.push { cls:=.type "list_iterator",data:=.fields #[.ref p,.int 0 0]}).objs.size=s.heap.objs.size+1:=aX ..
 have ltp:p<s.heap.objs.size:=iO e;have Sf:(s.heap.push { cls:=.type "list_iterator",data:=.fields #[.ref p,.int 0 0]}).objs.size∉[s.heap.objs.size,p]:=by rw[RK];simp only[aT,aM,bY,not_or];exact⟨ba<|bQ _,ba<|aY ltp⟩
 have M8:((s.heap.push { cls:=.type "list_iterator",data:=.fields #[.ref p,.int 0 0]}).push { cls:=.type "list",data:=.seq ([]:ak aj).toArray}).IsListIter s.heap.objs.size p 0/\((s.heap.push { cls:=.type "list_iterator",data:=.fields #[.ref p,.int 0 0]}).push { cls:=.type "list",data:=.seq ([]:ak aj).toArray}).IsList p fE.toArray :=
  ⟨⟨_,jx _<|aD _ rfl,rfl,rfl⟩,(zF.push _).push _⟩
 have back:∀ {h':Heap} {tk:Nat},(∀ b o,s.heap.get? b=some o->h'.get? b=some o)->Inv X fb σ H {s with heap:=h',toks:=tk}:=λkp=>I.iC kp;refine av ⟨c4 cI _,?_⟩;refine cW eA ?_;rw[c3 cI _];show wpAny _ _ (seqItems? (.ref _)>>=_) _ _ _;refine fH<|bP hS rfl ?_;show wpAny _ _ (tryCatch (pyNext<|.ref s.heap.objs.size) _>>=_) _ _ _;by_cases hn:ns=[]
 .rw[aA hn]at q;have z0:fE.toArray.size=0:=by rw[len,hn];rfl
  refine fH (d8<|W.done _ _ _ (by rw[z0];exact M8) λh' tk kp=>?_);show wpAny _ _ (rule _>>=_) _ _ _;refine fH<|eV<|av ?_;exact⟨d,H,back λb o eb=>kp b o (by simpa using aw<|iO eb)<|jx _<|jx _ eb,rd,q⟩
 .rw[aC hn]at q;have pos:0<ns.length:=List.length_pos_iff.mpr hn;refine fH (d8<|W.item 0 _ _ _ (by rw[len];exact pos) M8 λv h' tk hv LM kp=>?_);have Rn:=kp _ _ (by simpa using(λz:(s.heap.push { cls:=.type "list_iterator",data:=.fields #[.ref p,.int 0 0]}).objs.size=s.heap.objs.size=>Sf<|by simp[z])) hS;show wpAny _ _ (updateSeq _ (λ_=>#[v,v])>>=_) _ _ _;refine fH<|cU Rn rfl ?_;rw[nm];refine av ⟨c4 cI _,Lw W (λi j=>decide (ns.getD i 0<ns.getD j 0)) ?_ _ Sf _ 0 _ v _ rfl (by rw[len];exact pos) (W.frame _ _ _ LM λb WN o eb=>?_) hv (bE _ Rn rfl) λv' h2 UD J8 Nr=>?_⟩
  .intro i j vi vj s' Q' E' hi hj hq;obtain⟨t,_,rfl⟩:=val i vi hi;obtain⟨t',_,rfl⟩:=val j vj hj;exact lt_int hq
  .exact(aF _ _ λh=>Sf (by rw[h];exact WN)).trans eb
  .rw[len]at J8;refine fj (val _ v' J8) λt ky fV=>?_;subst fV;obtain⟨b1,b2⟩:=tL ns (ns.length - 1) (by lia);have nS:∀ b o,s.heap.get? b=some o->b≠(s.heap.push { cls:=.type "list_iterator",data:=.fields #[.ref p,.int 0 0]}).objs.size:=λb o eb=>by rw[RK];exact aw (aY<|iO eb)
   have nI:∀ b o,s.heap.get? b=some o->b∉[s.heap.objs.size]:=λb o eb=>by simpa using aw (iO eb)
   refine⟨.int _,H,back λb o eb=>Nr b o (nI b o eb) (nS b o eb)<|(aF _ _<|bJ<|nS b o eb).trans<|kp b o (nI b o eb)<|jx _<|jx _ eb,⟨t,rfl⟩,q _ ?_ λx hx=>?_⟩
   .rw[ar,iT ky];exact a9 _
   .obtain⟨j,hj,ej⟩:=aN hx;have:=b2 j (by lia);rw[ar (i:=j),iT hj,ej]at this;exact this
def TF (w wd:De):De:=λρ μ K=>w ρ μ λx fM=>wd ρ fM λd iA=>∃ ns:ak Int,lv iA x=some (ns.map D.int)/\if ns=[]then K d iA else ∀ m,m∈ns->(∀ y∈ns,m<=y)->K (.int m) iA
def Qx (gN:X.gN=true)(hg:Gl X "min")(hm:X.mg "min"=none)(he:PD X e w)(hc:PD X c wd)
 (h1:starEach [e] X.env=(false,eval e X.env)::starEach [] X.env:=by rfl)
 (h2:backTo pos (starEach [e] X.env)=(false,eval e X.env)::backTo pos (starEach [] X.env):=by rfl) (h3:(backTo pos<|starEach [e] X.env).any (·.1)=false:=by rfl)
 (h4:(backToKw pos<|keywordEach [⟨some "default",c,xP⟩] X.env).all (·.1.isSome)=true:=by rfl) (h5:(backToKw pos<|keywordEach [⟨some "default",c,xP⟩] X.env).any (·.1.isNone)=false:=by rfl)
 (h6:(backToKw pos<|keywordEach [⟨some "default",c,xP⟩] X.env).filterMap (·.1)=[Str.ofString "default"]:=by rfl):
 PD X (.Call (.Name "min" p) [e] [⟨some "default",c,xP⟩] pos) (TF w wd):=by
 intro fb s σ H Q I h;refine gG h λφ ρ μ K A M k L=>?_;refine cw<|ku I hg hm cS ?_;have q1:vI (tD w) Ep σ H (λus H1=>vI (tD wd) Ep σ H1 λds H2=>∃(l:ai) (d:V) (ns:ak Int),us=[.ref l]/\ds=[d]/\H2 l=some (.lst<|ns.map V.int)/\if ns=[]then Q d H2 else ∀ m,m∈ns->(∀ y∈ns,m<=y)->Q (.int m) H2):=by
  refine⟨φ,ρ,μ,_,A,M,k,λd1 fM gy v1 H1 k1 f1 M1 i1=>⟨gy,ρ,fM,_,A.mono f1,M1,k1,λd2 iA kL v2 H2 k2 f2 M2 i2=>?_⟩⟩;refine fj k2 λns el k2=>?_;refine fZ (jA M2 (i1.mono f2) el) λl vs fV hp ha=>?_;subst fV;have YS:=L.mono<|f1.trans f2;refine⟨l,v2,ns,rfl,rfl,by rw[hp,ha.ints],?_⟩;by_cases hn:ns=[]
  .rw[aA hn]at k2 ⊢;exact YS.val M2 k2 i2
  .rw[aC hn]at k2 ⊢;exact λm a b=>YS.val M2 (k2 m a b) rfl
 refine PyProof.Rows.callWith_kw (hZ (fJ he gZ h1 pos fb s σ H _ I q1) λus s1 h_=>fZ h_ λvs H1 I1 r1 q2=>hZ (Cz hc G2 pos fb s1 σ H1 _ I1 q2) λks s2 LO=>?_) h2 h3 h4 h5;obtain⟨ds,H2,I2,r2,l,d,ns,e1,e2,hp,q⟩:=LO;subst e1 e2;refine fj r1.one λu fV ru=>?_;subst fV;refine fj r2.one λu2 fV VF=>?_;subst fV;subst ru;exact zu I2 gN hp VF q
end
theorem nr:∀(xs:ak Int) (e:Int),e<=xs.foldl max e/\∀ x∈xs,x<=xs.foldl max e
 |[],e=>⟨bo _,λ_ h=>nomatch h⟩
 | y::xs,e=>by
  let ⟨h1,h2⟩:=nr xs<|max e y;rw[cE];refine⟨by lia,λx hx=>?_⟩;rcases List.mem_cons.mp hx with q|q
  .lia
  .exact h2 x q
theorem kQ:∀(xs:ak Int) (e:Int),xs.foldl max e=e\/xs.foldl max e∈xs
 |[],e=>.inl rfl
 | y::xs,e=>by
  rw[cE];rcases kQ xs (max e y)with h|h
  .rw[h];rcases Int.le_total e y with q|q
   .exact .inr (by rw[show max e y=y by lia];exact aH)
   .exact .inl (by lia)
  .exact .inr (mQ _ h)
def sP (l:ak Nat)(e:Nat):Nat:=e+((l.drop e).takeWhile (·==111)).length
def uQ (ho:OX l)(he:e<=l.length):QV l e (sP l e):=by
 have split:=List.takeWhile_append_dropWhile (p:=λc=>c==111) (l:=l.drop e);have len:=cq List.length split;rw[kO,bz]at len;refine⟨aQ _ _,by delta sP;lia,λv h1 h2=>?_,?_⟩
 .have hv:v - e<((l.drop e).takeWhile (·==111)).length:=by unfold sP at h2;lia
  have g:l[v]?=((l.drop e).takeWhile (·==111))[v - e]?:=by
   have q:(l.drop e)[v - e]?=l[v]?:=by rw[cP];congr 1;lia
   rw[<- q,<- split,vX hv];simp
  rw[g,iT hv]
  have:=List.all_eq_true.mp (List.all_takeWhile) _ (a9 hv)
  simpa using this
 .cases hd:(l.drop e).dropWhile (·==111)with
  | nil =>left;rw[hd]at len;delta sP;simp at len;lia
  | cons c r =>
   right;have g:l[sP l e]?=some c:=by
    have q:(l.drop e)[sP l e - e]?=l[sP l e]?:=by rw[cP];congr 1;delta sP;lia
    rw[<- q,<- split,p8 (by delta sP;simp),hd];delta sP;simp
   have nc:c≠111:=by have:=List.head?_dropWhile_not (p:=λc=>c==111) (l:=l.drop e);rw[hd]at this;simpa using this
   rw[g];rcases ho c (lC g)with q|q
   .exact absurd q nc
   .rw[q]
def je (es:ak Int)(l:ak Nat)(e:Int):Int:=(es.filter λx=>decide (x<=(sP l e.toNat:Int))).foldl max e
def Dv {e:Int}(ho:OX l)(h0:0<=e)(he:e<=l.length)(hm:e∈es):Uq es l e (je es l e):=by
 have ct:=uQ ho (e:=e.toNat) (by lia);have ein:e∈es.filter λx=>decide (x<=(sP l e.toNat:Int)):=List.mem_filter.mpr ⟨hm,aB (by have:=ct.1;lia)⟩;obtain⟨a,b⟩:=nr (es.filter λx=>decide (x<=(sP l e.toNat:Int))) e;have mi:je es l e∈es.filter λx=>decide (x<=(sP l e.toNat:Int)):=by
  rcases kQ (es.filter λx=>decide (x<=(sP l e.toNat:Int))) e with q|q
  .delta je;rwa [q]
  .exact q
 refine lQ (List.mem_filter.mp mi) λm1 m2=>?_;exact⟨_,ct,m1,bp m2,λx hx hxt=>b x<|List.mem_filter.mpr ⟨hx,aB hxt⟩⟩
def Iu {es:ak Int}{l:ak Nat}{e m:Int}(ho:OX l)(h0:0<=e)(he:e<=l.length)(hm:e∈es)(h:Uq es l e m):m=je es l e:=h.uniq (Dv ho h0 he hm)
def uD {es:ak Int}{l:ak Nat}{e:Int}(hm:e∈es):je es l e∈es:=by
 delta je;rcases kQ (es.filter λx=>decide (x<=(sP l e.toNat:Int))) e with q|q
 .rwa [q]
 .exact(List.mem_filter.mp q).1
def Dx (es:ak Int)(l:ak Nat)(e:Int):e<=je es l e:=(nr _ e).1
def jz (es:ak Int)(ts:ak Tk)(a e:Int):Int:=ts.foldl (λm t=>if t.2<=a then max m (je es t.1 e)else m) e
def ja (es:ak Int)(ts:ak Tk)(a:Int):ak Int:=es.map (jz es ts a)
theorem y9 (es:ak Int)(a e:Int):∀(ts:ak Tk) (m:Int),ts.foldl (λm t=>if t.2<=a then max m (je es t.1 e)else m) m=((ts.filter λt=>decide (t.2<=a)).map λt=>je es t.1 e).foldl max m
 |[],m=>rfl
 | t::ts,m=>by
  rw[cE,y9 es a e ts,eY];by_cases h:t.2<=a
  .rw[aA h,aA (aB h)];rfl
  .rw[aC h,aC (by simp[h])]
def kG (es:ak Int)(ts:ak Tk)(a e:Int):jz es ts a e=((ts.filter λt=>decide (t.2<=a)).map λt=>je es t.1 e).foldl max e:=y9 es a e ts e
def za {es:ak Int}{ts:ak Tk}{a e:Int}(hm:e∈es):jz es ts a e∈es:=by
 rw[kG];rcases kQ ((ts.filter λt=>decide (t.2<=a)).map λt=>je es t.1 e) e with q|q
 .rwa [q]
 .refine fj (List.mem_map.mp q) λt _ ht=>?_;rw[<- ht];exact uD hm
def oP (es:ak Int)(ts:ak Tk)(a e:Int):e<=jz es ts a e:=by rw[kG];exact(nr _ e).1
def vc (es:ak Int)(t:Tk):ak Int:=es.map (je es t.1)
def pY (es:ak Int)(a:Int)(told:ak Int)(t:Tk):ak Int:=if t.2<=a then List.zipWith max told (vc es t)else told
theorem wu (es:ak Int)(a:Int):∀(ts:ak Tk) (g:Int->Int),ts.foldl (pY es a) (es.map g)=es.map λe=>ts.foldl (λm t=>if t.2<=a then max m (je es t.1 e)else m) (g e)
 |[],g=>rfl
 | t::ts,g=>by
  have e1:pY es a (es.map g) t=es.map λe=>if t.2<=a then max (g e) (je es t.1 e)else g e:=by
   delta pY;by_cases h:t.2<=a
   .rw[aA h];delta vc;simp[h]
   .simp[h]
  rw[cE,e1,wu es a ts];rfl
def Jt (es:ak Int)(ts:ak Tk)(a:Int):ts.foldl (pY es a) es=ja es ts a:=by have:=wu es a ts id;rw[List.map_id]at this;rw[this];rfl
def rowAt (es row:ak Int)(x:Int):Int:=(row[es.idxOf x]?).getD 0
def l8 (es:ak Int)(ts:ak Tk)(before:ak Int)(a:Int):ak Int:=List.zipWith (λRo mid=>max Ro<|rowAt es before mid) (ja es ts a) before
structure qL (es row:List Int):Prop where
 len:row.length=es.length
 mem:∀ x∈row,x∈es
def Bx {es:ak Int}{x:Int}(h:x∈es):es.idxOf x<es.length:=List.idxOf_lt_length_iff.mpr h
def tx {es:ak Int}{x:Int}(h:x∈es):es[es.idxOf x]?=some x:=by rw[iT (Bx h)];congr 1;exact List.getElem_idxOf (Bx h)
def t9 {es row:ak Int}(r:qL es row){x:Int}(h:x∈es):row[es.idxOf x]?=some (rowAt es row x):=by have hl:es.idxOf x<row.length:=r.len▸Bx h;delta rowAt;rw[iT hl];rfl
def EA {es row:ak Int}(r:qL es row){x:Int}(h:x∈es):rowAt es row x∈es:=r.mem _ (lC<|t9 r h)
def LZ (es:ak Int):qL es es:=⟨rfl,λ_ h=>h⟩
def A3 (es:ak Int)(ts:ak Tk)(a:Int):qL es (ja es ts a):=⟨by delta ja;rw[gQ],λx hx=>by
 obtain⟨e,he,rfl⟩:=List.mem_map.mp hx
 exact za he⟩
def max_mem {es:ak Int}{a b:Int}(ha:a∈es)(hb:b∈es):max a b∈es:=by
 rcases Int.le_total a b with h|h
 .rwa [show max a b=b by lia]
 .rwa [show max a b=a by lia]
def CL {es:ak Int}{ts:ak Tk}{before:ak Int}{a:Int}(r:qL es before):qL es (l8 es ts before a):=by have o:=A3 es ts a;refine⟨by delta l8;rw[bF,o.len,r.len,Nat.min_self],λx hx=>?_⟩;unfold l8 at hx;obtain⟨i,hi,rfl⟩:=aN hx;rw[List.getElem_zipWith];exact max_mem (o.mem _<|a9 _) (EA r<|r.mem _<|a9 _)
def iQ (es:ak Int)(ts:ak Tk):Nat->ak Int
 |0=>ja es ts 0
 |a+1=>l8 es ts (iQ es ts a) ((a:Int)+1)
theorem qg (es:ak Int)(ts:ak Tk):∀ a,qL es (iQ es ts a)
 |0=>A3 es ts 0
 |a+1=>CL (qg es ts a)
def AU {es:ak Int}{x:Int}(h:x∈es):rowAt es es x=x:=by delta rowAt;rw[tx h];rfl
def vS (es:ak Int)(ts:ak Tk)(a:Int):l8 es ts es a=ja es ts a:=by
 have key:∀ xs:ak Int,(∀ x∈xs,x∈es)->List.zipWith (λRo mid=>max Ro<|rowAt es es mid) (xs.map<|jz es ts a) xs=xs.map (jz es ts a):=by
  intro xs;induction xs with
  |nil=>intro _;rfl
  | cons x xs ih =>intro h;rw[az,cf,ih λy hy=>h y<|mQ _ hy,AU (h x aH)];have:=oP es ts a x;rw[show max (jz es ts a x) x=jz es ts a x by lia]
 exact key es λ_ h=>h
def y8 {es:ak Int}{ts:ak Tk}{a:Int}(h:∀ t∈ts,a<t.2):ja es ts a=es:=by
 delta ja;have e:∀ e,jz es ts a e=e:=λe=>by rw[kG,List.filter_eq_nil_iff.mpr λt ht=>by have:=h t ht;simp;lia];rfl
 rw[bO λx _=>e x,List.map_id']
theorem qX:∀ {a:Nat},(∀ t∈ts,(a:Int)<t.2)->iQ es ts a=es
 |0,h=>y8 h
 | a+1,h=>by unfold iQ;rw[qX λt ht=>by have:=h t ht;lia,vS];exact y8 λt ht=>by have:=h t ht;assumption
def Pk (h:lv μ x=some ds):lv (μ++[m]) x=some ds:=by
 cases x with
 |lst es=>exact h
 |mr k=>exact Lx h
 |_=>cases h
structure gP (n:Int)(cs:List Int)(ts:List Tk):Prop where
 n1:1<=n
 n2:n<=1000
 oA:cs.length<=1000
 ij:Cuts n cs
 takes:Eb n ts
def oY (n:Int)(cs:ak Int):0∈e9 n cs:=by delta e9;simp
def L0 {n:Int}{cs:ak Int}(h1:1<=n)(h:Cuts n cs):(e9 n cs).Nodup:=eK (λh=>Int.ne_of_lt h) (gr h1 h)
def v7:lp:=λds μ K=>dM [.i,.v,.s,.i] ds λn x z e=>∃ cs:ak Int,lv μ x=some (cs.map D.int)/\cs.length<=1000/\(z.length:Int)=n/\n<=1000/\OX z.cps.toList/\0<=e/\e<=n/\e∈e9 n cs/\K (.int<|je (e9 n cs) z.cps.toList e) μ
def k8 (es:ak Int)(t:Tk):D:=.tup [.int t.2,.lst ((vc es t).map D.int)]
def vZ:lp:=λds μ K=>dM [.i,.v,.v] ds λn x y=>∃(cs:ak Int) (ts:ak Tk),lv μ x=some (cs.map D.int)/\lv μ y=some (ts.map rV)/\gP n cs ts/\K (.lst<|ts.map<|k8<|e9 n cs) μ
def v8:lp:=λds μ K=>dM [.v,.l,.i] ds λx r a=>∃(es:ak Int) (ts:ak Tk),lv μ x=some (es.map D.int)/\r=ts.map (k8 es)/\es.length<=2000/\ts.length<=100/\K (.lst<|(ja es ts a).map D.int) μ
def Iy:lp:=λds μ K=>dM [.v,.l,.v,.i] ds λx r y a=>∃(es:ak Int) (ts:ak Tk) (bf:ak Int),lv μ x=some (es.map D.int)/\r=ts.map (k8 es)/\es.length<=2000/\ts.length<=100/\es.Nodup/\lv μ y=some (bf.map D.int)/\qL es bf/\K (.mr μ.length) (μ++[.lst ((l8 es ts bf a).map D.int)])
def jE (ts:ak Tk):Int:=match ts.map (·.2)with|[]=>0|a::r=>r.foldl min a
theorem jT:∀(xs:ak Int) (e:Int),(xs.foldl min e=e\/xs.foldl min e∈xs)/\xs.foldl min e<=e/\∀ x∈xs,xs.foldl min e<=x
 |[],e=>⟨.inl rfl,bo _,λ_ h=>nomatch h⟩
 | y::xs,e=>by
  let ⟨h0,h1,h2⟩:=jT xs<|min e y;rw[cE];refine⟨?_,by lia,λx hx=>?_⟩
  .rcases h0 with h | h
   .rw[h];rcases Int.le_total e y with q|q
    .exact .inl (by lia)
    .exact .inr (by rw[show min e y=y by lia];exact aH)
   .exact .inr (mQ _ h)
  .rcases List.mem_cons.mp hx with q | q
   .lia
   .exact h2 x q
def FY {ts:ak Tk}{m:Int}(hm:m∈ts.map (·.2))(hl:∀ y∈ts.map (·.2),m<=y):m=jE ts:=by
 delta jE;cases e:ts.map (·.2)with
 |nil=>rw[e]at hm;cases hm
 | cons a r =>
  rw[e]at hm hl;refine jr (jT r a) λh0 h1 h2=>?_;have a1:m<=r.foldl min a:=by
   rcases h0 with q|q
   .rw[q];exact hl a aH
   .exact hl _ (mQ _ q)
  have a2:r.foldl min a<=m:=by
   rcases List.mem_cons.mp hm with q|q
   .lia
   .exact h2 m q
  lia
def yI:∀ t∈ts,jE ts<=t.2:=λt ht=>by
 have hm:t.2∈ts.map (·.2):=List.mem_map.mpr ⟨t,ht,rfl⟩;delta jE;cases e:ts.map (·.2)with
 |nil=>rw[e]at hm;cases hm
 | cons a r =>
  rw[e]at hm;refine jr (jT r a) λh0 h1 h2=>?_;rcases List.mem_cons.mp hm with q|q
  .lia
  .exact h2 _ q
def yH {ts:ak Tk}{n:Int}(h:Eb n ts):0<=jE ts/\jE ts<=60:=by
 delta jE;cases e:ts.map (·.2)with
 |nil=>exact⟨bo _,by decide⟩
 | cons a r =>
  refine jr (jT r a) λh0 h1 h2=>?_;have key:∀ x∈a::r,0<=x/\x<=60:=λx hx=>by rw[<- e]at hx;obtain⟨t,ht,rfl⟩:=List.mem_map.mp hx;have:=h.ok t ht;exact⟨this.2.2.1,this.2.2.2⟩
  show 0<=r.foldl min a/\r.foldl min a<=60;rcases h0 with q|q
  .rw[q];exact key a aH
  .exact key _ (mQ _ q)
def vY:lp:=λds μ K=>dM [.v] ds λy=>∃ ts:ak Tk,lv μ y=some (ts.map rV)/\ts.length<=100/\K (.int<|jE ts) μ
def V4 (x sc:Scope):Scope:={ sc with names:=sc.names.map λ(n,k)=>if k==NameKind.free&&x.kind==.function&&x.names.lookup n==some .cell then(n,NameKind.cell)else(n,k)}
def ya (hs:X0.env.scope=xsc)(h:tI N0 (V4 xsc UJ) N js sc=true):jI (n0 X0 N0 UJ fp s H) N js sc:=by subst hs;exact BO h rfl rfl
def sf (p:Int->Bool):D->ao D
 |.int i=>if p i=true then some (.int i)else none
 |_=>none
def zP (p:Int->Bool)(es:ak Int):(es.map D.int).filterMap (sf p)=(es.filter p).map D.int:=by
 induction es with
 |nil=>rfl
 | cons e es ih =>
  rw[az,cG,eY];unfold sf at ih ⊢
  by_cases h:p e=true
  .simp only[h,if_true,az];rw[ih]
  .simp only[h,if_false];rw[ih];rfl
def CT {p:Int->Bool}{i:Int}{K:ao D->MS->Prop}{μ:MS}(h:p i=true)(k:K (sf p<|.int i) μ):K (some<|.int i) μ:=by have e:sf p (.int i)=some (.int i):=aA h;rw[e]at k;exact k
def CU {p:Int->Bool}{i:Int}{K:ao D->MS->Prop}{μ:MS}(h:¬ p i=true)(k:K (sf p<|.int i) μ):K none μ:=by have e:sf p (.int i)=none:=aC h;rw[e]at k;exact k
def Sl (g:Int->D):D->ao D
 |.int i=>some (g i)
 |_=>none
def LU (g:Int->D)(es:ak Int):(es.map D.int).filterMap (Sl g)=es.map g:=by rw[List.filterMap_map,<- eS];rfl
def Pj (g:Tk->D):D->ao D
 |.tup [.str z,.int a]=>some (g (z.cps.toList,a))
 |_=>none
def Dl (g:Tk->D)(ts:ak Tk):(ts.map rV).filterMap (Pj g)=ts.map g:=by rw[List.filterMap_map,<- eS];rfl
def ES (g:Int->Int->D):D->ao D
 |.tup [.int a,.int b]=>some (g a b)
 |_=>none
def Dm (g:Int->Int->D)(xs ys:ak Int):(List.zipWith (λa b=>D.tup [a,b]) (xs.map D.int)<|ys.map D.int).filterMap (ES g)=List.zipWith g xs ys:=by
 rw[List.zipWith_map];induction xs generalizing ys with
 |nil=>simp
 | cons x xs ih =>
  cases ys with
  |nil=>simp
  |cons y ys=>rw[cf,cf,cG,ih];rfl
def B6 {xs ys:ak Int}(h:d∈List.zipWith (λa b=>D.tup [a,b]) (xs.map D.int) (ys.map D.int)):∃ a∈xs,∃ b∈ys,d=.tup [.int a,.int b]:=by
 induction xs generalizing ys with
 |nil=>simp at h
 | cons x xs ih =>
  cases ys with
  |nil=>simp at h
  | cons y ys =>
   rcases List.mem_cons.mp h with q|q
   .exact⟨x,aH,y,aH,q⟩
   .obtain⟨a,ha,b,hb,e⟩:=ih q;exact⟨a,mQ _ ha,b,mQ _ hb,e⟩
theorem AB {α β γ δ:Type}(f:γ->δ)(g:α->β->γ):∀(xs:ak α) (ys:ak β),(List.zipWith g xs ys).map f=List.zipWith (λa b=>f<|g a b) xs ys
 |[],_=>rfl
 |_::_,[]=>rfl
 |x::xs,y::ys=>by rw[cf,cf,az,AB f g xs ys]
abbrev kI (i:Int):Key:=.inl i
def uG:Nat->ak Int->ak D
 |_,[]=>[]
 |n,e::es=>.tup [.int n,.int e]::uG (n+1) es
theorem wc:∀(n:Nat) (es:ak Int) (i:Nat),(uG n es)[i]?=(es[i]?).map λe=>D.tup [.int ((n+i:Nat):Int),.int e]
 |n,[],i=>by simp[uG]
 |n,e::es,0=>by simp[uG]
 | n,e::es,i+1=>by unfold uG;rw[dZ,dZ,wc (n+1) es i];congr 1;funext e;rw[show n+1+i=n+(i+1) by lia]
def IM (es:ak Int):k9 (es.map D.int)=uG 0 es:=by
 apply cA;intro i;rw[wc];delta k9;rw[bD,gQ,nX];cases e:es[i]? with
 |none=>simp
 | some x =>have hi:=(kP e).1;rw[bG hi];simp
def pE:Nat->ak Int->ak (Key×D)
 |_,[]=>[]
 |n,e::es=>(kI e,.int n)::pE (n+1) es
theorem yK {it:D->MS->(ao (Key×D)->MS->Prop)->Prop}{c:MS->Prop}{μ:MS}{K:ak (Key×D)->Prop}(hc:∀ m,c (μ++[m]))(hit:∀(i:Nat) (e:Int) (fI:MS) (K':ao (Key×D)->MS->Prop),K' (some (kI e,.int i)) fI->it (.tup [.int i,.int e]) fI K'):∀(es:ak Int) (n:Nat) (fw:ak (Key×D)),es.Nodup->(∀ kv∈fw,∀ e∈es,kv.1≠kI e)->K (fw++pE n es)->uL it c μ (uG n es) fw K
 | [],n,fw,_,_,k=>by rw[show pE n []=[]from rfl,a8]at k;exact⟨hc _,k⟩
 | e::es,n,fw,nd,hk,k=>by
  refine⟨hc _,hit n e _ _ ⟨rfl,rfl,?_⟩⟩;have hn:(fw.any λkv=>decide (kv.1=kI e))=false:=by rw[eJ];intro kv SH;simp;exact hk kv SH e aH
  have hd:dput fw (kI e) (.int n)=fw++[(kI e,.int n)]:=by delta dput;rw[hn];rfl
  rw[hd];refine yK hc hit es (n+1) _ (List.nodup_cons.mp nd).2 (λkv SH e' UX=>?_) ?_
  .rcases List.mem_append.mp SH with q | q
   .exact hk kv q e' (mQ _ UX)
   .rw[List.mem_singleton.mp q];intro z;have z':e=e':=by injection z
    rw[z']at nd;exact(List.nodup_cons.mp nd).1 UX
  .rwa [cC]
theorem zip_parts {α β:Type}:∀ l:ak (α×β),(l.map (·.1)).zip (l.map (·.2))=l
 |[]=>rfl
 |p::l=>by rw[az,az,cO,zip_parts l]
theorem vB:∀ {es:ak Int} {n:Nat} {m:Int},m∈es->uI (pE n es) (kI m)=some (.int ((n+es.idxOf m:Nat):Int))
 |[],n,m,h=>by cases h
 | e::es,n,m,h=>by
  unfold pE uI;rw[cn];by_cases q:e=m
  .subst q;simp
  .have hm : m ∈ es := by rcases List.mem_cons.mp h with z | z
                          .exact absurd z.symm q
                          .exact z
   have nk:decide ((kI e)=kI m)=false:=aP λz=>q (by injection z)
   have nk':=nk
   rw[nk']
   have:=vB (n:=n+1) hm
   unfold uI at this
   rw[this,show(e::es).idxOf m=es.idxOf m+1 by rw[List.idxOf_cons,show(e==m)=false from beq_false_of_ne q];rfl]
   congr 3
   lia
section
variable {X:Cx}{N:ak Str}{sc:Scope}{js:ak (ao Nat)}{tg iter kx vx:Expr}{ifs:ak Expr}{g:TG}{tt:TT}{tk tv:TE}
def He (hc:jI X N js sc)(gN:X.gN=true)(hi:PI X tg iter wi)(hg:∀ fp s H,PG (u0 X N sc fp s H) tg g)
 (ht:∀ fp s H,JQ (u0 X N sc fp s H) ifs tt) (hk:∀ fp s H,PE (u0 X N sc fp s H) kx tk) (hv:∀ fp s H,PE (u0 X N sc fp s H) vx tv)
 (hs:∀ x,foldedSetIterable iter X.env x=pure x:=by intro _;rfl):PE X (.DictComp kx vx [⟨tg,iter,ifs,0⟩] sc pos) (Gu wi js g tt tk tv):=by
 intro fb s σ H Q I h;refine dH (use:=none) rfl hs (mD λy hy e=>I.ok.has y.1<|hc.free y hy e) hc.kind hc.loc (hZ (hi fb s σ H _ I h) λv s1 h1=>hZ h1 λSu s2 h2=>?_);refine L5 h2 λit fp tn J H2 e I2 T M7 f2 q=>?_;subst e;refine cZ<|ou ?_;have hD:=I2.gT.fresh<|aq _;have I3:Inv X fb σ (upd H2 s2.heap.objs.size<|.dK []) { s2 with heap:=s2.heap.push { cls:=.type "dict",data:=.dict #[]}}:=I2.laid (t':=s2.toks) (λ_ _ q=>jx _ q) (aq _)<|z6 s2.heap I2.big;have hC:(s2.heap.push { cls:=.type "dict",data:=.dict #[]}).objs.size=s2.heap.objs.size+1:=aX ..
 have JW:tn 0 (s2.heap.push { cls:=.type "dict",data:=.dict #[]}):=T.keep 0 _ _ M7 λb _ o e=>jx _ e;have Rg:∀ b∈fp,b≠s2.heap.objs.size:=λb hb=>let ⟨o,e,_⟩:=T.obj 0 s2.heap M7 b hb;aw (iO e)
 have f3:∀ b∈fp,jH X fb (upd H2 s2.heap.objs.size<|.dK []) b:=λb hb=>⟨by rw[fS (Rg b hb)];exact(f2 b hb).1,(f2 b hb).2⟩;refine Ah I3 hc gN T JW f3 (hg fp _ _) (ht fp _ _) (hk fp _ _) (hv fp _ _) (q s2.heap.objs.size hD) λs' H' fw m IX qf nC hn=>?_;have ky:s2.heap.objs.size<(s2.heap.push { cls:=.type "dict",data:=.dict #[]}).objs.size:=hC▸bQ _;have Aw:∀(b:ai) (o:Obj),s2.heap.get? b=some o->b≠(s2.heap.push { cls:=.type "dict",data:=.dict #[]}).objs.size:=λb o e=>aw<|ck (iO e) ky;refine⟨m,nC,λh' sb=>?_⟩;have IY:Inv X fb σ H' { s' with heap:=h'}:=IX.turned (t':=s'.toks) (λb o hb e=>(sb.2 b hb).trans e) hn
  (ba<|ck I2.lt ky) (.inr<|bZ<|bS I2.sz ky) (λx c e=>let ⟨v,z⟩:=I2.cell x c e;aw (ck z.lt ky)) (λp hp=>Aw _ _ (I2.pin p hp).1)
 exact⟨.ref _,_,IY,rfl,qf⟩
variable {y:DG}{S:ak Nat}{t:Dt}{wk wv:De}
def Mc {wi:DI}{pos:Pos}(hc:jI X N js sc)(gN:X.gN=true)(so:MA g y S)(mo:pC g)(ho:r6 S js=true)(hi:FN X tg iter wi)(hg:∀ fp s H,PG (u0 X N sc fp s H) tg g)
 (ht:∀ fp s H,BW (u0 X N sc fp s H) ifs t) (hk:∀ fp s H,PD (u0 X N sc fp s H) kx wk) (hv:∀ fp s H,PD (u0 X N sc fp s H) vx wv)
 (hs:∀ x,foldedSetIterable iter X.env x=pure x:=by intro _;rfl):PD X (.DictComp kx vx [⟨tg,iter,ifs,0⟩] sc pos) (Jo wi js y t wk wv):=(He hc gN hi hg ht hk hv hs).imp λσ H Q h=>Gs so mo ho h
end
def QM (es:ak Int)(ts:ak Tk):Nat->ak Int
 |0=>es
 |b+1=>iQ es ts b
def JI (es:ak Int)(ts:ak Tk):∀ b:Nat,l8 es ts (QM es ts b) (b:Int)=QM es ts (b+1)
 |0=>vS es ts 0
 |b+1=>by show l8 es ts (iQ es ts b) ((b+1:Nat):Int)=iQ es ts (b+1);rfl
def Fw:∀ {b:Nat},(∀ t∈ts,(b:Int)<=t.2)->QM es ts b=es
 |0,_=>rfl
 |b+1,h=>qX λt ht=>by have:=h t ht;assumption
def vN (lo:Int)(n:Nat):m9 lo (n+1)=.int lo::m9 (lo+1) n:=by
 delta m9;rw[List.range_succ_eq_map,az,bc];congr 1
 .simp
 .refine bO λi _=>?_;show D.int (lo+((i+1:Nat):Int))=_;congr 1;lia
def xC {g:MS}(hm:∀(j:Nat) (m:MO),μ[j]?=some m->xJ μ.length m):∀(j:Nat) (m:MO),j<μ.length->(μ++g)[j]?=some m->xJ μ.length m:=λj m hj e=>by rw[vX hj]at e;exact hm j m e
def Pl (h:zx μ k=some ds):Ru "list" μ (.mr k):=by show(match μ[k]? with|some (.lst _)=> "list" = "list" | some (.jf _ _)=> "list" = "dict" | _=>False);rw[ni h]
def xG {es:ak Int}{ts:ak Tk}{bf:ak Int}{a:Int}{i:Nat}{f m:Int}(hf:(ja es ts a)[i]?=some f)(hm:bf[i]?=some m):(l8 es ts bf a)[i]?=some (max f<|rowAt es bf m):=by delta l8;rw[bD,hf,hm]
def Jr {l:ak Nat}{a b:Int}{v c:Nat}(ha:0<=a)(h1:a<=v)(h2:(v:Int)<b)(h:l[v]?=some c):c∈vq l a b:=by obtain⟨i,rfl⟩:=dc ha;obtain⟨j,rfl⟩:=dc<|bT (Int.natCast_nonneg v)<|cv h2;have h1:=Int.ofNat_le.mp h1;rw[Af];refine lC (i:=v - i) ?_;rwa [bw (Nat.sub_lt_sub_right h1<|Int.ofNat_lt.mp h2),cP,Nat.add_sub_cancel' h1]
def wy {es:ak Int}{l:ak Nat}{a b:Int}(ho:OX l)(ha:0<=a)(hb:b<=l.length)(Ka:a<=b)(hm:b∈es)(h:120∉vq l a b):b<=je es l a:=by
 have ct:=uQ ho (e:=a.toNat) (by lia);have hc:b<=(sP l a.toNat:Int):=by
  by_cases q:b<=(sP l a.toNat:Int)
  .exact q
  .rcases ct.2.2.2 with z | z
   .lia
   .exact absurd (Jr ha (by have:=ct.1;lia) (by lia) z) h
 exact(nr _ a).2 b (List.mem_filter.mpr ⟨hm,aB hc⟩)
def O8 {n:Int}{cs:ak Int}{ts:ak Tk}(S:gP n cs ts)(hb:jC (e9 n cs) ts=none){i:Nat}{u v:Int}(hu:(e9 n cs)[i]?=some u)(hv:(e9 n cs)[i+1]?=some v):∃ t∈ts,v<=je (e9 n cs) t.1 u:=by
 have hp:(u,v)∈Nk (e9 n cs):=by have:=Cw (es:=e9 n cs) (i:=i);rw[hu,hv]at this;exact lC this
 have nb:=List.find?_eq_none.mp hb _ hp;unfold bad at nb;rw[Bool.not_eq_true,List.all_eq_false]at nb;refine fj nb λt ht hc=>?_;have pT:120∉vq t.1 u v:=by simpa using hc
 have ok:=S.takes.ok t ht;have hu2:=iL S.n1 S.ij<|lC hu;have J8:=iL S.n1 S.ij<|lC hv;have huv:=kb (gr S.n1 S.ij) hu hv<|bQ _;exact⟨t,ht,wy ok.2.1 hu2.1 (by lia) (cv ‹_›) (lC hv) pT⟩
def ql {es:ak Int}{ts:ak Tk}{a e:Int}{t:Tk}(ht:t∈ts)(ha:t.2<=a):je es t.1 e<=jz es ts a e:=by rw[kG];exact(nr _ e).2 _ (List.mem_map.mpr ⟨t,List.mem_filter.mpr ⟨ht,aB ha⟩,rfl⟩)
def l7 {es:ak Int}{ts:ak Tk}{a:Int}{i:Nat}{e:Int}(h:es[i]?=some e):(ja es ts a)[i]?=some (jz es ts a e):=by delta ja;rw[nX,h];rfl
def GH:∀ {a i:Nat} {e:Int},es[i]?=some e->∃ x,(iQ es ts a)[i]?=some x/\jz es ts a e<=x
 |0,i,e,h=>⟨_,l7 h,bo _⟩
 | a+1,i,e,h=>by have hi:=(kP h).1;obtain⟨m,hm⟩:∃ m,(iQ es ts a)[i]?=some m:=⟨_,iT<|by rwa [(qg es ts a).len]⟩;refine⟨_,xG (l7 h) hm,?_⟩;lia
def Goes (es:ak Int)(row:ak Int)(k:Nat):Prop:=∀ i,i<es.length->∃ j,min (i+k) (es.length - 1)<=j/\j<es.length/\row[i]?=es[j]?
def tN {es:ak Int}(hu:es.Pairwise (·<·)){i j:Nat}{a b:Int}(hi:es[i]?=some a)(hj:es[j]?=some b)(h:a<=b):i<=j:=by
 by_cases q:i<=j
 .exact q
 .have:=kb hu hj hi (by lia);lia
def Ih {n:Int}{cs:ak Int}{ts:ak Tk}(S:gP n cs ts)(hb:jC (e9 n cs) ts=none){a:Nat}(ha:∀ t∈ts,t.2<=(a:Int)):Goes (e9 n cs) (iQ (e9 n cs) ts a) 1:=λi hi=>by
 have hu:=gr S.n1 S.ij;obtain⟨e,he⟩:∃ e,(e9 n cs)[i]?=some e:=⟨_,iT hi⟩;obtain⟨x,hx,Wi⟩:=GH he;have xm:=(qg (e9 n cs) ts a).mem x<|lC hx;obtain⟨j,hj,ej⟩:=aN xm;have W7:(e9 n cs)[j]?=some x:=by rw[iT hj,ej]
 refine⟨j,?_,hj,hx.trans W7.symm⟩;by_cases q:i+1<(e9 n cs).length
 .obtain⟨v,hv⟩:∃ v,(e9 n cs)[i+1]?=some v:=⟨_,iT q⟩;refine fj (O8 S hb he hv) λt ht hf=>?_;have:=ql (es:=e9 n cs) (e:=e) ht<|ha t ht;have:=tN hu hv W7 (by lia);lia
 .have:=oP (e9 n cs) ts a e;have:=tN hu he W7<|bT ‹_› ‹_›;lia
def PR {es:ak Int}(hu:es.Pairwise (·<·)){i:Nat}{e:Int}(h:es[i]?=some e):es.idxOf e=i:=by have hm:=lC h;have g:=tx hm;have h1:=tN hu g h<|bo _;have h2:=tN hu h g<|bo _;lia
def Ig {i j j' q k L:Nat}(h1:min (i+k) L<=j)(g1:min (j+k) L<=j')(h:j'<=q):min (i+(k+k)) L<=q:=by lia
def Fg {es:ak Int}{ts:ak Tk}{a k:Nat}(hu:es.Pairwise (·<·))(h:Goes es (iQ es ts a) k):Goes es (iQ es ts<|a+1) (k+k):=λi hi=>by
 refine jB (h i hi) λj h1 h2 h3=>?_;refine jB (h j h2) λj' g1 g2 g3=>?_;obtain⟨e,he⟩:∃ e,es[i]?=some e:=⟨_,iT hi⟩;obtain⟨m,hm⟩:∃ m,es[j]?=some m:=⟨_,iT h2⟩;obtain⟨m',Qf⟩:∃ m',es[j']?=some m':=⟨_,iT g2⟩;have nx:=xG (ts:=ts) (a:=(a:Int)+1) (l7 he)<|h3.trans hm;have ra:rowAt es (iQ es ts a) m=m':=by delta rowAt;rw[PR hu hm,g3,Qf];rfl
 rw[ra]at nx;have xm:=(qg es ts<|a+1).mem _<|lC nx;obtain⟨q,hq,eq⟩:=aN xm;have YF:es[q]?=some (max (jz es ts ((a:Int)+1) e) m'):=by rw[iT hq,eq]
 exact⟨q,Ig h1 g1<|tN hu Qf YF<|by lia,hq,nx.trans YF.symm⟩
theorem zK {n:Int}{cs:ak Int}{ts:ak Tk}(S:gP n cs ts)(hb:jC (e9 n cs) ts=none){a:Nat}(ha:∀ t∈ts,t.2<=(a:Int)):∀ j:Nat,Goes (e9 n cs) (iQ (e9 n cs) ts<|a+j) (2 ^ j)
 |0=>Ih S hb ha
 | j+1=>by have:=Fg (gr S.n1 S.ij)<|zK S hb ha j;rwa [show 2 ^ (j+1)=2 ^ j+2 ^ j by lia]
def wg (n:Int)(cs:ak Int):(e9 n cs)[(e9 n cs).length - 1]?=some n:=by delta e9;simp
structure hV (es:List Int)(ts:List Tk)(n:Int)(a:Nat):Prop where
 at_:(iQ es ts a)[0]?=some n
 low:∀ b,b<a->(iQ es ts b)[0]?≠some n
def hV.uniq {es:ak Int}{ts:ak Tk}{n:Int}{a b:Nat}(h:hV es ts n a)(g:hV es ts n b):a=b:=by
 rcases cz a b with q|q|q
 .exact absurd h.at_ (g.low a q)
 .exact q
 .exact absurd g.at_ (h.low b q)
def HE {es:ak Int}{ts:ak Tk}{n:Int}:∀ {m:Nat},(iQ es ts m)[0]?=some n->∃ a,a<=m/\hV es ts n a:=by
 intro m;induction m using Nat.strongRecOn with
 | ind m ih =>
  intro h;by_cases q:∃ b,b<m/\(iQ es ts b)[0]?=some n
  .refine fj q λb hb e=>?_;refine fj (ih b hb e) λa h1 h2=>?_;exact⟨a,by lia,h2⟩
  .exact⟨m,aq _,h,λb hb e=>q ⟨b,hb,e⟩⟩
def Bk {n:Int}{cs:ak Int}{ts:ak Tk}(S:gP n cs ts)(hl:cs.length<=60)(hb:jC (e9 n cs) ts=none){a:Nat}(ha:∀ t∈ts,t.2<=(a:Int)):∃ x,x<=a+6/\hV (e9 n cs) ts n x:=by
 refine HE ?_;refine jB (zK S hb ha 6 0 (by rw[fO];lia)) λj h1 h2 h3=>?_;rw[h3];have:j=(e9 n cs).length - 1:=by rw[fO]at *;lia
 rw[this];exact wg n cs
def uj {n:Int}{cs:ak Int}{ts:ak Tk}(S:gP n cs ts)(hl:cs.length<=60)(hb:jC (e9 n cs) ts=none):∃ x,x<=66/\hV (e9 n cs) ts n x:=Bk S hl hb λt ht=>(S.takes.ok t ht).2.2.2
def zA {n:Int}{cs:ak Int}{ts:ak Tk}(S:gP n cs ts){a:Nat}(h:hV (e9 n cs) ts n a):jE ts<=a:=by
 by_cases q:jE ts<=a
 .exact q
 .have:=h.at_;rw[qX λt ht=>by have:=yI t ht;lia]at this;have h0:(e9 n cs)[0]?=some 0:=rfl;have:=S.n1;lia
def Bo (es:ak Int)(ts:ak Tk)(n:Int)(μ:MS)(K:DK):Prop:=match jC es ts with
 |some _=>K .gz μ
 |none=>∀ a:Nat,a<=66->hV es ts n a->K (.int a) μ
def Iz:lp:=λds μ K=>dM [.i,.v,.v] ds λn x y=>∃(cs:ak Int) (ts:ak Tk),lv μ x=some (cs.map D.int)/\lv μ y=some (ts.map rV)/\gP n cs ts/\cs.length<=60/\Bo (e9 n cs) ts n μ K
def zo {ds:ak D}{μ:MS}{K:DK}(h:K (.lst ds) μ):nL false ds μ K:=h
def Ir {es:ak Int}{l:ak Nat}{e e':Int}(ho:OX l)(h0:0<=e)(Yv:e<=e')(UX:e'<=l.length)(hm:e∈es):je es l e<=je es l e':=by
 have c1:=uQ ho (e:=e.toNat) (by lia);have c2:=uQ ho (e:=e'.toNat) (by lia);have ge':=Dx es l e';have fm:=uD (l:=l) hm;refine sN (Dv ho h0 (bT ‹_› ‹_›) hm) λt ht _ hft _=>?_;have et:=ht.uniq c1;subst et;by_cases q:je es l e<=e'
 .lia
 .have hc:sP l e.toNat<=sP l e'.toNat:=by
   by_cases z:sP l e.toNat<=sP l e'.toNat
   .exact z
   .rcases c2.2.2.2 with y | y
    .have:=c1.2.1;lia
    .have:=c1.2.2.1 (sP l e'.toNat) (by have:=c2.1;lia) (by lia);rw[y]at this;cases this
  exact(nr _ e').2 _ (List.mem_filter.mpr ⟨fm,aB<|by lia⟩)
def Hi {n:Int}{es:ak Int}{ts:ak Tk}{a e e':Int}(T:Eb n ts)(h0:0<=e)(Yv:e<=e')(UX:e'<=n)(hm:e∈es):jz es ts a e<=jz es ts a e':=by
 have ge:=oP es ts a e';rw[kG es ts a e];rcases kQ ((ts.filter λt=>decide (t.2<=a)).map λt=>je es t.1 e) e with q|q
 .lia
 .refine fj (List.mem_map.mp q) λt ht e1=>?_;refine lQ (List.mem_filter.mp ht) λYn We=>?_;have ok:=T.ok t Yn;have:=Ir ok.2.1 h0 Yv (by lia) hm;have:=ql (es:=es) (e:=e') Yn<|bp We;lia
def N1 (row:ak Int):Prop:=∀(i j:Nat) (a b:Int),i<=j->row[i]?=some a->row[j]?=some b->a<=b
def rU (hu:es.Pairwise (·<·)):N1 es:=λi j a b h hi hj=>by
 rcases Nat.lt_or_ge i j with q|q
 .exact cv (kb hu hi hj q)
 .have:i=j:=by lia
  subst this
  rw[hi]at hj;cases hj;exact bo _
def EF {n:Int}{cs:ak Int}{ts:ak Tk}{a:Int}(S:gP n cs ts):N1 (ja (e9 n cs) ts a):=λi j x y h hi hj=>by
 delta ja at hi hj;rw[nX]at hi hj;cases e1:(e9 n cs)[i]? with
 |none=>rw[e1]at hi;cases hi
 | some u =>
  cases e2:(e9 n cs)[j]? with
  |none=>rw[e2]at hj;cases hj
  | some v =>rw[e1]at hi;rw[e2]at hj;cases hi;cases hj;have hu:=iL S.n1 S.ij<|lC e1;have hv:=iL S.n1 S.ij<|lC e2;exact Hi S.takes hu.1 (rU (gr S.n1 S.ij) i j u v h e1 e2) hv.2 (lC e1)
def Mv (es:ak Int)(x:Int):((es.map D.int).any λd=>sO d<|.int x)=decide (x∈es):=by
 induction es with
 |nil=>rfl
 | cons e es ih =>
  rw[az,c5,ih];have:sO (.int e) (.int x)=decide (e=x):=rfl;rw[this];by_cases h:e=x
  .simp[h]
  .have:¬ x=e:=λz=>h z.symm;simp[h,this]
def Io (es:ak Int):(es.map D.int).all nu=true:=by rw[List.all_map,cL];intro x _;rfl
theorem kB {α:Type}{it:D->MS->(ao D->MS->Prop)->Prop}{c:MS->Prop}{μ:MS}(hc:c μ)(g:α->D)(f:α->ao D):∀ {xs:ak α} {K:ak D->MS->Prop},(∀ x∈xs,∀(K':ao D->MS->Prop),K' (f x) μ->it (g x) μ K')->K (xs.filterMap f) μ->pB it c (xs.map g) μ K
 |[],K,_,k=>⟨hc,k⟩
 | x::xs,K,h,k=>⟨hc,h x aH _ (kB hc g f (λy hy=>h y<|mQ _ hy) (by
  cases e:f x with
  |none=>rw[List.filterMap_cons_none e]at k;exact k
  |some y=>rw[List.filterMap_cons_some e]at k;exact k))⟩
def iu {α:Type}{it:D->MS->(ao D->MS->Prop)->Prop}{c:MS->Prop}{μ:MS}(hc:c μ)(g f:α->D){xs:ak α}{K:ak D->MS->Prop}(h:∀ x∈xs,∀(K':ao D->MS->Prop),K' (some<|f x) μ->it (g x) μ K')(k:K (xs.map f) μ):pB it c (xs.map g) μ K:=by refine kB hc g (λx=>some<|f x) h ?_;rwa [List.filterMap_eq_map']
def uU {α:Type}{g:α->D}{xs:ak α}{k:Nat}{x:α}(h:xs[k]?=some x):o5 (xs.map g) (k:Int)=some (g x):=o4 h
def iw.le (r:iw k A)(h:j<=k:=by first|decide|exact aq _|lia):iw j A:=r.mono h
def lo (h:Loc sc x:=by first|exact Or.inl rfl|exact Or.inr rfl):Loc sc x:=h
section
variable {X:Cx}
def GQ:ak V->Hp->VK->Prop:=λvs H Q=>match vs with
 |[.ref p]=>∃ ns:ak Int,H p=some (.lst<|ns.map V.int)/\ns≠[]/\∀ m,m∈ns->(∀ x∈ns,m<=x)->Q (.int m) H
 |_=>False
def Pg (hc:X.gN=true):jd X (.builtin "min") GQ:=by
 intro fb s σ H vs us Q I rv h;delta GQ at h;split at h
 .rename_i p;obtain⟨ns,hp,vW,q⟩:=h;refine fj rv.one λu fV ru=>?_;subst fV;subst ru;obtain⟨z,fE,n,r,hl,e⟩:=I.k7 hp;have zF:s.heap.IsList p fE.toArray:=⟨_,e,rfl,n,rfl⟩;have lt:=aw<|iO e;have len:fE.toArray.size=ns.length:=by rw[au,<- hl,gQ]
  have pos:0<ns.length:=List.length_pos_iff.mpr vW;have val:∀ i v,fE.toArray[i]?=some v->∃ t,i<ns.length/\v=.int (ns.getD i 0) t:=λi v hv=>by
   have CW:fE[i]?=some v:=by simpa using hv
   cases eb:(ns.map V.int)[i]? with
   |none=>have:=r.none_of eb;rw[CW]at this;cases this
   | some y =>
    refine fj (r.get eb) λu hu ry=>?_;rw[CW]at hu;cases hu;rw[nX]at eb;cases e2:ns[i]? with
    |none=>rw[e2]at eb;cases eb
    | some b =>rw[e2]at eb;cases eb;obtain⟨t,rfl⟩:=ry;exact⟨t,(kP e2).1,by rw[ar,e2];rfl⟩
  refine call_min_walk (dw zF ⟨_,_,_,_,_,_,λi j=>decide (ns.getD i 0<ns.getD j 0),rfl,Walks.list (A:=X.A.in1) (I.ok.hd hc) s.heap.objs.size p lt fE.toArray,⟨⟨_,aD _ rfl,rfl,rfl⟩,zF.push _⟩,?_,len▸pos,?_,λv h' tk hv kp=>?_⟩)
  .intro b hb;simp at hb;rw[aX];rcases hb with rfl|rfl
   .exact bQ _
   .exact aY (iO e)
  .intro i j vi vj s' Q' E' hi hj hq;obtain⟨t,_,rfl⟩:=val i vi hi;obtain⟨t',_,rfl⟩:=val j vj hj;exact lt_int hq
  .have I2:Inv X fb σ H { s with heap:=h',toks:=tk}:=I.iC λb o e'=>kp b o (by simpa using aw<|iO e')<|jx _ e';rw[len]at hv;refine fj (val _ v hv) λt ky fV=>?_;subst fV;obtain⟨b1,b2⟩:=tL ns (ns.length - 1) (by lia);refine⟨.int _,H,I2,⟨t,rfl⟩,q _ ?_ λx hx=>?_⟩
   .rw[ar,iT ky];exact a9 _
   .obtain⟨j,hj,ej⟩:=aN hx;have:=b2 j (by lia);rwa [ar (i:=j),iT hj,ej]at this
 .cases h
end
def Td:lp:=λds μ K=>dM [.v] ds λx=>∃ ns:ak Int,lv μ x=some (ns.map D.int)/\ns≠[]/\∀ m,m∈ns->(∀ y∈ns,m<=y)->K (.int m) μ
def xc:mF GQ Td:=λφ H vs ds μ K Q M h k L=>by obtain⟨_,rfl,k⟩:=dJ k;obtain⟨v,r,rfl,h1,h2⟩:=h;cases h2;let ⟨ns,el,hn,k⟩:=k;obtain⟨p,vs,rfl,hp,ha⟩:=jA M h1 el;exact⟨ns,by rw[hp,ha.ints],hn,λm a b=>L.val M (k m a b) rfl⟩
def jO (L:Nat)(f:Nat->Int):ak D:=(List.range L).map λj=>D.int (f j)
def lJ (L:Nat)(T:Nat->Nat->Int):ak D:=(List.range L).map λi=>D.lst (jO L<|T i)
def zw:ak Int->Int
 |[]=>0
 |x::r=>r.foldl min x
def oS (h:ns≠[]):zw ns∈ns/\∀ y∈ns,zw ns<=y:=by
 cases ns with
 |nil=>exact absurd rfl h
 | cons x r =>
  refine jr (jT r x) λa b c=>?_;refine⟨?_,λy hy=>?_⟩
  .rcases a with q | q
   .show r.foldl min x∈_;rw[q];exact aH
   .exact mQ _ q
  .rcases List.mem_cons.mp hy with q | q
   .rwa [q]
   .exact c y q
def nP (T:Nat->Nat->Int)(i j:Nat):ak Int:=(List.range<|j - (i+1)).filterMap λx=>if 0<T i (i+1+x)*T (i+1+x) j then some (T i (i+1+x)+T (i+1+x) j)else none
def jX {T:Nat->Nat->Int}{i j:Nat}{v:Int}:v∈nP T i j↔∃ k,i<k/\k<j/\0<T i k*T k j/\v=T i k+T k j:=by
 delta nP;rw[List.mem_filterMap];constructor
 .rintro⟨x,hx,e⟩;rw[bU]at hx;split at e
  .cases e;exact⟨i+1+x,(aQ _ _),by lia,by assumption,rfl⟩
  .cases e
 .rintro⟨k,h1,h2,h3,rfl⟩;refine⟨k - (i+1),List.mem_range.mpr<|by lia,?_⟩;rw[show i+1+(k - (i+1))=k by lia,aA h3]
def jN (es own:ak Int)(T:Nat->Nat->Int)(i j:Nat):Int:=if j<=i then 0 else if es.getD j 0<=own.getD i 0 then 1 else zw (nP T i j)
def mq (es:ak Int)(ts:ak Tk):Nat->Nat->Nat->Int
 |0=>λ_ _=>0
 |a+1=>jN es (ja es ts a) (mq es ts a)
def KD {es own:ak Int}{T:Nat->Nat->Int}(h:∀ i j,0<=T i j/\T i j<=((j - i:Nat):Int))(i j:Nat):0<=jN es own T i j/\jN es own T i j<=((j - i:Nat):Int):=by
 delta jN;split
 .lia
 .split
  .lia
  .by_cases hn:nP T i j=[]
   .rw[hn];show(0:Int)<=0/\(0:Int)<=_;lia
   .refine sN (jX.mp (oS hn).1) λk h1 h2 h3 e=>?_;have a:=h i k;have b:=h k j;lia
theorem wU (es:ak Int)(ts:ak Tk):∀ a i j,0<=mq es ts a i j/\mq es ts a i j<=((j - i:Nat):Int)
 |0,i,j=>by show(0:Int)<=0/\(0:Int)<=_;lia
 |a+1,i,j=>KD (wU es ts a) i j
def om {L:Nat}{f:Nat->Int}{j:Nat}(h:j<L):(jO L f)[j]?=some (.int<|f j):=by delta jO;rw[nX,bG h];rfl
def yW (L:Nat)(f:Nat->Int):(jO L f).length=L:=by delta jO;rw[gQ,ur]
def qc {L:Nat}{T:Nat->Nat->Int}{j:Nat}(h:j<L):(lJ L T)[j]?=some (.lst<|jO L<|T j):=by delta lJ;rw[nX,bG h];rfl
def mG (L:Nat)(f:Nat->Nat->Int):(lJ L f).length=L:=by delta lJ;rw[gQ,ur]
def GJ {L:Nat}{f g:Nat->Int}(h:∀ j,j<L->f j=g j):jO L f=jO L g:=bO λj hj=>by rw[h j (List.mem_range.mp hj)]
theorem uf:∀ {ds:ak D},(∀ d∈ds,ER n d)->sJ n ds
 |[],_=>by trivial
 |d::ds,h=>⟨h d aH,uf λx hx=>h x<|mQ _ hx⟩
def CN (L:Nat)(f:Nat->Int):ER n (.lst<|jO L f):=uf λd hd=>by obtain⟨i,_,rfl⟩:=List.mem_map.mp hd;exact trivial
def Lu (L:Nat)(f:Nat->Nat->Int):ER n (.lst<|lJ L f):=uf λd hd=>by obtain⟨i,_,rfl⟩:=List.mem_map.mp hd;exact CN L _
def KR {n:Nat}(L:Nat)(f:Nat->Int)(h:L<=100000):Av (n+1) (.lst<|jO L f):=xi (by rwa [yW]) λd hd=>by obtain⟨i,_,rfl⟩:=List.mem_map.mp hd;exact tV
def Cj {n:Nat}(L:Nat)(f:Nat->Nat->Int)(h:L<=100000):Av (n+2) (.lst<|lJ L f):=xi (by rwa [mG]) λd hd=>by obtain⟨i,_,rfl⟩:=List.mem_map.mp hd;exact KR L _ h
inductive hJ where
 |num (n:Int)
 |j0 (p:Int) (l r:hJ)
def i7:hJ->D
 |.num n=>.int n
 |.j0 p l r=>.tup [.int p,i7 l,i7 r]
def hJ.cnt:hJ->Nat
 |.num _=>1
 |.j0 _ l r=>l.cnt+r.cnt
def hJ.dep:hJ->Nat
 |.num _=>0
 |.j0 _ l r=>max l.dep r.dep+1
def hJ.ok (cs:ak Int)(m:Nat):hJ->Prop
 |.num n=>0<=n/\n<m
 |.j0 p l r=>p∈cs/\l.ok cs m/\r.ok cs m
theorem hJ.lF:∀ t:hJ,0<t.cnt
 |.num _=>by show 0<1;decide
 |.j0 _ l r=>by have:=l.lF;show 0<l.cnt+r.cnt;lia
def px (a b:Tk)(p:Int):Tk:=(a.1.take p.toNat++b.1.drop p.toNat,max a.2 b.2+1)
def hJ.val (ts:ak Tk):hJ->Tk
 |.num n=>(ts[n.toNat]?).getD ([],0)
 |.j0 p l r=>px (l.val ts) (r.val ts) p
def yq (n:Int)(t:Tk):Prop:=(t.1.length:Int)=n/\0<=t.2
def LD {n:Int}{a b:Tk}{p:Int}(ha:yq n a)(hb:yq n b):yq n (px a b p):=by
 refine⟨?_,?_⟩
 .show((a.1.take p.toNat++b.1.drop p.toNat).length:Int)=n;rw[kO,bx,bz];have:=ha.1;have:=hb.1;lia
 .show 0<=max a.2 b.2+1;have:=ha.2;lia
theorem hJ.m4 {n:Int}{ts:ak Tk}{cs:ak Int}(ht:∀ t∈ts,yq n t):∀ {t:hJ},t.ok cs ts.length->yq n (t.val ts)
 | .num k,h=>by obtain⟨x,hx⟩:∃ x,ts[k.toNat]?=some x:=⟨_,iT (by have:=h.1;have:=h.2;lia)⟩;show yq n ((ts[k.toNat]?).getD ([],0));rw[hx];exact ht x (lC hx)
 |.j0 p l r,h=>LD (m4 ht h.2.1) (m4 ht h.2.2)
def Sj:hJ->Bool
 |.j0 _ _ _=>true
 |.num _=>false
theorem Bd:∀ t:hJ,ER n (i7 t)
 |.num _=>trivial
 |.j0 p l r=>⟨trivial,Bd l,Bd r,trivial⟩
def Tc (f:Nat->lp):Nat->lp
 |0=>λ_ _ _=>False
 |n+1=>f n
def MJ (t:hJ)(μ:MS):UA (i7 t) μ=some (if Sj t then "tuple" else "int"):=by cases t<;>rfl
def hJ.wL {ts:ak Tk}{n:Int}{x:Tk}(h:ts[n.toNat]?=some x):(hJ.num n).val ts=x:=by show(ts[n.toNat]?).getD ([],0)=x;rw[h];rfl
section
variable {prog:ae}{w:af}{A:Around}{E:aj->ah->Prop}{s:ah}
variable {z TI TO i1 i2 l1 l2:ai}{k1 k2:Nat}{xs ys:Array aj}{x y a b f:aj}{bb:Bool}
def Ki {k:Nat}{Q:aj->ah->Prop}(D:ZipApart z TI TO i1 i2 l1 l2)(Z:ZZ false z TI TO i1 i2 l1 l2 k s.heap)(q1:ju false s.heap l1 xs)(q2:ju false s.heap l2 ys)(hx:xs[k]?=some x)(hy:ys[k]?=some y)
 (hQ:∀ h',ZZ false z TI TO i1 i2 l1 l2 (k+1) h'->IsPair h' s.heap.objs.size x y->h'.objs.size=s.heap.objs.size+1->ZK z TO i1 i2 s.heap h'->Q (.ref s.heap.objs.size) {s with heap:=h'}):
 wpAny (model prog w) A (Builtin.SmallTypes.nextOf<|.ref z) Q E s:=by
 have ty:s.TypeIs (.ref z) "zip":=let ⟨_,_,_,_,h,_⟩:=Z;⟨_,h,rfl⟩
 exact fH (b8 ty dj<|cK dj ty F.entry_zip_next (B4 D Z q1 q2 hx hy λh' a _ _ b c d=>av<|hQ h' a b c d)<|F.args_zip_next_1 _)
def N5 {k:Nat}{Q:aj->ah->Prop}(hh:A.handled=none)(D:ZipApart z TI TO i1 i2 l1 l2)(Z:ZZ false z TI TO i1 i2 l1 l2 k s.heap)(q1:ju false s.heap l1 xs)(q2:ju false s.heap l2 ys)(hx:xs[k]?=none\/ys[k]?=none)
 (hE:∀ h' e,ZK z TO i1 i2 s.heap h'->(∃ o,h'.get? e=some o/\o.cls=.type "StopIteration")->E (.ref e) {s with heap:=h'}):
 wpAny (model prog w) A (Builtin.SmallTypes.nextOf<|.ref z) Q E s:=by
 have ty:s.TypeIs (.ref z) "zip":=let ⟨_,_,_,_,h,_⟩:=Z;⟨_,h,rfl⟩
 exact fH (b8 ty dj<|cK dj ty F.entry_zip_next (B5 hh D Z q1 q2 hx hE)<|F.args_zip_next_1 _)
def IK {e:ai}{i:Nat}{old:aj}{Q:aj->ah->Prop}(D:ZipApart z TI TO i1 i2 l1 l2)(he:IsEnum s.heap e z i old)(Z:ZZ false z TI TO i1 i2 l1 l2 i s.heap)(ne:e∉[z,TI,TO,i1,i2])(q1:ju false s.heap l1 xs)(q2:ju false s.heap l2 ys)(hx:xs[i]?=some x)(hy:ys[i]?=some y)
 (hQ:∀ h1 h2 tk,IsPair h1 s.heap.objs.size x y->h1.objs.size=s.heap.objs.size+1->(∀ b o,b∉[z,TO,i1,i2]->s.heap.get? b=some o->h1.get? b=some o) ->
   IsEnumOut h2 e z ((i:Int)+1) (.ref s.heap.objs.size) (s.heap.objs.size+1)->ZZ false z TI TO i1 i2 l1 l2 (i+1) h2->IsPair h2 (s.heap.objs.size+1) (.int i tk) (.ref s.heap.objs.size)->(∀ b o,b≠e->h1.get? b=some o->h2.get? b=some o)->Q (.ref<|s.heap.objs.size+1) {s with heap:=h2,toks:=tk+1}):
 wpAny (model prog w) A (Builtin.«enumerate.__next__» ⟨[.ref e],[]⟩) (λfin s'=>∃ v,fin=.done (.ret v)/\Q v s') E s:=by
 obtain⟨hp,g,d,tk,os⟩:=s;show wpAny _ _ (field (.ref e) 2>>=_) _ _ _;refine fH<|aZ he rfl (x:=.ref z) rfl ?_;have elt:e<hp.objs.size:=iO he;refine fH (Ki D Z q1 q2 hx hy λh₁ Z₁ hT₁ sz₁ hk₁=>?_);replace hT₁:IsPair h₁ hp.objs.size x y:=hT₁;replace sz₁:h₁.objs.size=hp.objs.size+1:=sz₁;simp only[aT,aM,bY,not_or]at ne;refine L6 ne λn1 n2 n3 n4 n5=>?_;have he₁:IsEnum h₁ e z i old:=hk₁ e _ n1 n3 n4 n5 he;refine fH<|aZ he₁ rfl (x:=rawInt i) rfl ?_;show wpAny _ _ (field (.ref e) 4>>=_) _ _ ⟨h₁,g,d,tk,os⟩;refine fH<|aZ he₁ rfl (x:=.none) rfl ?_;show wpAny _ _ (mkInt i>>=_) _ _ ⟨h₁,g,d,tk,os⟩;refine fH<|wpAny_mkInt ?_;refine fH (bB he₁ (by simp) λh₂ he₂ hs₂=>?_);replace hs₂:Heap.SameBut e h₁ h₂:=hs₂;replace he₂:IsEnum h₂ e z ((i:Int)+1) old:=he₂;show wpAny _ _ (setField (.ref e) 4 .none>>=_) _ _ ⟨h₂,g,d,tk+1,os⟩;refine fH (bB he₂ (by simp) λh₃ he₃ hs₃=>?_);replace hs₃:Heap.SameBut e h₂ h₃:=hs₃;replace he₃:IsEnum h₃ e z ((i:Int)+1) old:=he₃;refine fH<|wpAny_newTuple ?_;have he₄:IsEnum (h₃.push { cls:=.type "tuple",data:=.seq #[.int i tk,.ref hp.objs.size]}) e z ((i:Int)+1) old:=jx _ he₃;have hsz:h₃.objs.size=hp.objs.size+1:=by rw[hs₃.1,hs₂.1,sz₁]
 have ht₄:(h₃.push { cls:=.type "tuple",data:=.seq #[.int i tk,.ref hp.objs.size]}).get? (hp.objs.size+1)=some { cls:=.type "tuple",data:=.seq #[.int i tk,.ref hp.objs.size]}:=hsz▸aD _ rfl;have hk₄:∀ b o,b≠e->h₁.get? b=some o->(h₃.push { cls:=.type "tuple",data:=.seq #[.int i tk,.ref hp.objs.size]}).get? b=some o:=λb o hb eo=>jx _<|hs₃.extBut b o hb<|hs₂.extBut b o hb eo;generalize h₃.push { cls:=.type "tuple",data:=.seq #[.int i tk,.ref hp.objs.size]}=h₄ at he₄ ht₄ hk₄;rw[hsz];refine fH ?_;delta Builtin.SmallTypes.ownedTupleIsFree;refine fH<|aZ he₄ rfl (x:=.none) rfl (av ?_);simp only[if_true];refine fH<|eV ?_;refine fH<|aZ he₄ rfl (x:=old) rfl ?_;refine fH (bB he₄ (by simp) λh₅ he₅ hs₅=>?_);replace hs₅:Heap.SameBut e h₄ h₅:=hs₅;replace he₅:IsEnum h₅ e z ((i:Int)+1) (.ref hp.objs.size):=he₅;refine fH ?_;delta Builtin.SmallTypes.ownedTupleHandOut;refine fH (bB he₅ (by simp) λh₆ he₆ hs₆=>?_);replace hs₆:Heap.SameBut e h₅ h₆:=hs₆;replace he₆:IsEnumOut h₆ e z ((i:Int)+1) (.ref hp.objs.size) (hp.objs.size+1):=he₆;refine bB he₆ (by simp) λh₇ he₇ hs₇=>?_;replace hs₇:Heap.SameBut e h₆ h₇:=hs₇;replace he₇:IsEnumOut h₇ e z ((i:Int)+1) (.ref hp.objs.size) (hp.objs.size+1):=he₇;have V0:∀ b o,b≠e->h₄.get? b=some o->h₇.get? b=some o:=λb o hb eo=>hs₇.extBut b o hb<|hs₆.extBut b o hb<|hs₅.extBut b o hb eo;refine fH (c0<|av ⟨_,rfl,hQ h₁ h₇ tk hT₁ sz₁ (λb o hb eo=>hk₁ b o (λq=>hb<|by simp[q]) (λq=>hb<|by simp[q]) (λq=>hb<|by simp[q]) (λq=>hb<|by simp[q]) eo) he₇ ?_ ?_ λb o hb eo=>V0 b o hb<|hk₄ b o hb eo⟩)
 .refine Z₁.keep λb hb o eo=>V0 b o ?_ (hk₄ b o ?_ eo)<;>
  .intro q;subst q;simp only[aT,aM,bY]at hb;rcases hb with q|q|q|q|q
   .exact n1 q
   .exact n2 q
   .exact n3 q
   .exact n4 q
   .exact n5 q
 .exact V0 (hp.objs.size+1) _ (ba<|aY elt) ht₄
end
section
variable {prog:ae}{w:af}{A:Around}{E:aj->ah->Prop}{s:ah}
def uF (z TI TO:ai):
 Meets (Builtin.«enumerate.__new__» ⟨[.type "enumerate",.ref z],[]⟩) (λ_ R s=>IsZip s.heap z TI TO .none /\
  R (.ok<|.ret<|.ref s.heap.objs.size) {s with heap:=s.heap.push { cls:=.type "enumerate",data:=.fields #[.none,.bool false,.ref z,rawInt 0,.none,.none]}}):=
 .of_wp λprog w A R s h=>by
  obtain⟨hp,g,d,tk,os⟩:=s;obtain⟨hz,h⟩:=h;have Wf:=sub_enumerate;have PX:=hz;wp_walk using cJ PX;refine wpAny_stack_any λst=>av ?_;split
  .rename_i c _ _ _ _ _;cases(c==Value.type "enumerate")
   .wp_walk using cJ PX;exact⟨_,rfl,h⟩
   .wp_walk using cJ PX;exact⟨_,rfl,h⟩
  .wp_walk using cJ PX;exact⟨_,rfl,h⟩
def pZ {z TI TO:ai}{Q:aj->ah->Prop}(hz:IsZip s.heap z TI TO .none)
 (h:∀ h',IsEnum h' s.heap.objs.size z 0 .none->h'.objs.size=s.heap.objs.size+1->(∀ b o,s.heap.get? b=some o->h'.get? b=some o)->Q (.ref s.heap.objs.size) {s with heap:=h'}):
 wpAny (model prog w) A (call (.type "enumerate") [.ref z]) Q E s:=by
 refine callType_new F.called_enumerate rfl (F.typeCall_enumerate_1 _) (F.newCall_enumerate_1 _) (λobj=>F.args_object_init_2 obj _) F.entry_enumerate_new (uF z TI TO) ⟨hz,?_⟩;have he:IsEnum (s.heap.push { cls:=.type "enumerate",data:=.fields #[.none,.bool false,.ref z,rawInt 0,.none,.none]}) s.heap.objs.size z 0 .none:=aD _ rfl;exact⟨⟨_,he,rfl⟩,h _ he (by rw[aX]) λb o x=>jx _ x⟩
end
def Ul (l1 l2:ai):It :=
 ⟨λi H=>∃ xs ys x y,H l1=some (.lst xs)/\H l2=some (.lst ys)/\xs[i]?=some x/\ys[i]?=some y,
  λi H v H'=>∃ T1 T2 x y,v=.ref T2/\H T1=none/\(upd H T1<|.tup [x,y]) T2=none/\H'=upd (upd H T1<|.tup [x,y]) T2 (.tup [.int i,.ref T1])/\(∀ xs,H l1=some (.lst xs)->xs[i]?=some x)/\(∀ ys,H l2=some (.lst ys)->ys[i]?=some y),
  λi H=>∃ xs ys,H l1=some (.lst xs)/\H l2=some (.lst ys)/\(xs.length<=i\/ys.length<=i)⟩
theorem jH.upd {X:Cx}{fb:ak (ai×Obj)}{H:Hp}{b T:ai}{o:HO}(f:jH X fb H b)(h:b≠T):jH X fb (upd H T o) b:=⟨by rw[fS h];exact f.1,f.2⟩
def AG {P:ae}{w:af}{K:aa}{elts:ak Expr}{kk:Nat}{mn:Pos}{e z TI TO i1 i2 l1 l2:ai}(D:ZipApart z TI TO i1 i2 l1 l2)(ne:e∉[z,TI,TO,i1,i2]):
 Turn P w K (.Tuple elts kk mn) (Ul l1 l2) [e,z,TI,TO,i1,i2] e (λi h=>(∃ old,IsEnum h e z i old)/\ZZ false z TI TO i1 i2 l1 l2 i h) where
 mem:=by simp
 obj:=λi h st b hb=>by
  obtain⟨⟨old,he⟩,f,bb,a,b',h1,h2,h3,h4,h5,h6⟩:=st;simp only[aT,aM,bY]at hb;rcases hb with rfl|rfl|rfl|rfl|rfl|rfl
  .exact⟨_,he,λv q=>by cases q⟩
  .exact⟨_,h1,λv q=>by cases q⟩
  .exact⟨_,h3,λv q=>by cases q⟩
  .exact⟨_,h4,λv q=>by cases q⟩
  .exact h5.data
  .exact h6.data
 keep:=λi h h' st k=>by obtain⟨⟨old,he⟩,Z⟩:=st;exact⟨⟨old,k e (by simp) _ he⟩,Z.keep λb hb o eo=>k b (mQ _ hb) o eo⟩
 item:=by
  intro X hP hw hK hc i fb s σ H E I hf st hg;subst hP hw hK;obtain⟨⟨old,he⟩,Z⟩:=st;refine gG hg λxs ys x y q1 q2 ex ey=>?_;let ⟨_,us,n1,r1,_,p1⟩:=I.k7 q1;let ⟨_,ws,n2,r2,_,p2⟩:=I.k7 q2;refine fj (r1.get ex) λu eu ru=>?_;refine fj (r2.get ey) λv ev rv=>?_;have s1:ju false s.heap l1 us.toArray:=⟨_,p1,rfl,n1,rfl⟩;have s2:ju false s.heap l2 ws.toArray:=⟨_,p2,rfl,n2,rfl⟩;have hT:s.TypeIs (.ref e) "enumerate":=⟨_,he,rfl⟩;have Hm:∀ b∈[e,z,TI,TO,i1,i2],b<s.heap.objs.size:=λb hb=>by
   refine x6 Z λf bb a b' h1 h2 h3 h4 h5 h6=>?_;simp only[aT,aM,bY]at hb;rcases hb with rfl|rfl|rfl|rfl|rfl|rfl
   .exact iO he
   .exact iO h1
   .exact iO h3
   .exact iO h4
   .obtain⟨o,q⟩:=h5.ex;exact iO q
   .obtain⟨o,q⟩:=h6.ex;exact iO q
  unfold pyNext;refine fH (wpAny_attempt<|b8 (name:=Str.ofString "__next__") hT du<|cK du hT F.entry_enumerate_next (IK D he Z ne s1 s2 (x:=u) (y:=v) (by simpa using eu) (by simpa using ev) λh1 h2 tk SS RK fr1 ho2 Z2 Ql fr2=>av ?_)<|F.args_enumerate_next_1 _);refine⟨_,rfl,wpAny_letOwnedTupleGo_enum ho2 λh3 he3 HV=>?_⟩;have I1:Inv X fb σ (upd H s.heap.objs.size<|.tup [x,y]) { s with heap:=h1}:=I.yP (ch:=[z,TO,i1,i2]) (h'':=h1) (λb hb=>hf b (by
   simp only[aT,aM,bY]at hb ⊢
   rcases hb with q|q|q|q<;>simp[q])) fr1 SS ru rv
  have elt:=Hm e (by simp);have en:e≠s.heap.objs.size+1:=aw<|aY elt;have hT3:IsPair h3 (s.heap.objs.size+1) (.int i tk) (.ref s.heap.objs.size):=HV.extBut _ _ (bJ en) Ql;have I2:=I1.yP (ch:=[e]) (h'':=h3) (x:=.int i) (y:=.ref s.heap.objs.size) (u:=.int i tk) (v:=.ref s.heap.objs.size) (λb hb=>by
   rw[List.mem_singleton.mp hb]
   exact(hf e<|by simp).upd<|aw elt) (λb o hb eo=>HV.extBut b o (λq=>hb<|by simp[q])<|fr2 b o (λq=>hb<|by simp[q]) eo) (by show IsPair h3 h1.objs.size _ _;rw[RK];exact hT3) ⟨tk,rfl⟩ rfl
  have hn1:H s.heap.objs.size=none:=I.gT.fresh<|aq _;have FG:(upd H s.heap.objs.size<|.tup [x,y]) (s.heap.objs.size+1)=none:=by rw[fS (Nat.succ_ne_self _)];exact I.gT.fresh (Nat.le_succ _)
  have I3:=I2.tok<|tk+1;have e1:(({s with heap:=h1}:ah).heap.objs.size)=s.heap.objs.size+1:=RK;rw[e1]at I3;refine⟨.ref<|s.heap.objs.size+1,_,I3,rfl,⟨_,_,x,y,rfl,hn1,FG,rfl,λzs q=>by rw[q1]at q;cases q;exact ex,λzs q=>by rw[q2]at q;cases q;exact ey⟩,⟨⟨_,by simpa using he3⟩,Z2.keep λb hb o eo=>HV.extBut b o (λq=>ne<|q▸hb) eo⟩,λb hb=>?_⟩;have:=Hm b hb;rw[fS (aw<|aY this),fS (aw this)];exact(hf b hb).1
 done:=by
  intro X hP hw hK hc i fb s σ H E I hf st hg;subst hP hw hK;obtain⟨⟨old,he⟩,Z⟩:=st;refine fZ hg λxs ys q1 q2 hx=>?_;obtain⟨_,us,n1,r1,ll1,p1⟩:=I.k7 q1;obtain⟨_,ws,n2,r2,ll2,p2⟩:=I.k7 q2;have s1:ju false s.heap l1 us.toArray:=⟨_,p1,rfl,n1,rfl⟩;have s2:ju false s.heap l2 ws.toArray:=⟨_,p2,rfl,n2,rfl⟩;have hT:s.TypeIs (.ref e) "enumerate":=⟨_,he,rfl⟩;unfold pyNext;refine fH<|wpAny_attempt<|b8 (name:=Str.ofString "__next__") hT du<|cK du hT F.entry_enumerate_next ?_<|F.args_enumerate_next_1 _;show wpAny _ _ (field (.ref e) 2>>=_) _ _ _;refine fH<|aZ he rfl (x:=.ref z) rfl ?_;refine fH (N5 (I.ok.hd hc) D Z s1 s2 (by simp only[List.getElem?_toArray,List.getElem?_eq_none_iff];lia) λh' x hk E7=>?_);refine fj E7 λo ho zI=>?_;refine fH<|wpAny_isInstance (T:= "StopIteration") (b:=true) ⟨o,ho,zI⟩ isSubtype_stop ?_;refine av ⟨rfl,I.yQ (ch:=[z,TO,i1,i2]) (λb hb=>hf b (by
   simp only[aT,aM,bY]at hb ⊢
   rcases hb with q|q|q|q<;>simp[q])) λb o hb eo=>hk b o (λq=>hb<|by simp[q]) (λq=>hb<|by simp[q]) (λq=>hb<|by simp[q]) (λq=>hb<|by simp[q]) eo⟩
 self:=λ_ _ _ _ _ st h=>let ⟨⟨_,e⟩,_⟩:=st;eh e h
section
variable {X:Cx}{a b e:Expr}{es:ak Expr}{pos:Pos}
def PU (ta:TA):TI:=λσ H R=>ta σ H λvs H1=>match vs with
 |[.ref l1,.ref l2]=>∃ xs ys,H1 l1=some (.lst xs)/\H1 l2=some (.lst ys)/\R (Ul l1 l2) H1
 |_=>False
def G4 {elts:ak Expr}{kk:Nat}{mn p2 qj:Pos}{ta:TA}{p:Pos}(hg:Gl X "enumerate")(hm:X.mg "enumerate"=none)(Qg:Gl X "zip")(Qe:X.mg "zip"=none)(ha:PA X [a,b] ta)(hs:starEach [a,b] X.env=[(false,eval a X.env),(false,eval b X.env)]:=by rfl)(sj:starEach [b] X.env=[(false,eval b X.env)]:=by rfl)
 (HV:starEach [.Call (.Name "zip" p2) [a,b] [] qj] X.env=[(false,eval (.Call (.Name "zip" p2) [a,b] [] qj) X.env)]:=by rfl):
 PI X (.Tuple elts kk mn) (.Call (.Name "enumerate" p) [.Call (.Name "zip" p2) [a,b] [] qj] [] pos) (PU ta):=by
 intro fb s σ H R I h;refine Call_ (ku I hg hm (show bootBuiltins "enumerate"=some (.type "enumerate") by decide +kernel)<|bh ?_ HV rfl);rw[HV];show wpAny _ _ (spliced<|(false,eval (.Call (.Name "zip" p2) [a,b] [] qj) X.env)::backTo pos []) _ _ s;refine Calls.spliced_cons ?_;refine Call_ (ku I Qg Qe boot_zip<|bh (hZ (ha qj fb s σ H _ I h) λus s1 LN=>?_) (by rw[hs,sj]) (by rw[sj];rfl));obtain⟨vs,H1,I1,r1,q1⟩:=LN;try dsimp only at q1
 split at q1
 .rename_i l1 l2;obtain⟨xs,ys,h1,h2,q⟩:=q1;refine fZ r1.two λu1 u2 fV e1 e2=>?_;subst fV;subst e1;subst e2;obtain⟨_,i1,n1,v1,_,p1⟩:=I1.k7 h1;obtain⟨_,i2,n2,v2,_,p2⟩:=I1.k7 h2;have s1q:ju false s1.heap l1 i1.toArray:=⟨_,p1,rfl,n1,rfl⟩;have s2q:ju false s1.heap l2 i2.toArray:=⟨_,p2,rfl,n2,rfl⟩;have lt1:l1<s1.heap.objs.size:=iO p1;have lt2:l2<s1.heap.objs.size:=iO p2;refine tK s1q s2q λh' hz Dh Dg m1 m2 kp=>?_;refine Calls.spliced_nil ?_;refine pZ (s:={ s1 with heap:=h'}) hz λh'' he hsz Nr=>eh he ?_;have Uy:s1.heap.objs.size+4<h'.objs.size:=iO hz;have I2:Inv X fb σ H1 { s1 with heap:=h''}:=I1.iC (t':=s1.toks) λb o eo=>Nr b o<|kp b o eo;have Z0:ZZ false (s1.heap.objs.size+4) (s1.heap.objs.size+2) (s1.heap.objs.size+3) s1.heap.objs.size (s1.heap.objs.size+1) l1 l2 0 h':=⟨_,_,_,_,hz,.inl rfl,Dh,Dg,m1,m2⟩;have ne:h'.objs.size∉[s1.heap.objs.size+4,s1.heap.objs.size+2,s1.heap.objs.size+3,s1.heap.objs.size,s1.heap.objs.size+1]:=by simp only[aT,aM,bY];lia
  refine⟨h'.objs.size,_,_,_,H1,rfl,I2,AG (zipApart_new lt1 lt2) ne,⟨⟨_,he⟩,Z0.keep λb _ o eo=>Nr b o eo⟩,λb hb=>?_,q⟩;have yE:s1.heap.objs.size<=b:=by
   simp only[aT,aM,bY]at hb;rcases hb with q|q|q|q|q|q
   .rw[q];exact bZ (bS (aQ _ 4) Uy)
   .rw[q];exact aQ _ _
   .rw[q];exact aQ _ _
   .rw[q];exact aQ _ _
   .rw[q];exact aq _
   .rw[q];exact aQ _ _
  exact I1.zN yE (I1.gT.fresh yE)
 .exact q1.elim
def TM (w:DA):DI:=λρ μ K=>w ρ μ λds fM=>match ds with
 |[x,y]=>opt (lv fM x) λxs=>opt (lv fM y) λys=>K (k9<|List.zipWith (λa b=>D.tup [a,b]) xs ys) (λfI=>lc x xs fI/\lc y ys fI) fM
 |_=>False
def LJ {elts:ak Expr}{kk:Nat}{mn p2 qj:Pos}{w:DA}{p:Pos}(hg:Gl X "enumerate")(hm:X.mg "enumerate"=none)(Qg:Gl X "zip")(Qe:X.mg "zip"=none)(ha:uW X [a,b] w)(hs:starEach [a,b] X.env=[(false,eval a X.env),(false,eval b X.env)]:=by rfl)(sj:starEach [b] X.env=[(false,eval b X.env)]:=by rfl)
 (HV:starEach [.Call (.Name "zip" p2) [a,b] [] qj] X.env=[(false,eval (.Call (.Name "zip" p2) [a,b] [] qj) X.env)]:=by rfl):
 FN X (.Tuple elts kk mn) (.Call (.Name "enumerate" p) [.Call (.Name "zip" p2) [a,b] [] qj] [] pos) (TM w):=(G4 hg hm Qg Qe ha hs sj HV).imp λσ H Q h_=>gG h_ λφ ρ μ K A M k L=>by
 refine⟨φ,ρ,μ,_,A,M,k,λds fM gy vs H1 k1 f1 M1 i1=>?_⟩;split at k1
 .rename_i x y;refine fj (gR k1) λxs ex k1=>?_;refine fj (gR k1) λys ey k1=>?_;obtain⟨v,r,rfl,h1,u,r',rfl,h2,h3⟩:=i1;cases(show r'=[]from h3);refine fZ (jA M1 h1 ex) λp1 vx fV Qa ax=>?_;subst fV;refine fZ (jA M1 h2 ey) λp2 vy fV P0 ay=>?_;subst fV;refine⟨vx,vy,Qa,P0,L _ _ fM gy _ H1 k1 f1 M1 λgg H' fI f M' c i=>?_⟩;refine fj (oU M1 h1 ex f M' c.1) λvx hx ax=>?_;refine fj (oU M1 h2 ey f M' c.2) λvy hy ay=>?_;have lx:=ax.len;have ly:=ay.len;refine⟨λd hd=>?_,λhi=>⟨vx,vy,hx,hy,by rw[jK,bF]at hi;lia⟩⟩;refine fj (rC hd) λq hq fV=>?_;subst fV;rw[bD]at hq;cases e1:xs[i]? with
  |none=>rw[e1]at hq;cases hq
  | some dx =>
   cases e2:ys[i]? with
   |none=>rw[e1,e2]at hq;cases hq
   | some dy =>rw[e1,e2]at hq;cases hq;refine fj (ax.get e1) λv1 g1 j1=>?_;refine fj (ay.get e2) λv2 g2 j2=>?_;refine⟨⟨vx,vy,v1,v2,hx,hy,g1,g2⟩,λz Ao LK=>?_⟩;refine x6 LK λT1 T2 x' y' fV SS Ql o7 q1 q2=>?_;subst fV;subst o7;have c1:=q1 vx hx;have c2:=q2 vy hy;rw[g1]at c1;cases c1;rw[g2]at c2;cases c2;have WY:=Fr.new (φ:=gg) (o:=.tup [v1,v2]) SS;have YR:=M'.same<|gW.upd (o:=.tup [v1,v2]) SS;have YD:=Fr.new (φ:=gg) (o:=.tup [.int i,.ref T1]) Ql;have M2':=YR.same<|gW.upd (o:=.tup [.int i,.ref T1]) Ql;have d1:iP gg (upd H' T1<|.tup [v1,v2]) (.tup [dx,dy]) (.ref T1):=⟨T1,_,rfl,M'.fresh SS,fF,v1,_,rfl,j1.mono WY,v2,_,rfl,j2.mono WY,rfl⟩;exact⟨WY.trans YD,M2',T2,_,rfl,YR.fresh Ql,fF,.int i,_,rfl,rfl,.ref T1,_,rfl,d1.mono YD,rfl⟩
 .exact k1.elim
end
def Ng:ak V->Hp->VK->Prop:=λvs H Q=>∃ i j k,vs=[.int i,.int j,.int k]/\Q (.int<|min i<|min j k) H
def Sk (hc:X.gN=true):jd X (.builtin "min") Ng:=by
 intro fb s σ H xs us Q I r h;obtain⟨i,j,k,rfl,h⟩:=h;cases r with
 | cons r1 r2 =>
  obtain⟨u,v,rfl,⟨t2,rfl⟩,⟨t3,rfl⟩⟩:=fT.two r2;obtain⟨t1,rfl⟩:=r1;refine min_three_ints (I.ok.hd hc) λh' tk kp=>⟨_,H,I.iC kp,?_,h⟩;by_cases h1:j<i
  .by_cases h2:k<j
   .rw[aA h1,aA h2,show min i (min j k)=k by lia];exact⟨_,rfl⟩
   .rw[aA h1,aC h2,show min i (min j k)=j by lia];exact⟨_,rfl⟩
  .by_cases h2:k<i
   .rw[aC h1,aA h2,show min i (min j k)=k by lia];exact⟨_,rfl⟩
   .rw[aC h1,aC h2,show min i (min j k)=i by lia];exact⟨_,rfl⟩
def Te:lp:=λds μ K=>dM [.i,.i,.i] ds λi j k=>K (.int<|min i<|min j k) μ
def KN:mF Ng Te:=λφ H vs ds μ K Q M h k L=>by obtain⟨_,_,_,rfl,k⟩:=dJ k;obtain⟨v,r,rfl,h1,u,r',rfl,h2,w,r'',rfl,h3,h4⟩:=h;cases h4;cases h1;cases h2;cases h3;exact⟨_,_,_,rfl,L.val M k rfl⟩
section
variable {X:Cx}{e:Expr}{pos:Pos}
def TU:De:=λ_ μ K=>K (.mr μ.length) (μ++[.jf [] []])
def Qz:PD X (.Dict [] [] pos) TU:=Hd.imp λσ H Q h_=>gG h_ λφ ρ μ K A M k L=>λp hp=>by obtain⟨M',f⟩:=M.snoc (m:=.jf [] []) hp ⟨[],[],fF,rfl,rfl,rfl⟩;exact L _ _ _ _ _ k f M' ⟨p,by rw[p8 (M.len▸aq _),M.len,a6];rfl,rfl⟩
def T3 (w wo wi:De):Ds:=λN ρ μ=>w ρ μ λd fM=>wo ρ fM λo iA=>wi ρ iA λi rS=>match o with
 |.mr k=>∃ ks ds,rS[k]?=some (.jf ks ds)/\ks.length<sizeLine/\opt (HK i) λkk=>kk∉ks/\N.nx ρ (rS.set k<|.jf (ks++[kk])<|ds++[d])
 |_=>False
def OD (hu:X.A.units+1<cLine)(he:PD X e w)(ho:PD X o wo)(hi:PD X i wi)(hs:swapsWith e (some<|.Subscript o i pos') pos.line X.env=pure false:=by rfl):
 yu X (.Assign [.Subscript o i pos'] e pos) (T3 w wo wi):=(Cv hu ho hi he hs).imp λE σ H hq=>by
 refine gG hq λφ ρ μ N A M w L=>?_;refine⟨φ,ρ,μ,_,A,M,w,λd fM gy v1 H1 k1 f1 M1 i1=>⟨gy,ρ,fM,_,A.mono f1,M1,k1,λd2 iA kL v2 H2 k2 f2 M2 i2=>⟨kL,ρ,iA,_,A.mono<|f1.trans f2,M2,k2,λd3 rS Ei v3 H3 k3 f3 M3 i3=>?_⟩⟩⟩;cases d2 with
 | mr k =>
  refine fZ k3 λks ds em hl k3=>?_;refine jB (gR k3) λkk ek hn k3=>?_;refine fj (i2.mono f3) λp hp fV=>?_;subst fV;obtain⟨p',e1,fw,vs,hv,h1,h2,ha⟩:=M3.at_ k _ em;rw[hp]at e1;cases e1;cases tu ek i3;have Wn:(fw.any λkv=>decide (kv.1=kk))=false:=by rw[eJ];intro kv SH;rw[bA];intro z;exact hn (by rw[<- h1,<- z];exact dE SH)
  have ep:putK fw kk v1=fw++[(kk,v1)]:=by delta putK;rw[Wn];rfl
  have f4:Fr Ei H3 Ei (upd H3 p<|.dK<|putK fw kk v1):=.put<|lC hp;refine⟨p,_,rfl,Aq.k hv (by rw[<- h1,gQ]at hl;exact hl),?_⟩;have M4:=M3.put (k:=k) (p:=p) (m:=.jf (ks++[kk])<|ds++[d]) hp ⟨putK fw kk v1,vs++[v1],fF,by rw[ep,bI,h1];rfl,by rw[ep,bI,h2];rfl,
   (ha.mono f4).app ⟨v1,[],rfl,(i1.mono<|f2.trans f3).mono f4,rfl⟩⟩
  exact L.nx ρ _ Ei σ _ k3 ((f1.trans<|f2.trans f3).trans f4) (A.mono<|(f1.trans<|f2.trans f3).trans f4) M4
 |_=>exact k3.elim
end
def jY (L:Nat)(i j:Nat):Int:=if j<=i then 0 else(L:Int) - 1
def mO (P:Nat->Nat->Int)(i j:Nat):ak Int:=(List.range<|j - (i+1)).map λx=>P i (i+1+x)+P (i+1+x) j+1
def i8 (L:Nat)(es own:ak Int)(P:Nat->Nat->Int)(i j:Nat):Int:=if es.getD j 0<=own.getD i 0 then 0 else(mO P i j).foldl min ((L:Int) - 1)
def fG (es:ak Int)(ts:ak Tk):Nat->Nat->Nat->Int
 |0=>jY es.length
 |a+1=>i8 es.length es (ja es ts a) (fG es ts a)
def lO {P:Nat->Nat->Int}{i j:Nat}{v:Int}:v∈mO P i j↔∃ k,i<k/\k<j/\v=P i k+P k j+1:=by
 delta mO;rw[eF];constructor
 .rintro⟨x,hx,rfl⟩;rw[bU]at hx;exact⟨i+1+x,(aQ _ _),by lia,rfl⟩
 .rintro⟨k,h1,h2,rfl⟩;exact⟨k - (i+1),List.mem_range.mpr<|by lia,by rw[show i+1+(k - (i+1))=k by lia]⟩
def EY {P P':Nat->Nat->Int}{L i j:Nat}(hi:i<L)(hj:j<L)(h:∀ a b,a<L->b<L->P a b=P' a b):mO P i j=mO P' i j:=by apply bO;intro x hx;rw[bU]at hx;rw[h i _ hi (by lia),h _ j (by lia) hj]
def Es {P P':Nat->Nat->Int}{L:Nat}{es own:ak Int}{i j:Nat}(hi:i<L)(hj:j<L)(h:∀ a b,a<L->b<L->P a b=P' a b):i8 L es own P i j=i8 L es own P' i j:=by delta i8;rw[EY hi hj h]
def Ec (L:Nat)(T P:Nat->Nat->Int):Prop:=∀ i j,i<L->j<L->(j<=i->P i j=0)/\(i<j->(T i j=0/\P i j=(L:Int) - 1)\/(1<=T i j/\T i j<=((j - i:Nat):Int)/\P i j=T i j - 1))
def Ew {L:Nat}{es own:ak Int}{T P:Nat->Nat->Int}(hs:∀ i j,i<L->j<=i->es.getD j 0<=own.getD i 0)(h:Ec L T P):Ec L (jN es own T) (i8 L es own P):=by
 intro i j hi hj;refine⟨λhji=>by delta i8;rw[aA (hs i j hi hji)],λlH=>?_⟩;delta jN i8;rw[aC (show ¬ j<=i by lia)];by_cases q:es.getD j 0<=own.getD i 0
 .right;lia
 rw[aC q,aC q];refine jr (jT (mO P i j)<|(L:Int) - 1) λa1 a2 a3=>?_;generalize hm:(mO P i j).foldl min ((L:Int) - 1)=m at a1 a2 a3 ⊢
 have kk:∀ k,i<k->k<j->(0<T i k*T k j/\1<=T i k/\1<=T k j/\T i k+T k j<=((j - i:Nat):Int)/\P i k+P k j+1=T i k+T k j - 1)\/(¬ 0<T i k*T k j/\(L:Int) - 1<P i k+P k j+1):=λk h1 h2=>by
  have x1:=(h i k hi<|by lia).2 h1;have x2:=(h k j (by lia) hj).2 h2;rcases x1 with⟨y1,y2⟩|⟨y1,y2,y3⟩
  .right;refine⟨by lia,?_⟩;rcases x2 with⟨z1,z2⟩|⟨z1,z2,z3⟩<;> lia
  .rcases x2 with⟨z1,z2⟩ | ⟨z1,z2,z3⟩
   .right;exact⟨by lia,by lia⟩
   .left;exact⟨Int.mul_pos (by lia)<|by lia,y1,z1,by lia,by lia⟩
 by_cases hn:nP T i j=[]
 .left;rw[hn];refine⟨rfl,?_⟩;rcases a1 with e|e
  .exact e
  .exfalso;refine jB (lO.mp e) λk h1 h2 e=>?_;rcases kk k h1 h2 with⟨y,_⟩|⟨_,y⟩
   .have:=jX.mpr ⟨k,h1,h2,y,rfl⟩;rw[hn]at this;cases this
   .lia
 .right;refine lQ (oS hn) λb1 b2=>?_;generalize zw (nP T i j)=t at b1 b2 ⊢
  refine sN (jX.mp b1) λk h1 h2 h3 e=>?_;rcases kk k h1 h2 with⟨_,y1,y2,y3,y4⟩|⟨y,_⟩
  .have:=a3 _<|lO.mpr ⟨k,h1,h2,rfl⟩;refine⟨by lia,by lia,?_⟩;rcases a1 with e'|e'
   .lia
   .refine jB (lO.mp e') λk' g1 g2 e'=>?_;rcases kk k' g1 g2 with⟨w0,w1,w2,w3,w4⟩|⟨_,w⟩
    .have:=b2 _<|jX.mpr ⟨k',g1,g2,w0,rfl⟩;lia
    .lia
  .exact absurd h3 y
theorem yT (hs:∀ a i j,i<es.length->j<=i->es.getD j 0<=(ja es ts a).getD i 0):∀ a,Ec es.length (mq es ts a) (fG es ts a)
 |0=>λi j hi hj=>⟨λh=>by show jY _ i j=0;delta jY;rw[aA h],λh=>.inl ⟨rfl,by show jY _ i j=_;delta jY;rw[aC (by lia)]⟩⟩
 |a+1=>Ew (hs a) (yT hs a)
def Hh {es:ak Int}{ts:ak Tk}{a:Int}(h:∀ t∈ts,t.2≠a):ja es ts a=ja es ts (a - 1):=by apply bO;intro e _;rw[kG,kG];congr 2;apply List.filter_congr;intro t ht;have:=h t ht;exact decide_eq_decide.mpr ⟨λq=>by lia,λq=>by lia⟩
def Hk {es:ak Int}{ts:ak Tk}{a:Int}(h:∀ t∈ts,a<t.2):ja es ts a=es:=by
 delta ja;have:es.map (jz es ts a)=es.map id:=by
  apply bO;intro e _;rw[kG];have:(ts.filter λt=>decide (t.2<=a))=[]:=by rw[List.filter_eq_nil_iff];intro t ht;have:=h t ht;lia
  rw[this];rfl
 rw[this,List.map_id]
def getD_some {xs:ak Int}(h:i<xs.length):xs[i]?=some (xs.getD i 0):=by rw[ar,iT h];rfl
def B7 {es:ak Int}(hu:es.Pairwise (·<·))(hi:i<es.length)(h:j<=i):es.getD j 0<=es.getD i 0:=rU hu j i _ _ h (getD_some<|bS ‹_› ‹_›) (getD_some hi)
def Hj {es:ak Int}{ts:ak Tk}{a:Int}(hu:es.Pairwise (·<·))(i j:Nat)(hi:i<es.length)(h:j<=i):es.getD j 0<=(ja es ts a).getD i 0:=by have e:=l7 (ts:=ts) (a:=a)<|getD_some hi;rw[ar (l:=ja es ts a),e];have:=oP es ts a<|es.getD i 0;have:=B7 hu hi h;show _<=jz es ts a (es.getD i 0);lia
def JK (hu:es.Pairwise (·<·))(hi:i<es.length)(hj:j<es.length):i8 es.length es es (jY es.length) i j=jY es.length i j:=by
 delta i8;by_cases q:j<=i
 .rw[aA (B7 hu hi q)];delta jY;rw[aA q]
 .have lH:i<j:=by lia
  have:=List.pairwise_iff_getElem.mp hu i j hi hj lH
  rw[aC (by
   have e1:=getD_some hi
   have e2:=getD_some hj
   rw[iT hi]at e1
   rw[iT hj]at e2
   lia)]
  refine jr (jT (mO (jY es.length) i j)<|(es.length:Int) - 1) λa1 a2 a3=>?_
  have eb:jY es.length i j=(es.length:Int) - 1:=by delta jY;rw[aC q]
  rw[eb]
  rcases a1 with e|e
  .exact e
  .exfalso;refine jB (lO.mp e) λk h1 h2 e=>?_;have b1:jY es.length i k=(es.length:Int) - 1:=by delta jY;rw[aC (by lia)]
   have b2:jY es.length k j=(es.length:Int) - 1:=by delta jY;rw[aC (by lia)]
   lia
def Gn {L:Nat}{T T':Nat->Nat->Int}(h:∀ i j,i<L->j<L->T i j=T' i j):lJ L T=lJ L T':=by apply bO;intro i hi;rw[GJ λj hj=>h i j (List.mem_range.mp hi) hj]
theorem uJ:∀ {xs ys:ak D} {i:Nat} {x y:D},pf xs ys=true->xs[i]?=some x->ys[i]?=some y->sO x y=true
 |[],_,i,_,_,_,h1,_=>by contradiction
 |_::_,[],i,_,_,_,_,h2=>by cases h2
 | x::xs,y::ys,0,_,_,h,h1,h2=>by unfold pf at h;rw[cu]at h;simp at h1 h2;subst h1;subst h2;exact h.1
 | x::xs,y::ys,i+1,_,_,h,h1,h2=>by unfold pf at h;rw[cu]at h;exact uJ h.2 (by simpa using h1) (by simpa using h2)
def L8 {L:Nat}{S T:Nat->Nat->Int}(h:sO (.lst<|lJ L S) (.lst<|lJ L T)=true):∀ i j,i<L->j<L->S i j=T i j:=λi j hi hj=>by have h1:=uJ h (qc hi)<|qc hi;have h2:=uJ h1 (om hj)<|om hj;exact eq_of_beq h2
def Iq {k:Nat}(hf:∀ i j,i<es.length->j<es.length->i8 es.length es (ja es ts<|(k:Int) - 1) (fG es ts k) i j=fG es ts k i j)(hn:∀ t∈ts,t.2≠(k:Int))(i j:Nat)(hi:i<es.length)(hj:j<es.length):fG es ts (k+1) i j=fG es ts k i j:=by show i8 es.length es (ja es ts k) (fG es ts k) i j=_;rw[Hh hn];exact hf i j hi hj
def zQ (h:∀ i j,i<es.length->j<es.length->fG es ts (k+1) i j=fG es ts k i j)(i j:Nat)(hi:i<es.length)(hj:j<es.length):i8 es.length es (ja es ts<|((k+1:Nat):Int) - 1) (fG es ts<|k+1) i j=fG es ts (k+1) i j:=by rw[show((k+1:Nat):Int) - 1=(k:Int) by lia,Es (P':=fG es ts k) hi hj h];rfl
def Fi {n:Int}{cs:ak Int}{ts:ak Tk}(S:gP n cs ts)(i j:Nat)(hi:i<(e9 n cs).length)(hj:j<(e9 n cs).length):i8 (e9 n cs).length (e9 n cs) (ja (e9 n cs) ts<|((0:Nat):Int) - 1) (fG (e9 n cs) ts 0) i j=fG (e9 n cs) ts 0 i j:=by rw[Hk λt ht=>by have:=(S.takes.ok t ht).2.2.1;lia];exact JK (gr S.n1 S.ij) hi hj
def Ad {L i j:Nat}{f:Nat->Int}(hj:j<=L):cutD (jO L f) (some<|(i:Int)+1) (some (j:Int))=(List.range<|j - (i+1)).map λx=>D.int (f<|i+1+x):=by
 delta cutD;rw[yW,show HT.mJ L 0 (some<|(i:Int)+1)=min (i+1) L from HT.lq L 0 (i+1),HT.lq,cj hj];rcases Nat.lt_or_ge (i+1) j with q|q
 .rw[cj (aK (bZ q) hj)];apply cA;intro x;rw[List.getElem?_take,nX];by_cases hx:x<j - (i+1)
  .rw[aA hx,cP,bG hx,om (by lia)];rfl
  .rw[aC hx,List.getElem?_eq_none_iff.mpr (ur▸Nat.not_lt.mp hx)];rfl
 .rw[Nat.sub_eq_zero_of_le q,Nat.sub_eq_zero_of_le (Nat.le_min.mpr ⟨q,hj⟩)];rfl
def FU {L:Nat}{P:Nat->Nat->Int}{i j:Nat}:List.zipWith (λa b:Int=>a+b+1) ((List.range<|j - (i+1)).map λx=>P i<|i+1+x) ((List.range<|j - (i+1)).map λx=>P (i+1+x) j)=mO P i j:=by
 delta mO;rw[List.zipWith_map];generalize List.range (j - (i+1))=xs;induction xs with
 |nil=>rfl
 |cons x xs ih=>rw[cf,ih];rfl
def v9 (g:Nat->D)(hl:ds.length=L)(h:∀ i,i<L->ds[i]?=some (g i)):k9 ds=(List.range L).map λi=>D.tup [.int (i:Nat),g i]:=by
 delta k9;apply cA;intro i;rw[bD,nX,hl];by_cases hi:i<L
 .rw[bG hi,h i hi];rfl
 .rw[List.getElem?_eq_none_iff.mpr (by rw[ur];lia)];rfl
def LY {es:ak Int}:k9 (es.map D.int)=(List.range es.length).map λj=>D.tup [.int (j:Nat),.int (es.getD j 0)] :=
 v9 _ (gQ ..) λi hi=>by rw[nX,getD_some hi];rfl
def IL {L:Nat}{P:Nat->Nat->Int}{own:ak Int}(hl:own.length=L):k9 (List.zipWith (λa b=>D.tup [a,b]) (lJ L P)<|own.map D.int)=(List.range L).map λi=>D.tup [.int (i:Nat),.tup [.lst (jO L<|P i),.int (own.getD i 0)]] :=
 v9 (λi=>.tup [.lst (jO L<|P i),.int (own.getD i 0)]) (by rw[bF,mG,gQ];lia) λi hi=>by rw[bD,qc hi,nX,getD_some (by lia)];rfl
def Eo {L k:Nat}{T:Nat->Nat->Int}:((List.range<|k+1).map λi=>D.lst<|jO L<|T i)=((List.range k).map λi=>D.lst<|jO L<|T i)++[.lst (jO L<|T k)]:=by rw[List.range_succ,bI];rfl
def Ls (L k:Nat)(f:Nat->Nat->Int):sJ n ((List.range k).map λi=>D.lst<|jO L<|f i):=uf λd hd=>by obtain⟨i,_,rfl⟩:=List.mem_map.mp hd;exact CN L _
def FV {ls:ak Int}:List.zipWith (λa b=>D.tup [a,b]) (ls.map D.int) (rs.map D.int)=(ls.zip rs).map λp=>D.tup [.int p.1,.int p.2]:=by rw[List.zipWith_map,List.zip,List.map_zipWith]
def FR:(ls.zip rs).map (λp=>D.int<|p.1+p.2+1)=(List.zipWith (λa b=>a+b+1) ls rs).map D.int:=by rw[List.zip,List.map_zipWith,List.map_zipWith]
def R4 {i j k:Nat}{ρ:DE}{μ:MS}{K:Bool->MS->Prop}(ch:Bool)(now:Int)(Mx:ak Int)(h8:ρ[i]?=some (some<|.bl ch))(h10:ρ[j]?=some (some<|.int now))(h6:ρ[k]?=some (some<|.lst<|Mx.map D.int))(h:∀ c,(c=false->ch=false/\now∉Mx)->K c μ):Jb (oC<|Ab i) (oC<|vp (Xn false) (Ab j)<|Ab k) ρ μ K:=by
 delta Jb oC vp Ab;rw[h8,h10,h6];show if ch=true then K true μ else _;by_cases q:ch=true
 .rw[aA q];exact h true λz=>by cases z
 .rw[aC q];refine⟨rfl,List.all_map▸List.all_eq_true.mpr λx _=>rfl,h _ λz=>⟨by cases ch with|true=>exact absurd rfl q|false=>rfl,λhm=>?_⟩⟩;have z2:((Mx.map D.int).any λd=>sO d<|.int now)=false:=by cases q2:((Mx.map D.int).any λd=>sO d<|.int now)with|true=>rw[q2]at z;exact absurd z (by decide)|false=>rfl
  rw[eJ]at z2;exact z2 _ (dE hm) (beq_self_eq_true now)
def Dz:lp:=λds μ K=>dM [.l] ds λb=>b.length<=2000/\K (.int<|(b.length:Int) - 1) μ
def ID:lp:=λds μ K=>dM [.l] ds λb=>b.length<=2000/\K (.lst<|lJ b.length<|jY b.length) μ
def zU:lp:=λds μ K=>dM [.l,.l,.i] ds λl r m=>∃ ls rs:ak Int,l=ls.map D.int/\r=rs.map D.int/\ls.length<=2000/\rs.length<=2000/\K (.int<|(List.zipWith (λa b=>a+b+1) ls rs).foldl min m) μ
def zT:lp:=λds μ K=>dM [.l,.l,.l] ds λb c l=>∃(es own:ak Int) (P:Nat->Nat->Int),b=es.map D.int/\c=own.map D.int/\own.length=es.length/\es.length<=2000/\l=lJ es.length P/\K (.lst<|lJ es.length<|i8 es.length es own P) μ
def nH (es:ak Int)(ts:ak Tk)(k:Nat):ak D:=(List.range k).map λa=>D.lst (lJ es.length<|fG es ts<|a+1)
def l9 (k:Nat):ak Key:=(List.range k).map λa=>(Sum.inl ((a:Nat):Int):Key)
def zV:lp:=λds μ K=>dM [.i,.l,.l,.i] ds λn x y a=>∃(cs:ak Int) (ts:ak Tk),x=cs.map D.int/\y=ts.map rV/\gP n cs ts/\0<=a/\a<=1000/\K (.jf (l9<|a.toNat+1)<|nH (e9 n cs) ts<|a.toNat+1) μ
def HI (k:Nat):(Sum.inl ((k:Nat):Int):Key)∉l9 k:=λh=>by refine fj (List.mem_map.mp h) λa ha e=>?_;rw[bU]at ha;lia
def Bt (k:Nat):l9 (k+1)=l9 k++[Sum.inl ((k:Nat):Int)]:=by delta l9;rw[List.range_succ,bI];rfl
def AI (es:ak Int)(ts:ak Tk)(k:Nat):nH es ts (k+1)=nH es ts k++[.lst (lJ es.length<|fG es ts<|k+1)]:=by delta nH;rw[List.range_succ,bI];rfl
theorem DL:∀ {xs:ak Nat} {k:Nat} (g:Nat->D),k∈xs->uI ((xs.map λa=>(Sum.inl ((a:Nat):Int):Key)).zip<|xs.map g) (.inl (k:Int))=some (g k)
 | x::xs,k,g,h=>by
  rw[az,az,cO];delta uI;rw[cn];by_cases e:x=k
  .subst e;simp
  .have:¬ (Sum.inl ((x:Nat):Int):Key)=Sum.inl ((k:Nat):Int):=λz=>e (by lia);simp only[this,decide_false];exact DL g (by rcases List.mem_cons.mp h with q|q;exact absurd q.symm e;exact q)
structure NZ (es:List Int)(F:Int->Int):Prop where
 mem:∀ e∈es,F e∈es
 ge:∀ e,e<=F e
 mono:∀ a∈es,∀ b∈es,a<=b->F a<=F b
def y7 {n:Int}{cs:ak Int}{ts:ak Tk}(S:gP n cs ts)(a:Int):NZ (e9 n cs) (jz (e9 n cs) ts a):=by
 refine⟨λe he=>za he,λe=>oP _ _ _ _,λa' ha b hb Ka=>?_⟩;let ⟨i,hi,e1⟩:=aN ha;let ⟨j,hj,e2⟩:=aN hb;have g1:(e9 n cs)[i]?=some a':=by rw[iT hi,e1]
 have g2:(e9 n cs)[j]?=some b:=by rw[iT hj,e2]
 exact EF S i j _ _ (tN (gr S.n1 S.ij) g1 g2 Ka) (l7 g1) (l7 g2)
def PQ {es:ak Int}(hu:es.Pairwise (·<·)){x:Int}(hx:x∈es)(g:Int->Int):rowAt es (es.map g) x=g x:=by delta rowAt;rw[nX,tx hx];rfl
def Hv {es:ak Int}{ts:ak Tk}{a:Int}(hu:es.Pairwise (·<·)){g:Int->Int}(hg:∀ e∈es,g e∈es):l8 es ts (es.map g) a=es.map λe=>max (jz es ts a e) (g<|g e):=by
 apply cA;intro i;by_cases hi:i<es.length
 .have he:=iT hi;have hm:=a9 hi;rw[xG (l7 he) (by rw[nX,he];rfl:(es.map g)[i]?=some (g es[i])),nX,he,PQ hu (hg _ hm)];rfl
 .rw[List.getElem?_eq_none_iff.mpr (by rw[(CL (⟨gQ ..,λx hx=>by obtain⟨e,he,rfl⟩:=List.mem_map.mp hx;exact hg e he⟩:qL es (es.map g))).len];lia),List.getElem?_eq_none_iff.mpr (by rw[gQ];lia)]
def D0 {l:ak Nat}{a b:Int}{c:Nat}(ha:0<=a)(hb:0<=b)(h:c∈vq l a b):∃ k:Nat,a<=k/\(k:Int)<b/\l[k]?=some c:=by
 obtain⟨i,rfl⟩:=dc ha;obtain⟨j,rfl⟩:=dc hb;rw[Af]at h;obtain⟨t,ht,e⟩:=aN h;have g:((l.drop i).take<|j - i)[t]?=some c:=by rw[iT ht,e]
 have ht:=aG ht<|List.length_take_le ..;rw[bw ht,cP]at g;exact⟨i+t,Int.ofNat_le.mpr<|aQ _ _,by lia,g⟩
def J4 (l1 l2:ak Nat)(p:Int):ak Nat:=l1.take p.toNat++l2.drop p.toNat
def u3 (cs:ak Int)(ts:ak Tk):Nat->ak Nat->Int->Prop
 |0,l,a=>(l,a)∈ts
 |r+1,l,a=>u3 cs ts r l a\/∃ l1 a1 l2 a2 p,u3 cs ts r l1 a1/\u3 cs ts r l2 a2/\p∈cs/\l=J4 l1 l2 p/\a=max a1 a2+1
theorem u3.up {cs:ak Int}{ts:ak Tk}{l:ak Nat}{a:Int}{r:Nat}(h:u3 cs ts r l a):∀ k,u3 cs ts (r+k) l a
 |0=>h
 |k+1=>.inl (u3.up h k)
def u3.le {cs:ak Int}{ts:ak Tk}{l:ak Nat}{a:Int}{r r':Nat}(h:u3 cs ts r l a)(hr:r<=r'):u3 cs ts r' l a:=by have:=h.up<|r' - r;rwa [show r+(r' - r)=r' by lia]at this
def oW {l1 l2:ak Nat}{p:Int}{k:Nat}(h:p<=l1.length)(hk:(k:Int)<p):(J4 l1 l2 p)[k]?=l1[k]?:=by delta J4;rw[vX (by rw[bx];lia),List.getElem?_take,aA (by lia)]
def mP {l1 l2:ak Nat}{p:Int}{k:Nat}(h0:0<=p)(h:p<=l1.length)(hk:p<=(k:Int)):(J4 l1 l2 p)[k]?=l2[k]?:=by delta J4;rw[p8 (by rw[bx];lia),bx,cP];congr 1;lia
def LF {l1 l2:ak Nat}{p:Int}(h0:0<=p)(h1:p<=l1.length)(h:l1.length=l2.length):(J4 l1 l2 p).length=l1.length:=by delta J4;rw[kO,bx,bz];lia
def Pz {l1 l2:ak Nat}{p:Int}(h1:OX l1)(h2:OX l2):OX (J4 l1 l2 p):=λc hc=>by
 rcases List.mem_append.mp hc with q|q
 .exact h1 c (aV q)
 .exact h2 c (List.mem_of_mem_drop q)
theorem u3.good {n:Int}{cs:ak Int}{ts:ak Tk}(S:gP n cs ts):∀ {r:Nat} {l:ak Nat} {a:Int},u3 cs ts r l a->(l.length:Int)=n/\OX l/\0<=a/\a<=60+r
 |0,l,a,h=>by have:=S.takes.ok (l,a) h;exact⟨this.1,this.2.1,this.2.2.1,by lia⟩
 | r+1,l,a,h=>by
  rcases h with h|⟨l1,a1,l2,a2,p,h1,h2,hp,rfl,rfl⟩
  .have:=u3.good S h;exact⟨this.1,this.2.1,this.2.2.1,by lia⟩
  .have g1:=u3.good S h1;have g2:=u3.good S h2;have CY:=S.ij.J6 p hp;exact⟨by rw[LF (by lia) (by lia) (by lia)];exact g1.1,Pz g1.2.1 g2.2.1,by lia,by lia⟩
def FO (l:ak Nat)(e x:Int):Prop:=∀ k:Nat,e<=k->(k:Int)<x->l[k]?=some 111
def Du {es:ak Int}{l:ak Nat}{e x:Int}(ho:OX l)(h0:0<=e)(he:e<=l.length)(hx:x<=je es l e):FO l e x:=λk h1 h2=>by
 have ct:=uQ ho (e:=e.toNat) (by lia);have:je es l e<=max e (sP l e.toNat:Int):=by
  delta je;rcases kQ (es.filter λx=>decide (x<=(sP l e.toNat:Int))) e with q|q
  .lia
  .have:=bp (List.mem_filter.mp q).2;lia
 exact ct.2.2.1 k (by lia) (by lia)
def yd {es:ak Int}{l:ak Nat}{e x:Int}(ho:OX l)(h0:0<=e)(hex:e<=x)(hx:x<=l.length)(hm:x∈es)(h:FO l e x):x<=je es l e:=by refine wy ho h0 hx hex hm λz=>?_;refine jB (D0 h0 (bT ‹_› ‹_›) z) λk k1 k2 k3=>?_;rw[h k k1 k2]at k3;cases k3
def RF (es:ak Int)(ts:ak Tk):Nat->Int->Int
 |0=>jz es ts 0
 |a+1=>λe=>max (jz es ts ((a:Int)+1) e) (RF es ts a<|RF es ts a e)
theorem kK {n:Int}{cs:ak Int}{ts:ak Tk}(S:gP n cs ts):∀ a,NZ (e9 n cs) (RF (e9 n cs) ts a)
 |0=>y7 S 0
 | a+1=>by
  have h:=kK S a;have g:=y7 S<|(a:Int)+1;refine⟨λe he=>max_mem (g.mem e he)<|h.mem _<|h.mem e he,λe=>?_,λx hx y hy V9=>?_⟩
  .have:=g.ge e;show e<=max _ _;lia
  .have g1:=g.mono x hx y hy V9;have g2:=h.mono _ (h.mem x hx) _ (h.mem y hy)<|h.mono x hx y hy V9;show max _ _<=max _ _;lia
theorem Co {n:Int}{cs:ak Int}{ts:ak Tk}(S:gP n cs ts):∀ a,iQ (e9 n cs) ts a=(e9 n cs).map (RF (e9 n cs) ts a)
 |0=>rfl
 | a+1=>by show l8 (e9 n cs) ts (iQ (e9 n cs) ts a) _=_;rw[Co S a,Hv (gr S.n1 S.ij) (kK S a).mem];rfl
def Uh {n:Int}{cs:ak Int}{ts:ak Tk}(S:gP n cs ts)(a:Nat)(e:Int):RF (e9 n cs) ts a e<=RF (e9 n cs) ts (a+1) e:=by have:=(kK S a).ge<|RF (e9 n cs) ts a e;show _<=max _ _;lia
def QS {n:Int}{cs:ak Int}{ts:ak Tk}(a:Nat)(e:Int):jz (e9 n cs) ts a e<=RF (e9 n cs) ts a e:=by
 cases a with
 |zero=>exact bo _
 |succ a=>show jz (e9 n cs) ts (((a+1:Nat):Int)) e<=max (jz (e9 n cs) ts ((a:Int)+1) e) _;rw[show((a+1:Nat):Int)=(a:Int)+1 by lia];lia
theorem qt {n:Int}{cs:ak Int}{ts:ak Tk}(S:gP n cs ts):∀ {r:Nat} {l:ak Nat} {b:Int} {a:Nat},u3 cs ts r l b->b<=a->∀ e x,e∈e9 n cs->x∈e9 n cs->e<=x->FO l e x->x<=RF (e9 n cs) ts a e
 | 0,l,b,a,h,hb,e,x,he,hx,hex,hc=>by have ok:=S.takes.ok (l,b) h;have Rk:=iL S.n1 S.ij he;have Yl:=iL S.n1 S.ij hx;have g1:=yd ok.2.1 Rk.1 hex (by have:=ok.1;simp at this;lia) hx hc;have g2:=ql (es:=e9 n cs) (e:=e) h hb;have g3:=QS (n:=n) (cs:=cs) (ts:=ts) a e;exact bT g1 (bT g2 g3)
 | r+1,l,b,a,h,hb,e,x,he,hx,hex,hc=>by
  rcases h with h|⟨l1,a1,l2,a2,p,h1,h2,hp,rfl,rfl⟩
  .exact qt S h hb e x he hx hex hc
  .have g1:=u3.good S h1;have g2:=u3.good S h2;have CY:=S.ij.J6 p hp;cases a with
   |zero=>lia
   | succ a =>
    have hs:=kK S a;have pm:p∈e9 n cs:=by delta e9;simp[hp]
    have up:=Uh S a e;have i1:=qt S (a:=a) h1 (by lia);have i2:=qt S (a:=a) h2 (by lia);by_cases q1:x<=p
    .have:=i1 e x he hx hex λk k1 k2=>by rw[<- oW (l2:=l2) (p:=p) (by lia) (by lia)];exact hc k k1 k2
     lia
    .by_cases q2:p<=e
     .have:=i2 e x he hx hex λk k1 k2=>by rw[<- mP (l1:=l1) (p:=p) (by lia) (by lia) (by lia)];exact hc k k1 k2
      lia
     .have j1:=i1 e p he pm (by lia) λk k1 k2=>by rw[<- oW (l2:=l2) (p:=p) (by lia) (by lia)];exact hc k k1 (by lia)
      have j2:=i2 p x pm hx (by lia) λk k1 k2=>by rw[<- mP (l1:=l1) (p:=p) (by lia) (by lia) (by lia)];exact hc k (by lia) k2
      have j3:=hs.mono p pm _ (hs.mem e he) j1
      show x<=max _ _
      lia
def Kn {l l':ak Nat}(h:txt l=txt l'):l=l':=by have:=cq (λz:Str=>z.cps.toList) h;simpa [txt]using this
def Ml {l:ak Nat}{n:Int}(hl:(l.length:Int)=n)(h:FO l 0 n):l=List.replicate n.toNat 111:=by
 apply cA;intro k;by_cases q:k<l.length
 .rw[h k (eZ _) (by lia),dY,aA (by lia)]
 .rw[List.getElem?_eq_none_iff.mpr (by lia),List.getElem?_eq_none_iff.mpr (by rw[aR];lia)]
def yp (n e x:Int)(h:x<=n)(h0:0<=e):FO (List.replicate n.toNat 111) e x:=λk k1 k2=>by rw[dY,aA (by lia)]
theorem xK {n:Int}{cs:ak Int}{ts:ak Tk}(S:gP n cs ts){u v:Int}{i:Nat}(hu:(e9 n cs)[i]?=some u)(hv:(e9 n cs)[i+1]?=some v)(hb:∀ t∈ts,¬ FO t.1 u v):∀ {r:Nat} {l:ak Nat} {b:Int},u3 cs ts r l b->¬ FO l u v
 |0,l,b,h=>hb (l,b) h
 | r+1,l,b,h=>by
  rcases h with h|⟨l1,a1,l2,a2,p,h1,h2,hp,rfl,rfl⟩
  .exact xK S hu hv hb h
  .intro hc;have g1:=u3.good S h1;have CY:=S.ij.J6 p hp;have pm:p∈e9 n cs:=by delta e9;simp[hp]
   obtain⟨k,hk,ek⟩:=aN pm;have gk:(e9 n cs)[k]?=some p:=by rw[iT hk,ek]
   have up:=gr S.n1 S.ij;rcases Nat.lt_or_ge i k with q|q
   .have:v<=p:=rU up (i+1) k _ _ q hv gk;exact xK S hu hv hb h1 λw w1 w2=>by rw[<- oW (l2:=l2) (p:=p) (by lia) (bT ‹_› ‹_›)];exact hc w w1 w2
   .have:p<=u:=rU up k i _ _ q gk hu;exact xK S hu hv hb h2 λw w1 w2=>by rw[<- mP (l1:=l1) (p:=p) (by lia) (by lia) (by lia)];exact hc w w1 w2
def uH (n:Int)(cs:ak Int):(e9 n cs)[0]?=some 0:=rfl
def mL {es:ak Int}{ts:ak Tk}{a:Int}{i:Nat}{e:Int}(h:es[i]?=some e):(ja es ts a).getD i 0=jz es ts a e:=by rw[ar,l7 h];rfl
def getD_at {es:ak Int}{i:Nat}{e:Int}(h:es[i]?=some e):es.getD i 0=e:=by rw[ar,h];rfl
def pU (n:Int)(cs:ak Int):(e9 n cs)[cs.length+1]?=some n:=by have:=wg n cs;rwa [fO]at this
end L2
namespace L2
open PySem PySem.Spec PyProof.Rows PySem.SeqAt
end L2
namespace L2
open PySem PySem.Spec PyProof.Rows
def B1 (ts uZ:ak Tk):Prop:=∀ t∈ts,∃ t'∈uZ,t'.2=t.2/\∀ k:Nat,t.1[k]?=some 111->t'.1[k]?=some 111
def B1.refl (ts:ak Tk):B1 ts ts:=λt ht=>⟨t,ht,rfl,λ_ h=>h⟩
structure More (n:Int)(cs:List Int)(ts:List Tk)(pj:List Int)(uZ:List Tk):Prop where
 S:gP n cs ts
 S':gP n pj uZ
 sub:∀ c∈cs,c∈pj
 good:B1 ts uZ
theorem More.refl {n:Int}{cs:ak Int}{ts:ak Tk}(S:gP n cs ts):More n cs ts cs ts:=⟨S,S,λ_ h=>h,.refl ts⟩
def More.ends {n:Int}{cs pj:ak Int}{ts uZ:ak Tk}(h:More n cs ts pj uZ){e:Int}(he:e∈e9 n cs):e∈e9 n pj:=by
 rcases List.mem_cons.mp he with q|q
 .exact List.mem_cons.mpr (.inl q)
 .rcases List.mem_append.mp q with q | q
  .exact mQ _ (List.mem_append.mpr<|.inl<|h.sub e q)
  .exact mQ _ (List.mem_append.mpr<|.inr q)
def More.own {n:Int}{cs pj:ak Int}{ts uZ:ak Tk}(h:More n cs ts pj uZ){a a' e:Int}(ha:a<=a')(he:e∈e9 n cs):jz (e9 n cs) ts a e<=jz (e9 n pj) uZ a' e:=by
 rw[kG (e9 n cs)];rcases kQ ((ts.filter λt=>decide (t.2<=a)).map λt=>je (e9 n cs) t.1 e) e with q|q
 .rw[q];exact oP _ _ _ _
 .refine fj (List.mem_map.mp q) λt ht et=>?_;obtain⟨t1,t2⟩:=List.mem_filter.mp ht;rw[<- et];refine jB (h.good t t1) λt' m' e2 hc=>?_;have ok:=h.S.takes.ok t t1;have ok':=h.S'.takes.ok t' m';have Rk:=iL h.S.n1 h.S.ij he;have fm:=uD (l:=t.1) he;have f2:=(iL h.S.n1 h.S.ij fm).2;have c:=Du (es:=e9 n cs) ok.2.1 Rk.1 (by lia)<|bo _;exact bT (yd ok'.2.1 Rk.1 (Dx _ _ _) (by lia) (h.ends fm) λk k1 k2=>hc k<|c k k1 k2) (ql m'<|e2▸bT (bp t2) ha)
theorem More.rf {n:Int}{cs pj:ak Int}{ts uZ:ak Tk}(h:More n cs ts pj uZ):∀(a:Nat) {e:Int},e∈e9 n cs->RF (e9 n cs) ts a e<=RF (e9 n pj) uZ a e
 |0,e,he=>h.own (bo _) he
 | a+1,e,he=>by have g:=kK h.S a;have g':=kK h.S' a;have i1:=h.rf a he;have i2:=h.rf a<|g.mem e he;have i3:=g'.mono _ (h.ends<|g.mem e he) _ (g'.mem e<|h.ends he) i1;have i4:=h.own (a:=(a:Int)+1) (bo _) he;show max _ _<=max _ _;lia
def Nc {n:Int}{cs:ak Int}{ts:ak Tk}(S:gP n cs ts)(a:Nat){i:Nat}{e:Int}(he:(e9 n cs)[i]?=some e):(iQ (e9 n cs) ts a)[i]?=some (RF (e9 n cs) ts a e):=by rw[Co S,nX,he];rfl
def More.least {n:Int}{cs pj:ak Int}{ts uZ:ak Tk}(h:More n cs ts pj uZ){a:Nat}(hl:hV (e9 n cs) ts n a):RF (e9 n pj) uZ a 0=n:=by have e:=hl.at_;rw[Nc h.S a (uH n cs)]at e;have:=h.rf a<|oY n cs;have:=(iL h.S'.n1 h.S'.ij<|(kK h.S' a).mem 0<|oY n pj).2;lia
def least_le {n:Int}{cs:ak Int}{ts:ak Tk}(S:gP n cs ts){a b:Nat}(h:RF (e9 n cs) ts a 0=n)(hl:hV (e9 n cs) ts n b):b<=a:=by
 by_cases q:b<=a
 .exact q
 .exact absurd (by rw[Nc S a (uH n cs),h]) (hl.low a<|by lia)
def zp {x y:Int}(hx:0<=x)(hy:0<=y)(h:0<x*y):0<x/\0<y:=by
 refine⟨?_,?_⟩
 .rcases Int.lt_or_le 0 x with q | q
  .exact q
  .rw[show x=0 by lia,Int.zero_mul]at h;exact absurd h (by decide)
 .rcases Int.lt_or_le 0 y with q | q
  .exact q
  .rw[show y=0 by lia,Int.mul_zero]at h;exact absurd h (by decide)
def vL {es own:ak Int}{T:Nat->Nat->Int}{i j:Nat}{v:Int}(hT:∀ i j,0<=T i j)(lH:i<j)(hv:v∈nP T i j):0<jN es own T i j/\jN es own T i j<=v:=by
 have pos:∀ w∈nP T i j,2<=w:=λw hw=>by refine sN (jX.mp hw) λk _ _ h3 fV=>?_;subst fV;have:=zp (hT i k) (hT k j) h3;lia
 have m:=oS (ns:=nP T i j) λz=>by rw[z]at hv;cases hv
 have m1:=pos _ m.1;have m2:=m.2 v hv;delta jN;by_cases q:es.getD j 0<=own.getD i 0
 .lia
 .lia
theorem More.tab {n:Int}{cs pj:ak Int}{ts uZ:ak Tk}(h:More n cs ts pj uZ):∀(a a':Nat),a<=a'->∀(i j i' j':Nat) (x y:Int),(e9 n cs)[i]?=some x->(e9 n cs)[j]?=some y->(e9 n pj)[i']?=some x->(e9 n pj)[j']?=some y ->
 0<mq (e9 n cs) ts a i j->0<mq (e9 n pj) uZ a' i' j'/\mq (e9 n pj) uZ a' i' j'<=mq (e9 n cs) ts a i j
 |0,_,_,i,j,i',j',x,y,_,_,_,_,hp=>absurd hp (Int.lt_irrefl _)
 |a+1,0,ha,_,_,_,_,_,_,_,_,_,_,_=>absurd ha (by lia)
 | a+1,a'+1,ha,i,j,i',j',x,y,hi,hj,Ri,CZ,hp=>by
  have up:=gr h.S.n1 h.S.ij;have Ve:=gr h.S'.n1 h.S'.ij;by_cases lH:j<=i
  .exact absurd (show 0<jN _ _ _ i j from hp) (by delta jN;rw[aA lH];decide)
  have xy:=kb up hi hj (by lia);have Ww:i'<j':=by
   by_cases q:i'<j'
   .exact q
   .have:=rU Ve j' i' _ _ (by lia) CZ Ri;lia
  have bd:=wU (e9 n cs) ts a;have bd':=wU (e9 n pj) uZ a';by_cases q:y<=jz (e9 n cs) ts a x
  .have q':=bT q (h.own (a':=(a':Int)) (by lia)<|lC hi);have e':mq (e9 n pj) uZ (a'+1) i' j'=1:=by show jN _ _ _ i' j'=1;delta jN;rw[aC (by lia),aA (by rw[getD_at CZ,mL Ri];exact q')]
   rw[e'];exact⟨by decide,hp⟩
  .have e:mq (e9 n cs) ts (a+1) i j=zw (nP (mq (e9 n cs) ts a) i j):=by show jN _ _ _ i j=_;delta jN;rw[aC lH,aC (by rw[getD_at hj,mL hi];exact q)]
   rw[e]at hp ⊢
   have m:=oS (ns:=nP (mq (e9 n cs) ts a) i j) λz=>by rw[z]at hp;exact absurd hp (by decide)
   refine sN (jX.mp m.1) λk k1 k2 k3 ek=>?_
   rw[ek]
   have kp:=zp (bd i k).1 (bd k j).1 k3
   have hk:=getD_some (ck k2 (kP hj).1)
   have mk:=h.ends (lC hk)
   have zG:=tx mk
   have r1:=h.tab a a' (by lia) i k i' _ _ _ hi hk Ri zG kp.1
   have r2:=h.tab a a' (by lia) k j _ j' _ _ hk hj zG CZ kp.2
   have w1:=kb up hi hk k1
   have w2:=kb up hk hj k2
   have c1:i'<(e9 n pj).idxOf ((e9 n cs).getD k 0):=by
    by_cases q:i'<(e9 n pj).idxOf ((e9 n cs).getD k 0)
    .exact q
    .have:=rU Ve _ i' _ _ (by lia) zG Ri;lia
   have c2:(e9 n pj).idxOf ((e9 n cs).getD k 0)<j':=by
    by_cases q:(e9 n pj).idxOf ((e9 n cs).getD k 0)<j'
    .exact q
    .have:=rU Ve j' _ _ _ (by lia) CZ zG;lia
   have st:=vL (es:=e9 n pj) (own:=ja (e9 n pj) uZ a') (λi j=>(bd' i j).1) Ww (jX.mpr ⟨_,c1,c2,Int.mul_pos r1.1 r2.1,rfl⟩)
   exact⟨st.1,bT st.2<|Int.add_le_add r1.2 r2.2⟩
def En {n:Int}{cs:ak Int}{ts:ak Tk}(S:gP n cs ts):∀(a i j:Nat) (x y:Int),(e9 n cs)[i]?=some x->(e9 n cs)[j]?=some y->i<j->y<=RF (e9 n cs) ts a x->0<mq (e9 n cs) ts (a+1) i j:=by
 have own:∀(a i j:Nat) (x y:Int),(e9 n cs)[i]?=some x->(e9 n cs)[j]?=some y->i<j->y<=jz (e9 n cs) ts a x->0<mq (e9 n cs) ts (a+1) i j:=λa i j x y hi hj lH hy=>by show 0<jN _ _ _ i j;delta jN;rw[aC (by lia),aA (by rw[getD_at hj,mL hi];exact hy)];decide
 intro a;induction a with
 |zero=>exact own 0
 | succ a ih =>
  intro i j x y hi hj lH hy;by_cases q:y<=jz (e9 n cs) ts ((a+1:Nat):Int) x
  .exact own (a+1) i j x y hi hj lH q
  have hy:y<=max (jz (e9 n cs) ts ((a:Int)+1) x) (RF (e9 n cs) ts a<|RF (e9 n cs) ts a x):=hy;have HU:y<=RF (e9 n cs) ts a (RF (e9 n cs) ts a x):=by have:((a+1:Nat):Int)=(a:Int)+1:=rfl;rw[this]at q;lia
  have up:=gr S.n1 S.ij;have mm:=(kK S a).mem x<|lC hi;have ge:=(kK S a).ge x;obtain⟨k,hk,ek⟩:=aN mm;have gk:(e9 n cs)[k]?=some (RF (e9 n cs) ts a x):=by rw[iT hk,ek]
  by_cases q1:y<=RF (e9 n cs) ts a x
  .exact((More.refl S).tab (a+1) (a+2) (by lia) i j i j x y hi hj hi hj<|ih i j x y hi hj lH q1).1
  have kj:k<j:=by
   by_cases z:k<j
   .exact z
   .exact absurd (rU up j k _ _ (by lia) hj gk) q1
  have ik:=tN up hi gk ge;by_cases z:i=k
  .subst z;rw[hi]at gk;have gk:=aU gk;rw[<- gk]at HU;exact absurd HU q1
  have p1:=ih i k x _ hi gk (by lia)<|bo _;have p2:=ih k j _ y gk hj kj HU;exact(vL (es:=e9 n cs) (λi j=>(wU (e9 n cs) ts (a+1) i j).1) lH<|jX.mpr ⟨k,by lia,kj,Int.mul_pos p1 p2,rfl⟩).1
def qU {n:Int}{cs:ak Int}{ts:ak Tk}(S:gP n cs ts){a:Nat}(hl:hV (e9 n cs) ts n a):0<mq (e9 n cs) ts (a+1) 0 (cs.length+1):=by refine En S a 0 (cs.length+1) 0 n (uH n cs) (pU n cs) (Nat.succ_pos _) ?_;rw[(More.refl S).least hl];exact bo _
def yU {n:Int}{cs:ak Int}{ts:ak Tk}(S:gP n cs ts)(a:Nat):Ec (e9 n cs).length (mq (e9 n cs) ts a) (fG (e9 n cs) ts a):=yT (λa i j hi h=>Hj (gr S.n1 S.ij) i j hi h) a
def xT (C:ai)(μ:MS)(k:Nat):ao (ak Str×ak D):=match μ[k]? with|some (.ins C' ns ds)=>if C'=C then some (ns,ds)else none|_=>none
def xS (h:xT C μ k=some q):μ[k]?=some (.ins C q.1 q.2):=by
 delta xT at h;split at h
 .rename_i C' ns ds e;by_cases z:C'=C
  .rw[aA z]at h;cases h;rw[e,z]
  .rw[aC z]at h;cases h
 .cases h
def nq (h:μ[k]?=some (.ins C ns ds)):xT C μ k=some (ns,ds):=by delta xT;rw[h];exact aA rfl
def jR (f:Str):ak Str->ak D->ao D
 |n::ns,d::ds=>if n=f then some d else jR f ns ds
 |_,_=>none
def putN (f:Str)(d:D):ak Str->ak D->ak Str×ak D
 |n::ns,e::ds=>if n=f then(n::ns,d::ds)else(n::(putN f d ns ds).1,e::(putN f d ns ds).2)
 |_,_=>([f],[d])
theorem uh:∀ {fs:ak (Str×V)} {ds:ak D},fB φ H ds (fs.map (·.2))->jR f (fs.map (·.1)) ds=some d->∃ v,fs.lookup f=some v/\iP φ H d v
 |[],ds,h,e=>by cases ds<;>cases e
 | (n,x)::fs,ds,h,e=>by
  cases ds with
  |nil=>cases e
  | cons d0 ds =>
   let ⟨v,r,e1,h1,h2⟩:=h;obtain⟨rfl,rfl⟩:=e1;simp only[az,jR]at e;rw[dD];by_cases q:n=f
   .rw[aA q]at e;cases e;subst q;exact⟨x,by simp,h1⟩
   .rw[aC q]at e;have:(f==n)=false:=beq_eq_false_iff_ne.mpr λz=>q z.symm;simp only[this];exact uh h2 e
theorem ug:∀ {fs:ak (Str×V)} {ds:ak D},fB φ H ds (fs.map (·.2))->jR f (fs.map (·.1)) ds=none->fs.lookup f=none
 |[],ds,h,e=>rfl
 | (n,x)::fs,ds,h,e=>by
  cases ds with
  |nil=>cases h
  | cons d0 ds =>
   let ⟨v,r,e1,h1,h2⟩:=h;obtain⟨rfl,rfl⟩:=e1;simp only[az,jR]at e;rw[dD];by_cases q:n=f
   .rw[aA q]at e;cases e
   .rw[aC q]at e;have:(f==n)=false:=beq_eq_false_iff_ne.mpr λz=>q z.symm;simp only[this];exact ug h2 e
theorem Ct (hd:iP φ H d v):∀ {fs:ak (Str×V)} {ds:ak D},fB φ H ds (fs.map (·.2))->(ng f v fs).map (·.1)=(putN f d (fs.map (·.1)) ds).1/\fB φ H (putN f d (fs.map (·.1)) ds).2 ((ng f v fs).map (·.2))
 |[],ds,h=>by cases ds<;>exact⟨rfl,v,[],rfl,hd,rfl⟩
 | (n,x)::fs,ds,h=>by
  cases ds with
  |nil=>cases h
  | cons d0 ds =>
   let ⟨v',r,e1,h1,h2⟩:=h;obtain⟨rfl,rfl⟩:=e1;simp only[ng,az,putN];by_cases q:n=f
   .rw[aA q,aA q];exact⟨rfl,_,_,rfl,hd,h2⟩
   .rw[aC q,aC q];obtain⟨i1,i2⟩:=Ct hd h2;exact⟨by simp only[az,i1],_,_,rfl,h1,i2⟩
section
variable {X:Cx}{a b e o:Expr}{es:ak Expr}{pos:Pos}{C:ai}
def TQ (C:ai)(f:Str)(w:De):De:=λρ μ K=>w ρ μ λx fM=>match x with
 |.mr k=>∃ d,(xT C fM k).bind (λq=>jR f q.1 q.2)=some d/\K d fM
 |.obj C' ns ds=>C'=C/\∃ d,jR f ns ds=some d/\K d fM
 |_=>False
def mS (c:Eg X.K C)(n:oI X.K C f)(h:PD X e w)(hb:attributeBase e f X.env (eval e X.env)=eval e X.env:=by rfl):PD X (.Attribute e f pos) (TQ C f w):=(OS h hb).imp λσ H Q hq=>by
 refine gG hq λφ ρ μ K A M k L=>?_;refine⟨φ,ρ,μ,_,A,M,k,λd1 fM gy v1 H1 k1 f1 M1 i1=>?_⟩;cases d1 with
 | mr j =>refine fj k1 λd e1 k1=>?_;refine fj (Option.bind_eq_some_iff.mp e1) λq e2 e3=>?_;obtain⟨p,hp,rfl⟩:=i1;obtain⟨p',e4,dx,fs,h1,h2,h3⟩:=M1.at_ j _<|xS e2;rw[hp]at e4;cases e4;rw[<- h2]at e3;refine fj (uh h3 e3) λv l iv=>?_;exact⟨p,C,dx,fs,v,rfl,h1,c,n,l,L _ fM gy v H1 k1 f1 M1 iv⟩
 | obj C' ns ds =>obtain⟨rfl,d,e3,k1⟩:=k1;refine x6 i1 λp dx fs vs fV _ h1 h2 o7 h3=>?_;subst fV;subst o7;rw[<- h2]at e3;refine fj (uh h3 e3) λv l iv=>?_;exact⟨p,_,dx,fs,v,rfl,h1,c,n,l,L _ fM gy v H1 k1 f1 M1 iv⟩
 |_=>exact k1.elim
def Tv (C:ai)(f:Str)(w wo:De):Ds:=λN ρ μ=>w ρ μ λd fM=>wo ρ fM λx iA=>match x with
 |.mr k=>∃ q q':ak Str×ak D,xT C iA k=some q/\putN f d q.1 q.2=q'/\q.1.length<1000/\N.nx ρ (iA.set k<|.ins C q'.1 q'.2)
 |_=>False
def yV (c:Eg X.K C)(n:oI X.K C f)(he:PD X e w)(ho:PD X o wo)(hs:swapsWith e (some<|.Attribute o f pos') pos.line X.env=pure false:=by rfl):yu X (.Assign [.Attribute o f pos'] e pos) (Tv C f w wo) :=
 (OL ho he hs).imp λE σ H hq=>by
 refine gG hq λφ ρ μ N A M k L=>?_;refine⟨φ,ρ,μ,_,A,M,k,λd fM gy v1 H1 k1 f1 M1 i1=>⟨gy,ρ,fM,_,A.mono f1,M1,k1,λd2 iA kL v2 H2 k2 f2 M2 i2=>?_⟩⟩;cases d2 with
 | mr j =>refine lP k2 λq _ e2 fV hl k2=>?_;subst fV;obtain⟨p,hp,rfl⟩:=i2;obtain⟨p',e4,dx,fs,h1,h2,h3⟩:=M2.at_ j _<|xS e2;rw[hp]at e4;cases e4;have f4:Fr kL H2 kL (upd H2 p<|.ins C dx<|ng f v1 fs):=.put<|lC hp;obtain⟨g1,g2⟩:=Ct ((i1.mono f2).mono f4)<|h3.mono f4;rw[h2]at g1 g2;exact⟨p,C,dx,fs,rfl,h1,c,n,by rw[<- h2,gQ]at hl;exact hl,L.nx ρ _ kL σ _ k2 ((f1.trans f2).trans f4) (A.mono<|(f1.trans f2).trans f4)<|M2.put hp ⟨dx,_,fF,g1,g2⟩⟩
 |_=>exact k2.elim
structure uX (P:ae)(w:af)(K:aa)(mg:Str->Option aj)(fg:Heap)(C:ai)(m:Str)(k:Nat)(ps:List Str)(sp:Sp):Prop where
 ex:∃ f fd,gA P w K mg fg j4 k f fd ps sp/\Meth K C m f/\Binds K fd ps []
def Nd (C:ai)(m:Str)(μ:MS):D->Prop
 |.mr k=>(xT C μ k).map (λq=>jR m q.1 q.2)=some none
 |.obj C' ns es=>C'=C/\jR m ns es=none
 |_=>False
def GL (M:fU φ H μ)(i:iP φ H d v)(h:Nd C m μ d):∃ p dx fs,v=.ref p/\H p=some (.ins C dx fs)/\fs.lookup m=none:=by
 cases d with
 | mr j =>refine fj (Option.map_eq_some_iff.mp h) λq e2 e3=>?_;refine fj i λp hp fV=>?_;subst fV;obtain⟨p',e4,dx,fs,h1,h2,h3⟩:=M.at_ j _<|xS e2;rw[hp]at e4;cases e4;rw[<- h2]at e3;exact⟨p,dx,fs,rfl,h1,ug h3 e3⟩
 | obj C' ns es =>refine lQ h λfV e3=>?_;subst fV;refine x6 i λp dx fs vs0 fV _ h1 h2 o7 h3=>?_;subst fV;subst o7;rw[<- h2]at e3;exact⟨p,dx,fs,rfl,h1,ug h3 e3⟩
 |_=>exact h.elim
def NR (C:ai)(m:Str)(f:lp)(wo:De)(w:DA):De:=λρ μ K=>wo ρ μ λx fM=>Nd C m fM x/\w ρ fM λds iA=>f (x::ds) iA K
def Kv (h:tD (NR C m f wo w) σ H Q):MV C m (iD f) [] E0 (tD wo) (RH w) σ H Q:=by refine gG h λφ ρ μ K A M k L=>?_;refine⟨φ,ρ,μ,_,A,M,k,λd1 fM gy v1 H1 k1 f1 M1 i1=>?_⟩;refine IT (GL M1 i1 k1.1) λp dx fs fV h1 h2=>?_;subst fV;refine⟨p,dx,fs,rfl,h1,h2,gy,ρ,fM,_,A.mono f1,M1,k1.2,λds iA kL vs H2 k2 f2 M2 i2=>?_⟩;show iD f (.ref p::(vs++[])) H2 Q E0;rw[a8];exact⟨kL,d1::ds,iA,K,⟨_,vs,rfl,iP.mono f2 i1,i2⟩,M2,k2,L.mono<|f1.trans f2⟩
def ji (CM:uX X.prog X.w X.K X.mg X.fg C m k ps (iD f))(c:Eg X.K C)(hr:iw k X.A)(ho:PD X o wo)(ha:uW X (e::es) w)
 (E8:starEach (e::es) X.env=(false,eval e X.env)::starEach es X.env:=by rfl) (oz:(backTo pos<|starEach es X.env).any (·.1)=false:=by rfl)
 (ht:eval (.Call (.Attribute o m mW) (e::es) [] pos) X.env=(do
   let ov <- eval o X.env
   standAt mW.atName
   let (f,first) <- holding [ov] (getMethod ov m pl)
   callWith pos f first (backTo pos<|starEach (e::es) X.env) (backToKw pos<|keywordEach [] X.env)):=by rfl):
 PD X (.Call (.Attribute o m mW) (e::es) [] pos) (NR C m f wo w):=by
 refine fZ CM.ex λf' fd F hm hb=>?_;exact(Ld ho c hm F hr hb .nil Hg ha E8 oz ht).imp λσ H Q hq=>Kv hq
structure QX (P:ae)(w:af)(K:aa)(mg:Str->Option aj)(fg:Heap)(x:Str)(C:ai)(k:Nat)(ps:List Str)(sp:Sp):Prop where
 ex:∃ f fd,gA P w K mg fg j4 k f fd ps sp/\Mk K C f/\mg x=some (.ref C)/\Binds K fd ps []
def NS (C:ai)(f:lp)(w:DA):De:=λρ μ K=>w ρ μ λds fM=>f (.mr fM.length::ds) (fM++[.ins C [] []]) λd iA=>d=.gz/\K (.mr fM.length) iA
def Kw (h:tD (NS C f w) σ H Q):MW C (iD f) [] E0 (RH w) σ H Q:=by
 refine gG h λφ ρ μ K A M k L=>?_;refine⟨φ,ρ,μ,_,A,M,k,λds fM gy vs H1 k1 f1 M1 i1 x dx hx hdx ne=>?_⟩;have S1:gW H1 (upd H1 dx<|.own x):=gW.upd hdx;have E7:upd H1 dx (.own x) x=none:=by rwa [fS (bJ ne)]
 have fa:Fr gy H1 gy (upd H1 dx<|.own x):=.same S1;obtain⟨M2,f2⟩:=(M1.same S1).snoc (m:=.ins C [] []) E7 ⟨dx,[],fF,rfl,rfl⟩;have f3:=fa.trans f2;have FH:iP (gy++[x]) (upd (upd H1 dx<|.own x) x<|.ins C dx []) (.mr fM.length) (.ref x):=⟨x,by rw[p8 (M1.len▸aq _),M1.len,a6];rfl,rfl⟩;rw[a8];refine⟨gy++[x],.mr fM.length::ds,fM++[.ins C [] []],_,⟨_,vs,rfl,FH,i1.mono f3⟩,M2,k1,λd rS Ei v H3 k3 f4 M3 i3=>?_⟩;obtain⟨rfl,k3⟩:=k3;exact⟨i3,L _ rS Ei _ H3 k3 ((f1.trans f3).trans f4) M3<|FH.mono f4⟩
def Jj {x:Str}{f:lp}{w:DA}{p:Pos}{k:Nat}{ps:ak Str}(CI:QX X.prog X.w X.K X.mg X.fg x C k ps (iD f))(hr:iw (k+1) X.A)(hg:Gl X x)(ha:uW X (e::es) w)
 (vm:(x==("__debug__" : Str))=false:=by decide) (he:starEach (e::es) X.env=(false,eval e X.env)::starEach es X.env:=by rfl) (oz:(backTo pos<|starEach es X.env).any (·.1)=false:=by rfl):
 PD X (.Call (.Name x p) (e::es) [] pos) (NS C f w):=by
 refine lP CI.ex λf' fd F M hm hb=>?_;exact(Le M F hr hg hm hb .nil Hg ha vm he oz).imp λσ H Q hq=>Kw hq
def ic {P:ae}{w:af}{K:aa}{mg:Str->ao aj}{fg h:Heap}{x q:Str}{st:Stmt}{f:ai}{fd:ag}{k:Nat}{ps:ak Str}{sp:Sp}(G:K.In h)(N:h.Ns mainGlobals mg)(F:j7 K x q st f fd)(ok:gA P w K mg fg j4 k f fd ps sp)(hb:Binds K fd ps [])
 (a:W.nsIn K mainGlobals x=some (some<|.ref f):=by kernel_rfl):pv P w K mg fg x k ps sp:=⟨f,fd,ok,W.mg_of G N a,F.kp,hb⟩
def qA {P:ae}{w:af}{K:aa}{mg:Str->ao aj}{fg:Heap}{C:ai}{x q:Str}{st:Stmt}{f:ai}{fd:ag}{k:Nat}{ps:ak Str}{sp:Sp}(F:j7 K x q st f fd)(ok:gA P w K mg fg j4 k f fd ps sp)(hb:Binds K fd ps [])
 (a:W.findIn K (.ref C) x=some (some<|.ref f):=by kernel_rfl) (i:W.isFn K (.ref f)=true:=by kernel_rfl):uX P w K mg fg C x k ps sp:=⟨f,fd,ok,⟨a,i,F.kp⟩,hb⟩
def Mp {P:ae}{w:af}{K:aa}{mg:Str->ao aj}{fg h:Heap}{C:ai}{y q:Str}{st:Stmt}{f:ai}{fd:ag}{k:Nat}{ps:ak Str}{sp:Sp}(G:K.In h)(N:h.Ns mainGlobals mg)(F:j7 K "__init__" q st f fd)(ok:gA P w K mg fg j4 k f fd ps sp)(hb:Binds K fd ps [])
 (n:W.nsIn K mainGlobals y=some (some<|.ref C):=by kernel_rfl) (a:W.findIn K (.ref C) "__init__"=some (some<|.ref f):=by kernel_rfl) (i:W.isFn K (.ref f)=true:=by kernel_rfl) (m:W.makesIn K C=true:=by kernel_rfl) (p:W.keepIn K (.ref C)=true:=by kernel_rfl):QX P w K mg fg y C k ps sp:=⟨f,fd,ok,⟨m,a,i,p⟩,W.mg_of G N n,hb⟩
def HJ:ak D->ao (ak Key)
 |[]=>some []
 |d::ds=>(HK d).bind λk=>(HJ ds).map (k::·)
def Py:D->ao (ak Key)
 |.tup ds=>HJ ds
 |_=>none
theorem zC:∀ {ds:ak D} {vs:ak V} {ks:ak Key},HJ ds=some ks->fB φ H ds vs->vs=ks.map kV
 |[],_,ks,e,h=>by cases e;exact h
 | d::ds,_,ks,e,h=>by obtain⟨v,r,rfl,h1,h2⟩:=h;refine fj (Option.bind_eq_some_iff.mp e) λk e1 e2=>?_;obtain⟨mB,e3,rfl⟩:=Option.map_eq_some_iff.mp e2;rw[tu e1 h1,zC e3 h2];rfl
def CS (e:Py d=some ks)(h:iP φ H d v):∃ p,v=.ref p/\H p=some (.tup<|ks.map kV):=by
 cases d with
 |tup ds=>obtain⟨p,vs,rfl,_,hp,ha⟩:=h;exact⟨p,rfl,by rw[hp,zC e ha]⟩
 |_=>cases e
def IW (μ:MS)(j:Nat):ao (ak (ak Key)×ak D):=match μ[j]? with|some (.lD ks ds)=>some (ks,ds)|_=>none
def L7 (h:IW μ j=some q):μ[j]?=some (.lD q.1 q.2):=by
 delta IW at h;split at h
 .rename_i e;cases h;exact e
 .cases h
def qa (ks:ak (ak Key))(ds:ak D)(k:ak Key):ao D:=match ks,ds with
 |k'::ks,d::ds=>if k'=k then some d else qa ks ds k
 |_,_=>none
def wO (ks:ak (ak Key))(ds:ak D)(k:ak Key)(d:D):ak (ak Key)×ak D:=if(ks.any λx=>decide (x=k))=true then(ks,(ks.zip ds).map λp=>if p.1=k then d else p.2)else(ks++[k],ds++[d])
theorem yO (k:ak Key):∀ {fw:ak (ak Key×V)} {ds:ak D},fB φ H ds (fw.map (·.2))->(qa (fw.map (·.1)) ds k=none/\nU fw k=none)\/∃ d v,qa (fw.map (·.1)) ds k=some d/\nU fw k=some v/\iP φ H d v
 |[],ds,h=>.inl ⟨by cases ds<;>rfl,rfl⟩
 | p::fw,ds,h=>by
  cases ds with
  |nil=>cases h
  | cons d0 ds =>
   let ⟨v,r,e,h4,h5⟩:=h;obtain⟨rfl,rfl⟩:=e;simp only[az,qa];by_cases hk:p.1=k
   .rw[aA hk];exact .inr ⟨_,_,rfl,n6 hk,h4⟩
   .rw[aC hk,n8 hk];exact yO k h5
def Gh (hd:iP φ H d v)(ha:fB φ H ds (fw.map (·.2))):
 (putK fw k v).map (·.1)=(wO (fw.map (·.1)) ds k d).1/\fB φ H (wO (fw.map (·.1)) ds k d).2 ((putK fw k v).map (·.2)):=by
 have ea:(fw.any λp=>decide (p.1=k))=(fw.map (·.1)).any λx=>decide (x=k):=by rw[List.any_map];rfl
 delta putK wO;rw[ea];by_cases q:((fw.map (·.1)).any λx=>decide (x=k))=true
 .rw[aA q,aA q];clear q ea;induction fw generalizing ds with
  |nil=>cases(show ds=[] by cases ds with|nil=>rfl|cons _ _=>let ⟨_,_,e,_⟩:=ha;cases e);exact⟨rfl,rfl⟩
  | cons p fw ih =>
   cases ds with
   |nil=>cases ha
   | cons d0 ds =>
    let ⟨v0,r,e2,h4,h5⟩:=ha;obtain⟨rfl,rfl⟩:=e2;refine lQ (ih h5) λi1 i2=>?_;simp only[az,cO]at i1 ⊢
    by_cases hk:p.1=k
    .rw[aA hk,aA hk];exact⟨by rw[i1],_,_,rfl,hd,i2⟩
    .rw[aC hk,aC hk];exact⟨by rw[i1],_,_,rfl,h4,i2⟩
 .rw[aC q,aC q,bI,bI];exact⟨rfl,ha.app ⟨v,[],rfl,hd,rfl⟩⟩
def TB:De:=λ_ μ K=>K (.mr μ.length) (μ++[.lD [] []])
def Mb:PD X (.Dict [] [] pos) TB:=Hc.imp λσ H Q hq p hp=>by refine gG hq λφ ρ μ K A M k L=>?_;obtain⟨M',f'⟩:=M.snoc (m:=.lD [] []) hp ⟨[],fF,rfl,rfl⟩;exact L _ _ _ _ _ k f' M' ⟨p,by rw[p8 (M.len▸aq _),M.len,a6];rfl,rfl⟩
def Q9 (μ:MS)(j:Nat)(y:D):ao (ao D):=(IW μ j).bind λq=>(Py y).map λk=>qa q.1 q.2 k
def HM {o:ao D}(M:fU φ H μ)(ix:iP φ H (.mr j) vx)(iy:iP φ H y vy)(h:Q9 μ j y=some o):
 ∃ p fw k b,vx=.ref p/\H p=some (.dT fw)/\vy=.ref b/\H b=some (.tup<|k.map kV)/\((o=none/\nU fw k=none)\/∃ d v,o=some d/\nU fw k=some v/\iP φ H d v):=by
 refine fj (Option.bind_eq_some_iff.mp h) λq e1 e2=>?_;refine fj (Option.map_eq_some_iff.mp e2) λk e3 fV=>?_;subst fV;refine fj ix λp hp fV=>?_;subst fV;obtain⟨p',e4,fw,h1,h2,h3⟩:=M.at_ j _<|L7 e1;rw[hp]at e4;cases e4;obtain⟨b,rfl,hb⟩:=CS e3 iy;refine⟨p,fw,k,b,rfl,h1,rfl,hb,?_⟩;rw[<- h2];exact yO k h3
def TH:Ar:=λx y μ K=>match x with
 |.mr j=>∃ d,Q9 μ j y=some (some d)/\K d μ
 |_=>False
def Tu (hu:X.A.units+1<cLine)(ha:PD X a wa)(hb:PD X b wb)(hs:MC b):PD X (.Subscript a b pos) (vp TH wa wb):=(CA hu ha hb hs).imp λσ H Q hq=>by
 refine gG hq λφ ρ μ K A M k L=>?_;refine⟨φ,ρ,μ,_,A,M,k,λd1 fM gy v1 H1 k1 f1 M1 i1=>⟨gy,ρ,fM,_,A.mono f1,M1,k1,λd2 iA kL v2 H2 k2 f2 M2 i2=>?_⟩⟩;cases d1 with
 | mr j =>
  refine fj k2 λd ex k2=>?_;refine To (HM M2 (i1.mono f2) i2 ex) λp fw k b fV h1 o7 hb z=>?_;subst fV;subst o7;rcases z with⟨z,_⟩|⟨d',v,z,ev,iv⟩
  .cases z
  .cases z;exact⟨p,v,rfl,ev▸yx.t h1 hb,L _ iA kL _ H2 k2 (f1.trans f2) M2 iv⟩
 |_=>exact k2.elim
def DY:Ar:=λx y μ K=>match y with
 |.mr j=>∃ o,Q9 μ j x=some o/\K (.bl<|!o.isSome) μ
 |_=>False
def Er (h:tD (vp DY wa wb) σ H Q):Cf (tD wa) (tD wb) σ H Q:=by
 refine gG h λφ ρ μ K A M k L=>?_;refine⟨φ,ρ,μ,_,A,M,k,λd1 fM gy v1 H1 k1 f1 M1 i1=>⟨gy,ρ,fM,_,A.mono f1,M1,k1,λd2 iA kL v2 H2 k2 f2 M2 i2=>?_⟩⟩;cases d2 with
 | mr j =>
  refine fj k2 λoo ex k2=>?_;refine To (HM M2 i2 (i1.mono f2) ex) λp fw k b fV h1 o7 hb z=>?_;subst fV;subst o7;refine⟨p,nU fw k,rfl,yx.t h1 hb,?_⟩;have es:(nU fw k).isSome=oo.isSome:=by
   rcases z with⟨g1,g2⟩|⟨d,v,g1,g2,_⟩
   .rw[g1,g2];rfl
   .rw[g1,g2];rfl
  rw[es];exact L _ iA kL _ H2 k2 (f1.trans f2) M2 rfl
 |_=>exact k2.elim
def Gq (hu:X.A.units+1<cLine)(ha:PD X a wa)(hb:PD X b wb)(hmk:behindInMarks .NotIn b=false):Fy X (.Compare a [.NotIn] [b] pos) (oC<|vp DY wa wb):=(A0 (EE hu ha hb) hmk).imp λσ H Q hq=>by
 refine gG hq λφ ρ μ K E M k L=>?_;refine Er ⟨φ,ρ,μ,_,E,M,k,λd fI gg v H' k' f M' i=>?_⟩;cases d with
 |bl b=>subst i;exact⟨b,rfl,L b fI gg H' k' f M'⟩
 |_=>exact k'.elim
def TY (w wo wi:De):Ds:=λN ρ μ=>w ρ μ λd fM=>wo ρ fM λo iA=>wi ρ iA λi rS=>match o with
 |.mr j=>∃ ks ds k,rS[j]?=some (.lD ks ds)/\ks.length<sizeLine/\Py i=some k/\N.nx ρ (rS.set j<|.lD (wO ks ds k d).1 (wO ks ds k d).2)
 |_=>False
def OA (hu:X.A.units+1<cLine)(he:PD X e w)(ho:PD X o wo)(hi:PD X i wi)(hs:swapsWith e (some<|.Subscript o i pos') pos.line X.env=pure false:=by rfl):
 yu X (.Assign [.Subscript o i pos'] e pos) (TY w wo wi):=(Cv hu ho hi he hs).imp λE σ H hq=>by
 refine gG hq λφ ρ μ N A M w L=>?_;refine⟨φ,ρ,μ,_,A,M,w,λd fM gy v1 H1 k1 f1 M1 i1=>⟨gy,ρ,fM,_,A.mono f1,M1,k1,λd2 iA kL v2 H2 k2 f2 M2 i2=>⟨kL,ρ,iA,_,A.mono<|f1.trans f2,M2,k2,λd3 rS Ei v3 H3 k3 f3 M3 i3=>?_⟩⟩⟩;cases d2 with
 | mr j =>refine IS k3 λks ds k em hl ek k3=>?_;refine fj (i2.mono f3) λp hp fV=>?_;subst fV;obtain⟨p',e1,fw,hv,h1,ha⟩:=M3.at_ j _ em;rw[hp]at e1;cases e1;obtain⟨b,rfl,hb⟩:=CS ek i3;have f4:Fr Ei H3 Ei (upd H3 p<|.dT<|putK fw k v1):=.put<|lC hp;obtain⟨g1,g2⟩:=Gh ((i1.mono<|f2.trans f3).mono f4)<|ha.mono f4;rw[h1]at g1 g2;exact⟨p,_,rfl,Aq.t hv hb (by have:=cq List.length h1;rw[gQ]at this;lia),L.nx ρ _ Ei σ _ k3 ((f1.trans<|f2.trans f3).trans f4) (A.mono<|(f1.trans<|f2.trans f3).trans f4)<|M3.put hp ⟨putK fw k v1,fF,g1,g2⟩⟩
 |_=>exact k3.elim
end
def o9 (es:ak Int)(ts:ak Tk)(a:Int)(i j:Nat):ak Nat:=(List.range ts.length).filter λx=>match ts[x]? with
 |some t=>decide (t.2<=a)&&decide (es.getD j 0<=je es t.1 (es.getD i 0))
 |none=>false
def kN (T U:Nat->Nat->Int)(i j:Nat):ak Nat:=((List.range<|j - (i+1)).map (i+1+·)).filter λk=>decide (U i k+U k j+1=T i j)
def gM (es:ak Int)(ts:ak Tk):Nat->Nat->Nat->Int
 |0,_,_=>0
 |a+1,i,j=>if fG es ts (a+1) i j=0 then((o9 es ts a i j).length:Nat)else((kN (fG es ts<|a+1) (fG es ts a) i j).map λk=>gM es ts a i k*gM es ts a k j).sum
def hG {T U:Nat->Nat->Int}{i j k:Nat}:k∈kN T U i j↔i<k/\k<j/\U i k+U k j+1=T i j:=by
 delta kN;rw[List.mem_filter,eF,bA];constructor
 .rintro⟨⟨x,hx,rfl⟩,h⟩;rw[bU]at hx;exact⟨(aQ _ _),by lia,h⟩
 .rintro⟨h1,h2,h3⟩;exact⟨⟨k - (i+1),List.mem_range.mpr<|by lia,by lia⟩,h3⟩
def tm (T U:Nat->Nat->Int)(i j:Nat):(kN T U i j).length<=j - (i+1):=by delta kN;refine aK (bX _ _) ?_;rw[gQ,ur];exact aq _
def sZ (es:ak Int)(ts:ak Tk)(a:Int)(i j:Nat):(o9 es ts a i j).length<=ts.length:=by delta o9;refine aK (bX _ _) ?_;rw[ur];exact aq _
theorem wX {f:Nat->Int}{B:Int}(hB:0<=B):∀ {l:ak Nat},(∀ x∈l,0<=f x/\f x<=B)->0<=(l.map f).sum/\(l.map f).sum<=(l.length:Int)*B
 |[],_=>by simp
 | x::l,h=>by have h1:=h x (by simp);have h2:=wX hB (l:=l) λy hy=>h y (by simp[hy]);rw[az,cc,aE];refine⟨by lia,?_⟩;lia
theorem jV {es:ak Int}{ts:ak Tk}(hL:es.length<=100)(ht:ts.length<=100):∀(a i j:Nat),i<j->j<es.length->0<=gM es ts a i j/\gM es ts a i j<=128 ^ (2*(j - i) - 1)
 |0,i,j,_,_=>⟨by show(0:Int)<=0;lia,by show(0:Int)<=_;exact cv<|Int.pow_pos<|by lia⟩
 | a+1,i,j,lH,hj=>by
  have hp:∀ n:Nat,(0:Int)<128 ^ n:=λn=>Int.pow_pos (by lia);have e1:(128:Int) ^ (2*(j - i) - 1)=128 ^ (2*(j - i) - 2)*128:=by rw[<- Int.pow_succ,show(2*(j - i) - 2).succ=2*(j - i) - 1 by lia]
  have hq:=hp<|2*(j - i) - 2;rw[e1];generalize hB:(128:Int) ^ (2*(j - i) - 2)=B at hq ⊢
  show 0<=(if fG es ts (a+1) i j=0 then(((o9 es ts a i j).length:Nat):Int)else _)/\(if fG es ts (a+1) i j=0 then(((o9 es ts a i j).length:Nat):Int)else _)<=_;split
  .have:=sZ es ts a i j;refine⟨by lia,?_⟩;lia
  .have hm:=tm (fG es ts<|a+1) (fG es ts a) i j;have key:∀ k∈kN (fG es ts<|a+1) (fG es ts a) i j,0<=gM es ts a i k*gM es ts a k j/\gM es ts a i k*gM es ts a k j<=B:=λk hk=>by refine jr (hG.mp hk) λh1 h2 _=>?_;have b1:=jV hL ht a i k h1 (by lia);have b2:=jV hL ht a k j h2 hj;refine⟨c9 b1.1 b2.1,?_⟩;have:=Int.mul_le_mul b1.2 b2.2 b2.1<|cv<|hp _;rw[<- Int.pow_add]at this;rw[<- hB,show 2*(j - i) - 2=2*(k - i) - 1+(2*(j - k) - 1) by lia];exact this
   obtain⟨s1,s2⟩:=wX (cv hq) key;refine⟨s1,bT s2 ?_⟩;rw[Int.mul_comm B];exact Int.mul_le_mul_of_nonneg_right (by lia) (cv hq)
def D6 {x:Int}{d:Nat}(h0:0<=x)(h:x<=128 ^ d)(hd:d<=2000):Builtin.Int.intBits x<=2 ^ 20:=by
 refine intBits_le_iff.mpr ?_;have e:(128:Int) ^ d=((2 ^ (7*d):Nat):Int):=by rw[Nat.pow_mul];norm_cast
 have h1:x.natAbs<=2 ^ (7*d):=by lia
 refine bS h1<|Nat.pow_lt_pow_right (aq _) ?_;lia
def BN {es:ak Int}{ts:ak Tk}(hL:es.length<=100)(ht:ts.length<=100)(a i k j:Nat)(h1:i<k)(h2:k<j)(hj:j<es.length):IntMulOk (gM es ts a i k) (gM es ts a k j):=by have b1:=jV hL ht a i k h1<|ck ‹_› ‹_›;have b2:=jV hL ht a k j h2 hj;exact .of_bits (D6 b1.1 b1.2<|by lia) (D6 b2.1 b2.2<|by lia)
section
variable {X:Cx}
def Pd:jM X (binaryOp .Mult) (rI IntMulOk λi j=>.int<|i*j):=Q5 λ_ _ _ _ _ _ _ hc q=>mul_int q hc
end
def NQ:Ar:=λx y μ K=>match x,y with
 |.int i,.int j=>IntMulOk i j/\K (.int<|i*j) μ
 |_,_=>False
def xb:pq (rI IntMulOk λi j=>.int<|i*j) NQ:=λφ H x y dx dy μ K Q M hx hy k L=>by
 delta NQ at k;split at k
 .cases(show x=_ from hx);cases(show y=_ from hy);exact⟨_,_,rfl,rfl,k.1,L.val M k.2 rfl⟩
 .exact k.elim
def sH (a:Int)(i j:Nat):D:=.tup [.int a,.int i,.int j]
def stK (a i j:Nat):ak Key:=[.inl (a:Int),.inl (i:Int),.inl (j:Int)]
def Ci {a i j b k l:Nat}(h:stK a i j=stK b k l):a=b/\i=k/\j=l:=by delta stK at h;lia
def yF:ak Str:=["places","rows","tables","whole","counts"]
def Az (es:ak Int)(ts:ak Tk)(A j:Nat):ak D:=[.lst (es.map D.int),.lst (ts.map<|k8 es),.jf (l9<|A+1) (nH es ts<|A+1),sH A 0 (es.length - 1),.mr j]
inductive Memo (es:List Int)(ts:List Tk)(A:Nat):List (List Key)->List D->Prop
 |nil:Memo es ts A [] []
 |add {ks:List (List Key)} {ds:List D} (h:Memo es ts A ks ds) {a i j:Nat} (ha:a<=A) (hi:i<es.length) (hj:j<es.length) (hn:stK a i j∉ks):Memo es ts A (ks++[stK a i j]) (ds++[.int (gM es ts (a+1) i j)])
def Memo.len {es:ak Int}{ts:ak Tk}{A:Nat}{ks:ak (ak Key)}{ds:ak D}(h:Memo es ts A ks ds):ds.length=ks.length:=by
 induction h with
 |nil=>rfl
 |add h ha hi hj hn ih=>simp[ih]
def Gf {ks mB:ak (ak Key)}{ds lW:ak D}(k:ak Key)(hl:ds.length=ks.length):qa (ks++mB) (ds++lW) k=match qa ks ds k with | some d=>some d | none=>qa mB lW k:=by
 induction ks generalizing ds with
 | nil=>cases ds with
  |nil=>rfl
  |cons _ _=>cases hl
 | cons k0 ks ih =>
  cases ds with
  |nil=>cases hl
  | cons d ds =>
   simp only[List.cons_append,qa];by_cases h:k0=k
   .rw[aA h,aA h]
   .rw[aC h,aC h];exact ih (by simpa using hl)
def Memo.get {es:ak Int}{ts:ak Tk}{A:Nat}{ks:ak (ak Key)}{ds:ak D}(h:Memo es ts A ks ds)(a i j:Nat):(stK a i j∉ks/\qa ks ds (stK a i j)=none)\/(stK a i j∈ks/\qa ks ds (stK a i j)=some (.int<|gM es ts (a+1) i j)):=by
 induction h with
 |nil=>exact .inl ⟨by simp,rfl⟩
 | @add ks ds h b k l ha hi hj hn ih =>
  rw[Gf _ h.len];rcases ih with⟨h1,h2⟩|⟨h1,h2⟩
  .rw[h2];by_cases e:stK b k l=stK a i j
   .obtain⟨rfl,rfl,rfl⟩:=Ci e;right;exact⟨by simp,by simp[qa]⟩
   .left;refine⟨λz=>?_,by simp only[qa];rw[aC e]⟩;rcases List.mem_append.mp z with z|z
    .exact h1 z
    .exact e (List.mem_singleton.mp z).symm
  .rw[h2];right;exact⟨b9 _ h1,rfl⟩
def stN (L a i j:Nat):Nat:=(a*L+i)*L+j
theorem zi:∀(N:Nat) (l:ak Nat),l.Nodup->(∀ x∈l,x<N)->l.length<=N
 | 0,l,_,h=>by
  cases l with
  |nil=>exact aq _
  |cons x l=>exact absurd (h x<|by simp) (Nat.not_lt_zero _)
 | N+1,l,nd,h=>by
  have h1:=zi N (l.filter λx=>decide (x≠N)) (nd.sublist c7) λx hx=>by rw[List.mem_filter,bA]at hx;have:=h x hx.1;lia
  have h2:l.length<=(l.filter λx=>decide (x≠N)).length+1:=by
   clear h1 h;induction l with
   |nil=>simp
   | cons x l ih =>
    rw[List.nodup_cons]at nd;rw[eY];by_cases e:x=N
    .subst e;have:l.filter (λy=>decide (y≠x))=l:=List.filter_eq_self.mpr λy hy=>by rw[bA];rintro rfl;exact nd.1 hy
     rw[aC (by simp),this,aE];lia
    .rw[aA (by simp[e]),aE,aE];have:=ih nd.2;lia
  lia
def Memo.codes {es:ak Int}{ts:ak Tk}{A:Nat}{ks:ak (ak Key)}{ds:ak D}(h:Memo es ts A ks ds):∃ cs:ak (Nat×Nat×Nat),cs.Nodup/\(∀ c∈cs,c.1<=A/\c.2.1<es.length/\c.2.2<es.length)/\ks=cs.map λc=>stK c.1 c.2.1 c.2.2:=by
 induction h with
 |nil=>exact⟨[],by simp,by simp,rfl⟩
 | @add ks ds h a i j ha hi hj hn ih =>
  refine jB ih λcs h1 h2 fV=>?_;subst fV;refine⟨cs++[(a,i,j)],?_,?_,by simp⟩
  .rw[eE];refine⟨h1,by simp,λx hx y hy=>?_⟩;rw[List.mem_singleton.mp hy];rintro rfl;exact hn (List.mem_map.mpr ⟨_,hx,rfl⟩)
  .intro c hc;rcases List.mem_append.mp hc with hc|hc
   .exact h2 c hc
   .rw[List.mem_singleton.mp hc];exact⟨ha,hi,hj⟩
def Oi {L a i j A:Nat}(ha:a<=A)(hi:i<L)(hj:j<L):stN L a i j<(A+1)*L*L:=by
 delta stN;have h1:a*L+i<(A+1)*L:=by have:(a+1)*L<=(A+1)*L:=Nat.mul_le_mul_right L<|Nat.lt_succ_of_le ‹_›;rw[Nat.add_mul]at this;lia
 have h2:(a*L+i+1)*L<=(A+1)*L*L:=Nat.mul_le_mul_right L h1;rw[Nat.add_mul]at h2;lia
def Ca {L x y x' y':Nat}(hy:y<L)(LK:y'<L)(h:x*L+y=x'*L+y'):x=x'/\y=y':=by
 have hL:0<L:=by lia
 have q:∀ u v:Nat,v<L->(u*L+v) / L=u:=λu v hv=>by rw[Nat.mul_comm,Nat.mul_add_div hL,Nat.div_eq_of_lt hv,Nat.add_zero]
 have e:x=x':=by rw[<- q x y hy,h,q x' y' LK]
 subst e;exact⟨rfl,by lia⟩
def KH {L a i j b k l:Nat}(hi:i<L)(hj:j<L)(hk:k<L)(hl:l<L)(h:stN L a i j=stN L b k l):a=b/\i=k/\j=l:=by obtain⟨h1,h2⟩:=Ca hj hl h;obtain⟨h3,h4⟩:=Ca hi hk h1;exact⟨h3,h4,h2⟩
def Memo.bd {es:ak Int}{ts:ak Tk}{A:Nat}{ks:ak (ak Key)}{ds:ak D}(h:Memo es ts A ks ds):ks.length<=(A+1)*es.length*es.length:=by
 refine jB h.codes λcs h1 h2 fV=>?_;subst fV;rw[gQ];have:=zi ((A+1)*es.length*es.length) (cs.map λc=>stN es.length c.1 c.2.1 c.2.2) ?_ ?_
 .rwa [gQ]at this
 .refine List.pairwise_map.mpr (List.Pairwise.imp_of_mem (λ{x y} hx hy ne e=>ne ?_) h1);refine jr (h2 _ hx) λx1 x2 x3=>?_;refine jr (h2 _ hy) λy1 y2 y3=>?_;refine jr (KH x2 x3 y2 y3 e) λe1 e2 e3=>?_;exact Prod.ext e1 (Prod.ext e2 e3)
 .intro x hx;obtain⟨c,hc,rfl⟩:=List.mem_map.mp hx;refine jr (h2 c hc) λa1 a2 a3=>?_;exact Oi a1 a2 a3
structure Bm (C:ai)(μ:MS)(k:Nat)(es:List Int)(ts:List Tk)(A j a i b:Nat):Prop where
 at_:μ[k]?=some (.ins C yF<|Az es ts A j)
 ha:a<=A
 Fb:i<b
 hb:b<es.length
 hl:es.length<=100
 ht:ts.length<=100
 hA:A<=100
 ok:fG es ts (a+1) i b<(es.length:Int) - 1
def rB {C:ai}{μ:MS}{k:Nat}{ns:ak Str}{ds:ak D}{f:Str}{d:D}(h:μ[k]?=some (.ins C ns ds))(e:jR f ns ds=some d):(xT C μ k).bind (λq=>jR f q.1 q.2)=some d:=by rw[nq h];exact e
def ow {C:ai}{μ:MS}{k:Nat}{ns:ak Str}{ds:ak D}{f:Str}(h:μ[k]?=some (.ins C ns ds))(e:jR f ns ds=none):(xT C μ k).map (λq=>jR f q.1 q.2)=some none:=by rw[nq h];exact cq some e
section
variable {es:ak Int}{ts:ak Tk}{A j:Nat}
def wB:jR "places" yF (Az es ts A j)=some (.lst<|es.map D.int):=by kernel_rfl
def Mq:jR "rows" yF (Az es ts A j)=some (.lst<|ts.map<|k8 es):=by kernel_rfl
def rM:jR "tables" yF (Az es ts A j)=some (.jf (l9<|A+1)<|nH es ts<|A+1):=by kernel_rfl
def uT:jR "whole" yF (Az es ts A j)=some (sH A 0<|es.length - 1):=by kernel_rfl
def rN:jR "counts" yF (Az es ts A j)=some (.mr j):=by kernel_rfl
def oF {f:Str}(h:f∈([("is_take" : Str), "clean_takes","halves","counted","count_anew","numbered","rank"]:ak Str)):jR f yF (Az es ts A j)=none:=by simp only[aT,aM,bY]at h;rcases h with rfl|rfl|rfl|rfl|rfl|rfl|rfl<;>kernel_rfl
def wQ {a:Nat}(ha:a<=A):uI ((l9<|A+1).zip<|nH es ts<|A+1) (.inl (a:Int))=some (.lst<|lJ es.length<|fG es ts<|a+1) :=
 DL (xs:=List.range<|A+1) (k:=a) (λk=>D.lst<|lJ es.length<|fG es ts<|k+1) (List.mem_range.mpr<|Nat.lt_succ_of_le ‹_›)
def wV {T:Nat->Nat->Int}{L i:Nat}(h:i<L):o5 (lJ L T) (i:Int)=some (.lst<|jO L<|T i):=lG (qc h)
def xp {f:Nat->Int}{L i:Nat}(h:i<L):o5 (jO L f) (i:Int)=some (.int<|f i):=lG (om h)
end
def DC (C:ai):lp:=λds μ K=>dM [.m,.v] ds λk s=>∃(es:ak Int) (ts:ak Tk) (A j a i b:Nat),Bm C μ k es ts A j a i b/\s=sH a i b/\K (.bl<|decide (fG es ts (a+1) i b=0)) μ
def DF (C:ai):lp:=λds μ K=>dM [.m,.v] ds λk s=>∃(es:ak Int) (ts:ak Tk) (A j a i b:Nat),Bm C μ k es ts A j a i b/\s=sH a i b/\K (.lst<|(o9 es ts a i b).map λx=>.int (x:Nat)) μ
def Df (es:ak Int)(a i b k:Nat):D:=.tup [.int (es.getD k 0),sH ((a:Int) - 1) i k,sH ((a:Int) - 1) k b]
def DD (C:ai):lp:=λds μ K=>dM [.m,.v] ds λk s=>∃(es:ak Int) (ts:ak Tk) (A j a i b:Nat),Bm C μ k es ts A j a i b/\s=sH a i b/\1<=a/\K (.lst<|(kN (fG es ts<|a+1) (fG es ts a) i b).map<|Df es a i b) μ
structure QR (es:List Int)(ts:List Tk):Prop where
 nn:∀ a x y,x<es.length->y<es.length->0<=fG es ts a x y
 z:∀ x y,x<es.length->y<es.length->fG es ts 1 x y<(es.length:Int) - 1->fG es ts 1 x y=0
def zW (C:ai)(n:Nat):lp:=λds μ K=>dM [.m,.v] ds λk s=>∃(es:ak Int) (ts:ak Tk) (A j a i b:Nat) (ks:ak (ak Key)) (dd:ak D),Bm C μ k es ts A j a i b/\s=sH a i b/\a<n/\QR es ts/\k≠j/\μ[j]?=some (.lD ks dd)/\Memo es ts A ks dd /\
 ∀ mB mR,Memo es ts A mB mR->K (.int<|gM es ts (a+1) i b) (μ.set j<|.lD mB mR)
def Bm.put {C:ai}{μ:MS}{k:Nat}{es:ak Int}{ts:ak Tk}{A j a i b:Nat}{m:MO}(h:Bm C μ k es ts A j a i b)(hk:k≠j):Bm C (μ.set j m) k es ts A j a i b:=⟨by rw[aW (bJ hk)];exact h.at_,h.ha,h.Fb,h.hb,h.hl,h.ht,h.hA,h.ok⟩
def gA.never {P:ae}{w:af}{K:aa}{mg:Str->ao aj}{fg:Heap}{CX:Eh}{k:Nat}{f:ai}{fd:ag}{ps:ak Str}{sp:Sp}(h:∀ vs H Q E,¬ sp vs H Q E):gA P w K mg fg CX k f fd ps sp :=
 ⟨λvs H Q E q=>(h vs H Q E q).elim,λA fC s H args us vs Q E _ _ _ _ q=>(h vs H Q E q).elim⟩
def Fj {C:ai}(vs:ak V)(H:Hp)(Q:VK)(E:XK):¬ iD (zW C 0) vs H Q E:=λh=>by obtain⟨φ,ds,μ,K,_,_,h,_⟩:=h;obtain⟨_,_,rfl,h⟩:=dJ h;obtain⟨es,ts,A,j,a,i,b,ks,dd,_,_,h,_⟩:=h;lia
def NG (C:ai):lp:=λds μ K=>dM [.m,.i,.l,.l] ds λk n x y=>∃(cs:ak Int) (ts:ak Tk),x=cs.map D.int/\y=ts.map rV/\gP n cs ts/\cs.length<=60/\jC (e9 n cs) ts=none/\μ[k]?=some (.ins C [] []) /\
 ∀ A:Nat,A<=66->hV (e9 n cs) ts n A->K .gz (μ.set k (.ins C yF<|Az (e9 n cs) ts A μ.length)++[.lD [] []])
def cntK (es:ak Int)(ts:ak Tk)(n:Int)(μ:MS)(K:DK):Prop:=match jC es ts with
 |some _=>K (.int 0) μ
 |none=>∀ a:Nat,a<=66->hV es ts n a->K (.int<|gM es ts (a+1) 0<|es.length - 1) μ
def uE:lp:=λds μ K=>dM [.i,.l,.l] ds λn x y=>∃(cs:ak Int) (ts:ak Tk),x=cs.map D.int/\y=ts.map rV/\gP n cs ts/\cs.length<=60/\cntK (e9 n cs) ts n μ K
def vH {n:Int}{cs:ak Int}{ts:ak Tk}(S:gP n cs ts)(x y:Nat)(hx:x<(e9 n cs).length)(hy:y<(e9 n cs).length)(h:fG (e9 n cs) ts 1 x y<((e9 n cs).length:Int) - 1):fG (e9 n cs) ts 1 x y=0:=by
 have s1:=yU S 1 x y hx hy;by_cases q:y<=x
 .exact s1.1 q
 .rcases s1.2 (by lia)with⟨_,e⟩ | ⟨g1,g2,g3⟩
  .lia
  .rw[g3];have:mq (e9 n cs) ts 1 x y<=1:=by
    show jN (e9 n cs) (ja (e9 n cs) ts (0:Nat)) (mq (e9 n cs) ts 0) x y<=1;delta jN;split
    .lia
    .split
     .lia
     .have:nP (mq (e9 n cs) ts 0) x y=[]:=List.eq_nil_iff_forall_not_mem.mpr λv hv=>by refine sN (jX.mp hv) λk _ _ z _=>?_;exact absurd z (by show ¬ (0:Int)<0*0;lia)
      rw[this];show(0:Int)<=1;lia
   lia
theorem uA {α:Type}(p:α->Bool)(f:α->D):∀ xs:ak α,xs.filterMap (λx=>if p x=true then some (f x)else none)=(xs.filter p).map f
 |[]=>rfl
 | x::xs=>by
  rw[cG,eY];by_cases h:p x=true
  .rw[aA h,aA h];show _::_=_;rw[uA p f xs];rfl
  .rw[aC h,aC h];exact uA p f xs
def BI (ds:ak D):k9 ds=(List.range ds.length).map λx=>D.tup [.int (x:Nat),ds.getD x .gz]:=by
 apply cA;intro i;rw[nX];by_cases h:i<ds.length
 .rw[bG h];delta k9;rw[bD,bG h,iT h];simp[ar,iT h]
 .rw[eR (by rw[jK];lia),eR (by rw[ur];lia)];rfl
def K1 (i:Int)(n:Nat):m9 i n=(List.range n).map λx=>D.int (i+(x:Nat)):=rfl
def GI {es:ak Int}{ts:ak Tk}{x:Nat}{t:Tk}(h:ts[x]?=some t):(ts.map<|k8 es).getD x .gz=k8 es t:=by rw[ar,nX,h];rfl
def vG {n:Int}{cs:ak Int}{ts:ak Tk}(S:gP n cs ts):QR (e9 n cs) ts:=by
 refine⟨λa x y hx hy=>?_,λx y hx hy h=>vH S x y hx hy h⟩;have s:=yU S a x y hx hy;by_cases q:y<=x
 .rw[s.1 q];lia
 .rcases s.2 (by lia)with⟨_,e⟩|⟨_,_,e⟩<;> lia
def Dc (es:ak Int)(a i b:Nat):Df es (a+1) i b=λk=>D.tup [.int (es.getD k 0),sH a i k,sH a k b]:=by funext k;delta Df;rw[show((a+1:Nat):Int) - 1=(a:Int) by lia]
def tQ {f:Nat->Int}{M:ak Nat}{z:Nat}(h:z<M.length):((M.take<|z+1).map f).sum=((M.take z).map f).sum+f M[z]:=by rw[List.take_succ,iT h,bI,List.sum_append];simp
def Be (T U:Nat->Nat->Int)(i b:Nat):kN T U i b=((List.range<|b - (i+1)).filter λx=>decide (U i (i+1+x)+U (i+1+x) b+1=T i b)).map (i+1+·):=by delta kN;rw[List.filter_map];rfl
def Memo.same {es:ak Int}{ts:ak Tk}{A:Nat}{ks:ak (ak Key)}{ds:ak D}(h:Memo es ts A ks ds)(a i b:Nat):∀ p∈ks.zip ds,p.1=stK a i b->p.2=.int (gM es ts (a+1) i b):=by
 induction h with
 |nil=>intro p hp;cases hp
 | @add ks ds h b' k' l' ha hi hj hn ih =>
  intro p hp e;rw[List.zip_append h.len.symm]at hp;rcases List.mem_append.mp hp with hp|hp
  .exact ih p hp e
  .simp only[cO,List.zip_nil_right,List.mem_singleton]at hp;subst hp;obtain⟨rfl,rfl,rfl⟩:=Ci e;rfl
def Memo.put {es:ak Int}{ts:ak Tk}{A:Nat}{ks:ak (ak Key)}{ds:ak D}(h:Memo es ts A ks ds){a i b:Nat}(ha:a<=A)(hi:i<es.length)(hb:b<es.length):
 Memo es ts A (wO ks ds (stK a i b)<|.int<|gM es ts (a+1) i b).1 (wO ks ds (stK a i b)<|.int<|gM es ts (a+1) i b).2/\stK a i b∈(wO ks ds (stK a i b)<|.int<|gM es ts (a+1) i b).1:=by
 have em:(ks.any λx=>decide (x=stK a i b))=true↔stK a i b∈ks:=by simp only[List.any_eq_true,bA];exact⟨λh_=>fj h_ λx h1 h2=>h2▸h1,λh=>⟨_,h,rfl⟩⟩
 delta wO;by_cases q:stK a i b∈ks
 .rw[aA (em.mpr q)];refine⟨?_,q⟩;have e:(ks.zip ds).map (λp=>if p.1=stK a i b then D.int (gM es ts (a+1) i b)else p.2)=ds:=by
   have e1:(ks.zip ds).map (λp=>if p.1=stK a i b then D.int (gM es ts (a+1) i b)else p.2)=(ks.zip ds).map (·.2):=bO λp hp=>by
    by_cases z:p.1=stK a i b
    .rw[aA z,h.same a i b p hp z]
    .rw[aC z]
   rw[e1,List.map_snd_zip (h.len▸aq _)]
  rw[e];exact h
 .rw[aC λz=>q<|em.mp z];exact⟨h.add ha hi hb q,by simp⟩
abbrev At (g:Heap)(b:ai):Prop:=∃ u,g.get? b=some u
structure Kp (g:Heap)(l:List Env)(h h':Heap):Prop where
 other:∀ b o,h.get? b=some o->At g b->b∉xX l->h'.get? b=some o
 slot:∀ b o,h.get? b=some o->At g b->b∈xX l->∃ sl,h'.get? b=some { o with slots:=sl}
def Kp.trans (a:Kp g l h1 h2)(b:Kp g l h2 h3):Kp g l h1 h3 :=
 ⟨λc o q lt hc=>b.other c o (a.other c o q lt hc) lt hc,λc o q lt hc=>by
  refine kA (a.slot c o q lt hc) λsl e=>?_
  refine kA (b.slot c _ e lt hc) λVB e'=>?_
  exact⟨VB,e'⟩⟩
def Kp.any (a:Kp g l h h')(q:h.get? b=some o)(lt:At g b):∃ sl,h'.get? b=some { o with slots:=sl}:=by
 by_cases hb:b∈xX l
 .exact a.slot b o q lt hb
 .exact⟨o.slots,a.other b o q lt hb⟩
def Kp.of (k:∀ b o,h.get? b=some o->At g b->h'.get? b=some o):Kp g l h h':=⟨λb o q lt _=>k b o q lt,λb o q lt _=>⟨o.slots,k b o q lt⟩⟩
abbrev Gk (g h:Heap):Prop:=∀ b,At g b->At h b
def Kp.gk (a:Kp g l h h')(k:Gk g h):Gk g h':=λb hb=>by refine kA (k b hb) λo e=>?_;refine kA (a.any e hb) λsl e'=>?_;exact⟨_,e'⟩
def Gk.fresh (k:Gk g h):g.get? h.objs.size=none:=by
 cases q:g.get? h.objs.size with
 |none=>rfl
 |some o=>let ⟨o',e⟩:=k _ ⟨o,q⟩;exact absurd (iO e) (cb _)
def D9 (h:At g b)(hc:g.get? c=none):c≠b:=λz=>by obtain⟨u,e⟩:=h;rw[<- z,hc]at e;cases e
def BY (g:Heap)(e:ai)(cls fl:aj)(h:Heap):Prop:=∃(oe:Obj) (vs:Array aj) (T:ai) (oT:Obj) (ts:Array aj),(h.get? e=some oe/\(oe.cls=cls/\oe.dict=none)/\oe.data=.fields vs/\vs[1]?=some (.ref T)/\vs[2]?=some .none)/\(g.get? T=none/\T≠e/\h.get? T=some oT/\oT.data=.fields ts/\ts[3]?=some fl)/\g.get? e=none
section
variable {M:Model}{A:Around}{E:aj->ah->Prop}{s:ah}
def we
 (LR:A.frames=some (env::fC)) (hl:s.heap.FunFrames fg (env::fC)) (hf:env.frame=some L) (he:s.heap.get? e=some oe) (WG:oe.dict=none) (hd:oe.data=.fields vs) (h1:1<vs.size) (h2:vs[2]?=some .none) (hn:g.get? e=none) (hs:Gk g s.heap)
 (h:∀ h',BY g e oe.cls (rawInt L) h'->Kp g (env::fC) s.heap h'->Q () {s with heap:=h'}):
 wpAny M A (do let a <- frameOf env;let pl <- entryPlaceOf L UZ;let b <- EntryCells.newEntry head a .none (rawInt L) .none pl;setField (.ref e) 1 b) Q E s:=by
 have WB:e∉(env::fC).filterMap (·.frame):=λhm=>by obtain⟨_,o,ho,hnf⟩:=hl.mem hm;rw[he]at ho;injection ho with ho;subst ho;exact hnf vs hd
 refine fH (wpAny_frameOf_fun LR hl hf λm x=>?_);refine fH (wpAny_entryPlaceOf λpl oz=>?_);refine fH<|cZ ?_<|oz.sizeOk5 _ _ _ _ _;obtain⟨rec,PY⟩:∃ rec:Obj,rec={ cls:=.type "traceback",dict:=none,data:=.fields ([head,.ref L,.none,rawInt L,.none]++(if pl.isEmpty then List.replicate 6 Value.none else pl)).toArray}:=⟨_,rfl⟩;rw[<- PY];have e1:=(x.2.1 e WB).trans he;have e2:=jx rec e1;have hT:(m.push rec).get? m.objs.size=some rec:=aD m (by rw[PY];rfl);have Qk:=ba<|iO e1;have SK:=dR hd (·.setIfInBounds 1 (Value.ref m.objs.size));have e3:=bE (Obj.mapFields (·.setIfInBounds 1 (Value.ref m.objs.size))) e2<|eO SK;refine d9 e2 hd h1 (h _ ⟨_,_,m.objs.size,rec,_,⟨e3,⟨Obj.cls_mapFields _ _,by delta Obj.mapFields;split<;>exact WG⟩,SK,by simp[h1],by rw[Array.getElem?_setIfInBounds_ne (by decide)];exact h2⟩,⟨x.1▸hs.fresh,Qk,?_,by rw[PY],?_⟩,hn⟩ ⟨λb o q lt hb=>?_,λb o q lt hb=>?_⟩)
 .rw[aF _ _ (bJ Qk)];exact hT
 .first|(simp;done)|(rcases oz with rfl|⟨_,_,_,_,_,_,_,rfl⟩<;> simp)
 .rw[aF _ _ (D9 lt hn)];exact jx _ ((x.2.1 b hb).trans q)
 .obtain⟨sl,q'⟩:=x.2.2 b o q;exact⟨sl,by rw[aF _ _ (D9 lt hn)];exact jx _ q'⟩
def Ba
 (LR:A.frames=some (env::fC)) (hl:s.heap.FunFrames fg (env::fC)) (hf:env.frame=some L) (he:s.heap.get? e=some oe) (WG:oe.dict=none) (hd:oe.data=.fields vs) (h1:vs[1]?=some .none) (h2:vs[2]?=some .none) (hn:g.get? e=none) (hs:Gk g s.heap)
 (h:∀ h',BY g e oe.cls (rawInt L) h'->Kp g (env::fC) s.heap h'->Q () {s with heap:=h'}):wpAny M A (noteFrame (.ref e) env) Q E s:=by
 delta noteFrame;simp only[hf];exact fH (aZ he hd h1<|we LR hl hf he WG hd (Array.getElem?_eq_some_iff.mp h1).1 h2 hn hs h)
def EL
 (LR:A.frames=some (env::fC)) (hl:s.heap.FunFrames fg (env::fC)) (hf:env.frame=some L) (hs:Gk g s.heap) (x:BY g e cls .none s.heap)
 (h:∀ h',BY g e cls (rawInt L) h'->Kp g (env::fC) s.heap h'->Q () {s with heap:=h'}):wpAny M A (noteFrame (.ref e) env) Q E s:=by
 obtain⟨oe,vs,T,oT,ts,⟨he,hc,hd,h1,h2⟩,⟨hn,Qk,hT,Qi,h3⟩,vW⟩:=x;delta noteFrame;simp only[hf];refine fH<|aZ he hd h1<|fH<|aZ hT Qi h3<|fH<|d9 hT Qi (Array.getElem?_eq_some_iff.mp h3).1 ?_;have other:∀ b,b≠T->(s.heap.update T (Obj.mapFields (·.setIfInBounds 3 Value.none))).get? b=s.heap.get? b:=λb hb=>aF _ _<|bJ hb;have ff:=hl.of_keeps λb o q nf=>⟨o,(other b λz=>by rw[z,hT]at q;cases q;exact nf _ Qi).trans q,rfl⟩;have k0:Kp g (env::fC) s.heap (s.heap.update T (Obj.mapFields (·.setIfInBounds 3 Value.none))):=Kp.of λb o q lt=>(other b<|bJ<|D9 lt hn).trans q;exact we LR ff hf ((other e<|bJ Qk).trans he) hc.2 hd (Array.getElem?_eq_some_iff.mp h1).1 h2 vW (k0.gk hs) λh' a k=>h h' (hc.1▸a) (k0.trans k)
def sy (x:BY g e cls fl s.heap)
 (h:∀ h',BY g e cls .none h'->Kp g l s.heap h'->(∀ b o,s.heap.get? b=some o->(∀ vs,o.data≠.fields vs)->h'.get? b=some o)->Q () {s with heap:=h'}):wpAny M A (setFlight (.ref e) none) Q E s:=by
 obtain⟨oe,vs,T,oT,ts,⟨he,hc,hd,h1,h2⟩,⟨hn,Qk,hT,Qi,h3⟩,vW⟩:=x;refine fH<|aZ he hd h1 ?_;have Yy:=(Array.getElem?_eq_some_iff.mp h3).1;have SK:=dR Qi (·.setIfInBounds 3 ((none:ao ai).elim Value.none λf=>rawInt f));have other:∀ b,b≠T->(s.heap.update T (Obj.mapFields (·.setIfInBounds 3 ((none:ao ai).elim Value.none λf=>rawInt f)))).get? b=s.heap.get? b:=λb hb=>aF _ _<|bJ hb;refine d9 hT Qi Yy (h _ ⟨oe,vs,T,_,_,⟨(other e<|bJ Qk).trans he,hc,hd,h1,h2⟩,⟨hn,Qk,bE _ hT<|eO SK,SK,by simp[Yy]⟩,vW⟩ (Kp.of λb o q lt=>(other b<|bJ<|D9 lt hn).trans q) λb o q nf=>(other b λz=>by rw[z,hT]at q;cases q;exact nf _ Qi).trans q)
end
def FP (P:ae)(w:af):Eh:=λfC H s E ev s'=>∃(e:ai) (cls:aj) (H':Hp) (g:Heap),ev=.ref e/\s'.os=s.os/\AllBare s'.gens/\Un (xX fC) [] H H' s.heap s'.heap/\o6 P w H' s'.heap/\(Gk s.heap g/\(∀ b,H' b≠none->At g b)/\Gk g s'.heap)/\BY g e cls .none s'.heap/\E cls none H'
def at_of (x:o6 P w H h)(e:H a=some o):At h a:=by
 have x:=x a o e;cases o with
 |lst xs=>let ⟨_,_,_,_,e⟩:=x;exact⟨_,e⟩
 |tup xs=>let ⟨_,_,_,_,e,_⟩:=x;exact⟨_,e⟩
 |dK fw=>let ⟨_,_,_,_,o,_,_,e,_⟩:=x;exact⟨_,e⟩
 |dT fw=>let ⟨_,_,_,_,o,_,_,e,_⟩:=x;exact⟨_,e⟩
 |set S n=>let ⟨o,_,_,_,e,_⟩:=x;exact⟨_,e⟩
 |ins C dx fs=>let ⟨_,_,_,e,_⟩:=x;exact⟨_,e⟩
 |own y=>let ⟨_,e⟩:=x;exact⟨_,e⟩
 |xd fs=>let ⟨_,⟨_,_,_,e,_⟩,_⟩:=x;exact⟨_,e⟩
 |UK lo hi=>let ⟨_,_,_,e⟩:=x;exact⟨_,e⟩
 |zM ob u=>let ⟨e,_⟩:=x;exact⟨_,e⟩
 |MN ps=>exact⟨_,x⟩
 |met f y=>exact⟨_,x⟩
 |ext φ=>let ⟨_,⟨_,e⟩,_⟩:=x;exact⟨_,e⟩
def HY (x:o6 P w H h)(hb:∀ b,H b≠none->At g b/\b∉xX l)(k:Kp g l h h'):o6 P w H h':=λa o e =>
 (x a o e).wY (λb u yE q=>by
   have hn:H b≠none:=by rcases yE with rfl|z<;>intro y<;>simp_all
   exact k.other b u q (hb b hn).1 (hb b hn).2) (λ_ q=>q) λ_ _ q=>q
section
variable {X:Cx}{fb:ak (ai×Obj)}{σ:St}{H H':Hp}{s:ah}{g h1 h2:Heap}
def Inv.exit (I:Inv X fb σ H s)(hx:X.ex=[])(u:Un (xX X.stack) [] H H' s.heap h1)(hg:Gk s.heap g)(k:Kp g X.stack h1 h2):Un X.fs [] X.H₀ H' X.s₀.heap h2:=by
 have nx:∀ b,b∉X.ex:=λb z=>by rw[hx]at z;cases z
 have nn:∀ b:ai,b∉([]:ak ai):=λb z=>by cases z
 have Xv:∀ b o,X.s₀.heap.get? b=some o->At g b:=λb o e=>by refine kA (I.fg.there b o e<|nx b) λo' e'=>?_;exact hg b ⟨o',e'⟩
 refine⟨λb o e n hb _=>?_,λb o e n hb _=>?_,λb o e n _=>?_,λb o e _=>?_,λb xs e=>u.u6 b xs<|I.fg.u6 b xs e,λb o xs e=>u.uy b o xs<|I.fg.uy b o xs e,λb ps e=>?_⟩
 .have e1:=I.fg.keep b o e n hb<|nx b;have n1:=I.fg.free b o e n<|nx b;have hs:b∉xX X.stack:=λz=>by
   rcases List.mem_cons.mp (I.tS b z)with y|y
   .exact absurd y (aw<|aG (iO e) I.ok.above)
   .exact hb y
  exact k.other b o (u.keep b o e1 n1 hs<|nn b) (Xv b o e) hs
 .refine kA (I.fg.slot b o e n hb<|nx b) λsl e1=>?_;have n1:=I.fg.free b o e n<|nx b;refine kA (u.any e1 n1<|nn b) λsl2 e2=>?_;refine kA (k.any e2<|Xv b o e) λsl3 e3=>?_;exact⟨sl3,e3⟩
 .refine kA (I.fg.there b o e<|nx b) λo' e1=>?_;exact u.free b o' e1 (I.fg.free b o e n<|nx b) (nn b)
 .refine kA (I.fg.there b o e<|nx b) λo' e1=>?_;refine kA (u.there b o' e1<|nn b) λo2 e2=>?_;obtain⟨sl,e3⟩:=k.any e2<|Xv b o e;exact⟨_,e3⟩
 .obtain⟨m1,e1⟩:=I.fg.u7 b ps e;obtain⟨m2,e2⟩:=u.u7 b _ e1;exact⟨m1++m2,by rw[e2,Array.append_assoc]⟩
end
section
variable {P:ae}{w:af}{K:aa}{mg:Str->ao aj}{fg:Heap}{N:ak Str}{qual:Str}{scope:Scope}{f:ai}{cd:aj}{A:Around}{fC:ak Env}{s₀ s:ah}{H₀ H:Hp}{E:XK}{fb:ak (ai×Obj)}{σ:St}
def Ta:Passes (FP P w) (ph (FP P w) P w K mg fg N qual scope f cd A fC s₀ H₀ E) E:=λfb σ H s ev s' I c=>by
 obtain⟨e,cls,H',g,rfl,os,bare,un,gT,⟨g1,g2,g3⟩,ex,hE⟩:=c;have I2:=I.Jv (s':=s') os un gT bare (λb z=>absurd z<|by simp);have LR:=I.ok.frames;refine fH (EL LR I2.stack rfl g3 ex λh1 x1 k1=>sy (l:=envOfC qual scope s₀.heap.objs.size f cd::fC) x1 λh2 x2 k2 _=>?_);have k:=k1.trans k2;exact⟨e,cls,H',g,rfl,os.trans I.os,bare,I.exit rfl un g1 k,HY gT (λb hb=>⟨g2 b hb,λz=>hb<|I2.qd b z⟩) k,⟨λb hb=>by
  refine kA hb λo e0=>?_
  refine kA (I.fg.there b o e0<|by simp[ph]) λo' e1=>?_
  exact g1 b ⟨o',e1⟩,g2,k.gk g3⟩,x2,hE⟩
def raises (I:Inv (ph (FP P w) P w K mg fg N qual scope f cd A fC s₀ H₀ E) fb σ H s)(x:Heap.MadeExcOf s.heap h' e cls vs)(hE:E cls none H):(ph (FP P w) P w K mg fg N qual scope f cd A fC s₀ H₀ E).xe (.ref e) { s with heap:=h'}:=by
 have LR:=I.ok.frames;refine jB x.there λt he htn ht=>?_;have ff:=I.stack.of_keeps λb o q _=>⟨o,x.keeps b o q,rfl⟩;have gk:Gk s.heap h':=λb h_=>kA h_ λo q=>⟨o,x.keeps b o q⟩;refine fH (Ba LR ff rfl he rfl rfl rfl rfl x.new gk λh1 x1 k1=>?_);refine sy (l:=envOfC qual scope s₀.heap.objs.size f cd::fC) x1 λh2 x2 k2 _=>?_;have k:=k1.trans k2;have un:Un (xX<|envOfC qual scope s₀.heap.objs.size f cd::fC) [] H H s.heap h':=Un.iC x.keeps;have gT:=I.gT.iC x.keeps;refine⟨e,cls,H,s.heap,rfl,I.os,I.bare,I.exit rfl un (λb hb=>hb) k,HY gT (λb hb=>⟨?_,λz=>hb<|I.qd b z⟩) k,⟨λb hb=>?_,λb hb=>?_,k.gk gk⟩,x2,hE⟩
 .cases q:H b with
  |none=>exact absurd q hb
  |some o=>exact at_of I.gT q
 .obtain⟨o,e0⟩:=hb;obtain⟨o',e1⟩:=I.fg.there b o e0 (by simp[ph]);exact⟨o',e1⟩
 .cases q:H b with
  |none=>exact absurd q hb
  |some o=>exact at_of I.gT q
end
abbrev DX:=aj->MS->Prop
def An (φ:ak ai)(H:Hp)(Kx:DX)(E:XK):Prop:=∀ c fI gg H',Kx c fI->Fr φ H gg H'->fU gg H' fI->E c none H'
abbrev FA:=ak D->MS->DK->DX->Prop
def RL (f:FA):Sp:=λvs H Q E=>∃ φ ds μ K Kx,fB φ H ds vs/\fU φ H μ/\f ds μ K Kx/\qM φ H K Q/\An φ H Kx E
structure QW (P:ae)(w:af)(K:aa)(mg:Str->Option aj)(fg:Heap)(x:Str)(k:Nat)(ps:List Str)(sp:Sp):Prop where
 ex:∃ f fd,gA P w K mg fg (FP P w) k f fd ps sp/\mg x=some (.ref f)/\W.keepIn K (.ref f)=true/\Binds K fd ps []
structure Rm (X:Cx)(ka:List ai)(H0:Hp)(Kx:DX):Prop where
 ex:∃ E:XK,An ka H0 Kx E/\Passes (FP X.prog X.w) X E/\∀(fb:List (ai×Obj)) (σ:St) (H:Hp) (s:ah) (h':Heap) (e:ai) (cls:aj) (vs:List aj),Inv X fb σ H s->Heap.MadeExcOf s.heap h' e cls vs->E cls none H->X.xe (.ref e) {s with heap:=h'}
def fU.Wv (M:fU φ H μ)(e:μ[0]?=some (.gx ka H0)):Fr ka H0 φ H:=let ⟨_,_,h⟩:=M.at_ 0 _ e;h.1
def vz.nt (h:vz φ H m p)(zs:ak V):H p≠some (.tup zs):=λe=>by
 cases m with
 |box=>let ⟨q,ns,i,r,z,h1,_⟩:=h;rw[e]at h1;cases h1
 |lst ds=>let ⟨vs,h1,_⟩:=h;rw[e]at h1;cases h1
 |jf ks ds=>let ⟨fw,vs,h1,_⟩:=h;rw[e]at h1;cases h1
 |uC o fw ds=>have h1:=h.1;rw[e]at h1;cases h1
 |ins C ns ds=>let ⟨dx,fs,h1,_⟩:=h;rw[e]at h1;cases h1
 |lD ks ds=>let ⟨fw,h1,_⟩:=h;rw[e]at h1;cases h1
 |gx ka H0=>exact h.2.2.2 zs e
 |exc c=>rw[show _=_ from h]at e;cases e
def fU.ghost (M:fU φ H μ)(e:μ[0]?=some m):fU φ H (μ.set 0<|.gx φ H):=by
 have h0:=(kP e).1;refine⟨M.nd,by rw[bV];exact M.len,λk n en=>?_⟩;by_cases hk:k=0
 .subst hk;rw[aO h0]at en;cases en;refine fj (M.at_ 0 m e) λp e1 e2=>?_;exact⟨p,e1,.refl _ _,rfl,e2.ex,e2.nt⟩
 .rw[aW (bJ hk)]at en;exact M.at_ k n en
def fU.back (M:fU φ H μ)(e:μ[0]?=some m)(M':fU gg H' fI)(e':fI[0]?=some (.gx φ H)):fU gg H' (fI.set 0 m):=by
 have h0:=(kP e').1;refine⟨M'.nd,by rw[bV];exact M'.len,λk n en=>?_⟩;by_cases hk:k=0
 .subst hk;rw[aO h0]at en;cases en;refine sN (M'.at_ 0 _ e') λp' e1 f hp _=>?_;refine fj (M.at_ 0 m e) λp e2 im=>?_;have:=f.get e2;rw[e1]at this;cases this;exact⟨p',e1,im.mono f λo q=>hp.trans q⟩
 .rw[aW (bJ hk)]at en;exact M'.at_ k n en
def gK (ka:ak ai)(H0:Hp)(m:MO)(K:DK):DK:=λd fI=>fI[0]?=some (.gx ka H0)/\K d (fI.set 0 m)
def gX (ka:ak ai)(H0:Hp)(m:MO)(K:DX):DX:=λc fI=>fI[0]?=some (.gx ka H0)/\K c (fI.set 0 m)
def qM.ghost {K:DK}(L:qM φ H K Q)(M:fU φ H μ)(e:μ[0]?=some m):qM φ H (gK φ H m K) Q:=λd fI gg v H' ⟨e',k⟩ f M' i=>L d _ gg v H' k f (M.back e M' e') i
def An.ghost {K:DX}(L:An φ H K Q)(M:fU φ H μ)(e:μ[0]?=some m):An φ H (gX φ H m K) Q:=λc fI gg H' ⟨e',k⟩ f M'=>L c _ gg H' k f (M.back e M' e')
section
variable {X:Cx}{e:Expr}{es:ak Expr}{pos:Pos}{ka:ak ai}{H0:Hp}{Kx:DX}
def QE (ka:ak ai)(H0:Hp)(Kx:DX)(C:ai)(w:DA):Ds:=λ_ ρ μ=>w ρ μ λds fM=>ds.length<=sizeLine/\fM[0]?=some (.gx ka H0)/\Kx (.ref C) fM
def Cm {yF:ak aj}(Z:Rm X ka H0 Kx)(hc:X.gN=true)(O:OwnCls x C bm newId X.mg X.fg)(Fn:ExcBaseFacts Bn newId inN yF)(hBn:bm.contains (.type Bn)=true)
 (FB:ExcBaseFacts B nid V3 bm) (hg:Gl X x) (ha:uW X (e::es) w) (hd:(x==("__debug__" : Str))=false:=by decide)
 (he:starEach (e::es) X.env=(false,eval e X.env)::starEach es X.env:=by rfl) (oz:(backTo kT<|starEach es X.env).any (·.1)=false:=by rfl):
 yu X (.Raise (some<|.Call (.Name x np) (e::es) [] kT) none pos) (QE ka H0 Kx C w):=λfb s σ H D I hq=>by
 refine gG hq λφ ρ μ N A M k L=>?_;refine jB Z.ex λE LX hp mk=>?_;obtain⟨tl,Na,nm,q,bs,hdct,sn,sub,ab,col,dd,k0,k1,k2,k3,k5,mN,hC,hN,Wm,T⟩:=O.obj;refine wpAny_Raise_call_subU (nm:=nm) (q:=q) (N:=Na) (bs:=bs) (hdct:=hdct) (sn:=sn) (sub:=sub) (ab:=ab) (col:=col) (dd:=dd) (k0:=k0) (k1:=k1) (k2:=k2) (k3:=k3) (k5:=k5)
  Fn hBn FB (T.hasType FB.hasBase) (I.ok.hd hc) (by rw[he];show(false||(backTo kT<|starEach es X.env).any (·.1))=false;rw[oz];rfl) Wm (tq I hg O.bound ⟨rfl,?_⟩ hd)
 have h:=ha kT fb s σ H (λvs H1=>vs.length<=sizeLine/\E (.ref C) none H1) I ⟨φ,ρ,μ,_,A,M,k,λds fM gy vs H1 k1 f1 M1 i1=>⟨i1.len▸k1.1,LX (.ref C) fM gy H1 k1.2.2 (M1.Wv k1.2.1) M1⟩⟩;rw[he]at h ⊢
 refine Calls.evalArgs_plain (bq h (λus s2 h_=>fZ h_ λvs H1 I1 r1 q1=>⟨rfl,r1.length▸q1.1,I1.bk _ _ hC,hN.keeps I1.bk,T.keeps I1.bk,λh' e' mx=>mk fb σ H1 s2 h' e' _ _ I1 mx q1.2⟩) λ_ _ y=>y)
end
def FX (n:Nat)(K:DX):DX:=λc fI=>K c fI\/((∀(j:Nat) (m:MO),j<n->fI[j]?=some m->xJ n m)/\K c (fI.take n))
def An.fx {K:DX}(M:fU φ H μ)(L:An φ H K E):An φ H (FX μ.length K) E:=λc fI gg H' k f M'=>by
 rcases k with k|⟨hm,k⟩
 .exact L c fI gg H' k f M'
 .have DJ:gg.take μ.length=φ:=by obtain⟨⟨ψ,rfl,_⟩,_,_⟩:=f;rw[<- M.len,cx]
  have f0:Fr φ H (gg.take μ.length) H':=by rw[DJ];exact⟨⟨[],by simp,λ_ h=>nomatch h⟩,f.keep,f.U3⟩
  exact L c _ _ H' k f0 (M'.jv hm)
section
variable {P:ae}{w:af}{K:aa}{mg:Str->ao aj}{fg:Heap}
def j7.okX {x qual:Str}{st:Stmt}{f:ai}{fd:ag}{N ps:ak Str}{k:Nat}{fs:FA}(F:j7 K x qual st f fd)(S:fN N ps (fo st))(len:∀ ds μ Kd Kx,fs ds μ Kd Kx->ds.length=ps.length/\∃ m,μ[0]?=some m)
 (uq:∀(jL:aj) (A:Around) (fC:ak Env) (s:ah) (H:Hp) (E:XK),iw k (A.deeper<|envOfC qual (fo st) s.heap.objs.size f jL)->∀(ka:ak ai) (Kb:DX),Rm (ph (FP P w) P w K mg fg N qual (fo st) f jL A fC s H E) ka H Kb ->
   ∃ W,Ed (ph (FP P w) P w K mg fg N qual (fo st) f jL A fC s H E) (iM st) W/\∀ ds μ m Kd Kx,(∀(j:Nat) (m':MO),(μ.set 0<|.gx ka H)[j]?=some m'->xJ (μ.set 0<|.gx ka H).length m')->sJ (μ.set 0<|.gx ka H).length ds->μ[0]?=some m->fs ds μ Kd Kx->Kb=FX (μ.set 0<|.gx ka H).length (gX ka H m Kx) ->
    W (AW (μ.set 0<|.gx ka H).length<|gK ka H m Kd) (oh N ds) (μ.set 0<|.gx ka H)):gA P w K mg fg (FP P w) (k+1) f fd ps (RL fs):=by
 obtain⟨oc,od,kV,doc,pm,an,jL,ct,Li,rfl,lk,BA⟩:=F.ex
 refine ND lk BA S (λvs H Q E h=>?_) λA fC s H vs Q E hr J9=>?_
 .refine Tn h λφ ds μ Kd Kx ha M hf L LX=>?_;rw[ha.len];exact(len ds μ Kd Kx hf).1
 .refine Tn J9 λφ ds μ Kd Kx ha M hf L LX=>?_;obtain⟨_,m,em⟩:=len ds μ Kd Kx hf;have Mg:=M.ghost em;have Lg:=(L.ghost M em).fz Mg;refine fj (uq jL A fC s H E hr φ (FX (μ.set 0<|.gx φ H).length<|gX φ H m Kx) ⟨E,(LX.ghost M em).fx Mg,Ta,λfb σ H' s' h' e cls vs I x hE=>raises I x hE⟩) λW hW q=>?_;exact⟨_,hW,φ,oh N ds,μ.set 0<|.gx φ H,AW (μ.set 0<|.gx φ H).length<|gK φ H m Kd,.start ha,Mg,q ds μ m Kd Kx Mg.bound (Mg.len▸ha.bound) em hf rfl,⟨λj5 fI gg iB H' k' f' A' M'=>Lg .gz fI gg .gz H' k' f' M' rfl,Lg,λ_ _ _ _ _ k' _ _ _=>k'.elim,λ_ _ _ _ _ k' _ _ _=>k'.elim⟩⟩
end
abbrev hC (ka:ak ai)(H0:Hp)(k:Nat):MS->Prop:=λμ=>μ[0]?=some (.gx ka H0)/\∃ c,μ[k]?=some (.exc c)
abbrev Vd:ak aj:=[.type "ValueError",.type "Exception",.type "BaseException",.type "object"]
def QJ {K:aa}(q:W.excIn K C bmB newId=true):∃(bm:ak aj) (ns:ai) (nm qn:Str) (bs:ak aj) (hd:Bool) (sn:ak Str) (sub:ak aj) (ab:Bool) (col:ao Bool) (dd:ao ai) (k0 k1 k2 k3 k5:ao aj),
 K.lookup C=some (excClassObj nm qn C ns bs bm hd sn sub ab col dd k0 k1 k2 k3 k5 newId)/\W.nsOkIn K ns=true/\W.nsIn K ns "__init__"=some none/\W.tailIn K bmB bm=true:=by
 delta W.excIn at q;split at q
 .rename_i dd cd sl ho;split at q
  .rename_i C' bm k0 k1 k2 k3 n k5 hm hs;simp at q;obtain⟨⟨⟨⟨⟨rfl,rfl⟩,WI⟩,ht⟩,gT⟩,Wm⟩:=q;obtain⟨nm,bs,mro,ns,qn,hd,sn,sub,ab,col,del⟩:=cd;subst hm WI;have hsl:sl=#[k0,k1,k2,k3,some (.builtin n),k5]:=by obtain⟨l⟩:=sl;simp only at hs;rw[hs]
   subst hsl;exact⟨bm,ns,nm,qn,bs,hd,sn,sub,ab,col,dd,k0,k1,k2,k3,k5,ho,gT,Wm,ht⟩
  .cases q
 .cases q
def OU {K:aa}{h:Heap}{mg:Str->ao aj}{x:Str}{C:ai}(X:K.In h)(G:h.Ns mainGlobals mg)(e:W.nsIn K mainGlobals x=some (some<|.ref C))(q:W.excIn K C Vd "ValueError.__new__"=true):OwnCls x C Vd "ValueError.__new__" mg h:=by obtain⟨bm,ns,nm,qn,bs,hd,sn,sub,ab,col,dd,k0,k1,k2,k3,k5,h1,h2,h3,h4⟩:=QJ q;exact⟨W.mg_of X G e,bm,ns,nm,qn,bs,hd,sn,sub,ab,col,dd,k0,k1,k2,k3,k5,_,X _ _ h1,.of_isNs<|W.isNs_of_in X h2,W.nsMap_none_of_in X h2 h3,W.tail_of_in X h4⟩
def Mo {P:ae}{w:af}{K:aa}{mg:Str->ao aj}{fg h:Heap}{x q:Str}{st:Stmt}{f:ai}{fd:ag}{k:Nat}{ps:ak Str}{sp:Sp}(G:K.In h)(N:h.Ns mainGlobals mg)(F:j7 K x q st f fd)(ok:gA P w K mg fg (FP P w) k f fd ps sp)(hb:Binds K fd ps [])
 (a:W.nsIn K mainGlobals x=some (some<|.ref f):=by kernel_rfl):QW P w K mg fg x k ps sp:=⟨f,fd,ok,W.mg_of G N a,F.kp,hb⟩
def zJ {μ:MS}(em:μ[0]?=some m):(μ.set 0 n)[0]?=some n:=aO (kP em).1
def xW {μ:MS}(em:μ[0]?=some m):(μ.set 0 n).set 0 m=μ:=by
 cases μ with
 |nil=>cases em
 |cons a r=>cases em;rfl
def SU (hK:Kb=FX n (gX ka H m Kx))(em:μ[0]?=some m)(k:Kx c μ):(μ.set 0<|.gx ka H)[0]?=some (.gx ka H)/\Kb c (μ.set 0<|.gx ka H):=⟨zJ em,hK▸.inl ⟨zJ em,by rwa [xW em]⟩⟩
def SW {K:DK}(em:μ[0]?=some m)(k:K d μ):gK ka H m K d (μ.set 0<|.gx ka H):=⟨zJ em,by rwa [xW em]⟩
def Nb (n e a b:Int):Prop:=e<a/\a<b/\b<=n
instance (n e a b:Int):Decidable (Nb n e a b):=by unfold Nb;infer_instance
def cX (f:FA):lp:=λds μ K=>f ds μ K λ_ _=>False
def R1:Passes (FP X.prog X.w) X (λ_ _ _=>False):=λfb σ H s e s' I c=>by refine W9 c λ_ _ _ _ _ _ _ _ _ _ _ z=>?_;exact z.elim
section
variable {X:Cx}{a b e o:Expr}{es:ak Expr}{pos:Pos}{C:ai}{ka:ak ai}{H0:Hp}{Kx:DX}
def Jl (C:QW X.prog X.w X.K X.mg X.fg x k ps (RL f))(hr:iw k X.A)(hg:Gl X x)(ha:uW X (e::es) w)
 (vm:(x==("__debug__" : Str))=false:=by decide) (he:starEach (e::es) X.env=(false,eval e X.env)::starEach es X.env:=by rfl) (oz:(backTo pos<|starEach es X.env).any (·.1)=false:=by rfl):
 PD X (.Call (.Name x p) (e::es) [] pos) (uO (cX f) w):=by
 refine lP C.ex λf' fd F hm hk hb=>?_;exact(CC F hr hg hm hk hb .nil R1 ha vm he oz).imp λσ H Q h_=>gG h_ λφ ρ μ K Ee M w L =>⟨φ,ρ,μ,_,Ee,M,w,λds fM gy vs H1 k1 f1 M1 i1=>by show RL f (vs++[]) H1 Q _;rw[a8];exact⟨gy,ds,fM,K,_,i1,M1,k1,L.mono f1,λ_ _ _ _ z _ _=>z.elim⟩⟩
end
inductive Pt where
 |fst (b:List Nat) (a:Int)
 |jn (l r:Str) (p:Int)
structure RS where
 n:Int
 iC:List (Str×Pt)
 Ow:List (Int×Unit)
inductive Dd where
 |put (nm b:Str) (a:Int)|join (nm l r:Str) (p:Int)|found (nm:Str) (bar:Int) (sg:Str)|Xw (nm:Str) (a:Int)|drop (nm:Str)|free (p:Int)|Ow (p:Int)
section
variable {α β:Type}[DecidableEq α]
def Ub (l:ak (α×β))(k:α):ao β:=(l.find? λp=>decide (p.1=k)).map (·.2)
end
def VC (z:Str):Key:=Sum.inr z
def V6 (i:Int):Key:=Sum.inl i
def YG {α β:Type}(κ:α->Key)(f:β->D)(l:ak (α×β)):D:=.qP (l.map λp=>κ p.1) (l.map λp=>f p.2)
section
variable {α β:Type}[DecidableEq α]{κ:α->Key}(hi:∀ a b,κ a=κ b->a=b)(f:β->D)
include hi
end
def W3 {γ:Type}(gf:Str->ak Nat->Int->γ)(gj:γ->γ->Int->γ)(z:γ)(iC:ak (Str×Pt)):Nat->Str->γ
 |0,_=>z
 | f+1,nm=>match Ub iC nm with
  |some (.fst b a)=>gf nm b a
  |some (.jn l r p)=>gj (W3 gf gj z iC f l) (W3 gf gj z iC f r) p
  |none=>z
section
variable {γ:Type}{gf:Str->ak Nat->Int->γ}{gj:γ->γ->Int->γ}{z:γ}{iC:ak (Str×Pt)}
def ev (gf:Str->ak Nat->Int->γ)(gj:γ->γ->Int->γ)(z:γ)(iC:ak (Str×Pt))(nm:Str):γ:=W3 gf gj z iC iC.length nm
end
def shD (sh:ak (Int×Unit)):D:=YG V6 (λ_=>.bl true) sh
def ddD:Dd->D
 |.put nm b a=>.tup [.str "put",.str nm,.str b,.int a]
 |.join nm l r p=>.tup [.str "join",.str nm,.str l,.str r,.int p]
 |.found nm bar sg=>.tup [.str "found",.str nm,.int bar,.str sg]
 |.Xw nm a=>.tup [.str "aged",.str nm,.int a]
 |.drop nm=>.tup [.str "drop",.str nm]
 |.free p=>.tup [.str "free",.int p]
 |.Ow p=>.tup [.str "shut",.int p]
section
variable {α β:Type}[DecidableEq α]{κ:α->Key}(hi:∀ a b,κ a=κ b->a=b)(f:β->D)
include hi
end
def ptL:Pt->D
 |.fst b a=>.tup [.str "first",.str (txt b),.int a]
 |.jn l r p=>.tup [.str "joined",.str l,.str r,.int p]
def slD (S:RS):D:=.tup [.int S.n,YG VC ptL S.iC,shD S.Ow]
open PySem PySem.Spec PyProof.Rows PyProof
def TV (c:Dt)(ρ:DE)(μ:MS)(b:Bool):Prop:=∀ K:Bool->MS->Prop,K b μ->c ρ μ K
section
variable {a c:Dt}{t u:Ds}{N:DN}{ρ:DE}{μ:MS}{x y b:Bool}{e:De}
def TV.MM (h:∀ K:DK,K (.bl b) μ->e ρ μ K):TV (oC e) ρ μ b:=λK k=>h _ k
def TV.or (h1:TV a ρ μ x)(h2:x=false->TV c ρ μ y):TV (Jb a c) ρ μ (x||y):=λK k=>h1 _ (by
 cases x with
 |true=>rwa [aA rfl]
 |false=>rw[aC (by decide)];exact h2 rfl K k)
def TV.not (h1:TV a ρ μ x):TV (NL a) ρ μ (!x):=λK k=>h1 _ k
def rG (b:Bool)(h:TV c ρ μ b)(ht:b=true->t N ρ μ)(hu:b=false->u N ρ μ):TN c t u N ρ μ:=h _ (by
 cases b with
 |true=>rw[aA rfl];exact ht rfl
 |false=>rw[aC (by decide)];exact hu rfl)
end
def uM (h:N.nx ρ μ):YH N ρ μ:=h
section
variable {α β:Type}[DecidableEq α]{κ:α->Key}(hi:∀ a b,κ a=κ b->a=b){f:β->D}{μ:MS}{j:Nat}{l:ak (α×β)}
include hi
end
end L2
namespace L2
open PySem PySem.W PyProof.Rows
end L2
namespace L2
open PySem PySem.Spec PyProof.Rows PyProof PySem.W
end L2
namespace L2
open PySem PySem.Spec PyProof.Rows PyProof
section
variable {iC:ak (Str×Pt)}{z:Str}{b b':ak Nat}{a:Int}(h:Ub iC z=some (.fst b a))
include h
end
def zs (h:Nat.ble n 100=true:=by rfl):n<=sizeLine:=aK (Nat.le_of_ble_eq_true h) (sz<|by decide)
section
variable {X:Cx}{a b e e1 e2 e3:Expr}{wa wb w w1 w2 w3:De}{pos p:Pos}
def a1 (h:PD X e w)(s:starEach [e] X.env=(false,eval e X.env)::starEach [] X.env:=by rfl):uW X [e] (sC w BL):=gB h jU s
def a2 (h:PD X e w)(h1:PD X e1 w1)(s:starEach [e,e1] X.env=(false,eval e X.env)::starEach [e1] X.env:=by rfl)(s1:starEach [e1] X.env=(false,eval e1 X.env)::starEach [] X.env:=by rfl):uW X [e,e1] (sC w<|sC w1 BL):=gB h (a1 h1 s1) s
def a3 (h:PD X e w)(h1:PD X e1 w1)(h2:PD X e2 w2)(s:starEach [e,e1,e2] X.env=(false,eval e X.env)::starEach [e1,e2] X.env:=by rfl)(s1:starEach [e1,e2] X.env=(false,eval e1 X.env)::starEach [e2] X.env:=by rfl)(s2:starEach [e2] X.env=(false,eval e2 X.env)::starEach [] X.env:=by rfl):uW X [e,e1,e2] (sC w<|sC w1<|sC w2 BL):=gB h (a2 h1 h2 s1 s2) s
def mT (ha:PD X a wa)(hb:PD X b wb)(hs:yr b:=by exact λ_ _=>rfl):PD X (.Subscript a b pos) (vp U4 wa wb):=Xd HN RM ha hb hs
def pV (ha:PD X a wa)(hb:PD X b wb):PD X (.BinOp a .Add b pos) (vp (Jp false) wa wb):=rF JO Ot ha hb
def Ke (ha:PD X a wa)(hb:PD X b wb):PD X (.BinOp a .Sub b pos) (vp (uN λi j=>.int<|i - j) wa wb):=rF Vx Oo ha hb
def UL (ha:PD X a wa)(hb:PD X b wb):PT X (.Compare a [.Lt] [b] pos) (u9<|oC<|vp (uN λi j=>.bl<|decide (i<j)) wa wb):=lE Yh xh ha hb (i0 _)
def RY (ha:PD X a wa)(hb:PD X b wb):PT X (.Compare a [.LtE] [b] pos) (u9<|oC<|vp (uN λi j=>.bl<|decide (i<=j)) wa wb):=lE leC xh ha hb (i0 _)
def VJ (ha:PD X a wa)(hb:PD X b wb):PT X (.Compare a [.Gt] [b] pos) (u9<|oC<|vp (uN λi j=>.bl<|decide (j<i)) wa wb):=lE Yz xh ha hb (i0 _)
def VL (ha:PD X a wa)(hb:PD X b wb):PT X (.Compare a [.GtE] [b] pos) (u9<|oC<|vp (uN λi j=>.bl<|decide (j<=i)) wa wb):=lE YA xh ha hb (i0 _)
def J0 (ha:PD X a wa)(hb:PD X b wb):PT X (.Compare a [.Eq] [b] pos) (u9<|oC<|vp (Mh false) wa wb):=lE W5 AN ha hb (i0 _)
def qNe (ha:PD X a wa)(hb:PD X b wb):PT X (.Compare a [.NotEq] [b] pos) (u9<|oC<|vp (Mh true) wa wb):=lE Aw AN ha hb (i0 _)
def DZ (T:mX X.mg)(h:PD X e w)(hg:Gl X "len":=by rfl)(he:starEach [e] X.env=(false,eval e X.env)::starEach [] X.env:=by rfl)(oz:(backTo pos<|starEach [] X.env).any (·.1)=false:=by rfl):PD X (.Call (.Name "len" p) [e] [] pos) (uO LW<|sC w BL):=pz Lz Om hg T.len PySem.boot_len (a1 h he) (by decide) rfl he oz
section
variable {es:ak Expr}{x:Str}{k k0:Nat}{ps:ak Str}{f:lp}{fx:FA}{u:DA}
def qC (C:pv X.prog X.w X.K X.mg X.fg x k ps (iD f))(hr:iw k0 X.A)(ha:uW X (e::es) u)(hk:k<=k0:=by first | decide | exact aq _ | lia)(hg:Gl X x:=by rfl)(vm:(x==("__debug__" : Str))=false:=by decide)(he:starEach (e::es) X.env=(false,eval e X.env)::starEach es X.env:=by rfl)(oz:(backTo pos<|starEach es X.env).any (·.1)=false:=by rfl):
 PD X (.Call (.Name x p) (e::es) [] pos) (uO f u):=QB C (hr.mono hk) hg ha vm he oz
end
def qS (i:Nat)(hN:X.N.Nodup)(he:PD X e w)(hi:X.N[i]?=some x:=by rfl)(hx:Loc X.env.scope x:=by first | exact Or.inl rfl | exact Or.inr rfl)(hf:X.fn x=true\/X.env.scope.names.lookup x=some .local:=by first | exact .inl rfl | exact .inr rfl | assumption)
 (LL:swapsWith e (some<|.Name x pos') pos.line X.env=pure false:=by rfl):yu X (.Assign [.Name x pos'] e pos) (Me i w):=RP hN hi hx he hf LL
def qN (i:Nat)(hN:X.N.Nodup)(hi:X.N[i]?=some x:=by rfl)(hx:Loc X.env.scope x:=by first|exact Or.inl rfl|exact Or.inr rfl)(hf:X.fn x=true\/X.env.scope.names.lookup x=some .local:=by first|exact .inl rfl|exact .inr rfl|assumption):PG X (.Name x pos) (ux i):=sV hN hi hx hf
def qT (i:Nat)(hN:X.N.Nodup)(hi:X.N[i]?=some x:=by rfl)(hx:Loc X.env.scope x:=by first|exact Or.inl rfl|exact Or.inr rfl)(hf:X.fn x=true\/X.env.scope.names.lookup x=some .local:=by first|exact .inl rfl|exact .inr rfl|assumption):Tg X (.Name x pos) (ux i) (BJ i) [i]:=⟨sV hN hi hx hf,xa i,oR i⟩
def p9 (S:fN N0 ps UJ)(h:tI N0 UJ N js sc=true)(hN:X.N=N0:=by rfl)(hs:X.env.scope=UJ:=by rfl):jI X N js sc:=BO h hN hs
section
variable {tg iter elt:Expr}{ifs:ak Expr}{sc:Scope}{N:ak Str}{js:ak (ao Nat)}{g:TG}{y:DG}{S:ak Nat}{t:Dt}{wi:DI}
def Q3 (i:Nat)(m:Bool){pos' AK:Pos}{x:Str}(hN:X.N.Nodup)(hc:jI X N js sc)(hi:FN X tg iter wi)(hg:∀ fp s H,N.Nodup->Tg (n0 X N sc fp s H) tg g y S)
 (ht:∀ fp s H,BW (n0 X N sc fp s H) ifs t) (he:∀ fp s H,PD (n0 X N sc fp s H) elt w) (ho:r6 S js=true:=by rfl) (gN:X.gN=true:=by rfl) (E7:X.N[i]?=some x:=by rfl) (hx:Loc X.env.scope x:=by first|exact Or.inl rfl|exact Or.inr rfl) (LL:swapsWith (.ListComp elt [⟨tg,iter,ifs,0⟩] sc pos) (some<|.Name x pos') AK.line X.env=pure true:=by rfl)
 (hs:∀ x,foldedSetIterable iter X.env x=pure x:=by intro _;rfl) (hf:X.fn x=true\/X.env.scope.names.lookup x=some .local:=by first|exact .inl rfl|exact .inr rfl|assumption):
 yu X (.Assign [.Name x pos'] (.ListComp elt [⟨tg,iter,ifs,0⟩] sc pos) AK) (Me i<|Ac m wi js y t w):=Ez m hc gN (hg [] X.s₀ X.H₀ hc.nd).so (hg [] X.s₀ X.H₀ hc.nd).mo ho hN E7 hx hi (λfp s H=>(hg fp s H hc.nd).pg) ht he LL hs hf
def sA (m:Bool)(hc:jI X N js sc)(hi:FN X tg iter wi)(hg:∀ fp s H,N.Nodup->Tg (n0 X N sc fp s H) tg g y S)(ht:∀ fp s H,BW (n0 X N sc fp s H) ifs t)(he:∀ fp s H,PD (n0 X N sc fp s H) elt w)(ho:r6 S js=true:=by rfl)(gN:X.gN=true:=by rfl)
 (hs:∀ x,foldedSetIterable iter X.env x=pure x:=by intro _;rfl):PD X (.ListComp elt [⟨tg,iter,ifs,0⟩] sc pos) (Ac m wi js y t w):=QA m hc gN (hg [] X.s₀ X.H₀ hc.nd).so (hg [] X.s₀ X.H₀ hc.nd).mo ho hi (λfp s H=>(hg fp s H hc.nd).pg) ht he hs
structure U6 (X:Cx)(es:List Expr)(u:Al)(y:N4)(S:List Nat):Prop where
 pg:FL X es u
 so:JP u y S
 mo:rP u
def vF:U6 X [] JC Jg []:=⟨uc,Gz,xI⟩
def lU {e:Expr}{es:ak Expr}{v:DG}{u:Al}{z:N4}{U:ak Nat}(h:Tg X e g v S)(r:U6 X es u z U)(hs:(assignEach (e::es) X.env).map (·.2)=assign e X.env::(assignEach es X.env).map (·.2):=by rfl):U6 X (e::es) (Aj g u) (BK v z) (S++U):=⟨mK h.pg r.pg hs,xg h.so h.mo r.so r.mo,tf h.mo r.mo⟩
def vE (n:Nat){es:ak Expr}{u:Al}{z:N4}{k:Nat}(r:U6 X es u z S)(hc:X.gN=true:=by rfl)(hn:(assignEach es X.env).length=n:=by rfl)(E8:(assignEach es X.env).findIdx? (·.1)=none:=by rfl):Tg X (.Tuple es k pos) (JB n u) (NO n z) S:=⟨xu hc r.pg hn E8,Gy r.so,Hy r.mo⟩
end
end
end L2
namespace L2
open PySem PySem.Spec PyProof.Rows PyProof PySem.W
abbrev pA (s:Stmt):ak Str:=(jt s).args.map (·.arg)
def jo (h1:sc.kind=.function:=by rfl)(h2:sc.isCoroutine=false:=by rfl)(h3:sc.isGenerator=false:=by rfl)(h4:N.Nodup:=by decide +kernel)(h5:N.take P.length=P:=by rfl)
 (h6:∀ x∈P,sc.names.lookup x=some .local\/sc.names.lookup x=some .cell:=by decide +kernel) (h7:∀ y∈sc.names,y.2≠.free:=by decide +kernel):fN N P sc:=⟨h1,h2,h3,h4,h5,h6,h7⟩
def kf (f c:ai)(x q:Str)(s:Stmt)(pm:aj)(t l a r1 r2:Nat)(v1 v2:aj)(r3 t2:Nat):ak (ai×Obj):=[ko f (U1 x q s pm c),ko c (coQ x q t l a r1 r2 v1 v2 r3 t2)]
def kf1 (f c:ai)(x:Str)(s:Stmt)(pm:aj)(t l a r1 r2:Nat)(v1 v2:aj)(r3 t2:Nat):ak (ai×Obj):=kf f c x x s pm t l a r1 r2 v1 v2 r3 t2
def kx (P:Params)(a n h:ai)(x:Str)(sl:ao aj)(t u:Nat)(m:aj)(i l:Nat)(st:ai)(sub:ak aj:=[])(bs:ak aj:=[.ref h])(mro:ak aj:=[.ref a,.ref h,.type "ValueError",.type "Exception",.type "BaseException",.type "object"]):ak (ai×Obj) :=
 [ko a ⟨.type "type",none,.cls ⟨x,bs,mro,n,x,true,[],sub,false,none,false⟩,#[sl,none,some (.str x t),some (.str x u),some (.builtin "ValueError.__new__"),some (.bool true)]⟩,
  ko n ⟨.type "dict",none,.dict #[tG P "__module__" i m,tG P "__firstlineno__" (i+4) (.int l<|i+3),tG P "__static_attributes__" (i+5) (.ref st),tG P "__doc__" (i+6) .none] 2,#[]⟩]
section
variable {K:Frag}{x q:Str}{s:Stmt}{f:ai}{fd:ag}{ps:ak Str}(F:j7 K x q s f fd)
include F
theorem Rt (hl:ps.length=1:=by rfl)(h:∀(kV doc pm:aj) (an:ao ai) (jL ct a:aj),bindArgs (fnOf x q (jt s) (iM s) (fo s) .none kV doc pm an jL ct) ⟨[a],[]⟩=pure (ps.zip [a]):=by intros;rfl):Binds K fd ps []:=F.binds λk d p n c t=>hl▸QL λa=>h k d p n c t a
theorem FK (hl:ps.length=2:=by rfl)(h:∀(kV doc pm:aj) (an:ao ai) (jL ct a b:aj),bindArgs (fnOf x q (jt s) (iM s) (fo s) .none kV doc pm an jL ct) ⟨[a,b],[]⟩=pure (ps.zip [a,b]):=by intros;rfl):Binds K fd ps []:=F.binds λk d p n c t=>hl▸Kg λa=>QL λb=>h k d p n c t a b
theorem JJ (hl:ps.length=3:=by rfl)(h:∀(kV doc pm:aj) (an:ao ai) (jL ct a b e:aj),bindArgs (fnOf x q (jt s) (iM s) (fo s) .none kV doc pm an jL ct) ⟨[a,b,e],[]⟩=pure (ps.zip [a,b,e]):=by intros;rfl):Binds K fd ps []:=F.binds λk d p n c t=>hl▸Kg λa=>Kg λb=>QL λe=>h k d p n c t a b e
theorem Rr (hl:ps.length=4:=by rfl)(h:∀(kV doc pm:aj) (an:ao ai) (jL ct a b e g:aj),bindArgs (fnOf x q (jt s) (iM s) (fo s) .none kV doc pm an jL ct) ⟨[a,b,e,g],[]⟩=pure (ps.zip [a,b,e,g]):=by intros;rfl):Binds K fd ps []:=F.binds λk d p n c t=>hl▸Kg λa=>Kg λb=>Kg λe=>QL λg=>h k d p n c t a b e g
end
end L2
namespace L2
open PySem PySem.Spec PyProof.Rows PyProof
def pD (p:RS×Dd):D:=.tup [slD p.1,ddD p.2]
def w0 (n:Nat):Bool:=n==0
def w1 (n:Nat):Bool:=n==1
open PySem PySem.Spec PyProof.Rows
def hJ.vo (cs:ak Int)(ts:ak Tk):hJ->ao Tk
 |.num n=>if 0<=n then ts[n.toNat]? else none
 | .j0 p l r=>match l.vo cs ts,r.vo cs ts with
  |some a,some b=>if p∈cs then some (px a b p)else none
  |_,_=>none
theorem hJ.vC {cs:ak Int}{ts:ak Tk}:∀ {t:hJ} {v:Tk},t.vo cs ts=some v->t.ok cs ts.length/\t.val ts=v
 | .num n,v,h=>by
  have h:(if 0<=n then ts[n.toNat]? else none)=some v:=h;split at h
  .have:=(kP h).1;exact⟨⟨‹_›,by lia⟩,by show(ts[n.toNat]?).getD ([],0)=v;rw[h];rfl⟩
  .cases h
 | .j0 p l r,v,h=>by
  have h:(match l.vo cs ts,r.vo cs ts with|some a,some b=>if p∈cs then some (px a b p)else none|_,_=>none)=some v:=h;cases el:l.vo cs ts with
  |none=>rw[el]at h;cases h
  | some a =>
   cases er:r.vo cs ts with
   |none=>rw[el,er]at h;cases h
   | some b =>
    rw[el,er]at h;have h:(if p∈cs then some (px a b p)else none)=some v:=h;split at h
    .rename_i hp;cases h;obtain⟨l1,l2⟩:=vC el;obtain⟨r1,r2⟩:=vC er;exact⟨⟨hp,l1,r1⟩,by show px (l.val ts) (r.val ts) p=_;rw[l2,r2]⟩
    .cases h
theorem hJ.Hn {cs:ak Int}{ts:ak Tk}:∀ {t:hJ},t.ok cs ts.length->t.vo cs ts=some (t.val ts)
 | .num n,h=>by obtain⟨h0,h1⟩:0<=n/\n<ts.length:=h;show(if 0<=n then ts[n.toNat]? else none)=some ((ts[n.toNat]?).getD ([],0));rw[aA h0,iT (by lia)];rfl
 | .j0 p l r,h=>by show(match l.vo cs ts,r.vo cs ts with|some a,some b=>if p∈cs then some (px a b p)else none|_,_=>none)=_;rw[Hn h.2.1,Hn h.2.2];exact aA h.1
def W0 (cB:ai):FA:=λds μ K Kx=>dM [.i,.l,.l,.v] ds λn x y d=>(∃ m,μ[0]?=some m)/\∃(cs:ak Int) (ts:ak Tk) (t:hJ),x=cs.map D.int/\y=ts.map rV/\d=i7 t/\t.cnt<=1000/\(∀ p∈cs,0<=p)/\n<=1000/\(∀ t∈ts,yq n t)/\(match t.vo cs ts with|some v=>K (rV v) μ|none=>Kx (.ref cB) μ)
def Q2 (o:ao Tk):D:=match o with
 |some v=>rV v
 |none=>.gz
def xY (n:Nat):lp:=λds μ K=>dM [.l,.l,.v] ds λc y d=>∃(cs:ak Int) (ts:ak Tk) (t:hJ) (z:Int),c=cs.map D.int/\y=ts.map rV/\d=i7 t/\t.dep<=n/\(∀ p∈cs,0<=p)/\z<=1000/\(∀ t∈ts,yq z t)/\K (Q2<|t.vo cs ts) μ
def rZ (f:Nat->Int):ak Nat->Int->ao (Nat×Int)
 |[],_=>none
 |k::M,r=>if r<f k then some (k,r)else rZ f M (r - f k)
def rL (es:ak Int)(ts:ak Tk):Nat->Nat->Nat->Int->hJ
 |0,_,_,_=>.num 0
 | a+1,i,j,r=>if fG es ts (a+1) i j=0 then .num ((o9 es ts a i j).getD r.toNat 0:Nat)else
  match rZ (λk=>gM es ts a i k*gM es ts a k j) (kN (fG es ts<|a+1) (fG es ts a) i j) r with
  |some (k,q)=>.j0 (es.getD k 0) (rL es ts a i k<|q / gM es ts a k j) (rL es ts a k j<|q%gM es ts a k j)
  |none=>.num 0
def nG (es:ak Int)(ts:ak Tk):Nat->Nat->Nat->hJ->Prop
 |0,_,_,_=>False
 | a+1,i,j,t=>if fG es ts (a+1) i j=0 then ∃ x∈o9 es ts a i j,t=.num (x:Nat)else
  ∃ k∈kN (fG es ts<|a+1) (fG es ts a) i j,∃ l r,t=.j0 (es.getD k 0) l r/\nG es ts a i k l/\nG es ts a k j r
def mE (es:ak Int)(f:Nat->Int)(p:Int):ak Nat->ao (Nat×Int)
 |[]=>none
 |k::M=>if es.getD k 0=p then some (k,0)else(mE es f p M).map λq=>(q.1,f k+q.2)
def rkT (l:ak Nat):hJ->ao Int
 |.num n=>(l.findIdx? λx:Nat=>decide ((x:Int)=n)).map λi=>((i:Nat):Int)
 |.j0 _ _ _=>none
def Cq (es:ak Int)(ts:ak Tk):Nat->Nat->Nat->hJ->ao Int
 |0,_,_,_=>none
 | a+1,i,j,t=>if fG es ts (a+1) i j=0 then rkT (o9 es ts a i j) t else
  match t with
  |.num _=>none
  | .j0 p l r=>match mE es (λk=>gM es ts a i k*gM es ts a k j) p (kN (fG es ts<|a+1) (fG es ts a) i j)with
   |none=>none
   | some (k,h)=>match Cq es ts a i k l,Cq es ts a k j r with
    |some x,some y=>some (h+x*gM es ts a k j+y)
    |_,_=>none
theorem oO {f:Nat->Int}:∀ {M:ak Nat} {r:Int},0<=r->r<(M.map f).sum->∃ z k,M[z]?=some k/\rZ f M r=some (k,r - ((M.take z).map f).sum)/\0<=r - ((M.take z).map f).sum/\r - ((M.take z).map f).sum<f k
 |[],r,h0,h=>by simp at h;lia
 | k::M,r,h0,h=>by
  by_cases q:r<f k
  .exact⟨0,k,rfl,by unfold rZ;rw[aA q];simp,by simpa using h0,by simpa using q⟩
  .rw[az,cc]at h;obtain⟨z,k',h1,h2,h3,h4⟩:=oO (f:=f) (M:=M) (r:=r - f k) (by lia) (by lia);refine⟨z+1,k',h1,?_,?_,?_⟩
   .unfold rZ;rw[aC q,h2,cF,az,cc];congr 2;lia
   .rw[cF,az,cc];lia
   .rw[cF,az,cc];lia
theorem p5 {es:ak Int}{f:Nat->Int}{p:Int}:∀ {M:ak Nat} {k:Nat} {h:Int},mE es f p M=some (k,h)->∃ z,M[z]?=some k/\es.getD k 0=p/\h=((M.take z).map f).sum
 |[],k,h,e=>by cases e
 | k'::M,k,h,e=>by
  unfold mE at e;by_cases q:es.getD k' 0=p
  .rw[aA q]at e;cases e;exact⟨0,rfl,q,rfl⟩
  .rw[aC q]at e;cases e2:mE es f p M with
   |none=>rw[e2]at e;cases e
   | some x =>rw[e2]at e;obtain⟨k2,h2⟩:=x;cases e;refine jB (p5 e2) λz h1 h3 h4=>?_;exact⟨z+1,h1,h3,by rw[cF,az,cc,h4]⟩
theorem uV {es:ak Int}{f:Nat->Int}:∀ {M:ak Nat} {z k:Nat},(∀ x∈M,∀ y∈M,es.getD x 0=es.getD y 0->x=y)->M.Nodup->M[z]?=some k->mE es f (es.getD k 0) M=some (k,((M.take z).map f).sum)
 |[],z,k,_,_,h=>by cases h
 |k'::M,0,k,hi,nd,h=>by cases h;unfold mE;rw[aA rfl];rfl
 | k'::M,z+1,k,hi,nd,h=>by have hk:k∈M:=lC<|show M[z]?=some k from h;obtain⟨n1,n2⟩:=List.nodup_cons.mp nd;unfold mE;rw[aC λe=>n1 (by rw[hi k' aH k (mQ _ hk) e];exact hk),uV (z:=z) (λx hx y hy=>hi x (mQ _ hx) y<|mQ _ hy) n2 h,cF,az,cc];rfl
theorem qk {f:Nat->Int}:∀ {M:ak Nat} {z k:Nat} {q:Int},(∀ x∈M,0<=f x)->M[z]?=some k->0<=q->q<f k->rZ f M (((M.take z).map f).sum+q)=some (k,q)/\((M.take z).map f).sum+q<(M.map f).sum/\0<=((M.take z).map f).sum
 |[],z,k,q,_,h,_,_=>by cases h
 | k'::M,0,k,q,hn,h,h0,h1=>by
  cases h;have:=(wW (f:=f) (l:=M) λx hx=>hn x<|mQ _ hx);refine⟨?_,?_,?_⟩
  .unfold rZ;rw[List.take_zero,eG,List.sum_nil,Int.zero_add,aA h1]
  .rw[List.take_zero,eG,List.sum_nil,az,cc];lia
  .rw[List.take_zero,eG,List.sum_nil];exact bo _
 | k'::M,z+1,k,q,hn,h,h0,h1=>by refine jr (qk (M:=M) (z:=z) (λx hx=>hn x<|mQ _ hx) h h0 h1) λg1 g2 g3=>?_;have:=hn k' aH;rw[cF,az,cc,az,cc];refine⟨?_,by lia,by lia⟩;unfold rZ;rw[aC (by lia),show f k'+(List.map f<|M.take z).sum+q - f k'=(List.map f<|M.take z).sum+q by lia];exact g1
where wW {f:Nat->Int}:∀ {l:ak Nat},(∀ x∈l,0<=f x)->0<=(l.map f).sum
 |[],_=>bo _
 | x::l,h=>by have:=h x aH;have:=wW (l:=l) λy hy=>h y<|mQ _ hy;rw[az,cc];lia
def Hz (T U:Nat->Nat->Int)(i j:Nat):(kN T U i j).Nodup:=by delta kN;exact dt c7 (List.pairwise_map.mpr<|eK (λ{a b} (q:a<b)=>by lia) dg)
def Pb (es:ak Int)(ts:ak Tk)(a:Int)(i j:Nat):(o9 es ts a i j).Nodup:=by delta o9;exact dt c7 List.nodup_range
section
variable {es:ak Int}{ts:ak Tk}(hu:es.Pairwise (·<·))(hL:es.length<=100)(ht:ts.length<=100)
def BF (hu:es.Pairwise (·<·)){x y:Nat}(hx:x<es.length)(hy:y<es.length)(e:es.getD x 0=es.getD y 0):x=y:=by
 rcases cz x y with q|q|q
 .have:=kb hu (getD_some hx) (getD_some hy) q;lia
 .exact q
 .have:=kb hu (getD_some hy) (getD_some hx) q;lia
include hu hL ht
theorem qY:∀(a i j:Nat) (r:Int),i<j->j<es.length->0<=r->r<gM es ts a i j->Cq es ts a i j (rL es ts a i j r)=some r
 |0,i,j,r,_,_,h0,h=>by have:r<0:=h;lia
 | a+1,i,j,r,lH,hj,h0,h=>by
  unfold gM at h;unfold Cq rL;by_cases q:fG es ts (a+1) i j=0
  .rw[aA q]at h;rw[aA q,aA q];have hr:r.toNat<(o9 es ts a i j).length:=by lia
   show((o9 es ts a i j).findIdx? _).map _=_;have e:(o9 es ts a i j).findIdx? (λx:Nat=>decide ((x:Int)=(((o9 es ts a i j).getD r.toNat 0:Nat):Int)))=some r.toNat:=by rw[d7];refine⟨hr,aB (by rw[ar,iT hr];rfl),λk hk=>?_⟩;rw[bA];intro e;rw[ar,iT hr]at e;have e:(o9 es ts a i j)[k]=(o9 es ts a i j)[r.toNat]:=Int.ofNat_inj.mp (by simpa using e);exact absurd ((List.getElem_inj<|Pb es ts a i j).mp e) (aw ‹_›)
   rw[e];show some ((r.toNat:Nat):Int)=some r;rw[bW h0]
  .rw[aC q]at h;rw[aC q,aC q];refine lP (oO (f:=λk=>gM es ts a i k*gM es ts a k j) h0 h) λz k e1 e2 e3 e4=>?_;refine jr (hG.mp<|lC e1) λk1 k2 k3=>?_;generalize hq:r - ((List.take z<|kN (fG es ts<|a+1) (fG es ts a) i j).map λk=>gM es ts a i k*gM es ts a k j).sum=v at e2 e3 e4;rw[e2];dsimp only;rw[uV (z:=z) (λx hx y hy e=>BF hu (by have:=hG.mp hx;lia) (by have:=hG.mp hy;lia) e) (Hz _ _ i j) e1];dsimp only;have b1:=jV hL ht a i k k1 (by lia);have b2:=jV hL ht a k j k2 hj;have pos:0<gM es ts a k j:=by
    rcases dW b2.1 with q|q
    .exact q
    .rw[<- q,Int.mul_zero]at e4;lia
   have d1:0<=v / gM es ts a k j:=Int.ediv_nonneg e3 b2.1;have d2:v / gM es ts a k j<gM es ts a i k:=eU pos e4;have m1:=dP v (show gM es ts a k j≠0 by lia);have m2:=dh v pos;rw[qY a i k _ k1 (by lia) d1 d2,qY a k j _ k2 hj m1 m2];dsimp only;congr 1;have:=eT v<|gM es ts a k j;rw[Int.mul_comm]at this;lia
end
section
variable {es:ak Int}{ts:ak Tk}(hL:es.length<=100)(ht:ts.length<=100)
include hL ht
theorem BP:∀(a i j:Nat) (t:hJ) (r:Int),i<j->j<es.length->Cq es ts a i j t=some r->0<=r/\r<gM es ts a i j/\rL es ts a i j r=t
 |0,i,j,t,r,_,_,h=>by cases h
 | a+1,i,j,t,r,lH,hj,h=>by
  unfold Cq at h;unfold gM rL;by_cases q:fG es ts (a+1) i j=0
  .rw[aA q]at h;rw[aA q,aA q];cases t with
   |j0 _ _ _=>cases h
   | num n =>
    have h:((o9 es ts a i j).findIdx? λx:Nat=>decide ((x:Int)=n)).map (λi=>((i:Nat):Int))=some r:=h;cases e:(o9 es ts a i j).findIdx? λx:Nat=>decide ((x:Int)=n)with
    |none=>rw[e]at h;cases h
    | some z =>rw[e]at h;cases h;rw[d7]at e;obtain⟨e1,e2,_⟩:=e;refine⟨by lia,by lia,?_⟩;rw[Ff,ar,iT e1];rw[bA]at e2;show hJ.num _=_;rw[<- e2];rfl
  .rw[aC q]at h;rw[aC q,aC q];cases t with
   |num _=>cases h
   | j0 p l r' =>
    dsimp only at h;cases ea:mE es (λk=>gM es ts a i k*gM es ts a k j) p (kN (fG es ts<|a+1) (fG es ts a) i j)with
    |none=>rw[ea]at h;cases h
    | some x =>
     obtain⟨k,hd⟩:=x;rw[ea]at h;dsimp only at h;refine jB (p5 ea) λz e1 e2 e3=>?_;refine jr (hG.mp<|lC e1) λk1 k2 k3=>?_;cases el:Cq es ts a i k l with
     |none=>rw[el]at h;cases h
     | some x =>
      cases er:Cq es ts a k j r' with
      |none=>rw[el,er]at h;cases h
      | some y =>
       rw[el,er]at h;cases h;refine jr (BP a i k l x k1 (by lia) el) λx0 x1 x2=>?_;refine jr (BP a k j r' y k2 hj er) λy0 y1 y2=>?_;have xy0:0<=x*gM es ts a k j+y:=by have:=c9 x0 (show 0<=gM es ts a k j by lia);lia
       have xy1:x*gM es ts a k j+y<gM es ts a i k*gM es ts a k j:=by have h1:(x+1)*gM es ts a k j<=gM es ts a i k*gM es ts a k j:=Int.mul_le_mul_of_nonneg_right (by lia) (by lia);rw[Int.add_mul,Int.one_mul]at h1;lia
       obtain⟨g1,g2,g3⟩:=qk (f:=λk=>gM es ts a i k*gM es ts a k j) (λm hm=>by
        refine jr (hG.mp hm) λm1 m2 _=>?_
        exact c9 (jV hL ht a i m m1<|by lia).1 (jV hL ht a m j m2 hj).1) e1 xy0 xy1
       rw[e3,Int.add_assoc];refine⟨by lia,g2,?_⟩;rw[g1];dsimp only;have cp:0<gM es ts a k j:=by lia
       rw[show(x*gM es ts a k j+y) / gM es ts a k j=x by rw[Int.add_comm,Int.add_mul_ediv_right _ _ (by lia),Int.ediv_eq_zero_of_lt y0 y1,Int.zero_add],show(x*gM es ts a k j+y)%gM es ts a k j=y by rw[Int.add_comm,Int.add_mul_emod_self_right,Int.emod_eq_of_lt y0 y1],x2,y2,e2]
end
section
variable {es:ak Int}{ts:ak Tk}(hu:es.Pairwise (·<·))
include hu
theorem lZ:∀(a i j:Nat) (t:hJ),i<j->j<es.length->((Cq es ts a i j t).isSome=true↔nG es ts a i j t)
 |0,i,j,t,_,_=>⟨λh=>(by cases h),λh=>h.elim⟩
 | a+1,i,j,t,lH,hj=>by
  unfold Cq nG;by_cases q:fG es ts (a+1) i j=0
  .rw[aA q,aA q];cases t with
   |j0 _ _ _=>exact⟨λh=>(by cases h),λ⟨x,_,e⟩=>by cases e⟩
   | num n =>
    show(((o9 es ts a i j).findIdx? λx:Nat=>decide ((x:Int)=n)).map λi=>((i:Nat):Int)).isSome=true↔_;rw[Option.isSome_map,List.findIdx?_isSome,List.any_eq_true];constructor
    .rintro⟨x,hx,e⟩;exact⟨x,hx,by rw[bp e]⟩
    .rintro⟨x,hx,e⟩;cases e;exact⟨x,hx,aB rfl⟩
  .rw[aC q,aC q];cases t with
   |num _=>exact⟨λh=>(by cases h),λ⟨x,_,_,_,e,_⟩=>by cases e⟩
   | j0 p l r =>
    dsimp only;constructor
    .intro h;cases ea:mE es (λk=>gM es ts a i k*gM es ts a k j) p (kN (fG es ts<|a+1) (fG es ts a) i j)with
     |none=>rw[ea]at h;cases h
     | some x =>
      obtain⟨k,hd⟩:=x;rw[ea]at h;dsimp only at h;refine jB (p5 ea) λz e1 e2 e3=>?_;have km:=lC e1;refine jr (hG.mp km) λk1 k2 k3=>?_;refine⟨k,km,l,r,by rw[e2],(lZ a i k l k1<|ck ‹_› ‹_›).mp ?_,(lZ a k j r k2 hj).mp ?_⟩
      .cases el:Cq es ts a i k l with
       |none=>rw[el]at h;cases h
       |some x=>rfl
      .cases er:Cq es ts a k j r with
       |none=>rw[er]at h;cases el:Cq es ts a i k l<;>(rw[el]at h;cases h)
       |some x=>rfl
    .rintro⟨k,km,l',r',e,bl,br⟩;cases e;refine jr (hG.mp km) λk1 k2 k3=>?_;obtain⟨z,hz,ez⟩:=aN km;have e1:(kN (fG es ts<|a+1) (fG es ts a) i j)[z]?=some k:=by rw[iT hz,ez]
     rw[uV (z:=z) (λx hx y hy e=>BF hu (by have:=hG.mp hx;lia) (by have:=hG.mp hy;lia) e) (Hz _ _ i j) e1];dsimp only;obtain⟨x,hx⟩:=Option.isSome_iff_exists.mp ((lZ a i k l k1<|by lia).mpr bl);obtain⟨y,hy⟩:=Option.isSome_iff_exists.mp<|(lZ a k j r k2 hj).mpr br;rw[hx,hy];rfl
end
def xH {es:ak Int}{ts:ak Tk}{a:Int}{i j x:Nat}:x∈o9 es ts a i j↔∃ t,ts[x]?=some t/\t.2<=a/\es.getD j 0<=je es t.1 (es.getD i 0):=by
 delta o9;rw[List.mem_filter,bU];constructor
 .rintro⟨h1,h2⟩;rw[iT h1]at h2 ⊢
  rw[cu,bA,bA]at h2;exact⟨_,rfl,h2⟩
 .refine λh_=>jB h_ λt e h1 h2=>?_;refine⟨(kP e).1,?_⟩;rw[e];dsimp only;rw[aB h1,aB h2];rfl
def L4 {n:Int}{cs:ak Int}{k:Nat}(h0:0<k)(h1:k<cs.length+1):(e9 n cs).getD k 0∈cs:=by
 obtain⟨k,rfl⟩:∃ x,k=x+1:=⟨k - 1,by lia⟩;have e:(e9 n cs)[k+1]?=some cs[k]:=by delta e9;rw[List.cons_append,dZ,vX (by lia),iT]
 rw[ar,e];exact a9 _
def Mi {n:Int}{cs:ak Int}{p:Int}(h:p∈cs):∃ k,k<(e9 n cs).length/\(e9 n cs).getD k 0=p:=by
 have:p∈e9 n cs:=by delta e9;simp[h]
 obtain⟨k,hk,e⟩:=aN this;exact⟨k,hk,by rw[ar,iT hk,e];rfl⟩
def MH {es:ak Int}(hu:es.Pairwise (·<·)){x y:Nat}(hx:x<es.length)(hy:y<es.length)(h:es.getD x 0<es.getD y 0):x<y:=by
 rcases cz x y with q|q|q
 .exact q
 .subst q;lia
 .have:=kb hu (getD_some hy) (getD_some hx) q;lia
def Gj {n:Int}{cs:ak Int}{ts:ak Tk}{a i j:Nat}(hi:i<(e9 n cs).length)(h:(e9 n cs).getD j 0<=jz (e9 n cs) ts a ((e9 n cs).getD i 0)):fG (e9 n cs) ts (a+1) i j=0:=by show i8 _ _ _ _ i j=0;delta i8;rw[aA];rw[mL (getD_some hi)];exact h
theorem tp {cs:ak Int}{ts:ak Tk}:∀ {t:hJ},t.ok cs ts.length->u3 cs ts t.dep (t.val ts).1 (t.val ts).2
 | .num x,ok=>by obtain⟨t,e⟩:∃ t,ts[x.toNat]?=some t:=⟨_,iT (by have:=ok.1;have:=ok.2;lia)⟩;rw[hJ.wL e];exact lC e
 |.j0 p l r,ok=>.inr ⟨_,_,_,_,p,(tp ok.2.1).le<|Nat.le_max_left _ _,(tp ok.2.2).le<|Nat.le_max_right _ _,ok.1,rfl,rfl⟩
section
variable {n:Int}{cs:ak Int}{ts:ak Tk}(S:gP n cs ts)
include S
theorem Gm {a i j k:Nat}(h1:i<k)(h2:k<j)(hj:j<(e9 n cs).length):fG (e9 n cs) ts (a+1) i j<=fG (e9 n cs) ts a i k+fG (e9 n cs) ts a k j+1:=by
 have tb:=vG S;have n1:=tb.nn a i k (by lia) (by lia);have n2:=tb.nn a k j (by lia) hj;show i8 _ _ _ _ i j<=_;delta i8;split
 .lia
 .exact(jT _ _).2.2 _ (lO.mpr ⟨k,h1,h2,rfl⟩)
theorem qR:∀ t∈ts,yq n t:=λt h=>⟨(S.takes.ok t h).1,(S.takes.ok t h).2.2.1⟩
theorem mV:∀(a i j:Nat) (t:hJ),i<j->j<(e9 n cs).length->nG (e9 n cs) ts a i j t->t.ok cs ts.length/\(t.cnt:Int)=fG (e9 n cs) ts a i j+1/\(t.val ts).2+1<=a/\FO (t.val ts).1 ((e9 n cs).getD i 0) ((e9 n cs).getD j 0)
 |0,i,j,t,_,_,h=>h.elim
 | a+1,i,j,t,lH,hj,h=>by
  unfold nG at h;have tF:=fO n cs;by_cases q:fG (e9 n cs) ts (a+1) i j=0
  .rw[aA q]at h;obtain⟨x,hx,rfl⟩:=h;refine jB (xH.mp hx) λt e h1 h2=>?_;have hxl:=(kP e).1;have ok:=S.takes.ok t<|lC e;have ev:(hJ.num (x:Nat)).val ts=t:=hJ.wL (by rw[Ff];exact e);have ei:=iL S.n1 S.ij (lC<|getD_some<|show i<(e9 n cs).length by lia);refine⟨⟨(eZ _),by lia⟩,by rw[q];rfl,by rw[ev];lia,?_⟩;rw[ev];exact Du ok.2.1 ei.1 (by have:=ok.1;lia) h2
  .rw[aC q]at h;obtain⟨k,hk,l,r,rfl,bl,br⟩:=h;refine jr (hG.mp hk) λk1 k2 k3=>?_;refine z5 (mV a i k l k1 (by lia) bl) λl1 l2 l3 l4=>?_;refine z5 (mV a k j r k2 hj br) λr1 r2 r3 r4=>?_;have hc:=L4 (n:=n) (cs:=cs) (k:=k) (by lia) (by lia);have hp:=S.ij.J6 _ hc;have vl:=(hJ.m4 (qR S) l1).1;refine⟨⟨hc,l1,r1⟩,?_,?_,?_⟩
   .show((l.cnt+r.cnt:Nat):Int)=_;lia
   .show max (l.val ts).2 (r.val ts).2+1+1<=_;lia
   .intro x x1 x2;show(J4 (l.val ts).1 (r.val ts).1 _)[x]?=_;by_cases z:(x:Int)<(e9 n cs).getD k 0
    .rw[oW (by lia) z];exact l4 x x1 z
    .rw[mP (by lia) (by lia) (by lia)];exact r4 x (by lia) x2
theorem kC:∀(t:hJ) (a i j:Nat),i<j->j<(e9 n cs).length->t.ok cs ts.length->(t.val ts).2<=a->FO (t.val ts).1 ((e9 n cs).getD i 0) ((e9 n cs).getD j 0)->fG (e9 n cs) ts (a+1) i j+1<=t.cnt/\((t.cnt:Int)=fG (e9 n cs) ts (a+1) i j+1->nG (e9 n cs) ts (a+1) i j t)
 | .num x,a,i,j,lH,hj,ok,ha,hc=>by
  obtain⟨x,rfl⟩:∃ y:Nat,x=y:=⟨x.toNat,by have:=ok.1;lia⟩;have hx:x<ts.length:=by have:=ok.2;lia
  obtain⟨t,e⟩:∃ t,ts[x]?=some t:=⟨_,iT hx⟩;have ev:(hJ.num (x:Nat)).val ts=t:=hJ.wL (by rw[Ff];exact e);rw[ev]at ha hc;have tk:=S.takes.ok t<|lC e;have hu:=gr S.n1 S.ij;have gi:=getD_some (show i<(e9 n cs).length by lia);have gj:=getD_some hj;have ei:=iL S.n1 S.ij<|lC gi;have ej:=iL S.n1 S.ij<|lC gj;have lt:=kb hu gi gj lH;have Ro:=yd (es:=e9 n cs) tk.2.1 ei.1 (cv ‹_›) (by have:=tk.1;lia) (lC gj) hc;have t0:=Gj (n:=n) (cs:=cs) (ts:=ts) (a:=a) (i:=i) (j:=j) (by lia)<|bT Ro<|ql (lC e) ha;refine⟨by rw[t0];show(0:Int)+1<=((1:Nat):Int);decide,λ_=>?_⟩;unfold nG;rw[aA t0];exact⟨x,xH.mpr ⟨t,e,ha,Ro⟩,rfl⟩
 | .j0 p l r,a,i,j,lH,hj,ok,ha,hc=>by
  refine jr ok λpc ol or=>?_;have hp:=S.ij.J6 p pc;have hu:=gr S.n1 S.ij;have vl:=hJ.m4 (qR S) ol;have vr:=hJ.m4 (qR S) or;have Ys:=vl.1;have ha:max (l.val ts).2 (r.val ts).2+1<=(a:Int):=ha;have hc:FO (J4 (l.val ts).1 (r.val ts).1 p) ((e9 n cs).getD i 0) ((e9 n cs).getD j 0):=hc;have cp:=l.lF;have cr:=r.lF;have ec:(((hJ.j0 p l r).cnt:Nat):Int)=(l.cnt:Int)+r.cnt:=by show((l.cnt+r.cnt:Nat):Int)=_;lia
  rw[ec];by_cases q1:(e9 n cs).getD j 0<=p
  .have:=(kC l a i j lH hj ol (by lia) λk k1 k2=>by rw[<- oW (l2:=(r.val ts).1) (p:=p) (by lia) (by lia)];exact hc k k1 k2).1;exact⟨by lia,λe=>by lia⟩
  by_cases q2:p<=(e9 n cs).getD i 0
  .have:=(kC r a i j lH hj or (by lia) λk k1 k2=>by rw[<- mP (l1:=(l.val ts).1) (p:=p) (by lia) (by lia) (by lia)];exact hc k k1 k2).1;exact⟨by lia,λe=>by lia⟩
  refine fj (Mi (n:=n) pc) λk hk ek=>?_;have k1:i<k:=MH hu (by lia) hk (by lia);have k2:k<j:=MH hu hk hj (by lia);have v0:=vl.2;have v1:=vr.2;obtain⟨a,rfl⟩:∃ x,a=x+1:=⟨a - 1,by lia⟩;have il:=kC l a i k k1 hk ol (by lia) λx x1 x2=>by rw[<- oW (l2:=(r.val ts).1) (p:=p) (by lia) (by lia)];exact hc x x1 (by lia)
  have ir:=kC r a k j k2 hj or (by lia) λx x1 x2=>by rw[<- mP (l1:=(l.val ts).1) (p:=p) (by lia) (by lia) (by lia)];exact hc x (by lia) x2
  have tj:=Gm S (a:=a+1) k1 k2 hj;refine⟨by lia,λe=>?_⟩;have tb:=vG S;have n1:=tb.nn (a+1) i k (by lia) (by lia);have n2:=tb.nn (a+1) k j (by lia) hj;unfold nG;rw[aC (by lia)];exact⟨k,hG.mpr ⟨k1,k2,by lia⟩,l,r,by rw[ek],il.2<|by lia,ir.2<|by lia⟩
theorem wx {t:hJ}{A:Nat}(hl:hV (e9 n cs) ts n A)(ok:t.ok cs ts.length)(hc:FO (t.val ts).1 0 n):(A:Int)<=(t.val ts).2:=by
 have v:=hJ.m4 (qR S) ok;have v2:=v.2;have n1:=S.n1;have nm:n∈e9 n cs:=by delta e9;simp
 have h:=qt S (a:=(t.val ts).2.toNat) (tp ok) (by lia) 0 n (oY n cs) nm (cv ‹_›) hc;have h2:=iL S.n1 S.ij<|(kK S (t.val ts).2.toNat).mem 0<|oY n cs;have:=least_le S (a:=(t.val ts).2.toNat) (by lia) hl;lia
theorem oG {t:hJ}{A:Nat}(hl:hV (e9 n cs) ts n A):nG (e9 n cs) ts (A+1) 0 (cs.length+1) t↔(t.ok cs ts.length/\t.val ts=(List.replicate n.toNat 111,(A:Int))/\(t.cnt:Int)=fG (e9 n cs) ts (A+1) 0 (cs.length+1)+1):=by
 have tF:=fO n cs;have g0:(e9 n cs).getD 0 0=0:=by rw[ar,uH];rfl
 have gn:(e9 n cs).getD (cs.length+1) 0=n:=by rw[ar,pU];rfl
 constructor
 .intro h;refine z5 (mV S _ _ _ _ (by lia) (by lia) h) λh1 h2 h3 h4=>?_;rw[g0,gn]at h4;have:=wx S hl h1 h4;have v:=hJ.m4 (qR S) h1;exact⟨h1,Prod.ext (Ml v.1 h4) (by show(t.val ts).2=(A:Int);lia),h2⟩
 .rintro⟨h1,h2,h3⟩;refine(kC S t A 0 (cs.length+1) (by lia) (by lia) h1 (by rw[h2];exact bo _) ?_).2 h3;rw[g0,gn,h2];exact yp n 0 n (bo _) (bo _)
end
def U0:hJ->hJ->Prop
 |.num a,.num b=>a<b
 |.j0 p l r,.j0 p' l' r'=>p<p'\/(p=p'/\(U0 l l'\/(l=l'/\U0 r r')))
 |_,_=>False
def mid_up (T U:Nat->Nat->Int)(i j:Nat):(kN T U i j).Pairwise (·<·):=by delta kN;exact dt c7 (List.pairwise_map.mpr<|eK (λ{a b} (q:a<b)=>by lia) dg)
def Pa (es:ak Int)(ts:ak Tk)(a:Int)(i j:Nat):(o9 es ts a i j).Pairwise (·<·):=by delta o9;exact dt c7 dg
def Oh {f:Nat->Int}{M:ak Nat}(hn:∀ x∈M,0<=f x){z z' k:Nat}(hz:M[z]?=some k)(h:z<z'):((M.take z).map f).sum+f k<=((M.take z').map f).sum:=by
 obtain⟨hl,rfl⟩:=kP hz;have e:M.take z'=M.take (z+1)++(M.take z').drop (z+1):=by rw[show M.take (z+1)=(M.take z').take (z+1) by rw[List.take_take,cj ‹_›],List.take_append_drop]
 rw[e,bI,List.sum_append,tQ hl];have:=qk.wW (f:=f) (l:=(M.take z').drop<|z+1) λx hx=>hn x<|aV<|List.mem_of_mem_drop hx;lia
section
variable {es:ak Int}{ts:ak Tk}(hu:es.Pairwise (·<·))(hL:es.length<=100)(ht:ts.length<=100)
include hu hL ht
theorem BQ:∀(a i j:Nat) (r r':Int),i<j->j<es.length->0<=r->r<r'->r'<gM es ts a i j->U0 (rL es ts a i j r) (rL es ts a i j r')
 |0,i,j,r,r',_,_,h0,_,h=>by have:r'<0:=h;lia
 | a+1,i,j,r,r',lH,hj,h0,ky,h=>by
  unfold gM at h;unfold rL;by_cases q:fG es ts (a+1) i j=0
  .rw[aA q]at h;rw[aA q,aA q];have g1:r.toNat<(o9 es ts a i j).length:=by lia
   have g2:r'.toNat<(o9 es ts a i j).length:=by lia
   show(((o9 es ts a i j).getD r.toNat 0:Nat):Int)<(((o9 es ts a i j).getD r'.toNat 0:Nat):Int);rw[ar,ar,iT g1,iT g2];have:=List.pairwise_iff_getElem.mp (Pa es ts a i j) r.toNat r'.toNat g1 g2 (by lia);exact Int.ofNat_lt.mpr this
  .rw[aC q]at h;rw[aC q,aC q];obtain⟨M,hM⟩:∃ M,M=kN (fG es ts<|a+1) (fG es ts a) i j:=⟨_,rfl⟩;obtain⟨f,hf⟩:∃ f:Nat->Int,f=λk=>gM es ts a i k*gM es ts a k j:=⟨_,rfl⟩;rw[<- hf,<- hM]at h ⊢
   have mm:∀ x∈M,i<x/\x<j:=λx hx=>by have:=hG.mp<|hM▸hx;lia
   have nn:∀ x∈M,0<=f x:=λx hx=>by have:=mm x hx;rw[hf];exact c9 (jV hL ht a i x this.1<|by lia).1 (jV hL ht a x j this.2 hj).1
   refine lP (oO (f:=f) (M:=M) h0<|by lia) λz k e1 e2 e3 e4=>?_;refine lP (oO (f:=f) (M:=M) (r:=r') (by lia) h) λz' k' d1 d2 d3 d4=>?_;rw[e2,d2];dsimp only;have km:=mm k<|lC e1;have km':=mm k'<|lC d1;rcases cz z z' with w|w|w
   .have u:=hM▸mid_up (fG es ts<|a+1) (fG es ts a) i j;refine kA (kP e1) λy1 y2=>?_;obtain⟨y3,y4⟩:=kP d1;have lt:=List.pairwise_iff_getElem.mp u z z' y1 y3 w;rw[y2,y4]at lt;exact .inl (kb hu (getD_some<|by lia) (getD_some<|by lia) lt)
   .subst w;rw[e1]at d1;cases d1;refine .inr ⟨rfl,?_⟩;generalize hv:r - ((M.take z).map f).sum=v at e3 e4;generalize CW:r' - ((M.take z).map f).sum=v' at d3 d4;have vlt:v<v':=by lia
    rw[hf]at e4 d4;dsimp only at e4 d4;have b1:=jV hL ht a i k km.1 (by lia);have b2:=jV hL ht a k j km.2 hj;have pos:0<gM es ts a k j:=by
     rcases dW b2.1 with q|q
     .exact q
     .rw[<- q,Int.mul_zero]at e4;lia
    have x1:0<=v / gM es ts a k j:=Int.ediv_nonneg e3 b2.1;have x2:v' / gM es ts a k j<gM es ts a i k:=eU pos d4;have m1:=dP v (show gM es ts a k j≠0 by lia);have m2:=dh v' pos;have x3:v / gM es ts a k j<=v' / gM es ts a k j:=Int.ediv_le_ediv pos (by lia);rcases dW x3 with y|y
    .exact .inl (BQ a i k _ _ km.1 (by lia) x1 y x2)
    .refine .inr ⟨by rw[y],BQ a k j _ _ km.2 hj m1 ?_ m2⟩;have g1:=eT v<|gM es ts a k j;have g2:=eT v'<|gM es ts a k j;rw[y]at g1;lia
   .exfalso;have:=Oh nn d1 w;lia
end
def zS (C:ai)(n:Nat):lp:=λds μ K=>dM [.m,.v,.i] ds λk s r=>∃(es:ak Int) (ts:ak Tk) (A j a i b:Nat) (ks:ak (ak Key)) (dd:ak D),Bm C μ k es ts A j a i b/\s=sH a i b/\a<n/\QR es ts/\k≠j/\μ[j]?=some (.lD ks dd)/\Memo es ts A ks dd/\0<=r/\r<gM es ts (a+1) i b /\
 ∀ mB mR,Memo es ts A mB mR->K (i7<|rL es ts (a+1) i b r) (μ.set j<|.lD mB mR)
def BE {C:ai}(vs:ak V)(H:Hp)(Q:VK)(E:XK):¬ iD (zS C 0) vs H Q E:=λh=>by obtain⟨φ,ds,μ,K,_,_,h,_⟩:=h;obtain⟨_,_,_,rfl,h⟩:=dJ h;obtain⟨es,ts,A,j,a,i,b,ks,dd,_,_,h,_⟩:=h;lia
def LH {X:Cx}:QT X .Sub (Sy λi j=>i - j):=by
 intro fb s σ H x y v u Q I r1 r2 h;delta Sy at h;split at h
 .exact PL fb s σ H _ _ v u Q I r1 r2 ⟨_,_,rfl,rfl,h⟩
 .cases h
def Au (_ j:Int):Prop:=0<j/\∃ d:Nat,d<=1000/\j<=128 ^ d
def VQ {i j:Int}(h:Au i j):Builtin.divisionGoesByPylong i j=false:=by
 obtain⟨h0,d,hd,h⟩:=h;have e:(128:Int) ^ d=((2 ^ (7*d):Nat):Int):=by rw[Nat.pow_mul];norm_cast
 have h1:j.natAbs<2 ^ (7*d+1):=by rw[Nat.pow_succ];lia
 have h2:j.natAbs.log2<7*d+1:=(Nat.log2_lt<|by lia).mpr h1;delta Builtin.divisionGoesByPylong;dsimp only;rw[Bool.and_eq_false_iff];left;rw[decide_eq_false_iff_not];split<;>lia
section
variable {X:Cx}
def Hl:jM X (binaryOp .FloorDiv) (rI Au λi j=>.int<|i / j):=Q5 λi j _ _ _ _ _ hc q=>by have h1:(0:Int)<j:=hc.1;exact floordiv_int (by lia) (by rw[Int.fdiv_eq_ediv_of_nonneg i (by lia)];exact q) (.inl<|VQ hc)
end
def NU:Ar:=λx y μ K=>match x,y with
 |.int i,.int j=>Au i j/\K (.int<|i / j) μ
 |_,_=>False
def KQ:pq (rI Au λi j=>.int<|i / j) NU:=λφ H x y dx dy μ K Q M hx hy k L=>by
 delta NU at k;split at k
 .cases(show x=_ from hx);cases(show y=_ from hy);exact⟨_,_,rfl,rfl,k.1,L.val M k.2 rfl⟩
 .exact k.elim
def QH {es:ak Int}{ts:ak Tk}(hL:es.length<=100)(ht:ts.length<=100){a i j:Nat}(h1:i<j)(hj:j<es.length){v:Int}(h:0<gM es ts a i j):Au v (gM es ts a i j):=⟨h,_,by lia,(jV hL ht a i j h1 hj).2⟩
structure BmG (C:ai)(ν g:MS)(es:List Int)(ts:List Tk)(a:Nat):Prop where
 e0:∀ ks dd,(g.set (ν.length+1)<|.lD ks dd)[ν.length]?=some (.ins C yF<|Az es ts a<|ν.length+1)
 e1:∀ ks dd,(g.set (ν.length+1)<|.lD ks dd)[ν.length+1]?=some (.lD ks dd)
 ol:∀ ks dd j m',j<ν.length->(g.set (ν.length+1)<|.lD ks dd)[j]?=some m'->xJ ν.length m'
 tk:∀ ks dd,(g.set (ν.length+1)<|.lD ks dd).take ν.length=ν
 z0:∀ ks dd m,ν[0]?=some m->(g.set (ν.length+1)<|.lD ks dd)[0]?=some m
 nw:g=g.set (ν.length+1) (.lD [] [])
def bmG {C:ai}{ν g:MS}{es:ak Int}{ts:ak Tk}{a:Nat}(hm:∀(j:Nat) (m':MO),ν[j]?=some m'->xJ ν.length m')(hg:g=(ν++[MO.ins C [] []]).set ν.length (.ins C yF<|Az es ts a (ν++[MO.ins C [] []]).length)++[.lD [] []]):BmG C ν g es ts a:=by
 have eg:g=ν++[.ins C yF (Az es ts a<|ν.length+1),.lD [] []]:=by rw[hg,eP _ _ (aq _),a6,cC,kO];rfl
 have gl:ν.length+1<g.length:=by rw[eg,kO];show _<_+2;lia
 refine⟨λks dd=>?_,λks dd=>aO gl,λks dd j m' hj e=>?_,λks dd=>?_,λks dd m hz=>?_,?_⟩
 .rw[aW (by lia),eg,p8 (aq _),a6];rfl
 .rw[aW (by lia),eg,vX hj]at e;exact hm j m' e
 .rw[List.take_set_of_le (by lia),eg,cx]
 .have:=(kP hz).1;rw[aW (by lia),eg,vX this];exact hz
 .exact(lK (by rw[eg,p8 (by lia),show ν.length+1 - ν.length=1 by lia];rfl)).symm
def JH (es:ak Int)(ts:ak Tk)(n:Int)(r:Int)(μ:MS)(K:DK)(X:Prop):Prop:=match jC es ts with
 |some _=>X
 |none=>∀ a:Nat,a<=66->hV es ts n a->if 0<=r/\r<gM es ts (a+1) 0 (es.length - 1)then K (i7<|rL es ts (a+1) 0 (es.length - 1) r) μ else X
def xZ (cN:ai):FA:=λds μ K Kx=>dM [.i,.l,.l,.i] ds λn x y r=>(∃ m,μ[0]?=some m)/\∃(cs:ak Int) (ts:ak Tk),x=cs.map D.int/\y=ts.map rV/\gP n cs ts/\cs.length<=60/\JH (e9 n cs) ts n r μ K (Kx (.ref cN) μ)
def zX {cN:ai}{ds:ak D}{μ:MS}{K:DK}{Kx:DX}(h:xZ cN ds μ K Kx):ds.length=4/\∃ m,μ[0]?=some m:=by obtain⟨_,_,_,_,rfl,h⟩:=dJ h;exact⟨rfl,h.1⟩
theorem Ck:∀(t:hJ) {n:Nat},t.dep<=n->Av n (i7 t)
 |.num _,n,_=>tV
 | .j0 p l r,n,h=>by
  have h:max l.dep r.dep+1<=n:=h;obtain⟨n,rfl⟩:∃ n',n=n'+1:=⟨n - 1,by lia⟩;refine Ou (by simp only[aE,cY];lia) λd hd=>?_;simp only[aT,aM,bY]at hd;rcases hd with rfl|rfl|rfl
  .exact tV
  .exact Ck l (by lia)
  .exact Ck r (by lia)
theorem hJ.oZ:∀ t:hJ,t.dep+1<=t.cnt
 |.num _=>aq _
 | .j0 _ l r=>by have:=l.oZ;have:=r.oZ;show max l.dep r.dep+1+1<=l.cnt+r.cnt;lia
theorem Cg {f:Nat->Int}:∀ {l:ak Nat} {x:Nat},(∀ y∈l,0<=f y)->x∈l->0<f x->0<(l.map f).sum
 |[],x,_,h,_=>by cases h
 | y::l,x,hn,h,hx=>by
  have h0:=hn y aH;have h1:=qk.wW (f:=f) (l:=l) λz hz=>hn z<|mQ _ hz;rw[az,cc];rcases List.mem_cons.mp h with rfl|h
  .lia
  .have:=Cg (f:=f) (l:=l) (x:=x) (λz hz=>hn z<|mQ _ hz) h hx;lia
section
variable {n:Int}{cs:ak Int}{ts:ak Tk}(S:gP n cs ts)
include S
theorem D2 (a i j:Nat)(lH:i<j)(hj:j<(e9 n cs).length)(h0:fG (e9 n cs) ts (a+1) i j=0):0<gM (e9 n cs) ts (a+1) i j:=by
 have tF:=fO n cs;have tb:=vG S;have hu:=gr S.n1 S.ij;unfold gM;rw[aA h0];have e:fG (e9 n cs) ts (a+1) i j=i8 (e9 n cs).length (e9 n cs) (ja (e9 n cs) ts (a:Int)) (fG (e9 n cs) ts a) i j:=rfl;delta i8 at e;split at e
 .rename_i q;have lt:=kb hu (getD_some<|show i<(e9 n cs).length by lia) (getD_some hj) lH;rw[mL (getD_some<|show i<(e9 n cs).length by lia),kG]at q;rcases kQ ((ts.filter λt=>decide (t.2<=(a:Int))).map λt=>je (e9 n cs) t.1<|(e9 n cs).getD i 0) ((e9 n cs).getD i 0)with z|z
  .lia
  .refine fj (List.mem_map.mp z) λt ht et=>?_;obtain⟨t1,t2⟩:=List.mem_filter.mp ht;obtain⟨x,hx,ex⟩:=aN t1;have:x∈o9 (e9 n cs) ts a i j:=xH.mpr ⟨t,by rw[iT hx,ex],bp t2,by rw[et];exact q⟩;have:=List.length_pos_of_mem this;lia
 .exfalso;rcases(jT (mO (fG (e9 n cs) ts a) i j)<|((e9 n cs).length:Int) - 1).1 with z|z
  .lia
  .refine jB (lO.mp z) λk k1 k2 k3=>?_;have n1:=tb.nn a i k (by lia) (by lia);have n2:=tb.nn a k j (by lia) hj;lia
theorem QG (zI:cs.length<=60):∀(a i j:Nat),i<j->j<(e9 n cs).length->fG (e9 n cs) ts (a+1) i j<((e9 n cs).length:Int) - 1->0<gM (e9 n cs) ts (a+1) i j:=by
 intro a;have tF:=fO n cs;have ft:=S.takes.oA;have tb:=vG S;have hu:=gr S.n1 S.ij;induction a with
 | zero =>intro i j lH hj h;have h0:=vH S i j (by lia) hj h;exact D2 S 0 i j lH hj h0
 | succ a ih =>
  intro i j lH hj h;by_cases q:fG (e9 n cs) ts (a+1+1) i j=0
  .exact D2 S (a+1) i j lH hj q
  .unfold gM;rw[aC q];have e:fG (e9 n cs) ts (a+1+1) i j=i8 (e9 n cs).length (e9 n cs) (ja (e9 n cs) ts ((a+1:Nat):Int)) (fG (e9 n cs) ts<|a+1) i j:=rfl;delta i8 at e;split at e
   .exact absurd e q
   .rcases(jT (mO (fG (e9 n cs) ts<|a+1) i j)<|((e9 n cs).length:Int) - 1).1 with z | z
    .lia
    .refine jB (lO.mp z) λk k1 k2 k3=>?_;have n1:=tb.nn (a+1) i k (by lia) (by lia);have n2:=tb.nn (a+1) k j (by lia) hj;refine Cg (x:=k) (λy hy=>?_) (hG.mpr ⟨k1,k2,by lia⟩) (Int.mul_pos (ih i k k1 (by lia)<|by lia)<|ih k j k2 hj<|by lia);refine jr (hG.mp hy) λy1 y2 _=>?_;exact c9 (jV (by lia) (by lia) (a+1) i y y1<|by lia).1 (jV (by lia) (by lia) (a+1) y j y2 hj).1
theorem wR {A:Nat}(la:hV (e9 n cs) ts n A):fG (e9 n cs) ts (A+1) 0 (cs.length+1)=mq (e9 n cs) ts (A+1) 0 (cs.length+1) - 1/\fG (e9 n cs) ts (A+1) 0 (cs.length+1)<((e9 n cs).length:Int) - 1:=by
 have tF:=fO n cs;have tl:=qU S la;rcases(yU S (A+1) 0 (cs.length+1) (Nat.succ_pos _)<|by lia).2 (Nat.succ_pos _)with⟨z,_⟩|⟨z1,z2,z3⟩
 .lia
 .exact⟨z3,by lia⟩
theorem JE {A:Nat}(zI:cs.length<=60)(la:hV (e9 n cs) ts n A){r:Int}(r0:0<=r)(r1:r<gM (e9 n cs) ts (A+1) 0 (cs.length+1)):(rL (e9 n cs) ts (A+1) 0 (cs.length+1) r).ok cs ts.length/\(rL (e9 n cs) ts (A+1) 0 (cs.length+1) r).val ts=(List.replicate n.toNat 111,(A:Int))/\((rL (e9 n cs) ts (A+1) 0 (cs.length+1) r).cnt:Int)=mq (e9 n cs) ts (A+1) 0 (cs.length+1)/\(rL (e9 n cs) ts (A+1) 0 (cs.length+1) r).dep<=cs.length:=by have tF:=fO n cs;have ft:=S.takes.oA;have rk:=qY (gr S.n1 S.ij) (by lia) (by lia) (A+1) 0 (cs.length+1) r (by lia) (by lia) r0 r1;have b:=(oG S la).mp ((lZ (gr S.n1 S.ij) (A+1) 0 (cs.length+1) _ (by lia)<|by lia).mp (by rw[rk];rfl));obtain⟨t1,t2⟩:=wR S la;have d:=(rL (e9 n cs) ts (A+1) 0 (cs.length+1) r).oZ;exact⟨b.1,b.2.1,by lia,by have:=b.2.2;lia⟩
end
def Iw (n:Nat):lp:=λds μ K=>dM [.v,.v] ds λx y=>∃ d,LS μ x=some d/\LS μ y=some d/\Av n d/\K (.bl true) μ
def Ey {n:Nat}{vs:ak V}{H:Hp}{Q:VK}{E:XK}(h:iD (Iw n) vs H Q E):qV n vs H Q E:=by obtain⟨φ,ds,μ,K,ha,M,k,L⟩:=h;obtain⟨_,_,rfl,k⟩:=dJ k;obtain⟨v,r,rfl,h1,u,r',rfl,h2,h3⟩:=ha;cases(show r'=[]from h3);obtain⟨d,e1,e2,hs,k⟩:=k;obtain⟨a,b,c⟩:=oi (φ:=φ) (H:=H) hs;exact⟨sG d,b,bS c<|by decide,Di M e1 hs h1,Di M e2 hs h2,λH' S=>L _ μ φ _ H' k (.same S) (M.same S) rfl⟩
def Ik (t:hJ)(μ:MS):LS μ (i7 t)=some (i7 t):=by cases t<;>rfl
end L2
namespace L2
open PySem PySem.Spec PyProof.Rows PyProof PySem.W
end L2
namespace L2
open PySem PySem.Spec PyProof.Rows PyProof
section
variable {n:Int}{cs:ak Int}{ts:ak Tk}(S:gP n cs ts)(zI:cs.length<=60)
include S zI
end
section
variable {n:Int}{cs:ak Int}{ts:ak Tk}(S:gP n cs ts)(zI:cs.length<=60)
include S zI
end
open PySem PySem.Spec PyProof.Rows
end L2
namespace L2
open PySem PySem.Spec PyProof.Rows PyProof Builtin Builtin.Str
end L2
namespace L2
open PySem PySem.Spec PyProof.Rows PyProof Builtin Builtin.Str
end L2
namespace L2
open PySem PySem.Spec PyProof.Rows PyProof Builtin Builtin.Str
end L2
namespace L2
open PySem PySem.Spec PyProof.Rows PyProof Builtin Builtin.Str
end L2
namespace L2
open PySem PySem.Spec PyProof.Rows PyProof
end L2
namespace L2
open PySem PySem.Spec PyProof.Rows PyProof Builtin Builtin.Str
end L2
namespace L2
open PySem PySem.Spec PyProof.Rows PyProof
end L2
namespace L2
open PySem PySem.Spec PyProof.Rows PyProof PySem.W.KIN
end L2
namespace L2
open PySem PySem.Spec PyProof.Rows PyProof PySem.W.KIN
end L2
namespace L2
open PySem PySem.Spec PyProof.Rows PyProof Builtin Builtin.Str
end L2
namespace L2
open PySem PySem.Spec PyProof.Rows PyProof PySem.W.KIN PySem.NumText
end L2
namespace L2
open PySem PySem.Spec PyProof.Rows PyProof PySem.W.KIN PySem.NumText
end L2
namespace L2
open PySem PySem.Spec PyProof.Rows PyProof PySem.W.KIN PySem.NumText
end L2
namespace L2
open PySem PySem.Spec PyProof.Rows PyProof PySem.W.KIN PySem.NumText
theorem oZ:∀ t:hJ,t.dep+1<=t.cnt
 |.num _=>aq _
 | .j0 p l r=>by have a:=oZ l;have b:=oZ r;show max l.dep r.dep+1+1<=l.cnt+r.cnt;lia
end L2
namespace L2
open PySem PySem.Spec PyProof.Rows
end L2
namespace L2
open PySem PySem.Spec PyProof.Rows PySem.W
def KG (f:Nat->Nat)(n:Nat):KasT α->(α->Prop)->Prop
 |.ret a,Q=>Q a
 |.ask i j k,Q=>i<n/\j<n/\KG f n (k<|decide (f i<f j)) Q
theorem KG.wp {cmp:Nat->Nat->(Bool->ah->Prop)->ah->Prop}(hc:∀ i j C,i<n->j<n->C (decide (f i<f j)) s->cmp i j C s):∀ {t:KasT α} {Q:α->Prop},KG f n t Q->(∀ a,Q a->R a s)->t.kasWp cmp R s
 |.ret a,_,h,g=>g a h
 |.ask i j k,_,h,g=>hc i j _ h.1 h.2.1 (KG.wp hc h.2.2 g)
theorem KG.bind {g:α->KasT β}:∀ {t:KasT α},KG f n t (λa=>KG f n (g a) Q)->KG f n (t.bind g) Q
 |.ret _,h=>h
 |.ask _ _ _,h=>⟨h.1,h.2.1,KG.bind h.2.2⟩
theorem KG.mono {Q R:α->Prop}(g:∀ a,Q a->R a):∀ {t:KasT α},KG f n t Q->KG f n t R
 |.ret a,h=>g a h
 |.ask _ _ _,h=>⟨h.1,h.2.1,h.2.2.mono g⟩
structure PN (n:Nat)(p:Array Nat):Prop where
 sz:p.size=n
 pm:p.toList.Perm (List.range n)
def PN.lt (h:PN n p)(hi:i<n):p.getD i 0<n:=by
 have hs:i<p.size:=by rw[h.sz];exact hi
 have:p.getD i 0∈p.toList:=by rw[show p.getD i 0=p[i] by simp[Array.getD,hs]];simp
 exact List.mem_range.mp (h.pm.mem_iff.mp this)
def PN.inj (h:PN n p)(hi:i<n)(hj:j<n)(e:p.getD i 0=p.getD j 0):i=j:=by
 have hs:i<p.toList.length:=by rw[cH,h.sz];exact hi
 have ht:j<p.toList.length:=by rw[cH,h.sz];exact hj
 have nd:p.toList.Nodup:=h.pm.nodup_iff.mpr List.nodup_range;have a:p.getD i 0=p.toList[i]:=by simp[Array.getD,h.sz,hi]
 have b:p.getD j 0=p.toList[j]:=by simp[Array.getD,h.sz,hj]
 rcases cz i j with q|q|q
 .exact absurd (a.symm.trans<|e.trans b) (List.pairwise_iff_getElem.mp nd i j hs ht q)
 .exact q
 .exact absurd (b.symm.trans<|e.symm.trans a) (List.pairwise_iff_getElem.mp nd j i ht hs q)
def PN.of (h:PN n p)(q:p'.Perm p):PN n p':=⟨q.size_eq.trans h.sz,(Array.perm_iff_toList_perm.mp q).trans h.pm⟩
def uw {p:Array Nat}:p.getD i 0=p[i]?.getD 0:=by simp
section
variable {f:Nat->Nat}(hf:∀ i j,i<n->j<n->f i=f j->i=j)
def Up (f:Nat->Nat)(p:Array Nat)(m:Nat):Prop:=∀ i j,i<j->j<m->f (p.getD i 0)<f (p.getD j 0)
def Dw (f:Nat->Nat)(p:Array Nat)(m:Nat):Prop:=∀ i j,i<j->j<m->f (p.getD j 0)<f (p.getD i 0)
include hf
theorem PN.ne (h:PN n p)(hi:i<n)(hj:j<n)(e:i≠j):f (p.getD i 0)≠f (p.getD j 0):=λq=>e (h.inj hi hj<|hf _ _ (h.lt hi) (h.lt hj) q)
theorem BR (h:PN n p):∀(k m:Nat),1<=m->m+k=n->Up f p m->KG f n (kas_asc p k m) λm'=>m<=m'/\m'<=n/\Up f p m'/\(m'<n->f (p.getD m' 0)<f (p.getD (m' - 1) 0))
 |0,m,h1,h2,u=>⟨aq _,by lia,u,by lia⟩
 | k+1,m,h1,h2,u=>by
  refine⟨h.lt<|by lia,h.lt<|by lia,?_⟩;by_cases c:f (p.getD m 0)<f (p.getD (m - 1) 0)
  .rw[aB c];exact⟨aq _,by lia,u,λ_=>c⟩
  .rw[aP c];have ne:=h.ne hf (i:=m - 1) (j:=m) (by lia) (by lia) (by lia);refine(BR h k (m+1) (by lia) (by lia) λi j lH hj=>?_).mono λa q=>⟨by lia,q.2⟩;by_cases e:j=m
   .subst e;by_cases e2:i=j - 1
    .rw[e2];lia
    .exact ck (u i (j - 1) (by lia)<|by lia) (by lia)
   .exact u i j lH (by lia)
theorem DQ (h:PN n p):∀(k m:Nat),2<=m->m+k=n->Dw f p m->KG f n (kas_desc k p m 0) λr=>r.1=p/\m<=r.2.1/\r.2.1<=n/\r.2.2=0/\Dw f p r.2.1
 |0,m,h1,h2,u=>⟨rfl,aq _,by lia,rfl,u⟩
 | k+1,m,h1,h2,u=>by
  refine⟨h.lt<|by lia,h.lt<|by lia,?_⟩;by_cases c:f (p.getD m 0)<f (p.getD (m - 1) 0)
  .rw[aB c];refine(DQ h k (m+1) (by lia) (by lia) λi j lH hj=>?_).mono λa q=>⟨q.1,by lia,q.2.2⟩;by_cases e:j=m
   .subst e;by_cases e2:i=j - 1
    .rw[e2];exact c
    .exact ck c (u i (j - 1) (by lia)<|by lia)
   .exact u i j lH (by lia)
  .rw[aP c];have ne:=h.ne hf (i:=m - 1) (j:=m) (by lia) (by lia) (by lia);refine⟨h.lt<|by lia,h.lt<|by lia,?_⟩;rw[aB (by lia)];exact⟨rfl,aq _,by lia,rfl,u⟩
omit hf in
theorem Cr {p:Array Nat}(hm:m<=p.size)(hi:i<m):(kas_rev p 0 m).getD i 0=p.getD (m - 1 - i) 0:=by rw[uw,uw];unfold kas_rev;rw[getElem?_mirror_all hm,aA ⟨aS _,hi⟩,Nat.zero_add]
omit hf in
theorem OF (hm:m<=p.size)(u:Dw f p m):Up f (kas_rev p 0 m) m:=λi j lH hj=>by rw[Cr hm (by lia),Cr hm hj];exact u _ _ (by lia) (by lia)
theorem Ks (h:PN n p)(h1:1<=m)(h2:m<=n)(u:Dw f p m):KG f n (kas_tail3 m n p) λr=>r.1<=n/\1<=r.1/\PN n r.2/\Up f r.2 r.1:=by have h':PN n (kas_rev p 0 m):=h.of<|mirror_perm _ _ _ _;exact((BR hf h' (n - m) m h1 (by lia)<|OF (by rw[h.sz];exact h2) u).mono λa q=>⟨q.2.1,by lia,h',q.2.2.1⟩).bind
theorem Js (h:PN n p)(h1:1<=n):KG f n (kas_count n p) λr=>r.1<=n/\1<=r.1/\PN n r.2/\Up f r.2 r.1:=by
 refine((BR hf h (n - 1) 1 (aq _) (by lia) λi j a b=>by lia).mono λm q=>?_).bind;obtain⟨a,b,u,d⟩:=q;by_cases e:m=n
 .rw[aA (by simp[e])];exact⟨b,a,h,u⟩
 .rw[aC (by simp[e])];by_cases e1:m>1
  .rw[aA e1];refine⟨h.lt<|by lia,h.lt<|by lia,?_⟩;rw[aB (u 0 (m - 1) (by lia)<|by lia)];exact⟨b,a,h,u⟩
  .rw[aC e1];have em:m=1:=by lia
   subst em;refine((DQ hf h (n - (1+1)) 2 (aq _) (by lia) λi j a b=>?_).mono λr q=>?_).bind
   .rw[show i=0 by lia,show j=1 by lia];exact d (by lia)
   .obtain⟨r1,r2,r3⟩:=r;obtain⟨rfl,q2,q3,rfl,q5⟩:=q;exact Ks hf h (show 1<=r2 by lia) q3 q5
theorem ub (h:PN n p)(hk:k<n)(u:Up f p k):∀(g l r:Nat),r - l<=g->l<=r->r<=k->(∀ i,i<l->f (p.getD i 0)<f (p.getD k 0))->(∀ i,r<=i->i<k->f (p.getD k 0)<f (p.getD i 0)) ->
 KG f n (kas_place p k g l r) λx=>x<=k/\(∀ i,i<x->f (p.getD i 0)<f (p.getD k 0))/\(∀ i,x<=i->i<k->f (p.getD k 0)<f (p.getD i 0))
 |0,l,r,h1,h2,h3,a,b=>⟨by lia,a,λi x y=>b i (by lia) y⟩
 | g+1,l,r,h1,h2,h3,a,b=>by
  unfold kas_place;by_cases e:l≥r
  .rw[aA e];exact⟨by lia,a,λi x y=>b i (by lia) y⟩
  .rw[aC e];refine⟨h.lt hk,h.lt<|by lia,?_⟩;have ne:=h.ne hf (i:=(l+r) / 2) (j:=k) (by lia) hk (by lia);by_cases c:f (p.getD k 0)<f (p.getD ((l+r) / 2) 0)
   .rw[aB c];refine ub h hk u g l ((l+r) / 2) (by lia) (by lia) (by lia) a λi x y=>?_;by_cases z:i=(l+r) / 2
    .rw[z];exact c
    .exact ck c (u _ i (by lia) y)
   .rw[aP c];refine ub h hk u g ((l+r) / 2+1) r (by lia) (by lia) h3 (λi x=>?_) b;by_cases z:i=(l+r) / 2
    .rw[z];lia
    .exact ck (u i ((l+r) / 2) (by lia)<|by lia) (by lia)
theorem JD:∀(g k:Nat) (p:Array Nat),PN n p->1<=k->k+g=n->Up f p k->KG f n (kas_bin g p k) λp'=>PN n p'/\Up f p' n
 |0,k,p,h,_,e,u=>⟨h,by rw[<- e];exact u⟩
 | g+1,k,p,h,h1,e,u=>by
  refine((ub hf h (by lia) u k 0 k (by lia) (by lia) (aq _) (λi x=>by lia) λi x y=>by lia).mono λl q=>?_).bind;obtain⟨a,b,c⟩:=q;refine JD g (k+1) _ (h.of<|bubble_perm _ _ _) (by lia) (by lia) λi j lH hj=>?_;have gt:∀ i,(bubble p k<|k - l).getD i 0=if i=l then p.getD k 0 else if l<i/\i<=k then p.getD (i - 1) 0 else p.getD i 0:=λi=>by
   rw[uw,getElem?_bubble (by rw[h.sz];lia) (k - l) (by lia),show k - (k - l)=l by lia];split
   .rw[uw]
   .split<;>rw[uw]
  rw[gt,gt];repeat' split
  all_goals first|(exfalso;lia)|exact c _ (by lia) (by lia)|exact b _ (by lia)|exact u _ _ (by lia) (by lia)
theorem KL (h1:2<=n):KG f n (kas_sort n) λp=>PN n p/\Up f p n:=by
 have h:PN n (List.toArray<|List.range n):=⟨by simp,by simp⟩;refine((Js hf h<|by lia).mono λr q=>?_).bind;obtain⟨a,b,c,d⟩:=q;by_cases e:r.1<n
 .rw[aA e,show max r.1 1=r.1 by lia];exact JD hf (n - r.1) r.1 r.2 c b (by lia) d
 .rw[aC e];exact⟨c,by rw[show n=r.1 by lia];exact d⟩
end
end L2
namespace L2
open PySem PySem.Spec PyProof.Rows PySem.W
def qv:ak Int->ak Int->Bool
 |[],[]=>false
 |[],_::_=>true
 |_::_,[]=>false
 |x::xs,y::ys=>if x=y then qv xs ys else decide (x<y)
def valAt {xs:ak aj}{ns:ak Int}(r:fT (ns.map V.int) xs)(hi:i<ns.length):∃ t,xs[i]?=some (.int ns[i] t):=by obtain⟨u,hu,t,rfl⟩:=r.get (i:=i) (show(ns.map V.int)[i]?=some (.int ns[i]) by rw[nX,iT hi];rfl);exact⟨t,hu⟩
def Ly (l b:ai)(n n2:Nat){ns ms:ak Int}{xs ys:ak aj}(rx:fT (ns.map V.int) xs)(ry:fT (ms.map V.int) ys)(k:Nat):
 ∀ i:Nat,ns.length - i=k->i<=ns.length->i<=ms.length->Meets (Builtin.«list.__eq__.loop» ⟨[.ref l,.ref b,rawInt i,rawInt 0],[]⟩)
  (λA R s=>s.heap.get? l=some { cls:=.type "list",data:=.seq xs.toArray n}/\s.heap.get? b=some { cls:=.type "list",data:=.seq ys.toArray n2}/\R (.ok<|.ret<|.bool<|qv (ns.drop i)<|ms.drop i) s):=by
 have lx:xs.length=ns.length:=by have:=rx.length;rw[gQ]at this;exact this.symm
 have ly:ys.length=ms.length:=by have:=ry.length;rw[gQ]at this;exact this.symm
 have nx:∀ i:Nat,ns.length<=i->xs.toArray[((i:Nat):Int).toNat]?=none:=λi h=>by simp;lia
 have ny:∀ i:Nat,ms.length<=i->ys.toArray[((i:Nat):Int).toNat]?=none:=λi h=>by simp;lia
 have fin:∀ i:Nat,(ns.length<=i\/ms.length<=i)->i<=ns.length->i<=ms.length->qv (ns.drop i) (ms.drop i)=decide (xs.toArray.size<ys.toArray.size):=λi h a b=>by
  rw[au,au,lx,ly];rcases h with h|h
  .rw[List.drop_eq_nil_of_le h];cases e:ms.drop i with
   |nil=>have:=List.drop_eq_nil_iff.mp e;exact(aP<|by lia).symm
   |cons y r=>have:=cq List.length e;rw[bz,aE]at this;exact(aB<|by lia).symm
  .rw[List.drop_eq_nil_of_le h,aP (by lia)];cases ns.drop i<;>rfl
 have hc:∀ i:Nat,((i:Int)+1)=((i+1:Nat):Int):=λi=>by push_cast;rfl
 induction k with
 | zero =>intro i hk i1 i2 prog w A R s h;obtain⟨hp,g,d,tk,os⟩:=s;obtain⟨hl,hb,h⟩:=h;rw[fin i (by lia) i1 i2]at h;wp_walk using bj hl,bj hb;rw[nx i (by lia)];wp_walk using bj hl,bj hb;exact h
 | succ k ih =>
  intro i hk i1 i2 prog w A R s h;obtain⟨hp,g,d,tk,os⟩:=s;obtain⟨hl,hb,h⟩:=h;have ky:i<ns.length:=by lia
  obtain⟨t,ht⟩:=valAt rx ky;have Wx:xs.toArray[((i:Nat):Int).toNat]?=some (.int ns[i] t):=by simpa using ht
  wp_walk using bj hl,bj hb;by_cases hm:i<ms.length
  .obtain⟨t2,We⟩:=valAt ry hm;have Yu:ys.toArray[((i:Nat):Int).toNat]?=some (.int ms[i] t2):=by simpa using We
   rw[Wx,Yu];refine fH<|SeqAt.EqAt.int_int ns[i] t ms[i] t2 prog w _ _ ?_;rw[bg ky,bg hm]at h;by_cases q:ns[i]=ms[i]
   .rw[show(ns[i]==ms[i])=true from by simpa using q];wp_walk;rw[hc];exact⟨c4 c8 _,cW MeetsSeq3.entry_eq_loop (by
     rw[c3 c8 _]
     exact ih (i+1) (by lia) (by lia) (by lia) prog w A R _ ⟨hl,hb,by simpa [qv,q]using h⟩)⟩
   .rw[show(ns[i]==ms[i])=false from by simpa using q];wp_walk using bj hl,bj hb;rw[Wx,Yu];refine fH<|lt_int ?_;wp_walk;simpa [qv,q]using h
  .rw[Wx,ny i (by lia)];rw[fin i (by lia) i1 i2]at h;exact fH (listItems_at hl rfl (fH<|listItems_at hb rfl (av h)))
def HC (l b:ai)(n n2:Nat){ns ms:ak Int}{xs ys:ak aj}(rx:fT (ns.map V.int) xs)(ry:fT (ms.map V.int) ys):Meets (Builtin.«list.__lt__» ⟨[.ref l,.ref b],[]⟩)
 (λA R s=>s.heap.get? l=some { cls:=.type "list",data:=.seq xs.toArray n}/\s.heap.get? b=some { cls:=.type "list",data:=.seq ys.toArray n2}/\R (.ok<|.ret<|.bool<|qv ns ms) s):=by
 intro prog w A R s h;obtain⟨hp,g,d,tk,os⟩:=s;obtain⟨hl,hb,h⟩:=h;have f2:=AutoSeq1.sub_list_list;wp_walk using bj hl,bj hb;exact⟨c4 c8 _,cW MeetsSeq3.entry_eq_loop (by
  rw[c3 c8 _]
  exact Ly l b n n2 rx ry _ 0 rfl (aS _) (aS _) prog w A R _ ⟨hl,hb,h⟩)⟩
def LC {A:Around}{s:ah}{E:aj->ah->Prop}(hu:A.units<cLine){ns ms:ak Int}{xs ys:ak aj}(rx:fT (ns.map V.int) xs)(ry:fT (ms.map V.int) ys)
 (hl:s.heap.get? l=some { cls:=.type "list",data:=.seq xs.toArray n}) (hb:s.heap.get? b=some { cls:=.type "list",data:=.seq ys.toArray n2}) {Q:Bool->ah->Prop} (h:Q (qv ns ms) s):
 wpAny (model prog w) A (keyLt' oneType' (.ref l)<|.ref b) Q E s:=by
 rw[keyLt'_oneType,oneLt'_eq];simp only[if_true];refine fH<|wpAny_cRoomFor hu ?_;refine fH<|wpAny_callSpecialIfBound?_slot ⟨_,hl,rfl⟩ F.slot_list_lt<|call_meets F.slot_list_lt ⟨_,hl,rfl⟩ F.entry_list_lt (F.args_list_lt_2 _ _) (HC l b n n2 rx ry) ⟨hl,hb,?_⟩;exact cy h
def Bs {A:Around}{s:ah}{E:aj->ah->Prop}{M:Model}{ks:ak aj}(h:∀ v∈ks,∃ a o,v=.ref a/\s.heap.get? a=some o/\o.cls=.type "list")(h2:2<=ks.length){Q:SortKind->ah->Prop}(q:Q oneType' s):
 wpAny M A (keyKind'<|List.toArray ks) Q E s:=by
 exact kas_kind (T:=.type "list") h2 (λv hv=>by obtain⟨a,o,rfl,ho,hc⟩:=h v hv;rw[<- hc];exact(Looks.ld ho).andThen .now) (by decide) (by decide) q
end L2
namespace L2
open PySem PySem.Spec PyProof.Rows
theorem Aa (h:fB φ H ds xs):∀(p:ak Nat),(∀ i∈p,i<ds.length)->fB φ H (p.map λi=>ds.getD i .gz) (p.map λi=>xs.getD i .gz)
 |[],_=>rfl
 | i::p,g=>by have hi:=g i<|.head _;obtain⟨v,e,q⟩:=h.get (d:=ds[i])<|iT hi;refine⟨_,_,rfl,?_,Aa h p λj hj=>g j<|.tail _ hj⟩;dsimp only;rw[ar,ar,e,iT hi];exact q
theorem yL (h:fT xs us):∀(p:ak Nat),(∀ i∈p,i<xs.length)->fT (p.map λi=>xs.getD i .gz) (p.map λi=>us.getD i Value.none)
 |[],_=>.nil
 | i::p,g=>by have hi:=g i<|.head _;obtain⟨u,e,q⟩:=h.get (x:=xs[i])<|iT hi;refine .cons ?_ (yL h p λj hj=>g j<|.tail _ hj);dsimp only;rw[ar,ar,e,iT hi];exact q
def range_getD (l:ak α)(z:α):((List.range l.length).map λi=>l.getD i z)=l:=by refine List.ext_getElem (by simp) λi h1 h2=>?_;simp[h2]
section
variable {X:Cx}{fb:ak (ai×Obj)}{σ:St}{H:Hp}{φ:ak ai}{μ:MS}{key:D->ak Int}{kS Dd:ai}{oD:Obj}
def K0 (F:gA X.prog X.w X.K X.mg X.fg j4 k f fd ps sp)(hr:iw (k+2) X.A)(hb:Binds X.K fd ps [])(I:Inv X fb σ H s)(r:fT vs us)(h:sp vs H Q E0):
 wpAny (model X.prog X.w) X.A.in1.in1 (call (.ref f) us) (EP X fb σ Q) (λ_ _=>False) s:=by
 have hl:(us++[]).length=ps.length:=by rw[a8];exact r.length▸F.len _ _ _ _ h
 have yE:=hb s us I.sL hl;rw[a8]at yE;refine wpAny_call (codeAny_mono (F.run X.A.in1.in1 X.stack s H ⟨us,[]⟩ us vs Q E0 hr.in1.in1 I.Qt.in1.in1 yE r h) λz s' hq=>?_);cases z with
 |error e=>exact hq
 |ok fl=>cases fl<;>first|exact I.after hq|exact False.elim hq
abbrev kD (z:ak Int):D:=.lst (z.map .int)
structure LI (X:Cx)(fb:List (ai×Obj))(σ:St)(H:Hp)(φ:List ai)(μ:MS)(Dd kS:ai)(oD:Obj)(kz:List (List Int))(ws:List V)(ks:List aj)(H':Hp)(c:Nat)(s:ah):Prop where
 I:Inv X fb σ H' s
 hD:s.heap.get? Dd=some oD
 fD:jH X fb H' Dd
 hK:s.heap.get? kS=some (seqObj "list" ks.toArray c)
 fK:jH X fb H' kS
 fr:Fr φ H φ H'
 M:fU φ H' μ
 da:fB φ H' (kz.map kD) ws
 vs:fT ws ks
def Fr.flat (f:Fr φ H gg H')(M:fU φ H μ)(M':fU gg H' μ):gg=φ:=by obtain⟨⟨ψ,rfl,_⟩,_,_⟩:=f;have:=M'.len;rw[kO,M.len]at this;rw[List.eq_nil_of_length_eq_zero (by lia:ψ.length=0),a8]
def jH.to (h:jH X fb H b)(e:H' b=none):jH X fb H' b:=⟨e,h.2⟩
def Inv.Cb {h':Heap}{t':Nat}(I:Inv X fb σ H s)(f:jH X fb H b)(k:∀ c o,c≠b->s.heap.get? c=some o->h'.get? c=some o):Inv X fb σ H { s with heap:=h',toks:=t'} :=
 I.turned k f.1 f.2.1 f.2.2.2.1 f.2.2.2.2.1 f.2.2.2.2.2
theorem vT (F:gA X.prog X.w X.K X.mg X.fg j4 k f fd ps (iD g))(hr:iw (k+2) X.A)(hb:Binds X.K fd ps [])(vW:kS≠Dd)(cD:∀ v,oD.data≠.cell v){E:aj->ah->Prop}{R:PUnit->ah->Prop}{body:aj->PUnit->Sem (ForInStep PUnit)}
 (hy:∀ x (s:ah) (Q:ForInStep PUnit->ah->Prop),wpAny (model X.prog X.w) X.A.in1.in1 (call (.ref f) [x]) (λu s1=>wpAny (model X.prog X.w) X.A.in1.in1 (Builtin.List.listUpdate (.ref kS) (·.push u)) (λ_ s2=>Q (.yield ⟨⟩) s2) E s1) (λ_ _=>False) s ->
   wpAny (model X.prog X.w) X.A.in1.in1 (body x ⟨⟩) Q E s):∀(ds:ak D) (xs:ak V) (fE:ak aj) (kz:ak (ak Int)) (ws:ak V) (ks:ak aj) (H':Hp) (c:Nat) (s:ah),
   fB φ H ds xs->fT xs fE->(∀ d∈ds,∀ K:DK,K (kD<|key d) μ->g [d] μ K)->ks.length+fE.length<64->LI X fb σ H φ μ Dd kS oD kz ws ks H' c s ->
   (∀ X2 mB Ao c' JZ,LI X fb σ H φ μ Dd kS oD (kz++ds.map key) X2 mB Ao c' JZ->R ⟨⟩ JZ)->wpAny (model X.prog X.w) X.A.in1.in1 (forIn fE PUnit.unit body) R E s
 | [],_,fE,kz,ws,ks,H',c,s,da,r,_,_,li,fin=>by cases(show _=[]from da);cases r;rw[List.forIn_nil];exact av (fin ws ks H' c s (by rw[eG,a8];exact li))
 | d::ds,_,fE,kz,ws,ks,H',c,s,da,r,hg,hz,li,fin=>by
  obtain⟨x,xs,rfl,ix,da⟩:=da;cases r with
  |@cons _ u _ fE rx r=>
  rw[aE]at hz;rw[cm];have I':Inv X (fb++[(Dd,oD),(kS,seqObj "list" ks.toArray c)]) σ H' s:=li.I.nh λp hp=>by
   rcases List.mem_append.mp hp with q|q
   .exact li.I.pin p (aI _ q)
   .simp only[aT,aM,bY]at q;rcases q with rfl|rfl
    .exact⟨li.hD,li.fD.1,li.fD.2.1,li.fD.2.2.1,cD⟩
    .exact⟨li.hK,li.fK.1,li.fK.2.1,li.fK.2.2.1,λv e=>nomatch e⟩
  refine fH (hy u s _<|bq (K0 (Q:=λv Ao=>Fr φ H' φ Ao/\fU φ Ao μ/\iP φ Ao (kD<|key d) v) F hr hb I' (.cons rx .nil) ⟨φ,[d],μ,λd' fI=>d'=kD (key d)/\fI=μ,⟨x,[],rfl,ix.mono li.fr,rfl⟩,li.M,hg d (.head _) _ ⟨rfl,rfl⟩,?_⟩) (λy s1 q=>?_) λ_ _ z=>z)
  .intro d' fI gg v Ao e f1 M1 i1;obtain⟨rfl,rfl⟩:=e;cases f1.flat li.M M1;exact⟨f1,M1,i1⟩
  .obtain⟨v,H2,I2,rv,f2,M2,i2⟩:=q;have pD:=I2.pin (Dd,oD) (by simp);have pK:=I2.pin (kS,seqObj "list" ks.toArray c) (by simp);have I3:Inv X fb σ H2 s1:=I2.nh λp hp=>I2.pin p<|aI _<|b9 _ hp;have lk:ks.length<64:=by lia
   refine listUpdate_at pK.1 rfl ?_ (by rw[au];exact bZ<|aG lk<|by decide) (by rw[Array.size_push,au];exact aK lk<|by decide);obtain⟨c',pT⟩:∃ c',(s1.heap.update kS<|Obj.mapSeq λz=>z.push y).get? kS=some (seqObj "list" (ks++[y]).toArray c'):=⟨_,by have:=get?_update_seq pK.1 λz=>z.push y;simpa using this⟩;refine vT F hr hb vW cD hy ds xs fE (kz++[key d]) (ws++[v]) (ks++[y]) H2 c' _ da r (λe he=>hg e<|.tail _ he) (by rw[kO,bC];lia) ?_ (by rw[az]at fin;simpa using fin);exact⟨I3.Cb (t':=s1.toks) (li.fK.to pK.2.1) λb o hb e=>(aF _ _<|bJ hb).trans e,(aF _ _ vW).trans pD.1,li.fD.to pD.2.1,pT,li.fK.to pK.2.1,li.fr.trans f2,M2,by rw[bI];exact(li.da.mono f2).app ⟨v,[],rfl,i2,rfl⟩,li.vs.append<|.cons rv .nil⟩
end
section
variable {X:Cx}{fb:ak (ai×Obj)}{σ:St}{H:Hp}{φ:ak ai}{μ:MS}{key:D->ak Int}{rk:D->Nat}{kS Dd:ai}{ds:ak D}
def uk {K:DK}{Q:VK}{st:SortSt}{P:PySem.Fin->ah->Prop}{E:aj->ah->Prop}(li:LI X fb σ H φ μ Dd kS (seqObj "list" #[] e1) kz ws ks H' c s)(lk:ks.length<64)(vW:kS≠Dd)(L:qM φ H K Q)
 (hs:(arrOf st).map (·.2)=out.toArray) (hf:failedOf st=none) (lo:out.length<64) (ro:fT ys out) (da:fB φ H lW ys) (k:K (.lst lW) μ)
 (g0:X.s₀.heap.objs.size<=Dd) (fin:∀ H' s',Inv X fb σ H' s'->Q (.ref Dd) H'->P (.done<|.ret .none) s'):wpAny (model X.prog X.w) A (PyProof.Rows.ksk_tail Dd false e1 (.ref kS) st) P E s:=by
 unfold PyProof.Rows.ksk_tail;have s1:ks.toArray.size<=sizeLine:=by rw[au];exact bZ (aG lk<|by decide)
 refine fH<|listUpdate_at li.hK rfl ?_ s1<|aS _;refine fH<|c0 ?_;have WS:(s.heap.update kS<|Obj.mapSeq λ_=>(#[]:Array aj)).get? Dd=some (seqObj "list" #[] e1):=(aF _ _ vW).trans li.hD;refine fH<|seqEpoch_at WS rfl ?_;have I1:Inv X fb σ H' {s with heap:=s.heap.update kS (Obj.mapSeq λ_=>(#[]:Array aj))}:=li.I.Cb (t':=s.toks) li.fK λb o hb e=>(aF _ _<|bJ hb).trans e;rw[hs];refine fH (listUpdate_at WS rfl ?_ (aS _) (by rw[aC (by simp),au];exact aK (bZ lo)<|by decide));rw[hf];simp only[bne_self_eq_false,cR,if_false];refine av<|fin (upd H' Dd<|.lst ys) _ ?_<|JN (L.mono li.fr) li.M (da.mono li.fr) k li.fD.1;have I2:Inv X fb σ H' {s with heap:=(s.heap.update kS<|Obj.mapSeq λ_=>(#[]:Array aj)).update Dd (Obj.mapSeq λ_=>out.toArray)}:=I1.Cb (t':=s.toks) li.fD λb o hb e=>(aF _ _<|bJ hb).trans e;exact I2.adopt li.fD.1 li.fD.2.1 g0 li.fD.2.2.2.2.1 li.fD.2.2.2.2.2 (get?_update_seq WS λ_=>out.toArray) ro (by rw[ro.length];exact bZ<|aG lo<|by decide)
def EV {K:DK}{Q:VK}{P:PySem.Fin->ah->Prop}{E:aj->ah->Prop}(hu:A.units<cLine)(li:LI X fb σ H φ μ Dd kS (seqObj "list" #[] e1) (ds.map key) ws ks H' c s)(vW:kS≠Dd)(L:qM φ H K Q)(r:fT xs fE)(da:fB φ H ds xs)
 (hz:fE.length<64) (ky:∀ a∈ds,∀ b∈ds,qv (key a) (key b)=decide (rk a<rk b)) (hi:∀ i j,i<ds.length->j<ds.length->rk (ds.getD i .gz)=rk (ds.getD j .gz)->i=j) (q:∀ lW,lW.Perm ds->lW.Pairwise (λa b=>rk a<rk b)->K (.lst lW) μ)
 (g0:X.s₀.heap.objs.size<=Dd) (fin:∀ H' s',Inv X fb σ H' s'->Q (.ref Dd) H'->P (.done<|.ret .none) s'):wpAny (model X.prog X.w) A (PyProof.Rows.ksk_end Dd false fE.toArray e1 (.ref kS) ks.toArray) P E s:=by
 have lx:fE.length=ds.length:=by rw[<- r.length,da.len]
 have lk:ks.length=fE.length:=by rw[<- li.vs.length,li.da.len,gQ,gQ,lx]
 unfold PyProof.Rows.ksk_end;simp only[cR,if_false];by_cases h2:fE.toArray.size<2
 .rw[aA h2,aA h2];refine fH<|av ?_;rw[StateT.run_pure];refine fH<|av ?_;rw[au]at h2;refine uk (st:=SortSt.mk' general' (ks.toArray.zip fE.toArray) #[] 7 none) li (by lia) vW L (out:=fE) ?_ rfl hz r da (q ds (.refl _) ?_) g0 fin
  .show(ks.toArray.zip fE.toArray).map (·.2)=fE.toArray;apply Array.toList_inj.mp;simp[List.map_snd_zip,lk]
  .match ds,lx with
   |[],_=>exact .nil
   |[a],_=>exact List.pairwise_singleton _ _
   |_::_::_,lx=>rw[aE,aE]at lx;lia
 .rw[aC h2,aC h2];rw[au]at h2;have kv:∀ i,(h:i<ds.length)->∃ a o xs n,ks.getD i Value.none=.ref a/\s.heap.get? a=some o/\o={ cls:=.type "list",data:=.seq (xs:ak aj).toArray n}/\fT ((key ds[i]).map V.int) xs:=λi h=>by obtain⟨v,ev,iv⟩:=li.da.get (i:=i) (d:=kD<|key ds[i]) (by rw[nX,nX,iT h];rfl);obtain⟨u,eu,ru⟩:=li.vs.get ev;obtain⟨a,zs,rfl,_,ha,dz⟩:=iv;obtain⟨_,js,n,rj,_,ej⟩:=li.I.k7 ha;subst ru;exact⟨a,_,js,n,by rw[ar,eu];rfl,ej,rfl,by rw[<- dz.ints];exact rj⟩
  refine fH (Bs (λv hv=>?_) (by lia) ?_)
  .obtain⟨i,hi,rfl⟩:=aN hv;obtain⟨a,o,xs,n,e,eo,rfl,_⟩:=kv i (by lia);rw[ar,iT hi]at e;exact⟨a,_,e,eo,rfl⟩
  refine fH (bq (W.kat_run (Q:=λJX s'=>s'=s/\∃ p:Array Nat,arrOf JX=p.map (W.kas_item<|ks.toArray.zip fE.toArray)/\failedOf JX=none/\PN fE.length p/\Up (λi=>rk<|ds.getD i .gz) p fE.length) (G:=λp s'=>s'=s/\PN fE.length p/\Up (λi=>rk<|ds.getD i .gz) p fE.length) lk (by lia) hz (λp JX s' _ a b g=>⟨g.1,p,a,b,g.2⟩) ?_) (λw' s' g=>?_) λ_ _ z=>z)
  .refine KG.wp (f:=λi=>rk<|ds.getD i .gz) (n:=fE.length) (λi j C hi hj hC=>?_) (KL (λi j a b e=>hi i j (by lia) (by lia) e)<|by lia) λp g=>⟨rfl,g⟩;obtain⟨a,o,xs,n,e,eo,rfl,ra⟩:=kv i (by lia);obtain⟨b,o,ys,m,e',eo',rfl,rb⟩:=kv j (by lia);unfold W.kas_ask;rw[e,e'];refine LC hu ra rb eo eo' ?_;rw[ky _ (a9 _) _ (a9 _)];simpa [show i<ds.length by lia,show j<ds.length by lia]using hC
  .obtain⟨⟨⟩,JX⟩:=w';obtain⟨rfl,p,ha,hf,hp,hU⟩:=g;have lt:∀ i∈p.toList,i<ds.length:=λi h=>by have:=List.mem_range.mp<|hp.pm.mem_iff.mp h;lia
   refine uk li (by lia) vW L (W.kat_snds lk ha) hf (by rw[gQ,cH,hp.sz];exact hz) (yL r _ λi h=>by rw[r.length,lx];exact lt i h) (Aa da _ lt) (q _ ?_ ?_) g0 fin
   .have:=(hp.pm.map λi=>ds.getD i .gz);rw[lx,range_getD]at this;exact this
   .rw[eB,List.pairwise_iff_getElem];intro i j a b lH;have sa:p.toList.length=fE.length:=by rw[cH,hp.sz]
    have:=hU i j lH (by lia);simpa [hp.sz,show i<fE.length by lia,show j<fE.length by lia]using this
def Bu {K:DK}{Q:VK}{P:PySem.Fin->ah->Prop}{E:aj->ah->Prop}(F:gA X.prog X.w X.K X.mg X.fg j4 k f fd ps (iD g))(hr:iw (k+2) X.A)(hb:Binds X.K fd ps [])(I:Inv X fb σ H s)(M:fU φ H μ)
 (hD:s.heap.get? Dd=some (seqObj "list" fE.toArray n)) (fD:jH X fb H Dd) (L:qM φ H K Q) (r:fT xs fE) (da:fB φ H ds xs)
 (hz:fE.length<64) (hg:∀ d∈ds,∀ K:DK,K (kD<|key d) μ->g [d] μ K) (ky:∀ a∈ds,∀ b∈ds,qv (key a) (key b)=decide (rk a<rk b)) (hi:∀ i j,i<ds.length->j<ds.length->rk (ds.getD i .gz)=rk (ds.getD j .gz)->i=j) (q:∀ lW,lW.Perm ds->lW.Pairwise (λa b=>rk a<rk b)->K (.lst lW) μ)
 (g0:X.s₀.heap.objs.size<=Dd) (fin:∀ H' s',Inv X fb σ H' s'->Q (.ref Dd) H'->P (.done<|.ret .none) s'):wpAny (model X.prog X.w) X.A.in1.in1 (PyProof.Rows.ksk_tree Dd (.ref f) false) P E s:=by
 unfold PyProof.Rows.ksk_tree;have sl:fE.length<=sizeLine:=bZ (aG hz<|by decide);refine fH (listItems_at hD rfl (fH<|listUpdate_at hD rfl ?_ (by rw[au];exact sl)<|aS _));obtain⟨e1,h1⟩:∃ e1,(s.heap.update Dd<|Obj.mapSeq λ_=>(#[]:Array aj)).get? Dd=some (seqObj "list" #[] e1):=⟨_,get?_update_seq hD λ_=>#[]⟩;have I1:Inv X fb σ H {s with heap:=s.heap.update Dd (Obj.mapSeq λ_=>(#[]:Array aj))}:=I.Cb (t':=s.toks) fD λb o hb e=>(aF _ _<|bJ hb).trans e;refine fH (seqEpoch_at h1 rfl (fH<|wpAny_newTuple (fH<|wpAny_newList (bR ?_)<|aS _)<|by exact sl));generalize hh:s.heap.update Dd (Obj.mapSeq λ_=>(#[]:Array aj))=h at h1 I1 ⊢
 have sz:(h.push { cls:=.type "tuple",data:=.seq fE.toArray}).objs.size=h.objs.size+1:=aX ..
 have vW:(h.push { cls:=.type "tuple",data:=.seq fE.toArray}).objs.size≠Dd:=by have:=iO h1;lia
 have hu:X.A.in1.in1.units<cLine:=hr.in1.in1.N7;have li:LI X fb σ H φ μ Dd (h.push { cls:=.type "tuple",data:=.seq fE.toArray}).objs.size (seqObj "list" #[] e1) [] [] [] H 0 { s with heap:=(h.push { cls:=.type "tuple",data:=.seq fE.toArray}).push { cls:=.type "list",data:=.seq ([]:ak aj).toArray}} :=
  ⟨I1.iC (t':=s.toks) λb o e=>jx _<|jx _ e,jx _<|jx _ h1,fD,aD _ rfl,I1.zN (by show h.objs.size<=_;lia)<|I1.gT.fresh (by show h.objs.size<=_;lia),.refl _ _,M,rfl,.nil⟩
 unfold PyProof.Rows.ksk_rest;refine fH<|eV ?_;rw[List.forIn_toArray];refine fH (vT (oD:=seqObj "list" #[] e1) F hr hb vW (λv e=>nomatch e) (λx s' Q' hx=>fH<|wpAny_attempt<|bq hx (λu s1 h'=>fH<|bq h' (λ_ s2 z=>av z) λ_ _ z=>z) λ_ _ z=>z.elim) ds xs fE [] [] [] H 0 _ da r hg (by rw[cY];lia) li λX2 mB Ao c' JZ VU=>?_);rw[List.nil_append]at VU;exact fH (listItems_at VU.hK rfl (EV hu VU vW L r da hz ky hi q g0 fin))
def w5 {K:DK}{Q:VK}(F:gA X.prog X.w X.K X.mg X.fg j4 k f fd ps (iD g))(hr:iw (k+2) X.A)(hb:Binds X.K fd ps [])(I:Inv X fb σ H s)(M:fU φ H μ)(hl:H l=some (.lst xs))(L:qM φ H K Q)(da:fB φ H ds xs)
 (hz:ds.length<64) (hg:∀ d∈ds,∀ K:DK,K (kD<|key d) μ->g [d] μ K) (ky:∀ a∈ds,∀ b∈ds,qv (key a) (key b)=decide (rk a<rk b)) (hi:∀ i j,i<ds.length->j<ds.length->rk (ds.getD i .gz)=rk (ds.getD j .gz)->i=j) (q:∀ lW,lW.Perm ds->lW.Pairwise (λa b=>rk a<rk b)->K (.lst lW) μ):
 wpAny (model X.prog X.w) X.A (call (.builtin "sorted") [.ref l] [(Str.ofString "key",.ref f)]) (EP X fb σ Q) X.xe s:=by
 obtain⟨_,fE,n,r,le,e⟩:=I.k7 hl;have PX:fE.length<64:=by rw[<- le,da.len];exact hz
 have sl:fE.length<=sizeLine:=bZ (aG PX<|by decide);have zF:s.heap.IsList l fE.toArray:=⟨_,e,rfl,n,rfl⟩;refine call_function_entry_kw kind_sorted plain_sorted entry_sorted (ksk_s1 _ _) ?_;unfold Builtin.«sorted»
 refine fH (m:=checkCount "sorted" 1 1 _)<|av<|fH<|collect_list zF (fH<|wpAny_newList ?_ sl) sl;generalize hh:(s.heap.push<|seqObj "list" #[] 0).update s.heap.objs.size (Obj.mapSeq (·++fE.toArray))=h;have keep:∀ b o,s.heap.get? b=some o->h.get? b=some o:=λb o q=>by rw[<- hh];exact(aF _ _<|ba<|iO q).trans (jx _ q)
 have I1:Inv X fb σ H {s with heap:=h}:=I.iC (t':=s.toks) keep;have I2:Inv X fb σ H {s with heap:=h.push { cls:=.type "list",data:=.seq fE.toArray}}:=I1.iC (t':=s.toks) λb o q=>jx _ q;have gD:(h.push { cls:=.type "list",data:=.seq fE.toArray}).get? h.objs.size=some (seqObj "list" fE.toArray 0):=aD _ rfl;refine fH<|bR<|wpAny_call_entry_kw slot_list_sort ⟨_,gD,rfl⟩ entry_list_sort ?_<|ksk_l1 _ _;show wpAny _ _ (Builtin.«list.sort» ⟨[.ref h.objs.size],[(Str.ofString "key",.ref f)]⟩) _ _ _;rw[ksk_t1];exact Bu F hr hb I2 M gD (I1.zN (aq _)<|I1.gT.fresh<|aq _) L r da PX hg ky hi q (aK I1.sz<|aq _) λH' s' I' q'=>⟨_,rfl,av ⟨_,rfl,⟨.ref h.objs.size,H',I',rfl,q'⟩⟩⟩
def QD (g:lp)(w:De):De:=λρ μ K=>w ρ μ λx fM=>∃(ds:ak D) (key:D->ak Int) (rk:D->Nat),lv fM x=some ds/\ds.length<64/\(∀ d∈ds,∀ K:DK,K (kD<|key d) fM->g [d] fM K) /\
 (∀ a∈ds,∀ b∈ds,qv (key a) (key b)=decide (rk a<rk b))/\(∀ i j,i<ds.length->j<ds.length->rk (ds.getD i .gz)=rk (ds.getD j .gz)->i=j)/\∀ lW,lW.Perm ds->lW.Pairwise (λa b=>rk a<rk b)->K (.lst lW) fM
def L9 {x:Str}(C:pv X.prog X.w X.K X.mg X.fg x k ps (iD g))(hr:iw (k+2) X.A)(hg:Gl X "sorted")(hm:X.mg "sorted"=none)(hx:Gl X x)(he:PD X e w)(hd:(x==("__debug__" : Str))=false:=by decide)
 (h1:starEach [e] X.env=(false,eval e X.env)::starEach [] X.env:=by rfl)
 (h2:backTo pos (starEach [e] X.env)=(false,eval e X.env)::backTo pos (starEach [] X.env):=by rfl) (h3:(backTo pos<|starEach [e] X.env).any (·.1)=false:=by rfl)
 (h4:(backToKw pos<|keywordEach [⟨some "key",.Name x p2,xP⟩] X.env).all (·.1.isSome)=true:=by rfl) (h5:(backToKw pos<|keywordEach [⟨some "key",.Name x p2,xP⟩] X.env).any (·.1.isNone)=false:=by rfl)
 (h6:(backToKw pos<|keywordEach [⟨some "key",.Name x p2,xP⟩] X.env).filterMap (·.1)=[Str.ofString "key"]:=by rfl):
 PD X (.Call (.Name "sorted" p) [e] [⟨some "key",.Name x p2,xP⟩] pos) (QD g w):=by
 intro fb s σ H Q I h;obtain⟨φ,ρ,μ,K,A,M,k,L⟩:=h;obtain⟨f,fd,F,hmf,hk,hb⟩:=C.ex;refine cw<|ku I hg hm PyProof.Rows.boot_sorted ?_;have q1:vI (tD w) Ep σ H (λus H1=>vI (tC<|.ref f) Ep σ H1 λzs H2=>∃(l:ai) (xs:ak V) (gy:ak ai) (fM:MS) (ds:ak D) (key:D->ak Int) (rk:D->Nat),us=[.ref l]/\zs=[.ref f]/\H2 l=some (.lst xs)/\fU gy H2 fM/\fB gy H2 ds xs/\qM gy H2 K Q/\ds.length<64/\(∀ d∈ds,∀ K:DK,K (kD<|key d) fM->g [d] fM K) /\
  (∀ a∈ds,∀ b∈ds,qv (key a) (key b)=decide (rk a<rk b))/\(∀ i j,i<ds.length->j<ds.length->rk (ds.getD i .gz)=rk (ds.getD j .gz)->i=j)/\∀ lW,lW.Perm ds->lW.Pairwise (λa b=>rk a<rk b)->K (.lst lW) fM):=by
  refine⟨φ,ρ,μ,_,A,M,k,λd1 fM gy v1 H1 k1 f1 M1 i1=>?_⟩;obtain⟨ds,key,rk,el,a1,a2,a3,a4,a5⟩:=k1;obtain⟨l,xs,rfl,hl,da⟩:=jA M1 i1 el;exact⟨l,xs,gy,fM,ds,key,rk,rfl,rfl,hl,M1,da,L.mono f1,a1,a2,a3,a4,a5⟩
 refine PyProof.Rows.callWith_kw (hZ (fJ he gZ h1 pos fb s σ H _ I q1) λus s1 LP=>?_) h2 h3 h4 h5;obtain⟨vs,H1,I1,r1,q2⟩:=LP;refine hZ (Cz (Lf (v:=.ref f) hx hmf rfl hd) G2 pos fb s1 σ H1 _ I1 q2) λks s2 HX=>?_;obtain⟨zs,H2,I2,r2,l,xs,gy,fM,ds,key,rk,e1,e2,hl,M1,da,L1,a1,a2,a3,a4,a5⟩:=HX;subst e1 e2;obtain⟨u,rfl,ru⟩:=r1.one;obtain⟨u2,rfl,VF⟩:=r2.one;subst ru VF;rw[h6];exact w5 F hr hb I2 M1 hl L1 da a1 a2 a3 a4 a5
end
open PySem PySem.Spec PyProof.Rows PyProof
def kz:hJ->ak Int
 |.num n=>[n]
 |.j0 p l r=>p::(kz l++kz r)
theorem nj:∀ t:hJ,(kz t).length+1=2*t.cnt
 |.num _=>rfl
 | .j0 p l r=>by show(kz l++kz r).length+1+1=2*(l.cnt+r.cnt);have:=nj l;have:=nj r;rw[kO];lia
theorem CO:∀ x,qv x x=false
 |[]=>rfl
 |x::xs=>by show(if x=x then qv xs xs else _)=_;rw[aA rfl];exact CO xs
theorem zy:∀ {x y},qv x y=true->qv y x=false
 |[],[],h=>by cases h
 |[],_::_,h=>rfl
 |_::_,[],h=>by cases h
 | x::xs,y::ys,h=>by
  have h:(if x=y then qv xs ys else decide (x<y))=true:=h;show(if y=x then qv ys xs else decide (y<x))=false;by_cases q:x=y
  .rw[aA q]at h;rw[aA q.symm];exact zy h
  .rw[aC q,bA]at h;rw[aC λz=>q z.symm,decide_eq_false_iff_not];lia
theorem CP:∀ {x y:ak Int},x.length=y.length->qv x y=true->qv (x++a) (y++b)=true
 |[],[],_,h=>by cases h
 |[],_::_,e,h=>by cases e
 |_::_,[],e,h=>by cases e
 | x::xs,y::ys,e,h=>by
  have h:(if x=y then qv xs ys else decide (x<y))=true:=h;show(if x=y then qv (xs++a) (ys++b)else decide (x<y))=true;by_cases q:x=y
  .rw[aA q]at h ⊢;exact CP (by simpa using e) h
  .rw[aC q]at h ⊢;exact h
theorem zz:∀(x:ak Int),qv (x++a) (x++b)=qv a b
 |[]=>rfl
 |x::xs=>by show(if x=x then qv (xs++a) (xs++b)else _)=_;rw[aA rfl];exact zz xs
section
variable {n:Int}{cs:ak Int}{ts:ak Tk}(S:gP n cs ts)
include S
theorem JF {i j a:Nat}(lH:i<j)(hj:j<(e9 n cs).length)(h:nG (e9 n cs) ts a i j t)(g:nG (e9 n cs) ts a i j u):(kz t).length=(kz u).length:=by have a1:=(mV S a i j t lH hj h).2.1;have a2:=(mV S a i j u lH hj g).2.1;have:=nj t;have:=nj u;lia
theorem BB:∀(a i j:Nat) (t u:hJ),i<j->j<(e9 n cs).length->nG (e9 n cs) ts a i j t->nG (e9 n cs) ts a i j u->U0 t u->qv (kz t) (kz u)=true
 |0,_,_,_,_,_,_,h,_,_=>h.elim
 | a+1,i,j,t,u,lH,hj,h,g,q=>by
  unfold nG at h g;by_cases z:fG (e9 n cs) ts (a+1) i j=0
  .rw[aA z]at h g;obtain⟨x,_,rfl⟩:=h;obtain⟨y,_,rfl⟩:=g;have q:(x:Int)<y:=q;show(if(x:Int)=y then false else decide ((x:Int)<y))=true;rw[aC (by lia)];exact aB q
  .rw[aC z]at h g;obtain⟨k,hk,l,r,rfl,hl,hr⟩:=h;obtain⟨k',zG,l',r',rfl,oX,SF⟩:=g;have m1:=hG.mp hk;have m2:=hG.mp zG;show(if(e9 n cs).getD k 0=(e9 n cs).getD k' 0 then qv (kz l++kz r) (kz l'++kz r')else decide ((e9 n cs).getD k 0<(e9 n cs).getD k' 0))=true;rcases q with q|⟨q,w⟩
   .rw[aC (by lia)];exact aB q
   .rw[aA q];obtain rfl:=BF (gr S.n1 S.ij) (by lia) (by lia) q;rcases w with w|⟨rfl,w⟩
    .exact CP (JF S m1.1 (by lia) hl oX) (BB a i k l l' m1.1 (by lia) hl oX w)
    .rw[zz];exact BB a k j r r' m1.2.1 hj hr SF w
theorem Lv (hm:u3 cs ts r (List.replicate n.toNat 111) b):jC (e9 n cs) ts=none:=by
 cases hb:jC (e9 n cs) ts with
 |none=>rfl
 | some p =>
  exfalso;delta jC at hb;have SO:bad ts p=true:=List.find?_some hb;have hp:=List.mem_of_find?_eq_some hb;obtain⟨i,hi,ei⟩:=aN hp;have g:(Nk<|e9 n cs)[i]?=some p:=by rw[iT hi,ei]
  rw[Cw]at g;cases e1:(e9 n cs)[i]? with
  |none=>rw[e1]at g;cases g
  | some u =>
   cases e2:(e9 n cs)[i+1]? with
   |none=>rw[e1,e2]at g;cases g
   | some v =>rw[e1,e2]at g;cases g;have u2:=iL S.n1 S.ij<|lC e1;have v2:=iL S.n1 S.ij<|lC e2;refine xK S e1 e2 (λt ht hc=>?_) hm<|yp n u v v2.2 u2.1;delta bad at SO;have:=bp<|List.all_eq_true.mp SO t ht;obtain⟨k,k1,k2,k3⟩:=D0 u2.1 v2.1 this;have:=hc k k1 k2;rw[k3]at this;cases this
end
def T4 (ht:ts.length<=3):∀ a i,0<=gM es ts a i (i+1)/\gM es ts a i (i+1)<=3
 |0,i=>by show(0:Int)<=0/\(0:Int)<=3;lia
 | a+1,i=>by
  unfold gM;split
  .have:=sZ es ts a i<|i+1;lia
  .have:=tm (fG es ts<|a+1) (fG es ts a) i<|i+1;rw[List.eq_nil_of_length_eq_zero (by lia:(kN (fG es ts<|a+1) (fG es ts a) i<|i+1).length=0)];show(0:Int)<=0/\(0:Int)<=3;lia
def Bc {x y A B:Int}(h1:0<=x/\x<=A)(h2:0<=y/\y<=B):0<=x*y/\x*y<=A*B:=⟨c9 h1.1 h2.1,Int.mul_le_mul h1.2 h2.2 h2.1<|bT h1.1 h1.2⟩
def Xs (ht:ts.length<=3):∀ a i,0<=gM es ts a i (i+2)/\gM es ts a i (i+2)<=9
 |0,i=>by show(0:Int)<=0/\(0:Int)<=9;lia
 | a+1,i=>by
  unfold gM;split
  .have:=sZ es ts a i<|i+2;lia
  .have ml:=tm (fG es ts<|a+1) (fG es ts a) i<|i+2;have:=wX (f:=λk=>gM es ts a i k*gM es ts a k (i+2)) (B:=9) (by lia) (l:=kN (fG es ts<|a+1) (fG es ts a) i<|i+2) λk hk=>by
    have:=hG.mp hk;obtain rfl:k=i+1:=by lia
    exact Bc (T4 ht a i) (T4 ht a<|i+1)
   lia
def ct3 (ht:ts.length<=3):∀ a i,0<=gM es ts a i (i+3)/\gM es ts a i (i+3)<=54
 |0,i=>by show(0:Int)<=0/\(0:Int)<=54;lia
 | a+1,i=>by
  unfold gM;split
  .have:=sZ es ts a i<|i+3;lia
  .have ml:=tm (fG es ts<|a+1) (fG es ts a) i<|i+3;have:=wX (f:=λk=>gM es ts a i k*gM es ts a k (i+3)) (B:=27) (by lia) (l:=kN (fG es ts<|a+1) (fG es ts a) i<|i+3) λk hk=>by
    have:=hG.mp hk;obtain rfl|rfl:k=i+1\/k=i+2:=by lia
    .exact Bc (T4 ht a i) (Xs ht a<|i+1)
    .exact Bc (Xs ht a i) (T4 ht a<|i+2)
   lia
def nN (m:Nat):ak hJ:=(List.range m).map λk:Nat=>.num (k:Int)
def lB (cs:ak Int)(m:Nat):ak hJ:=cs.flatMap λp=>(nN m).flatMap λl=>(nN m).map λr=>.j0 p l r
def wN (cs:ak Int)(m:Nat):ak hJ:=cs.flatMap λp=>(lB cs m).flatMap λt=>((nN m).map λr=>hJ.j0 p t r)++(nN m).map λl=>.j0 p l t
def allM (cs:ak Int)(m:Nat):ak hJ:=nN m++(lB cs m++wN cs m)
def Hx:t∈nN m↔∃ k:Nat,k<m/\t=.num k:=by unfold nN;simp only[eF,bU];exact⟨λHW=>by obtain⟨k,a,b⟩:=HW;exact⟨k,a,b.symm⟩,λLO=>by obtain⟨k,a,b⟩:=LO;exact⟨k,a,b.symm⟩⟩
def zb:t∈lB cs m↔∃ p l r,p∈cs/\l∈nN m/\r∈nN m/\t=.j0 p l r:=by unfold lB;simp only[List.mem_flatMap,eF];exact⟨λLN=>by obtain⟨p,a,l,b,r,c,e⟩:=LN;exact⟨p,l,r,a,b,c,e.symm⟩,λPZ=>by obtain⟨p,l,r,a,b,c,e⟩:=PZ;exact⟨p,a,l,b,r,c,e.symm⟩⟩
def tP:t∈wN cs m↔∃ p u x,p∈cs/\u∈lB cs m/\x∈nN m/\(t=.j0 p u x\/t=.j0 p x u):=by
 unfold wN;simp only[List.mem_flatMap,eF,List.mem_append];constructor
 .rintro⟨p,a,u,b,⟨x,c,e⟩ | ⟨x,c,e⟩⟩
  .exact⟨p,u,x,a,b,c,.inl e.symm⟩
  .exact⟨p,u,x,a,b,c,.inr e.symm⟩
 .rintro⟨p,u,x,a,b,c,e | e⟩
  .exact⟨p,a,u,b,.inl ⟨x,c,e.symm⟩⟩
  .exact⟨p,a,u,b,.inr ⟨x,c,e.symm⟩⟩
def nJ (h:t∈nN m):t.ok cs m/\t.dep=0:=by obtain⟨k,hk,rfl⟩:=Hx.mp h;exact⟨⟨by lia,by lia⟩,rfl⟩
def lA (h:t∈lB cs m):t.ok cs m/\t.dep=1:=by obtain⟨p,l,r,hp,hl,hr,rfl⟩:=zb.mp h;refine⟨⟨hp,(nJ hl).1,(nJ hr).1⟩,?_⟩;show max l.dep r.dep+1=1;rw[(nJ (cs:=cs) hl).2,(nJ (cs:=cs) hr).2];rfl
def sR (h:t∈wN cs m):t.ok cs m/\t.dep=2:=by
 obtain⟨p,u,x,hp,hu,hx,rfl|rfl⟩:=tP.mp h
 .refine⟨⟨hp,(lA hu).1,(nJ hx).1⟩,?_⟩;show max u.dep x.dep+1=2;rw[(lA hu).2,(nJ (cs:=cs) hx).2];rfl
 .refine⟨⟨hp,(nJ hx).1,(lA hu).1⟩,?_⟩;show max x.dep u.dep+1=2;rw[(lA hu).2,(nJ (cs:=cs) hx).2];rfl
def BU (h:t∈allM cs m):t.ok cs m/\t.dep<=2:=by
 unfold allM at h;rcases List.mem_append.mp h with h|h
 .exact⟨(nJ h).1,by rw[(nJ (cs:=cs) h).2];lia⟩
 rcases List.mem_append.mp h with h|h
 .exact⟨(lA h).1,by rw[(lA h).2];lia⟩
 .exact⟨(sR h).1,by rw[(sR h).2];lia⟩
def zj {t:hJ}(h:t.ok cs m)(c:t.cnt<=1):t∈nN m:=by
 cases t with
 |num k=>exact Hx.mpr ⟨k.toNat,by have:=h.1;have:=h.2;lia,by have:=h.1;rw[bW this]⟩
 |j0 p l r=>have:=l.lF;have:=r.lF;have c:l.cnt+r.cnt<=1:=c;lia
def xB {t:hJ}(h:t.ok cs m)(c:t.cnt=2):t∈lB cs m:=by
 cases t with
 |num k=>have c:1=2:=c;lia
 | j0 p l r =>
  have:=l.lF;have:=r.lF;have c:l.cnt+r.cnt=2:=c
  exact zb.mpr ⟨p,l,r,h.1,zj h.2.1<|by lia,zj h.2.2<|by lia,rfl⟩
def QN {t:hJ}(h:t.ok cs m)(c:t.cnt<=3):t∈allM cs m:=by
 unfold allM;by_cases c1:t.cnt<=1
 .exact b9 _ (zj h c1)
 refine aI _ ?_;by_cases c2:t.cnt=2
 .exact b9 _ (xB h c2)
 refine aI _ ?_;cases t with
 |num k=>exact absurd (show(1:Nat)<=1 by lia) c1
 | j0 p l r =>
  have:=l.lF;have:=r.lF;have c:l.cnt+r.cnt<=3:=c;have c2:¬ l.cnt+r.cnt=2:=c2
  by_cases q:l.cnt=2
  .exact tP.mpr ⟨p,l,r,h.1,xB h.2.1 q,zj h.2.2<|by lia,.inl rfl⟩
  .exact tP.mpr ⟨p,r,l,h.1,xB h.2.2<|by lia,zj h.2.1<|by lia,.inr rfl⟩
def xN {f:α->β}(hf:∀ a b,f a=f b->a=b){l:ak α}(h:l.Nodup):(l.map f).Nodup:=List.pairwise_map.mpr (h.imp λq e=>q<|hf _ _ e)
def Dk {f:α->ak β}{l:ak α}(h:l.Nodup)(h1:∀ a∈l,(f a).Nodup)(h2:∀ a∈l,∀ b∈l,a≠b->∀ x∈f a,x∉f b):(l.flatMap f).Nodup:=by
 unfold List.Nodup at *
 rw[List.pairwise_flatMap];refine⟨h1,?_⟩;clear h1;induction h with
 |nil=>exact .nil
 | cons q r ih =>refine .cons (λb hb x hx y hy e=>?_) (ih λa ha b hb=>h2 a (.tail _ ha) b<|.tail _ hb);subst e;exact h2 _ (.head _) b (.tail _ hb) (q b hb) x hx hy
def zm (m:Nat):(nN m).Nodup:=xN (λa b e=>by injection e with e;lia) List.nodup_range
def CD (h:cs.Nodup):(lB cs m).Nodup:=by
 refine Dk h (λp _=>Dk (zm m) (λl _=>xN (λa b e=>by injection e)<|zm m) λa _ b _ ne x hx hy=>?_) λa _ b _ ne x hx hy=>?_
 .obtain⟨r,_,rfl⟩:=List.mem_map.mp hx;obtain⟨r',_,e⟩:=List.mem_map.mp hy;injection e with e1 e2;exact ne e2.symm
 .obtain⟨l,_,hx⟩:=List.mem_flatMap.mp hx;obtain⟨l',_,hy⟩:=List.mem_flatMap.mp hy;obtain⟨r,_,rfl⟩:=List.mem_map.mp hx;obtain⟨r',_,e⟩:=List.mem_map.mp hy;injection e with e1;exact ne e1.symm
def A6 (h:t∈lB cs m)(g:u∈nN m):t≠u:=λe=>by have a:=(lA h).2;rw[e,(nJ (cs:=cs) g).2]at a;lia
def Ko (h:cs.Nodup):(wN cs m).Nodup:=by
 have UQ:∀ {p:Int} {t x:hJ},x∈((nN m).map λr=>hJ.j0 p t r)++((nN m).map λl=>hJ.j0 p l t)->∃ y∈nN m,x=.j0 p t y\/x=.j0 p y t:=λ{p t x} h=>by
  rcases List.mem_append.mp h with h|h
  .obtain⟨y,hy,rfl⟩:=List.mem_map.mp h;exact⟨y,hy,.inl rfl⟩
  .obtain⟨y,hy,rfl⟩:=List.mem_map.mp h;exact⟨y,hy,.inr rfl⟩
 refine Dk h (λp _=>Dk (CD h) (λt ht=>?_) λa ha b hb ne x hx hy=>?_) λa _ b _ ne x hx hy=>?_
 .refine List.nodup_append.mpr ⟨xN (λa b e=>by injection e)<|zm m,xN (λa b e=>by injection e)<|zm m,λx hx y hy e=>?_⟩;obtain⟨r,hr,rfl⟩:=List.mem_map.mp hx;obtain⟨l,hl,rfl⟩:=List.mem_map.mp hy;injection e with e1 e2;exact A6 ht hl e2
 .obtain⟨y,LK,e⟩:=UQ hx;obtain⟨z,hz,e'⟩:=UQ hy;rcases e with rfl|rfl<;>rcases e' with e'|e'<;>injection e' with e1 e2 e3
  .exact ne e2
  .exact A6 ha hz e2
  .exact A6 hb LK e2.symm
  .exact ne e3
 .obtain⟨t,_,hx⟩:=List.mem_flatMap.mp hx;obtain⟨u,_,hy⟩:=List.mem_flatMap.mp hy;obtain⟨y,_,e⟩:=UQ hx;obtain⟨z,_,e'⟩:=UQ hy;rcases e with rfl|rfl<;>rcases e' with e'|e'<;>injection e' with e1<;>exact ne e1
def QO (h:cs.Nodup):(allM cs m).Nodup:=by
 unfold allM;refine List.nodup_append.mpr ⟨zm m,List.nodup_append.mpr ⟨CD h,Ko h,λx hx y hy e=>?_⟩,λx hx y hy e=>?_⟩
 .have a:=(lA hx).2;rw[e,(sR hy).2]at a;lia
 .have a:=(nJ (cs:=cs) hx).2;rcases List.mem_append.mp hy with hy|hy
  .rw[e,(lA hy).2]at a;lia
  .rw[e,(sR hy).2]at a;lia
theorem xM:∀ {t u:hJ},i7 t=i7 u->t=u
 |.num _,.num _,h=>by injection h with h;rw[h]
 |.num _,.j0 _ _ _,h=>by cases h
 |.j0 _ _ _,.num _,h=>by cases h
 | .j0 p l r,.j0 p' l' r',h=>by injection h with h;injection h with h1 h2;injection h2 with h2 h3;injection h3 with h3;injection h1 with h1;rw[h1,xM h2,xM h3]
noncomputable def Uz (d:D):hJ:=open Classical in if h:∃ t,d=i7 t then h.choose else .num 0
def tO (t:hJ):Uz (i7 t)=t:=by unfold Uz;rw[dif_pos ⟨t,rfl⟩];exact(xM<|Exists.choose_spec (⟨t,rfl⟩:∃ u,i7 t=i7 u)).symm
def NV (ts:ak Tk)(n:Int)(t:hJ):Bool:=decide ((t.val ts).1=List.replicate n.toNat 111)
def gU (cs:ak Int)(ts:ak Tk)(n:Int):ak hJ:=(allM cs ts.length).filter (NV ts n)
section
variable {n:Int}{cs:ak Int}{ts:ak Tk}(S:gP n cs ts)
include S
theorem iR (h:t∈gU cs ts n):t.ok cs ts.length/\t.dep<=2/\(t.val ts).1=List.replicate n.toNat 111:=by obtain⟨a,b⟩:=List.mem_filter.mp h;exact⟨(BU a).1,(BU a).2,bp b⟩
theorem Fh (h:t∈gU cs ts n):jC (e9 n cs) ts=none:=by obtain⟨a,_,c⟩:=iR S h;have m:=tp a;rw[c]at m;exact Lv S m
theorem wt {t:hJ}(h:(t.val ts).1=List.replicate n.toNat 111):FO (t.val ts).1 0 n:=by rw[h];exact yp n 0 n (bo _) (bo _)
variable {A:Nat}(la:hV (e9 n cs) ts n A)(hc:cs.length<=2)
include la hc
theorem qJ (h:nG (e9 n cs) ts (A+1) 0 (cs.length+1) t):t∈gU cs ts n/\(t.val ts).2=A:=by obtain⟨a,b,c⟩:=(oG S la).mp h;have f:=(wR S la).2;rw[fO]at f;exact⟨List.mem_filter.mpr ⟨QN a<|by lia,aB<|by rw[b]⟩,by rw[b]⟩
theorem yi:∃ t,nG (e9 n cs) ts (A+1) 0 (cs.length+1) t:=by have e:=fO n cs;have cp:=QG S (by lia) A 0 (cs.length+1) (by lia) (by lia) (wR S la).2;have ft:=S.takes.oA;exact⟨rL (e9 n cs) ts (A+1) 0 (cs.length+1) 0,(lZ (gr S.n1 S.ij) (A+1) 0 (cs.length+1) _ (by lia)<|by lia).mp (by rw[qY (gr S.n1 S.ij) (by lia) (by lia) (A+1) 0 (cs.length+1) 0 (by lia) (by lia) (by lia) cp];rfl)⟩
theorem QQ {m:Int}(h:m∈(gU cs ts n).map λt=>(t.val ts).2)(g:∀ y∈(gU cs ts n).map λt=>(t.val ts).2,m<=y):m=A:=by obtain⟨t,ht,rfl⟩:=List.mem_map.mp h;obtain⟨b,hb⟩:=yi S la hc;obtain⟨b1,b2⟩:=qJ S la hc hb;have:=g _<|List.mem_map.mpr ⟨b,b1,b2⟩;have:=wx S la (iR S ht).1<|wt S (iR S ht).2.2;lia
theorem Qr (h:t∈gU cs ts n)(e:(t.val ts).2=A):fG (e9 n cs) ts (A+1) 0 (cs.length+1)+1<=t.cnt:=by
 have el:=fO n cs;have g0:(e9 n cs).getD 0 0=0:=by rw[ar,uH];rfl
 have gn:(e9 n cs).getD (cs.length+1) 0=n:=by rw[ar,pU];rfl
 exact(kC S t A 0 (cs.length+1) (by lia) (by lia) (iR S h).1 (by lia) (by rw[g0,gn];exact wt S (iR S h).2.2)).1
theorem Qq {m:Int}(h:m∈((gU cs ts n).filter λt:hJ=>decide ((t.val ts).2=(A:Int))).map λt=>((kz t).length:Int))(g:∀ y∈((gU cs ts n).filter λt:hJ=>decide ((t.val ts).2=(A:Int))).map λt=>((kz t).length:Int),m<=y):m=2*fG (e9 n cs) ts (A+1) 0 (cs.length+1)+1:=by obtain⟨t,ht,rfl⟩:=List.mem_map.mp h;obtain⟨h1,h2⟩:=List.mem_filter.mp ht;obtain⟨b,hb⟩:=yi S la hc;obtain⟨b1,b2⟩:=qJ S la hc hb;have:=g _<|List.mem_map.mpr ⟨b,List.mem_filter.mpr ⟨b1,aB b2⟩,rfl⟩;have:=Qr S la hc h1<|bp h2;have:=nj t;have:=nj b;have:=((oG S la).mp hb).2.2;lia
theorem HG:t∈((gU cs ts n).filter λt:hJ=>decide ((t.val ts).2=(A:Int))).filter (λt=>decide (((kz t).length:Int)=2*fG (e9 n cs) ts (A+1) 0 (cs.length+1)+1))↔nG (e9 n cs) ts (A+1) 0 (cs.length+1) t:=by
 have:=nj t;constructor
 .intro h;obtain⟨h,h3⟩:=List.mem_filter.mp h;obtain⟨h1,h2⟩:=List.mem_filter.mp h;have h2:=bp h2;have h3:=bp h3;obtain⟨a,_,c⟩:=iR S h1;exact(oG S la).mpr ⟨a,Prod.ext c h2,by lia⟩
 .intro h;obtain⟨b1,b2⟩:=qJ S la hc h;have:=((oG S la).mp h).2.2;exact List.mem_filter.mpr ⟨List.mem_filter.mpr ⟨b1,aB b2⟩,aB<|by lia⟩
end
noncomputable def AV (es:ak Int)(ts:ak Tk)(A j:Nat)(d:D):Nat:=((Cq es ts (A+1) 0 j<|Uz d).getD 0).toNat
def sI (es:ak Int)(ts:ak Tk)(A:Nat):ak hJ:=(List.range (gM es ts (A+1) 0<|es.length - 1).toNat).map λr:Nat=>rL es ts (A+1) 0 (es.length - 1) r
section
variable {n:Int}{cs:ak Int}{ts:ak Tk}(S:gP n cs ts){A:Nat}(la:hV (e9 n cs) ts n A)(hc:cs.length<=2)(L:ak hJ)(hL:∀ t,t∈L↔nG (e9 n cs) ts (A+1) 0 (cs.length+1) t)
include S la hc hL
theorem qI (h:t∈L):∃ r:Nat,AV (e9 n cs) ts A (cs.length+1) (i7 t)=r/\(r:Int)<gM (e9 n cs) ts (A+1) 0 (cs.length+1)/\rL (e9 n cs) ts (A+1) 0 (cs.length+1) r=t:=by have e:=fO n cs;have ft:=S.takes.oA;have b:=(lZ (gr S.n1 S.ij) (A+1) 0 (cs.length+1) t (by lia)<|by lia).mpr<|(hL t).mp h;obtain⟨r,er⟩:=Option.isSome_iff_exists.mp b;obtain⟨r0,r1,r2⟩:=BP (by lia) (by lia) (A+1) 0 (cs.length+1) t r (by lia) (by lia) er;refine⟨r.toNat,?_,by lia,by rw[bW r0];exact r2⟩;unfold AV;rw[tO,er];rfl
theorem Ms (h:t∈L)(g:u∈L):qv (kz t) (kz u)=decide (AV (e9 n cs) ts A (cs.length+1) (i7 t)<AV (e9 n cs) ts A (cs.length+1) (i7 u)):=by
 obtain⟨r,e1,e2,e3⟩:=qI S la hc L hL h;obtain⟨q,f1,f2,f3⟩:=qI S la hc L hL g;have e:=fO n cs;have ft:=S.takes.oA;have key:∀(r q:Nat) {t u:hJ},t∈L->u∈L->rL (e9 n cs) ts (A+1) 0 (cs.length+1) r=t->rL (e9 n cs) ts (A+1) 0 (cs.length+1) q=u->r<q->(q:Int)<gM (e9 n cs) ts (A+1) 0 (cs.length+1)->qv (kz t) (kz u)=true:=λr q t u ht hu e1 e2 h1 h2=>by refine BB S (A+1) 0 (cs.length+1) t u (by lia) (by lia) ((hL t).mp ht) ((hL u).mp hu) ?_;rw[<- e1,<- e2];exact BQ (gr S.n1 S.ij) (by lia) (by lia) (A+1) 0 (cs.length+1) r q (by lia) (by lia) (by lia) (by lia) h2
 rw[e1,f1];rcases cz r q with z|z|z
 .rw[aB z];exact key r q h g e3 f3 z f2
 .subst z;rw[e3]at f3;rw[f3,aP (by lia)];exact CO _
 .rw[aP (by lia)];exact zy (key q r g h f3 e3 z e2)
theorem JG (nd:L.Nodup){i j:Nat}(hi:i<(L.map i7).length)(hj:j<(L.map i7).length)(h:AV (e9 n cs) ts A (cs.length+1) ((L.map i7).getD i .gz)=AV (e9 n cs) ts A (cs.length+1) ((L.map i7).getD j .gz)):i=j:=by
 rw[gQ]at hi hj;have gi:(L.map i7).getD i .gz=i7 L[i]:=by simp[hi]
 have gj:(L.map i7).getD j .gz=i7 L[j]:=by simp[hj]
 rw[gi,gj]at h;obtain⟨r,e1,e2,e3⟩:=qI S la hc L hL<|a9 hi;obtain⟨q,f1,f2,f3⟩:=qI S la hc L hL<|a9 hj;rw[e1,f1]at h;subst h;exact(List.getElem_inj nd).mp (e3.symm.trans f3)
theorem KI:t∈sI (e9 n cs) ts A↔t∈L:=by
 have e:=fO n cs;have ft:=S.takes.oA;unfold sI;rw[show(e9 n cs).length - 1=cs.length+1 by lia,eF];constructor
 .rintro⟨r,hr,rfl⟩;rw[bU]at hr;exact(hL _).mpr ((lZ (gr S.n1 S.ij) (A+1) 0 (cs.length+1) _ (by lia)<|by lia).mp (by rw[qY (gr S.n1 S.ij) (by lia) (by lia) (A+1) 0 (cs.length+1) r (by lia) (by lia) (by lia) (by lia)];rfl))
 .intro h;obtain⟨r,_,e2,e3⟩:=qI S la hc L hL h;exact⟨r,List.mem_range.mpr<|by lia,e3⟩
theorem Gx:((sI (e9 n cs) ts A).map i7).Pairwise λa b=>AV (e9 n cs) ts A (cs.length+1) a<AV (e9 n cs) ts A (cs.length+1) b:=by
 have e:=fO n cs;have ft:=S.takes.oA;have rk:∀ r:Nat,(r:Int)<gM (e9 n cs) ts (A+1) 0 (cs.length+1)->AV (e9 n cs) ts A (cs.length+1) (i7<|rL (e9 n cs) ts (A+1) 0 (cs.length+1) r)=r:=λr h=>by unfold AV;rw[tO,qY (gr S.n1 S.ij) (by lia) (by lia) (A+1) 0 (cs.length+1) r (by lia) (by lia) (by lia) h];rfl
 unfold sI;rw[show(e9 n cs).length - 1=cs.length+1 by lia,bc,eB,List.pairwise_iff_getElem];intro i j hi hj lH;simp only[ur,List.getElem_range]at hi hj ⊢
 show AV _ _ _ _ (i7<|rL _ _ _ _ _ (i:Int))<AV _ _ _ _ (i7<|rL _ _ _ _ _ (j:Int));rw[rk i (by lia),rk j (by lia)];exact lH
theorem yS (nd:L.Nodup):(sI (e9 n cs) ts A).Perm L:=by refine(List.perm_ext_iff_of_nodup ?_ nd).mpr λt=>KI S la hc L hL;have:=Gx S la hc L hL;rw[eB]at this;exact this.imp λh e=>by rw[e]at h;lia
theorem Oj (nd:L.Nodup){ds:ak D}(p:ds.Perm (L.map i7))(w:ds.Pairwise λa b=>AV (e9 n cs) ts A (cs.length+1) a<AV (e9 n cs) ts A (cs.length+1) b):ds=(sI (e9 n cs) ts A).map i7 :=
 List.Perm.eq_of_pairwise (λa b _ _ h g=>by lia) w (Gx S la hc L hL) (p.trans ((yS S la hc L hL nd).map i7).symm)
theorem KJ (ht:ts.length<=3)(nd:L.Nodup):L.length<=54:=by
 rw[<- (yS S la hc L hL nd).length_eq];unfold sI;have e:=fO n cs;rw[gQ,ur,show(e9 n cs).length - 1=cs.length+1 by lia];obtain h|h|h:cs.length=0\/cs.length=1\/cs.length=2:=by lia
 .rw[h];have:=T4 (es:=e9 n cs) ht (A+1) 0;lia
 .rw[h];have:=Xs (es:=e9 n cs) ht (A+1) 0;lia
 .rw[h];have:=ct3 (es:=e9 n cs) ht (A+1) 0;lia
end
def Ge (k:Nat)(p:Int)(t:hJ):ak hJ:=((nN k).map λr=>hJ.j0 p t r)++(nN k).map λl=>.j0 p l t
def El (cs dn:ak Int)(k:Nat):ak hJ:=dn.flatMap λp=>(lB cs k).flatMap (Ge k p)
theorem uz {f:α->ak β}{B:Nat}:∀ {l:ak α},(∀ a∈l,(f a).length<=B)->(l.flatMap f).length<=l.length*B
 |[],_=>aS _
 | x::l,h=>by have h1:=h x<|.head _;have h2:=uz (l:=l) λa ha=>h a<|.tail _ ha;rw[dA,kO,aE,Nat.add_mul];lia
def Pc (m:Nat):(nN m).length=m:=by unfold nN;rw[gQ,ur]
def Ea (hc:cs.length<=2)(hm:m<=3):(allM cs m).length<=300:=by have a1:=Pc m;have a2:(lB cs m).length<=cs.length*9:=uz λp _=>aK (uz (B:=3) λl _=>by rw[gQ,a1];exact hm) (by lia);have a3:(wN cs m).length<=cs.length*108:=uz λp _=>aK (uz (B:=6) λl _=>by rw[kO,gQ,gQ,a1];lia) (by lia);unfold allM;rw[kO,kO];lia
def Bi {t:hJ}(h:t.ok cs ts.length):Q2 (t.vo cs ts)=rV (t.val ts):=by rw[hJ.Hn h];rfl
theorem yc:∀ t:hJ,t.cnt<=2 ^ t.dep
 |.num _=>aq 1
 | .j0 p l r=>by have a:=yc l;have b:=yc r;show l.cnt+r.cnt<=2 ^ (max l.dep r.dep+1);have c:2 ^ l.dep<=2 ^ max l.dep r.dep:=Nat.pow_le_pow_right (by lia)<|Nat.le_max_left _ _;have d:2 ^ r.dep<=2 ^ max l.dep r.dep:=Nat.pow_le_pow_right (by lia)<|Nat.le_max_right _ _;rw[Nat.pow_succ];lia
def rA (S:gP n cs ts)(h:t∈gU cs ts n):t.cnt<=100:=by have a:=yc t;have b:2 ^ t.dep<=2 ^ 2:=Nat.pow_le_pow_right (by lia) (iR S h).2.1;lia
def CQ {t:hJ}{K:DK}(h:K (.int ((kz t).length:Int)) μ):LW [kD (kz t)] μ K:=by show opt (some<|(kz t).map D.int) λxs=>K (.int xs.length) μ;refine fA rfl ?_;rw[gQ];exact h
theorem Gd {n:Int}:∀ {l:ak Int} {lo:Int},l.Pairwise (·<·)->(∀ x∈l,lo<=x/\x<n)->(l.length:Int)<=max (n - lo) 0
 |[],_,_,_=>by simp;lia
 | x::l,lo,h,g=>by have a:=g x<|.head _;have:=Gd (l:=l) (lo:=x+1) (List.pairwise_cons.mp h).2 λy hy=>⟨(List.pairwise_cons.mp h).1 y hy,(g y<|.tail _ hy).2⟩;rw[aE];lia
def Jq (h:Cuts n cs)(hn:1<=n):(cs.length:Int)+1<=n:=by have:=Gd h.up h.J6;lia
def DB (n:Nat):lp:=λds μ K=>dM [.v] ds λd=>∃ t:hJ,d=i7 t/\t.dep<=n/\t.cnt<=100/\K (kD<|kz t) μ
def IB:lp:=λds μ K=>dM [.l,.i] ds λc m=>∃(cs:ak Int) (k:Nat),c=cs.map D.int/\m=k/\cs.length<=2/\k<=3/\K (.lst [.lst ((nN k).map i7),.lst ((lB cs k).map i7),.lst ((wN cs k).map i7)]) μ
def IC:lp:=λds μ K=>dM [.l,.l,.i] ds λx y n=>∃(cs:ak Int) (ts:ak Tk),x=cs.map D.int/\y=ts.map rV/\gP n cs ts/\cs.length<=2/\ts.length<=3/\(match jC (e9 n cs) ts with
 |some _=>K (.lst []) μ
 |none=>∀ a:Nat,a<=66->hV (e9 n cs) ts n a->K (.lst<|(sI (e9 n cs) ts a).map i7) μ)
end L2
namespace Pf
open PySem L2 PyProof.Rows
def top (i:Nat):Stmt:=PySem.Challenge.pw_hissroom_k19_whole_all_makes_gone_throug.main.body.getD i (.Pass ⟨0,0,0,0⟩)
def met (i j:Nat):Stmt:=(Mj<|top i).getD j (.Pass ⟨0,0,0,0⟩)
abbrev tZ:Stmt:=top 26
abbrev pI:Stmt:=top 27
abbrev pQ:Stmt:=top 28
abbrev pO:Stmt:=top 29
abbrev ke:Stmt:=top 30
abbrev s_same:Stmt:=top 33
abbrev pL:Stmt:=top 2
abbrev lL:Stmt:=top 3
abbrev lM:Stmt:=top 5
abbrev jG:Stmt:=top 4
abbrev iU:Stmt:=top 12
abbrev jh:Stmt:=top 13
abbrev iW:Stmt:=top 14
abbrev jF:Stmt:=top 11
abbrev jg:Stmt:=top 10
abbrev kh:Stmt:=top 17
abbrev iH:Stmt:=top 18
abbrev ia:Stmt:=top 20
abbrev iG:Stmt:=top 19
abbrev iX:Stmt:=top 16
abbrev gE:Stmt:=met 24 1
abbrev fY:Stmt:=met 24 2
abbrev gH:Stmt:=met 24 3
abbrev f9:Stmt:=met 24 5
abbrev gF:Stmt:=met 24 4
abbrev gv:Stmt:=met 24 0
abbrev iY:Stmt:=top 22
abbrev gu:Stmt:=met 24 6
abbrev ki:Stmt:=top 23
abbrev pJ:Stmt:=top 32
abbrev tY:Stmt:=top 35
abbrev m8:Stmt:=top 34
abbrev pP:Stmt:=top 36
abbrev lY:Stmt:=top 37
structure ig (K:aa)(C:ai):Prop where
 cl:Eg K C
 qo:W.findIn K (.ref C) "places"=some none
 Hw:W.findIn K (.ref C) "rows"=some none
 qm:W.findIn K (.ref C) "tables"=some none
 sY:W.findIn K (.ref C) "whole"=some none
 qr:W.findIn K (.ref C) "counts"=some none
def Oy:fN ["_law_script"] (pA tZ) (fo tZ):=jo
def qe:fN ["_law_box_here","_law_many","_law_rest","_law_cell","_law_one","_law_two"] (pA pI) (fo pI):=jo
def m7:fN ["_law_box_here","_law_size","_law_kind","_law_first","_law_behind"] (pA pQ) (fo pQ):=jo
def sU:fN ["_law_box_here","_law_size","_law_kind"] (pA pO) (fo pO):=jo
def kc:fN ["_law_box_here","_law_size","_law_cuts_here","_law_texts","_law_border","_law_k","_law_at","_law_old","_law_clean"] (pA ke) (fo ke):=jo
def KW:fN ["_law_found","_law_due"] (pA s_same) (fo s_same):=jo
def KY:fN ["size","cuts"] (pA pL) (fo pL):=jo
def vM:fN ["size","cuts","places"] (pA lL) (fo lL):=jo
def oN:fN ["size","cuts","takes","first","behind"] (pA lM) (fo lM):=jo
def lX:fN ["size","cuts","text","end","spoilt","clean_to"] (pA jG) (fo jG):=jo
def m6:fN ["size","cuts","takes","places"] (pA iU) (fo iU):=jo
def jm:fN ["places","rows","age","told","take_age","row"] (pA jh) (fo jh):=jo
def jy:fN ["places","rows","before","age","where","clean"] (pA iW) (fo iW):=jo
def rX:fN ["takes"] (pA jF) (fo jF):=jo
def iV:fN ["size","cuts","takes","places","rows","age","told"] (pA jg) (fo jg):=jo
def AR:fN ["places"] (pA kh) (fo kh):=jo
def mv:fN ["places","none"] (pA iH) (fo iH):=jo
def mH:fN ["lefts","rights","none"] (pA ia) (fo ia):=jo
def g9:fN ["places","clean","before","columns","none","told","first","row","far"] (pA iG) (fo iG):=jo
def gw:fN ["size","cuts","takes","age","places","rows","ages","table","changing","told","now","before"] (pA iX) (fo iX):=jo
def iF:fN ["self","stretch","age","first","behind"] (pA gE) (fo gE):=jo
def gh:fN ["self","stretch","age","first","behind","end"] (pA fY) (fo fY):=jo
def gC:fN ["self","stretch","age","first","behind","many","before"] (pA gH) (fo gH):=jo
def gp:fN ["self","stretch","many","place","left","right"] (pA f9) (fo f9):=jo
def oj:fN ["self","stretch"] (pA gF) (fo gF):=jo
def j8:fN ["self","size","cuts","takes","least"] (pA gv) (fo gv):=jo
def pw:fN ["size","cuts","takes","best"] (pA iY) (fo iY):=jo
def gm:fN ["self","stretch","number","rest","place","left","right","many"] (pA gu) (fo gu):=jo
def tX:fN ["size","cuts","takes","number","best"] (pA ki) (fo ki):=jo
def xo:fN ["_law_cuts_here","_law_takes","_law_make","_law_left","_law_right"] (pA pJ) (fo pJ):=jo
def Ox:fN ["_law_make"] (pA tY) (fo tY):=jo
def iE:fN ["_law_cuts_here","_law_many","_law_none","_law_one","_law_two","_law_place","_law_left","_law_make"] (pA m8) (fo m8):=jo
def jD:fN ["_law_cuts_here","_law_takes","_law_size","_law_found","_law_makes","_law_age","_law_few"] (pA pP) (fo pP):=jo
def kX:fN ["_law_script","_law_box_here","_law_size","_law_cuts_here","_law_texts","_law_takes","_law_due","_law_number","_law_make"] (pA lY) (fo lY):=jo
def fh:ai:=200
def kE:ai:=68
def QK:ai:=55
section
variable (P:ae)(w:af)(K:aa)(mg:Str->ao aj)(fg:Heap)
abbrev NX:Prop:=pv P w K mg fg "_law_box" 1 (pA tZ) (wZ K)
abbrev uR:Prop:=pv P w K mg fg "_law_take" 1 (pA pI) (iD Iv)
abbrev JA:Prop:=pv P w K mg fg "_law_bars" 2 (pA pQ) (iD NK)
abbrev Jy:Prop:=pv P w K mg fg "_law_cuts" 2 (pA pO) (iD NJ)
abbrev wz:Prop:=pv P w K mg fg "_law_patched" 2 (pA ke) (iD zR)
abbrev Jw:Prop:=pv P w K mg fg "_law_same" 21 (pA s_same) (iD<|Iw 20)
abbrev p4:Prop:=pv P w K mg fg "ends" 1 (pA pL) (iD NI)
abbrev Ai:Prop:=pv P w K mg fg "pieces" 2 (pA lL) (iD Dy)
abbrev qH:Prop:=pv P w K mg fg "bar_of" 3 (pA lM) (iD IE)
abbrev uS:Prop:=pv P w K mg fg "farthest" 2 (pA jG) (iD v7)
abbrev mh:Prop:=pv P w K mg fg "take_rows" 3 (pA iU) (iD vZ)
abbrev oE:Prop:=pv P w K mg fg "clean_row" 1 (pA jh) (iD v8)
abbrev qD:Prop:=pv P w K mg fg "next_reach" 2 (pA iW) (iD Iy)
abbrev p3:Prop:=pv P w K mg fg "youngest" 1 (pA jF) (iD vY)
abbrev sD:Prop:=pv P w K mg fg "least_age" 4 (pA jg) (iD Iz)
abbrev rK:Prop:=pv P w K mg fg "no_make" 1 (pA kh) (iD Dz)
abbrev qG:Prop:=pv P w K mg fg "bare_table" 2 (pA iH) (iD ID)
abbrev nQ:Prop:=pv P w K mg fg "fewest_joined" 1 (pA ia) (iD zU)
abbrev qB:Prop:=pv P w K mg fg "next_table" 2 (pA iG) (iD zT)
abbrev qE:Prop:=pv P w K mg fg "few_tables" 4 (pA iX) (iD zV)
abbrev ip:Prop:=uX P w K mg fg fh "is_take" 1 (pA gE) (iD<|DC fh)
abbrev gO:Prop:=uX P w K mg fg fh "clean_takes" 1 (pA fY) (iD<|DF fh)
abbrev iz:Prop:=uX P w K mg fg fh "halves" 1 (pA gH) (iD<|DD fh)
abbrev yh:Prop:=uX P w K mg fg fh "count_anew" 143 (pA f9) (iD<|zW fh 71)
abbrev iq:Prop:=uX P w K mg fg fh "counted" 144 (pA gF) (iD<|zW fh 71)
abbrev jj:Prop:=QX P w K mg fg "BestMakes" fh 5 (pA gv) (iD<|NG fh)
abbrev qF:Prop:=pv P w K mg fg "count_best" 145 (pA iY) (iD uE)
abbrev kU:Prop:=uX P w K mg fg fh "numbered" 216 (pA gu) (iD<|zS fh 71)
abbrev wA:Prop:=QW P w K mg fg "best_of" 217 (pA ki) (RL<|xZ kE)
abbrev Jx:Prop:=pv P w K mg fg "_law_made" 64 (pA pJ) (iD<|xY 63)
abbrev NW:Prop:=pv P w K mg fg "_law_key" 4 (pA tY) (iD<|DB 3)
abbrev D4:Prop:=pv P w K mg fg "_law_every" 2 (pA m8) (iD IB)
abbrev Jz:Prop:=pv P w K mg fg "_law_best" 66 (pA pP) (iD IC)
end
section
variable {P:ae}{w:af}{K:aa}{mg:Str->ao aj}{fg:Heap}{f:ai}{fd:ag}
def okE {x qual:Str}{st:Stmt}{N ps:ak Str}{k:Nat}{fs:lp}(F:j7 K x qual st f fd)(S:fN N ps (fo st))(h:∃ W,(∀ {jL A fC s H E},iw k (A.deeper<|envOfC qual (fo st) s.heap.objs.size f jL)->Ed (ph j4 P w K mg fg N qual (fo st) f jL A fC s H E).O5 (iM st) W)/\∀ ds μ Kd,fs ds μ Kd->ds.length=ps.length/\((∀(j:Nat) (m:MO),μ[j]?=some m->xJ μ.length m)->sJ μ.length ds->W (AW μ.length Kd) (oh N ds) μ)):gA P w K mg fg j4 (k+1) f fd ps (iD fs):=let ⟨_,a,b⟩:=h;F.O4 S (λds μ Kd q=>(b ds μ Kd q).1) λjL A o s H E hr=>⟨_,a hr,λds μ Kd u v q=>(b ds μ Kd q).2 u v⟩
theorem Jm:∀ {ps:ak Pq} {ds:ak D} {k:FI ps},dM ps ds k->ds.length=ps.length
 |[],[],k,h=>rfl
 |.v::ps,n::ds,k,h|.i::ps,.int n::ds,k,h|.s::ps,.str n::ds,k,h|.l::ps,.lst n::ds,k,h|.m::ps,.mr n::ds,k,h|.b::ps,.bl n::ds,k,h|.t::ps,.tup n::ds,k,h=>cq (·+1) (Jm (ps:=ps) h)
def sX {x qual:Str}{st:Stmt}{N ps:ak Str}{k:Nat}{pt:ak Pq}{fk:MS->DK->FI pt}(F:j7 K x qual st f fd)(S:fN N ps (fo st))(h:∃ W,(∀ {jL A fC s H E},iw k (A.deeper<|envOfC qual (fo st) s.heap.objs.size f jL)->Ed (ph j4 P w K mg fg N qual (fo st) f jL A fC s H E).O5 (iM st) W)/\∀ ds μ Kd,dM pt ds (fk μ Kd)->(∀(j:Nat) (m:MO),μ[j]?=some m->xJ μ.length m)->sJ μ.length ds->W (AW μ.length Kd) (oh N ds) μ)(hn:pt.length=ps.length:=by rfl):gA P w K mg fg j4 (k+1) f fd ps (iD λds μ Kd=>dM pt ds<|fk μ Kd):=let ⟨_,a,b⟩:=h;F.O4 S (λds μ Kd q=>(Jm q).trans hn) λjL A o s H E hr=>⟨_,a hr,λds μ Kd u v q=>b ds μ Kd q u v⟩
def O3 (F:j7 K "_law_box" "_law_box" tZ f fd)(T:mX mg)  : gA P w K mg fg j4 1 f fd (pA tZ) (wZ K):=by
 refine F.ok Oy (λvs H Q E h=>?_) (λjL A fC s H vs Q E hr h=>?_)
 .unfold wZ at h;split at h
  .rfl
  .cases h
 .unfold wZ at h;split at h
  .rename_i a;obtain⟨ns,hs,k⟩:=h;refine⟨_,(jP<|mw<|Ha<|fJ (vP ui (by rfl) T.list bu<|fJ (j9 0) gZ)<|fJ gI<|fJ gI<|fJ gI gZ),?_⟩;refine⟨_,hs,λl hl=>?_⟩;refine⟨(zs),λb hb=>?_⟩;have Ws:l≠b:=gb (o:=.lst<|ns.map V.int) fF hb;have SQ:H b=none:=by rw[fS Ws.symm]at hb;exact hb
   refine k b l _ ⟨ns,0,0,1,fF,by rw[fS Ws];exact fF,Ws,by decide,by decide,by decide⟩ SQ hl λc o e=>?_;rw[fS (gb e SQ),fS (gb e hl)];exact e
  .cases h
def Ll (F:j7 K "_law_take" "_law_take" pI f fd)(T:mX mg)  : gA P w K mg fg j4 1 f fd (pA pI) (iD Iv):=by
 refine gA.imp (sp:=sT) ?_ λvs H Q E h=>Gi h;refine F.ok qe (λvs H Q E h=>?_) (λjL A fC s H vs Q E hr h=>?_)
 .obtain⟨b,n,q,rfl,_⟩:=rW h;rfl
 .obtain⟨b,n,q,rfl,⟨ns,i,r,z,hb,hq,UN,hi,hz,J7⟩,hn,FG,k⟩:=rW h;refine⟨_,(h9 (rY (l5 Yz (oq HN (j9 0) gI λ_ _=>rfl) gI<|i0 _)
   (h9 (q9 (i:=2) qe.nd rfl (by first|exact Or.inl rfl|exact Or.inr rfl)<|oq HN (j9 0) gI λ_ _=>rfl)
   (h9 (rg (jJ divC (j9 2)<|j9 1)<|ud (j9 0) gI setC)
   (jP<|mw<|jJ zq (j9 2)<|j9 1)))
   l6)
   (h9 (rg (jJ zq (jJ JO (jJ mulC (oq HN (j9 0) gI λ_ _=>rfl) gI) gI) gI)<|ud (j9 0) gI setC)
   (K6 (rY (l5 Yh (oq HN (j9 0) gI λ_ _=>rfl) (gL Lz (by rfl) T.len PySem.boot_len<|fJ (oq HN (j9 0) gI λ_ _=>rfl) gZ)<|i0 _)
   (h9 (q9 (i:=3) qe.nd rfl (by first|exact Or.inl rfl|exact Or.inr rfl)<|oq HN (oq HN (j9 0) gI λ_ _=>rfl) (oq HN (j9 0) gI λ_ _=>rfl) λ_ _=>rfl)
   (h9 (K8 (j9 0) gI WU gI xR setC)
   (h9 (rY (l5 YA (j9 3) (jJ powC gI gI)<|i0 _)
   (h9 (rg (jJ divC (j9 3)<|j9 1)<|ud (j9 0) gI setC)
   (jP<|mw<|jJ zq (j9 3)<|j9 1))
   l6)
   (jP<|rg (jJ zq (jJ JO (oq HN (j9 0) gI λ_ _=>rfl)<|jJ mulC (j9 3) gI) gI)<|ud (j9 0) gI setC))))
   l6)
   (h9 (q9 (i:=4) qe.nd rfl (by first|exact Or.inl rfl|exact Or.inr rfl)<|oq HN (j9 0) gI λ_ _=>rfl)
   (h9 (q9 (i:=5) qe.nd rfl (by first|exact Or.inl rfl|exact Or.inr rfl)<|jJ zq (jJ JO (jJ mulC (j9 4)<|j9 4)<|jJ divC (j9 4) gI) gI)
   (jP<|mw<|jJ zq (jJ zq (jJ JO (jJ mulC (j9 5) gI)<|j9 4) gI)<|j9 1)))))),?_⟩
  have fin:∀(v:Int) (H':Hp) (i' r' z':Int),OB b H H'->H' b=some (.lst [.ref q,.int i',.int r',.int z'])->0<=i'->0<=z'->z'<2147483647->Q (.int<|v%n) H':=λv H' i' r' z' ob yE h1 h2 h3 =>k _ _ (dP _<|by lia) (dh _ hn) ⟨ns,i',r',z',yE,(ob q UN).trans hq,UN,h1,h2,h3⟩ ob
  have md:∀ x:Int,0<=x%2147483647/\x%2147483647<2147483647:=λx=>⟨dP _<|by decide,dh _<|by decide⟩;refine⟨_,.inl hb,?_⟩;refine mC (λh1=>?_) (λh1=>?_)
  .refine⟨_,.inl hb,⟨hn,FG⟩,_,hb,hn,?_⟩;exact fin _ _ _ _ _ OB.refl.upd fF hi hz J7
  .refine⟨_,.inl hb,.inr ⟨by decide,by decide⟩,pM,_,hb,?_⟩;have Yb:∀ o,OB b H (upd H b o):=λo=>OB.refl.upd;refine⟨λiB H'=>∃(c:ao V) (i' r' z':Int),iB=[some (.ref b),some (.int n),none,c,none,none]/\OB b H H'/\H' b=some (.lst [.ref q,.int i',.int r',.int z'])/\0<=i'/\0<=z'/\z'<2147483647,?_,?_⟩
   .refine⟨_,.inl fF,_,.inl fF,_,.inl<|(Yb _ q UN).trans hq,?_⟩;refine mC (λh2=>?_) (λh2=>?_)
    .have h2':i<(ns.length:Int):=by simpa using h2
     obtain⟨c,hc⟩:∃ c,ns[i.toNat]?=some c:=⟨ns[i.toNat]'(by lia),iT _⟩
     have e:o5 (ns.map V.int) i=some (.int c):=by have q:=lG (xs:=ns.map V.int) (j:=i.toNat) (v:=.int c) (by rw[nX,hc];rfl);rwa [bW hi]at q
     refine⟨_,.inl fF,_,.inl fF,_,.inl<|(Yb _ q UN).trans hq,fA e ?_⟩
     refine⟨_,fF,by decide,_,fF,?_⟩
     refine⟨⟨by decide,by decide,by decide⟩,?_⟩
     refine mC (λh3=>?_) (λh3=>?_)
     .refine⟨⟨hn,FG⟩,_,fF,hn,?_⟩;exact fin _ _ (i+1) _ _ OB.refl.upd.upd.upd fF (by lia) (md _).1 (md _).2
     .refine⟨_,.inl fF,.inr ⟨by decide,by decide⟩,pM,_,fF,?_⟩;exact⟨_,i+1,_,_,rfl,OB.refl.upd.upd.upd,fF,by lia,(md _).1,(md _).2⟩
    .exact⟨_,i,_,_,rfl,OB.refl.upd,fF,hi,(md _).1,(md _).2⟩
   .rintro iB H' ⟨c,i',r',z',rfl,ob,yE,h1,h2,h3⟩;refine⟨_,.inl yE,.inl ⟨by lia,by lia⟩,⟨by decide,by decide⟩,pN,.inr ⟨by decide,by decide⟩,pM,hn,?_⟩;exact fin _ _ i' _ _ ob yE h1 h2 h3
def Ln (F:j7 K "_law_cuts" "_law_cuts" pO f fd)(T:mX mg)(jk:uR P w K mg fg):gA P w K mg fg j4 2 f fd (pA pO) (iD NJ):=by
 refine sX F sU ⟨_,λhr=>(fv (qS 2 sU.nd<|qC jk hr<|a2 (dv 0) fP)
  (fv (kZ (J0 (dv 2) fP)
  (fQ<|gq<|lh false jU)
  jb)
  (fv (kZ (J0 (dv 2) fP)
  (fQ<|gq<|sA false (p9 (N:=["_law_place"]) (js:=[none]) sU<|by decide +kernel) (qx rfl T.range<|a2 fP<|dv 1) (λ_ _ _ nd=>(qT 0 nd)) (λ_ _ _=>hX) λ_ _ _=>(dv 0))
  jb)
  (fQ<|gq<|sA false (p9 (N:=["_law_place","_law_box_here"]) (js:=[none,some 0]) sU<|by decide +kernel) (qx rfl T.range<|a2 fP<|dv 1) (λ_ _ _ nd=>(qT 0 nd)) (λ_ _ _=>(pF<|VJ (qC jk hr<|a2 (dv 1) fP) fP)) λ_ _ _=>(dv 0))))),λds μ Kd h hm hl=>?_⟩
 obtain⟨k,n,rfl,hb,h1,h2,kk⟩:=dJ h;refine⟨hb,by decide,by decide,λv v0 v1=>?_⟩;refine nK (λhv=>?_) (λhv=>?_)
 .exact⟨aS _,.keep<|kk [] (aS _) ⟨(λ_ q=>nomatch q),.nil⟩⟩
 refine nK (λhv1=>?_) (λhv1=>?_)
 .refine⟨⟨by decide,by decide,by lia,by lia⟩,sz (by rw[i9];lia),?_⟩;refine jc trivial (λd=>some d) (λd hd K' k'=>k') ?_;rw[List.filterMap_some,Cp];obtain⟨c1,c2⟩:=yX h1<|List.Sublist.refl _;exact .keep (kk _ c1 c2)
 .refine⟨⟨by decide,by decide,by lia,by lia⟩,sz (by rw[i9];lia),?_⟩;refine rH trivial (λd hd K' k1 k2=>?_) λzs hz=>?_
  .refine⟨hb,by decide,by decide,λv v0 v1=>?_⟩;exact mC (λ_=>k1) (λ_=>k2)
  .rw[Cp]at hz;obtain⟨bs,hs,rfl⟩:=KA hz;obtain⟨c1,c2⟩:=yX h1 hs;exact .keep (kk _ c1 c2)
def rO {μ:MS}{n:Nat}{it:D->MS->(ao D->MS->Prop)->Prop}{K:DK}(hn:n<=1000)(hit:∀(d:D) (K':ao D->MS->Prop),(∀ c:Nat,(c=111\/c=120)->K' (some<|.str ⟨#[c]⟩) μ)->it d μ K')(k:∀ l:ak Nat,l.length=n->OX l->K (.str<|txt l) μ):
 pB it (λ_=>True) (m9 0 n) μ λys iA=>nL false ys iA λx rS=>IA (.str<|Str.ofString "") [x] rS K:=by
 refine rJ (λc:Nat=>D.str ⟨#[c]⟩) (λc=>c=111\/c=120) trivial (λd hd K' k'=>hit d K' k') λl hl ho=>?_;rw[i9]at hl;refine⟨rfl,l.map λc=>⟨#[c]⟩,by unfold lv;rw[bc];rfl,by rw[vJ];lia,?_⟩;rw[uB];exact k l hl λc hc=>ho c hc
def Lp (F:j7 K "_law_bars" "_law_bars" pQ f fd)(T:mX mg)(jk:uR P w K mg fg):gA P w K mg fg j4 2 f fd (pA pQ) (iD NK):=by
 refine sX F m7 ⟨_,λhr=>(fv (qS 2 m7.nd<|qC jk hr<|a2 (dv 0) fP)
  (fv (kZ (J0 (dv 2) fP)
  (fQ<|gq<|Ji de eN eM HL xf lg<|a1<|sA false (p9 (N:=["_law_k","_law_box_here"]) (js:=[none,some 0]) m7<|by decide +kernel) (jS rfl T.range<|a1<|dv 1) (λ_ _ _ nd=>(qT 0 nd)) (λ_ _ _=>hX) λ_ _ _=>(mT lg<|qC jk hr<|a2 (dv 1) fP))
  jb)
  (fv (kZ (J0 (dv 2) fP)
  (fQ<|gq<|Ji de eN eM HL xf lg<|a1<|sA false (p9 (N:=["_law_k","_law_box_here"]) (js:=[none,some 0]) m7<|by decide +kernel) (jS rfl T.range<|a1<|dv 1) (λ_ _ _ nd=>(qT 0 nd)) (λ_ _ _=>hX) λ_ _ _=>(mT lg<|qC jk hr<|a2 (dv 1) fP))
  jb)
  (fv (kZ (J0 (dv 2) fP)
  (fv (qS 3 m7.nd<|qC jk hr<|a2 (dv 0)<|dv 1)
  (fv (qS 4 m7.nd<|pV (pV (dv 3) fP)<|qC jk hr<|a2 (dv 0)<|Ke (dv 1)<|dv 3)
  (fQ<|gq<|pV (pV (rF mulC qW lg<|dv 3)<|rF mulC qW lg<|Ke (dv 4)<|dv 3)<|rF mulC qW lg<|Ke (dv 1)<|dv 4)))
  jb)
  (fv (kZ (J0 (dv 2) fP)
  (fQ<|gq<|Ji de eN eM HL xf lg<|a1<|sA false (p9 (N:=["_law_k","_law_box_here"]) (js:=[none,some 0]) m7<|by decide +kernel) (jS rfl T.range<|a1<|dv 1) (λ_ _ _ nd=>(qT 0 nd)) (λ_ _ _=>hX) λ_ _ _=>(mT lg<|qC jk hr<|a2 (dv 1) fP))
  jb)
  (fQ<|gq<|rF mulC qW (mT lg<|qC jk hr<|a2 (dv 0) fP)<|dv 1)))))),λds μ Kd h hm hl=>?_⟩
 obtain⟨k,n,rfl,hb,h1,h2,kk⟩:=dJ h;refine⟨hb,by decide,by decide,λv v0 v1=>?_⟩;refine nK (λhv=>?_) (λhv=>?_)
 .refine⟨rfl,by lia,by lia,sz (by rw[i9];lia),?_⟩;refine rO (n:=n.toNat) (by lia) (λd K' k'=>?_) λl hl ho=>.keep<|kk l hl ho;refine⟨hb,by decide,by decide,λv v0 v1=>⟨by decide,?_⟩⟩;obtain⟨c,e,hc⟩:=yj (l:=(Str.ofString "ox").cps.toList) v0 v1;exact fA e (k' c<|(OX.of (l:=(Str.ofString "ox").cps.toList)<|by decide +kernel) c hc)
 refine nK (λhv=>?_) (λhv=>?_)
 .refine⟨rfl,by lia,by lia,sz (by rw[i9];lia),?_⟩;refine rO (n:=n.toNat) (by lia) (λd K' k'=>?_) λl hl ho=>.keep<|kk l hl ho;refine⟨hb,by decide,by decide,λv v0 v1=>⟨by decide,?_⟩⟩;obtain⟨c,e,hc⟩:=yj (l:=(Str.ofString "ooooox").cps.toList) v0 v1;exact fA e (k' c<|(OX.of (l:=(Str.ofString "ooooox").cps.toList)<|by decide +kernel) c hc)
 refine nK (λhv=>?_) (λhv=>?_)
 .refine⟨hb,by lia,by lia,λp p0 p1=>⟨hb,by lia,by lia,λg g0 g1=>?_⟩⟩;refine⟨120,rfl,by lia,by lia,111,rfl,by lia,by lia,?_,120,rfl,by lia,by lia,?_,?_⟩
  .rw[EU,EU,aR,aR];exact sz (by lia)
  .rw[nB,EU,EU,kO,aR,aR,aR];exact sz (by lia)
  rw[nB,nB];refine .keep<|kk _ ?_<|((OX.rep<|.inr rfl).app<|OX.rep<|.inl rfl).app<|OX.rep<|.inr rfl;rw[kO,kO,aR,aR,aR];lia
 refine nK (λhv=>?_) (λhv=>?_)
 .refine⟨rfl,by lia,by lia,sz (by rw[i9];lia),?_⟩;refine rO (n:=n.toNat) (by lia) (λd K' k'=>?_) λl hl ho=>.keep<|kk l hl ho;refine⟨hb,by decide,by decide,λv v0 v1=>⟨by decide,?_⟩⟩;obtain⟨c,e,hc⟩:=yj (l:=(Str.ofString "xxxo").cps.toList) v0 v1;exact fA e (k' c<|(OX.of (l:=(Str.ofString "xxxo").cps.toList)<|by decide +kernel) c hc)
 refine⟨hb,by decide,by decide,λp p0 p1=>⟨by decide,?_⟩⟩;obtain⟨c,e,hc⟩:=yj (l:=(Str.ofString "ox").cps.toList) p0 p1;exact fA e ⟨c,rfl,by lia,by lia,.keep<|kk _ (aR ..)<|OX.rep<|(OX.of (l:=(Str.ofString "ox").cps.toList)<|by decide +kernel) c hc⟩
def A7 (F:j7 K "_law_patched" "_law_patched" ke f fd)(T:mX mg)(jk:uR P w K mg fg):gA P w K mg fg j4 2 f fd (pA ke) (iD zR):=by
 refine sX F kc ⟨_,λhr=>(fv (qS 4 kc.nd<|pV (pV (lh false<|a1 fP)<|dv 2)<|lh false<|a1<|dv 1)
  (fv (mI bH rfl (jS rfl T.range<|a1<|Ke (DZ T<|dv 4) fP) (qT 5 kc.nd)
  (fv (qS 6 kc.nd<|qC jk hr<|a2 (dv 0)<|DZ T<|dv 3)
  (fv (qS 7 kc.nd<|mT (dv 3)<|dv 6)
  (fv (qS 8 kc.nd<|rF mulC qW lg<|Ke (mT (dv 4)<|pV (dv 5) fP)<|mT (dv 4)<|dv 5)
  (fQ<|OC (pV (pV (mf false (dv 7) Hs<|lN<|mT (dv 4)<|dv 5)<|dv 8)<|mf false (dv 7) (lN<|mT (dv 4)<|pV (dv 5) fP) Hs) (dv 3)<|dv 6)))))
  (fQ<|gq<|dv 3))),λds μ Kd h hm hl=>?_⟩
 obtain⟨k,n,cs0,t,rfl,hb,hkt,h1,h2,cs,ls,rfl,zI,hc,ht,vW,hll,hg,kk⟩:=dJ h;have lt:t<μ.length:=(kP ht).1;refine⟨zs,?_⟩;refine⟨by rw[gQ];exact sz (by show 1+cs.length<=_;lia),?_⟩;refine⟨zs,?_⟩;refine⟨by rw[kO,gQ];exact sz (by show 1+cs.length+1<=_;lia),?_⟩;rw[zY n cs];obtain⟨es,he⟩:∃ es,es=e9 n cs:=⟨_,rfl⟩;rw[<- he];have hup:es.Pairwise (·<·):=by rw[he];exact gr h1 hc
 have FH:∀ x∈es,0<=x/\x<=n:=λx hx=>iL h1 hc (by rw[<- he];exact hx);have tF:es.length=cs.length+2:=by rw[he,fO]
 have Pn:((es.map D.int).length:Int)=(es.length:Nat):=by rw[gQ]
 refine⟨by rw[Pn];lia,by rw[Pn];lia,?_⟩;refine iK (λds ρ fI=>(∀ d∈ds,∃ j:Nat,j+1<es.length/\d=.int j)/\∃ oV a b c d,ρ=[some (.mr k),some (.int n),some (.lst<|cs.map D.int),some (.mr t),some (.lst<|es.map D.int),a,b,c,d]/\fI=μ.set t (.lst<|oV.map B8)/\oV.length=ls.length/\Good n oV) ⟨λd hd=>?_,ls,none,none,none,none,rfl,?_,rfl,hg⟩ ?_ ?_
 .obtain⟨j,hj,rfl⟩:=GK hd;rw[Pn]at hj;exact⟨j,by lia,by rw[Int.zero_add]⟩
 .exact(lK ht).symm
 .rintro d lW ρ fI ⟨hd,oV,a,b,c,e,rfl,rfl,oX,Nx⟩;refine⟨trivial,λnx sk=>?_⟩;obtain⟨j,hj,rfl⟩:=hd d aH;have hbx:(μ.set t<|.lst<|oV.map B8)[k]?=some .box:=by rw[aW (bJ hkt)];exact hb
  have lls:0<oV.length:=by rw[oX];exact List.length_pos_iff.mpr vW
  refine fA (xO lt) ⟨hbx,by rw[gQ];lia,by rw[gQ];lia,λv v0 v1=>?_⟩;rw[gQ]at v1;obtain⟨l,sm⟩:∃ l,oV[v.toNat]?=some l:=⟨oV[v.toNat]'(by lia),iT _⟩;obtain⟨hll2,Wi⟩:=Nx l<|lC sm;have ev:o5 (oV.map B8) v=some (B8 l):=by have:=o4 (g:=B8) sm;rwa [bW v0]at this
  refine fA (xO lt)<|fA ev ?_;obtain⟨x,hx⟩:∃ x,es[j]?=some x:=⟨es[j]'(by lia),iT _⟩;obtain⟨y,hy⟩:∃ y,es[j+1]?=some y:=⟨es[j+1]'(by lia),iT _⟩;have V9:=kb hup hx hy<|bQ _;have Yl:=FH x<|lC hx;have HU:=FH y<|lC hy;have e1:o5 (es.map D.int) (j:Int)=some (.int x):=o4 hx;have e2:o5 (es.map D.int) ((j:Int)+1)=some (.int y):=o4 (i:=j+1) hy;refine fA e2 (fA e1 ⟨111,rfl,by lia,by lia,?_⟩);have lz:(txt l).length<=sizeLine:=by rw[kF];exact sz (by lia)
  refine fA e1 ⟨lz,?_⟩;have c1:=tH l none<|some x;have c2:=tH l (some y) none;refine⟨?_,?_⟩
  .show(txt<|j6 l none<|some x).length+(txt<|List.replicate (y - x).toNat 111).length<=sizeLine;rw[kF,kF,aR];exact sz (by lia)
  refine fA e2 ⟨lz,?_,?_⟩
  .show(txt (j6 l none<|some x)++txt (List.replicate (y - x).toNat 111)).length+(txt<|j6 l (some y) none).length<=sizeLine;rw[nB,EU,kF,kO,aR];exact sz (by lia)
  have ei:FF (oV.map B8).length v=some v.toNat:=by unfold FF;rw[aA v0,aA (by rw[gQ];lia)]
  refine fA (xO lt) (fA ei<|sk _ _ ⟨λd Ic=>hd d<|mQ _ Ic,oV.set v.toNat<|l.take x.toNat++List.replicate (y - x).toNat 111++l.drop y.toNat,_,_,_,_,rfl,?_,by rw[bV];exact oX,λl' hl3=>?_⟩)
  .rw[b7,List.map_set];congr 3;show D.str (txt (j6 l none<|some x)++txt (List.replicate (y - x).toNat 111)++txt (j6 l (some y) none))=_;rw[nB,nB,D1 Yl.1,wm HU.1];rfl
  .rcases List.mem_or_eq_of_mem_set hl3 with q | q
   .exact Nx l' q
   .rw[q];refine⟨?_,((show OX (l.take x.toNat)from λc hc=>Wi c<|aV hc).app<|OX.rep<|.inl rfl).app<|show OX (l.drop y.toNat)from λc hc=>Wi c<|List.mem_of_mem_drop hc⟩;rw[kO,kO,bx,aR,bz];lia
 .rintro ρ fI ⟨_,oV,a,b,c,e,rfl,rfl,oX,Nx⟩;exact⟨trivial,.keep<|kk oV oX Nx⟩
def Lm (F:j7 K "ends" "ends" pL f fd)(T:mX mg)  : gA P w K mg fg j4 1 f fd (pA pL) (iD NI):=by refine sX F KY ⟨_,λhr=>(fQ<|gq<|pV (pV (lh false<|a1 fP)<|Fm ui (oM (m:=false)) (by rfl) T.list bu<|a1<|dv 1)<|lh false<|a1<|dv 0),λds μ Kd h hm hl=>?_⟩;obtain⟨n,x,rfl,cs,ex,hc,kk⟩:=dJ h;refine⟨zs,fA ex ⟨by rw[gQ];exact sz (by show 1+cs.length<=_;lia),zs,by rw[kO,gQ];exact sz (by show 1+cs.length+1<=_;lia),?_⟩⟩;rw[zY];exact .keep kk
def K9 (es:ak Int):List.zipWith (λa b=>D.tup [a,b]) (es.map D.int) (L2.cutD (es.map D.int) (some 1) none)=(Nk es).map RZ:=by
 have e:L2.cutD (es.map D.int) (some 1) none=es.tail.map D.int:=by
  unfold L2.cutD;rw[show(1:Int)=((1:Nat):Int)from rfl,HT.lq,HT.t6,gQ];cases es with
  |nil=>rfl
  |cons a es=>rw[aE,cj (by lia)];simp[bL]
 rw[e];unfold Nk;have key:∀(xs ys:ak Int),List.zipWith (λa b=>D.tup [a,b]) (xs.map D.int) (ys.map D.int)=(xs.zip ys).map RZ:=by
  intro xs;induction xs with
  |nil=>intro ys;simp
  | cons x xs ih =>
   intro ys;cases ys with
   |nil=>simp
   |cons y ys=>rw[az,az,cf,ih,cO,az];rfl
 exact key es es.tail
def EI (F:j7 K "pieces" "pieces" lL f fd)(T:mX mg)(lT:p4 P w K mg fg):gA P w K mg fg j4 2 f fd (pA lL) (iD Dy):=by
 refine sX F vM ⟨_,λhr=>(fv (qS 2 vM.nd<|qC lT hr<|a2 (dv 0)<|dv 1)
  (fQ<|gq<|Fp false rfl (by rfl) T.list (by rfl) T.zip<|a2 (dv 2)<|mf false (dv 2) (lN fP) Hs)),λds μ Kd h hm hl=>?_⟩
 obtain⟨n,x,rfl,cs,ex,hc,kk⟩:=dJ h;refine⟨cs,ex,hc,?_⟩;show Fz _ _ (.lst<|List.zipWith (λa b=>D.tup [a,b]) ((e9 n cs).map D.int)<|L2.cutD ((e9 n cs).map D.int) (some 1) none) μ;rw[K9];exact .keep kk
def EJ (F:j7 K "bar_of" "bar_of" lM f fd)(T:mX mg)(JR:Ai P w K mg fg):gA P w K mg fg j4 3 f fd (pA lM) (iD IE):=by
 refine sX F oN ⟨_,λhr=>(fv (mI bH rfl (ib<|qC JR hr<|a2 (dv 0)<|dv 1) (vE 2<|lU (qT 3 oN.nd)<|lU (qT 4 oN.nd) vF)
  (fQ (kZ (ma<|pz (T9 rfl) Oq (by rfl) T.all PyProof.Rows.boot_all<|a1<|sA false (p9 (N:=["text","age","first","behind"]) (js:=[none,none,some 3,some 4]) oN<|by decide +kernel) (ib<|dv 2) (λ_ _ _ nd=>(vE 2<|lU (qT 0 nd)<|lU (qT 1 nd) vF)) (λ_ _ _=>hX) λ_ _ _=>(Jk Yk GA lg (mf false (dv 0) (lN<|dv 2)<|lN<|dv 3)<|by with_unfolding_all rfl))
  (fQ<|gq<|nO<|a2 (dv 3)<|dv 4)
  jb)))
  (fQ<|gq DU)),λds μ Kd h hm hl=>?_⟩
 obtain⟨n,x,y,rfl,cs,ts,ex,ey,hc,ht,hn,kk⟩:=dJ h;refine⟨cs,ex,hc,?_⟩;refine iK (λds ρ fI=>∃(ps:ak (Int×Int)) (a b:ao D),ds=ps.map RZ/\jC (e9 n cs) ts=ps.find? (bad ts)/\ρ=[some (.int n),some x,some y,a,b]/\fI=μ) ⟨_,none,none,rfl,rfl,rfl,rfl⟩ ?_ ?_
 .rintro d lW ρ fI ⟨ps,a,b,e,hf,rfl,rfl⟩;refine⟨trivial,λnx sk=>?_⟩;cases ps with
  |nil=>cases e
  | cons p ps =>
   cases e;refine⟨rfl,?_⟩;refine fA ey ⟨by rw[gQ];exact sz (by have:=ht.oA;lia),?_⟩;refine jc (zB ey) (λd=>match d with|.tup [.str z,_]=>some (.bl<|decide (120∈j6 z.cps.toList (some p.1) (some p.2)))|_=>none) (λd hd K' k'=>?_) ?_
   .obtain⟨t,By,rfl⟩:=List.mem_map.mp hd;have hz:=ht.ok t By;refine⟨rfl,?_⟩;refine⟨by rw[kF];exact sz<|by lia,120,rfl,?_⟩;rw[S9];exact k'
   .refine⟨ts.map λt=>decide (120∈vq t.1 p.1 p.2),?_,?_⟩
    .show some _=_;rw[List.filterMap_map,bc];congr 1;rw[<- eS];rfl
    .have eb:(ts.map λt=>decide (120∈vq t.1 p.1 p.2)).all id=bad ts p:=by unfold bad;rw[List.all_map];rfl
     rw[cn,<- eb]at hf
     refine Sx (b:=(ts.map λt=>decide (120∈vq t.1 p.1 p.2)).all id) (λhb=>?_) (λhb=>?_)
     .refine⟨zs,.keep ?_⟩;rw[hb]at hf;rw[hf]at kk;exact kk
     .rw[hb]at hf;exact sk _ _ ⟨ps,_,_,rfl,hf,rfl,rfl⟩
 .rintro ρ fI ⟨ps,a,b,e,hf,rfl,rfl⟩;cases ps with
  | nil =>rw[hf]at kk;exact⟨trivial,.keep kk⟩
  |cons p ps=>cases e
def zd (n:Nat){f:ai}{fd:ag}(F:j7 K "_law_same" "_law_same" s_same f fd)(T:mX mg)(yy:pv P w K mg fg "_law_same" n ["_law_found","_law_due"] (spS n)):gA P w K mg fg j4 (n+1) f fd ["_law_found","_law_due"] (qV n):=by
 refine F.ok KW (λvs H Q E h=>?_) (λjL A fC s H vs Q E hr h=>?_)
 .unfold qV at h;split at h
  .rfl
  .cases h
 .unfold qV at h;split at h
  .rename_i x y;obtain⟨d,hd,hw,hx,hy,k⟩:=h;refine⟨_,(h9 (rY (PW.pt<|pw_or (qi<|gL pS (by rfl) T.isinstance aL<|fJ (j9 1)<|fJ (iZ (v:=.ty "bool") rfl T.bool df rfl) gZ)<|pw_or1<|qi<|gL pS (by rfl) T.isinstance aL<|fJ (j9 0)<|fJ (iZ (v:=.ty "bool") rfl T.bool df rfl) gZ)
   (jP<|mw<|xw (gL pS (by rfl) T.isinstance aL<|fJ (j9 1)<|fJ (iZ (v:=.ty "bool") rfl T.bool df rfl) gZ)<|xw (gL pS (by rfl) T.isinstance aL<|fJ (j9 0)<|fJ (iZ (v:=.ty "bool") rfl T.bool df rfl) gZ)<|G9<|sW YE (j9 0) (j9 1)<|i0 _)
   l6)
   (h9 (rY (PW.pt<|pw_or (qi<|gL pS (by rfl) T.isinstance aL<|fJ (j9 1)<|fJ (iZ (v:=.ty "list") rfl T.list bu rfl) gZ)<|pw_or1<|qi<|gL pS (by rfl) T.isinstance aL<|fJ (j9 1)<|fJ (iZ (v:=.ty "tuple") rfl T.tuple dX rfl) gZ)
   (h9 (rY (PW.pt<|pw_or (l5 Aw (gL pS (by rfl) T.isinstance aL<|fJ (j9 1)<|fJ (iZ (v:=.ty "list") rfl T.list bu rfl) gZ) (gL pS (by rfl) T.isinstance aL<|fJ (j9 0)<|fJ (iZ (v:=.ty "list") rfl T.list bu rfl) gZ)<|i0 _)<|pw_or1<|l5 Aw (gL pS (by rfl) T.isinstance aL<|fJ (j9 1)<|fJ (iZ (v:=.ty "tuple") rfl T.tuple dX rfl) gZ) (gL pS (by rfl) T.isinstance aL<|fJ (j9 0)<|fJ (iZ (v:=.ty "tuple") rfl T.tuple dX rfl) gZ)<|i0 _)
   (jP<|mw Hf)
   l6)
   (jP<|mw<|xw (sW W5 (gL Lz (by rfl) T.len PySem.boot_len<|fJ (j9 0) gZ) (gL Lz (by rfl) T.len PySem.boot_len<|fJ (j9 1) gZ)<|i0 _)<|G9<|gL (T9 rfl) (by rfl) T.all PyProof.Rows.boot_all<|fJ (CB (BO (XN:=["_law_found","_law_due"]) (xsc:=(fo s_same)) (N:=["_law_one","_law_other"]) (js:=[none,none])<|by decide +kernel) rfl (G3 rfl T.zip<|fJ (j9 0)<|fJ (j9 1) gZ) (λ_ _ _=>(xu (n:=2) rfl (mK (sV (i:=0) (show List.Nodup (["_law_one","_law_other"]:ak Str) by decide +kernel) rfl (by first|exact Or.inl rfl|exact Or.inr rfl))<|mK (sV (i:=1) (show List.Nodup (["_law_one","_law_other"]:ak Str) by decide +kernel) rfl (by first|exact Or.inl rfl|exact Or.inr rfl)) uc))) (λ_ _ _=>Cu) λ_ _ _=>(ue yy (hr.mono<|by first|decide|exact aq _|lia) rfl (fJ (j9 0)<|fJ (j9 1) gZ))) gZ))
   l6)
   (h9 (rY (PW.pt<|pw_or (l5 Aw (gL pS (by rfl) T.isinstance aL<|fJ (j9 1)<|fJ (iZ (v:=.ty "str") rfl T.str PyProof.Rows.boot_str rfl) gZ) (gL pS (by rfl) T.isinstance aL<|fJ (j9 0)<|fJ (iZ (v:=.ty "str") rfl T.str PyProof.Rows.boot_str rfl) gZ)<|i0 _)<|pw_or1<|l5 Aw (gL pS (by rfl) T.isinstance aL<|fJ (j9 1)<|fJ (iZ (v:=.ty "int") rfl T.int dr rfl) gZ) (gL pS (by rfl) T.isinstance aL<|fJ (j9 0)<|fJ (iZ (v:=.ty "int") rfl T.int dr rfl) gZ)<|i0 _)
   (jP<|mw Hf)
   l6)
   (jP<|mw<|sW YE (j9 0) (j9 1)<|i0 _)))),?_⟩
   cases d with
   | bl b =>obtain rfl:x=.bl b:=hx;obtain rfl:y=.bl b:=hy;refine⟨_,true,jw.bl b,iI K _,_,true,jw.bl b,iI K _,_,true,jw.bl b,iI K _,?_⟩;show Q (.bl<|decide (b=b)) H;rw[aB rfl];exact k H (gW.refl H)
   | int i =>obtain rfl:x=.int i:=hx;obtain rfl:y=.int i:=hy;refine⟨_,false,.int i,rfl,_,false,.int i,rfl,_,false,.int i,rfl,_,false,.int i,rfl,_,false,.int i,rfl,_,false,.int i,rfl,_,true,.int i,iI K _,_,true,.int i,iI K _,?_⟩;show Q (.bl<|decide (i=i)) H;rw[aB rfl];exact k H (gW.refl H)
   | str z =>obtain rfl:x=.str z:=hx;obtain rfl:y=.str z:=hy;refine⟨_,false,.str z,rfl,_,false,.str z,rfl,_,false,.str z,rfl,_,false,.str z,rfl,_,true,.str z,iI K _,_,true,.str z,iI K _,_,false,.str z,rfl,_,false,.str z,rfl,?_⟩;show Q (.bl<|decide (z=z)) H;rw[aB rfl];exact k H (gW.refl H)
   | gz =>obtain rfl:x=.gz:=hx;obtain rfl:y=.gz:=hy;refine⟨_,false,.gz,rfl,_,false,.gz,rfl,_,false,.gz,rfl,_,false,.gz,rfl,_,false,.gz,rfl,_,false,.gz,rfl,_,false,.gz,rfl,_,false,.gz,rfl,?_⟩;exact k H (gW.refl H)
   | lst ds =>
    obtain⟨p,vs,rfl,hp,qp⟩:=hx;obtain⟨q,ws,rfl,hq,qq⟩:=hy;obtain⟨m,rfl⟩:∃ m,n=m+1:=⟨n - 1,by unfold dep at hd;lia⟩;have Ic:vn ds<=m:=by unfold dep at hd;lia
    have hw1:ds.length<sizeLine:=by unfold JV at hw;lia
    have Wb:u5 ds<sizeLine:=by unfold JV at hw;lia
    have len:vs.length=ws.length:=by rw[qp.len,qq.len]
    refine⟨_,false,jw.lst hq,rfl,_,false,jw.lst hp,rfl,_,true,jw.lst hq,iI K _,_,true,jw.lst hq,iI K _,_,true,jw.lst hp,iI K _,_,false,jw.lst hq,rfl,_,false,jw.lst hp,rfl,?_⟩;refine⟨_,.inl hp,_,.inl hq,?_⟩;refine nK (λ_=>?_) (λh=>(h<|by rw[len]).elim);refine⟨false,_,_,hp,hq,?_⟩;refine D3 len (λi ys H'=>ys=List.replicate i (V.bl true)/\gW H H') ⟨rfl,gW.refl H⟩ (λi ys H' h=>⟨h.2 _ _ hp,h.2 _ _ hq⟩) ?_ ?_
    .rintro i x' y' ys H' T' hi ex ey ⟨rfl,S⟩ hT;refine⟨_,fF,rfl,Ext.R3,?_⟩;obtain⟨d1,e1,i1⟩:=qp.get ex;obtain⟨d2,e2,i2⟩:=qq.get ey;rw[e1]at e2;cases e2;have S2:gW H (upd H' T'<|.tup [x',y']):=S.trans<|gW.upd hT;refine⟨d1,aK (uK e1) Ic,bS (tM e1) Wb,i1.mono S2 _ _,i2.mono S2 _ _,λH3 S3=>?_⟩;exact YJ hi (by rw[aR];have:=qp.len;lia) ⟨by rw[List.replicate_succ'],S2.trans S3⟩
    .rintro ys H' ⟨rfl,S⟩ D hD;refine⟨List.replicate vs.length true,by rw[fF,List.map_replicate],?_⟩;have e:(List.replicate vs.length true).all id=true:=by rw[cL];intro b hb;rw[(List.mem_replicate.mp hb).2];rfl
     show Q (.bl<|(List.replicate vs.length true).all id) (upd H' D<|.lst<|List.replicate vs.length<|V.bl true);rw[e];exact k _ (S.trans<|gW.upd hD)
   | tup ds =>
    obtain⟨p,vs,rfl,hp,qp⟩:=hx;obtain⟨q,ws,rfl,hq,qq⟩:=hy;obtain⟨m,rfl⟩:∃ m,n=m+1:=⟨n - 1,by unfold dep at hd;lia⟩;have Ic:vn ds<=m:=by unfold dep at hd;lia
    have hw1:ds.length<sizeLine:=by unfold JV at hw;lia
    have Wb:u5 ds<sizeLine:=by unfold JV at hw;lia
    have len:vs.length=ws.length:=by rw[qp.len,qq.len]
    refine⟨_,false,jw.tup hq,rfl,_,false,jw.tup hp,rfl,_,false,jw.tup hq,rfl,_,true,jw.tup hq,iI K _,_,false,jw.tup hq,rfl,_,false,jw.tup hp,rfl,_,true,jw.tup hq,iI K _,_,true,jw.tup hp,iI K _,?_⟩;refine⟨_,.inr hp,_,.inr hq,?_⟩;refine nK (λ_=>?_) (λh=>(h<|by rw[len]).elim);refine⟨true,_,_,hp,hq,?_⟩;refine D3 len (λi ys H'=>ys=List.replicate i (V.bl true)/\gW H H') ⟨rfl,gW.refl H⟩ (λi ys H' h=>⟨h.2 _ _ hp,h.2 _ _ hq⟩) ?_ ?_
    .rintro i x' y' ys H' T' hi ex ey ⟨rfl,S⟩ hT;refine⟨_,fF,rfl,Ext.R3,?_⟩;obtain⟨d1,e1,i1⟩:=qp.get ex;obtain⟨d2,e2,i2⟩:=qq.get ey;rw[e1]at e2;cases e2;have S2:gW H (upd H' T'<|.tup [x',y']):=S.trans<|gW.upd hT;refine⟨d1,aK (uK e1) Ic,bS (tM e1) Wb,i1.mono S2 _ _,i2.mono S2 _ _,λH3 S3=>?_⟩;exact YJ hi (by rw[aR];have:=qp.len;lia) ⟨by rw[List.replicate_succ'],S2.trans S3⟩
    .rintro ys H' ⟨rfl,S⟩ D hD;refine⟨List.replicate vs.length true,by rw[fF,List.map_replicate],?_⟩;have e:(List.replicate vs.length true).all id=true:=by rw[cL];intro b hb;rw[(List.mem_replicate.mp hb).2];rfl
     show Q (.bl<|(List.replicate vs.length true).all id) (upd H' D<|.lst<|List.replicate vs.length<|V.bl true);rw[e];exact k _ (S.trans<|gW.upd hD)
  .cases h
theorem CF {f:ai}{fd:ag}(F:j7 K "_law_same" "_law_same" s_same f fd)(T:mX mg)(hm:mg "_law_same"=some (.ref f))(hk:W.keepIn K (.ref f)=true)(hb:Binds K fd ["_law_found","_law_due"] []):∀ n,gA P w K mg fg j4 (n+1) f fd ["_law_found","_law_due"] (qV n)
 |0=>zd 0 F T ⟨f,fd,⟨λ_ _ _ _ h=>h.elim,λ_ _ _ _ _ _ _ _ _ _ _ _ _ h=>h.elim⟩,hm,hk,hb⟩
 |n+1=>zd (n+1) F T ⟨f,fd,CF F T hm hk hb n,hm,hk,hb⟩
def zf (F:j7 K "farthest" "farthest" jG f fd)(T:mX mg)(lT:p4 P w K mg fg):gA P w K mg fg j4 2 f fd (pA jG) (iD v7):=by
 refine sX F lX ⟨_,λhr=>(fv (qS 4 lX.nd<|Ji de PySem.F.slot_str_find PySem.F.type_str_find Tb KP (dv 2)<|a2 lg<|dv 3)
  (fv (qS 5 lX.nd<|Qy (UL (dv 4) fP) (dv 0)<|dv 4)
  (fQ<|gq<|pz (VS rfl) KO (by rfl) T.max dq<|a1<|pV (lh false<|a1<|dv 3)<|sA false (p9 (N:=["place","clean_to"]) (js:=[none,some 5]) lX<|by decide +kernel) (ib<|qC lT hr<|a2 (dv 0)<|dv 1) (λ_ _ _ nd=>(qT 0 nd)) (λ_ _ _=>(pF<|RY (dv 0)<|dv 1)) λ_ _ _=>(dv 0)))),λds μ Kd h hm hl=>?_⟩
 obtain⟨n,x,z,e,rfl,cs,ex,hc,hn,FG,ho,h0,h1,Qf,kk⟩:=dJ h;have len:(z.cps.toList.length:Int)=n:=by rw[<- hn];simp[Str.length]
 refine⟨rfl,120,rfl,h0,by lia,λr hr=>?_⟩;obtain⟨q1,q2⟩:=hr.cl ho (by lia);have tF:(e9 n cs).length=cs.length+2:=fO n cs;refine mC (λSF=>?_) (λSF=>?_);all_goals
  refine⟨zs,cs,ex,hc,by rw[gQ];exact sz<|by lia,?_⟩
 .have ct:=q1 SF;refine jc trivial (sf λi=>decide (i<=n)) (λd hd K' k'=>?_) ?_
  .obtain⟨i,hi,rfl⟩:=List.mem_map.mp hd;refine mC (λg=>?_) (λg=>?_)
   .exact CT (aB g) k'
   .exact CU (by simp[g]) k'
  .rw[zP];have fl:=bX (λi=>decide (i<=n))<|e9 n cs;refine⟨by rw[gQ];exact sz (by show 1+_<=_;lia),?_⟩;refine⟨e::(e9 n cs).filter λi=>decide (i<=n),rfl,by simp,λm a b=>.keep ?_⟩;rw[Iu ho h0 (by lia) Qf (m:=m) ⟨_,ct,?_,?_,?_⟩]
   .exact kk
   .rcases List.mem_cons.mp a with q | q
    .rw[q];exact Qf
    .exact(List.mem_filter.mp q).1
   .rcases List.mem_cons.mp a with q | q
    .lia
    .have:=bp (List.mem_filter.mp q).2;lia
   .exact λy hy HU=>b y (mQ _<|List.mem_filter.mpr ⟨hy,aB<|by lia⟩)
 .obtain⟨ct,hrt⟩:=q2 SF;refine jc trivial (sf λi=>decide (i<=r)) (λd hd K' k'=>?_) ?_
  .obtain⟨i,hi,rfl⟩:=List.mem_map.mp hd;refine mC (λg=>?_) (λg=>?_)
   .exact CT (aB g) k'
   .exact CU (by simp[g]) k'
  .rw[zP];have fl:=bX (λi=>decide (i<=r))<|e9 n cs;refine⟨by rw[gQ];exact sz (by show 1+_<=_;lia),?_⟩;refine⟨e::(e9 n cs).filter λi=>decide (i<=r),rfl,by simp,λm a b=>.keep ?_⟩;rw[Iu ho h0 (by lia) Qf (m:=m) ⟨_,ct,?_,?_,?_⟩]
   .exact kk
   .rcases List.mem_cons.mp a with q | q
    .rw[q];exact Qf
    .exact(List.mem_filter.mp q).1
   .rcases List.mem_cons.mp a with q | q
    .have:=ct.1;lia
    .have:=bp (List.mem_filter.mp q).2;lia
   .exact λy hy HU=>b y (mQ _<|List.mem_filter.mpr ⟨hy,aB<|by lia⟩)
def xD (F:j7 K "take_rows" "take_rows" iU f fd)(T:mX mg)(lT:p4 P w K mg fg)(BZ:uS P w K mg fg):gA P w K mg fg j4 3 f fd (pA iU) (iD vZ):=by
 refine sX F m6 ⟨_,λhr=>(fv (qS 3 m6.nd<|qC lT hr<|a2 (dv 0)<|dv 1)
  (fQ<|gq<|sA false (p9 (N:=["text","age","places","size","cuts"]) (js:=[none,none,some 3,some 0,some 1]) m6<|by decide +kernel) (ib<|dv 2) (λ_ _ _ nd=>(vE 2<|lU (qT 0 nd)<|lU (qT 1 nd) vF)) (λ_ _ _=>hX) λ_ _ _=>(nO<|a2 (dv 1)<|sA false (ya (xsc:=(fo iU)) (N:=["end","size","cuts","text"]) (js:=[none,some 3,some 4,some 0]) rfl (by decide +kernel)) (ib<|dv 2) (λ_ _ _ nd=>(qT 0 nd)) (λ_ _ _=>hX) λ_ _ _=>(qC BZ hr<|gB (dv 1)<|gB (dv 2)<|gB (dv 3)<|gB (dv 0) jU)))),λds μ Kd h hm hl=>?_⟩
 obtain⟨n,x,y,rfl,cs,ts,ex,ey,S,kk⟩:=dJ h;have tF:(e9 n cs).length=cs.length+2:=fO n cs;have oA:=S.oA;have ft:=S.takes.oA;refine⟨cs,ex,S.oA,?_⟩;refine fA ey ⟨by rw[gQ];exact sz<|by lia,?_⟩;refine jc (zB ey) (Pj<|k8<|e9 n cs) (λd hd K' k'=>?_) ?_
 .obtain⟨t,ht,rfl⟩:=List.mem_map.mp hd;have hz:=S.takes.ok t ht;refine⟨rfl,by rw[gQ];exact sz<|by lia,?_⟩;refine jc trivial (Sl λe=>.int<|je (e9 n cs) t.1 e) (λd hd K'' k''=>?_) ?_
  .obtain⟨e,he,rfl⟩:=List.mem_map.mp hd;have FH:=iL S.n1 S.ij he;exact⟨cs,ex,S.oA,by rw[kF];exact hz.1,S.n2,by rw[yN];exact hz.2.1,FH.1,FH.2,he,by rw[yN];exact k''⟩
  .refine⟨zs,?_⟩;rw[LU,show(e9 n cs).map (λe=>D.int<|je (e9 n cs) t.1 e)=(vc (e9 n cs) t).map D.int by unfold vc;rw[bc];rfl];exact k'
 .refine .keep ?_;rw[Dl];exact kk
def xF (F:j7 K "clean_row" "clean_row" jh f fd)(T:mX mg)  : gA P w K mg fg j4 1 f fd (pA jh) (iD v8):=by
 refine sX F jm ⟨_,λhr=>(fv (qS 3 jm.nd<|Fm ui (oM (m:=false)) (by rfl) T.list bu<|a1<|dv 0)
  (fv (mI bH rfl (ib<|dv 1) (vE 2<|lU (qT 4 jm.nd)<|lU (qT 5 jm.nd) vF)
  (fQ (kZ (RY (dv 4)<|dv 2)
  (fQ<|Q3 3 false jm.nd (p9 (N:=["far","other"]) (js:=[none,none]) jm<|by decide +kernel) (HR rfl T.zip<|a2 (dv 3)<|dv 5) (λ_ _ _ nd=>(vE 2<|lU (qT 0 nd)<|lU (qT 1 nd) vF)) (λ_ _ _=>hX) λ_ _ _=>(pz (Ph rfl) AL (by rfl) T.max dq<|a2 (dv 0)<|dv 1))
  jb)))
  (fQ<|gq<|dv 3))),λds μ Kd h hm hl=>?_⟩
 obtain⟨x,r,a,rfl,es,ts,ex,rfl,tF,Wd,kk⟩:=dJ h;refine fA ex ?_;refine iK (λds ρ fI=>∃(us:ak Tk) (tl:ak Int) (u v:ao D),ds=us.map (k8 es)/\us.foldl (pY es a) tl=ja es ts a/\tl.length<=2000/\ρ=[some x,some (.lst<|ts.map<|k8 es),some (.int a),some (.lst<|tl.map D.int),u,v]/\fI=μ) ⟨ts,es,none,none,rfl,Jt es ts a,tF,rfl,rfl⟩ ?_ ?_
 .rintro d lW ρ fI ⟨us,tl,u,v,e,hf,oX,rfl,rfl⟩;refine⟨trivial,λnx sk=>?_⟩;cases us with
  |nil=>cases e
  | cons t us =>
   cases e;refine⟨rfl,?_⟩;rw[cE]at hf;refine mC (λg=>?_) (λg=>?_)
   .unfold pY at hf;rw[aA g]at hf;have lr:(vc es t).length=es.length:=by unfold vc;rw[gQ]
    refine⟨by rw[bF,gQ,gQ];exact sz<|by lia,?_⟩;refine jc ⟨trivial,trivial⟩ (ES λa b=>.int<|max a b) (λd hd K' k'=>?_) ?_
    .obtain⟨p,hp,q,hq,rfl⟩:=B6 hd;exact⟨rfl,k'⟩
    .rw[Dm,<- AB D.int max];exact sk _ _ ⟨us,List.zipWith max tl<|vc es t,_,_,rfl,hf,by rw[bF];lia,rfl,rfl⟩
   .unfold pY at hf;rw[aC g]at hf;exact sk _ _ ⟨us,tl,_,_,rfl,hf,oX,rfl,rfl⟩
 .rintro ρ fI ⟨us,tl,u,v,e,hf,oX,rfl,rfl⟩;cases us with
  | nil =>refine⟨trivial,.keep ?_⟩;rw[show ja es ts a=tl from hf.symm]at kk;exact kk
  |cons t us=>cases e
def ve (F:j7 K "next_reach" "next_reach" iW f fd)(T:mX mg)(oJ:oE P w K mg fg):gA P w K mg fg j4 2 f fd (pA iW) (iD Iy):=by
 refine sX F jy ⟨_,λhr=>(fv (qS 4 jy.nd<|Mc (p9 (N:=["at","end"]) (js:=[none,none]) jy<|by decide +kernel) rfl (Gy<|xg (xa 0) (oR 0) (xg (xa 1) (oR 1) Gz xI)<|tf (oR 1) xI) (Hy<|tf (oR 0)<|tf (oR 1) xI) rfl (tE rfl T.enumerate<|a1<|dv 0) (λ_ _ _=>(xu (n:=2) rfl (mK (qN 0<|show List.Nodup (["at","end"]:ak Str) by decide +kernel)<|mK (qN 1<|show List.Nodup (["at","end"]:ak Str) by decide +kernel) uc))) (λ_ _ _=>hX) (λ_ _ _=>(dv 1)) λ_ _ _=>(dv 0))
  (fv (qS 5 jy.nd<|qC oJ hr<|a3 (dv 0) (dv 1)<|dv 3)
  (fQ<|gq<|sA true (p9 (N:=["far","middle","before","where"]) (js:=[none,none,some 2,some 4]) jy<|by decide +kernel) (HR rfl T.zip<|a2 (dv 5)<|dv 2) (λ_ _ _ nd=>(vE 2<|lU (qT 0 nd)<|lU (qT 1 nd) vF)) (λ_ _ _=>hX) λ_ _ _=>(pz (Ph rfl) AL (by rfl) T.max dq<|a2 (dv 0)<|mT (dv 2)<|DW (si hr) (dv 3) (dv 1) λ_ _=>rfl)))),λds μ Kd h hm hl=>?_⟩
 obtain⟨x,r,y,a,rfl,es,ts,bf,ex,rfl,tF,Wd,nd,ey,ok,kk⟩:=dJ h;have lb:=ok.len;refine fA ex ⟨by rw[jK,gQ];exact sz<|by lia,?_⟩;rw[IM];refine yK (λm=>zB<|Pk ex) (λi e fI K' k'=>⟨rfl,k'⟩) es 0 [] nd (λ_ h=>nomatch h) ?_;refine⟨es,ts,ex,rfl,tF,Wd,?_⟩;refine fA ey ⟨by rw[bF,gQ,gQ];exact sz<|by lia,?_⟩;refine jc ⟨trivial,zB ey⟩ (ES λf m=>.int<|max f<|rowAt es bf m) (λd hd K' k'=>?_) ?_
 .obtain⟨f,hf,m,hmm,rfl⟩:=B6 hd;refine⟨rfl,?_⟩;have Yq:=ok.mem m hmm;have e1:uI (((pE 0 es).map (·.1)).zip ((pE 0 es).map (·.2))) (kI m)=some (.int (es.idxOf m:Nat)):=by rw[zip_parts,vB Yq,Nat.zero_add]
  have e2:o5 (bf.map D.int) ((es.idxOf m:Nat):Int)=some (.int<|rowAt es bf m):=o4<|t9 ok Yq;exact fA e1 (QF ey e2 k')
 .rw[Dm,show List.zipWith (λf m=>D.int<|max f<|rowAt es bf m) (ja es ts a) bf=(l8 es ts bf a).map D.int from(AB D.int (λf m=>max f<|rowAt es bf m) _ _).symm];exact .keep kk
def zc (F:j7 K "youngest" "youngest" jF f fd)(T:mX mg)  : gA P w K mg fg j4 1 f fd (pA jF) (iD vY):=by
 refine sX F rX ⟨_,λhr=>(fQ<|gq<|Qx rfl (by rfl) T.min (sA false (p9 (N:=["text","age"]) (js:=[none,none]) rX<|by decide +kernel) (ib<|dv 0) (λ_ _ _ nd=>(vE 2<|lU (qT 0 nd)<|lU (qT 1 nd) vF)) (λ_ _ _=>hX) λ_ _ _=>(dv 1)) fP),λds μ Kd h hm hl=>?_⟩;obtain⟨y,rfl,ts,ey,Wd,kk⟩:=dJ h;refine fA ey ⟨by rw[gQ];exact sz<|by lia,?_⟩;refine jc (zB ey) (Pj λt=>.int t.2) (λd hd K' k'=>?_) ?_
 .obtain⟨t,ht,rfl⟩:=List.mem_map.mp hd;exact⟨rfl,k'⟩
 .rw[Dl];refine⟨ts.map (·.2),by unfold lv;rw[bc];rfl,?_⟩;split
  .rename_i e;refine .keep ?_;have:jE ts=0:=by unfold jE;rw[e]
   rw[this]at kk;exact kk
  .exact λm a b=>.keep (by rw[FY a b];exact kk)
def xE (F:j7 K "least_age" "least_age" jg f fd)(T:mX mg)(oK:qH P w K mg fg)(lT:p4 P w K mg fg)(kW:mh P w K mg fg)(p7:p3 P w K mg fg)(qO:qD P w K mg fg):gA P w K mg fg j4 4 f fd (pA jg) (iD Iz):=by
 refine sX F iV ⟨_,λhr=>(fv (kZ (AJ<|qC oK hr<|a3 (dv 0) (dv 1)<|dv 2)
  (fQ<|gq DU)
  jb)
  (fv (qS 3 iV.nd<|qC lT hr<|a2 (dv 0)<|dv 1)
  (fv (qS 4 iV.nd<|qC kW hr<|a3 (dv 0) (dv 1)<|dv 2)
  (fv (qS 5 iV.nd<|qC p7 hr<|a1<|dv 2)
  (fv (qS 6 iV.nd<|qC qO hr<|gB (dv 3)<|gB (dv 4)<|gB (dv 3)<|gB (dv 5) jU)
  (fv (KZ bH (qNe (mT (dv 6) fP)<|dv 0)
  (fv (GC (i:=5) iV.nd rfl lo fP xR AM)
  (fQ<|qS 6 iV.nd<|qC qO hr<|gB (dv 3)<|gB (dv 4)<|gB (dv 6)<|gB (dv 5) jU)))
  (fQ<|gq<|dv 5))))))),λds μ Kd h hm hl=>?_⟩
 obtain⟨n,x,y,rfl,cs,ts,ex,ey,S,zI,kk⟩:=dJ h;have oA:=S.oA;have ft:=S.takes.oA;have n2:=S.n2;have nd:=L0 S.n1 S.ij;have tF:(e9 n cs).length=cs.length+2:=fO n cs;refine⟨cs,ts,ex,ey,by lia,S.takes,by lia,?_⟩;unfold Bo at kk;cases hb:jC (e9 n cs) ts with
 | some p =>rw[hb]at kk;exact .keep kk
 | none =>
  rw[hb]at kk;obtain⟨a,ha,la⟩:=uj S zI hb;have ly:=zA S la;have kk:=kk a ha la;refine⟨cs,ex,S.oA,?_⟩;refine⟨cs,ts,ex,ey,S,?_⟩;refine⟨ts,ey,by lia,?_⟩;have yn:=yH S.takes;have yl:=yI (ts:=ts);obtain⟨y0,hy0⟩:∃ y0:Nat,jE ts=(y0:Int):=⟨(jE ts).toNat,by lia⟩;rw[hy0]at yn yl ly ⊢
  obtain⟨es,he⟩:∃ es,es=e9 n cs:=⟨_,rfl⟩;rw[<- he]at nd tF la ⊢
  refine⟨es,ts,es,rfl,rfl,by lia,by lia,nd,rfl,LZ es,?_⟩;have e0:l8 es ts es (y0:Int)=iQ es ts y0:=by have:=JI es ts y0;rwa [Fw (b:=y0) yl]at this
  rw[e0];refine⟨λm ρ fI=>∃(b j:Nat) (g:MS),m=a - b/\b<=a/\ρ=[some (.int n),some x,some y,some (.lst<|es.map D.int),some (.lst<|ts.map<|k8 es),some (.int b),some (.mr j)]/\fI=μ++g/\zx fI j=some ((iQ es ts b).map D.int),⟨_,y0,_,[.lst ((iQ es ts y0).map D.int)],rfl,by lia,rfl,rfl,qu⟩,?_⟩;rintro m ρ fI ⟨b,j,g,rfl,hba,rfl,rfl,el⟩;have X7:=qg es ts b;obtain⟨z,hz⟩:∃ z,(iQ es ts b)[0]?=some z:=⟨_,iT (by rw[X7.len];lia)⟩;refine fA (show lv _ (.mr j)=_ from el)<|fA (show o5 _ (0:Int)=_ from o4 (i:=0) hz) ?_;refine Sv (λq=>?_) (λq=>?_)
  .have ky:b<a:=by
    rcases Nat.lt_or_ge b a with z'|z'
    .exact z'
    .have e:b=a:=by lia
     rw[e,la.at_]at hz
     exact absurd (aU hz).symm q
   refine⟨es,ts,iQ es ts b,rfl,rfl,by lia,by lia,nd,el,X7,?_⟩
   exact⟨_,by lia,b+1,_,g++[.lst ((iQ es ts<|b+1).map D.int)],rfl,by lia,rfl,by rw[cC];rfl,qu⟩
  .have e:b=a:=by
    rcases Nat.lt_or_ge b a with z'|z'
    .rw[q]at hz;exact absurd hz (la.low b z')
    .lia
   refine Fz.drop True.intro (xC hm) ?_
   rw[cx,e]
   exact kk
def A8 (F:j7 K "no_make" "no_make" kh f fd)(T:mX mg)  : gA P w K mg fg j4 1 f fd (pA kh) (iD Dz):=by refine sX F AR ⟨_,λhr=>(fQ<|gq<|Ke (DZ T<|dv 0) fP),λds μ Kd h hm hl=>?_⟩;obtain⟨b,rfl,hl,kk⟩:=dJ h;exact .keep kk
def vh (F:j7 K "bare_table" "bare_table" iH f fd)(T:mX mg)(rQ:rK P w K mg fg):gA P w K mg fg j4 2 f fd (pA iH) (iD ID):=by
 refine sX F mv ⟨_,λhr=>(fv (qS 1 mv.nd<|qC rQ hr<|a1<|dv 0)
  (fQ<|gq<|sA false (p9 (N:=["first","places","none"]) (js:=[none,some 0,some 1]) mv<|by decide +kernel) (jS rfl T.range<|a1<|DZ T<|dv 0) (λ_ _ _ nd=>(qT 0 nd)) (λ_ _ _=>hX) λ_ _ _=>(sA false (ya (xsc:=(fo iH)) (N:=["behind","first","none"]) (js:=[none,some 0,some 2]) rfl (by decide +kernel)) (jS rfl T.range<|a1<|DZ T<|dv 1) (λ_ _ _ nd=>(qT 0 nd)) (λ_ _ _=>hX) λ_ _ _=>(Qy (RY (dv 0)<|dv 1) fP<|dv 2)))),λds μ Kd h hm hl=>?_⟩
 obtain⟨b,rfl,hl,kk⟩:=dJ h;refine⟨hl,?_⟩;refine⟨by lia,by lia,?_⟩;rw[Ff];refine⟨sz (by rw[i9];lia),?_⟩;refine iu trivial (λi:Nat=>D.int<|0+(i:Nat)) (λi=>D.lst<|jO b.length<|jY b.length i) (λi hi K' k'=>?_)<|.keep kk;refine⟨by lia,by lia,?_⟩;rw[Ff];refine⟨sz (by rw[i9];lia),?_⟩;refine iu trivial (λj:Nat=>D.int<|0+(j:Nat)) (λj=>D.int<|jY b.length i j) (λj hj K' k'=>?_) k';unfold jY at k';refine mC (c:=(0+(j:Nat):Int)<=0+(i:Nat)) (λq=>?_) (λq=>?_)
 .rw[aA (by lia)]at k';exact k'
 .rw[aC (by lia)]at k';exact k'
def rl (F:j7 K "fewest_joined" "fewest_joined" ia f fd)(T:mX mg)  : gA P w K mg fg j4 1 f fd (pA ia) (iD zU):=by
 refine sX F mH ⟨_,λhr=>(fQ<|gq<|pz (Pg rfl) xc (by rfl) T.min cS<|a1<|pV (lh false<|a1<|dv 2)<|sA false (p9 (N:=["left","right"]) (js:=[none,none]) mH<|by decide +kernel) (HR rfl T.zip<|a2 (dv 0)<|dv 1) (λ_ _ _ nd=>(vE 2<|lU (qT 0 nd)<|lU (qT 1 nd) vF)) (λ_ _ _=>hX) λ_ _ _=>(pV (pV (dv 0)<|dv 1) fP)),λds μ Kd h hm hl=>?_⟩;obtain⟨l,r,m,rfl,ls,rs,rfl,rfl,h1,h2,kk⟩:=dJ h;refine⟨zs,?_⟩;refine⟨by rw[bF,gQ,gQ];exact sz<|by lia,?_⟩;rw[FV];refine iu ⟨trivial,trivial⟩ (λp:Int×Int=>D.tup [.int p.1,.int p.2]) (λp=>D.int<|p.1+p.2+1) (λp hp K' k'=>⟨rfl,k'⟩) ?_;rw[FR];refine⟨by rw[gQ,bF];exact sz (by show 1+_<=_;lia),?_⟩;obtain⟨b1,b2,b3⟩:=jT (List.zipWith (λa b=>a+b+1) ls rs) m;refine⟨m::List.zipWith (λa b=>a+b+1) ls rs,rfl,by simp,λv hv J8=>.keep ?_⟩;have e:v=(List.zipWith (λa b=>a+b+1) ls rs).foldl min m:=by
  have g1:=J8 m aH;rcases b1 with q|q
  .rcases List.mem_cons.mp hv with z | z
   .lia
   .have:=b3 v z;lia
  .have:=J8 _<|mQ _ q;rcases List.mem_cons.mp hv with z|z
   .lia
   .have:=b3 v z;lia
 rw[e];exact kk
def vd (F:j7 K "next_table" "next_table" iG f fd)(T:mX mg)(rQ:rK P w K mg fg)(sQ:nQ P w K mg fg):gA P w K mg fg j4 2 f fd (pA iG) (iD zT):=by
 refine sX F g9 ⟨_,λhr=>(fv (qS 3 g9.nd<|sA false (p9 (N:=["at","before"]) (js:=[none,some 2]) g9<|by decide +kernel) (jS rfl T.range<|a1<|DZ T<|dv 2) (λ_ _ _ nd=>(qT 0 nd)) (λ_ _ _=>hX) λ_ _ _=>(sA false (ya (xsc:=(fo iG)) (N:=["row","at"]) (js:=[none,some 0]) rfl (by decide +kernel)) (ib<|dv 1) (λ_ _ _ nd=>(qT 0 nd)) (λ_ _ _=>hX) λ_ _ _=>(mT (dv 0)<|dv 1)))
  (fv (qS 4 g9.nd<|qC rQ hr<|a1<|dv 0)
  (fv (qS 5 g9.nd<|lh true jU)
  (fv (mI bH rfl (LJ rfl T.enumerate rfl T.zip<|a2 (dv 2)<|dv 1) (vE 2<|lU (qT 6 g9.nd)<|lU (vE 2<|lU (qT 7 g9.nd)<|lU (qT 8 g9.nd) vF) vF)
  (fQ<|Oz<|Ji PySem.F.plainAttrs_list PySem.F.slot_list_append PySem.F.type_list_append Mu Et (dv 5)<|a1<|sA false (p9 (N:=["behind","end","far","row","first","columns","none"]) (js:=[none,none,some 8,some 7,some 6,some 3,some 4]) g9<|by decide +kernel) (tE rfl T.enumerate<|a1<|dv 0) (λ_ _ _ nd=>(vE 2<|lU (qT 0 nd)<|lU (qT 1 nd) vF)) (λ_ _ _=>hX) λ_ _ _=>(Qy (RY (dv 1)<|dv 2) fP<|qC sQ hr<|a3 (mf false (dv 3) (lN<|pV (dv 4) fP)<|lN<|dv 0) (mf false (mT (dv 5)<|dv 0) (lN<|pV (dv 4) fP)<|lN<|dv 0)<|dv 6)))
  (fQ<|gq<|dv 5))))),λds μ Kd h hm hl=>?_⟩
 obtain⟨b,c,l,rfl,es,own,P,rfl,rfl,Rf,tF,rfl,kk⟩:=dJ h;obtain⟨L,hL⟩:∃ L,L=es.length:=⟨_,rfl⟩;rw[<- hL]at Rf tF kk ⊢
 refine⟨by rw[mG];lia,by rw[mG];lia,?_⟩;rw[mG,Ff];refine⟨sz (by rw[i9];lia),?_⟩;refine iu trivial (λj:Nat=>D.int<|0+(j:Nat)) (λj=>D.lst<|jO L λi=>P i j) (λj hj K' k'=>?_) ?_
 .rw[bU]at hj;refine⟨sz (by rw[mG];lia),?_⟩;refine iu trivial (λi:Nat=>D.lst<|jO L<|P i) (λi=>D.int<|P i j) (λi hi K' k'=>?_) k';have a1:o5 (jO L<|P i) (0+(j:Nat):Int)=some (.int<|P i j):=by rw[Int.zero_add];exact lG (om hj)
  exact fA a1 k'
 refine⟨by rw[gQ];lia,?_⟩;rw[gQ,<- hL];refine⟨zs,?_⟩;obtain⟨Q,hQ⟩:∃ Q,Q=i8 L es own P:=⟨_,rfl⟩;rw[<- hQ]at kk;refine iK (λds ρ fI=>∃(k:Nat) (u v w:ao D),k<=L/\ds=((List.range L).drop k).map (λi=>D.tup [.int (i:Nat),.tup [.lst (jO L<|P i),.int (own.getD i 0)]])/\ρ=[some (.lst<|es.map D.int),some (.lst<|own.map D.int),some (.lst<|lJ L P),some (.lst<|(List.range L).map λj=>D.lst<|jO L λi=>P i j),some (.int<|(L:Int) - 1),some (.mr μ.length),u,v,w]/\fI=μ++[.lst ((List.range k).map λi=>D.lst<|jO L<|Q i)]) ⟨0,none,none,none,by lia,IL Rf,rfl,rfl⟩ ?_ ?_
 .rintro d lW ρ fI ⟨k,u,v,w,hk,e,rfl,rfl⟩;refine⟨⟨trivial,trivial⟩,λnx sk=>?_⟩;have hi:k<(List.range L).length:=by
   by_cases q:k<(List.range L).length
   .exact q
   .rw[bM (by lia)]at e;cases e
  have Yt:k<L:=by rwa [ur]at hi
  rw[bg hi,List.getElem_range]at e;cases e;refine⟨rfl,rfl,?_⟩;refine⟨Pl qu,?_⟩;refine⟨by rw[jK,gQ];exact sz<|by lia,?_⟩;rw[LY,<- hL];refine iu trivial (λj:Nat=>D.tup [.int (j:Nat),.int (es.getD j 0)]) (λj=>D.int<|Q k j) (λj hj K' k'=>?_) ?_
  .rw[bU]at hj;refine⟨rfl,?_⟩;have eQ:Q k j=if es.getD j 0<=own.getD k 0 then 0 else(mO P k j).foldl min ((L:Int) - 1):=by rw[hQ];rfl
   refine mC (c:=es.getD j 0<=own.getD k 0) (λq=>?_) (λq=>?_)
   .rw[aA q]at eQ;rw[eQ]at k';exact k'
   .rw[aC q]at eQ;rw[eQ]at k';have ac:o5 ((List.range L).map λj=>D.lst<|jO L λi=>P i j) (j:Int)=some (.lst<|jO L λi=>P i j):=uU (g:=λj=>D.lst<|jO L λi=>P i j)<|bG hj;refine fA ac ?_;refine⟨(List.range<|j - (k+1)).map λx=>P k<|k+1+x,(List.range<|j - (k+1)).map λx=>P (k+1+x) j,?_,?_,?_,?_,?_⟩
    .rw[Ad (by lia),bc];rfl
    .rw[Ad (by lia),bc];rfl
    .rw[gQ,ur];lia
    .rw[gQ,ur];lia
    .rw[FU (L:=L)];exact k'
  .refine fA qu ⟨X5 (by rw[gQ,ur];lia),?_⟩;refine sk _ _ ⟨k+1,_,_,_,by lia,rfl,rfl,?_⟩;rw[xn,Eo];rfl
 .rintro ρ fI ⟨k,u,v,w,hk,e,rfl,rfl⟩;refine⟨⟨trivial,trivial⟩,?_⟩;have Yt:k=L:=by have:=cq List.length e;rw[gQ,bz,ur]at this;simp at this;lia
  subst Yt;refine Fz.lst (aq _) (ni qu) (Ls _ _ _) (xC hm) ?_;rw[cx];exact kk
def vf (F:j7 K "few_tables" "few_tables" iX f fd)(T:mX mg)(lT:p4 P w K mg fg)(kW:mh P w K mg fg)(yC:qG P w K mg fg)(p7:p3 P w K mg fg)(yz:qB P w K mg fg)(oJ:oE P w K mg fg):gA P w K mg fg j4 4 f fd (pA iX) (iD zV):=by
 refine sX F gw ⟨_,λhr=>(fv (qS 4 gw.nd<|qC lT hr<|a2 (dv 0)<|dv 1)
  (fv (qS 5 gw.nd<|qC kW hr<|a3 (dv 0) (dv 1)<|dv 2)
  (fv (Q3 6 false gw.nd (p9 (N:=["text","old"]) (js:=[none,none]) gw<|by decide +kernel) (ib<|dv 2) (λ_ _ _ nd=>(vE 2<|lU (qT 0 nd)<|lU (qT 1 nd) vF)) (λ_ _ _=>hX) λ_ _ _=>(dv 1))
  (fv (qS 7 gw.nd<|qC yC hr<|a1<|dv 4)
  (fv (qS 8 gw.nd Md)
  (fv (qS 9 gw.nd Qz)
  (fv (mI bH rfl (qx rfl T.range<|a2 (pz (Sk rfl) KN (by rfl) T.min cS<|a3 (qC p7 hr<|a1<|dv 2) fP<|dv 3)<|pV (dv 3) fP) (qT 10 gw.nd)
  (JL (kZ (PW.pt<|Gp (ma<|dv 8)<|Cc<|lE Yk GA (dv 10) (dv 6)<|by with_unfolding_all rfl)
  (fv (qS 11 gw.nd<|dv 7)
  (fv (qS 7 gw.nd<|qC yz hr<|a3 (dv 4) (qC oJ hr<|a3 (dv 4) (dv 5)<|dv 10)<|dv 11)
  (fQ<|qS 8 gw.nd<|Jk (O9 (n:=4)<|MI hr<|by decide) GB (dv 7) (dv 11)<|i0 _)))
  jb)
  (fQ<|OD (si hr) (dv 7) (dv 9)<|dv 10)))
  (fQ<|gq<|dv 9)))))))),λds μ Kd h hm hl=>?_⟩
 obtain⟨n,x,y,a,rfl,cs,ts,rfl,rfl,S,a0,a1,kk⟩:=dJ h;have oA:=S.oA;have ft:=S.takes.oA;have tF:(e9 n cs).length=cs.length+2:=fO n cs;refine⟨cs,rfl,oA,cs,ts,rfl,rfl,S,?_⟩;refine⟨sz (by rw[gQ];lia),?_⟩;refine iu trivial rV (λt=>D.int t.2) (λt ht K' k'=>⟨rfl,k'⟩) ?_;have Tj:ts.map (λt=>D.int t.2)=(ts.map (·.2)).map D.int:=by rw[bc];rfl
 rw[Tj];refine⟨by rw[gQ];lia,?_⟩;rw[gQ];have fs:=Fi S;obtain⟨es,he⟩:∃ es,es=e9 n cs:=⟨_,rfl⟩;rw[<- he]at kk tF fs ⊢
 refine⟨ts,rfl,by lia,?_⟩;have yn:=yH S.takes;have ym:min (jE ts) (min 0 a)=0:=by lia
 refine⟨⟨by lia,by lia,by lia,by lia⟩,?_⟩;rw[ym];refine iK (λds ρ fI=>∃(k c:Nat) (ch:Bool) (u v:ao D),ds=m9 (k:Int) c/\(k:Int)+c=a+1/\(ch=false->∀ i j,i<es.length->j<es.length->i8 es.length es (ja es ts<|(k:Int) - 1) (fG es ts k) i j=fG es ts k i j)/\ρ=[some (.int n),some (.lst<|cs.map D.int),some (.lst<|ts.map rV),some (.int a),some (.lst<|es.map D.int),some (.lst<|ts.map<|k8 es),some (.lst ((ts.map (·.2)).map D.int)),some (.lst<|lJ es.length<|fG es ts k),some (.bl ch),some (.mr μ.length),u,v]/\fI=μ++[.jf (l9 k) (nH es ts k)]) ⟨0,(a+1).toNat,false,none,none,by rw[Int.sub_zero];rfl,by lia,λ_=>fs,rfl,rfl⟩ ?_ ?_
 .rintro d lW ρ fI ⟨k,c,ch,u,v,e,Wu,Fd,rfl,rfl⟩;refine⟨trivial,λnx sk=>?_⟩;cases c with
  |zero=>cases e
  | succ c =>
   rw[vN]at e;cases e;refine⟨λj5 fI=>∃(U5:Bool) (v':ao D),(U5=false->∀ i j,i<es.length->j<es.length->i8 es.length es (ja es ts<|((k+1:Nat):Int) - 1) (fG es ts<|k+1) i j=fG es ts (k+1) i j)/\j5=[some (.int n),some (.lst<|cs.map D.int),some (.lst<|ts.map rV),some (.int a),some (.lst<|es.map D.int),some (.lst<|ts.map<|k8 es),some (.lst ((ts.map (·.2)).map D.int)),some (.lst<|lJ es.length<|fG es ts<|k+1),some (.bl U5),some (.mr μ.length),some (.int (k:Int)),v']/\fI=μ++[.jf (l9 k) (nH es ts k)],?_,?_⟩
   .refine R4 (i:=8) (j:=10) (k:=6) ch (k:Int) (ts.map (·.2)) rfl rfl rfl λb hb=>?_;refine Sx (b:=b) (λhbT=>?_) (λhbF=>?_)
    .refine⟨es,ts,rfl,rfl,by lia,by lia,?_⟩;refine⟨es,ja es ts k,fG es ts k,rfl,rfl,(A3 _ _ _).len,by lia,rfl,?_⟩;refine⟨tU<|Cj _ _<|by lia,tU<|Cj _ _<|by lia,rfl,?_⟩;refine⟨_,_,λhf=>zQ<|L8 ?_,rfl,rfl⟩;exact(show ∀ b:Bool,(true != b)=false->b=true by decide) _ hf
    .obtain⟨h1,h2⟩:=hb hbF;have fx:=Iq (Fd h1) λt ht et=>h2 (by rw[<- et];exact dE ht);rw[Gn fx];refine⟨ch,_,λ_=>zQ fx,rfl,rfl⟩
   .rintro j5 fI ⟨U5,v',WM,rfl,rfl⟩;refine⟨_,_,(by rw[p8 (aq _),a6];rfl),X5 (by unfold l9;rw[gQ,ur];lia),HI k,?_⟩;refine sk _ _ ⟨k+1,c,U5,_,_,rfl,by lia,WM,rfl,?_⟩;rw[xn,Bt,AI]
 .rintro ρ fI ⟨k,c,ch,u,v,e,Wu,Fd,rfl,rfl⟩;refine⟨trivial,?_⟩;cases c with
  |succ c=>rw[vN]at e;cases e
  | zero =>
   have hk:k=a.toNat+1:=by lia
   subst hk;refine Fz.jf (aq _) (by rw[p8 (aq _),a6];rfl) (uf λd hd=>by obtain⟨i,_,rfl⟩:=List.mem_map.mp hd;exact Lu _ _) (xC hm) ?_;rw[cx];exact kk
def ot (F:j7 K "is_take" "BestMakes.is_take" gE f fd)(T:mX mg)(fc:ig K fh):gA P w K mg fg j4 1 f fd (pA gE) (iD<|DC fh):=by
 refine sX F iF ⟨_,λhr=>(fv (GD (dv 1)<|vE 3<|lU (qT 2 iF.nd)<|lU (qT 3 iF.nd)<|lU (qT 4 iF.nd) vF)
  (fQ<|gq<|Jk W5 AN (mT (mT (DW (si hr) (mS fc.cl fc.qm<|dv 0) (dv 2) λ_ _=>rfl)<|dv 3)<|dv 4) fP<|i0 _)),λds μ Kd h hm hl=>?_⟩
 obtain⟨k,s,rfl,es,ts,A,j,a,i,b,B,rfl,kk⟩:=dJ h;have Fb:=B.Fb;have hb:=B.hb;refine⟨rfl,_,rB B.at_ rM,?_⟩;refine fA (wQ B.ha) ?_;refine fA (wV<|by lia) ?_;refine fA (xp hb)<|.keep ?_;generalize decide (fG es ts (a+1) i b=0)=c at kk ⊢
 cases c<;>exact kk
def my (F:j7 K "clean_takes" "BestMakes.clean_takes" fY f fd)(T:mX mg)(fc:ig K fh):gA P w K mg fg j4 1 f fd (pA fY) (iD<|DF fh):=by
 refine sX F gh ⟨_,λhr=>(fv (GD (dv 1)<|vE 3<|lU (qT 2 gh.nd)<|lU (qT 3 gh.nd)<|lU (qT 4 gh.nd) vF)
  (fv (qS 5 gh.nd<|mT (mS fc.cl fc.qo<|dv 0)<|dv 4)
  (fQ<|gq<|sA false (p9 (N:=["number","old","row","age","first","end"]) (js:=[none,none,none,some 2,some 3,some 5]) gh<|by decide +kernel) (tE rfl T.enumerate<|a1<|mS fc.cl fc.Hw<|dv 0) (λ_ _ _ nd=>(vE 2<|lU (qT 0 nd)<|lU (vE 2<|lU (qT 1 nd)<|lU (qT 2 nd) vF) vF)) (λ_ _ _=>(pF<|PW.pt<|MT (RY (dv 1)<|dv 3)<|Gr<|VL (mT (dv 2)<|dv 4)<|dv 5)) λ_ _ _=>(dv 0)))),λds μ Kd h hm hl=>?_⟩
 obtain⟨k,s,rfl,es,ts,A,j,a,i,b,B,rfl,kk⟩:=dJ h;have Fb:=B.Fb;have hb:=B.hb;have oX:=B.hl;have By:=B.ht;have eb:(es.map D.int)[b]?=some (.int<|es.getD b 0):=by rw[nX,getD_some hb];rfl
 refine⟨rfl,_,rB B.at_ wB,fA (lG eb) ?_⟩;refine⟨_,rB B.at_ Mq,?_⟩;refine⟨by rw[jK,gQ];exact sz<|by lia,?_⟩;rw[BI,gQ];refine kB trivial _ (λx=>if(match ts[x]? with|some t=>decide (t.2<=(a:Int))&&decide (es.getD b 0<=je es t.1 (es.getD i 0))|none=>false)=true then some (D.int (x:Nat))else none) (λx hx K' k'=>?_) ?_
 .rw[bU]at hx;obtain⟨t,et⟩:∃ t,ts[x]?=some t:=⟨_,iT hx⟩;rw[GI et];rw[et]at k';dsimp only at k';refine⟨rfl,rfl,?_⟩;refine mC (c:=t.2<=(a:Int)) (λq=>?_) (λq=>?_)
  .have er:((vc es t).map D.int)[i]?=some (.int<|je es t.1<|es.getD i 0):=by unfold vc;rw[nX,nX,getD_some (by lia)];rfl
   refine fA (lG er) ?_
   refine mC (c:=es.getD b 0<=je es t.1 (es.getD i 0)) (λq2=>?_) (λq2=>?_)
   .rw[aA (by rw[aB q,aB q2];rfl)]at k';exact k'
   .rw[aC (by rw[aP q2,eL];exact aJ)]at k';exact k'
  .rw[aC (by rw[aP q];exact aJ)]at k';exact k'
 .rw[uA];exact .keep kk
def o8 (F:j7 K "halves" "BestMakes.halves" gH f fd)(T:mX mg)(fc:ig K fh):gA P w K mg fg j4 1 f fd (pA gH) (iD<|DD fh):=by
 refine sX F gC ⟨_,λhr=>(fv (GD (dv 1)<|vE 3<|lU (qT 2 gC.nd)<|lU (qT 3 gC.nd)<|lU (qT 4 gC.nd) vF)
  (fv (qS 5 gC.nd<|mT (mT (DW (si hr) (mS fc.cl fc.qm<|dv 0) (dv 2) λ_ _=>rfl)<|dv 3)<|dv 4)
  (fv (qS 6 gC.nd<|DW (si hr) (mS fc.cl fc.qm<|dv 0) (Ke (dv 2) fP) λ_ _=>rfl)
  (fQ<|gq<|sA false (p9 (N:=["middle","self","age","first","behind","before","many"]) (js:=[none,some 0,some 2,some 3,some 4,some 6,some 5]) gC<|by decide +kernel) (qx rfl T.range<|a2 (pV (dv 3) fP)<|dv 4) (λ_ _ _ nd=>(qT 0 nd)) (λ_ _ _=>(pF<|J0 (pV (pV (mT (mT (dv 5)<|dv 3)<|dv 0)<|mT (mT (dv 5)<|dv 0)<|dv 4) fP)<|dv 6)) λ_ _ _=>(nO<|a3 (mT (mS fc.cl fc.qo<|dv 1)<|dv 0) (nO<|a3 (Ke (dv 2) fP) (dv 3)<|dv 0)<|nO<|a3 (Ke (dv 2) fP) (dv 0)<|dv 4))))),λds μ Kd h hm hl=>?_⟩
 obtain⟨k,s,rfl,es,ts,A,j,a,i,b,B,rfl,h1,kk⟩:=dJ h;have Fb:=B.Fb;have hb:=B.hb;have ha:=B.ha;have oX:=B.hl;obtain⟨a',rfl⟩:∃ a',a=a'+1:=⟨a - 1,by lia⟩;refine⟨rfl,_,rB B.at_ rM,fA (wQ ha)<|fA (wV<|by lia)<|fA (xp hb) ?_⟩;have ek:uI ((l9<|A+1).zip<|nH es ts<|A+1) (.inl<|((a'+1:Nat):Int) - 1)=some (.lst<|lJ es.length<|fG es ts<|a'+1):=by rw[show((a'+1:Nat):Int) - 1=(a':Int) by lia];exact wQ (by lia)
 refine⟨_,rB B.at_ rM,fA ek ?_⟩;refine⟨⟨by lia,by lia,by lia,by lia⟩,?_⟩;refine⟨by unfold m9;rw[gQ,ur];exact sz<|by lia,?_⟩;rw[K1];refine kB trivial _ (λx=>if decide (fG es ts (a'+1) i (i+1+x)+fG es ts (a'+1) (i+1+x) b+1=fG es ts (a'+1+1) i b)=true then some (Df es (a'+1) i b<|i+1+x)else none) (λx hx K' k'=>?_) ?_
 .rw[bU]at hx;have hx1:i+1+x<b:=by lia
  rw[show(i:Int)+1+(x:Nat)=((i+1+x:Nat):Int) by lia];generalize i+1+x=m at hx1 k' ⊢
  refine fA (wV<|by lia) (fA (xp<|by lia)<|fA (wV<|by lia)<|fA (xp hb) ?_);refine nK (λq=>?_) (λq=>?_)
  .rw[aA (aB q)]at k';have ep:(es.map D.int)[m]?=some (.int<|es.getD m 0):=by rw[nX,getD_some (by lia)];rfl
   refine⟨_,rB B.at_ wB,fA (lG ep) ⟨zs,zs,zs,?_⟩⟩;exact k'
  .rw[aC (by rw[aP q];exact aJ)]at k';exact k'
 .rw[uA];rw[Be,bc]at kk;rw[show((b:Int) - ((i:Int)+1)).toNat=b - (i+1) by lia];exact .keep kk
def nW (F:j7 K "__init__" "BestMakes.__init__" gv f fd)(T:mX mg)(fc:ig K fh)(lT:p4 P w K mg fg)(kW:mh P w K mg fg)(As:sD P w K mg fg)(yA:qE P w K mg fg):gA P w K mg fg j4 5 f fd (pA gv) (iD<|NG fh):=by
 refine sX F j8 ⟨_,λhr=>(fv (yV fc.cl fc.qo (qC lT hr<|a2 (dv 1)<|dv 2)<|dv 0)
  (fv (yV fc.cl fc.Hw (qC kW hr<|a3 (dv 1) (dv 2)<|dv 3)<|dv 0)
  (fv (qS 4 j8.nd<|qC As hr<|a3 (dv 1) (dv 2)<|dv 3)
  (fv (yV fc.cl fc.qm (qC yA hr<|gB (dv 1)<|gB (dv 2)<|gB (dv 3)<|gB (dv 4) jU)<|dv 0)
  (fv (yV fc.cl fc.sY (nO<|a3 (dv 4) fP<|Ke (DZ T<|mS fc.cl fc.qo<|dv 0) fP)<|dv 0)
  (fQ<|yV fc.cl fc.qr Mb<|dv 0)))))),λds μ Kd h hm hl=>?_⟩
 obtain⟨k,n,x,y,rfl,cs,ts,rfl,rfl,S,zI,hb,hk,kk⟩:=dJ h;have oA:=S.oA;have UU:k<μ.length:=(kP hk).1;have at_:∀ {m:MO},(μ.set k m)[k]?=some m:=aO UU;have tF:(e9 n cs).length=cs.length+2:=fO n cs;obtain⟨es,he⟩:∃ es,es=e9 n cs:=⟨_,rfl⟩;refine⟨cs,rfl,oA,_,(["places"],[.lst (es.map D.int)]),nq hk,by rw[<- he];kernel_rfl,by decide,?_⟩;refine⟨cs,ts,rfl,rfl,S,_,(["places","rows"],[.lst (es.map D.int),.lst (ts.map<|k8 es)]),nq at_,by rw[<- he];kernel_rfl,by show 1<1000;decide,?_⟩;rw[b7];refine⟨cs,ts,rfl,rfl,S,zI,?_⟩;unfold Bo;rw[hb];intro a ha la;refine⟨cs,ts,rfl,rfl,S,by lia,by lia,_,(["places","rows","tables"],[.lst (es.map D.int),.lst (ts.map<|k8 es),.jf (l9<|a+1) (nH es ts<|a+1)]),nq at_,by rw[<- he];kernel_rfl,by show 2<1000;decide,?_⟩;rw[b7];refine⟨_,rB at_ (d:=.lst<|es.map D.int)<|by kernel_rfl,fA rfl ⟨zs,?_⟩⟩;have el:((es.map D.int).length:Int) - 1=((es.length - 1:Nat):Int):=by rw[gQ,he];lia
 refine⟨_,(["places","rows","tables","whole"],[.lst (es.map D.int),.lst (ts.map<|k8 es),.jf (l9<|a+1) (nH es ts<|a+1),sH a 0 (es.length - 1)]),nq at_,by show putN "whole" (.tup [.int a,.int 0,.int (((es.map D.int).length:Int) - 1)]) _ _=_;rw[el];kernel_rfl,by show 3<1000;decide,?_⟩;rw[b7];have at2:∀ {m m':MO},(μ.set k m++[m'])[k]?=some m:=λ{m m'}=>by rw[vX (by rw[bV];exact UU)];exact at_
 refine⟨_,(yF,Az es ts a μ.length),nq at2,by rw[bV];kernel_rfl,by show 4<1000;decide,.keep ?_⟩;have kk:=kk a ha<|he▸la;rw[List.set_append_left _ _ (by rw[bV];exact UU),b7,he];exact kk
def mM {f:ai}{fd:ag}(F:j7 K "count_anew" "BestMakes.count_anew" f9 f fd)(T:mX mg)(fc:ig K fh){l n:Nat}(hl:1<=l)(fX:ip P w K mg fg)(fR:gO P w K mg fg)(gc:iz P w K mg fg)(fL:uX P w K mg fg fh "counted" l ["self","stretch"] (iD<|zW fh n)):gA P w K mg fg j4 (l+1) f fd ["self","stretch"] (iD<|zW fh<|n+1):=by
 refine F.O4 gp (λds μ Kd h=>by obtain⟨_,_,rfl,_⟩:=dJ h;rfl) (λjL A fC s H E hr=>⟨_,(fv (kZ (ma<|ji fX fc.cl hr.le (dv 0)<|a1<|dv 1)
  (fQ<|gq<|DZ T<|ji fR fc.cl hr.le (dv 0)<|a1<|dv 1)
  jb)
  (fv (qS 2 gp.nd fP)
  (fv (mI bH rfl (ib<|ji gc fc.cl hr.le (dv 0)<|a1<|dv 1) (vE 3<|lU (qT 3 gp.nd)<|lU (qT 4 gp.nd)<|lU (qT 5 gp.nd) vF)
  (fQ<|GC (i:=2) gp.nd rfl lo (rF Pd xb (ji fL fc.cl hr.le (dv 0)<|a1<|dv 4)<|ji fL fc.cl hr.le (dv 0)<|a1<|dv 5) xR AM))
  (fQ<|gq<|dv 2)))),λds μ Kd hm hl h=>?_⟩)
 obtain⟨k,s,rfl,h⟩:=dJ h;obtain⟨es,ts,A,j,a,i,b,ks,dd,B,rfl,WO,h1,Ay,hj,mm,kk⟩:=h;have Fb:=B.Fb;have hb:=B.hb;have ha:=B.ha;have oX:=B.hl;have By:=B.ht;have hA:=B.hA;have gT:=B.ok;refine⟨ow B.at_<|oF<|by simp,es,ts,A,j,a,i,b,B,rfl,?_⟩;refine mC (c:=fG es ts (a+1) i b=0) (λq=>?_) (λq=>?_)
 .refine⟨ow B.at_<|oF<|by simp,es,ts,A,j,a,i,b,B,rfl,fA rfl (.keep ?_)⟩;have kk:=kk ks dd mm;rw[lK hj]at kk;unfold gM at kk;rw[aA q]at kk;rw[gQ];exact kk
 .have ha1:a≠0:=λz=>by subst z;exact q (h1.z i b (by lia) hb gT)
  obtain⟨a',rfl⟩:∃ a',a=a'+1:=⟨a - 1,by lia⟩
  refine⟨ow B.at_<|oF<|by simp,es,ts,A,j,a'+1,i,b,B,rfl,by lia,?_⟩
  rw[Dc]
  obtain⟨M,hM⟩:∃ M,M=kN (fG es ts<|a'+1+1) (fG es ts<|a'+1) i b:=⟨_,rfl⟩
  rw[<- hM]
  obtain⟨g,hg⟩:∃ g:Nat->Int,g=λx=>gM es ts (a'+1) i x*gM es ts (a'+1) x b:=⟨_,rfl⟩
  have US:∀ x∈M,i<x/\x<b/\fG es ts (a'+1) i x+fG es ts (a'+1) x b+1=fG es ts (a'+1+1) i b:=λx hx=>hG.mp (hM▸hx)
  refine fA rfl ?_
  refine iK (λds ρ fI=>∃(z:Nat) (mB:ak (ak Key)) (mR:ak D) (u v w:ao D),ds=(M.drop z).map (λk=>D.tup [.int (es.getD k 0),sH a' i k,sH a' k b])/\Memo es ts A mB mR/\ρ=[some (.mr k),some (sH ((a'+1:Nat):Int) i b),some (.int ((M.take z).map g).sum),u,v,w]/\fI=μ.set j (.lD mB mR)) ⟨0,ks,dd,none,none,none,rfl,mm,rfl,(lK hj).symm⟩ ?_ ?_
  .rintro d lW ρ fI ⟨z,mB,mR,u,v,w,e,Q8,rfl,rfl⟩;refine⟨trivial,λnx sk=>?_⟩;have hz:z<M.length:=by
    by_cases y:z<M.length
    .exact y
    .rw[bM (by lia)]at e;cases e
   rw[bg hz,az,List.cons.injEq]at e;obtain⟨rfl,rfl⟩:=e;obtain⟨x1,x2,x3⟩:=US _<|a9 hz;have Rq:=tQ (f:=g) hz;generalize M[z]=x at x1 x2 x3 Rq ⊢
   have n1:=h1.nn (a'+1) i x (by lia) (by lia);have n2:=h1.nn (a'+1) x b (by lia) hb;have CZ:j<μ.length:=(kP hj).1;have B':=B.put (m:=.lD mB mR) Ay;have Bl:Bm fh (μ.set j<|.lD mB mR) k es ts A j a' i x:=⟨B'.at_,by lia,x1,by lia,oX,By,hA,by lia⟩;refine⟨rfl,ow B'.at_<|oF<|by simp,es,ts,A,j,a',i,x,mB,mR,Bl,rfl,by lia,h1,Ay,aO CZ,Q8,λJ1 Kc Q7=>?_⟩;rw[b7];have B2:=B.put (m:=.lD J1 Kc) Ay;have Br:Bm fh (μ.set j<|.lD J1 Kc) k es ts A j a' x b:=⟨B2.at_,by lia,x2,hb,oX,By,hA,by lia⟩;refine⟨ow B2.at_<|oF<|by simp,es,ts,A,j,a',x,b,J1,Kc,Br,rfl,by lia,h1,Ay,aO CZ,Q7,λSr Tt UO=>?_⟩;rw[b7];refine⟨BN oX By (a'+1) i x b x1 x2 hb,?_⟩;refine sk _ _ ⟨z+1,Sr,Tt,some<|.int<|es.getD x 0,some<|sH a' i x,some<|sH a' x b,rfl,UO,?_,rfl⟩;rw[Rq,hg];rfl
  .rintro ρ fI ⟨z,mB,mR,u,v,w,e,Q8,rfl,rfl⟩;refine⟨trivial,?_⟩;have hz:M.length<=z:=by have:=cq List.length e;rw[gQ,bz]at this;simp at this;lia
   rw[bL hz];have kk:=kk mB mR Q8;unfold gM at kk;rw[aC q,<- hM]at kk;rw[hg];exact .keep kk
def kM {f:ai}{fd:ag}(F:j7 K "counted" "BestMakes.counted" gF f fd)(T:mX mg)(fc:ig K fh){l n:Nat}(nF:uX P w K mg fg fh "count_anew" l ["self","stretch"] (iD<|zW fh n)):gA P w K mg fg j4 (l+1) f fd ["self","stretch"] (iD<|zW fh n):=by
 refine F.O4 oj (λds μ Kd h=>by obtain⟨_,_,rfl,_⟩:=dJ h;rfl) (λjL A fC s H E hr=>⟨_,(JL (kZ (Gq (si hr) (dv 1) (mS fc.cl fc.qr<|dv 0)<|by with_unfolding_all rfl)
  (fQ<|OA (si hr) (ji nF fc.cl hr.le (dv 0)<|a1<|dv 1) (mS fc.cl fc.qr<|dv 0)<|dv 1)
  jb)
  (fQ<|gq<|Tu (si hr) (mS fc.cl fc.qr<|dv 0) (dv 1) λ_ _=>rfl)),λds μ Kd hm hl h=>?_⟩)
 obtain⟨k,s,rfl,h⟩:=dJ h;obtain⟨es,ts,A,j,a,i,b,ks,dd,B,rfl,WO,h1,Ay,hj,mm,kk⟩:=h;have ha:=B.ha;have Fb:=B.Fb;have hb:=B.hb;have oX:=B.hl;have hA:=B.hA;have CZ:j<μ.length:=(kP hj).1;have bd:∀ {mB:ak (ak Key)} {mR:ak D},Memo es ts A mB mR->mB.length<sizeLine:=λm=>by have h2:=m.bd;have h3:(A+1)*es.length*es.length<=101*100*100:=Nat.mul_le_mul (Nat.mul_le_mul (by lia) oX) oX;exact bS (aK h2 h3) (by decide)
 have fin:∀ {mB:ak (ak Key)} {mR:ak D},Memo es ts A mB mR->stK a i b∈mB->Tw (vp TH (TQ fh "counts"<|Ab 0)<|Ab 1) (AW μ.length Kd) [some (.mr k),some (sH a i b)] (μ.set j<|.lD mB mR):=λ{mB mR} m FH=>by
  have B':=B.put (m:=.lD mB mR) Ay;rcases m.get a i b with⟨z,_⟩|⟨_,z⟩
  .exact absurd FH z
  .refine⟨_,rB B'.at_ rN,_,?_,.keep<|kk mB mR m⟩;unfold Q9 IW;rw[aO CZ];exact cq some z
 refine⟨λj5 fI=>∃ mB mR,Memo es ts A mB mR/\stK a i b∈mB/\j5=[some (.mr k),some (sH a i b)]/\fI=μ.set j (.lD mB mR),?_,?_⟩
 .have ei:Q9 μ j (sH a i b)=some (qa ks dd<|stK a i b):=by unfold Q9 IW;rw[hj];rfl
  refine⟨_,rB B.at_ rN,_,ei,?_⟩
  rcases mm.get a i b with⟨z1,z2⟩|⟨z1,z2⟩
  .rw[z2];refine V1 ?_;refine⟨ow B.at_<|oF<|by simp,es,ts,A,j,a,i,b,ks,dd,B,rfl,WO,h1,Ay,hj,mm,λJ1 Kc Q7=>?_⟩;have B2:=B.put (m:=.lD J1 Kc) Ay;refine⟨_,rB B2.at_ rN,J1,Kc,stK a i b,aO CZ,bd Q7,rfl,?_⟩;rw[b7];obtain⟨m1,m2⟩:=Q7.put (i:=i) ha (by lia) hb;exact⟨_,_,m1,m2,rfl,rfl⟩
  .rw[z2];refine V2 ?_;exact⟨ks,dd,mm,z1,rfl,(lK hj).symm⟩
 .rintro j5 fI ⟨mB,mR,m,FH,rfl,rfl⟩;exact fin m FH
theorem vQ {f1 f2:ai}{LV U2:ag}(F1:j7 K "counted" "BestMakes.counted" gF f1 LV)(F2:j7 K "count_anew" "BestMakes.count_anew" f9 f2 U2)(T:mX mg)(fc:ig K fh)(m1:Meth K fh "counted" f1)(m2:Meth K fh "count_anew" f2)(b1:Binds K LV ["self","stretch"] [])(b2:Binds K U2 ["self","stretch"] [])(fX:ip P w K mg fg)(fR:gO P w K mg fg)(gc:iz P w K mg fg):∀ n,gA P w K mg fg j4 (2*n+2) f1 LV ["self","stretch"] (iD<|zW fh n)
 |0=>kM F1 T fc (l:=1) ⟨f2,U2,.never Fj,m2,b2⟩
 |n+1=>kM F1 T fc (l:=2*n+3) ⟨f2,U2,mM F2 T fc (by lia) fX fR gc ⟨f1,LV,vQ F1 F2 T fc m1 m2 b1 b2 fX fR gc n,m1,b1⟩,m2,b2⟩
def vg (F:j7 K "count_best" "count_best" iY f fd)(T:mX mg)(fc:ig K fh)(oK:qH P w K mg fg)(jl:jj P w K mg fg)(fL:iq P w K mg fg):gA P w K mg fg j4 145 f fd (pA iY) (iD uE):=by
 refine sX F pw ⟨_,λhr=>(fv (kZ (AJ<|qC oK hr<|a3 (dv 0) (dv 1)<|dv 2)
  (fQ<|gq fP)
  jb)
  (fv (qS 3 pw.nd<|Jj jl hr.le rfl (a3 (dv 0) (dv 1)<|dv 2))
  (fQ<|gq<|ji fL fc.cl hr.le (dv 3)<|a1<|mS fc.cl fc.sY<|dv 3))),λds μ Kd h hm hl=>?_⟩
 obtain⟨n,x,y,rfl,cs,ts,rfl,rfl,S,zI,kk⟩:=dJ h;have oA:=S.oA;have tF:(e9 n cs).length=cs.length+2:=fO n cs;have ft:=S.takes.oA;refine⟨cs,ts,rfl,rfl,oA,S.takes,S.n2,?_⟩;unfold cntK at kk;cases hb:jC (e9 n cs) ts with
 | some p =>rw[hb]at kk;exact .keep kk
 | none =>
  rw[hb]at kk;dsimp only at kk;refine⟨cs,ts,rfl,rfl,S,zI,hb,by rw[p8 (aq _),a6];rfl,λa ha la=>⟨rfl,?_⟩⟩;have kk:=kk a ha la;obtain⟨es,he⟩:∃ es,es=e9 n cs:=⟨_,rfl⟩;have tl:=qU S la;have sd:=(yU S (a+1) 0 (cs.length+1) (by lia)<|by lia).2 (by lia);have tb:=vG S;rw[<- he]at tl sd tb kk tF ⊢
  obtain⟨g,hg⟩:∃ g,g=(μ++[MO.ins fh [] []]).set μ.length (.ins fh yF<|Az es ts a (μ++[MO.ins fh [] []]).length)++[.lD [] []]:=⟨_,rfl⟩;rw[<- hg];have eg:g=μ++[.ins fh yF (Az es ts a<|μ.length+1),.lD [] []]:=by rw[hg,eP _ _ (aq _),a6,cC,kO];rfl
  have e0:g[μ.length]?=some (.ins fh yF<|Az es ts a<|μ.length+1):=by rw[eg,p8 (aq _),a6];rfl
  have e1:g[μ.length+1]?=some (.lD [] []):=by rw[eg,p8 (by lia),show μ.length+1 - μ.length=1 by lia];rfl
  have B:Bm fh g μ.length es ts a (μ.length+1) a 0 (es.length - 1):=⟨e0,aq _,by lia,by lia,by lia,by lia,by lia,by rw[show es.length - 1=cs.length+1 by lia];lia⟩;refine⟨ow e0<|oF<|by simp,_,rB e0 uT,es,ts,a,μ.length+1,a,0,es.length - 1,[],[],B,rfl,by lia,tb,by lia,e1,.nil,λmB mR m=>?_⟩;refine .drop True.intro ?_ ?_
  .intro j m' hj e;rw[aW (by lia),eg,vX hj]at e;exact hm j m' e
  .rw[List.take_set_of_le (by lia),eg,cx];exact kk
def nV {f:ai}{fd:ag}(F:j7 K "numbered" "BestMakes.numbered" gu f fd)(T:mX mg)(fc:ig K fh){l n:Nat}(hl:144<=l)(hn:n<=70)(fX:ip P w K mg fg)(fR:gO P w K mg fg)(gc:iz P w K mg fg)(fL:iq P w K mg fg)(iN:uX P w K mg fg fh "numbered" l ["self","stretch","number"] (iD<|zS fh n)):gA P w K mg fg j4 (l+1) f fd ["self","stretch","number"] (iD<|zS fh<|n+1):=by
 refine F.O4 gm (λds μ Kd h=>by obtain⟨_,_,_,rfl,_⟩:=dJ h;rfl) (λjL A fC s H E hr=>⟨_,(fv (kZ (ma<|ji fX fc.cl hr.le (dv 0)<|a1<|dv 1)
  (fQ<|gq<|mT (ji fR fc.cl hr.le (dv 0)<|a1<|dv 1)<|dv 2)
  jb)
  (fv (qS 3 gm.nd<|dv 2)
  (fQ (mI bH rfl (ib<|ji gc fc.cl hr.le (dv 0)<|a1<|dv 1) (vE 3<|lU (qT 4 gm.nd)<|lU (qT 5 gm.nd)<|lU (qT 6 gm.nd) vF)
  (fv (qS 7 gm.nd<|ji fL fc.cl hr.le (dv 0)<|a1<|dv 6)
  (fv (kZ (UL (dv 3)<|rF Pd xb (ji fL fc.cl hr.le (dv 0)<|a1<|dv 5)<|dv 7)
  (fQ<|gq<|nO<|a3 (dv 4) (ji iN fc.cl hr.le (dv 0)<|a2 (dv 5)<|rF Hl KQ (dv 3)<|dv 7)<|ji iN fc.cl hr.le (dv 0)<|a2 (dv 6)<|rF zq RN (dv 3)<|dv 7)
  jb)
  (fQ<|GC (i:=3) gm.nd rfl lo (rF Pd xb (ji fL fc.cl hr.le (dv 0)<|a1<|dv 5)<|dv 7) LH AM))))))),λds μ Kd hm hl h=>?_⟩)
 obtain⟨k,s,r,rfl,h⟩:=dJ h;obtain⟨es,ts,A,j,a,i,b,ks,dd,B,rfl,WO,h1,Ay,hj,mm,r0,r1,kk⟩:=h;have Fb:=B.Fb;have hb:=B.hb;have ha:=B.ha;have oX:=B.hl;have By:=B.ht;have hA:=B.hA;have gT:=B.ok;refine⟨ow B.at_<|oF<|by simp,es,ts,A,j,a,i,b,B,rfl,?_⟩;refine mC (c:=fG es ts (a+1) i b=0) (λq=>?_) (λq=>?_)
 .refine⟨ow B.at_<|oF<|by simp,es,ts,A,j,a,i,b,B,rfl,?_⟩;have kk:=kk ks dd mm;rw[lK hj]at kk;unfold gM at r1;rw[aA q]at r1;unfold rL at kk;rw[aA q]at kk;have e1:(o9 es ts a i b)[r.toNat]?=some ((o9 es ts a i b).getD r.toNat 0):=by rw[ar,iT (by lia)];rfl
  have e2:o5 ((o9 es ts a i b).map λx=>D.int (x:Nat)) r=some (.int ((o9 es ts a i b).getD r.toNat 0:Nat)):=by have:=uU (g:=λx:Nat=>D.int (x:Nat)) e1;rwa [bW r0]at this
  exact fA e2 (.keep kk)
 .have ha1:a≠0:=λz=>by subst z;exact q (h1.z i b (by lia) hb gT)
  obtain⟨a',rfl⟩:∃ a',a=a'+1:=⟨a - 1,by lia⟩
  refine⟨ow B.at_<|oF<|by simp,es,ts,A,j,a'+1,i,b,B,rfl,by lia,?_⟩
  rw[Dc]
  obtain⟨M,hM⟩:∃ M,M=kN (fG es ts<|a'+1+1) (fG es ts<|a'+1) i b:=⟨_,rfl⟩
  rw[<- hM]
  obtain⟨g,hg⟩:∃ g:Nat->Int,g=λx=>gM es ts (a'+1) i x*gM es ts (a'+1) x b:=⟨_,rfl⟩
  have US:∀ x∈M,i<x/\x<b/\fG es ts (a'+1) i x+fG es ts (a'+1) x b+1=fG es ts (a'+1+1) i b:=λx hx=>hG.mp (hM▸hx)
  have gnn:∀ x∈M,0<=g x:=λx hx=>by have:=US x hx;rw[hg];exact c9 (jV oX By (a'+1) i x this.1<|by lia).1 (jV oX By (a'+1) x b this.2.1 hb).1
  unfold gM at r1
  rw[aC q,<- hM,<- hg]at r1
  unfold rL at kk
  rw[aC q,<- hM,<- hg]at kk
  refine fA rfl ?_
  refine iK (λds ρ fI=>∃(z:Nat) (mB:ak (ak Key)) (mR:ak D) (u v w m:ao D),ds=(M.drop z).map (λk=>D.tup [.int (es.getD k 0),sH a' i k,sH a' k b])/\Memo es ts A mB mR/\0<=r - ((M.take z).map g).sum/\ρ=[some (.mr k),some (sH ((a'+1:Nat):Int) i b),some (.int r),some (.int<|r - ((M.take z).map g).sum),u,v,w,m]/\fI=μ.set j (.lD mB mR)) ⟨0,ks,dd,none,none,none,none,rfl,mm,by simpa using r0,by simp;rfl,(lK hj).symm⟩ ?_ ?_
  .rintro d lW ρ fI ⟨z,mB,mR,u,v,w,m,e,Q8,rn,rfl,rfl⟩;refine⟨trivial,λnx sk=>?_⟩;have hz:z<M.length:=by
    by_cases y:z<M.length
    .exact y
    .rw[bM (by lia)]at e;cases e
   rw[bg hz,az,List.cons.injEq]at e;obtain⟨rfl,rfl⟩:=e;obtain⟨x1,x2,x3⟩:=US _<|a9 hz;have Rq:=tQ (f:=g) hz;have ez:M[z]?=some M[z]:=iT hz;generalize M[z]=x at x1 x2 x3 Rq ez ⊢
   have n1:=h1.nn (a'+1) i x (by lia) (by lia);have n2:=h1.nn (a'+1) x b (by lia) hb;have CZ:j<μ.length:=(kP hj).1;have Bl:∀ {ks:ak (ak Key)} {dd:ak D},Bm fh (μ.set j<|.lD ks dd) k es ts A j a' i x:=λ{ks dd}=>⟨(B.put (m:=.lD ks dd) Ay).at_,by lia,x1,by lia,oX,By,hA,by lia⟩;have Br:∀ {ks:ak (ak Key)} {dd:ak D},Bm fh (μ.set j<|.lD ks dd) k es ts A j a' x b:=λ{ks dd}=>⟨(B.put (m:=.lD ks dd) Ay).at_,by lia,x2,hb,oX,By,hA,by lia⟩;have at_:∀ {m:MO},(μ.set j m)[j]?=some m:=aO CZ;have c2:=jV oX By (a'+1) x b x2 hb;refine⟨rfl,ow Br.at_<|oF<|by simp,es,ts,A,j,a',x,b,mB,mR,Br,rfl,by lia,h1,Ay,at_,Q8,λJ1 Kc Q7=>?_⟩;rw[b7];refine⟨ow Bl.at_<|oF<|by simp,es,ts,A,j,a',i,x,J1,Kc,Bl,rfl,by lia,h1,Ay,at_,Q7,λSr Tt UO=>?_⟩;rw[b7];refine⟨BN oX By (a'+1) i x b x1 x2 hb,?_⟩;obtain⟨v,hv⟩:∃ v,v=r - ((M.take z).map g).sum:=⟨_,rfl⟩;rw[<- hv]at rn ⊢
   have gx:g x=gM es ts (a'+1) i x*gM es ts (a'+1) x b:=by rw[hg]
   refine mC (c:=v<gM es ts (a'+1) i x*gM es ts (a'+1) x b) (λq2=>?_) (λq2=>?_)
   .have pos:0<gM es ts (a'+1) x b:=by
     rcases dW c2.1 with y|y
     .exact y
     .rw[<- y,Int.mul_zero]at q2;lia
    have d1:0<=v / gM es ts (a'+1) x b:=Int.ediv_nonneg rn c2.1
    have d2:v / gM es ts (a'+1) x b<gM es ts (a'+1) i x:=eU pos q2
    have m1:=dP v (show gM es ts (a'+1) x b≠0 by lia)
    have m2:=dh v pos
    have pk:=(qk (f:=g) gnn ez rn (by rw[gx];exact q2)).1
    rw[show((M.take z).map g).sum+v=r by lia]at pk
    rw[pk]at kk
    dsimp only at kk
    refine⟨ow Bl.at_<|oF<|by simp,QH oX By x2 hb pos,es,ts,A,j,a',i,x,Sr,Tt,Bl,rfl,by lia,h1,Ay,at_,UO,d1,d2,λVY Xc VR=>?_⟩
    rw[b7]
    refine⟨ow Br.at_<|oF<|by simp,pos,es,ts,A,j,a',x,b,VY,Xc,Br,rfl,by lia,h1,Ay,at_,VR,m1,m2,λks5 dd5 mm5=>?_⟩
    rw[b7]
    exact⟨zs,.keep<|kk ks5 dd5 mm5⟩
   .refine uM ?_;refine⟨ow Bl.at_<|oF<|by simp,es,ts,A,j,a',i,x,Sr,Tt,Bl,rfl,by lia,h1,Ay,at_,UO,λVY Xc VR=>?_⟩;rw[b7];refine⟨BN oX By (a'+1) i x b x1 x2 hb,?_⟩;refine sk _ _ ⟨z+1,VY,Xc,some<|.int<|es.getD x 0,some<|sH a' i x,some<|sH a' x b,some<|.int<|gM es ts (a'+1) x b,rfl,VR,by rw[Rq,gx];lia,?_,rfl⟩;rw[Rq,gx,show r - (((M.take z).map g).sum+gM es ts (a'+1) i x*gM es ts (a'+1) x b)=v - gM es ts (a'+1) i x*gM es ts (a'+1) x b by lia];rfl
  .rintro ρ fI ⟨z,mB,mR,u,v,w,m,e,Q8,rn,rfl,rfl⟩;exfalso;have hz:M.length<=z:=by have:=cq List.length e;rw[gQ,bz]at this;simp at this;lia
   rw[bL hz]at rn;lia
theorem CG {f1:ai}{LV:ag}(F1:j7 K "numbered" "BestMakes.numbered" gu f1 LV)(T:mX mg)(fc:ig K fh)(m1:Meth K fh "numbered" f1)(b1:Binds K LV ["self","stretch","number"] [])(fX:ip P w K mg fg)(fR:gO P w K mg fg)(gc:iz P w K mg fg)(fL:iq P w K mg fg)   : ∀ n,n<=71->gA P w K mg fg j4 (n+145) f1 LV ["self","stretch","number"] (iD<|zS fh n)
 |0,_=>.never BE
 |n+1,h=>nV F1 T fc (l:=n+145) (by lia) (by lia) fX fR gc fL ⟨f1,LV,CG F1 T fc m1 b1 fX fR gc fL n<|by lia,m1,b1⟩
def A9 (F:j7 K "best_of" "best_of" ki f fd)(T:mX mg)(fc:ig K fh)(mj:OwnCls "BadNumber" kE Vd "ValueError.__new__" mg fg)(oK:qH P w K mg fg)(jl:jj P w K mg fg)(fL:iq P w K mg fg)(iN:kU P w K mg fg):gA P w K mg fg (FP P w) 217 f fd (pA ki) (RL<|xZ kE):=by
 refine F.okX tX (λds μ Kd Kx h=>zX h) (λjL A fC s H E hr ka Kb Z=>⟨_,(fv (kZ (AJ<|qC oK hr<|a3 (dv 0) (dv 1)<|dv 2)
  (fQ<|Cm Z rfl mj cM (by decide) cM rfl (a1 lg))
  jb)
  (fv (qS 4 tX.nd<|Jj jl hr.le rfl (a3 (dv 0) (dv 1)<|dv 2))
  (fv (kZ (PW.pt<|Gp (UL (dv 3) fP)<|Cc<|VL (dv 3)<|ji fL fc.cl hr.le (dv 4)<|a1<|mS fc.cl fc.sY<|dv 4)
  (fQ<|Cm Z rfl mj cM (by decide) cM rfl (a1 lg))
  jb)
  (fQ<|gq<|ji iN fc.cl hr.le (dv 4)<|a2 (mS fc.cl fc.sY<|dv 4)<|dv 3)))),λds μ m Kd Kx hm hl em h hK=>?_⟩)
 obtain⟨n,x,y,r,rfl,h⟩:=dJ h;obtain⟨_,cs,ts,rfl,rfl,S,zI,kk⟩:=h;have oA:=S.oA;have tF:(e9 n cs).length=cs.length+2:=fO n cs;have ft:=S.takes.oA;obtain⟨ν,Rb⟩:∃ ν,ν=μ.set 0 (.gx ka H):=⟨_,rfl⟩;have g0:ν[0]?=some (.gx ka H):=by rw[Rb];exact zJ em
 have l0:0<ν.length:=(kP g0).1;rw[<- Rb]at hm ⊢
 refine⟨cs,ts,rfl,rfl,oA,S.takes,S.n2,?_⟩;unfold JH at kk;cases hb:jC (e9 n cs) ts with
 | some p =>rw[hb]at kk;exact⟨zs,by rw[Rb];exact SU hK em kk⟩
 | none =>
  rw[hb]at kk;dsimp only at kk;refine⟨cs,ts,rfl,rfl,S,zI,hb,by rw[p8 (aq _),a6];rfl,λa ha la=>⟨rfl,?_⟩⟩;have kk:=kk a ha la;obtain⟨es,he⟩:∃ es,es=e9 n cs:=⟨_,rfl⟩;have tl:=qU S la;have sd:=(yU S (a+1) 0 (cs.length+1) (by lia)<|by lia).2 (by lia);have tb:=vG S;rw[<- he]at tl sd tb kk tF ⊢
  obtain⟨g,hg⟩:∃ g,g=(ν++[MO.ins fh [] []]).set ν.length (.ins fh yF<|Az es ts a (ν++[MO.ins fh [] []]).length)++[.lD [] []]:=⟨_,rfl⟩;rw[<- hg];have G:=bmG hm hg;have B:∀ {ks:ak (ak Key)} {dd:ak D},Bm fh (g.set (ν.length+1)<|.lD ks dd) ν.length es ts a (ν.length+1) a 0 (es.length - 1):=λ{ks dd}=>⟨G.e0 ks dd,aq _,by lia,by lia,by lia,by lia,by lia,by rw[show es.length - 1=cs.length+1 by lia];lia⟩;have bad:∀ {ks:ak (ak Key)} {dd:ak D},Kx (.ref kE) μ->Kb (.ref kE) (g.set (ν.length+1)<|.lD ks dd):=λ{ks dd} kx=>by rw[hK,<- Rb];refine .inr ⟨G.ol ks dd,?_⟩;rw[G.tk,Rb];exact⟨zJ em,by rw[xW em];exact kx⟩
  rw[G.nw];refine mC (c:=r<0) (λq=>?_) (λq=>?_)
  .rw[aC (by lia)]at kk;exact⟨zs,G.z0 _ _ _ g0,bad kk⟩
  refine⟨ow B.at_<|oF<|by simp,_,rB B.at_ uT,es,ts,a,ν.length+1,a,0,es.length - 1,[],[],B,rfl,by lia,tb,by lia,G.e1 _ _,.nil,λJ1 Kc m2=>?_⟩;rw[b7];refine mC (c:=gM es ts (a+1) 0 (es.length - 1)<=r) (λq2=>?_) (λq2=>?_)
  .rw[aC (by lia)]at kk;exact⟨zs,G.z0 _ _ _ g0,bad kk⟩
  rw[aA (by lia)]at kk;refine⟨ow B.at_<|oF<|by simp,_,rB B.at_ uT,es,ts,a,ν.length+1,a,0,es.length - 1,J1,Kc,B,rfl,by lia,tb,by lia,G.e1 _ _,m2,by lia,by lia,λSr Tt m3=>?_⟩;rw[b7];refine .drop (Bd _) (G.ol _ _) ?_;rw[G.tk,Rb];exact SW em kk
def ze (n:Nat){f:ai}{fd:ag}(F:j7 K "_law_made" "_law_made" pJ f fd)(T:mX mg)(rR:pv P w K mg fg "_law_made" n ["_law_cuts_here","_law_takes","_law_make"] (iD<|Tc xY n)):gA P w K mg fg j4 (n+1) f fd ["_law_cuts_here","_law_takes","_law_make"] (iD<|xY n):=by
 refine F.O4 xo (λds μ Kd h=>by obtain⟨_,_,_,rfl,_⟩:=dJ h;rfl) (λjL A fC s H E hr=>⟨_,(fv (kZ (ma<|NP (T := "int") (by simp) (by rfl) T.isinstance (by rfl) T.int dr<|dv 2)
  (fv (kZ (PW.pt<|Gp (UL (dv 2) fP)<|Cc<|VL (dv 2)<|DZ T<|dv 1)
  (fQ<|gq DU)
  jb)
  (fQ<|gq<|mT (dv 1)<|dv 2))
  jb)
  (fv (qS 3 xo.nd<|qC rR hr<|a3 (dv 0) (dv 1)<|mT (dv 2) fP)
  (fv (qS 4 xo.nd<|qC rR hr<|a3 (dv 0) (dv 1)<|mT (dv 2) fP)
  (fv (kZ (PW.pt<|Gp (lE O6 GA (mT (dv 2) fP) (dv 0)<|by with_unfolding_all rfl)<|Gp (MR<|dv 3)<|Cc<|MR<|dv 4)
  (fQ<|gq DU)
  jb)
  (fQ<|gq<|nO<|a2 (pV (mf false (mT (dv 3) fP) Hs<|lN<|mT (dv 2) fP)<|mf false (mT (dv 4) fP) (lN<|mT (dv 2) fP) Hs)<|pV (pz (Ph rfl) AL (by rfl) T.max dq<|a2 (mT (dv 3) fP)<|mT (dv 4) fP) fP))))),λds μ Kd hm hl h=>?_⟩)
 obtain⟨c,y,d,rfl,h⟩:=dJ h;obtain⟨cs,ts,t,z,rfl,rfl,rfl,hd,WJ,hz,UT,kk⟩:=h;refine fA (MJ t _) ?_;cases t with
 | num k =>
  have kk:Kd (Q2<|if 0<=k then ts[k.toNat]? else none) μ:=kk;refine mC (c:=k<0) (λq=>?_) (λq0=>?_)
  .rw[aC (by lia)]at kk;exact .keep kk
  rw[aA (by lia)]at kk;refine mC (c:=((ts.map rV).length:Int)<=k) (λq=>?_) (λq=>?_)
  .rw[gQ]at q;rw[eR (by lia)]at kk;exact .keep kk
  .rw[gQ]at q;have hx:ts[k.toNat]?=some ts[k.toNat]:=iT (by lia);have a1:o5 (ts.map rV) k=some (rV ts[k.toNat]):=by have:=uU (g:=rV) hx;rwa [bW (by lia)]at this
   rw[hx]at kk;exact fA a1 (.keep kk)
 | j0 p l r =>
  have Ic:max l.dep r.dep+1<=n:=hd;obtain⟨n,rfl⟩:∃ n',n=n'+1:=⟨n - 1,by lia⟩;refine⟨cs,ts,l,z,rfl,rfl,rfl,by lia,WJ,hz,UT,?_⟩;refine⟨cs,ts,r,z,rfl,rfl,rfl,by lia,WJ,hz,UT,?_⟩;have kk:Kd (Q2 (match l.vo cs ts,r.vo cs ts with|some a,some b=>if p∈cs then some (px a b p)else none|_,_=>none)) μ:=kk;dsimp only;refine rG ((true != decide (p∈cs))||((l.vo cs ts).isNone||(r.vo cs ts).isNone)) ?_ (λq=>?_) (λq=>?_)
  .refine .or (.MM λK k=>⟨rfl,Io cs,by rw[Mv];exact k⟩) λ_=>.or (.MM λK k=>?_) λ_=>.MM λK k=>?_
   .cases e:l.vo cs ts with
    |none=>rw[e]at k;exact k
    |some v=>rw[e]at k;exact k
   .cases e:r.vo cs ts with
    |none=>rw[e]at k;exact k
    |some v=>rw[e]at k;exact k
  .refine .keep (d:=.gz) ?_;cases el:l.vo cs ts with
   |none=>rw[el]at kk;exact kk
   | some a =>
    cases er:r.vo cs ts with
    |none=>rw[el,er]at kk;exact kk
    | some b =>rw[el,er]at kk q;have kk:Kd (Q2<|if p∈cs then some (px a b p)else none) μ:=kk;rw[aC (λhp=>by rw[aB hp]at q;cases q)]at kk;exact kk
  .cases el:l.vo cs ts with
   |none=>rw[el]at q;simp at q
   | some a =>
    cases er:r.vo cs ts with
    |none=>rw[el,er]at q;simp at q
    | some b =>
     rw[el,er]at kk q;have hp:p∈cs:=by
      by_cases hp:p∈cs
      .exact hp
      .rw[aP hp]at q;cases q
     have kk:Kd (Q2<|if p∈cs then some (px a b p)else none) μ:=kk;rw[aA hp]at kk;have vl:=(hJ.vC el).2▸hJ.m4 UT (hJ.vC el).1;have vr:=(hJ.vC er).2▸hJ.m4 UT (hJ.vC er).1;have wl:=vl.1;have wr:=vr.1;have p0:=WJ p hp;have lz1:(txt a.1).length<=sizeLine:=by rw[kF];exact sz (by lia)
     have lz2:(txt b.1).length<=sizeLine:=by rw[kF];exact sz (by lia)
     have c1:=tH a.1 none<|some p;have c2:=tH b.1 (some p) none;refine⟨lz1,lz2,?_,zs,.keep ?_⟩
     .show(txt<|j6 a.1 none<|some p).length+(txt<|j6 b.1 (some p) none).length<=sizeLine;rw[kF,kF];exact sz (by lia)
     .show Kd (.tup [.str (txt (j6 a.1 none<|some p)++txt (j6 b.1 (some p) none)),.int (max a.2 b.2+1)]) μ;rw[nB,D1 p0,wm p0];exact kk
theorem CH {f:ai}{fd:ag}(F:j7 K "_law_made" "_law_made" pJ f fd)(T:mX mg)(hm:mg "_law_made"=some (.ref f))(hk:W.keepIn K (.ref f)=true)(hb:Binds K fd ["_law_cuts_here","_law_takes","_law_make"] []):∀ n,gA P w K mg fg j4 (n+1) f fd ["_law_cuts_here","_law_takes","_law_make"] (iD<|xY n)
 |0=>ze 0 F T ⟨f,fd,⟨λ_ _ _ _ Nv=>by obtain⟨_,_,_,_,_,_,h,_⟩:=Nv;exact h.elim,λ_ _ _ _ _ _ _ _ _ _ _ _ _ LP=>by obtain⟨_,_,_,_,_,_,h,_⟩:=LP;exact h.elim⟩,hm,hk,hb⟩
 |n+1=>ze (n+1) F T ⟨f,fd,CH F T hm hk hb n,hm,hk,hb⟩
def CJ (n:Nat){f:ai}{fd:ag}(F:j7 K "_law_key" "_law_key" tY f fd)(T:mX mg)(wH:pv P w K mg fg "_law_key" n ["_law_make"] (iD<|Tc DB n)):gA P w K mg fg j4 (n+1) f fd ["_law_make"] (iD<|DB n):=by
 refine F.O4 Ox (λds μ Kd h=>by obtain⟨_,rfl,_⟩:=dJ h;rfl) (λjL A fC s H E hr=>⟨_,(fv (kZ (ma<|NP (T := "int") (by simp) (by rfl) T.isinstance (by rfl) T.int dr<|dv 0)
  (fQ<|gq<|lh false<|a1<|dv 0)
  jb)
  (fQ<|gq<|pV (pV (lh false<|a1<|mT (dv 0) fP)<|qC wH hr<|a1<|mT (dv 0) fP)<|qC wH hr<|a1<|mT (dv 0) fP)),λds μ Kd hm hl h=>?_⟩)
 obtain⟨d,rfl,h⟩:=dJ h;obtain⟨t,rfl,hd,hc,kk⟩:=h;refine fA (MJ t _) ?_;cases t with
 |num z=>exact⟨zs,.keep kk⟩
 | j0 p l r =>have Ic:max l.dep r.dep+1<=n:=hd;obtain⟨n,rfl⟩:∃ n',n=n'+1:=⟨n - 1,by lia⟩;have pT:l.cnt+r.cnt<=100:=hc;have a1:=nj l;have a2:=nj r;refine⟨zs,l,rfl,by lia,by lia,?_⟩;show Jp false (D.lst [D.int p]) (D.lst<|(kz l).map D.int) μ _;refine fA rfl (fA rfl ⟨sz (by rw[gQ];show 1+(kz l).length<=_;lia),r,rfl,by lia,by lia,?_⟩);show Jp false (D.lst<|[D.int p]++(kz l).map D.int) (D.lst<|(kz r).map D.int) μ _;refine fA rfl (fA rfl ⟨sz (by rw[kO,gQ,gQ];show 1+(kz l).length+(kz r).length<=_;lia),.keep ?_⟩);rw[show([D.int p]++(kz l).map D.int)++(kz r).map D.int=(kz<|.j0 p l r).map D.int by simp[kz]];exact kk
theorem Ho {f:ai}{fd:ag}(F:j7 K "_law_key" "_law_key" tY f fd)(T:mX mg)(hm:mg "_law_key"=some (.ref f))(hk:W.keepIn K (.ref f)=true)(hb:Binds K fd ["_law_make"] []):∀ n,gA P w K mg fg j4 (n+1) f fd ["_law_make"] (iD<|DB n)
 |0=>CJ 0 F T ⟨f,fd,⟨λ_ _ _ _ HX=>by obtain⟨_,_,_,_,_,_,h,_⟩:=HX;exact h.elim,λ_ _ _ _ _ _ _ _ _ _ _ _ _ HW=>by obtain⟨_,_,_,_,_,_,h,_⟩:=HW;exact h.elim⟩,hm,hk,hb⟩
 |n+1=>CJ (n+1) F T ⟨f,fd,Ho F T hm hk hb n,hm,hk,hb⟩
def Hq (F:j7 K "_law_every" "_law_every" m8 f fd)(T:mX mg)  : gA P w K mg fg j4 2 f fd (pA m8) (iD IB):=by
 refine sX F iE ⟨_,λhr=>(fv (Q3 2 false iE.nd (p9 (N:=["_law_k"]) (js:=[none]) iE<|by decide +kernel) (jS rfl T.range<|a1<|dv 1) (λ_ _ _ nd=>(qT 0 nd)) (λ_ _ _=>hX) λ_ _ _=>(dv 0))
  (fv (qS 3 iE.nd<|lh false jU)
  (fv (qS 4 iE.nd<|lh false jU)
  (fv (mI bH rfl (ib<|dv 0) (qT 5 iE.nd)
  (fQ (mI bH rfl (ib<|dv 2) (qT 6 iE.nd)
  (fQ<|qS 3 iE.nd<|pV (dv 3)<|sA false (p9 (N:=["_law_right","_law_place","_law_left"]) (js:=[none,some 5,some 6]) iE<|by decide +kernel) (ib<|dv 2) (λ_ _ _ nd=>(qT 0 nd)) (λ_ _ _=>hX) λ_ _ _=>(nO<|a3 (dv 1) (dv 2)<|dv 0)))))
  (fv (mI bH rfl (ib<|dv 0) (qT 5 iE.nd)
  (fQ (mI bH rfl (ib<|dv 3) (qT 7 iE.nd)
  (fQ<|qS 4 iE.nd<|pV (pV (dv 4)<|sA false (p9 (N:=["_law_right","_law_place","_law_make"]) (js:=[none,some 5,some 7]) iE<|by decide +kernel) (ib<|dv 2) (λ_ _ _ nd=>(qT 0 nd)) (λ_ _ _=>hX) λ_ _ _=>(nO<|a3 (dv 1) (dv 2)<|dv 0))<|sA false (p9 (N:=["_law_left","_law_place","_law_make"]) (js:=[none,some 5,some 7]) iE<|by decide +kernel) (ib<|dv 2) (λ_ _ _ nd=>(qT 0 nd)) (λ_ _ _=>hX) λ_ _ _=>(nO<|a3 (dv 1) (dv 0)<|dv 2)))))
  (fQ<|gq<|lh false<|a3 (dv 2) (dv 3)<|dv 4)))))),λds μ Kd h hm hl=>?_⟩
 obtain⟨c,m,rfl,cs,k,rfl,rfl,h1,h2,kk⟩:=dJ h;refine⟨by lia,by lia,sz (by rw[i9];lia),?_⟩;have nl:(nN k).length=k:=by unfold nN;rw[gQ,ur]
 rw[show m9 0 ((k:Int)).toNat=(List.range k).map (λi:Nat=>D.int i) by unfold m9;rw[Ff];exact bO λi _=>by rw[Int.zero_add]];refine iu trivial (λi:Nat=>D.int i) (λi:Nat=>D.int i) (λi _ K' k'=>k') ?_;rw[show((List.range k).map λi:Nat=>D.int i)=(nN k).map i7 by unfold nN;rw[bc];rfl];refine zo ?_;dsimp only;refine⟨zs,zo ⟨zs,zo<|fA rfl ?_⟩⟩;refine iK (λds ρ fI=>∃(dn rs:ak Int) (u v w:ao D),cs=dn++rs/\ds=rs.map D.int/\(lB dn k).length<=9*dn.length/\ρ=[some (.lst<|cs.map D.int),some (.int k),some (.lst<|(nN k).map i7),some (.lst<|(lB dn k).map i7),some (.lst []),u,v,w]/\μ=fI) ⟨[],cs,none,none,none,rfl,rfl,aq _,rfl,rfl⟩ ?_ ?_
 .rintro d lW ρ fI ⟨dn,rs,u,v,w,e,ed,ln,rfl,rfl⟩;refine⟨trivial,λnx sk=>?_⟩;cases rs with
  |nil=>cases ed
  |cons p rs=>
  cases ed;have dl:dn.length<=1:=by rw[e,kO,aE]at h1;lia
  refine fA rfl ?_;refine iK (λds ρ fI=>∃(da ra:ak hJ) (v w:ao D),nN k=da++ra/\ds=ra.map i7/\(lB dn k++da.flatMap λl=>(nN k).map λr=>hJ.j0 p l r).length<=9*dn.length+3*da.length/\ρ=[some (.lst<|cs.map D.int),some (.int k),some (.lst<|(nN k).map i7),some (.lst<|(lB dn k++da.flatMap λl=>(nN k).map λr=>hJ.j0 p l r).map i7),some (.lst []),some (.int p),v,w]/\μ=fI) ⟨[],nN k,v,w,rfl,rfl,by simpa using ln,by simp,rfl⟩ ?_ ?_
  .rintro d lW ρ fI ⟨da,ra,v,w,e2,ed,ln2,rfl,rfl⟩;refine⟨trivial,λnx sk=>?_⟩;cases ra with
   |nil=>cases ed
   |cons l ra=>
   cases ed;have dl2:da.length+1<=k:=by rw[<- nl,e2,kO,aE];lia
   refine fA rfl ⟨by rw[gQ];exact sz<|by lia,?_⟩;refine iu trivial i7 (λr=>i7<|.j0 p l r) (λr _ K' k'=>⟨zs,k'⟩) ?_;refine zo (fA rfl (fA rfl ⟨by rw[gQ,gQ];exact sz<|by lia,?_⟩));refine zo (sk _ _ ⟨da++[l],ra,some<|i7 l,w,by rw[e2];simp,rfl,?_,by simp[cg],rfl⟩);simp only[kO,cg,aE,cY,dA,eX,gQ,nl]at ln2 ⊢
   lia
  .rintro ρ fI ⟨da,ra,v,w,e2,ed,ln2,rfl,rfl⟩;obtain rfl:ra=[]:=List.map_eq_nil_iff.mp ed.symm;rw[a8]at e2;subst e2;refine⟨trivial,sk _ _ ⟨dn++[p],rs,some<|.int p,v,w,by rw[e];simp,rfl,?_,by unfold lB;simp[cg],rfl⟩⟩;unfold lB at ln2 ⊢
   simp only[kO,cg,aE,cY,dA,eX,nl]at ln2 ⊢
   lia
 .rintro ρ fI ⟨dn,rs,u,v,w,e,ed,ln,rfl,rfl⟩;refine⟨trivial,?_⟩;obtain rfl:rs=[]:=List.map_eq_nil_iff.mp ed.symm;rw[a8]at e;subst e;refine fA rfl ?_;refine iK (λds ρ fI=>∃(dn rs:ak Int) (u v w:ao D),cs=dn++rs/\ds=rs.map D.int/\(El cs dn k).length<=108*dn.length/\ρ=[some (.lst<|cs.map D.int),some (.int k),some (.lst<|(nN k).map i7),some (.lst<|(lB cs k).map i7),some (.lst<|(El cs dn k).map i7),u,v,w]/\μ=fI) ⟨[],cs,u,v,w,rfl,rfl,aq _,rfl,rfl⟩ ?_ ?_
  .rintro d lW ρ fI ⟨dn,rs,u,v,w,e,ed,Yi,rfl,rfl⟩;refine⟨trivial,λnx sk=>?_⟩;cases rs with
   |nil=>cases ed
   |cons p rs=>
   cases ed;have dl:dn.length<=1:=by rw[e,kO,aE]at h1;lia
   refine fA rfl ?_;refine iK (λds ρ fI=>∃(da ra:ak hJ) (v w:ao D),lB cs k=da++ra/\ds=ra.map i7/\(El cs dn k++da.flatMap (Ge k p)).length<=108*dn.length+6*da.length/\ρ=[some (.lst<|cs.map D.int),some (.int k),some (.lst<|(nN k).map i7),some (.lst<|(lB cs k).map i7),some (.lst<|(El cs dn k++da.flatMap (Ge k p)).map i7),some (.int p),v,w]/\μ=fI) ⟨[],lB cs k,v,w,rfl,rfl,by simpa using Yi,by simp,rfl⟩ ?_ ?_
   .rintro d lW ρ fI ⟨da,ra,v,w,e2,ed,ln2,rfl,rfl⟩;refine⟨trivial,λnx sk=>?_⟩;cases ra with
    |nil=>cases ed
    |cons l ra=>
    cases ed;have dl2:da.length+1<=18:=by rw[e2,kO,aE]at ln;lia
    refine fA rfl ⟨by rw[gQ];exact sz<|by lia,?_⟩;refine iu trivial i7 (λr=>i7<|.j0 p l r) (λr _ K' k'=>⟨zs,k'⟩) ?_;refine zo (fA rfl (fA rfl ⟨by rw[gQ,gQ];exact sz<|by lia,?_⟩));refine zo (fA rfl ⟨by rw[gQ];exact sz<|by lia,?_⟩);refine iu trivial i7 (λr=>i7<|.j0 p r l) (λr _ K' k'=>⟨zs,k'⟩) ?_;refine zo (fA rfl (fA rfl ⟨by rw[kO,gQ,gQ,gQ];exact sz<|by lia,?_⟩));refine zo (sk _ _ ⟨da++[l],ra,v,some<|i7 l,by rw[e2];simp,rfl,?_,by simp[cg,Ge,Function.comp_def],rfl⟩);simp only[kO,cg,aE,cY,dA,eX,Ge,gQ,nl]at ln2 ⊢
    lia
   .rintro ρ fI ⟨da,ra,v,w,e2,ed,ln2,rfl,rfl⟩;obtain rfl:ra=[]:=List.map_eq_nil_iff.mp ed.symm;rw[a8]at e2;refine⟨trivial,sk _ _ ⟨dn++[p],rs,some<|.int p,v,w,by rw[e];simp,rfl,?_,by unfold El;simp[cg,e2],rfl⟩⟩;rw[<- e2]at ln2;unfold El at ln2 ⊢
    simp only[kO,cg,aE,cY,dA,eX]at ln2 ⊢
    lia
  .rintro ρ fI ⟨dn,rs,u,v,w,e,ed,Yi,rfl,rfl⟩;obtain rfl:rs=[]:=List.map_eq_nil_iff.mp ed.symm;rw[a8]at e;subst e;exact⟨trivial,zs,.keep kk⟩
def Lo (F:j7 K "_law_best" "_law_best" pP f fd)(T:mX mg)(ME:D4 P w K mg fg)(rR:Jx P w K mg fg)(wH:NW P w K mg fg):gA P w K mg fg j4 66 f fd (pA pP) (iD IC):=by
 refine sX F jD ⟨_,λhr=>(fv (qS 3 jD.nd<|lh false jU)
  (fv (mI bH rfl (ib<|qC ME hr<|a2 (dv 0)<|DZ T<|dv 1) (qT 4 jD.nd)
  (fQ<|qS 3 jD.nd<|pV (dv 3)<|sA false (p9 (N:=["_law_make","_law_cuts_here","_law_takes","_law_size"]) (js:=[none,some 0,some 1,some 2]) jD<|by decide +kernel) (ib<|dv 4) (λ_ _ _ nd=>(qT 0 nd)) (λ_ _ _=>(pF<|J0 (mT (qC rR hr<|a3 (dv 1) (dv 2)<|dv 0) fP)<|rF mulC qW lg<|dv 3)) λ_ _ _=>(dv 0)))
  (fv (kZ (lE (Qs (n:=5)<|MI hr<|by decide) GB (dv 3) (lh false jU)<|i0 _)
  (fQ<|gq<|lh false jU)
  jb)
  (fv (qS 5 jD.nd<|pz (Pg rfl) xc (by rfl) T.min cS<|a1<|sA false (p9 (N:=["_law_make","_law_cuts_here","_law_takes"]) (js:=[none,some 0,some 1]) jD<|by decide +kernel) (ib<|dv 3) (λ_ _ _ nd=>(qT 0 nd)) (λ_ _ _=>hX) λ_ _ _=>(mT (qC rR hr<|a3 (dv 1) (dv 2)<|dv 0) fP))
  (fv (Q3 3 false jD.nd (p9 (N:=["_law_make","_law_cuts_here","_law_takes","_law_age"]) (js:=[none,some 0,some 1,some 5]) jD<|by decide +kernel) (ib<|dv 3) (λ_ _ _ nd=>(qT 0 nd)) (λ_ _ _=>(pF<|J0 (mT (qC rR hr<|a3 (dv 1) (dv 2)<|dv 0) fP)<|dv 3)) λ_ _ _=>(dv 0))
  (fv (qS 6 jD.nd<|pz (Pg rfl) xc (by rfl) T.min cS<|a1<|sA false (p9 (N:=["_law_make"]) (js:=[none]) jD<|by decide +kernel) (ib<|dv 3) (λ_ _ _ nd=>(qT 0 nd)) (λ_ _ _=>hX) λ_ _ _=>(DZ T<|qC wH hr<|a1<|dv 0))
  (fQ<|gq<|L9 wH (hr.mono<|by decide) (by rfl) T.sorted (by rfl)<|sA false (p9 (N:=["_law_make","_law_few"]) (js:=[none,some 6]) jD<|by decide +kernel) (ib<|dv 3) (λ_ _ _ nd=>(qT 0 nd)) (λ_ _ _=>(pF<|J0 (DZ T<|qC wH hr<|a1<|dv 0)<|dv 1)) λ_ _ _=>(dv 0)))))))),λds μ Kd h hm hl=>?_⟩
 obtain⟨x,y,n,rfl,cs,ts,rfl,rfl,S,h1,h2,kk⟩:=dJ h;have n1:=S.n1;have n2:=S.n2;have cp:∀ p∈cs,0<=p:=λp hp=>cv (S.ij.J6 p hp).1;have tk:=qR S;refine⟨zs,zo ⟨cs,ts.length,rfl,by rw[gQ],h1,h2,fA rfl ?_⟩⟩;refine iK (λds ρ fI=>∃(dn rs:ak (ak hJ)) (u:ao D),[nN ts.length,lB cs ts.length,wN cs ts.length]=dn++rs/\ds=rs.map (λl=>D.lst<|l.map i7)/\ρ=[some (.lst<|cs.map D.int),some (.lst<|ts.map rV),some (.int n),some (.lst<|(dn.flatten.filter<|NV ts n).map i7),u,none,none]/\μ=fI) ⟨[],_,none,rfl,rfl,rfl,rfl⟩ ?_ ?_
 .rintro d lW ρ fI ⟨dn,rs,u,e,ed,rfl,rfl⟩;refine⟨trivial,λnx sk=>?_⟩;cases rs with
  |nil=>cases ed
  |cons l rs=>
  cases ed;have ea:dn.flatten++(l++rs.flatten)=allM cs ts.length:=by have:=cq List.flatten e;simp only[List.flatten_append,eI,List.flatten_nil,a8]at this;unfold allM;rw[this]
  have la:=Ea (cs:=cs) (m:=ts.length) h1 h2;rw[<- ea,kO,kO]at la;have lf:=bX (NV ts n) dn.flatten;refine fA rfl ⟨by rw[gQ];exact sz<|by lia,?_⟩;refine kB trivial i7 (λt=>if NV ts n t=true then some (i7 t)else none) (λt ht K' k'=>?_) ?_
  .have gT:=BU (cs:=cs) (m:=ts.length) (t:=t) (by rw[<- ea];exact aI _<|b9 _ ht);refine⟨cs,ts,t,n,rfl,rfl,rfl,by lia,cp,by lia,tk,?_⟩;rw[Bi gT.1];refine⟨111,rfl,by lia,by lia,?_⟩;refine nK (c:=txt (t.val ts).1=txt (List.replicate n.toNat 111)) (λq=>?_) (λq=>?_)
   .rw[aA (show NV ts n t=true from aB (Kn q))]at k';exact k'
   .rw[aC (show ¬ NV ts n t=true from λz=>q<|by rw[bp z])]at k';exact k'
  rw[uA];refine zo (fA rfl (fA rfl ⟨?_,zo<|sk _ _ ⟨dn++[l],rs,_,by rw[e];simp,rfl,by simp;rfl,rfl⟩⟩));have:=bX (NV ts n) l;rw[gQ,gQ];exact sz (by lia)
 .rintro ρ fI ⟨dn,rs,u,e,ed,rfl,rfl⟩;refine⟨trivial,?_⟩;obtain rfl:rs=[]:=List.map_eq_nil_iff.mp ed.symm;rw[a8]at e;subst e;have ef:(List.flatten [nN ts.length,lB cs ts.length,wN cs ts.length]).filter (NV ts n)=gU cs ts n:=by unfold gU allM;simp
  rw[ef];have fl:(gU cs ts n).length<=300:=aK (bX _ _)<|Ea h1 h2;have smf:Av 5 (.lst<|(gU cs ts n).map i7):=xi (by rw[gQ];lia) λd hd=>by obtain⟨t,ht,rfl⟩:=List.mem_map.mp hd;exact Ck t (by have:=(iR S ht).2.1;lia)
  have VA:Av 5 (.lst []):=xi (by simp) λd hd=>nomatch hd;cases hb:jC (e9 n cs) ts with
  | some p =>
   rw[hb]at kk;have fe:gU cs ts n=[]:=by
    cases hf:gU cs ts n with
    |nil=>rfl
    |cons t l=>have:=Fh S (t:=t) (by rw[hf];exact .head _);rw[hb]at this;cases this
   rw[fe];dsimp only;exact rG true (.MM λK k=>⟨zs,tU VA,tU VA,rfl,k⟩) (λ_=>⟨zs,.keep kk⟩) (λq=>by cases q)
  | none =>
   rw[hb]at kk;obtain⟨A,hA,la⟩:=uj S (by lia) hb;have kk:=kk A hA la;obtain⟨b0,SQ⟩:=yi S la h1;have V5:=qJ S la h1 SQ;have fe:gU cs ts n≠[]:=λz=>by have:=V5.1;rw[z]at this;cases this
   have hd:sO (.lst<|(gU cs ts n).map i7) (.lst [])=false:=by
    cases hf:gU cs ts n with
    |nil=>exact absurd hf fe
    |cons t l=>rfl
   dsimp only;refine rG (false != sO (.lst<|(gU cs ts n).map i7) (.lst [])) (.MM λK k=>⟨zs,tU smf,tU VA,rfl,k⟩) (λq=>by rw[hd]at q;cases q) (λ_=>uM ?_);dsimp only;refine fA rfl ⟨by rw[gQ];exact sz<|by lia,?_⟩;refine iu trivial i7 (λt=>D.int (t.val ts).2) (λt ht K' k'=>?_) ?_
   .obtain⟨o1,o2,o3⟩:=iR S ht;refine⟨cs,ts,t,n,rfl,rfl,rfl,by lia,cp,by lia,tk,?_⟩;rw[Bi o1];exact k'
   refine zo ⟨(gU cs ts n).map λt=>(t.val ts).2,by rw[bc];rfl,λz=>fe<|List.map_eq_nil_iff.mp z,λm hm HZ=>?_⟩;obtain rfl:=QQ S la h1 hm HZ;clear hm HZ;dsimp only;refine fA rfl ⟨by rw[gQ];exact sz<|by lia,?_⟩;refine kB trivial i7 (λt=>if decide ((t.val ts).2=(A:Int))=true then some (i7 t)else none) (λt ht K' k'=>?_) ?_
   .obtain⟨o1,o2,o3⟩:=iR S ht;refine⟨cs,ts,t,n,rfl,rfl,rfl,by lia,cp,by lia,tk,?_⟩;rw[Bi o1];refine nK (c:=(t.val ts).2=(A:Int)) (λq=>?_) (λq=>?_)
    .rw[aA (aB q)]at k';exact k'
    .rw[aC (by simpa using q)]at k';exact k'
   rw[uA];refine zo ?_;dsimp only;have l2:=bX (λt:hJ=>decide ((t.val ts).2=(A:Int)))<|gU cs ts n;have UR:∀ t∈(gU cs ts n).filter λt:hJ=>decide ((t.val ts).2=(A:Int)),t∈gU cs ts n:=λt ht=>(List.mem_filter.mp ht).1;refine fA rfl ⟨by rw[gQ];exact sz<|by lia,?_⟩;refine iu trivial i7 (λt=>D.int ((kz t).length:Int)) (λt ht K' k'=>?_) ?_
   .have o:=iR S<|UR t ht;refine⟨t,rfl,by lia,rA S<|UR t ht,?_⟩;dsimp only [BL];exact CQ k'
   refine zo ⟨((gU cs ts n).filter λt:hJ=>decide ((t.val ts).2=(A:Int))).map λt=>((kz t).length:Int),by rw[bc];rfl,λz=>?_,λm hm HZ=>?_⟩
   .have:=List.map_eq_nil_iff.mp z;have h0:b0∈(gU cs ts n).filter λt:hJ=>decide ((t.val ts).2=(A:Int)):=List.mem_filter.mpr ⟨V5.1,aB V5.2⟩;rw[this]at h0;cases h0
   obtain rfl:=Qq S la h1 hm HZ;clear hm HZ;dsimp only;refine fA rfl ⟨by rw[gQ];exact sz<|by lia,?_⟩;refine kB trivial i7 (λt=>if decide (((kz t).length:Int)=2*fG (e9 n cs) ts (A+1) 0 (cs.length+1)+1)=true then some (i7 t)else none) (λt ht K' k'=>?_) ?_
   .have o:=iR S<|UR t ht;refine⟨t,rfl,by lia,rA S<|UR t ht,?_⟩;dsimp only [BL];refine CQ (t:=t) ?_;refine nK (c:=((kz t).length:Int)=2*fG (e9 n cs) ts (A+1) 0 (cs.length+1)+1) (λq=>?_) (λq=>?_)
    .rw[aA (aB q)]at k';exact k'
    .rw[aC (by simpa using q)]at k';exact k'
   rw[uA];refine zo ?_;have hL:=λt=>HG S la h1 (t:=t);have nd:(((gU cs ts n).filter λt:hJ=>decide ((t.val ts).2=(A:Int))).filter λt=>decide (((kz t).length:Int)=2*fG (e9 n cs) ts (A+1) 0 (cs.length+1)+1)).Nodup:=((QO<|S.ij.up.imp λh=>Int.ne_of_lt h).filter _).filter _ |>.filter _;generalize ((gU cs ts n).filter λt:hJ=>decide ((t.val ts).2=(A:Int))).filter (λt=>decide (((kz t).length:Int)=2*fG (e9 n cs) ts (A+1) 0 (cs.length+1)+1))=L at hL nd ⊢
   refine⟨L.map i7,λd=>kz<|Uz d,AV (e9 n cs) ts A<|cs.length+1,rfl,?_,λd hd K k=>?_,λa ha b hb=>?_,λi j hi hj e=>JG S la h1 L hL nd hi hj e,λlW p w=>?_⟩
   .have:=KJ S la h1 L hL h2 nd;rw[gQ];lia
   .obtain⟨t,ht,rfl⟩:=List.mem_map.mp hd;dsimp only at k;rw[tO]at k;have b1:=(qJ S la h1<|(hL t).mp ht).1;exact⟨t,rfl,by have:=(iR S b1).2.1;lia,rA S b1,k⟩
   .obtain⟨t,ht,rfl⟩:=List.mem_map.mp ha;obtain⟨u,hu,rfl⟩:=List.mem_map.mp hb;dsimp only;rw[tO,tO];exact Ms S la h1 L hL ht hu
   .rw[Oj S la h1 L hL nd p w];exact .keep kk
def O2 (F:j7 K "law" "law" lY f fd)(T:mX mg)(Uv:NX P w K mg fg)(jk:uR P w K mg fg)(QY:Jy P w K mg fg)(Q0:JA P w K mg fg)(FC:wz P w K mg fg)(QZ:Jz P w K mg fg)(yB:qF P w K mg fg)(FD:wA P w K mg fg)(yy:Jw P w K mg fg):gA P w K mg fg j4 220 f fd (pA lY) (M9 K):=by
 refine F.ok kX (λvs H Q E h=>?_) (λjL A fC s H vs Q E hr h=>?_)
 .obtain⟨a,ns,rfl,_⟩:=h;rfl
 .obtain⟨a,ns,rfl,hs,hl,k⟩:=h;refine⟨_,h9 (q9 (i:=1) kX.nd rfl (by first | exact Or.inl rfl | exact Or.inr rfl)<|ue Uv (hr.mono<|by first | decide | exact aq _ | lia) rfl (fJ (j9 0) gZ)) (fv (qS 2 kX.nd<|pV fP<|qC jk hr<|a2 (dv 1) fP)
   (fv (qS 3 kX.nd<|qC QY hr<|a2 (dv 1)<|dv 2)
   (fv (Q3 4 true kX.nd (p9 (N:=["_law_k","_law_box_here","_law_size"]) (js:=[none,some 1,some 2]) kX<|by decide +kernel) (jS rfl T.range<|a1<|qC jk hr<|a2 (dv 1) fP) (λ_ _ _ nd=>(qT 0 nd)) (λ_ _ _=>hX) λ_ _ _=>(qC Q0 hr<|a2 (dv 1)<|dv 2))
   (JL (kZ (PW.pt<|MT (VJ (DZ T<|dv 4) fP)<|Gr<|VJ (qC jk hr<|a2 (dv 1) fP) fP)
   (fQ<|qS 4 kX.nd<|qC FC hr<|gB (dv 1)<|gB (dv 2)<|gB (dv 3)<|gB (dv 4) jU)
   jb)
   (fv (Q3 5 false kX.nd (p9 (N:=["_law_text","_law_box_here"]) (js:=[none,some 1]) kX<|by decide +kernel) (ib<|dv 4) (λ_ _ _ nd=>(qT 0 nd)) (λ_ _ _=>hX) λ_ _ _=>(nO<|a2 (dv 0)<|qC jk hr<|a2 (dv 1) fP))
   (fv (qS 6 kX.nd<|qC QZ hr<|a3 (dv 3) (dv 5)<|dv 2)
   (fv (kZ (MQ<|ma<|qC yy hr<|a2 (qC yB hr<|a3 (dv 2) (Fm ui (oM (m:=false)) (by rfl) T.list bu<|a1<|dv 3)<|Fm ui (oM (m:=false)) (by rfl) T.list bu<|a1<|dv 5)<|DZ T<|dv 6)
   (fQ<|gq Md)
   jb)
   (fv (mI bH rfl (tE rfl T.enumerate<|a1<|dv 6) (vE 2<|lU (qT 7 kX.nd)<|lU (qT 8 kX.nd) vF)
   (fQ (kZ (MQ<|ma<|qC yy hr<|a2 (Jl FD hr.le rfl (gB (dv 2)<|gB (Fm ui (oM (m:=false)) (by rfl) T.list bu<|a1<|dv 3)<|gB (Fm ui (oM (m:=false)) (by rfl) T.list bu<|a1<|dv 5)<|gB (dv 7) jU))<|dv 8)
   (fQ<|gq Md)
   jb)))
   (fQ<|gq Md))))))))),?_⟩
  refine⟨ns,hs,λb q H0 B0 SQ Nv S0=>?_⟩;refine Po (m:=7) B0 ?_ k;refine⟨rfl,by decide,by decide,λv v0 v1=>?_⟩;refine⟨rfl,by lia,by lia,λcs zI hc=>?_⟩;refine⟨rfl,by decide,by decide,λw w0 w1=>?_⟩;refine⟨by lia,by lia,sz (by rw[i9];lia),?_⟩;refine rJ B8 (λl=>(l.length:Int)=1+v/\OX l) trivial (λd hd K' k'=>⟨rfl,by lia,by lia,λl hl ho=>k' l ⟨by lia,ho⟩⟩) λls hls hg=>?_;rw[i9]at hls;have hc2:=Jq hc (by lia);refine⟨λj5 fI=>∃ oV:ak (ak Nat),oV.length<=3/\Good (1+v) oV/\j5=[none,some (.mr 0),some (.int<|1+v),some (.lst<|cs.map D.int),some (.mr 1),none,none,none,none]/\fI=[.box,.lst (oV.map B8)],?_,?_⟩
  .refine mC (c:=(0:Int)<((ls.map B8).length:Int)) (λq1=>?_) (λ_=>⟨ls,by lia,hg,rfl,rfl⟩);refine⟨rfl,by decide,by decide,λx x0 x1=>?_⟩;refine mC (c:=0<x) (λ_=>?_) (λ_=>⟨ls,by lia,hg,rfl,rfl⟩);refine⟨rfl,by decide,by lia,by lia,cs,ls,rfl,by lia,hc,rfl,λe=>by rw[e]at q1;simp at q1,by lia,hg,λoV oX Nx=>⟨oV,by lia,Nx,rfl,rfl⟩⟩
  rintro j5 fI ⟨oV,hl5,Nx,rfl,rfl⟩;refine⟨sz (by rw[gQ];lia),?_⟩;refine wq (λds ys fI=>∃(k:Nat) (us:ak Tk),ds=(oV.drop k).map B8/\ys=us.map rV/\us.map (·.1)=oV.take k/\(∀ t∈us,0<=t.2/\t.2<=8)/\fI=[.box,.lst (oV.map B8)]) (ys:=[]) ⟨0,[],rfl,rfl,rfl,(λt ht=>nomatch ht),rfl⟩ ?_ ?_ ?_
  .rintro d lW ys fI ⟨k,us,e,rfl,Rc,UY,rfl⟩;refine⟨rfl,λK' hK'=>?_⟩;have hk:k<oV.length:=by
    by_cases q:k<oV.length
    .exact q
    .rw[bM (by lia)]at e;cases e
   rw[bg hk]at e;cases e;refine⟨rfl,by decide,by decide,λa' a0 a1=>⟨zs,?_⟩⟩;refine hK' (some<|rV (oV[k],a')) _ ⟨k+1,us++[(oV[k],a')],rfl,by rw[bI];rfl,?_,λt ht=>?_,rfl⟩
   .rw[bI,Rc,List.take_succ,iT hk];rfl
   .rcases List.mem_append.mp ht with q | q
    .exact UY t q
    .rw[List.mem_singleton.mp q];exact⟨a0,by show a'<=8;lia⟩
  .rintro ys fI ⟨k,us,e,rfl,Rc,UY,rfl⟩;rfl
  rintro zs fI ⟨k,us,e,ez,Rc,UY,rfl⟩;have hk:oV.length<=k:=by have:=cq List.length e;rw[gQ,bz]at this;simp at this;lia
  rw[bL hk]at Rc;rw[List.nil_append]at ez;subst ez;have ul:us.length=oV.length:=by rw[<- Rc,gQ]
  have S:gP (1+v) cs us:=⟨by lia,by lia,by lia,hc,by lia,λt ht=>by
   have g1:=Nx t.1 (by rw[<- Rc];exact dE ht)
   have g2:=UY t ht
   exact⟨g1.1,g1.2,g2.1,by lia⟩⟩
  have tF:=fO (1+v) cs;have el:(e9 (1+v) cs).length - 1=cs.length+1:=by lia
  refine zo ⟨cs,us,rfl,rfl,S,by lia,by lia,?_⟩;cases hb:jC (e9 (1+v) cs) us with
  | some p =>
   dsimp only;refine rG (!true) (.not<|.MM λK k=>⟨cs,us,rfl,rfl,S,by lia,?_⟩) (λq=>by cases q) (λ_=>uM ?_)
   .unfold cntK;rw[hb];exact⟨.int 0,rfl,rfl,tV,k⟩
   .exact fA rfl ⟨trivial,rfl⟩
  | none =>
   intro a ha la;have ct0:=(jV (es:=e9 (1+v) cs) (ts:=us) (by lia) (by lia) (a+1) 0 (cs.length+1) (by lia)<|by lia).1;have sl:((sI (e9 (1+v) cs) us a).map i7).length=(gM (e9 (1+v) cs) us (a+1) 0<|cs.length+1).toNat:=by unfold sI;rw[gQ,gQ,ur,el]
   dsimp only;refine rG (!true) (.not<|.MM λK k=>⟨cs,us,rfl,rfl,S,by lia,?_⟩) (λq=>by cases q) (λ_=>uM ?_)
   .unfold cntK;rw[hb];intro a' _ VX;obtain rfl:=la.uniq VX;refine⟨.int<|gM (e9 (1+v) cs) us (a+1) 0<|cs.length+1,by rw[el];rfl,?_,tV,k⟩;rw[sl,bW ct0];rfl
   .refine fA rfl ?_;generalize hps:(sI (e9 (1+v) cs) us a).map i7=ps at sl ⊢
    refine iK (λds ρ fI=>∃(k:Nat) (x y:ao D),ds=(k9 ps).drop k/\ρ=[none,some (.mr 0),some (.int<|1+v),some (.lst<|cs.map D.int),some (.mr 1),some (.lst<|us.map rV),some (.lst ps),x,y]/\fI=[.box,.lst (oV.map B8)]) ⟨0,none,none,rfl,rfl,rfl⟩ ?_ ?_
    .rintro d lW ρ fI ⟨k,x,y,e,rfl,rfl⟩;refine⟨trivial,λnx sk=>?_⟩;have hk:k<ps.length:=by
      by_cases q:k<ps.length
      .exact q
      .rw[bM (by rw[jK];lia)]at e;cases e
     have zG:k<(k9 ps).length:=by rw[jK];exact hk
     rw[bg zG]at e;obtain⟨p,hp,ed⟩:=rC<|iT zG;rw[ed]at e;cases e;have r1:(k:Int)<gM (e9 (1+v) cs) us (a+1) 0 (cs.length+1):=by lia
     obtain rfl:p=i7 (rL (e9 (1+v) cs) us (a+1) 0 (cs.length+1) k):=by rw[<- hps]at hp;unfold sI at hp;rw[nX,nX,bG (by rw[el];lia),el]at hp;cases hp;rfl
     refine⟨rfl,?_⟩;dsimp only [BK,BJ,Jg];refine rG (!true) (.not<|.MM λK k'=>⟨⟨_,rfl⟩,cs,us,rfl,rfl,S,by lia,?_⟩) (λq=>by cases q) (λ_=>uM<|sk _ _ ⟨k+1,_,_,rfl,rfl,rfl⟩);unfold JH;rw[hb];intro a' _ VX;obtain rfl:=la.uniq VX;rw[el,aA ⟨by lia,r1⟩];obtain⟨_,_,_,t4⟩:=JE S (by lia) la (r:=(k:Int)) (by lia) r1;exact⟨_,Ik _ _,Ik _ _,Ck _<|by lia,k'⟩
    .rintro ρ fI ⟨k,x,y,e,rfl,rfl⟩;exact⟨trivial,rfl⟩
end
def kp (b:Nat)(x q:Str)(s:Stmt)(pm:aj)(t l a t2:Nat):ak (ai×Obj):=kf (b+6) (b+5) x q s pm t l a b (b+1) (.ref<|b+2) (.ref<|b+3) (b+4) t2
def HH (b:Nat)(x:Str):=kp b x x
def kn (b:Nat)(x q:Str)(s:Stmt)(pm:aj)(t l a t2:Nat):ak (ai×Obj):=kf (b+4) (b+3) x q s pm t l a b (b+1) .none .none (b+2) t2
def Ax (b:Nat)(x:Str):=kn b x x
def kM0:aj:=(.str "hissroom.errors" 225)
def um:aj:=(.str "law_hissroom_k19_whole_all_makes_gone_throug" 458)
def Nu:aj:=(.str "hissroom.ends" 194)
def J3:aj:=(.str "hissroom.reach" 261)
def J2:aj:=(.str "hissroom.tables" 300)
def yD:aj:=(.str "hissroom.few" 333)
def kk (P:Params):aa:=List.flatten [[ko 3 (Sm P "law_hissroom_k19_whole_all_makes_gone_throug" 458 [me "_wall" 193 (.ref 21),me "ends" 203 (.ref 28),me "pieces" 212 (.ref 35),me "farthest" 218 (.ref 40),me "bar_of" 224 (.ref 45),me "HissError" 244 (.ref 55),me "BadNumber" 260 (.ref 68),me "least_age" 275 (.ref 77),me "youngest" 281 (.ref 82),me "take_rows" 287 (.ref 87),me "clean_row" 293 (.ref 92),me "next_reach" 299 (.ref 97),me "few_tables" 307 (.ref 102),me "no_make" 314 (.ref 109),me "bare_table" 320 (.ref 114),me "next_table" 326 (.ref 119),me "fewest_joined" 332 (.ref 124),me "count_best" 344 (.ref 131),me "best_of" 355 (.ref 138),me "BestMakes" 457 (.ref 200),me "_law_box" 466 (.ref 211),me "_law_take" 478 (.ref 218),me "_law_bars" 484 (.ref 223),me "_law_cuts" 490 (.ref 228),me "_law_patched" 505 (.ref 235),me "_law_shelf" 511 (.ref 240),me "_law_made" 522 (.ref 247),me "_law_same" 528 (.ref 252),me "_law_every" 534 (.ref 257),me "_law_key" 541 (.ref 264),me "_law_best" 547 (.ref 269),me "law" 553 (.ref 274)])],[ko 200 ⟨.type "type",none,(.cls ⟨"BestMakes",[.type "object"],[.ref 200,.type "object"],199, "BestMakes",true,[],[],false,none,false⟩),#[none,none,(some<|.str "BestMakes" 356),(some<|.str "BestMakes" 364),(some<|.builtin "object.__new__"),(some<|.bool true)]⟩,ko 199 ⟨.type "dict",none,(.dict #[tG P "__module__" 363 (.str "hissroom.few" 333),tG P "__firstlineno__" 367 (.int 93 366),tG P "__init__" 378 (.ref 152),tG P "is_take" 389 (.ref 159),tG P "clean_takes" 395 (.ref 164),tG P "halves" 401 (.ref 169),tG P "counted" 409 (.ref 176),tG P "count_anew" 421 (.ref 183),tG P "numbered" 435 (.ref 190),tG P "rank" 444 (.ref 197),tG P "__static_attributes__" 450 (.ref 198),tG P "__dict__" 452 (.ref 201),tG P "__weakref__" 454 (.ref 202),tG P "__doc__" 455 (.none)] 4),#[]⟩],kx P 68 67 55 "BadNumber" (some<|.ref 59) 245 253 kM0 252 22 66,[ko 55 ⟨.type "type",none,(.cls ⟨"HissError",[.type "ValueError"],[.ref 55,.type "ValueError",.type "Exception",.type "BaseException",.type "object"],54, "HissError",true,[],[.ref 68],false,none,false⟩),#[(some<|.ref 46),none,(some<|.str "HissError" 227),(some<|.str "HissError" 235),(some<|.builtin "ValueError.__new__"),(some<|.bool true)]⟩,ko 54 ⟨.type "dict",none,(.dict #[tG P "__module__" 234 (.str "hissroom.errors" 225),tG P "__firstlineno__" 238 (.int 20 237),tG P "__static_attributes__" 239 (.ref 53),tG P "__weakref__" 241 (.ref 56),tG P "__doc__" 242 (.none)] 3),#[]⟩],HH 205 "_law_box" tZ um 460 144 1 464,HH 212 "_law_take" pI um 467 146 2 476,Ax 219 "_law_bars" pQ um 479 162 2 482,Ax 224 "_law_cuts" pO um 485 175 2 488,HH 229 "_law_patched" ke um 491 182 4 503,Ax 248 "_law_same" s_same um 523 213 2 526,HH 22 "ends" pL Nu 196 5 2 201,HH 29 "pieces" lL Nu 204 7 2 210,Ax 41 "bar_of" lM Nu 219 14 3 222,Ax 36 "farthest" jG Nu 213 10 4 216,Ax 83 "take_rows" iU J3 282 38 3 285,Ax 88 "clean_row" jh J3 288 41 3 291,Ax 93 "next_reach" iW J3 294 47 4 297,Ax 78 "youngest" jF J3 276 36 1 279,HH 71 "least_age" jg J3 263 25 3 273,HH 103 "no_make" kh J2 308 66 1 312,Ax 110 "bare_table" iH J2 315 68 1 318,Ax 120 "fewest_joined" ia J2 327 78 3 330,Ax 115 "next_table" iG J2 321 71 3 324,Ax 98 "few_tables" iX J2 302 52 4 305,kp 153 "is_take" "BestMakes.is_take" gE yD 379 103 2 387,kn 160 "clean_takes" "BestMakes.clean_takes" fY yD 390 107 2 393,kn 165 "halves" "BestMakes.halves" gH yD 396 112 2 399,kp 177 "count_anew" "BestMakes.count_anew" f9 yD 410 123 2 419,kp 170 "counted" "BestMakes.counted" gF yD 402 118 2 407,kp 146 "__init__" "BestMakes.__init__" gv yD 368 95 4 376,HH 125 "count_best" iY yD 335 81 3 342,kp 184 "numbered" "BestMakes.numbered" gu yD 422 131 3 433,HH 132 "best_of" ki yD 345 86 4 353,HH 241 "_law_made" pJ um 512 203 3 520,HH 258 "_law_key" tY um 535 234 1 539,Ax 253 "_law_every" m8 um 529 223 2 532,Ax 265 "_law_best" pP um 542 238 3 545,Ax 270 "law" lY um 548 248 1 551]
def hk:W.Hook:=W.kHook kk [3,200,199,68,67,55,54,211,210,218,217,223,222,228,227,235,234,252,251,28,27,35,34,45,44,40,39,87,86,92,91,97,96,82,81,77,76,109,108,114,113,124,123,119,118,102,101,159,158,164,163,169,168,183,182,176,175,152,151,131,130,190,189,138,137,247,246,264,263,257,256,269,268,274,273] (λ_=>by kernel_rfl)
def lw:W.OpenLaw:=PySem.Challenge.rw_hissroom_k19_whole_all_makes_gone_throug
def qq:ae:={ lw.prog with main:={ lw.prog.main with body:=[lY]}}
def ll:ak Str:=[sS "_wall",sS "ends",sS "pieces",sS "farthest",sS "bar_of",sS "HissError",sS "BadNumber",sS "least_age",sS "youngest",sS "take_rows",sS "clean_row",sS "next_reach",sS "few_tables",sS "no_make",sS "bare_table",sS "next_table",sS "fewest_joined",sS "count_best",sS "best_of",sS "BestMakes",sS "_law_box",sS "_law_take",sS "_law_bars",sS "_law_cuts",sS "_law_patched",sS "_law_shelf",sS "_law_made",sS "_law_same",sS "_law_every",sS "_law_key",sS "_law_best"]
def xt (s:ah):Bool:=W.xlAt qq [] s&&W.recOk (W.RowW.records lw.row.toRowW) s
def left:W.LeftO lw.prog qq ll xt hk.obs hk.val 1750:=LA (M:=1750) (by kernel_rfl) rfl (λs=>by kernel_rfl) rfl (λw os=>by kernel_rfl)
def VD:lw.wellSaid=true:=(congrFun W.Fast.te9446332074065402090 lw).trans (by kernel_rfl)
def dd:DefRec:=⟨"law",jt lY,iM lY,fo lY,Qw lY⟩
def holds (F:W.WalkO qq ll (W.XL qq []) hk.says lw.row.toRowW dd [] (λf vs=>PySem.call f vs)):lw.Holds:=W.holds_law VD λk1=>W.holds_open (q:=qq) (loose:=ll) (Xt:=xt) (XP:=W.XL qq []) (d:=dd) (kwd:=[]) left hk.of hk.keeps (λs e=>W.xl_of s (Bool.and_eq_true_iff.mp e).1) W.XL.keeps (by kernel_rfl) (by kernel_rfl) rfl (λs e=>W.recFacts_of (Bool.and_eq_true_iff.mp e).2) rfl k1 (by kernel_rfl) ⟨rfl,rfl,rfl,rfl,rfl,by kernel_rfl⟩ ⟨[.list []],by kernel_rfl,by kernel_rfl⟩ F
abbrev lx (f:ae->af->aa->(Str->ao aj)->Heap->Prop)(w:af)(mg:Str->ao aj)(fg:Heap):Prop:=f lw.prog w (kk w.params) mg fg
def fq (w:af)(x q:Str)(s:Stmt)(f:ai)(pm:aj)(c:ai)(l:(kk w.params).lookup f=some (U1 x q s pm c):=by kernel_rfl)(c':W.codeIn (kk w.params) (.ref c) q=true:=by kernel_rfl)(k:W.keepIn (kk w.params) (.ref f)=true:=by kernel_rfl):=Ij l c' k
def rq (w:af)(x:Str)(s:Stmt)(f:ai)(pm:aj)(c:ai)(l:(kk w.params).lookup f=some (U1 x x s pm c):=by kernel_rfl)(c':W.codeIn (kk w.params) (.ref c) x=true:=by kernel_rfl)(k:W.keepIn (kk w.params) (.ref f)=true:=by kernel_rfl):=Ij l c' k
set_option maxHeartbeats 40000000 in
def fin:W.WalkO qq ll (W.XL qq []) hk.says lw.row.toRowW dd [] (λf vs=>PySem.call f vs):=by
 refine L2.Km (l:=lw) (d:=dd) (n:=63) (k:=220) (x:= "_law_script") (K:=kk) (CX:=λ_=>j4) (sp:=λw=>M9<|kk w.params) rfl (by decide) rfl ⟨rfl,by decide,by decide⟩ (λw h Y=>W.kIn_of Y) (λw mg fa h X G hfa=>?_) (λ_ _ a ns hl _ hS=>⟨a,ns,rfl,hS,hl,λ_=>rfl⟩) λ_ _ _ _ _ z=>z;have e:=hfa.symm.trans (W.mg_of X G<|show W.nsIn (kk w.params) mainGlobals "law"=sr 274 by kernel_rfl);cases e;have T:mX mg:=⟨bN X G<|by kernel_rfl,bN X G<|by kernel_rfl,bN X G<|by kernel_rfl,bN X G<|by kernel_rfl,bN X G<|by kernel_rfl,bN X G<|by kernel_rfl,bN X G<|by kernel_rfl,bN X G<|by kernel_rfl,bN X G<|by kernel_rfl,bN X G<|by kernel_rfl,bN X G<|by kernel_rfl,bN X G<|by kernel_rfl,bN X G<|by kernel_rfl,bN X G<|by kernel_rfl,bN X G<|by kernel_rfl,bN X G<|by kernel_rfl,bN X G<|by kernel_rfl⟩;have fc:ig (kk w.params) fh:=⟨⟨by kernel_rfl,by kernel_rfl,by kernel_rfl,by kernel_rfl⟩,by kernel_rfl,by kernel_rfl,by kernel_rfl,by kernel_rfl,by kernel_rfl⟩;have F0:=rq w "_law_box" tZ 211 um 210;have F1:=rq w "_law_take" pI 218 um 217;have F2:=rq w "_law_bars" pQ 223 um 222;have F3:=rq w "_law_cuts" pO 228 um 227;have F4:=rq w "_law_patched" ke 235 um 234;have F5:=rq w "_law_same" s_same 252 um 251;have F6:=rq w "ends" pL 28 Nu 27;have F7:=rq w "pieces" lL 35 Nu 34;have F8:=rq w "bar_of" lM 45 Nu 44;have F9:=rq w "farthest" jG 40 Nu 39;have XY:=rq w "take_rows" iU 87 J3 86;have XX:=rq w "clean_row" jh 92 J3 91;have XW:=rq w "next_reach" iW 97 J3 96;have XU:=rq w "youngest" jF 82 J3 81;have XT:=rq w "least_age" jg 77 J3 76;have XS:=rq w "no_make" kh 109 J2 108;have XR:=rq w "bare_table" iH 114 J2 113;have XQ:=rq w "fewest_joined" ia 124 J2 123;have XO:=rq w "next_table" iG 119 J2 118;have XM:=rq w "few_tables" iX 102 J2 101;have XJ:=fq w "is_take" "BestMakes.is_take" gE 159 yD 158;have XI:=fq w "clean_takes" "BestMakes.clean_takes" fY 164 yD 163;have XH:=fq w "halves" "BestMakes.halves" gH 169 yD 168;have YU:=fq w "count_anew" "BestMakes.count_anew" f9 183 yD 182;have Va:=fq w "counted" "BestMakes.counted" gF 176 yD 175;have XG:=fq w "__init__" "BestMakes.__init__" gv 152 yD 151;have XF:=rq w "count_best" iY 131 yD 130;have U9:=fq w "numbered" "BestMakes.numbered" gu 190 yD 189;have XE:=rq w "best_of" ki 138 yD 137;have Us:=rq w "_law_made" pJ 247 um 246;have Ur:=rq w "_law_key" tY 264 um 263;have XD:=rq w "_law_every" m8 257 um 256;have XC:=rq w "_law_best" pP 269 um 268;have F33:=rq w "law" lY 274 um 273;refine⟨W.fnOf "law" "law" (jt lY) (iM lY) (fo lY) .none .none .none um none (.ref 273) .none,λs v=>.of_eq rfl,λfg X0 G0=>?_⟩;have mj:=OU (x:= "BadNumber") (C:=kE) (h:=fg) X0 G0 (by kernel_rfl) (by kernel_rfl);have C0:lx NX w mg fg:=ic X G F0 (O3 F0 T )<|Rt F0;have C1:lx uR w mg fg:=ic X G F1 (Ll F1 T )<|FK F1;have C2:lx JA w mg fg:=ic X G F2 (Lp F2 T  C1)<|FK F2;have C3:lx Jy w mg fg:=ic X G F3 (Ln F3 T  C1)<|FK F3;have C4:lx wz w mg fg:=ic X G F4 (A7 F4 T  C1)<|Rr F4;have C5:lx Jw w mg fg:=ic X G F5 ((CF F5 T  (W.mg_of X G<|by kernel_rfl) F5.kp (FK F5)  20).imp λvs H Q E h=>Ey h) (FK F5)
 have C6:lx p4 w mg fg:=ic X G F6 (Lm F6 T )<|FK F6;have C7:lx Ai w mg fg:=ic X G F7 (EI F7 T  C6)<|FK F7;have C8:lx qH w mg fg:=ic X G F8 (EJ F8 T  C7)<|JJ F8;have C9:lx uS w mg fg:=ic X G F9 (zf F9 T  C6)<|Rr F9;have X1:lx mh w mg fg:=ic X G XY (xD XY T  C6 C9)<|JJ XY;have Y2:lx oE w mg fg:=ic X G XX (xF XX T )<|JJ XX;have C12:lx qD w mg fg:=ic X G XW (ve XW T  Y2)<|Rr XW;have Y1:lx p3 w mg fg:=ic X G XU (zc XU T )<|Rt XU;have C14:lx sD w mg fg:=ic X G XT (xE XT T  C8 C6 X1 Y1 C12)<|JJ XT;have Y0:lx rK w mg fg:=ic X G XS (A8 XS T )<|Rt XS;have C16:lx qG w mg fg:=ic X G XR (vh XR T  Y0)<|Rt XR;have C17:lx nQ w mg fg:=ic X G XQ (rl XQ T )<|JJ XQ;have C18:lx qB w mg fg:=ic X G XO (vd XO T  Y0 C17)<|JJ XO;have C19:lx qE w mg fg:=ic X G XM (vf XM T  C6 X1 C16 Y1 C18 Y2)<|Rr XM;have YZ:lx ip w mg fg:=qA XJ (ot XJ T fc)<|FK XJ;have YY:lx gO w mg fg:=qA XI (my XI T fc)<|FK XI;have YX:lx iz w mg fg:=qA XH (o8 XH T fc)<|FK XH;have XZ:lx iq w mg fg:=qA Va (vQ Va YU T fc ⟨by kernel_rfl,by kernel_rfl,by kernel_rfl⟩ ⟨by kernel_rfl,by kernel_rfl,by kernel_rfl⟩ (Va.binds λ_ _ _ _ _ _=>Kg λ_=>QL λ_=>rfl) (YU.binds λ_ _ _ _ _ _=>Kg λ_=>QL λ_=>rfl) YZ YY YX 71)<|FK Va;have YW:lx jj w mg fg:=Mp X G XG (nW XG T fc C6 X1 C14 C19)<|Rr XG;have C26:lx qF w mg fg:=ic X G XF (vg XF T fc C8 YW XZ)<|JJ XF;have C27:lx kU w mg fg:=qA U9 (CG U9 T fc ⟨by kernel_rfl,by kernel_rfl,by kernel_rfl⟩ (U9.binds λ_ _ _ _ _ _=>Kg λ_=>Kg λ_=>QL λ_=>rfl) YZ YY YX XZ 71<|by decide)<|JJ U9;have C28:lx wA w mg fg:=Mo X G XE (A9 XE T fc mj C8 YW XZ C27)<|Rr XE;have C29:lx Jx w mg fg:=ic X G Us (CH Us T  (W.mg_of X G<|by kernel_rfl) Us.kp (JJ Us)  63)<|JJ Us;have C30:lx NW w mg fg:=ic X G Ur (Ho Ur T  (W.mg_of X G<|by kernel_rfl) Ur.kp (Rt Ur)  3)<|Rt Ur;have C31:lx D4 w mg fg:=ic X G XD (Hq XD T )<|FK XD;have C32:lx Jz w mg fg:=ic X G XC (Lo XC T  C31 C29 C30)<|JJ XC;exact O2 F33 T  C0 C1 C3 C2 C4 C32 C26 C28 C5
end Pf
theorem PySem.Challenge.cw_hissroom_k19_whole_all_makes_gone_throug_holds : PySem.Challenge.rw_hissroom_k19_whole_all_makes_gone_throug.Holds :=
 Pf.holds Pf.fin