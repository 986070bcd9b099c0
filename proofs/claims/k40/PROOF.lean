import PyProof.Rows.All
import Wide.All
import OpenK.AllK
import Wide.FinOn
import Lean
import PyProof.EqAt
import PyProof.EqKinds
import PyProof.TupleCall
import PyProof.NeKinds
import PyProof.ListRange
import PyProof.MaxThree
import PyProof.DictWalks
import PyProof.Rows.SortWalk
import PyProof.Rows.TopTwo
import PyProof.RangeIter
import PyProof.ExcArgsOwn
import PyProof.ExcBaseAll.ValueError
import PyProof.ExcAttrAll.ValueError
import KE.KIsAll
import OpenK.KOwn
import PyProof.StrBlock
import PyProof.DictItems
import PyProof.DictItemsLoops
import PyProof.DictValues
import KE.KRevSl
import PySem.Challenge.RW_hissroom_k40_twins
set_option autoImplicit true
set_option maxHeartbeats 40000000
set_option hygiene false
local macro_rules|`(Zs)=>`(by lia)
local macro_rules|`(Zt)=>`(model X.prog X.w)
local macro_rules|`(Zu)=>`(by decide)
local macro_rules|`(Zv)=>`(ae n cs)
local macro_rules|`(Zw)=>`(model prog w)
local macro_rules|`(Zx)=>`((·.1))
local macro_rules|`(Zy)=>`(s.heap.objs.size+1)
local macro_rules|`(Zz)=>`(x==("__debug__" : Str))
local macro_rules|`(ZA)=>`(by cases n<;>exact id)
local macro_rules|`(ZC)=>`(λ_ _ _ nd=>(qT 0 nd))
local macro_rules|`(ZD)=>`(λ_ _ _ nd=>(nK 2<|hV (qT 0 nd)<|hV (qT 1 nd) nM))
local macro_rules|`(ZE)=>`(au×Obj)
local macro_rules|`(ZF)=>`(.ListComp elt [⟨tg,iter,ifs,0⟩] sc pos)
local macro_rules|`(ZH)=>`(.Call (.Name x p) (e::es) [] pos)
local macro_rules|`(ZI)=>`((·.2))
local macro_rules|`(ZJ)=>`(dv 1)
local macro_rules|`(ZL)=>`(kk w.params)
local macro_rules|`(ZM)=>`(dv 0)
local macro_rules|`(ZN)=>`(by simp)
local macro_rules|`(ZO)=>`(by rfl)
local macro_rules|`(ZP)=>`(.Call (.Attribute o m gH) (e::es) [] pos)
local macro_rules|`(ZQ)=>`(nP X N sc fp s H)
local macro_rules|`(ZR)=>`(λ_ _ _=>gF)
local macro_rules|`(ZS)=>`(∃ o,h'.get? e=some o/\o.cls=.type "StopIteration")
local macro_rules|`(ZT)=>`(Builtin.«zip.__next__» ⟨[.ref z],[]⟩)
local macro_rules|`(ZU)=>`(show false=true from hs)
local macro_rules|`(ZV)=>`(.ref s.heap.objs.size)
local macro_rules|`(ZW)=>`(show x=_ from hd)
local macro_rules|`(ZX)=>`(e::es)
local macro_rules|`(ZY)=>`(.ref C)
local macro_rules|`(aaa)=>`(aB _)
local macro_rules|`(aab)=>`(λa b=>D.tup [a,b])
local macro_rules|`(aac)=>`(gH.endLine==hJ.line)
local macro_rules|`(aad)=>`(EP X aa σ Q)
local macro_rules|`(aae)=>`((·.push (Value.ref s.heap.objs.size)))
local macro_rules|`(aaf)=>`(.ref f)
local macro_rules|`(aag)=>`(.DictComp kx vx [⟨tg,iter,ifs,0⟩] sc pos)
local macro_rules|`(aah)=>`(ha aa s σ H _ I h)
local macro_rules|`(aai)=>`(.Call (.Attribute o m gH) [] [] pos)
local macro_rules|`(aaj)=>`(fZ ZJ eS)
local macro_rules|`(aak)=>`(Str×Pt)
local macro_rules|`(aal)=>`(λr s'=>r=.ok (.ret<|.bool true)/\OldK j.heap s'.heap/\s'.os=j.os/\AllBare s'.gens)
local macro_rules|`(aam)=>`(.inl rfl)
local macro_rules|`(aan)=>`(.Tuple elts kk kQ)
local macro_rules|`(aao)=>`(importedModules p.main.body)
local macro_rules|`(aap)=>`(Key×D)
local macro_rules|`(aaq)=>`(he aa s σ H _ I h)
local macro_rules|`(aar)=>`(dv 3)
local macro_rules|`(aas)=>`(∀ b∈fp,H' b=none)
local macro_rules|`(aat)=>`(μ++[.gP (j.map Zx) (j.map ZI)])
local macro_rules|`(aau)=>`(λb o hb e=>(sb.2 b hb).trans e)
local macro_rules|`(aav)=>`(tu X N sc fp s H)
local macro_rules|`(aaw)=>`(og Jt (kh 0) gh λ_ _=>rfl)
local macro_rules|`(aax)=>`(gA hr)
local macro_rules|`(aay)=>`(λ_=>.bl true)
local macro_rules|`(aaz)=>`(if jx S nm=false then some 11 else if pE S nm=true then some 14 else none)
local macro_rules|`(aaA)=>`(α×β)
local macro_rules|`(aaB)=>`(H p=some (.lst d)\/H p=some (.tup d))
local macro_rules|`(aaC)=>`(show _=_ from he)
local macro_rules|`(aaD)=>`(λ_ _=>False)
local macro_rules|`(aaE)=>`(pre.map λp=>(p.1,(gb S.af p.1).2))
local macro_rules|`(aaF)=>`(eval o X.env)
local macro_rules|`(aaG)=>`(es.filter λx=>decide (x<=(qa l e.toNat:Int)))
local macro_rules|`(aaH)=>`(by rw[fI];lia)
local macro_rules|`(aaI)=>`(.nW λK k=>k)
local macro_rules|`(aaJ)=>`(λz=>nomatch z)
local macro_rules|`(aaK)=>`(λq=>by cases q)
local macro_rules|`(aaL)=>`(by rw[aD Zs]at kk;exact kk)
local macro_rules|`(aaM)=>`(∀ x c,X.env.cells.lookup x=some c->c≠b)
local macro_rules|`(aaN)=>`(.ins C dx fs)
local macro_rules|`(aaO)=>`(show u=Value.ref a from d)
local macro_rules|`(aaP)=>`(dv 2)
local macro_rules|`(aaQ)=>`(I.ok.hd hc)
local macro_rules|`(aaR)=>`(pre.map λp=>(p.1,gb S.af p.1))
local macro_rules|`(aaS)=>`(if((b.length:Nat):Int)=S.n/\LC b=true then nH a else some 0)
local macro_rules|`(aaT)=>`(λi j=>decide (ns.getD i 0<ns.getD j 0))
local macro_rules|`(aaU)=>`(show some (rW X.env x .free)=_ by rw[q])
local macro_rules|`(aaV)=>`(show y=_ from E)
local macro_rules|`(aaW)=>`(gC js σ)
local macro_rules|`(aaX)=>`(.fst b a)
local macro_rules|`(aaY)=>`(ae n d)
local macro_rules|`(aaZ)=>`(a==sysModules)
local macro_rules|`(aba)=>`(iP (v:=.ty "bool") rfl T.bool dq rfl)
local macro_rules|`(abb)=>`(ha pos aa s σ H _ I h)
local macro_rules|`(abc)=>`(∃ m,d[0]?=some m)
local macro_rules|`(abd)=>`(x==("__classdict__" : Str))
local macro_rules|`(abe)=>`(i+1)
local macro_rules|`(abf)=>`(fnOf x q (iR s) (g9 s) (fh s) .none kV j u an tx ct)
local macro_rules|`(abg)=>`(Key×V)
local macro_rules|`(abh)=>`(.Name x pos)
local macro_rules|`(abi)=>`(ns.map V.int)
local macro_rules|`(abj)=>`(b∈X.ex\/X.s₀.heap.objs.size<=b)
local macro_rules|`(abk)=>`(tu X N sc d s H)
set_option Elab.async false
set_option linter.all false
set_option maxRecDepth 100000
set_option compiler.extract_closed false
set_option bootstrap.genMatcherCode false
set_option genSizeOf false
set_option maxHeartbeats 4000000
theorem iO {α:Type _}{l:List α}{i:Nat}(h:i<l.length):l[i]?=some l[i]:=List.getElem?_eq_getElem h
theorem jA {α:Type _}{l:List α}{i:Nat}{a:α}(h:l[i]?=some a):∃ h:i<l.length,l[i]=a:=List.getElem?_eq_some_iff.mp h
theorem fI {α β:Type _}{as:List α}(f:α->β):(as.map f).length=as.length:=List.length_map f
theorem lH {α:Type _}{l:List α}{i:Nat}{a:α}(e:l[i]?=some a):a∈l:=List.mem_of_getElem? e
theorem i8 {α:Type _}{as bs:List α}:(as++bs).length=as.length+bs.length:=List.length_append
theorem pF {α:Type _}{l₁ l₂:List α}{i:Nat}(h:i<l₁.length):(l₁++l₂)[i]?=l₁[i]?:=List.getElem?_append_left h
theorem lQ {α:Type _}{l₁ l₂:List α}{i:Nat}(h:l₁.length<=i):(l₁++l₂)[i]?=l₂[i - l₁.length]?:=List.getElem?_append_right h
theorem jJ {α:Type _}{a:α}(b:α){l:List α}(h:a∈l):a∈b::l:=List.mem_cons_of_mem b h
theorem xr {n:Nat}:(List.range n).length=n:=List.length_range
theorem BA (n:Nat):(n:Int).toNat=n:=Int.toNat_natCast n
theorem iU {h:PySem.Heap}{a:PySem.Addr}{u:PySem.Obj}(v:PySem.Obj)(e:h.get? a=some u):(h.push v).get? a=some u:=PySem.Heap.get?_push_of_some v e
theorem fj {α β:Type}{M:PySem.Model}{A:PySem.Around}{E:PySem.Value->PySem.Shared->Prop}{s:PySem.Shared}{m:PySem.Sem α}{f:α->PySem.Sem β}{Q:β->PySem.Shared->Prop}(h:PySem.wpAny M A m (λa s=>PySem.wpAny M A (f a) Q E s) E s):PySem.wpAny M A (m>>=f) Q E s:=PySem.wpAny_bind h
theorem ic {h:PySem.Heap}{a:PySem.Addr}{o:PySem.Obj}(e:h.get? a=some o):a<h.objs.size:=PySem.Heap.lt_size e
theorem mD {α β:Type _}{f:α->β}{l:List α}{i:Nat}:(l.map f)[i]?=(l[i]?).map f:=List.getElem?_map ..
abbrev aj:=PySem.W.Frag
abbrev ak:=PySem.Program
abbrev ao:=PySem.World
abbrev aq:=PySem.FuncData
abbrev ar:=PySem.Shared
abbrev au:=PySem.Addr
abbrev av:=PySem.Value
abbrev az:=List.{0}
abbrev aA:=Option.{0}
abbrev aB:=@Nat.le_refl
abbrev aC:=@PySem.wpAny_pure
abbrev aD:=@if_neg
abbrev aE:=@List.mem_cons_self
abbrev aF:=@if_pos
abbrev aG:=@PySem.F.excBase_ValueError
abbrev aH:=@decide_eq_true
abbrev aI:=@List.size_toArray
abbrev aJ:=@List.map_cons
abbrev aK:=@List.getElem?_set_ne
abbrev aL:=@PySem.Heap.get?_push_size
abbrev aM:=@List.map_append
abbrev aN:=@Nat.ne_of_lt
abbrev aO:=@decide_eq_false
abbrev aP:=@List.getD_eq_getElem?_getD
abbrev aQ:=@List.map_map
abbrev aR:=@Nat.lt_of_lt_of_le
abbrev aS:=@List.append_assoc
abbrev aT:=@Nat.le_trans
abbrev aU:=@Nat.le_add_right
abbrev aV:=@List.getElem?_set_self
abbrev aW:=@List.mem_append_right
abbrev aX:=@List.length_singleton
abbrev aY:=@List.length_cons
abbrev aZ:=@Bool.false_ne_true
abbrev a5:=@Option.some.inj
abbrev a6:=@PyProof.Rows.boot_isinstance
abbrev a7:=@List.not_mem_nil
abbrev a9:=@List.length_take
abbrev ba:=@List.length_set
abbrev bc:=@Nat.sub_self
abbrev bg:=@PySem.Heap.get?_update_other
abbrev bh:=@PySem.wpAny_field
abbrev bj:=@List.getElem_of_mem
abbrev bo:=@PyProof.Rows.boot_list
abbrev bp:=@List.take_left
abbrev bq:=@List.mem_cons
abbrev br:=@List.take_of_length_le
abbrev bt:=@List.mem_of_mem_take
abbrev bu:=@List.getElem?_take_of_lt
abbrev bw:=@Nat.lt_succ_of_lt
abbrev bx:=@Nat.zero_le
abbrev bz:=@PySem.Heap.size_push
abbrev bA:=@PyProof.Rows.callWith_type1
abbrev bB:=@Ne.symm
abbrev bC:=@List.length_replicate
abbrev bD:=@Nat.ne_of_gt
abbrev bE:=@List.filter_cons
abbrev bF:=@PySem.PassesOwn.never
abbrev bG:=@List.map_congr_left
abbrev bH:=@List.append_nil
abbrev bI:=@List.drop_of_length_le
abbrev bJ:=@of_decide_eq_true
abbrev bL:=@List.length_drop
abbrev bM:=@Bool.and_eq_true
abbrev bN:=@List.length_filter_le
abbrev bO:=@List.length_zipWith
abbrev bP:=@List.getElem?_range
abbrev bQ:=@List.getElem_mem
abbrev bR:=@List.find?_cons
abbrev bS:=@PySem.wpAny_setField_rec
abbrev bT:=@PySem.wpAny_seqItems
abbrev bU:=@List.getElem?_zipWith
abbrev bV:=@PySem.Heap.get?_update_self
abbrev bW:=@PySem.wpAny_callSpecial?_slot
abbrev bX:=@PySem.F.plainAttrs_list
abbrev bY:=@List.drop_eq_getElem_cons
abbrev bZ:=@Nat.lt_succ_self
abbrev b7:=@PySem.wpAny_mono
abbrev b8:=@congrArg
abbrev b9:=@PyProof.Rows.boot_max
abbrev cb:=@List.filterMap_cons
abbrev cc:=@Nat.min_eq_left
abbrev cf:=@PySem.wpAny_newObj_type
abbrev cg:=@PySem.wpAny_holding
abbrev cj:=@List.zipWith_cons_cons
abbrev ck:=@or_false
abbrev cn:=@Nat.lt_irrefl
abbrev cp:=@Int.le_refl
abbrev cu:=@decide_eq_true_eq
abbrev cv:=@List.nodup_append
abbrev cw:=@Nat.add_sub_cancel_left
abbrev cx:=@Nat.lt_of_le_of_lt
abbrev cy:=@PySem.wpAny_call_entry
abbrev cz:=@List.filterMap_eq_map
abbrev cA:=@PySem.F.type_list_append
abbrev cC:=@PySem.F.slot_list_append
abbrev cD:=@List.idxOf_cons
abbrev cE:=@PySem.wpAny_Call_Name_kw
abbrev cF:=@PySem.wpAny_truthy_bool
abbrev cG:=@List.ext_getElem?
abbrev cH:=@Int.le_trans
abbrev cI:=@List.forIn_cons
abbrev cJ:=@List.getElem?_drop
abbrev cK:=@List.any_cons
abbrev cL:=@Int.eq_ofNat_of_zero_le
abbrev cM:=@PySem.wpAny_updateSeq
abbrev cO:=@List.foldl_cons
abbrev cP:=@Array.length_toList
abbrev cQ:=@PySem.F.plain_min_loop
abbrev cU:=@PySem.F.plainAttrs_str
abbrev cV:=@PySem.Calls.callWith_builtin
abbrev cW:=@PySem.wpAny_pyIter_zip
abbrev cX:=@beq_self_eq_true
abbrev cY:=@List.all_eq_true
abbrev cZ:=@List.zip_cons_cons
abbrev c3:=@List.mem_range
abbrev c4:=@PySem.F.slot_tuple_iterator_next
abbrev c5:=@Bool.false_eq_true
abbrev c6:=@PySem.wpAny_passesOwn
abbrev c7:=@beq_false_of_ne
abbrev c8:=@Bool.eq_iff_iff
abbrev c9:=@PySem.wpAny_pyIter_list
abbrev dc:=@PySem.wpAny_letGo
abbrev de:=@Nat.le_succ_of_le
abbrev df:=@Nat.le_of_lt
abbrev dg:=@List.reverse_cons
abbrev dh:=@List.idxOf_append
abbrev di:=@List.set_comm
abbrev dj:=@List.length_filterMap_le
abbrev dk:=@List.all_cons
abbrev dm:=@PySem.mem_of_lookup
abbrev dn:=@List.cons_append
abbrev dq:=@PyProof.Rows.boot_bool
abbrev dr:=@Nat.lt_trans
abbrev dt:=@PySem.Calls.spliced_cons
abbrev du:=@PySem.F.slot_zip_next
abbrev dw:=@PySem.wpAny_standAt
abbrev dz:=@PySem.W.kia_one
abbrev dA:=@PyProof.Rows.boot_min
abbrev dD:=@PyProof.Rows.boot_all
abbrev dE:=@List.set_append_right
abbrev dF:=@PySem.F.slot_enumerate_next
abbrev dG:=@PySem.Calls.spliced_nil
abbrev dH:=@Nat.le_succ
abbrev dN:=@List.set_append_left
abbrev dO:=@Bool.and_false
abbrev dP:=@Nat.min_eq_right
abbrev dQ:=@List.lookup_cons
abbrev dR:=@List.drop_length
abbrev dU:=@Int.le_of_lt
abbrev dW:=@Int.toNat_of_nonneg
abbrev dX:=@PySem.F.plain_extend_loop
abbrev dY:=@PySem.wpAny_comprehension_free
abbrev dZ:=@PySem.plainId_quiet
abbrev d0:=@if_false
abbrev d6:=@PySem.pushCells_keeps
abbrev d7:=@if_true
abbrev d8:=@PySem.codeAny_builtin
abbrev d9:=@List.count_cons
abbrev ec:=@Int.natCast_add
abbrev ew:=@PySem.wpAny_rule
abbrev eA:=@PySem.tupleKind_room_in1
abbrev eB:=@PyProof.Rows.assignInOrder_cons
abbrev eC:=@PySem.Obj.data_mapFields
abbrev eF:=@List.lookup_append
abbrev eG:=@List.filterMap_map
abbrev eH:=@PySem.wpAny_Call_method0_late
abbrev eI:=@PyProof.Rows.boot_tuple
abbrev eJ:=@PySem.wpAny_tryCatch
abbrev eK:=@PySem.wpAny_setField
abbrev eL:=@PySem.wpAny_pyIter_enum
abbrev eM:=@PySem.boot_len
abbrev eO:=@PySem.F.entry_min_loop
abbrev eP:=@PyProof.Rows.boot_dict
abbrev eQ:=@List.set_set
abbrev eR:=@List.any_eq_false
namespace L2
def gv {a b:Prop}{G:Prop}(q_:a/\b)(k:a->b->G):G:=by obtain⟨h0,h1⟩:=q_;exact k h0 h1
def kc {a b c:Prop}{G:Prop}(q_:a/\b/\c)(k:a->b->c->G):G:=by obtain⟨h0,h1,h2⟩:=q_;exact k h0 h1 h2
def CN {a b c d:Prop}{G:Prop}(q_:a/\b/\c/\d)(k:a->b->c->d->G):G:=by obtain⟨h0,h1,h2,h3⟩:=q_;exact k h0 h1 h2 h3
def Kh {a b c d e:Prop}{G:Prop}(q_:a/\b/\c/\d/\e)(k:a->b->c->d->e->G):G:=by obtain⟨h0,h1,h2,h3,h4⟩:=q_;exact k h0 h1 h2 h3 h4
def p5 {a b c d e f:Prop}{G:Prop}(q_:a/\b/\c/\d/\e/\f)(k:a->b->c->d->e->f->G):G:=by obtain⟨h0,h1,h2,h3,h4,h5⟩:=q_;exact k h0 h1 h2 h3 h4 h5
def jj {lO:Sort _}{a:lO->Prop}{G:Prop}(q_:∃ x,a x)(k:∀ x,a x->G):G:=by obtain⟨x,h0⟩:=q_;exact k x h0
def eU {lO:Sort _}{a b:lO->Prop}{G:Prop}(q_:∃ x,a x/\b x)(k:∀ x,a x->b x->G):G:=by obtain⟨x,h0,h1⟩:=q_;exact k x h0 h1
def jF {lO:Sort _}{a b c:lO->Prop}{G:Prop}(q_:∃ x,a x/\b x/\c x)(k:∀ x,a x->b x->c x->G):G:=by obtain⟨x,h0,h1,h2⟩:=q_;exact k x h0 h1 h2
def si {lO:Sort _}{a b c d:lO->Prop}{G:Prop}(q_:∃ x,a x/\b x/\c x/\d x)(k:∀ x,a x->b x->c x->d x->G):G:=by obtain⟨x,h0,h1,h2,h3⟩:=q_;exact k x h0 h1 h2 h3
def NA {lO:Sort _}{a b c d e:lO->Prop}{G:Prop}(q_:∃ x,a x/\b x/\c x/\d x/\e x)(k:∀ x,a x->b x->c x->d x->e x->G):G:=by obtain⟨x,h0,h1,h2,h3,h4⟩:=q_;exact k x h0 h1 h2 h3 h4
def GH {lO:Sort _}{nQ:Sort _}{a:lO->nQ->Prop}{G:Prop}(q_:∃ x y,a x y)(k:∀ x y,a x y->G):G:=by obtain⟨x,y,h0⟩:=q_;exact k x y h0
def lJ {lO:Sort _}{nQ:Sort _}{a b:lO->nQ->Prop}{G:Prop}(q_:∃ x y,a x y/\b x y)(k:∀ x y,a x y->b x y->G):G:=by obtain⟨x,y,h0,h1⟩:=q_;exact k x y h0 h1
def fw {lO:Sort _}{nQ:Sort _}{a b c:lO->nQ->Prop}{G:Prop}(q_:∃ x y,a x y/\b x y/\c x y)(k:∀ x y,a x y->b x y->c x y->G):G:=by obtain⟨x,y,h0,h1,h2⟩:=q_;exact k x y h0 h1 h2
def jz {lO:Sort _}{nQ:Sort _}{a b c d:lO->nQ->Prop}{G:Prop}(q_:∃ x y,a x y/\b x y/\c x y/\d x y)(k:∀ x y,a x y->b x y->c x y->d x y->G):G:=by obtain⟨x,y,h0,h1,h2,h3⟩:=q_;exact k x y h0 h1 h2 h3
def GG {lO:Sort _}{nQ:Sort _}{a b c d e:lO->nQ->Prop}{G:Prop}(q_:∃ x y,a x y/\b x y/\c x y/\d x y/\e x y)(k:∀ x y,a x y->b x y->c x y->d x y->e x y->G):G:=by obtain⟨x,y,h0,h1,h2,h3,h4⟩:=q_;exact k x y h0 h1 h2 h3 h4
def XU {lO:Sort _}{nQ:Sort _}{a b c d e f:lO->nQ->Prop}{G:Prop}(q_:∃ x y,a x y/\b x y/\c x y/\d x y/\e x y/\f x y)(k:∀ x y,a x y->b x y->c x y->d x y->e x y->f x y->G):G:=by obtain⟨x,y,h0,h1,h2,h3,h4,h5⟩:=q_;exact k x y h0 h1 h2 h3 h4 h5
def Kg {lO:Sort _}{nQ:Sort _}{uy:Sort _}{a b:lO->nQ->uy->Prop}{G:Prop}(q_:∃ x y z,a x y z/\b x y z)(k:∀ x y z,a x y z->b x y z->G):G:=by obtain⟨x,y,z,h0,h1⟩:=q_;exact k x y z h0 h1
def p4 {lO:Sort _}{nQ:Sort _}{uy:Sort _}{a b c:lO->nQ->uy->Prop}{G:Prop}(q_:∃ x y z,a x y z/\b x y z/\c x y z)(k:∀ x y z,a x y z->b x y z->c x y z->G):G:=by obtain⟨x,y,z,h0,h1,h2⟩:=q_;exact k x y z h0 h1 h2
def AS {lO:Sort _}{nQ:Sort _}{uy:Sort _}{a b c d:lO->nQ->uy->Prop}{G:Prop}(q_:∃ x y z,a x y z/\b x y z/\c x y z/\d x y z)(k:∀ x y z,a x y z->b x y z->c x y z->d x y z->G):G:=by obtain⟨x,y,z,h0,h1,h2,h3⟩:=q_;exact k x y z h0 h1 h2 h3
def wB {lO:Sort _}{nQ:Sort _}{uy:Sort _}{a b c d e:lO->nQ->uy->Prop}{G:Prop}(q_:∃ x y z,a x y z/\b x y z/\c x y z/\d x y z/\e x y z)(k:∀ x y z,a x y z->b x y z->c x y z->d x y z->e x y z->G):G:=by obtain⟨x,y,z,h0,h1,h2,h3,h4⟩:=q_;exact k x y z h0 h1 h2 h3 h4
def GF {lO:Sort _}{nQ:Sort _}{uy:Sort _}{a b c d e f:lO->nQ->uy->Prop}{G:Prop}(q_:∃ x y z,a x y z/\b x y z/\c x y z/\d x y z/\e x y z/\f x y z)(k:∀ x y z,a x y z->b x y z->c x y z->d x y z->e x y z->f x y z->G):G:=by obtain⟨x,y,z,h0,h1,h2,h3,h4,h5⟩:=q_;exact k x y z h0 h1 h2 h3 h4 h5
def U0 {lO:Sort _}{nQ:Sort _}{uy:Sort _}{Fu:Sort _}{a b:lO->nQ->uy->Fu->Prop}{G:Prop}(q_:∃ x y z u,a x y z u/\b x y z u)(k:∀ x y z u,a x y z u->b x y z u->G):G:=by obtain⟨x,y,z,u,h0,h1⟩:=q_;exact k x y z u h0 h1
def fL {lO:Sort _}{nQ:Sort _}{uy:Sort _}{Fu:Sort _}{a b c d:lO->nQ->uy->Fu->Prop}{G:Prop}(q_:∃ x y z u,a x y z u/\b x y z u/\c x y z u/\d x y z u)(k:∀ x y z u,a x y z u->b x y z u->c x y z u->d x y z u->G):G:=by obtain⟨x,y,z,u,h0,h1,h2,h3⟩:=q_;exact k x y z u h0 h1 h2 h3
def sh {lO:Sort _}{nQ:Sort _}{uy:Sort _}{Fu:Sort _}{a b c d e f:lO->nQ->uy->Fu->Prop}{G:Prop}(q_:∃ x y z u,a x y z u/\b x y z u/\c x y z u/\d x y z u/\e x y z u/\f x y z u)(k:∀ x y z u,a x y z u->b x y z u->c x y z u->d x y z u->e x y z u->f x y z u->G):G:=by obtain⟨x,y,z,u,h0,h1,h2,h3,h4,h5⟩:=q_;exact k x y z u h0 h1 h2 h3 h4 h5
def XT {lO:Sort _}{nQ:Sort _}{uy:Sort _}{Fu:Sort _}{a b c d e f g h:lO->nQ->uy->Fu->Prop}{G:Prop}(q_:∃ x y z u,a x y z u/\b x y z u/\c x y z u/\d x y z u/\e x y z u/\f x y z u/\g x y z u/\h x y z u)(k:∀ x y z u,a x y z u->b x y z u->c x y z u->d x y z u->e x y z u->f x y z u->g x y z u->h x y z u->G):G:=by obtain⟨x,y,z,u,h0,h1,h2,h3,h4,h5,h6,h7⟩:=q_;exact k x y z u h0 h1 h2 h3 h4 h5 h6 h7
def XS {lO:Sort _}{nQ:Sort _}{uy:Sort _}{Fu:Sort _}{SW:Sort _}{a b c d:lO->nQ->uy->Fu->SW->Prop}{G:Prop}(q_:∃ x y z u v,a x y z u v/\b x y z u v/\c x y z u v/\d x y z u v)(k:∀ x y z u v,a x y z u v->b x y z u v->c x y z u v->d x y z u v->G):G:=by obtain⟨x,y,z,u,v,h0,h1,h2,h3⟩:=q_;exact k x y z u v h0 h1 h2 h3
def UZ {lO:Sort _}{nQ:Sort _}{uy:Sort _}{Fu:Sort _}{SW:Sort _}{a b c d e:lO->nQ->uy->Fu->SW->Prop}{G:Prop}(q_:∃ x y z u v,a x y z u v/\b x y z u v/\c x y z u v/\d x y z u v/\e x y z u v)(k:∀ x y z u v,a x y z u v->b x y z u v->c x y z u v->d x y z u v->e x y z u v->G):G:=by obtain⟨x,y,z,u,v,h0,h1,h2,h3,h4⟩:=q_;exact k x y z u v h0 h1 h2 h3 h4
def Nz {lO:Sort _}{nQ:Sort _}{uy:Sort _}{Fu:Sort _}{SW:Sort _}{a b c d e f:lO->nQ->uy->Fu->SW->Prop}{G:Prop}(q_:∃ x y z u v,a x y z u v/\b x y z u v/\c x y z u v/\d x y z u v/\e x y z u v/\f x y z u v)(k:∀ x y z u v,a x y z u v->b x y z u v->c x y z u v->d x y z u v->e x y z u v->f x y z u v->G):G:=by obtain⟨x,y,z,u,v,h0,h1,h2,h3,h4,h5⟩:=q_;exact k x y z u v h0 h1 h2 h3 h4 h5
open PySem PySem.Spec PyProof.Rows
abbrev Key:=Sum Int Str
def vr:Key->av->Bool
 |.inl k,v=>Value.isInt k v
 |.inr x,v=>Value.isStrOf x v
def W8 (w:ao):Key->Int
 |.inl k=>hashInt k
 |.inr x=>hashStr w x
def gW:∀ {k:Key} {v:av},vr k v=true->(∃ i t,k=Sum.inl i/\v=Value.int i t)\/(∃ x t,k=Sum.inr x/\v=Value.str x t)
 | .inl i,v,h=>by obtain⟨t,e⟩:=Value.isInt_shape (k:=i) (v:=v) h;exact .inl ⟨i,t,rfl,e⟩
 | .inr x,v,h=>by obtain⟨t,e⟩:=Value.isStrOf_shape (x:=x) (v:=v) h;exact .inr ⟨x,t,rfl,e⟩
def F8 (i:Int)(t:Tok):vr (.inl i) (.int i t)=true:=by simp[vr,Value.isInt]
def sd (x:Str)(t:Tok):vr (.inr x) (.str x t)=true:=by simp[vr,Value.isStrOf]
def QQ (a b:Int):decide ((Sum.inl a:Key)=Sum.inl b)=(a==b):=by
 by_cases e:a=b
 .subst e;simp
 .have h:¬ (Sum.inl a:Key)=Sum.inl b:=λq=>e<|Sum.inl.inj q;rw[aO h];exact(beq_eq_false_iff_ne.mpr e).symm
def QN (a b:Str):decide ((Sum.inr a:Key)=Sum.inr b)=decide (a=b):=by
 by_cases e:a=b
 .subst e;simp
 .have h:¬ (Sum.inr a:Key)=Sum.inr b:=λq=>e<|Sum.inr.inj q;rw[aO h,aO e]
def QP (a:Int)(b:Str):decide ((Sum.inl a:Key)=Sum.inr b)=false:=aO (λq=>nomatch q)
def QO (a:Str)(b:Int):decide ((Sum.inr a:Key)=Sum.inl b)=false:=aO (λq=>nomatch q)
def f9 (prog:ak)(w:ao):PySem.KeyKind prog w Key where
 is:=vr
 hash:=W8 w
 inj:=λv a b ha hb=>by
  rcases gW ha with⟨i,t,rfl,rfl⟩|⟨x,t,rfl,rfl⟩
  .rcases gW hb with⟨j,u,rfl,e⟩ | ⟨y,u,rfl,e⟩
   .injection e with e1 _;rw[e1]
   .exact nomatch e
  .rcases gW hb with⟨j,u,rfl,e⟩ | ⟨y,u,rfl,e⟩
   .exact nomatch e
   .injection e with e1 _;rw[e1]
 byValue:=λk v h=>by rcases gW h with⟨i,t,rfl,rfl⟩|⟨x,t,rfl,rfl⟩<;> rfl
 pyHash:=λd h=>by
  rcases gW d with⟨i,t,rfl,rfl⟩|⟨x,t,rfl,rfl⟩
  .exact wpAny_pyHash_int h
  .exact wpAny_pyHash_str h
 eqBool:=λq d h=>by
  rcases gW q with⟨i,t,rfl,rfl⟩|⟨x,t,rfl,rfl⟩
  .rcases gW d with⟨j,u,rfl,rfl⟩ | ⟨y,u,rfl,rfl⟩
   .rw[QQ]at h;exact wpAny_eqBool_int h
   .rw[QP]at h;exact SeqAt.EqAt.int_str i t y u _ _ _ _ h
  .rcases gW d with⟨j,u,rfl,rfl⟩ | ⟨y,u,rfl,rfl⟩
   .rw[QO]at h;exact SeqAt.EqAt.str_int x t j u _ _ _ _ h
   .rw[QN]at h;exact wpAny_eqBool_str h
 «strs»:=λk x t v h=>by
  rcases gW h with⟨i,u,rfl,e⟩|⟨y,u,rfl,e⟩
  .exact nomatch e
  .injection e with e1 _;subst e1;cases v<;>rfl
def Ar (prog:ak)(w:ao)(i:Int)(t:Tok):(f9 prog w).is (.inl i) (.int i t)=true:=F8 i t
def Aq (prog:ak)(w:ao)(x:Str)(t:Tok):(f9 prog w).is (.inr x) (.str x t)=true:=sd x t
inductive V where
 |fX|bl (b:Bool)|int (i:Int)|str (x:Str)|GP (b:Array UInt8)|OR (b:UInt64)|ref (a:au)|ty (n:String)
 deriving DecidableEq
def fH:V->av->Prop
 |.fX,u=>u=Value.none
 |.bl b,u=>u=Value.bool b
 |.int i,u=>∃ t,u=Value.int i t
 |.str x,u=>∃ t,u=Value.str x t
 |.GP b,u=>∃ t,u=Value.bytes b t
 |.OR b,u=>∃ t,u=Value.float b t
 |.ref a,u=>u=Value.ref a
 |.ty n,u=>u=Value.type n
abbrev fF:az V->az av->Prop:=Paired fH
theorem fF.length {xs:az V}{us:az av}(r:fF xs us):xs.length=us.length:=Paired.length r
theorem fF.get:∀ {xs:az V} {us:az av} {i:Nat} {x:V},fF xs us->xs[i]?=some x->∃ u,us[i]?=some u/\fH x u
 |_,_,_,_,.nil,e=>by cases e
 |_,_,0,_,.cons r _,e=>by simp at e;subst e;exact⟨_,rfl,r⟩
 | _,_,i+1,x,.cons _ t,e=>by obtain⟨u,h1,h2⟩:=fF.get (i:=i) (x:=x) t (by simpa using e);exact⟨u,by simpa using h1,h2⟩
theorem fF.set {x:V}{u:av}(r:fH x u):∀ {xs:az V} {us:az av} (i:Nat),fF xs us->fF (xs.set i x) (us.set i u)
 |_,_,_,.nil=>.nil
 |_,_,0,.cons _ t=>.cons r t
 |_,_,i+1,.cons q t=>.cons q (fF.set r i t)
def fF.append {xs ys:az V}{us ws:az av}(h:fF xs us)(s:fF ys ws):fF (xs++ys) (us++ws):=by
 induction h with
 |nil=>exact s
 |cons r t ih=>exact .cons r ih
theorem fF.take:∀ {xs:az V} {us:az av} (n:Nat),fF xs us->fF (xs.take n) (us.take n)
 |_,_,0,_=>.nil
 |_,_,_+1,.nil=>.nil
 |_,_,n+1,.cons r t=>.cons r (fF.take n t)
theorem fF.drop:∀ {xs:az V} {us:az av} (n:Nat),fF xs us->fF (xs.drop n) (us.drop n)
 |_,_,0,r=>r
 |_,_,_+1,.nil=>.nil
 |_,_,n+1,.cons _ t=>fF.drop n t
def fF.none_of:∀ {xs:az V} {us:az av} {i:Nat},fF xs us->xs[i]?=none->us[i]?=none:=λ{xs us i} r e=>by have h1:=r.length;have h2:xs.length<=i:=List.getElem?_eq_none_iff.mp e;exact List.getElem?_eq_none_iff.mpr Zs
def o5:aA V->aA av->Prop
 |some v,some u=>fH v u
 |none,none=>True
 |_,_=>False
def KV {d:Type}:az (d×V)->az (d×av)->Prop:=Paired λ(p:d×V) (q:d×av)=>p.1=q.1/\fH p.2 q.2
def kV:Key->V
 |.inl i=>.int i
 |.inr x=>.str x
inductive HO where
 |lst (xs:List V)
 |tup (xs:List V)
 |dK (fM:List abg)|dT (fM:List (List Key×V))
 |set (S:Int->Bool) (n:Nat)
 |ins (C dx:au) (fs:List (Str×V))
 |own (x:au)
 |xd (fs:List (Str×V))
 |met (f x:au)
 |V7 (lo hi:Int)
 |oZ (o:Obj) (u:HO)
 |Of (ps:Array av)
 |ext (φ:Heap->Prop)
abbrev Hp:=au->aA HO
def upd (H:Hp)(a:au)(o:HO):Hp:=λb=>if b=a then some o else H b
def eZ {H:Hp}{a:au}{o:HO}:upd H a o a=some o:=by delta upd;rw[aF rfl]
def fB {H:Hp}{a b:au}{o:HO}(h:b≠a):upd H a o b=H b:=by delta upd;rw[aD h]
def Uc {H:Hp}{a b:au}{o u:HO}(h:H a=some o)(h':H b=some u)(d:o≠u):a≠b:=by intro e;subst e;rw[h]at h';exact d (a5 h')
def fQ {H:Hp}{a b:au}{o:HO}(h:H a=some o)(h':H b=none):a≠b:=by intro e;subst e;rw[h]at h';cases h'
section
variable (P:ak)(w:ao)
def iB (H:Hp)(h:Heap)(a:au):HO->Prop
 |.lst xs=>xs.length<=sizeLine/\∃(j:az av) (n:Nat),fF xs j/\h.get? a=some { cls:=.type "list",data:=.seq j.toArray n}
 |.tup xs=>xs.length<=sizeLine/\∃ j:az av,fF xs j/\IsTup h a j.toArray
 |.dK d=>d.length<=sizeLine/\aaZ=false/\∃ F,KV d F/\h.DictOf (f9 P w) a F
 | .dT d=>d.length<=sizeLine/\aaZ=false/\∃ xs:az (az Key×au×av),
  Paired (λ(p:az Key×V) (q:az Key×au×av)=>p.1=q.1/\H q.2.1=some (.tup<|p.1.map kV)/\fH p.2 q.2.2) d xs /\
  ∃ o es G,h.get? a=some o/\o.ExactDict/\o.data=.dict es G/\es.toList=xs.map (entryOfKey<|tupleKind<|f9 P w)/\(xs.map Zx).Nodup
 |.set S n=>h.SetOf (intKind P w) a S n
 | .ins C dx fs=>H dx=some (.own a)/\fs.length<=1000/\dx≠a/\h.get? a=some (W.instObj C dx) /\
  ∃ mA,h.Ns1 dx mA/\(∀ f,o5 (fs.lookup f) (mA f))/\PySem.Within mA (fs.map Zx)
 |.own _=>∃ o,h.get? a=some o
 |.xd fs=>∃ mA,h.Ns1 a mA/\∀ f,o5 (fs.lookup f) (mA f)
 |.V7 lo hi=>∃ t u v,h.get? a=some { cls:=.type "range",data:=.fields #[.int lo t,.int hi u,.int 1 v]}
 |.oZ o u=>h.get? a=some o/\iB H h a u
 |.Of ps=>h.get? a=some { cls:=.none,data:=.fields ps}
 |.met f x=>h.get? a=some (W.methodObj aaf<|.ref x)
 |.ext y=>y h/\(∃ o,h.get? a=some o)/\∀ h1 h2:Heap,y h1->(∀ o,h1.get? a=some o->h2.get? a=some o)->y h2
def oW (H:Hp)(h:Heap):Prop:=∀ a o,H a=some o->iB P w H h a o
end
theorem iB.lt (x:iB P w H h a o):a<h.objs.size:=by
 cases o with
 |lst xs=>obtain⟨_,_,_,_,e⟩:=x;exact ic e
 |tup xs=>obtain⟨_,_,_,p⟩:=x;exact p.lt
 |dK d=>obtain⟨_,_,_,_,o,_,_,e,_⟩:=x;exact ic e
 |dT d=>obtain⟨_,_,_,_,o,_,_,e,_⟩:=x;exact ic e
 |set S n=>obtain⟨o,_,_,_,e,_⟩:=x;exact ic e
 |ins C dx fs=>obtain⟨_,_,_,e,_⟩:=x;exact ic e
 |own y=>obtain⟨_,e⟩:=x;exact ic e
 |xd fs=>obtain⟨_,⟨_,_,_,e,_⟩,_⟩:=x;exact ic e
 |V7 lo hi=>obtain⟨_,_,_,e⟩:=x;exact ic e
 |oZ q u=>obtain⟨e,_⟩:=x;exact ic e
 |Of ps=>exact ic (show h.get? a=some _ from x)
 |met f y=>exact ic (show h.get? a=some _ from x)
 |ext j=>obtain⟨_,⟨_,e⟩,_⟩:=x;exact ic e
theorem Paired.Cf {α β:Type}{F G:α->β->Prop}:∀ {j:az α} {d:az β},Paired F j d->(∀ a b,F a b->G a b)->Paired G j d
 |_,_,.nil,_=>.nil
 |_,_,.cons r t,f=>.cons (f _ _ r) (Paired.Cf t f)
def iB.yb (x:iB P w H h a o)(k:∀ b u,(b=a\/H b=some (.own a))->h.get? b=some u->h'.get? b=some u)
 (O:∀ b,H b=some (.own a)->H' b=some (.own a)) (ht:∀ b xs,H b=some (.tup xs)->H' b=some (.tup xs)):iB P w H' h' a o:=by
 induction o with
 |lst xs=>obtain⟨z,j,n,r,e⟩:=x;exact⟨z,j,n,r,k _ _ aam e⟩
 |tup xs=>obtain⟨z,j,r,F,e,c⟩:=x;exact⟨z,j,r,F,k _ _ aam e,c⟩
 |dK J=>obtain⟨z,y,L,r,F,es,G,e,c⟩:=x;exact⟨z,y,L,r,F,es,G,k _ _ aam e,c⟩
 | dT J =>obtain⟨z,y,xs,r,F,es,G,e,c⟩:=x;exact⟨z,y,xs,Paired.Cf r λp q z=>⟨z.1,ht _ _ z.2.1,z.2.2⟩,F,es,G,k _ _ aam e,c⟩
 |set S n=>obtain⟨F,es,G,t,e,c⟩:=x;exact⟨F,es,G,t,k _ _ aam e,c⟩
 | ins C dx fs =>obtain⟨d,z,ne,e,mA,⟨I,es,G,U,c⟩,r⟩:=x;exact⟨O _ d,z,ne,k _ _ aam e,mA,⟨I,es,G,k _ _ (.inr d) U,c⟩,r⟩
 |own y=>obtain⟨F,e⟩:=x;exact⟨F,k _ _ aam e⟩
 |xd fs=>obtain⟨mA,⟨I,es,G,e,c⟩,r⟩:=x;exact⟨mA,⟨I,es,G,k _ _ aam e,c⟩,r⟩
 |V7 lo hi=>obtain⟨t,u,v,e⟩:=x;exact⟨t,u,v,k _ _ aam e⟩
 |oZ F u M=>obtain⟨e,q⟩:=x;exact⟨k _ _ aam e,M q⟩
 | Of ps =>have e:h.get? a=some { cls:=.none,data:=.fields ps}:=x;exact k a _ aam e
 | met f y =>have e:h.get? a=some (W.methodObj aaf<|.ref y):=x;exact k a _ aam e
 |ext Y=>obtain⟨p,⟨o,e⟩,st⟩:=x;exact⟨st _ _ p λo q=>k _ _ aam q,⟨o,k _ _ aam e⟩,st⟩
theorem oW.lt (x:oW P w H h)(e:H a=some o):a<h.objs.size:=(x a o e).lt
def oW.fresh (x:oW P w H h)(e:h.objs.size<=a):H a=none:=by
 cases q:H a with
 |none=>rfl
 |some u=>exact absurd (aR (x.lt q) e) (cn _)
def oW.af (x:oW P w H h)(k:∀ b u,h.get? b=some u->h'.get? b=some u):oW P w H h':=λa o e =>(x a o e).yb (λb u _ q=>k b u q) (λ_ q=>q) λ_ _ q=>q
def oW.laid (x:oW P w H h)(k:∀ b u,h.get? b=some u->h'.get? b=some u)(d:h.objs.size<=a)(new:iB P w (upd H a o) h' a o):oW P w (upd H a o) h':=λb u e=>by
 have hn:=x.fresh d;by_cases hb:b=a
 .subst hb;rw[eZ]at e;cases e;exact new
 .rw[fB hb]at e;exact(x b u e).yb (λc v _ q=>k c v q) (λc q=>by rw[fB (fQ q hn)];exact q) λc xs q=>by rw[fB (fQ q hn)];exact q
def Rd (H:Hp)(a:au)(u:HO):Prop:=H a=some u\/∃ o,H a=some (.oZ o u)
def Rd.ok {P:ak}{w:ao}{H:Hp}{h:Heap}{a:au}{u:HO}(r:Rd H a u)(x:oW P w H h):iB P w H h a u:=by
 rcases r with r|⟨o,r⟩
 .exact x a u r
 .obtain⟨_,q⟩:=x a _ r;exact q
def VI:aA HO->Prop
 |some (.lst _)=>True
 |some (.dK _)=>True
 |some (.dT _)=>True
 |some (.set _ _)=>True
 |some (.ins _ _ _)=>True
 |some (.ext _)=>True
 |_=>False
def oW.write (ok:oW P w H h)(G:VI (H x))(he:e=x\/H e=some (.own x))(k:∀ b u,b≠e->h.get? b=some u->h'.get? b=some u)(J:∃ u,h'.get? e=some u)
 (new:iB P w (upd H x o') h' x o'):oW P w (upd H x o') h':=λb u q=>by
 have j:∀ c y,H c=some (.own y)->c≠x:=λc y r z=>by subst z;rw[r]at G;exact G
 have F:∀ c xs,H c=some (.tup xs)->c≠x:=λc xs r z=>by subst z;rw[r]at G;exact G
 by_cases hb:b=x
 .subst hb;rw[eZ]at q;cases q;exact new
 .rw[fB hb]at q;by_cases d:b=e
  .have L:H b=some (.own x):=by
    rcases he with z|z
    .exact absurd (d.trans z) hb
    .rw[d];exact z
   rw[q]at L;cases L
   obtain⟨v,M⟩:=J
   exact⟨v,d▸M⟩
  .refine(ok b u q).yb (λc v I r=>k c v ?_ r) (λc r=>by rw[fB (j c b r)];exact r) λc xs r=>by rw[fB (F c xs r)];exact r
   rcases I with rfl|I
   .exact d
   .rintro rfl;rcases he with z|z
    .exact j c b I z
    .rw[I]at z;cases z;exact hb rfl
structure Un (fs ex:List au)(H H':Hp)(h h':Heap):Prop where
 keep:∀ b o,h.get? b=some o->H b=none->b∉fs->b∉ex->h'.get? b=some o
 slot:∀ b o,h.get? b=some o->H b=none->b∈fs->b∉ex->∃ sl,h'.get? b=some { o with slots:=sl}
 free:∀ b o,h.get? b=some o->H b=none->b∉ex->H' b=none
 there:∀ b o,h.get? b=some o->b∉ex->∃ o',h'.get? b=some o'
 qk:∀ b xs,H b=some (.tup xs)->H' b=some (.tup xs)
 pY:∀ b o u,H b=some (.oZ o u)->H' b=some (.oZ o u)
 qo:∀ b ps,H b=some (.Of ps)->∃ more,H' b=some (.Of<|ps++more)
def Un.any (u:Un fs ex H H1 h h1){b:au}{d:Obj}(q:h.get? b=some d)(n:H b=none)(j:b∉ex):∃ sl,h1.get? b=some { d with slots:=sl}:=by
 by_cases hb:b∈fs
 .exact u.slot b d q n hb j
 .exact⟨d.slots,u.keep b d q n hb j⟩
def Un.trans (a:Un fs ex H H1 h h1)(b:Un fs ex H1 H2 h1 h2):Un fs ex H H2 h h2 where
 keep:=λc d q n y j=>b.keep c d (a.keep c d q n y j) (a.free c d q n j) y j
 slot:=λc d q n y j=>by obtain⟨I,e1⟩:=a.slot c d q n y j;obtain⟨F,G⟩:=b.slot c _ e1 (a.free c d q n j) y j;exact⟨F,G⟩
 free:=λc d q n j=>by obtain⟨o',e1⟩:=a.there c d q j;exact b.free c o' e1 (a.free c d q n j) j
 there:=λc d q j=>by obtain⟨o',e1⟩:=a.there c d q j;exact b.there c o' e1 j
 qk:=λc xs q=>b.qk c xs (a.qk c xs q)
 pY:=λc d xs q=>b.pY c d xs (a.pY c d xs q)
 qo:=λc ps q=>by obtain⟨m1,e1⟩:=a.qo c ps q;obtain⟨m2,G⟩:=b.qo c _ e1;exact⟨m1++m2,by rw[G,Array.append_assoc]⟩
def Un.af (k:∀ b u,h.get? b=some u->h'.get? b=some u):Un fs ex H H h h' :=
 ⟨λb d q _ _ _=>k b d q,λb d q _ _ _=>⟨d.slots,k b d q⟩,λ_ _ _ n _=>n,λb d q _=>⟨d,k b d q⟩,λ_ _ q=>q,λ_ _ _ q=>q,λ_ ps q=>⟨#[],by rw[q];simp⟩⟩
def Un.refl:Un fs ex H H h h:=Un.af λ_ _ q=>q
def Un.laid (k:∀ b u,h.get? b=some u->h'.get? b=some u)(d:h.objs.size<=a)(hn:H a=none):Un fs ex H (upd H a o) h h' where
 keep:=λb u q _ _ _=>k b u q
 slot:=λb u q _ _ _=>⟨u.slots,k b u q⟩
 free:=λb u q n _=>by rw[fB (aN<|aR (ic q) d)];exact n
 there:=λb u q _=>⟨u,k b u q⟩
 qk:=λb xs q=>by rw[fB (fQ q hn)];exact q
 pY:=λb u xs q=>by rw[fB (fQ q hn)];exact q
 qo:=λb ps q=>⟨#[],by rw[fB (fQ q hn),q];simp⟩
def Un.write (j:VI (H x))(he:e=x\/H e=some (.own x))(k:∀ b u,b≠e->h.get? b=some u->h'.get? b=some u)(y:∃ u,h'.get? e=some u):Un fs ex H (upd H x o) h h':=by
 have F:∀ b,H b=none->b≠x:=λb n z=>by subst z;rw[n]at j;exact j
 have hb:∀ b,H b=none->b≠e:=λb n z=>by
  subst z;rcases he with r|r
  .exact F b n r
  .rw[n]at r;cases r
 have hm:∀ b u,H b=some u->¬ VI (some u)->b≠x:=λb u q nm z=>by subst z;rw[q]at j;exact nm j
 refine⟨λb u q n _ _=>k b u (hb b n) q,λb u q n _ _=>⟨u.slots,k b u (hb b n) q⟩,λb u q n _=>by rw[fB (F b n)];exact n,λb u q _=>?_,
  λb xs q=>by rw[fB (hm b _ q λz=>z)];exact q,λb u xs q=>by rw[fB (hm b _ q λz=>z)];exact q,λb ps q=>⟨#[],by rw[fB (hm b _ q λz=>z),q];simp⟩⟩
 by_cases d:b=e
 .subst d;exact y
 .exact⟨u,k b u d q⟩
def Un.mono (u:Un fs ex H H1 h h1)(hs:∀ b∈fs,b∈Q9)(y:∀ b∈ex,b∈ex'):Un Q9 ex' H H1 h h1 :=
 ⟨λb j q n hb d=>u.keep b j q n (λz=>hb<|hs b z) λz=>d<|y b z,λ_ _ q n _ d=>u.any q n λz=>d<|y _ z,λb j q n d=>u.free b j q n λz=>d<|y b z,λb j q d=>u.there b j q λz=>d<|y b z,u.qk,u.pY,u.qo⟩
def V0 (h:Heap)(H:Hp):az au:=(List.range h.objs.size).filter λa=>(H a).isSome
def yK (h:Heap)(H:Hp):Heap:=W.hideAll h (V0 h H)
def Gi (h:Heap)(H:Hp):(yK h H).objs.size=h.objs.size:=W.hideAll_size _ _
def JD {h:Heap}{H:Hp}{b:au}{o:Obj}(e:h.get? b=some o)(n:H b=none):(yK h H).get? b=some o :=
 W.hideAll_get _ e λhm=>by have q:(H b).isSome=true:=(List.mem_filter.mp hm).2;rw[n]at q;simp at q
def Mx {h:Heap}{H:Hp}{b:au}{o:Obj}(e:(yK h H).get? b=some o):h.get? b=some o/\H b=none:=by
 have d:h.get? b=some o:=W.of_hideAll (V0 h H) e;refine⟨d,?_⟩;cases q:H b with
 |none=>rfl
 | some x =>have hm:b∈V0 h H:=List.mem_filter.mpr ⟨List.mem_range.mpr<|ic d,by simp[q]⟩;have z:(yK h H).get? b=none:=W.hideAll_none (V0 h H) hm;rw[z]at e;cases e
def NW (g h:Heap)(L:au):az (au×Obj):=(List.range h.objs.size).filterMap λa=>if a=L\/(g.get? a).isSome=true then none else(h.get? a).map λo=>(a,o)
def rest (g h:Heap)(L d:au):az (au×Obj):=(NW g h L).filter λp=>decide (p.1≠d)
structure Mod (K:aj)(mg:Str->Option av)(ah:Heap):Prop where
 SF:K.In ah
 glob:ah.Ns mainGlobals mg
 blt:∃ mb,ah.Ns builtinsNs mb/\∀ x:Str,x ≠ "__name__"->mb x=bootBuiltins x
 nolimit:ah.NoLimit
structure Cx where
 prog:ak
 w:ao
 K:aj
 mg:Str->Option av
 ah:Heap
 A:Around
 N:List Str
 s₀:ar
 H₀:Hp
 env:Env
 fb:List Env
 stack:List Env
 ex:List au
 fn:Str->Bool
 fU:Bool
 pn:List ZE
 xe:av->ar->Prop
def yO (l:az Env):az au:=l.filterMap (·.frame)
abbrev Cx.fs (X:Cx):az au:=yO X.fb
def R6 (sc:Scope)(x:Str):Prop:=sc.names.lookup x=some .local\/sc.names.lookup x=some .cell\/sc.names.lookup x=some .free
def Loc (sc:Scope)(x:Str):Prop:=sc.names.lookup x=some .local\/sc.names.lookup x=some .cell
def Look (env:Env)(h:Heap)(m:Str->aA av)(x:Str)(u:av):Prop :=
 (env.kindOf x=some .local/\m x=some u)\/((env.kindOf x=some .cell\/env.kindOf x=some .free)/\∃ c,env.cells.lookup x=some c/\h.IsCell c (some u))
structure Cx.Ok (X:Cx):Prop where
 mod:Mod X.K X.mg X.ah
 kind:X.env.scope.kind=.function
 glob:X.env.globals=mainGlobals
 blt:X.env.builtins=builtinsNs
 above:X.s₀.heap.objs.size<=X.env.locals
 inj:∀ x y c,X.env.cells.lookup x=some c->X.env.cells.lookup y=some c->x=y
 has:∀ x,(X.env.kindOf x=some .cell\/X.env.kindOf x=some .free)->∃ c,X.env.cells.lookup x=some c
 Vx:∀ x c,X.fn x=true->X.env.cells.lookup x=some c->X.s₀.heap.objs.size<=c
 hd:X.fU=true->X.A.handled=none
 frames:X.A.frames=some X.stack
 V5:X.stack=X.fb\/(X.stack=X.env::X.fb/\X.env.frame=some X.env.locals)
 SI:∀ b∈X.ex,b≠X.env.locals/\∀ x c,X.env.cells.lookup x=some c->c≠b
 bs:∀ b o,X.ah.get? b=some o->X.s₀.heap.get? b=some o/\X.H₀ b=none
 G7:X.ah.objs.size<=X.s₀.heap.objs.size
 F1:∀ b o,X.ah.get? b=some o->b∉X.ex
 GC:∀ b∈X.ex,b∉X.fs
 rk:X.s₀.heap.FunFrames X.ah X.fb
 OO:∀ b∈X.fs,X.H₀ b=none
structure Inv (X:Cx)(aa:List ZE)(σ:List (Option V))(H:Hp)(s:ar):Prop where
 ok:X.Ok
 os:s.os=X.s₀.os
 bare:AllBare s.gens
 ah:Un X.fs X.ex X.H₀ H X.s₀.heap s.heap
 loc:∃ m,s.heap.Ns X.env.locals m/\∀(i:Nat) (x:Str) (v:V),X.N[i]?=some x->σ[i]?=some (some v)->R6 X.env.scope x->∃ u,fH v u/\Look X.env s.heap m x u
 cell:∀ x c,X.env.cells.lookup x=some c->∃ v,s.heap.IsCell c v
 free:H X.env.locals=none
 ny:∀ x c,X.env.cells.lookup x=some c->H c=none
 pin:∀ p∈X.pn++aa,s.heap.get? p.1=some p.2/\H p.1=none/\p.1≠X.env.locals/\p.1∉X.fs/\∀ v,p.2.data≠.cell v
 fO:oW X.prog X.w H s.heap
 len:σ.length=X.N.length
section
variable {X:Cx}{aa:az ZE}{σ:az (aA V)}{H H':Hp}{s:ar}{h':Heap}
def Cx.Ok.W4 (ok:X.Ok){b:au}{o:Obj}(e:X.ah.get? b=some o):b∉X.fs:=λhb=>by have:=(ok.rk.mem hb).1;rw[e]at this;cases this
theorem Inv.bs (I:Inv X aa σ H s):∀ b o,X.ah.get? b=some o->s.heap.get? b=some o/\H b=none:=λb o e =>⟨I.ah.keep b o (I.ok.bs b o e).1 (I.ok.bs b o e).2 (I.ok.W4 e)<|I.ok.F1 b o e,I.ah.free b o (I.ok.bs b o e).1 (I.ok.bs b o e).2<|I.ok.F1 b o e⟩
def Inv.bk (I:Inv X aa σ H s):∀ b o,X.ah.get? b=some o->s.heap.get? b=some o:=λb o e=>(I.bs b o e).1
theorem Inv.mod (I:Inv X aa σ H s):Mod X.K X.mg X.ah:=I.ok.mod
def Inv.se (I:Inv X aa σ H s):X.K.In s.heap:=I.ok.mod.SF.keeps I.bk
theorem Inv.lt (I:Inv X aa σ H s):X.env.locals<s.heap.objs.size:=let ⟨_,hn,_⟩:=I.loc;hn.lt
def Inv.sz (I:Inv X aa σ H s):X.s₀.heap.objs.size<=s.heap.objs.size:=aT I.ok.above (df I.lt)
def Inv.W3 (I:Inv X aa σ H s){a:au}(h:s.heap.objs.size<=a):a∉X.fs:=λhb=>by obtain⟨_,o,d,_⟩:=I.ok.rk.mem hb;exact absurd (aR (ic d)<|aT I.sz h) (cn _)
def Inv.RR (I:Inv X aa σ H s):∀ x c,X.env.cells.lookup x=some c->c≠X.env.locals:=λx c e z=>by refine lJ (I.cell x c e) λv o q hd=>?_;obtain⟨m,⟨o',es,y,d,j,_⟩,_⟩:=I.loc;rw[z,d]at q;cases q;rw[j]at hd;cases hd
theorem Inv.rk (I:Inv X aa σ H s):s.heap.FunFrames X.ah X.fb:=by
 have all:∀(l:az Env),(∀ b∈yO l,b∈X.fs)->X.s₀.heap.FunFrames X.ah l->s.heap.FunFrames X.ah l:=by
  intro l;induction l with
  |nil=>intro _ _;trivial
  | cons env r q =>intro hs hl;obtain⟨hk,⟨L,o,d,hn,y,hd⟩,hr⟩:=hl;have j:L∈X.fs:=hs L (by delta yO;rw[cb,d];exact aE);obtain⟨F,e⟩:=I.ah.slot L o y (I.ok.OO L j) j λz=>I.ok.GC L z j;exact⟨hk,⟨L,_,d,hn,e,hd⟩,q (λb hb=>hs b (by delta yO;rw[cb,d];exact jJ _ hb)) hr⟩
 exact all X.fb (λ_ hb=>hb) I.ok.rk
theorem Inv.stack (I:Inv X aa σ H s):s.heap.FunFrames X.ah X.stack:=by
 rcases I.ok.V5 with e|⟨e,d⟩
 .rw[e];exact I.rk
 .rw[e];exact eU I.loc λm hn _=>.cons (by rw[I.ok.kind];decide) d hn (Heap.get?_none_of_le<|aT I.ok.G7 I.ok.above) I.rk
def Inv.uJ (I:Inv X aa σ H s):∀ b∈yO X.stack,b∈X.env.locals::X.fs:=λb hb=>by
 rcases I.ok.V5 with e|⟨e,d⟩
 .rw[e]at hb;exact jJ _ hb
 .rw[e]at hb;delta yO at hb;rw[cb,d]at hb;exact hb
def Inv.qr (I:Inv X aa σ H s):∀ b∈yO X.stack,H b=none:=λb hb=>by
 rcases List.mem_cons.mp (I.uJ b hb)with e|hb
 .rw[e];exact I.free
 .obtain⟨_,o,d,_⟩:=I.ok.rk.mem hb;exact I.ah.free b o d (I.ok.OO b hb) λz=>I.ok.GC b z hb
def Inv.step {g':Array GenState}{t':Nat}{d':Drawn}{ch:az au}(I:Inv X aa σ H s)
 (G:∀ b∈ch,abj/\b≠X.env.locals/\aaM/\∀ p∈X.pn++aa,p.1≠b)
 (keep:∀ b o,b≠X.env.locals->b∉X.fs->b∉ch->s.heap.get? b=some o->H b=none->h'.get? b=some o)
 (slot:∀ b o,b≠X.env.locals->b∈X.fs->b∉ch->s.heap.get? b=some o->H b=none->∃ sl,h'.get? b=some { o with slots:=sl}) (free:∀ b o,b∉ch->s.heap.get? b=some o->H b=none->H' b=none)
 (there:∀ b o,b∉ch->s.heap.get? b=some o->∃ o',h'.get? b=some o')
 (qk:∀ b xs,H b=some (.tup xs)->H' b=some (.tup xs)) (pY:∀ b o u,H b=some (.oZ o u)->H' b=some (.oZ o u)) (qo:∀ b ps,H b=some (.Of ps)->∃ more,H' b=some (.Of<|ps++more))
 (ns:∀ m,s.heap.Ns X.env.locals m->h'.Ns X.env.locals m) (fO:oW X.prog X.w H' h') (hg:AllBare g'):
 Inv X aa σ H' {s with heap:=h',gens:=g',drawn:=d',toks:=t'}:=by
 have O:∀ b o,X.s₀.heap.get? b=some o->b≠X.env.locals:=λb o e=>aN<|aR (ic e) I.ok.above;have Bz:∀ b o,X.s₀.heap.get? b=some o->b∉X.ex->b∉ch:=λb o e j hb=>by
  rcases(G b hb).1 with z|z
  .exact j z
  .exact absurd (aR (ic e) z) (cn _)
 have J:∀ x c,X.env.cells.lookup x=some c->∀ v,s.heap.IsCell c v->h'.IsCell c v:=λx c e v h_=>eU h_ λo L hd=>by
  have F:c∉ch:=λz=>(G c z).2.2.1 x c e rfl;by_cases hc:c∈X.fs
  .obtain⟨sl,q⟩:=slot c o (I.RR x c e) hc F L<|I.ny x c e;exact⟨_,q,hd⟩
  .exact⟨o,keep c o (I.RR x c e) hc F L<|I.ny x c e,hd⟩
 refine⟨I.ok,I.os,hg,⟨λb o e n hb j=>?_,λb o e n hb j=>?_,λb o e n j=>?_,λb o e j=>?_,λb xs e=>qk b xs<|I.ah.qk b xs e,λb o xs e=>pY b o xs<|I.ah.pY b o xs e,λb ps e=>?_⟩,?_,λx c e=>?_,?_,λx c e=>?_,λp hp=>?_,fO,I.len⟩
 .exact keep b o (O b o e) hb (Bz b o e j) (I.ah.keep b o e n hb j) (I.ah.free b o e n j)
 .obtain⟨sl,e1⟩:=I.ah.slot b o e n hb j;obtain⟨Y,U⟩:=slot b _ (O b o e) hb (Bz b o e j) e1<|I.ah.free b o e n j;exact⟨Y,U⟩
 .obtain⟨o',e1⟩:=I.ah.there b o e j;exact free b o' (Bz b o e j) e1 (I.ah.free b o e n j)
 .obtain⟨o',e1⟩:=I.ah.there b o e j;exact there b o' (Bz b o e j) e1
 .obtain⟨m1,e1⟩:=I.ah.qo b ps e;obtain⟨m2,U⟩:=qo b _ e1;exact⟨m1++m2,by rw[U,Array.append_assoc]⟩
 .refine eU I.loc λm hn hl=>⟨m,ns m hn,λi x v e1 U e3=>eU (hl i x v e1 U e3) λu r l=>⟨u,r,?_⟩⟩;rcases l with l|⟨k,c,e,z⟩
  .exact .inl l
  .exact .inr ⟨k,c,e,J x c e _ z⟩
 .obtain⟨v,z⟩:=I.cell x c e;exact⟨v,J x c e v z⟩
 .obtain⟨m,⟨o,_,_,L,_⟩,_⟩:=I.loc;exact free _ o (λz=>(G _ z).2.1 rfl) L I.free
 .exact lJ (I.cell x c e) λv o L hd=>free c o (λz=>(G c z).2.2.1 x c e rfl) L (I.ny x c e)
 .refine Kh (I.pin p hp) λe n ne Z d=>?_;have F:p.1∉ch:=λz=>(G p.1 z).2.2.2 p hp rfl;exact⟨keep p.1 p.2 ne Z F e n,free p.1 p.2 F e n,ne,Z,d⟩
def Inv.un {t':Nat}(I:Inv X aa σ H s)(u:Un X.fs [] H H' s.heap h')(fO:oW X.prog X.w H' h'):Inv X aa σ H' { s with heap:=h',toks:=t'}:=by
 obtain⟨m,⟨o,es,M,y,r⟩,_⟩:=id I.loc;obtain⟨J,G⟩:=u.any y I.free ZN;exact I.step (g':=s.gens) (d':=s.drawn) (ch:=[]) (λ_ z=>nomatch z) (λb o _ hb _ e n=>u.keep b o e n hb<|by simp) (λb o _ hb _ e n=>u.slot b o e n hb<|by simp) (λb o _ e n=>u.free b o e n<|by simp) (λb o _ e=>u.there b o e<|by simp) u.qk u.pY u.qo (λL hm=>by
  refine Kg hm λo' j q d F=>?_
  rw[y]at d;cases d
  exact⟨_,j,q,G,F⟩) fO I.bare
def Inv.call {g':Array GenState}{t':Nat}{d':Drawn}{ch:az au}(I:Inv X aa σ H s)(u:Un (yO X.stack) ch H H' s.heap h')(fO:oW X.prog X.w H' h')(O:AllBare g')
 (y:∀ b∈ch,abj/\b≠X.env.locals/\aaM/\∀ p∈X.pn++aa,p.1≠b):
 Inv X aa σ H' {s with heap:=h',gens:=g',drawn:=d',toks:=t'}:=by
 obtain⟨m,⟨o,es,Z,L,r⟩,_⟩:=id I.loc;obtain⟨U,F⟩:=u.any L I.free λz=>(y _ z).2.1 rfl;exact I.step (ch:=ch) y (λb o F hb j e n=>u.keep b o e n (λz=>(List.mem_cons.mp<|I.uJ b z).elim F hb) j) (λb o _ _ j e n=>u.any e n j) (λb o j e n=>u.free b o e n j) (λb o j e=>u.there b o e j) u.qk u.pY u.qo (λY hm=>by
  refine Kg hm λo' G J q M=>?_
  rw[L]at q;cases q
  exact⟨_,G,J,F,M⟩) fO O
def Inv.turned {t':Nat}{it:au}(I:Inv X aa σ H s)(k:∀ b o,b≠it->s.heap.get? b=some o->h'.get? b=some o)(hn:H it=none)(y:it≠X.env.locals)
 (h1:it∈X.ex\/X.s₀.heap.objs.size<=it) (h2:∀ x c,X.env.cells.lookup x=some c->c≠it) (G:∀ p∈X.pn++aa,p.1≠it):Inv X aa σ H {s with heap:=h',toks:=t'}:=by
 have j:∀ b u,H b=some u->b≠it:=λb u e z=>by rw[z,hn]at e;cases e
 refine I.step (g':=s.gens) (d':=s.drawn) (ch:=[it]) (λb hb=>?_) (λb o _ _ d e _=>k b o (λz=>d<|by simp[z]) e) (λb o _ _ d e _=>⟨o.slots,k b o (λz=>d<|by simp[z]) e⟩) (λ_ _ _ _ n=>n)
  (λb o d e=>⟨o,k b o (λz=>d<|by simp[z]) e⟩) (λ_ _ e=>e) (λ_ _ _ e=>e) (λb ps e=>⟨#[],by rw[e];simp⟩) (λm hm=>?_) (λb u e=>?_) I.bare
 .have e:b=it:=by simpa using hb
  subst e
  exact⟨h1,y,h2,G⟩
 .exact Kg hm λo es J F r=>⟨o,es,J,k _ o (bB y) F,r⟩
 .refine(I.fO b u e).yb (λc v d q=>k c v ?_ q) (λ_ q=>q) λ_ _ q=>q;rcases d with z|z
  .rw[z];exact j b u e
  .exact j c _ z
def Inv.tok (I:Inv X aa σ H s)(t:Nat):Inv X aa σ H {s with toks:=t}:=I.un (h':=s.heap) (t':=t) Un.refl I.fO
theorem Inv.af {t':Nat}(I:Inv X aa σ H s)(k:∀ b u,s.heap.get? b=some u->h'.get? b=some u):Inv X aa σ H {s with heap:=h',toks:=t'}:=I.un (Un.af k) (I.fO.af k)
theorem Inv.laid {a:au}{o:HO}{t':Nat}(I:Inv X aa σ H s)(k:∀ b u,s.heap.get? b=some u->h'.get? b=some u)(d:s.heap.objs.size<=a)(new:iB X.prog X.w (upd H a o) h' a o):
 Inv X aa σ (upd H a o) {s with heap:=h',toks:=t'}:=I.un (Un.laid k d<|I.fO.fresh d) (I.fO.laid k d new)
theorem Inv.write {x e:au}{o:HO}{t':Nat}(I:Inv X aa σ H s)(j:VI (H x))(he:e=x\/H e=some (.own x))(k:∀ b u,b≠e->s.heap.get? b=some u->h'.get? b=some u)(d:∃ u,h'.get? e=some u)
 (new:iB X.prog X.w (upd H x o) h' x o):Inv X aa σ (upd H x o) {s with heap:=h',toks:=t'}:=I.un (Un.write j he k d) (I.fO.write j he k d new)
def Inv.weak {d:az (aA V)}(I:Inv X aa σ H s)(hl:d.length=σ.length)(w:∀(i:Nat) v,d[i]?=some (some v)->σ[i]?=some (some v)):Inv X aa d H s :=
 ⟨I.ok,I.os,I.bare,I.ah,let ⟨m,hn,UA⟩:=I.loc;⟨m,hn,λi x v e1 q j=>UA i x v e1 (w i v q) j⟩,I.cell,I.free,I.ny,I.pin,I.fO,hl.trans I.len⟩
def Inv.qL {pins':az ZE}(I:Inv X aa σ H s)(h:∀ p∈pins',s.heap.get? p.1=some p.2/\H p.1=none/\p.1≠X.env.locals/\p.1∉X.fs/\∀ v,p.2.data≠.cell v):Inv X pins' σ H s :=
 ⟨I.ok,I.os,I.bare,I.ah,I.loc,I.cell,I.free,I.ny,λp d=>(List.mem_append.mp d).elim (λz=>I.pin p<|List.mem_append_left _ z)<|h p,I.fO,I.len⟩
def Ak {N:az Str}(d:N.Nodup){i j:Nat}{x:Str}(a:N[i]?=some x)(b:N[j]?=some x):i=j:=by obtain⟨h1,e1⟩:=jA a;obtain⟨h2,q⟩:=jA b;exact(List.getElem_inj d).mp (e1.trans q.symm)
def wZ {M:Model}{A:Around}{E:av->ar->Prop}{i:Nat}{x:Str}{v:V}{u:av}{Q:Unit->ar->Prop}(I:Inv X aa σ H s)(hN:X.N.Nodup)(hi:X.N[i]?=some x)(J:Loc X.env.scope x)(r:fH v u)
 (h:∀ s',Inv X aa (σ.set i<|some v) H s'->(∃ a,Heap.SameBut a s.heap s'.heap/\(a=X.env.locals\/X.env.cells.lookup x=some a))->Q () s') (hf:X.fn x=true\/X.env.scope.names.lookup x=some .local:=by first|exact .inl rfl|exact .inr rfl|assumption):wpAny M A (storeName X.env x u) Q E s:=by
 refine eU (id I.loc) λm hn hl=>?_;have Xu:(X.env.scope.kind==.class||(X.env.scope.kind==.module&&X.env.locals != X.env.globals))=false:=by rw[I.ok.kind];rfl
 have U:i<σ.length:=by rw[I.len];exact(jA hi).1
 have RR:=I.RR;have F:∀ {a:au} {h':Heap},(∃ o,s.heap.get? a=some o/\H a=none)->Heap.SameBut a s.heap h'->oW X.prog X.w H h':=λ{a h'} ha hs b ob e=>by
  obtain⟨_,_,L⟩:=ha;refine(I.fO b ob e).yb (λc w' G q=>(hs.2 c ?_).trans q) (λ_ q=>q) λ_ _ q=>q;rintro rfl;rcases G with rfl|G
  .rw[L]at e;cases e
  .rw[L]at G;cases G
 rcases J with hk|hk
 .refine wpAny_storeName_local hk hn (λh' hn' hs=>?_) Xu;obtain⟨oL,_,_,hoL,_⟩:=id hn;refine h _ ⟨I.ok,I.os,I.bare,⟨λb o e n hb J=>?_,λb o e n hb J=>?_,I.ah.free,λb o e J=>?_,I.ah.qk,I.ah.pY,I.ah.qo⟩,⟨_,hn',λj y v' e1 O e3=>?_⟩,λy c e=>?_,I.free,I.ny,λp hp=>?_,F ⟨oL,hoL,I.free⟩ hs,by simpa using I.len⟩ ⟨_,hs,.inl rfl⟩
  .exact(hs.2 b<|aN<|aR (ic e) I.ok.above).trans (I.ah.keep b o e n hb J)
  .obtain⟨sl,e1⟩:=I.ah.slot b o e n hb J;exact⟨sl,(hs.2 b<|aN<|aR (ic e) I.ok.above).trans e1⟩
  .obtain⟨o',e1⟩:=I.ah.there b o e J;exact⟨o',(hs.2 b<|aN<|aR (ic e) I.ok.above).trans e1⟩
  .by_cases Y:j=i
   .subst Y;rw[hi]at e1;cases e1;rw[aV U]at O;cases O;exact⟨u,r,.inl ⟨hk,by simp⟩⟩
   .rw[aK (bB Y)]at O;refine eU (hl j y v' e1 O e3) λu' r' q=>⟨u',r',?_⟩;rcases q with⟨k,e⟩|⟨k,c,e,z⟩
    .refine .inl ⟨k,?_⟩;have:y≠x:=λe=>Y<|Ak hN e1<|e▸hi;simp[this,e]
    .exact .inr ⟨k,c,e,z.sameBut hs<|RR y c e⟩
  .obtain⟨w',z⟩:=I.cell y c e;exact⟨w',z.sameBut hs<|RR y c e⟩
  .exact Kh (I.pin p hp) λe n ne nf d=>⟨(hs.2 p.1 ne).trans e,n,ne,nf,d⟩
 .have Z:X.fn x=true:=by
   rcases hf with z|z
   .exact z
   .rw[z]at hk;cases hk
  obtain⟨c,G⟩:=I.ok.has x (.inl hk)
  obtain⟨w',z⟩:=I.cell x c G
  refine wpAny_storeName_cell I.ok.kind hk G z (λh' Y2 hs=>eU (id z) λoc Y1 Xl=>h {s with heap:=h'} ⟨I.ok,I.os,I.bare,⟨λb o e n hb J=>?_,λb o e n hb J=>?_,I.ah.free,λb o e J=>?_,I.ah.qk,I.ah.pY,I.ah.qo⟩,⟨m,hn.sameBut hs<|bB<|RR x c G,λj y v' e1 O e3=>?_⟩,λy c' e=>?_,I.free,I.ny,λp hp=>?_,F ⟨oc,Y1,I.ny x c G⟩ hs,by simpa using I.len⟩ ⟨c,hs,.inr G⟩)
  .exact(hs.2 b<|aN<|aR (ic e)<|I.ok.Vx x c Z G).trans (I.ah.keep b o e n hb J)
  .obtain⟨sl,e1⟩:=I.ah.slot b o e n hb J;exact⟨sl,(hs.2 b<|aN<|aR (ic e)<|I.ok.Vx x c Z G).trans e1⟩
  .obtain⟨o',e1⟩:=I.ah.there b o e J;exact⟨o',(hs.2 b<|aN<|aR (ic e)<|I.ok.Vx x c Z G).trans e1⟩
  .by_cases Y:j=i
   .subst Y;rw[hi]at e1;cases e1;rw[aV U]at O;cases O;exact⟨u,r,.inr ⟨.inl hk,c,G,Y2⟩⟩
   .rw[aK (bB Y)]at O;refine eU (hl j y v' e1 O e3) λu' r' q=>⟨u',r',?_⟩;rcases q with q|⟨k,c',e,z'⟩
    .exact .inl q
    .refine .inr ⟨k,c',e,z'.sameBut hs ?_⟩;rintro rfl;exact Y (Ak hN e1<|I.ok.inj _ _ _ e G▸hi)
  .by_cases Wi:c'=c
   .subst Wi;exact⟨_,Y2⟩
   .obtain⟨w2,z2⟩:=I.cell y c' e;exact⟨w2,z2.sameBut hs Wi⟩
  .refine Kh (I.pin p hp) λe n ne nf d=>⟨(hs.2 p.1 ?_).trans e,n,ne,nf,d⟩;intro q;rw[q,Y1]at e;have q':oc=p.2:=a5 e;exact d w' (q'▸Xl)
def mm {M:Model}{A:Around}{E:av->ar->Prop}{i:Nat}{x:Str}{v:V}{u:av}{Q:Unit->ar->Prop}(I:Inv X aa σ H s)(j:X.N.Nodup)(hi:X.N[i]?=some x)(d:Loc X.env.scope x)(r:fH v u)
 (h:∀ s',Inv X aa (σ.set i<|some v) H s'->Q () s') (hf:X.fn x=true\/X.env.scope.names.lookup x=some .local:=by first|exact .inl rfl|exact .inr rfl|assumption):wpAny M A (storeName X.env x u) Q E s:=
 wZ I j hi d r (λs' q _=>h s' q) hf
def Inv.KW {s':ar}{ch:az au}(I:Inv X aa σ H s)(j:s'.os=s.os)(u:Un (yO X.stack) ch H H' s.heap s'.heap)(fO:oW X.prog X.w H' s'.heap)(q:AllBare s'.gens)
 (d:∀ b∈ch,abj/\b≠X.env.locals/\aaM/\∀ p∈X.pn++aa,p.1≠b):Inv X aa σ H' s':=by
 obtain⟨h',g',d',t',o'⟩:=s';have e:o'=s.os:=j;subst e;exact I.call (g':=g') (t':=t') (d':=d') u fO q d
end
abbrev XK:=av->aA au->Hp->Prop
abbrev St:=az (aA V)
abbrev VK:=V->Hp->Prop
abbrev TE:=St->Hp->VK->Prop
abbrev TT:=St->Hp->(Bool->Hp->Prop)->Prop
abbrev TA:=St->Hp->(az V->Hp->Prop)->Prop
structure Ends where
 nx:St->Hp->Prop
 rt:VK
 bk:St->Hp->Prop:=λ_ _=>False
 ct:St->Hp->Prop:=λ_ _=>False
abbrev TS:=Ends->St->Hp->Prop
def EP (X:Cx)(aa:az ZE)(σ:St)(Q:VK)(u:av)(s':ar):Prop:=∃ v H',Inv X aa σ H' s'/\fH v u/\Q v H'
def TP (X:Cx)(aa:az ZE)(σ:St)(Q:Bool->Hp->Prop)(b:Bool)(s':ar):Prop:=∃ H',Inv X aa σ H' s'/\Q b H'
def AP (X:Cx)(aa:az ZE)(σ:St)(Q:az V->Hp->Prop)(us:az av)(s':ar):Prop:=∃ d H',Inv X aa σ H' s'/\fF d us/\Q d H'
def SP (X:Cx)(aa:az ZE)(D:Ends)(f:Flow)(s':ar):Prop :=
 match f with
 |.next=>∃ d H',Inv X aa d H' s'/\D.nx d H'
 |.brk=>∃ d H',Inv X aa d H' s'/\D.bk d H'
 |.cont=>∃ d H',Inv X aa d H' s'/\D.ct d H'
 |.ret u=>∃ v d H',Inv X aa d H' s'/\fH v u/\D.rt v H'
def PE (X:Cx)(e:Expr)(t:TE):Prop :=
 ∀(aa:az ZE) (s:ar) (σ:St) (H:Hp) (Q:VK),Inv X aa σ H s->t σ H Q->wpAny Zt X.A (eval e X.env) aad X.xe s
def PT (X:Cx)(e:Expr)(t:TT):Prop :=
 ∀(aa:az ZE) (s:ar) (σ:St) (H:Hp) (Q:Bool->Hp->Prop),Inv X aa σ H s->t σ H Q->wpAny Zt X.A (isTrue e X.env<|eval e X.env) (TP X aa σ Q) X.xe s
def PW (X:Cx)(e:Expr)(t:TT):Prop :=
 ∀(d:Sem av) (aa:az ZE) (s:ar) (σ:St) (H:Hp) (Q:Bool->Hp->Prop),Inv X aa σ H s->t σ H Q->wpAny Zt X.A (isTrue e X.env d) (TP X aa σ Q) X.xe s
def PW.pt {X:Cx}{e:Expr}{t:TT}(h:PW X e t):PT X e t:=h _
def PA (X:Cx)(es:az Expr)(t:TA):Prop :=
 ∀(pos:Pos) (aa:az ZE) (s:ar) (σ:St) (H:Hp) (Q:az V->Hp->Prop),Inv X aa σ H s->t σ H Q->wpAny Zt X.A (spliced<|backTo pos<|starEach es X.env) (AP X aa σ Q) X.xe s
def PS (X:Cx)(st:Stmt)(t:TS):Prop :=
 ∀(aa:az ZE) (s:ar) (σ:St) (H:Hp) (D:Ends),Inv X aa σ H s->t D σ H->wpAny Zt X.A (exec st X.env) (SP X aa D) X.xe s
def zk (X:Cx)(st:az Stmt)(t:TS):Prop :=
 ∀(aa:az ZE) (s:ar) (σ:St) (H:Hp) (D:Ends),Inv X aa σ H s->t D σ H->wpAny Zt X.A (execs st X.env) (SP X aa D) X.xe s
def gc {α:Type}{t:Sem α}{Q d:α->ar->Prop}{M:Model}{A:Around}{E:av->ar->Prop}{s:ar}(h:wpAny M A t Q E s)(j:∀ a s,Q a s->d a s):wpAny M A t d E s:=b7 h j λ_ _ x=>x
section
variable {X:Cx}
def bin {a b:Expr}{ta tb:TE}(ha:PE X a ta)(hb:PE X b tb){aa:az ZE}{s:ar}{σ:St}{H:Hp}{R:V->V->Hp->Prop}(I:Inv X aa σ H s)(h:ta σ H λx H1=>tb σ H1 λy H2=>R x y H2)
 {α:Type} {Q:α->ar->Prop} {f:av->av->Sem α}
 (hf:∀ v u q x y H2,Inv X aa σ H2 q->fH x v->fH y u->R x y H2->wpAny Zt X.A (f v u) Q X.xe q):
 wpAny Zt X.A (eval a X.env) (λv j=>wpAny Zt X.A (eval b X.env) (λu d=>wpAny Zt X.A (f v u) Q X.xe d) X.xe j) X.xe s:=by
 exact gc aah λv G F=>fw F λx H1 O L q1=>gc (hb aa G σ H1 _ O q1) λu q F=>fw F λy H2 M J q2=>hf v u q x y H2 M L J q2
def Tb (i:Nat):TE:=λσ H Q=>∃ v,σ[i]?=some (some v)/\Q v H
def tC (v:V):TE:=λ_ H Q=>Q v H
def yz {i:Nat}{x:Str}{pos:Pos}(y:X.N[i]?=some x)(q:R6 X.env.scope x)(hd:Zz=false:=by decide)(Es:abd=false:=by decide):PE X abh (Tb i):=by
 intro aa s σ H Q I h;refine eU h λv e h=>eU I.loc λm hn hl=>eU (hl i x v y e q) λu r l=>?_;have fin:EP X aa σ Q u s:=⟨v,H,I,r,h⟩;rcases l with⟨hk,hm⟩|⟨hk,c,j,d⟩
 .exact wpAny_Name (wpAny_loadName_local I.ok.kind hk hn hm fin) hd
 .rcases hk with hk | hk
  .exact wpAny_Name (wpAny_loadName_cell I.ok.kind hk j d fin) hd
  .exact wpAny_Name (wpAny_loadName_free I.ok.kind hk j d fin Es) hd
def gh {i j pos}:PE X (.Constant (.int i) j pos) (tC<|.int i):=λ_ _ _ H _ I h=>wpAny_Constant_int ⟨.int i,H,I.tok _,⟨_,rfl⟩,h⟩
def ID {b j pos}:PE X (.Constant (.bool b) j pos) (tC<|.bl b):=λ_ _ _ H _ I h=>Constant_bool ⟨.bl b,H,I,rfl,h⟩
def Qs {j pos}:PE X (.Constant .none j pos) (tC .fX):=λ_ _ _ H _ I h=>Constant_none ⟨.fX,H,I,rfl,h⟩
def Qq {x j pos}:PE X (.Constant (.str x) j pos) (tC<|.str x):=λ_ _ _ H _ I h=>Calls.Constant_str ⟨.str x,H,I.tok _,⟨_,rfl⟩,h⟩
def Gl (X:Cx)(x:Str):Prop:=X.env.kindOf x=some .globalImplicit
def qR {E:av->ar->Prop}{aa:az ZE}{s:ar}{σ:St}{H:Hp}{x:Str}{u:av}{pos:Pos}{Q:av->ar->Prop}(I:Inv X aa σ H s)(d:Gl X x)(hm:X.mg x=some u)(h:Q u s)
 (hd:Zz=false:=by decide):wpAny Zt X.A (eval abh X.env) Q E s:=
 Calls.Name_function_global I.ok.kind d (Calls.loadGlobal_global (I.ok.glob▸I.mod.glob.keeps I.bk) hm h) hd
def ku {E:av->ar->Prop}{aa:az ZE}{s:ar}{σ:St}{H:Hp}{x:Str}{u:av}{pos:Pos}{Q:av->ar->Prop}(I:Inv X aa σ H s)(j:Gl X x)(hm:X.mg x=none)(d:bootBuiltins x=some u)(h:Q u s)
 (hn:x ≠ "__name__":=by decide) (hd:Zz=false:=by decide):wpAny Zt X.A (eval abh X.env) Q E s:=by
 exact eU I.mod.blt λmb h1 h2=>Calls.Name_function_global I.ok.kind j (Calls.loadGlobal_builtin (I.ok.glob▸I.mod.glob.keeps I.bk) hm (I.ok.blt▸h1.keeps I.bk) ((h2 x hn).trans d) h) hd
def D6 {x:Str}{v:V}{u:av}{pos:Pos}(d:Gl X x)(hm:X.mg x=some u)(r:fH v u)(hd:Zz=false:=by decide):PE X abh (tC v) :=
 λ_ _ _ H _ I h=>qR I d hm ⟨v,H,I,r,h⟩ hd
def iP {x:Str}{v:V}{u:av}{pos:Pos}(j:Gl X x)(hm:X.mg x=none)(d:bootBuiltins x=some u)(r:fH v u)(hn:x ≠ "__name__":=by decide)(hd:Zz=false:=by decide):PE X abh (tC v) :=
 λ_ _ _ H _ I h=>ku I j hm d ⟨v,H,I,r,h⟩ hn hd
variable {a b:Expr}{ta tb:TE}{pos:Pos}
def PC (X:Cx)(op:CmpOp)(a b:Expr)(t:TE):Prop :=
 ∀(aa:az ZE) (s:ar) (σ:St) (H:Hp) (Q:VK),Inv X aa σ H s->t σ H Q ->
  wpAny Zt X.A (eval a X.env) (λv j=>wpAny Zt X.A (eval b X.env) (λu d=>wpAny Zt X.A (compareOp op v u) aad X.xe d) X.xe j) X.xe s
def Al (b:Expr){op:CmpOp}(h:op≠.In)(h2:op≠.NotIn):behindInMarks op b=false:=by
 have e1:(op==CmpOp.In)=false:=by cases op<;>first|rfl|exact absurd rfl h
 have d:(op==CmpOp.NotIn)=false:=by cases op<;>first|rfl|exact absurd rfl h2
 cases b<;>simp[behindInMarks,e1,d]
def Tf (ta:TE):TE:=λσ H Q=>ta σ H λx H1=>Q (.bl<|decide (x=.fX)) H1
def Oh (ta:TE):TE:=λσ H Q=>ta σ H λx H1=>Q (.bl<|!decide (x=.fX)) H1
def fH.Aj {x:V}{v:av}(r:fH x v):(v==Value.none)=decide (x=.fX):=by
 cases x with
 |fX=>subst r;rfl
 |bl _=>subst r;rfl
 |int _=>obtain⟨t,rfl⟩:=r;rfl
 |str _=>obtain⟨t,rfl⟩:=r;rfl
 |GP _=>obtain⟨t,rfl⟩:=r;rfl
 |OR _=>obtain⟨t,rfl⟩:=r;rfl
 |ref _=>subst r;rfl
 |ty _=>subst r;rfl
def IE {j pos'}(ha:PE X a ta):PC X .Is a (.Constant .none j pos') (Tf ta):=by intro aa s σ H Q I h;exact gc aah λv F q=>fw q λx H1 y d q1=>Constant_none (is_none_gen ⟨.bl _,H1,y,by rw[d.Aj];rfl,q1⟩)
def Ea {j pos'}(ha:PE X a ta):PC X .IsNot a (.Constant .none j pos') (Oh ta):=by intro aa s σ H Q I h;exact gc aah λv F q=>fw q λx H1 y d q1=>Constant_none (isnot_none_gen ⟨.bl _,H1,y,by rw[d.Aj];rfl,q1⟩)
def tB (t:TE):TT:=λσ H Q=>t σ H λx H1=>∃ c,x=.bl c/\Q c H1
def IB {op:CmpOp}{t:TE}(h:PC X op a b t)(h1:behindInMarks op b=false:=by first|exact Al _ rfl rfl|rfl):PE X (.Compare a [op] [b] pos) t:=λaa s σ H Q I d=>wpAny_Compare1 (h aa s σ H Q I d) h1
def yy {op:CmpOp}{t:TE}(h:PC X op a b t)(h1:behindInMarks op b=false:=by first | exact Al _ rfl rfl | rfl):PT X (.Compare a [op] [b] pos) (tB t):=by intro aa s σ H Q I y;refine wpAny_isTrue_Compare1 (gc (h aa s σ H _ I y) λv M h1=>gc h1 λu L h2=>gc h2 λc J F=>fw F λx H1 G j q1=>?_) h1;obtain⟨d,rfl,q⟩:=q1;subst j;exact cF ⟨H1,G,q⟩
variable {tA V4:TT}{rest:az Expr}
def To (t u:TT):TT:=λσ H Q=>t σ H λc H1=>if c=true then u σ H1 Q else Q false H1
def YJ (t u:TT):TT:=λσ H Q=>t σ H λc H1=>if c=true then Q true H1 else u σ H1 Q
def WB (t:TT):TT:=λσ H Q=>t σ H λc H1=>Q (!c) H1
def pw_and1 (ha:PT X a tA):PW X (.BoolOp .And [a] pos) tA:=by
 intro d aa s σ H Q I h;refine isTrue_and (gc (ha aa s σ H Q I h) λc j e=>?_);cases c with
 |true=>exact isTrue_and_nil e
 |false=>exact e
def pw_or1 (ha:PT X a tA):PW X (.BoolOp .Or [a] pos) tA:=by
 intro d aa s σ H Q I h;refine isTrue_or (gc (ha aa s σ H Q I h) λc j e=>?_);cases c with
 |false=>exact isTrue_or_nil e
 |true=>exact e
def pw_and (ha:PT X a tA)(hb:PW X (.BoolOp .And (b::rest) pos) V4):PW X (.BoolOp .And (a::b::rest) pos) (To tA V4):=by
 intro j aa s σ H Q I h;refine isTrue_and (gc aah λc q y=>eU y λH1 d q1=>?_);cases c with
 |true=>exact hb j aa q σ H1 Q d q1
 |false=>exact⟨H1,d,q1⟩
def pw_or (ha:PT X a tA)(hb:PW X (.BoolOp .Or (b::rest) pos) V4):PW X (.BoolOp .Or (a::b::rest) pos) (YJ tA V4):=by
 intro j aa s σ H Q I h;refine isTrue_or (gc aah λc q y=>eU y λH1 d q1=>?_);cases c with
 |true=>exact⟨H1,d,q1⟩
 |false=>exact hb j aa q σ H1 Q d q1
def Qe (ha:PT X a tA):PT X (.UnaryOp .Not a pos) (WB tA):=by intro aa s σ H Q I h;exact isTrue_not (ha aa s σ H (λc H1=>Q (!c) H1) I h)
def B6 {op}{t:TE}(h:PE X a t):PE X (.BoolOp op [a] pos) t:=λaa s σ H Q I d=>BoolOp_one (h aa s σ H Q I d)
def tIf (t:TT)(ta tb:TE):TE:=λσ H Q=>t σ H λc H1=>if c=true then ta σ H1 Q else tb σ H1 Q
def Iy {c:Expr}(y:PT X c tA)(ha:PE X a ta)(hb:PE X b tb):PE X (.IfExp c a b pos) (tIf tA ta tb):=by
 intro aa s σ H Q I h;refine wpAny_IfExp (gc (y aa s σ H _ I h) λd j F=>eU F λH1 q q1=>?_);cases d with
 |true=>exact ha aa j σ H1 Q q q1
 |false=>exact hb aa j σ H1 Q q q1
end
def nJ (K:aj)(H:Hp)(a:au)(xs:az V):Prop :=
 Rd H a (.lst xs) \/
  ∃(o:Obj) (Ju:Array av) (n:Nat),K.lookup a=some o/\o.cls=.type "list"/\o.dict=none/\o.data=.seq Ju n/\Ju.size<=sizeLine/\fF xs Ju.toList
def C4 (K:aj)(H:Hp)(a:au)(xs:az V):Prop :=
 Rd H a (.tup xs) \/
  ∃(o:Obj) (Ju:Array av) (n:Nat),K.lookup a=some o/\o.cls=.type "tuple"/\o.data=.seq Ju n/\Ju.size<=sizeLine/\fF xs Ju.toList
def Yu:av->aA V
 |.none=>some .fX
 |.bool b=>some (.bl b)
 |.int i _=>some (.int i)
 |.str x _=>some (.str x)
 |.bytes b _=>some (.GP b)
 |.float b _=>some (.OR b)
 |.ref a=>some (.ref a)
 |.type n=>some (.ty n)
 |_=>none
def fH.abs {x:V}{u:av}(r:fH x u):Yu u=some x:=by
 cases x with
 |fX=>subst r;rfl
 |bl _=>subst r;rfl
 |int _=>obtain⟨t,rfl⟩:=r;rfl
 |str _=>obtain⟨t,rfl⟩:=r;rfl
 |GP _=>obtain⟨t,rfl⟩:=r;rfl
 |OR _=>obtain⟨t,rfl⟩:=r;rfl
 |ref _=>subst r;rfl
 |ty _=>subst r;rfl
theorem fH.inj {x y:V}{u:av}(r:fH x u)(q:fH y u):x=y:=a5 (r.abs.symm.trans q.abs)
theorem fF.inj:∀ {xs ys:az V} {us:az av},fF xs us->fF ys us->xs=ys
 |_,_,_,.nil,.nil=>rfl
 |_,_,_,.cons r t,.cons d t'=>by rw[r.inj d,fF.inj t t']
section
variable {X:Cx}{aa:az ZE}{σ:St}{H:Hp}{s:ar}{a:au}{xs ys:az V}
def nJ.of {K:aj}(h:H a=some (.lst xs)):nJ K H a xs:=.inl (.inl h)
def C4.of {K:aj}(h:H a=some (.tup xs)):C4 K H a xs:=.inl (.inl h)
def Inv.list (I:Inv X aa σ H s)(h:nJ X.K H a xs):∃ d:az av,fF xs d/\PlainL s.heap a d.toArray/\xs.length<=sizeLine:=by
 rcases h with h|⟨o,d,n,hk,j,hd,hs,q,r⟩
 .obtain⟨z,d,n,r,e⟩:=h.ok I.fO;exact⟨d,r,⟨_,n,e,rfl,rfl,rfl⟩,z⟩
 .refine⟨d.toList,r,⟨o,n,I.se a o hk,j,hd,by simpa using hs⟩,?_⟩;have e:=r.length;simp only[cP]at e;lia
def Inv.tuple (I:Inv X aa σ H s)(h:C4 X.K H a xs):∃ d:az av,fF xs d/\IsTup s.heap a d.toArray/\xs.length<=sizeLine:=by
 rcases h with h|⟨o,d,n,hk,j,hs,q,r⟩
 .obtain⟨z,d,r,p⟩:=h.ok I.fO;exact⟨d,r,p,z⟩
 .refine⟨d.toList,r,⟨o,I.se a o hk,j,n,by simpa using hs⟩,?_⟩;have e:=r.length;simp only[cP]at e;lia
def Inv.Jh (I:Inv X aa σ H s)(h:nJ X.K H a xs)(h':nJ X.K H a ys):xs=ys:=by
 obtain⟨q,r,⟨o,n,e,_,_,d⟩,_⟩:=I.list h;obtain⟨j,G,⟨o',J,y,_,_,F⟩,_⟩:=I.list h';rw[e]at y;cases y;rw[d]at F;injection F with d1 _;have:q=j:=by simpa using b8 Array.toList d1
 subst this;exact r.inj G
end
abbrev Cx.wt (X:Cx)(E:av->ar->Prop):Cx:={ X with xe:=E}
abbrev Cx.QG (X:Cx):Cx:=X.wt λ_ _=>False
theorem Cx.Ok.wt {X:Cx}(ok:X.Ok)(E:av->ar->Prop):(X.wt E).Ok :=
 ⟨ok.mod,ok.kind,ok.glob,ok.blt,ok.above,ok.inj,ok.has,ok.Vx,ok.hd,ok.frames,ok.V5,ok.SI,ok.bs,ok.G7,ok.F1,ok.GC,ok.rk,ok.OO⟩
def Cx.Ok.nU {X:Cx}{E:av->ar->Prop}(ok:(X.wt E).Ok):X.Ok :=
 ⟨ok.mod,ok.kind,ok.glob,ok.blt,ok.above,ok.inj,ok.has,ok.Vx,ok.hd,ok.frames,ok.V5,ok.SI,ok.bs,ok.G7,ok.F1,ok.GC,ok.rk,ok.OO⟩
section
variable {X:Cx}{aa:az ZE}{σ:St}{H:Hp}{s:ar}{E:av->ar->Prop}
theorem Inv.wt (I:Inv X aa σ H s)(E:av->ar->Prop):Inv (X.wt E) aa σ H s:=⟨I.ok.wt E,I.os,I.bare,I.ah,I.loc,I.cell,I.free,I.ny,I.pin,I.fO,I.len⟩
theorem Inv.nU (I:Inv (X.wt E) aa σ H s):Inv X aa σ H s:=⟨I.ok.nU,I.os,I.bare,I.ah,I.loc,I.cell,I.free,I.ny,I.pin,I.fO,I.len⟩
theorem SP.nU {D:Ends}{f:Flow}{s':ar}(h:SP (X.wt E) aa D f s'):SP X aa D f s':=by
 cases f with
 |next=>obtain⟨d,H',I,q⟩:=h;exact⟨d,H',I.nU,q⟩
 |brk=>obtain⟨d,H',I,q⟩:=h;exact⟨d,H',I.nU,q⟩
 |cont=>obtain⟨d,H',I,q⟩:=h;exact⟨d,H',I.nU,q⟩
 |ret u=>obtain⟨v,d,H',I,r,q⟩:=h;exact⟨v,d,H',I.nU,r,q⟩
theorem zk.QG {st:az Stmt}{t:TS}(h:zk X.QG st t):zk X st t:=λaa s σ H D I d =>b7 (h aa s σ H D (I.wt _) d) (λ_ _ q=>q.nU) λ_ _ z=>False.elim z
end
section
variable {X:Cx}{st:Stmt}{rest:az Stmt}{t u:TS}{e:Expr}{te:TE}{pos:Pos}
def Te:TS:=λD σ H=>D.nx σ H
def Wz (t u:TS):TS:=λD σ H=>t { D with nx:=u D} σ H
def lU:zk X [] Te:=λ_ _ σ H _ I h=>wpAny_execs_nil ⟨σ,H,I,h⟩
def gI (h1:PS X st t)(h2:zk X rest u):zk X (st::rest) (Wz t u):=by
 intro aa s σ H D I h;refine wpAny_execs_cons (gc (h1 aa s σ H { D with nx:=u D} I h) λf j q=>?_);cases f with
 | next =>exact lJ q λd H' y q=>h2 aa j d H' D y q
 |ret v=>exact q
 |brk=>exact q
 |cont=>exact q
def jP (h1:PS X st t):zk X [st] t:=by
 intro aa s σ H D I h;refine wpAny_execs_cons (gc (h1 aa s σ H D I h) λf d q=>?_);cases f with
 |next=>exact wpAny_execs_nil q
 |ret v=>exact q
 |brk=>exact q
 |cont=>exact q
def Inv.quiet {aa:az ZE}{σ:St}{H:Hp}{s:ar}(I:Inv X aa σ H s):interactive X.env=false:=by simp[interactive,I.ok.kind]
def Th (te:TE):TS:=λD σ H=>te σ H λ_ H1=>D.nx σ H1
def Mm (he:PE X e te)(hs:swapsWith e none pos.line X.env=pure false:=by rfl):PS X (.Expr e pos) (Th te):=by intro aa s σ H D I h;exact wpAny_Expr_any (gc aaq λv q d=>fw d λx H1 j y q1=>⟨σ,H1,j,q1⟩) I.quiet hs
def WA (te:TE):TS:=λD σ H=>te σ H D.rt
def l5 (he:PE X e te):PS X (.Return (some e) pos) (WA te):=by intro aa s σ H D I h;exact wpAny_Return_some (gc aaq λv y j=>fw j λx H1 q d q1=>⟨x,σ,H1,q,d,q1⟩)
def WD (c:TT)(t u:TS):TS:=λD σ H=>c σ H λb H1=>if b=true then t D σ H1 else u D σ H1
def sU {c:Expr}{a b:az Stmt}{tc:TT}(y:PT X c tc)(ha:zk X a t)(hb:zk X b u):PS X (.If c a b pos) (WD tc t u):=by
 intro aa s σ H D I h;refine wpAny_If (gc (y aa s σ H _ I h) λd j F=>eU F λH1 q q1=>?_);cases d with
 |true=>exact ha aa j σ H1 D q q1
 |false=>exact hb aa j σ H1 D q q1
end
abbrev TG:=V->St->Hp->(St->Hp->Prop)->Prop
abbrev Bp:=az V->St->Hp->(St->Hp->Prop)->Prop
def PG (X:Cx)(target:Expr)(t:TG):Prop :=
 ∀(aa:az ZE) (s:ar) (σ:St) (H:Hp) (v:V) (u:av) (Q:St->Hp->Prop),Inv X aa σ H s->fH v u->t v σ H Q ->
  wpAny Zt X.A (assign target X.env u) (λ_ s'=>∃ d H',Inv X aa d H' s'/\Q d H') X.xe s
def G8 (X:Cx)(ts:az Expr)(t:Bp):Prop :=
 ∀(aa:az ZE) (s:ar) (σ:St) (H:Hp) (vs:az V) (us:az av) (Q:St->Hp->Prop),Inv X aa σ H s->fF vs us->t vs σ H Q ->
  wpAny Zt X.A (assignInOrder ((assignEach ts X.env).map ZI) us) (λ_ s'=>∃ d H',Inv X aa d H' s'/\Q d H') X.xe s
abbrev C3:=V->V->V->Hp->(Hp->Prop)->Prop
def N1 (X:Cx)(t:C3):Prop :=
 ∀(aa:az ZE) (s:ar) (σ:St) (H:Hp) (o i v:V) (ov iv u:av) (Q:Hp->Prop),Inv X aa σ H s->fH o ov->fH i iv->fH v u->t o i v H Q ->
  wpAny Zt X.A (setItem ov iv u) (λ_ s'=>∃ H',Inv X aa σ H' s'/\Q H') X.xe s
abbrev Pb:=V->V->Hp->VK->Prop
def VG (X:Cx)(op:Operator)(t:Pb):Prop :=
 ∀(aa:az ZE) (s:ar) (σ:St) (H:Hp) (x y:V) (v u:av) (Q:VK),Inv X aa σ H s->fH x v->fH y u->t x y H Q ->
  wpAny Zt X.A (inplaceOp op v u) aad X.xe s
section
variable {X:Cx}{pos:Pos}
def vD (i:Nat):TG:=λv σ H Q=>Q (σ.set i<|some v) H
def ue {i:Nat}{x:Str}(j:X.N.Nodup)(hi:X.N[i]?=some x)(d:Loc X.env.scope x)(hf:X.fn x=true\/X.env.scope.names.lookup x=some .local:=by first | exact .inl rfl | exact .inr rfl | assumption):PG X (.Name x pos) (vD i):=by intro aa s σ H v u Q I r h;exact wpAny_assign_Name (mm I j hi d r (λs' q=>⟨_,H,q,h⟩) hf)
def XE:Bp:=λd σ H Q=>d=[]/\Q σ H
def UG (t:TG)(u:Bp):Bp:=λj σ H Q=>∃ v r,j=v::r/\t v σ H λd H'=>u r d H' Q
def Mu:G8 X [] XE:=by intro aa s σ H d j Q I r h;obtain⟨e,h⟩:=h;subst e;cases r;exact assignInOrder_nil ⟨σ,H,I,h⟩
def Iu {e:Expr}{es:az Expr}{t:TG}{u:Bp}(h1:PG X e t)(h2:G8 X es u)
 (hs:(assignEach ZX X.env).map ZI=assign e X.env::(assignEach es X.env).map (·.2):=by rfl):G8 X ZX (UG t u):=by
 intro aa s σ H F J Q I r h;obtain⟨v,G,e1,h⟩:=h;subst e1;cases r with
 | cons r rr =>rw[hs];exact eB (gc (h1 aa s σ H _ _ _ I r h) λ_ j q=>lJ q λd H1 y q1=>h2 aa j d H1 _ _ Q y rr q1)
def XC (K:aj)(n:Nat)(t:Bp):TG:=λv σ H Q=>∃ a xs,v=.ref a/\C4 K H a xs/\xs.length=n/\t xs σ H Q
def Qo {es:az Expr}{k:Nat}{t:Bp}{n:Nat}(G:X.fU=true)(h:G8 X es t)
 (hn:(assignEach es X.env).length=n:=by rfl) (Ux:(assignEach es X.env).findIdx? Zx=none:=by rfl):PG X (.Tuple es k pos) (XC X.K n t):=by
 intro aa s σ H v u Q I r d;obtain⟨a,xs,e1,F,hl,d⟩:=d;subst e1;subst r;refine jF (I.tuple F) λq j ht L=>assign_Tuple_tuple (I.ok.hd G) ht (by simp[hn,<- hl,j.length]) Ux λh' y=>?_;have J:Inv X aa σ H {s with heap:=h'}:=I.af (t':=s.toks) λb o e=>y b o (aN<|ic e) e;exact h aa _ σ H xs _ Q J (by simpa using j) d
def XD (to ti:TE)(t:C3):TG:=λv σ H Q=>to σ H λo H1=>ti σ H1 λi H2=>t o i v H2 λd=>Q σ d
def va {o i:Expr}{to ti:TE}{t:C3}(O:PE X o to)(hi:PE X i ti)(hs:N1 X t)
 (ha:∀ v,assign (.Subscript o i pos) X.env v=(do
   let d <- holding [v] aaF
   let j <- holding [v,d] (eval i X.env)
   standAt pos
   holding [v,d,j] (setItem d j v)
   release [v,d,j] []):=by intro _;rfl):PG X (.Subscript o i pos) (XD to ti t):=by
 intro aa s σ H v u Q I r h
 rw[ha]
 exact fj (cg<|gc (O aa s σ H _ I h) λd G q=>fw q λx H1 Z L q1=>fj<|cg<|gc (hi aa G σ H1 _ Z q1) λj F q=>fw q λy H2 Y J q2=>fj<|dw<|fj<|cg<|gc (hs aa F σ H2 x y v d j u _ Y L J r q2) λ_ s3 q=>eU q λH3 U M=>wpAny_release ⟨σ,H3,U,M⟩)
def PB (te:TE)(g:TG):TS:=λD σ H=>te σ H λx H1=>g x σ H1 D.nx
def rZ {tg e:Expr}{te:TE}{g:TG}(he:PE X e te)(y:PG X tg g)(hs:swapsWithSole [tg] e pos.line X.env=pure false:=by rfl)(hw:swappedStores [tg] e X.env=pure none:=by rfl)
 (h1:(assignEach [tg] X.env).map ZI=[assign tg X.env]:=by rfl):PS X (.Assign [tg] e pos) (PB te g):=by
 intro aa s σ H D I h;refine wpAny_Assign_stores (gc aaq λv d F=>fw F λx H1 G j q1=>?_) hs hw;rw[h1];exact gc (y aa d σ H1 x v _ G j q1) λ_ J q=>q
def rY {i:Nat}{x:Str}{e:Expr}{te:TE}{pos':Pos}(F:X.N.Nodup)(hi:X.N[i]?=some x)(j:Loc X.env.scope x)(he:PE X e te)(hs:swapsWith e (some<|.Name x pos') pos.line X.env=pure false:=by rfl)(hf:X.fn x=true\/X.env.scope.names.lookup x=some .local:=by first | exact .inl rfl | exact .inr rfl | assumption):
 PS X (.Assign [.Name x pos'] e pos) (PB te<|vD i):=by
 intro aa s σ H D I h;refine wpAny_Assign_Name (gc aaq λv M q=>fw q λy H1 J d q1=>?_) hs;exact mm J F hi j d (λL G=>⟨_,H1,G,q1⟩) hf
def WK (i:Nat)(te:TE)(ti:Pb):TS:=λD σ H=>∃ x,σ[i]?=some (some x)/\te σ H λy H1=>ti x y H1 λz H2=>D.nx (σ.set i<|some z) H2
def Qk {i:Nat}{x:Str}{e:Expr}{te:TE}{op:Operator}{ti:Pb}{pos':Pos}(Z:X.N.Nodup)(hi:X.N[i]?=some x)(G:Loc X.env.scope x)(he:PE X e te)(U:VG X op ti)(hf:X.fn x=true\/X.env.scope.names.lookup x=some .local:=by first | exact .inl rfl | exact .inr rfl | assumption):
 PS X (.AugAssign (.Name x pos') op e pos) (WK i te ti):=by
 intro aa s σ H D I h;refine eU h λv e1 h=>eU I.loc λm hn hl=>?_;have F:R6 X.env.scope x:=by rcases G with k|k;exact .inl k;exact .inr (.inl k)
 refine eU (hl i x v hi e1 F) λu r l=>wpAny_AugAssign_Name ?_;have go:wpAny Zt X.A (eval e X.env) (λw q=>wpAny Zt X.A (inplaceOp op u w) (λr j=>wpAny Zt X.A (storeName X.env x r) (λ_=>SP X aa D .next) X.xe j) X.xe q) X.xe s:=by exact gc aaq λw L J=>fw J λy H1 I1 O q1=>gc (U aa L σ H1 v y u w _ I1 r O q1) λz s2 J=>fw J λzv H2 I2 M q2=>mm I2 Z hi G M (λs3 I3=>⟨_,H2,I3,q2⟩) hf
 rcases l with⟨hk,hm⟩|⟨hk,c,Y,d⟩
 .exact wpAny_loadName_local I.ok.kind hk hn hm go
 .rcases hk with hk | hk
  .exact wpAny_loadName_cell I.ok.kind hk Y d go
  .rcases G with k | k
   .have:X.env.scope.names.lookup x=some .free:=hk;rw[k]at this;cases this
   .have:X.env.scope.names.lookup x=some .free:=hk;rw[k]at this;cases this
def Tn (to ti te:TE)(j:V->V->Hp->VK->Prop)(q:Pb)(d:C3):TS:=λD σ H=>to σ H λo H1=>ti σ H1 λi H2=>j o i H2 λx J=>te σ J λy I=>q x y I λz G=>d o i z G λF=>D.nx σ F
def VH (X:Cx)(t:V->V->Hp->VK->Prop):Prop :=
 ∀(aa:az ZE) (s:ar) (σ:St) (H:Hp) (o i:V) (ov iv:av) (Q:VK),Inv X aa σ H s->fH o ov->fH i iv->t o i H Q ->
  wpAny Zt X.A (getItem ov iv) aad X.xe s
def Mn {o i e:Expr}{to ti te:TE}{q:V->V->Hp->VK->Prop}{G:Pb}{j:C3}{op:Operator}{kQ:Pos}(ho:PE X o to)(hi:PE X i ti)(hg:VH X q)(he:PE X e te)(hp:VG X op G)(hs:N1 X j)
 (ha:∀ y F new,augStore i y F new=(do holding [new,y,F] (setItem y F new);release [new,y,F] [];pure .next):=by intros;rfl):PS X (.AugAssign (.Subscript o i kQ) op e pos) (Tn to ti te q G j):=by
 intro aa s σ H D I h;refine wpAny_AugAssign_SubscriptAny (gc (ho aa s σ H _ I h) λy s1 d=>fw d λL H1 I1 O q1=>?_) ha;exact gc (hi aa s1 σ H1 _ I1 q1) λF s2 d=>fw d λJ H2 I2 M q2=>gc (hg aa s2 σ H2 L J y F _ I2 O M q2) λold s3 d=>fw d λZ H3 I3 r3 q3=>gc (he aa s3 σ H3 _ I3 q3) λv s4 d=>fw d λY H4 I4 r4 q4=>gc (hp aa s4 σ H4 Z Y old v _ I4 r3 r4 q4) λnew s5 d=>fw d λU H5 I5 r5 q5=>gc (hs aa s5 σ H5 L J U y F new _ I5 O M r5 q5) λ_ s6 d=>eU d λH6 I6 q6=>⟨σ,H6,I6,q6⟩
def ipI (f:Int->Int->Int):Pb:=λx y H Q=>∃ i j,x=.int i/\y=.int j/\Q (.int<|f i j) H
def QY:VG X .Add (ipI λi j=>i+j):=by intro aa s σ H x y v u Q I F d h;refine fw h λi j e1 G q=>?_;subst e1;subst G;obtain⟨t,rfl⟩:=F;obtain⟨J,rfl⟩:=d;exact iadd_int ⟨.int _,H,I.tok _,⟨_,rfl⟩,q⟩
end
section
variable {X:Cx}{pos:Pos}
def Po (c:TT)(tb:TS):TS:=λD σ H=>∃ W:Nat->St->Hp->Prop,(∃ m,W m σ H)/\∀ m σ H,W m σ H ->
 c σ H λb H1=>if b=true then ∃ N:St->Hp->Prop,(∀ d H',N d H'->∃ j,j<m/\W j d H')/\tb { D with nx:=N,ct:=N,bk:=D.nx} σ H1 else D.nx σ H1
def Il {c:Expr}{body:az Stmt}{tc:TT}{tb:TS}(Y:PassesOwn Zt X.A X.env X.xe)(hc:PT X c tc)(hb:zk X body tb):PS X (.While c body [] pos) (Po tc tb):=by
 intro aa s σ H D I h;obtain⟨W,⟨m0,w0⟩,y⟩:=h;refine wpAny_While (codeAny_whileLoop (λn s'=>∃ q H',Inv X aa q H' s'/\W n q H') (λn s1 O=>lJ O λj H1 I1 w1=>?_) m0 ⟨σ,H,I,w0⟩);refine c6 Y (gc (hc aa s1 j H1 _ I1<|y n j H1 w1) λb s2 O=>eU O λH2 I2 q2=>?_);cases b with
 | true =>
  refine eU q2 λN Z q2=>?_;rw[aF rfl];refine c6 Y (gc (hb aa s2 j H2 _ I2 q2) λf s3 G=>?_);cases f with
  | next =>exact lJ G λd F U L=>eU (Z d F L) λM hm J=>⟨M,hm,d,F,U,J⟩
  | cont =>exact lJ G λd F U L=>eU (Z d F L) λM hm J=>⟨M,hm,d,F,U,J⟩
  |brk=>exact G
  |ret v=>exact G
 | false =>rw[aD aZ];exact wpAny_execs_nil ⟨j,H2,I2,q2⟩
end
structure It where
 go:Nat->Hp->Prop
 Fw:Nat->Hp->V->Hp->Prop
 stop:Nat->Hp->Prop
def kZ (X:Cx)(aa:az ZE)(H:Hp)(b:au):Prop :=
 H b=none/\b≠X.env.locals/\b∉X.fs/\abj/\aaM/\∀ p∈X.pn++aa,p.1≠b
def Inv.wz {X:Cx}{aa:az ZE}{σ:St}{H H':Hp}{s:ar}{b:au}(I:Inv X aa σ H s)(hb:s.heap.objs.size<=b)(hn:H' b=none):kZ X aa H' b:=by
 refine⟨hn,bD<|aR I.lt hb,I.W3 hb,.inr<|aT I.sz hb,λx c e z=>?_,λp d z=>?_⟩
 .obtain⟨v,q⟩:=I.cell x c e;exact absurd (aR q.lt<|z▸hb) (cn _)
 .exact absurd (aR (ic (I.pin p d).1)<|z▸hb) (cn _)
structure Turn (P:ak)(w:ao)(K:aj)(tg:Expr)(J:It)(fp:List au)(it:au)(tn:Nat->Heap->Prop)(CM:Cx->Prop:=λX=>X.fU=true):Prop where
 mem:it∈fp
 obj:∀ i h,tn i h->∀ b∈fp,∃ o,h.get? b=some o/\∀ v,o.data≠.cell v
 keep:∀ i h h',tn i h->(∀ b∈fp,∀ o,h.get? b=some o->h'.get? b=some o)->tn i h'
 item:∀(X:Cx),X.prog=P->X.w=w->X.K=K->CM X->∀(i:Nat) (aa:List ZE) (s:ar) (σ:St) (H:Hp) (E:av->ar->Prop),Inv X aa σ H s->(∀ b∈fp,kZ X aa H b)->tn i s.heap->J.go i H ->
  wpAny (model P w) X.A (pyNext<|.ref it) (λr s1=>∃ u,r=some u /\
   wpAny (model P w) X.A (letOwnedTupleGo tg (.ref it) u) (λ_ s2=>∃ x H',Inv X aa σ H' s2/\fH x u/\J.Fw i H x H'/\tn abe s2.heap/\∀ b∈fp,H' b=none) E s1) E s
 done:∀(X:Cx),X.prog=P->X.w=w->X.K=K->CM X->∀(i:Nat) (aa:List ZE) (s:ar) (σ:St) (H:Hp) (E:av->ar->Prop),Inv X aa σ H s->(∀ b∈fp,kZ X aa H b)->tn i s.heap->J.stop i H ->
  wpAny (model P w) X.A (pyNext<|.ref it) (λr s1=>r=none/\Inv X aa σ H s1) E s
 self:∀(A:Around) (i:Nat) (s:ar) (Q:av->ar->Prop) (E:av->ar->Prop),tn i s.heap->Q (.ref it) s->wpAny (model P w) A (pyIter<|.ref it) Q E s
abbrev TI:=St->Hp->(It->Hp->Prop)->Prop
def Zl (X:Cx)(aa:az ZE)(σ:St)(tg:Expr)(R:It->Hp->Prop)(d:av)(s2:ar):Prop :=
 ∃(j:au) (fp:az au) (tn:Nat->Heap->Prop) (J:It) (H':Hp),d=.ref j/\Inv X aa σ H' s2/\Turn X.prog X.w X.K tg J fp j tn/\tn 0 s2.heap/\(∀ b∈fp,kZ X aa H' b)/\R J H'
def PI (X:Cx)(tg iter:Expr)(d:TI):Prop :=
 ∀(aa:az ZE) (s:ar) (σ:St) (H:Hp) (R:It->Hp->Prop),Inv X aa σ H s->d σ H R ->
  wpAny Zt X.A (eval iter X.env) (λv j=>wpAny Zt X.A (pyIter v) (Zl X aa σ tg R) X.xe j) X.xe s
def AE {M:Model}{A:Around}{E:av->ar->Prop}{s:ar}{tg:Expr}{it:au}{u:av}{o:Obj}{n:String}{vs:Array av}{Q:Unit->ar->Prop}(j:s.heap.get? it=some o)(q:o.cls=.type n)(hd:o.data=.fields vs)
 (hn:["enumerate","zip","dict_itemiterator","dict_reverseitemiterator","odict_iterator","itertools.zip_longest","itertools.pairwise"].contains n=false) (d:Q () s):wpAny M A (letOwnedTupleGo tg (.ref it) u) Q E s:=by
 delta letOwnedTupleGo;cases tg <;> first
  |exact aC d
  | (cases u <;> first
      |exact aC d
      | (refine fj (wpAny_load j ?_)
         rw[q,hd]
         show wpAny M A (if(["enumerate","zip","dict_itemiterator","dict_reverseitemiterator","odict_iterator","itertools.zip_longest","itertools.pairwise"].contains n&&vs[0]?==some (rawInt _))=true then _ else _) Q E s
         rw[aD (by intro h;rw[hn,Bool.false_and]at h;cases h)]
         exact aC d))
def YA (K:aj)(a:au):It :=
 ⟨λi H=>∃ xs x,nJ K H a xs/\xs[i]?=some x,λi H x H'=>H'=H/\∀ xs,nJ K H a xs->xs[i]?=some x,λi H=>∃ xs,nJ K H a xs/\xs.length<=i⟩
def VL (lo:Int)(n:Nat):It:=⟨λi _=>i<n,λi H x H'=>H'=H/\x=.int (lo+i),λi _=>n<=i⟩
def FA {P:ak}{w:ao}{K:aj}{tg:Expr}(a it:au):Turn P w K tg (YA K a) [it] it (λi h=>h.IsListIter it a i) where
 mem:=by simp
 obj:=λi h st b hb=>by
  have e:b=it:=by simpa using hb
  subst e;exact jF st λo e c d=>⟨o,e,λv z=>by rw[d]at z;cases z⟩
 keep:=λi h h' st k=>st.at λo e=>k it ZN o e
 item:=by intro X O L U hc i aa s σ H E I y st M;subst O L U;refine lJ M λxs x q J=>jF (I.list q) λG F p hz=>eU (F.get J) λu hu ru=>p5 (y it<|by simp) λf0 f1 f2 f3 Z Y=>wpAny_pyNext_list_item st p.isList (x:=u) (by simpa using hu) λh' j sb=>?_;have I1:Inv X aa σ H {s with heap:=h'}:=I.turned (t':=s.toks) aau f0 f1 f3 Z Y;exact jF (id j) λo e c d=>⟨u,rfl,AE (s:={s with heap:=h'}) e c d rfl ⟨x,H,I1,ru,⟨rfl,λys hy=>by rw[I.Jh hy q];exact J⟩,j,λb hb=>(y b hb).1⟩⟩
 done:=by intro X O L U hc i aa s σ H E I y st M;subst O L U;obtain⟨xs,q,J⟩:=M;refine jF (I.list q) λG F p hz=>p5 (y it<|by simp) λf0 f1 f2 f3 Z Y=>?_;have hl:=F.length;exact wpAny_pyNext_list_end aaQ st p.isList (by simp;lia) λh' eb=>⟨rfl,I.turned (t':=s.toks) (λb o hb e=>eb b o hb e) f0 f1 f3 Z Y⟩
 self:=λ_ _ _ _ _ st h=>wpAny_pyIter_listiter st h
def BF {P:ak}{w:ao}{K:aj}{tg:Expr}(it:au)(lo:Int)(n:Nat):Turn P w K tg (VL lo n) [it] it (λi h=>IsRangeIter h it (lo+(i:Nat)*1) ((n:Int) - (i:Nat)) 1) where
 mem:=by simp
 obj:=λi h st b hb=>by
  have e:b=it:=by simpa using hb
  subst e;exact⟨_,st,λv z=>by
   have Z:Data.fields _=Data.cell v:=z
   cases Z⟩
 keep:=λi h h' st k=>k it ZN _ st
 item:=by intro X G q J F i aa s σ H E I j st y;subst G q J;refine p5 (j it<|by simp) λY U f2 O M L=>?_;have W:=Walks.range (prog:=X.prog) (w:=X.w) (I.ok.hd F) it lo 1 n;refine W.item i s _ _ y st λv h' tk hv d kk=>?_;obtain⟨t,rfl⟩:=hv;have I1:Inv X aa σ H {s with heap:=h',toks:=tk}:=I.turned (λb o hb e=>kk b o (by simpa using hb) e) Y U O M L;refine⟨_,rfl,AE (s:={s with heap:=h',toks:=tk}) (n:= "range_iterator") d rfl rfl rfl ⟨.int<|lo+i,H,I1,⟨t,?_⟩,⟨rfl,rfl⟩,d,λb hb=>(j b hb).1⟩⟩;rw[Int.mul_one]
 done:=by intro X G q J F i aa s σ H E I j st y;subst G q J;exact p5 (j it<|by simp) λY U f2 O M L=>wpAny_pyNext_range_end (I.ok.hd F) st (by have:n<=i:=y;lia) λh' eb=>⟨rfl,I.turned (t':=s.toks) (λb o hb e=>eb b o hb e) Y U O M L⟩
 self:=λ_ _ _ _ _ st h=>wpAny_pyIter_rangeiter st h
section
variable {X:Cx}{tg:Expr}
def Ur (K:aj)(tl:TE):TI:=λσ H R=>tl σ H λx H1=>∃ a,x=.ref a/\(∃ xs,nJ K H1 a xs)/\R (YA K a) H1
def Ms {l:Expr}{tl:TE}(hl:PE X l tl):PI X tg l (Ur X.K tl):=by
 intro aa s σ H R I h;refine gc (hl aa s σ H _ I h) λv d J=>fw J λx H1 j y q1=>?_;obtain⟨a,e,⟨xs,G⟩,q⟩:=q1;subst e;subst y;refine jF (j.list G) λF L p M=>c9 p.isList ⟨d.heap.objs.size,[d.heap.objs.size],_,_,H1,rfl,j.af (t':=d.toks) λb o e=>iU _ e,FA a _,⟨_,aL _ rfl,rfl,rfl⟩,λb hb=>?_,q⟩;have e:b=d.heap.objs.size:=by simpa using hb
 subst e;exact j.wz aaa (j.fO.fresh<|aB _)
def zY {aa:az ZE}{σ:St}{H:Hp}{s:ar}{R:It->Hp->Prop}{E:av->ar->Prop}{lo hi:Int}{t u v:Tok}{tk:Nat}(I:Inv X aa σ H s)(h1:-(2 ^ 62)<=lo)(h2:lo<2 ^ 62)(y:-(2 ^ 62)<=hi)(j:hi<2 ^ 62)
 (q:R (VL lo (hi - lo).toNat) H):wpAny Zt X.A (pyIter<|.ref s.heap.objs.size) (Zl X aa σ tg R) E {s with heap:=s.heap.push { cls:=.type "range",data:=.fields #[.int lo t,.int hi u,.int 1 v]},toks:=tk}:=by
 refine wpAny_pyIter_range (IsRange.new ..) (small_one h1 h2 y j) ?_;have d:Inv X aa σ H {s with heap:=s.heap.push { cls:=.type "range",data:=.fields #[.int lo t,.int hi u,.int 1 v]},toks:=tk}:=I.af λb o e=>iU _ e;refine⟨(s.heap.push { cls:=.type "range",data:=.fields #[.int lo t,.int hi u,.int 1 v]}).objs.size,[(s.heap.push { cls:=.type "range",data:=.fields #[.int lo t,.int hi u,.int 1 v]}).objs.size],_,_,H,rfl,
  d.af (t':=tk) λb o e=>iU _ e,BF _ lo (hi - lo).toNat,?_,λb hb=>?_,q⟩
 .have e1:lo+((0:Nat):Int)*1=lo:=by simp
  have F:(((hi - lo).toNat:Nat):Int) - ((0:Nat):Int)=Builtin.Range.rangeSize lo hi 1:=by rw[rangeSize_one];split<;>lia
  rw[e1,F]
  exact aL _ rfl
 .have e:b=(s.heap.push { cls:=.type "range",data:=.fields #[.int lo t,.int hi u,.int 1 v]}).objs.size:=by simpa using hb
  subst e
  exact d.wz aaa (d.fO.fresh<|aB _)
def Uq (ta:TA):TI:=λσ H R=>ta σ H λd H1=>∃ j:Int,d=[.int j] /\ -(2 ^ 62)<=j/\j<2 ^ 62/\R (VL 0 j.toNat) H1
def Up (ta:TA):TI:=λσ H R=>ta σ H λd H1=>∃ i j:Int,d=[.int i,.int j]/\(-(2 ^ 62)<=i/\i<2 ^ 62 /\ -(2 ^ 62)<=j/\j<2 ^ 62)/\R (VL i (j - i).toNat) H1
def FT {a:Expr}{ta:TA}{p pos:Pos}(y:Gl X "range")(hm:X.mg "range"=none)(ha:PA X [a] ta)(hs:starEach [a] X.env=[(false,eval a X.env)]:=by rfl):PI X tg (.Call (.Name "range" p) [a] [] pos) (Uq ta):=by
 intro aa s σ H R I h;refine Call_ (ku I y hm boot_range<|bA (gc abb λL M F=>fw F λJ H1 G d q1=>?_) hs rfl);obtain⟨j,e,q1,q2,q⟩:=q1;subst e;cases d with
 | cons r rr =>cases rr;obtain⟨t,rfl⟩:=r;exact call_range_1 (zY G (Int.ofNat_nonneg _) (Int.ofNat_nonneg _) q1 q2<|by simpa using q)
def FR {a b:Expr}{ta:TA}{p pos:Pos}(J:Gl X "range")(hm:X.mg "range"=none)(ha:PA X [a,b] ta)(hs:starEach [a,b] X.env=[(false,eval a X.env),(false,eval b X.env)]:=by rfl)(yJ:starEach [b] X.env=[(false,eval b X.env)]:=by rfl):
 PI X tg (.Call (.Name "range" p) [a,b] [] pos) (Up ta):=by
 intro aa s σ H R I h;refine Call_ (ku I J hm boot_range<|bA (gc abb λU Z L=>fw L λO H1 M d q1=>?_) (by rw[hs,yJ]) (by rw[yJ];rfl));obtain⟨i,j,e,⟨q1,q2,G,F⟩,q⟩:=q1;subst e;cases d with
 | cons r rr =>
  cases rr with
  | cons y rr =>cases rr;obtain⟨t,rfl⟩:=r;obtain⟨Y,rfl⟩:=y;exact call_range_2 (zY M q1 q2 G F q)
def WG (y:TI)(g:TG)(tb:TS):TS:=λD σ H=>y σ H λJ H1=>∃ W:Nat->Nat->St->Hp->Prop,(∃ m,W 0 m σ H1)/\∀ i m σ H,W i m σ H ->
 (J.stop i H/\D.nx σ H)\/(J.go i H/\∃ N:St->Hp->Prop,(∀ d H',N d H'->∃ q,q<m/\W abe q d H')/\∀ x H',J.Fw i H x H'->g x σ H' λj H2=>tb { D with nx:=N,ct:=N,bk:=D.nx} j H2)
def r0 (d:az au)(h:Heap):az (au×Obj):=d.filterMap λb=>(h.get? b).map λo=>(b,o)
def kr {d:az au}{h:Heap}{b:au}{o:Obj}(hb:b∈d)(e:h.get? b=some o):(b,o)∈r0 d h:=List.mem_filterMap.mpr ⟨b,hb,by rw[e];rfl⟩
def FZ {d:az au}{h:Heap}{p:au×Obj}(j:p∈r0 d h):p.1∈d/\h.get? p.1=some p.2:=by
 refine eU (List.mem_filterMap.mp j) λb hb e=>?_;cases q:h.get? b with
 |none=>rw[q]at e;cases e
 | some o =>rw[q]at e;have y:(b,o)=p:=a5 e;subst y;exact⟨hb,q⟩
def Inv.pinned {aa:az ZE}{σ:St}{H:Hp}{s:ar}{j:az au}(I:Inv X aa σ H s)(hf:∀ b∈j,kZ X aa H b)(F:∀ b∈j,∃ o,s.heap.get? b=some o/\∀ v,o.data≠.cell v):Inv X (aa++r0 j s.heap) σ H s :=
 I.qL λp y=>(List.mem_append.mp y).elim (λz=>I.pin p<|aW _ z) λz=>by obtain⟨hb,e⟩:=FZ z;refine CN (hf p.1 hb) λL J G _=>eU (F p.1 hb) λo q d=>?_;rw[e]at q;cases q;exact⟨e,L,J,G,d⟩
def Inv.nV {aa pl:az ZE}{σ:St}{H:Hp}{s:ar}(I:Inv X (aa++pl) σ H s):Inv X aa σ H s:=I.qL λp d=>I.pin p (aW _<|List.mem_append_left _ d)
def Qi {iter:Expr}{body:az Stmt}{wi:TI}{g:TG}{tb:TS}{pos:Pos}(hp:PassesOwn Zt X.A X.env X.xe)(hc:X.fU=true)(hi:PI X tg iter wi)(hg:PG X tg g)(hb:zk X body tb)
 (hs:∀ x,foldedSetIterable iter X.env x=pure x:=by intro _;rfl):PS X (.For tg iter body [] pos) (WG wi g tb):=by
 intro aa s σ H D I h;refine wpAny_For (gc (hi aa s σ H _ I h) λv s1 h1=>gc h1 λYX s2 h2=>?_) hs;obtain⟨it,fp,tn,J,H2,e,I2,T,st2,f2,W,⟨m0,w0⟩,Y⟩:=h2;subst e;have F:∀ {H':Hp},aas->∀ b∈fp,kZ X aa H' b:=λhn b hb=>⟨hn b hb,(f2 b hb).2⟩;refine codeAny_forLoop_any (λn s'=>∃ i y H',Inv X aa y H' s'/\tn i s'.heap/\aas/\W i n y H') (λn s3 M=>AS M λi q H3 I3 Z UJ w3=>?_) m0 ⟨0,σ,H2,I2,st2,λb hb=>(f2 b hb).1,w0⟩;rcases Y i n q H3 w3 with⟨stop,qn⟩|⟨go,N,hN,step⟩
 .refine c6 hp (gc (T.done X rfl rfl rfl hc i aa s3 q H3 X.xe I3 (F UJ) Z stop) λr s4 M=>gv M λhr I4=>?_);subst hr;exact wpAny_execs_nil ⟨q,H3,I4,qn⟩
 .refine c6 hp (gc (T.item X rfl rfl rfl hc i aa s3 q H3 X.xe I3 (F UJ) Z go) λr s4 M=>eU M λu hr h4=>?_);subst hr;refine c6 hp (gc h4 λ_ s5 M=>GG M λx H5 I5 r5 y5 U UI=>?_);have VO:=I5.pinned (F UI)<|T.obj _ _ U;refine c6 hp (gc (hg _ s5 q H5 x u _ VO r5<|step x H5 y5) λ_ s6 M=>lJ M λσ6 H6 I6 q6=>c6 hp<|gc (hb _ s6 σ6 H6 _ I6 q6) λf s7 O=>?_);have again:∀ {j:St} {L:Hp},Inv X (aa++r0 fp s5.heap) j L s7->N j L->∃ m,m<n/\∃ i y H',Inv X aa y H' s7/\tn i s7.heap/\aas/\W i m y H':=λ{j L} G n7=>by refine eU (hN j L n7) λm' hm w7=>⟨m',hm,i+1,j,L,G.nV,T.keep _ _ _ U λb hb o e=>(G.pin (b,o)<|aW _<|aW _<|kr hb e).1,λb hb=>?_,w7⟩;exact eU (T.obj _ _ U b hb) λo e d=>(G.pin (b,o)<|aW _<|aW _<|kr hb e).2.1
  cases f with
  |next=>obtain⟨j,L,G,n7⟩:=O;exact again G n7
  |cont=>obtain⟨j,L,G,n7⟩:=O;exact again G n7
  |brk=>obtain⟨j,L,G,O⟩:=O;exact⟨j,L,G.nV,O⟩
  |ret v=>obtain⟨x7,j,L,G,r7,O⟩:=O;exact⟨x7,j,L,G.nV,r7,O⟩
end
abbrev R2:=V->V->Hp->VK->Prop
def jG (X:Cx)(f:av->av->Sem av)(r:R2):Prop :=
 ∀(aa:az ZE) (s:ar) (σ:St) (H:Hp) (x y:V) (v u:av) (Q:VK),Inv X aa σ H s->fH x v->fH y u->r x y H Q ->
  wpAny Zt X.A (f v u) aad X.xe s
def Yv (X:Cx)(f:av->Sem av)(r:V->Hp->VK->Prop):Prop :=
 ∀(aa:az ZE) (s:ar) (σ:St) (H:Hp) (x:V) (v:av) (Q:VK),Inv X aa σ H s->fH x v->r x H Q ->
  wpAny Zt X.A (f v) aad X.xe s
def h9 (X:Cx)(f:av)(r:az V->Hp->VK->Prop):Prop :=
 ∀(aa:az ZE) (s:ar) (σ:St) (H:Hp) (xs:az V) (us:az av) (Q:VK),Inv X aa σ H s->fF xs us->r xs H Q ->
  wpAny Zt X.A (call f us) aad X.xe s
def Td (r:R2)(ta tb:TE):TE:=λσ H Q=>ta σ H λx H1=>tb σ H1 λy H2=>r x y H2 Q
def tUn (r:V->Hp->VK->Prop)(ta:TE):TE:=λσ H Q=>ta σ H λx H1=>r x H1 Q
def rI (C:Int->Int->Prop)(g:Int->Int->V):R2:=λx y H Q=>∃ i j,x=.int i/\y=.int j/\C i j/\Q (g i j) H
def Mc (g:Int->Int->V):R2:=λx y H Q=>∃ i j,x=.int i/\y=.int j/\Q (g i j) H
def rU (g:Int->V):V->Hp->VK->Prop:=λx H Q=>∃ i,x=.int i/\Q (g i) H
section
variable {X:Cx}{a b c:Expr}{ta tb tc:TE}{pos:Pos}
def NU (ha:PE X a ta)(hb:PE X b tb){aa:az ZE}{s:ar}{σ:St}{H:Hp}{R:V->V->Hp->Prop}(I:Inv X aa σ H s)
 (h:ta σ H λx H1=>tb σ H1 λy H2=>R x y H2) {Q:av->ar->Prop} {f:av->av->Sem av}
 (hf:∀ v u q x y H2,Inv X aa σ H2 q->fH x v->fH y u->R x y H2->wpAny Zt X.A (f v u) Q X.xe q):
 wpAny Zt X.A (eval a X.env) (λv j=>wpAny Zt X.A (eval b X.env) (λu d=>wpAny Zt X.A (f v u) Q X.xe d) X.xe j) X.xe s:=by
 exact gc aah λv G F=>fw F λx H1 O L q1=>gc (hb aa G σ H1 _ O q1) λu q F=>fw F λy H2 M J q2=>hf v u q x y H2 M L J q2
def jH {op:Operator}{r:R2}(G:jG X (binaryOp op) r)(ha:PE X a ta)(hb:PE X b tb):PE X (.BinOp a op b pos) (Td r ta tb):=by intro aa s σ H Q I h;exact wpAny_BinOp (NU ha hb I h λv u d x y H2 J F j q=>G aa d σ H2 x y v u Q J F j q)
def TR {op:UnaryOp}{r:V->Hp->VK->Prop}(q:Yv X (unaryOp op) r)(ha:PE X a ta):PE X (.UnaryOp op a pos) (tUn r ta):=by intro aa s σ H Q I h;exact UnaryOp_ (gc aah λv d y=>fw y λx H1 F j q1=>q aa d σ H1 x v Q F j q1)
def V9 {f:av->av->Sem av}{C:Int->Int->Prop}{g:Int->Int->Int}
 (rule:∀(i j:Int) (t u:Tok) (s:ar) (Q:av->ar->Prop) (E:av->ar->Prop),C i j->Q (.int (g i j) s.toks) {s with toks:=s.toks+1}->wpAny Zt X.A (f (.int i t)<|.int j u) Q E s):
 jG X f (rI C λi j=>.int<|g i j):=by
 intro aa s σ H x y v u Q I L J h;refine jz h λi j F d M q=>?_;subst F;subst d;obtain⟨t,rfl⟩:=L;obtain⟨G,rfl⟩:=J;exact rule i j t G s _ _ M ⟨.int<|g i j,H,I.tok _,⟨_,rfl⟩,q⟩
def Ua {f:av->av->Sem av}{g:Int->Int->Int}
 (rule:∀(i j:Int) (t u:Tok) (s:ar) (Q:av->ar->Prop) (E:av->ar->Prop),Q (.int (g i j) s.toks) {s with toks:=s.toks+1}->wpAny Zt X.A (f (.int i t)<|.int j u) Q E s):
 jG X f (Mc λi j=>.int<|g i j):=by
 intro aa s σ H x y v u Q I L J h;refine fw h λi j F d q=>?_;subst F;subst d;obtain⟨t,rfl⟩:=L;obtain⟨G,rfl⟩:=J;exact rule i j t G s _ _ ⟨.int<|g i j,H,I.tok _,⟨_,rfl⟩,q⟩
def Mw {f:av->av->Sem av}{g:Int->Int->Bool}
 (rule:∀(i j:Int) (t u:Tok) (s:ar) (Q:av->ar->Prop) (E:av->ar->Prop),Q (.bool<|g i j) s->wpAny Zt X.A (f (.int i t)<|.int j u) Q E s):
 jG X f (Mc λi j=>.bl<|g i j):=by
 intro aa s σ H x y v u Q I L J h;refine fw h λi j F d q=>?_;subst F;subst d;obtain⟨t,rfl⟩:=L;obtain⟨G,rfl⟩:=J;exact rule i j t G s _ _ ⟨.bl<|g i j,H,I,rfl,q⟩
def VX (i j:Int):Prop:=0<j/\j<1073741824
def VW (i j:Int):Prop:=0<=j/\j<=1000000/\i.natAbs<2 ^ 64
def G1 (i j:Int):Prop:=(-(2 ^ 64)<i/\i<2 ^ 64)\/(-(2 ^ 64)<j/\j<2 ^ 64)
def G1.ok {i j:Int}(h:G1 i j):IntMulOk i j:=by
 rcases h with⟨h1,h2⟩|⟨h1,h2⟩
 .exact .of_left (intBits_le_64 h1 h2)
 .exact .of_right (intBits_le_64 h1 h2)
def QE:jG X (binaryOp .Add) (Mc λi j=>.int<|i+j):=Ua λ_ _ _ _ _ _ _ q=>add_int q
def Qz:jG X (binaryOp .Sub) (Mc λi j=>.int<|i - j):=Ua λ_ _ _ _ _ _ _ q=>sub_int q
def QB:jG X (binaryOp .Mult) (rI G1 λi j=>.int<|i*j):=V9 λ_ _ _ _ _ _ _ d q=>mul_int q d.ok
def Mv:jG X (binaryOp .FloorDiv) (rI VX λi j=>.int<|i / j):=V9 λi j _ _ _ _ _ d q=>by have h1:(0:Int)<j:=d.1;have h2:j<1073741824:=d.2;exact floordiv_int Zs (by rw[Int.fdiv_eq_ediv_of_nonneg i Zs];exact q) (.inl<|PyProof.noPylong_small<|by lia)
def QC:jG X (binaryOp .Mod) (rI (λ_ j=>0<j) λi j=>.int<|i%j):=V9 λi j _ _ _ _ _ d q=>by have h1:(0:Int)<j:=d;exact mod_int' Zs (by rw[Int.fmod_eq_emod_of_nonneg i Zs];exact q)
def QA:jG X (binaryOp .Pow) (rI VW λi j=>.int<|i ^ j.toNat):=V9 λ_ _ _ _ _ _ _ d q=>pow_int_small d.1 d.2.1 d.2.2 q
def unI {f:av->Sem av}{g:Int->Int}
 (rule:∀(i:Int) (t:Tok) (s:ar) (Q:av->ar->Prop) (E:av->ar->Prop),Q (.int (g i) s.toks) {s with toks:=s.toks+1}->wpAny Zt X.A (f<|.int i t) Q E s):
 Yv X f (rU λi=>.int<|g i):=by
 intro aa s σ H x v Q I d h;obtain⟨i,rfl,q⟩:=h;obtain⟨t,rfl⟩:=d;exact rule i t s _ _ ⟨.int<|g i,H,I.tok _,⟨_,rfl⟩,q⟩
def Pm:Yv X (unaryOp .USub) (rU λi=>.int<|-i):=unI λ_ _ _ _ _ q=>neg_int q
end
def Tt:V->V->Bool
 |.fX,.fX=>true|.fX,.int _=>true|.int _,.fX=>true|.fX,.bl _=>true|.bl _,.fX=>true|.fX,.str _=>true|.str _,.fX=>true
 |.int _,.int _=>true|.bl _,.bl _=>true|.str _,.str _=>true|.GP _,.GP _=>true
 |.int _,.str _=>true|.str _,.int _=>true|.bl _,.str _=>true|.str _,.bl _=>true
 |_,_=>false
def rEq:R2:=λx y H Q=>Tt x y=true/\Q (.bl<|decide (x=y)) H
def rNe:R2:=λx y H Q=>Tt x y=true/\Q (.bl<|!decide (x=y)) H
def ET {i j:Int}:decide (V.int i=V.int j)=(i==j):=by rw[c8];simp
def Kr {i j:Bool}:decide (V.bl i=V.bl j)=(i==j):=by rw[c8];simp
def ES {i j:Str}:decide (V.str i=V.str j)=(i==j):=by rw[c8];simp
def EU {i j:Array UInt8}:decide (V.GP i=V.GP j)=(i.toList==j.toList):=by rw[c8];cases i;cases j;simp
section
variable {X:Cx}{a b c:Expr}{ta tb tc:TE}{pos:Pos}
def gd {aa:az ZE}{σ:St}{H:Hp}{s:ar}{Q:VK}{k k':Bool}(I:Inv X aa σ H s)(q:Q (.bl k) H)(e:k=k'):EP X aa σ Q (.bool k') s:=by subst e;exact⟨.bl k,H,I,rfl,q⟩
def OH:jG X (compareOp .Eq) rEq:=by
 intro aa s σ H x y v u Q I G d h;obtain⟨hs,q⟩:=h;cases x with
 | fX =>
  cases G;cases y with
  |fX=>subst d;exact PySem.EqNone.eq_none_none (gd I q<|by simp)
  |bl j=>subst d;exact PySem.EqNone.eq_none_bool (gd I q<|by simp)
  |int j=>obtain⟨F,rfl⟩:=d;exact PySem.EqNone.eq_none_int (gd I q<|by simp)
  |str j=>obtain⟨F,rfl⟩:=d;exact PySem.EqNone.eq_none_str (gd I q<|by simp)
  |_=>exact absurd ZU aZ
 | bl i =>
  subst G;cases y with
  |fX=>subst d;exact PySem.EqNone.eq_bool_none (gd I q<|by simp)
  |bl j=>cases d;exact eq_bool (gd I q Kr)
  |str j=>obtain⟨F,rfl⟩:=d;exact PySem.EqMixed.eq_bool_str (gd I q<|by simp)
  |_=>exact absurd ZU aZ
 | int i =>
  obtain⟨t,rfl⟩:=G;cases y with
  |fX=>cases d;exact PySem.EqNone.eq_int_none (gd I q<|by simp)
  |int j=>obtain⟨F,rfl⟩:=d;exact eq_int (gd I q ET)
  |str j=>obtain⟨F,rfl⟩:=d;exact PySem.EqMixed.eq_int_str (gd I q<|by simp)
  |_=>exact absurd ZU aZ
 | str i =>
  obtain⟨t,rfl⟩:=G;cases y with
  |fX=>cases d;exact PySem.EqNone.eq_str_none (gd I q<|by simp)
  |bl j=>cases d;exact PySem.EqMixed.eq_str_bool (gd I q<|by simp)
  |int j=>obtain⟨F,rfl⟩:=d;exact PySem.EqMixed.eq_str_int (gd I q<|by simp)
  |str j=>obtain⟨F,rfl⟩:=d;exact eq_str (gd I q ES)
  |_=>exact absurd ZU aZ
 | GP i =>
  obtain⟨t,rfl⟩:=G;cases y with
  |GP j=>obtain⟨F,rfl⟩:=d;exact W.eq_bytes (gd I q EU)
  |_=>exact absurd ZU aZ
 |_=>cases y<;>exact absurd ZU aZ
def T1:jG X (compareOp .NotEq) rNe:=by
 intro aa s σ H x y v u Q I G d h;obtain⟨hs,q⟩:=h;cases x with
 | fX =>
  cases G;cases y with
  |fX=>subst d;exact PySem.EqNone.ne_none_none (gd I q<|by simp)
  |bl j=>subst d;exact PySem.EqNone.ne_none_bool (gd I q<|by simp)
  |int j=>obtain⟨F,rfl⟩:=d;exact PySem.EqNone.ne_none_int (gd I q<|by simp)
  |str j=>obtain⟨F,rfl⟩:=d;exact PySem.EqNone.ne_none_str (gd I q<|by simp)
  |_=>exact absurd ZU aZ
 | bl i =>
  subst G;cases y with
  |fX=>subst d;exact PySem.EqNone.ne_bool_none (gd I q<|by simp)
  |bl j=>subst d;exact ne_bool (gd I q<|b8 not Kr)
  |str j=>obtain⟨F,rfl⟩:=d;exact PySem.EqMixed.ne_bool_str (gd I q<|by simp)
  |_=>exact absurd ZU aZ
 | int i =>
  obtain⟨t,rfl⟩:=G;cases y with
  |fX=>subst d;exact PySem.EqNone.ne_int_none (gd I q<|by simp)
  |int j=>obtain⟨F,rfl⟩:=d;exact ne_int (gd I q<|b8 not ET)
  |str j=>obtain⟨F,rfl⟩:=d;exact PySem.EqMixed.ne_int_str (gd I q<|by simp)
  |_=>exact absurd ZU aZ
 | str i =>
  obtain⟨t,rfl⟩:=G;cases y with
  |fX=>cases d;exact PySem.EqNone.ne_str_none (gd I q<|by simp)
  |bl j=>cases d;exact PySem.EqMixed.ne_str_bool (gd I q<|by simp)
  |int j=>obtain⟨F,rfl⟩:=d;exact PySem.EqMixed.ne_str_int (gd I q<|by simp)
  |str j=>obtain⟨F,rfl⟩:=d;exact ne_str (gd I q<|b8 not ES)
  |_=>exact absurd ZU aZ
 | GP i =>
  obtain⟨t,rfl⟩:=G;cases y with
  |GP j=>obtain⟨F,rfl⟩:=d;exact W.ne_bytes (gd I q<|b8 not EU)
  |_=>exact absurd ZU aZ
 |_=>cases y<;>exact absurd ZU aZ
def T6:jG X (compareOp .Lt) (Mc λi j=>.bl<|decide (i<j)):=Mw λ_ _ _ _ _ _ _ q=>lt_int q
def T7:jG X (compareOp .LtE) (Mc λi j=>.bl<|decide (i<=j)):=Mw λ_ _ _ _ _ _ _ q=>le_int q
def T8:jG X (compareOp .Gt) (Mc λi j=>.bl<|decide (j<i)):=Mw λ_ _ _ _ _ _ _ q=>gt_int q
def T9:jG X (compareOp .GtE) (Mc λi j=>.bl<|decide (j<=i)):=Mw λ_ _ _ _ _ _ _ q=>ge_int q
def FW:jG X (compareOp .In) (λx y H Q=>∃ i j,x=.str i/\y=.str j/\Q (.bl<|!(Builtin.Str.occurrences j i 0 j.length 1).isEmpty) H):=by intro aa s σ H x y v u Q I J G h;refine fw h λi j F d q=>?_;subst F;subst d;obtain⟨t,rfl⟩:=J;obtain⟨L,rfl⟩:=G;exact in_str (gd I q rfl)
def jG.or {f:av->av->Sem av}{r F:R2}(h:jG X f r)(h':jG X f F):jG X f (λx y H Q=>r x y H Q\/F x y H Q):=by
 intro aa s σ H x y v u Q I j d q;rcases q with q|q
 .exact h aa s σ H x y v u Q I j d q
 .exact h' aa s σ H x y v u Q I j d q
def ia (b:Expr){op:CmpOp}(h:op≠.In:=by decide)(h2:op≠.NotIn:=by decide):behindInMarks op b=false:=by
 have e1:(op==CmpOp.In)=false:=by cases op<;>first|rfl|exact absurd rfl h
 have d:(op==CmpOp.NotIn)=false:=by cases op<;>first|rfl|exact absurd rfl h2
 cases b<;>simp[behindInMarks,e1,d]
def uf {op:CmpOp}{r:R2}(G:jG X (compareOp op) r)(ha:PE X a ta)(hb:PE X b tb)(hm:behindInMarks op b=false):PE X (.Compare a [op] [b] pos) (Td r ta tb):=by intro aa s σ H Q I h;exact wpAny_Compare1 (NU ha hb I h λv u d x y H2 J F j q=>G aa d σ H2 x y v u Q J F j q) hm
def Pz (r q:R2)(ta tb tc:TE):TE:=λσ H Q=>ta σ H λx H1=>tb σ H1 λy H2=>r x y H2 λz d=>∃ k,z=.bl k /\
 (if k=true then tc σ d λj F=>q y j F Q else Q (.bl false) d)
def IC {op j:CmpOp}{r J:R2}(ho:jG X (compareOp op) r)(F:jG X (compareOp j) J)(ha:PE X a ta)(hb:PE X b tb)(hc:PE X c tc)
 (hm:lastMarks [op,j] [b,c]=false:=by with_unfolding_all rfl):PE X (.Compare a [op,j] [b,c] pos) (Pz r J ta tb tc):=by
 intro aa s σ H Q I h;refine Compare_chain (gc aah λv s1 q=>fw q λx H1 I1 r1 q1=>chain_link (gc (hb aa s1 σ H1 _ I1 q1) λu s2 q=>fw q λy H2 I2 G q2 =>
  gc (ho aa s2 σ H2 x y v u _ I2 r1 G q2) λd s3 ⟨z,O,M,r3,k,e,L⟩=>?_)) hm
 subst e;subst r3;refine cF ?_;cases k with
 |false=>exact ite_ff ⟨.bl false,O,M,rfl,L⟩
 |true=>exact ite_tt (chain_last<|gc (hc aa s3 σ O _ M L) λY Z q=>fw q λU H4 I4 r4 q4=>F aa Z σ H4 y U u Y Q I4 G r4 q4)
def pV:(sizeLine:Nat)<2 ^ 63:=by rw[sizeLine_eq];decide
def B9:jG X (binaryOp .Add) (λx y H Q=>∃ i j,x=.str i/\y=.str j/\i.length+j.length<=sizeLine/\Q (.str<|i++j) H):=by intro aa s σ H x y v u Q I L J h;refine jz h λi j F d M q=>?_;subst F;subst d;obtain⟨t,rfl⟩:=L;obtain⟨G,rfl⟩:=J;exact add_str (λG tk=>⟨.str<|i++j,H,I.tok _,⟨_,rfl⟩,q⟩) M
def vals1 {x:V}{us:az av}(r:fF [x] us):∃ u,us=[u]/\fH x u:=by
 cases r with
 |cons j d=>cases d;exact⟨_,rfl,j⟩
def vals2 {x y:V}{us:az av}(r:fF [x,y] us):∃ u d,us=[u,d]/\fH x u/\fH y d:=by
 cases r with
 | cons G F =>
  cases F with
  |cons q j=>cases j;exact⟨_,_,rfl,G,q⟩
def GO (F:X.fU=true):h9 X (.builtin "max") (λxs H Q=>∃ i j,xs=[.int i,.int j]/\Q (.int<|if j>i then j else i) H):=by
 intro aa s σ H xs J Q I r h;refine lJ h λi j y q=>?_;subst y;obtain⟨u,G,rfl,⟨t,rfl⟩,⟨L,rfl⟩⟩:=vals2 r;refine max_two_ints (I.ok.hd F) λh' tk k=>⟨_,H,I.af k,?_,q⟩;by_cases d:j>i
 .rw[aF d,aF d];exact⟨_,rfl⟩
 .rw[aD d,aD d];exact⟨_,rfl⟩
end
structure C5 (h:Heap)(x dx C:au)(mA:Str->Option av):Prop where
 obj:h.get? x=some (W.instObj C dx)
 ns:h.Ns1 dx mA
 ne:dx≠x
def F5 {h:Heap}{dx:au}{mA:Str->aA av}(n:h.Ns1 dx mA):∃ od,h.get? dx=some od/\∀ name,W.lookIn name od=some (mA name):=by
 refine wB n λo es I F hd hk _ hm=>⟨o,F,λname=>?_⟩;have e:=hm name;unfold nsFind findBy at e;rw[<- Array.find?_toList]at e;delta W.lookIn;rw[hd];dsimp only;split
 .rename_i y q;rw[q]at e;exact b8 some e
 .rename_i q;rw[q]at e;have a:es.toList.any (·.refKey)=false:=by rw[eR];intro y j;refine GH (hk y<|Array.mem_toList_iff.mp j) λz t d=>?_;simp[DictEntry.refKey,d]
  have G:¬ es.toList.any (·.refKey)=true:=a▸aZ;rw[aD G];exact b8 some e
def C5.look {h:Heap}{x dx C:au}{mA:Str->aA av}(I:C5 h x dx C mA):∃ od,W.InstAt h x (W.instObj C dx) C (some od)/\∀ name,W.lookIn name od=some (mA name) :=
 eU (F5 I.ns) λod d hl=>⟨od,⟨I.obj,rfl,rfl,d⟩,hl⟩
section
variable {prog:ak}{w:ao}{A:Around}{E:av->ar->Prop}{s:ar}{K:aj}{x dx C f:au}{mA:Str->aA av}{name:Str}{v:av}
def get_map {expr:Bool}{Q:av->ar->Prop}(X:K.In s.heap)(I:C5 s.heap x dx C mA)(q:W.plainGet K C name=true)(hh:W.hasDictIn K C=true)
 (ha:W.findIn K ZY name=some none) (j:mA name=some v) (d:W.handedIn v=true) (h:Q v {s with toks:=s.toks+1}):
 wpAny Zw A (getAttr (.ref x) name expr) Q E s:=by
 exact eU I.look λy J hl=>W.get_value X J (W.plainGet_of q).1 (W.findObj_own hh ha rfl (by rw[hl,j])) d h
def JI {pl:Sem Bool}{Q:av×az av->ar->Prop}(X:K.In s.heap)(I:C5 s.heap x dx C mA)(d:W.plainGet K C name=true)
 (hf:W.findIn K ZY name=some (some<|.ref f)) (ht:W.isFn K aaf=true) (q:mA name=none) (h:Q (.ref f,[.ref x]) s):
 wpAny Zw A (getMethod (.ref x) name pl) Q E s:=by
 exact eU I.look λj J hl=>W.method_fn X J (W.plainGet_of d).1 (W.plainGet_of d).2 hf (beq_iff_eq.mp ht) (by show(W.lookIn name j).map (·.isSome)=some false;rw[hl,q];rfl) h
def L7 {ns:az Str}{Q:Unit->ar->Prop}(X:K.In s.heap)(I:C5 s.heap x dx C mA)
 (hs:W.findIn K ZY "__setattr__"=some (some<|.builtin "object.__setattr__")) (O:W.plainOver K C=true) (ht:W.takerIn K C name=some none) (hh:W.hasDictIn K C=true)
 (hw:PySem.Within mA ns) (hsz:ns.length<=sizeLine)
 (h:∀ h',C5 h' x dx C (λy=>if y=name then some v else mA y)->Heap.SameBut dx s.heap h'->Q () {s with heap:=h',toks:=s.toks+2}):
 wpAny Zw A (setAttr (.ref x) name v) Q E s:=by
 refine eU I.look λod J hl=>W.set_plain X J hs (W.osa_open (s:={s with toks:=s.toks+1}) (r:=none) X J O ht λb=>eU (W.any_some hh) λcd U G=>?_);have M:s.heap.get? x=some ⟨.ref C,some dx,.plain,#[]⟩:=I.obj;refine fj<|aC<|fj<|fj<|wpAny_loadPart M<|fj<|W.Looks.here (s:={s with toks:=s.toks+1}) (W.looks_clsIn X U) ?_;rw[G];exact aC (a:=some dx) (fj<|aC<|fj<|wpAny_nsSet1 (s:={s with toks:=s.toks+1}) I.ns λh' j d=>p4 (j.count<|PySem.Within.cons name v hw) λoD Y Z q F L=>fj<|wpAny_lookBehind q (F▸pastItsLine_dict (aT L (by rw[aY];lia)))<|aC<|h _ ⟨(d.2 _<|bB I.ne).trans I.obj,j,I.ne⟩ d)
def Jd {R:Result->ar->Prop}{vs:az av}{kw:az (Str×av)}(X:K.In s.heap)(hm:W.makesIn K C=true)
 (hi:W.findIn K ZY "__init__"=some (some<|.ref f)) (hf:W.typeIn K aaf=some (.type "function"))
 (h:codeAny Zw (A.under<|.builtin "type.__call__" ⟨.ref C::vs,kw⟩) (.call aaf ⟨.ref (s.heap.objs.size+1)::vs,kw⟩) (W.InitBack Zy R)
   {s with heap:=(s.heap.push W.emptyDict).push (W.instObj C s.heap.objs.size)}):
 codeAny Zw A (.call ZY ⟨vs,kw⟩) R s:=by
 obtain⟨j,g,d,t,os⟩:=s;exact W.make_core (W.makes_of X hm) (W.looks_findIn X hi) (λself=>W.bind_fn X self hf) aam h
end
def l0 (f:Str)(v:V):az (Str×V)->az (Str×V)
 |[]=>[(f,v)]
 |(g,x)::r=>if g=f then(g,v)::r else(g,x)::l0 f v r
theorem sX (f g:Str)(v:V):∀ fs:az (Str×V),(l0 f v fs).lookup g=if g=f then some v else fs.lookup g
 | []=>by
  show List.lookup g [(f,v)]=_;by_cases h:g=f
  .have hb:(g==f)=true:=beq_iff_eq.mpr h;simp only[List.lookup,hb,aF h]
  .have hb:(g==f)=false:=beq_eq_false_iff_ne.mpr h;simp only[List.lookup,hb,aD h]
 | (k,x)::r=>by
  have d:=sX f g v r;rw[show l0 f v ((k,x)::r)=(if k=f then(k,v)::r else(k,x)::l0 f v r)from rfl];by_cases hk:k=f
  .rw[aF hk];by_cases h:g=k
   .have hb:(g==k)=true:=beq_iff_eq.mpr h;simp only[List.lookup,hb,aF (h.trans hk)]
   .have hb:(g==k)=false:=beq_eq_false_iff_ne.mpr h;simp only[List.lookup,hb,aD (λe:g=f=>h<|e.trans hk.symm)]
  .rw[aD hk];by_cases h:g=k
   .have hb:(g==k)=true:=beq_iff_eq.mpr h;simp only[List.lookup,hb,aD (λe:g=f=>hk<|h.symm.trans e)]
   .have hb:(g==k)=false:=beq_eq_false_iff_ne.mpr h;simp only[List.lookup,hb];exact d
theorem r9 (f:Str)(v:V):∀ fs:az (Str×V),f∈(l0 f v fs).map Zx/\∀ g,g∈fs.map Zx->g∈(l0 f v fs).map Zx
 |[]=>⟨by simp[l0],λg h=>by simp at h⟩
 | (k,x)::r=>by
  obtain⟨d,i2⟩:=r9 f v r;rw[show l0 f v ((k,x)::r)=(if k=f then(k,v)::r else(k,x)::l0 f v r)from rfl];by_cases hk:k=f
  .rw[aF hk];subst hk;exact⟨by simp,λg h=>by simpa using h⟩
  .rw[aD hk];refine⟨?_,λg h=>?_⟩
   .rw[aJ];exact jJ _ d
   .rw[aJ]at h ⊢
    rcases List.mem_cons.mp h with e|e
    .exact List.mem_cons.mpr (.inl e)
    .exact jJ _ (i2 g e)
theorem sZ (f:Str)(v:V):∀ fs:az (Str×V),(l0 f v fs).length<=fs.length+1
 |[]=>by simp[l0]
 | (k,x)::r=>by
  have d:=sZ f v r;rw[show l0 f v ((k,x)::r)=(if k=f then(k,v)::r else(k,x)::l0 f v r)from rfl];by_cases hk:k=f
  .rw[aF hk,aY,aY];lia
  .rw[aD hk,aY,aY];lia
def o5.some_of {v:V}{o:aA av}(r:o5 (some v) o):∃ u,o=some u/\fH v u:=by
 cases o with
 |none=>exact(show False from r).elim
 |some u=>exact⟨u,rfl,r⟩
def o5.none_of {o:aA av}(r:o5 none o):o=none:=by
 cases o with
 |none=>rfl
 |some u=>exact(show False from r).elim
def Gn {v:V}{u:av}(r:fH v u):W.handedIn u=true:=by
 cases v with
 |fX=>cases(show u=Value.none from r);rfl
 |bl b=>cases(show u=Value.bool b from r);rfl
 |int i=>obtain⟨t,e⟩:=(show ∃ t,u=Value.int i t from r);subst e;rfl
 |str x=>obtain⟨t,e⟩:=(show ∃ t,u=Value.str x t from r);subst e;rfl
 |GP b=>obtain⟨t,e⟩:=(show ∃ t,u=Value.bytes b t from r);subst e;rfl
 |OR b=>obtain⟨t,e⟩:=(show ∃ t,u=Value.float b t from r);subst e;rfl
 |ref a=>cases(show u=Value.ref a from r);rfl
 |ty n=>cases(show u=Value.type n from r);rfl
section
variable {P:ak}{w:ao}{H H':Hp}{h h':Heap}{a C dx:au}{fs Q9:az (Str×V)}
def uo (fO:oW P w H h)(e:H a=some aaN):∃ mA,C5 h a dx C mA/\(∀ f,o5 (fs.lookup f) (mA f))/\PySem.Within mA (fs.map Zx)/\fs.length<=1000/\H dx=some (.own a):=by obtain⟨d,z,ne,j,mA,n,r,q⟩:=(show iB P w H h a aaN from fO a _ e);exact⟨mA,⟨j,n,ne⟩,r,q,z,d⟩
end
structure tF (K:aj)(C:au):Prop where
 pg:W.plainGet K C Str.empty=true
 hd:W.hasDictIn K C=true
 po:W.plainOver K C=true
 sa:W.findIn K ZY "__setattr__"=some (some<|.builtin "object.__setattr__")
def tF.get {K:aj}{C:au}(c:tF K C)(f:Str):W.plainGet K C f=true:=c.pg
def kX (K:aj)(C:au)(f:Str):Prop:=W.findIn K ZY f=some none
def kX.S5 {K:aj}{C:au}{f:Str}(n:kX K C f):W.takerIn K C f=some none:=by delta W.takerIn;rw[show W.findIn K ZY f=some none from n];rfl
structure Meth (K:aj)(C:au)(m:Str)(f:au):Prop where
 at_:W.findIn K ZY m=some (some<|.ref f)
 fn:W.isFn K aaf=true
 kp:W.keepIn K aaf=true
section
variable {X:Cx}{aa:az ZE}{σ:St}{H:Hp}{s:ar}{a C dx:au}{fs:az (Str×V)}{f:Str}{v:V}{A:Around}{E:av->ar->Prop}
def vA {b:Bool}{Q:av->ar->Prop}(I:Inv X aa σ H s)(e:H a=some aaN)(c:tF X.K C)(n:kX X.K C f)(l:fs.lookup f=some v)
 (h:∀ u s',Inv X aa σ H s'->fH v u->Q u s'):wpAny Zt A (getAttr (.ref a) f b) Q E s:=by
 exact NA (uo I.fO e) λmA O r _ _ _=>eU (o5.some_of (v:=v) (o:=mA f)<|l▸r f) λu j d=>get_map I.se O (c.get f) c.hd n j (Gn d) (h u _ (I.tok _) d)
def pX {m:Str}{g:au}{pl:Sem Bool}{Q:av×az av->ar->Prop}(I:Inv X aa σ H s)(e:H a=some aaN)(c:tF X.K C)(k:Meth X.K C m g)(l:fs.lookup m=none)
 (h:Q (.ref g,[.ref a]) s):wpAny Zt A (getMethod (.ref a) m pl) Q E s:=by
 refine NA (uo I.fO e) λmA O r _ _ _=>?_;have hn:mA m=none:=o5.none_of<|l▸r m;exact JI I.se O (c.get m) k.at_ k.fn hn h
def uS {y:V}{u:av}{Q:Unit->ar->Prop}(I:Inv X aa σ H s)(e:H a=some aaN)(c:tF X.K C)(n:kX X.K C f)(hl:fs.length<1000)(G:fH y u)
 (h:∀ s',Inv X aa σ (upd H a<|.ins C dx<|l0 f y fs) s'->Q () s'):wpAny Zt A (setAttr (.ref a) f u) Q E s:=by
 refine NA (uo I.fO e) λmA O r j _ F=>?_;have J:(fs.map Zx).length<=sizeLine:=by rw[fI,sizeLine_eq];lia
 refine L7 I.se O c.sa c.po n.S5 c.hd j J λh' d sb=>h _ ?_;have hd:∃ o,h'.get? dx=some o:=let ⟨o,_,_,e',_⟩:=d.ns;⟨o,e'⟩
 refine I.write (x:=a) (e:=dx) (e▸True.intro) (.inr F) (λb q hb z=>(sb.2 b hb).trans z) hd ⟨by rw[fB O.ne];exact F,?_,O.ne,d.obj,_,d.ns,λg=>?_,λg L=>?_⟩
 .have:=sZ f y fs;lia
 .rw[sX];by_cases q:g=f
  .rw[aF q,aF q];exact G
  .rw[aD q,aD q];exact r g
 .by_cases q:g=f
  .rw[q];exact(r9 f y fs).1
  .refine(r9 f y fs).2 g (j g λz=>L ?_);show(if g=f then some u else mA g)=none;rw[aD q];exact z
def Inv.made (I:Inv X aa σ H s):Inv X aa σ (upd (upd H s.heap.objs.size<|.own<|s.heap.objs.size+1) Zy<|.ins C s.heap.objs.size [])
 {s with heap:=(s.heap.push W.emptyDict).push (W.instObj C s.heap.objs.size)}:=by
 have e1:(s.heap.push W.emptyDict).get? s.heap.objs.size=some W.emptyDict:=aL s.heap rfl;have G:((s.heap.push W.emptyDict).push<|W.instObj C s.heap.objs.size).get? Zy=some (W.instObj C s.heap.objs.size):=by have:=aL (s.heap.push W.emptyDict) (o:=W.instObj C s.heap.objs.size) rfl;rwa [bz]at this
 have F:(s.heap.push W.emptyDict).Ns s.heap.objs.size (λ_=>none):=⟨W.emptyDict,#[],_,e1,rfl,(λe j=>absurd j<|by simp),λ_=>rfl⟩;have J:=I.laid (a:=s.heap.objs.size) (o:=.own<|s.heap.objs.size+1) (h':=s.heap.push W.emptyDict) (t':=s.toks) (λb u q=>iU _ q) aaa ⟨_,e1⟩;refine J.laid (a:=s.heap.objs.size+1) (o:=.ins C s.heap.objs.size []) (t':=s.toks) (λb u q=>iU _ q) (Nat.le_of_eq<|bz _ _) ?_;have ne:s.heap.objs.size≠s.heap.objs.size+1:=aN<|bZ _;refine⟨by rw[fB ne,eZ],bx _,ne,G,λ_=>none,(Heap.Ns1.of_empty F).at λo q=>iU _ q,λ_=>True.intro,λy d=>absurd rfl d⟩
def NV {prog:ak}{w:ao}{env:Env}{e:Expr}{f:Str}{pos:Pos}{s:ar}{Q:av->ar->Prop}(hb:attributeBase e f env (eval e env)=eval e env)
 (h:wpAny Zw A (eval e env) (λo d=>wpAny Zw A (getAttr o f true) Q E d) E s):wpAny Zw A (eval (.Attribute e f pos) env) Q E s:=
 Attribute_any_ h (by rw[arm_eval_Attribute,hb])
end
def WH (K:aj)(ta:TE)(f:Str):TE:=λσ H Q=>ta σ H λx H1=>∃ a C dx fs v,x=.ref a/\H1 a=some aaN/\tF K C/\kX K C f/\fs.lookup f=some v/\Q v H1
def WS (K:aj)(ta tv:TE)(f:Str):TS:=λD σ H=>tv σ H λy H1=>ta σ H1 λx H2=>∃ a C dx fs,x=.ref a/\H2 a=some aaN/\tF K C/\kX K C f/\fs.length<1000 /\
 D.nx σ (upd H2 a<|.ins C dx<|l0 f y fs)
def Sk (X:Cx)(op:Operator)(d:V->V->Hp->VK->Prop):Prop :=
 ∀(aa:az ZE) (s:ar) (σ:St) (H:Hp) (x y:V) (u v:av) (Q:VK),Inv X aa σ H s->fH x u->fH y v->d x y H Q->wpAny Zt X.A (inplaceOp op u v) aad X.xe s
def DS (K:aj)(ta tv:TE)(q:V->V->Hp->VK->Prop)(f:Str):TS:=λD σ H=>ta σ H λx H1=>∃ a C dx fs v,x=.ref a/\H1 a=some aaN/\tF K C/\kX K C f/\fs.lookup f=some v /\
 tv σ H1 λy H2=>q v y H2 λz j=>∃ d Q9,j a=some (.ins C d Q9)/\Q9.length<1000/\D.nx σ (upd j a<|.ins C d<|l0 f z Q9)
section
variable {X:Cx}{o e value:Expr}{f:Str}{pos pos' kQ:Pos}{ta tv:TE}
def Qu (he:PE X e ta)(hb:attributeBase e f X.env (eval e X.env)=eval e X.env):PE X (.Attribute e f pos) (WH X.K ta f):=by intro aa s σ H Q I h;refine NV hb (gc aaq λu M MY=>?_);obtain⟨x,H1,G,d,a,C,dx,fs,v,ex,y,c,n,l,q⟩:=MY;subst ex;obtain rfl:u=Value.ref a:=d;exact vA G y c n l λJ L F j=>⟨v,H1,F,j,q⟩
def Qj (ha:PE X o ta)(J:PE X value tv)(hs:swapsWith value (some<|.Attribute o f pos') pos.line X.env=pure false):PS X (.Assign [.Attribute o f pos'] value pos) (WS X.K ta tv f):=by intro aa s σ H D I h;refine plainObj_wpAny_Assign_Attribute (gc (J aa s σ H _ I h) λu d L=>fw L λy H1 Y j q=>gc (ha aa d σ H1 _ Y q) λG s2 MX=>?_) hs;obtain⟨x,H2,U,F,a,C,dx,fs,ex,M,c,n,l,q2⟩:=MX;subst ex;obtain rfl:G=Value.ref a:=F;exact uS U M c n l j λZ O=>⟨σ,_,O,q2⟩
def xi {op:Operator}{F:V->V->Hp->VK->Prop}(ha:PE X o ta)(hv:PE X value tv)(d:Sk X op F):PS X (.AugAssign (.Attribute o f kQ) op value pos) (DS X.K ta tv F f):=by intro aa s σ H D I h;refine wpAny_AugAssign_AttributeAny (gc aah λov s1 MW=>?_);obtain⟨x,H1,I1,U,a,C,dx,fs,v,ex,ea,c,n,l,q⟩:=MW;subst ex;obtain rfl:ov=Value.ref a:=U;exact vA I1 ea c n l λu L I2 Y=>gc (hv aa L σ H1 _ I2 q) λG J h_=>fw h_ λy H2 I3 O q3=>gc (d aa J σ H2 v y u G _ I3 Y O q3) λw4 s4 MV=>by obtain⟨z,H3,I4,M,dx',Q9,j,l',Z⟩:=MV;exact uS I4 j c n l' M λs5 I5=>⟨σ,_,I5,Z⟩
def WZ:V->V->Hp->VK->Prop:=λx y H Q=>∃ i j,x=.int i/\y=.int j/\Q (.int<|i+j) H
def WT:V->V->Hp->VK->Prop:=λx y H Q=>∃ i j,x=.int i/\y=.int j/\Q (.int<|i - j) H
def Q0:Sk X .Add WZ:=by refine λaa s σ H x y u v Q I L J M=>fw M λi j F d q=>?_;subst F;subst d;obtain⟨t,rfl⟩:=(show ∃ t,u=Value.int i t from L);obtain⟨G,rfl⟩:=(show ∃ G,v=Value.int j G from J);exact PyProof.Rows.iadd_int ⟨.int<|i+j,H,I.tok _,⟨_,rfl⟩,q⟩
def QZ:Sk X .Sub WT:=by refine λaa s σ H x y u v Q I L J M=>fw M λi j F d q=>?_;subst F;subst d;obtain⟨t,rfl⟩:=(show ∃ t,u=Value.int i t from L);obtain⟨G,rfl⟩:=(show ∃ G,v=Value.int j G from J);exact PyProof.Rows.isub_int ⟨.int<|i - j,H,I.tok _,⟨_,rfl⟩,q⟩
def OI {pl:Sem Bool}{m:Str}{gH:Pos}{args:az Expr}{aa:az ZE}{s:ar}{σ:St}{H:Hp}{Q:av->ar->Prop}{te:TE}(he:PE X e te)(I:Inv X aa σ H s)
 (h:te σ H λx H1=>∃ a C dx fs g,x=.ref a/\H1 a=some aaN/\tF X.K C/\Meth X.K C m g/\fs.lookup m=none /\
   ∀ d,Inv X aa σ H1 d->wpAny Zt X.A (callWith pos (.ref g) [.ref a] (backTo pos<|starEach args X.env)<|backToKw pos<|keywordEach [] X.env) Q X.xe d)
 (ht:eval (.Call (.Attribute e m gH) args [] pos) X.env=(do
   let j <- eval e X.env
   standAt gH.atName
   let (f,first) <- holding [j] (getMethod j m pl)
   callWith pos f first (backTo pos<|starEach args X.env) (backToKw pos<|keywordEach [] X.env))):
 wpAny Zt X.A (eval (.Call (.Attribute e m gH) args [] pos) X.env) Q X.xe s:=by
 refine W.methodCall_KW (pl:=pl) (gc aaq λu d MU=>?_) ht;obtain⟨x,H1,y,F,a,C,dx,fs,g,ex,G,c,k,l,q⟩:=MU;subst ex;obtain rfl:u=Value.ref a:=F;exact pX y G c k l (q d y)
end
section
variable {X:Cx}{aa:az ZE}{σ:St}{H:Hp}{s:ar}{A:Around}{E:av->ar->Prop}{Q:av->ar->Prop}{c:av}{b:Bool}
inductive jl (K:aj)(H:Hp):V->av->Prop where
 |fX:jl K H .fX (.type "NoneType")
 |bl (x:Bool):jl K H (.bl x) (.type "bool")
 |int (i:Int):jl K H (.int i) (.type "int")
 |str (x:Str):jl K H (.str x) (.type "str")
 |OR (x:UInt64):jl K H (.OR x) (.type "float")
 |lst {a:au} {xs:List V} (e:H a=some (.lst xs)):jl K H (.ref a) (.type "list")
 |oZ {a:au} {o:Obj} {xs:List V} (e:H a=some (.oZ o<|.lst xs)):jl K H (.ref a) (.type "list")
 |tup {a:au} {xs:List V} (e:H a=some (.tup xs)):jl K H (.ref a) (.type "tuple")
 |dK {a:au} {fM:List abg} (e:H a=some (.dK fM)):jl K H (.ref a) (.type "dict")
 |dT {a:au} {fM:List (List Key×V)} (e:H a=some (.dT fM)):jl K H (.ref a) (.type "dict")
 | ins {a C dx:au} {fs:List (Str×V)} (e:H a=some aaN) (cl:tF K C) (ha:W.findIn K ZY "__class__"=some (some<|.builtin "object.__class__"))
  (hn:W.specialIn K (.builtin "object.__class__") "__get__"=some (some<|.builtin "getset_descriptor.__get__")) (Wd:W.takesIn K (.builtin "object.__class__")=some true)
  (hm:W.mroIn K C (.type "object")=some true):jl K H (.ref a) ZY
def xq {x:V}{u t:av}(I:Inv X aa σ H s)(d:fH x u)(ty:jl X.K H x t)(e:W.kitOne X.K t c=some b)(h:∀ tk,Q (.bool b) { s with toks:=tk}):
 wpAny Zt A (call (.builtin "isinstance") [u,c]) Q E s:=by
 cases ty with
 |fX=>cases(show u=Value.none from d);exact dz W.kitx_none I.se True.intro e aaJ h
 |bl y=>cases(show u=Value.bool y from d);exact dz W.kitx_bool I.se True.intro e aaJ h
 |int i=>obtain⟨t,q⟩:=(show ∃ t,u=Value.int i t from d);subst q;exact dz W.kitx_int I.se True.intro e aaJ h
 |str y=>obtain⟨t,q⟩:=(show ∃ t,u=Value.str y t from d);subst q;exact dz W.kitx_str I.se True.intro e aaJ h
 |OR y=>obtain⟨t,q⟩:=(show ∃ t,u=Value.float y t from d);subst q;exact dz W.kitx_float I.se True.intro e aaJ h
 | @lst a xs j =>cases aaO;obtain⟨_,_,n,_,h1⟩:=(show iB X.prog X.w H s.heap a (.lst xs)from I.fO a _ j);exact dz W.kitx_list I.se ⟨_,h1,rfl⟩ e aaJ h
 | @oZ a G xs j =>cases aaO;obtain⟨_,_,_,n,_,h1⟩:=(show iB X.prog X.w H s.heap a (.oZ G<|.lst xs)from I.fO a _ j);exact dz W.kitx_list I.se ⟨_,h1,rfl⟩ e aaJ h
 | @tup a xs j =>cases aaO;obtain⟨_,_,_,p⟩:=(show iB X.prog X.w H s.heap a (.tup xs)from I.fO a _ j);exact jF p λo h1 h2 _=>dz W.kitx_tuple I.se ⟨o,h1,h2⟩ e aaJ h
 | @dK a F j =>cases aaO;obtain⟨_,_,M,_,p⟩:=(show iB X.prog X.w H s.heap a (.dK F)from I.fO a _ j);exact p4 p λo es L h1 h2 _=>dz W.kitx_dict I.se ⟨o,h1,h2.1⟩ e aaJ h
 | @dT a F j =>cases aaO;obtain⟨_,_,xs,_,o,es,L,h1,h2,_⟩:=(show iB X.prog X.w H s.heap a (.dT F)from I.fO a _ j);exact dz W.kitx_dict I.se ⟨o,h1,h2.1⟩ e aaJ h
 | @ins a C dx fs j cl ha hn Wd hm =>cases aaO;exact eU (uo I.fO j) λmA O _=>eU O.look λU J _=>dz (W.kitx_own (cl.get _) cl.hd ha hn Wd hm) I.se J e aaJ h
end
structure gZ (k:Nat)(A:Around):Prop where
 hd:A.handled=none
 dp:A.depth+3*k+5<recursionLimit
 un:A.units+16*k+200<cLine
def gZ.mono {j k:Nat}{A:Around}(r:gZ k A)(h:j<=k):gZ j A:=⟨r.hd,by have:=r.dp;lia,by have:=r.un;lia⟩
theorem gZ.deeper {k:Nat}{A:Around}(r:gZ (k+1) A)(env:Env):gZ k (A.deeper env) :=
 ⟨r.hd,by have:=r.dp;show A.depth+1+3*k+5<_;lia,by have:=r.un;show A.units+3+16*k+200<_;lia⟩
theorem gZ.in1 {k:Nat}{A:Around}(r:gZ (k+1) A):gZ k A.in1 :=
 ⟨r.hd,by have:=r.dp;show A.depth+3*k+5<_;lia,by have:=r.un;show A.units+1+16*k+200<_;lia⟩
def Ci {A:Around}{C:au}{us:az av}{kw:az (Str×av)}:(A.under<|.builtin "type.__call__" ⟨.ref C::us,kw⟩).depth=A.depth+1:=by first|rfl|simp[Around.under,Code.weight,Code.isCreation,Code.isGuard,Code.isCaller,Code.frames,Code.isFrame,guardIds]
def Cg {A:Around}{C:au}{us:az av}{kw:az (Str×av)}:(A.under<|.builtin "type.__call__" ⟨.ref C::us,kw⟩).units=A.units+1:=by first|rfl|simp[Around.under,Code.cUnits,Code.frames,Code.isFrame]
def gZ.make {k:Nat}{A:Around}(r:gZ (k+1) A)(C:au)(us:az av)(kw:az (Str×av)):gZ k (A.under<|.builtin "type.__call__" ⟨.ref C::us,kw⟩) :=
 ⟨r.hd,by have:=r.dp;rw[Ci];lia,by have:=r.un;rw[Cg];lia⟩
theorem gZ.depth {k:Nat}{A:Around}(r:gZ k A):A.depth<recursionLimit:=by have:=r.dp;lia
theorem gZ.units {k:Nat}{A:Around}(r:gZ k A):A.units+64<cLine:=by have:=r.un;lia
def BK:TA:=λ_ H Q=>Q [] H
def wY (ta:TE)(d:TA):TA:=λσ H Q=>ta σ H λx H1=>d σ H1 λxs H2=>Q (x::xs) H2
section
variable {X:Cx}{e:Expr}{es:az Expr}{te:TE}{t:TA}{pos:Pos}
def gJ:PA X [] BK:=λ_ _ _ _ H Q I h=>dG ⟨[],H,I,.nil,h⟩
def fv (ha:PE X e te)(hr:PA X es t)(hs:starEach ZX X.env=(false,eval e X.env)::starEach es X.env:=by rfl):PA X ZX (wY te t):=by intro pos aa s σ H Q I h;rw[hs];exact dt (gc aah λu j d=>fw d λx H1 G y q1=>gc (hr pos aa j σ H1 _ G q1) λJ L d=>fw d λxs H2 F q q2=>⟨x::xs,H2,F,.cons y q,q2⟩)
def Wy (t:TA):TE:=λσ H Q=>t σ H λxs H1=>xs.length<=sizeLine/\∀ p,H1 p=none->Q (.ref p) (upd H1 p<|.tup xs)
def WC (t:TA):TE:=λσ H Q=>t σ H λxs H1=>xs.length<=sizeLine/\∀ p,H1 p=none->Q (.ref p) (upd H1 p<|.lst xs)
def Qp {y}(h:PA X es t):PE X (.Tuple es y pos) (Wy t):=by intro aa s σ H Q I G;refine wpAny_Tuple_spliced (gc (h pos aa s σ H _ I G) λF d L=>jz L λxs H1 j r z q=>⟨r.length▸z,?_⟩);have J:H1 d.heap.objs.size=none:=j.fO.fresh<|aB _;refine⟨.ref d.heap.objs.size,upd H1 d.heap.objs.size<|.tup xs,j.laid (t':=d.toks) (λb u e=>iU _ e) aaa ?_,rfl,q _ J⟩;exact⟨z,F,r,⟨_,aL _ rfl,rfl,_,rfl⟩⟩
def Iv (h:PA X es t):PE X (.List es pos) (WC t):=by intro aa s σ H Q I F;refine wpAny_List_spliced (gc (h pos aa s σ H _ I F) λy d J=>jz J λxs H1 j r z q=>⟨r.length▸z,?_⟩);have G:H1 d.heap.objs.size=none:=j.fO.fresh<|aB _;refine⟨.ref d.heap.objs.size,upd H1 d.heap.objs.size<|.lst xs,j.laid (t':=d.toks) (λb u e=>iU _ e) aaa ?_,rfl,q _ G⟩;exact⟨z,y,0,r,aL _ rfl⟩
end
abbrev Sp:=az V->Hp->VK->XK->Prop
abbrev Ft:=az Env->Hp->ar->XK->av->ar->Prop
structure wM (P:ak)(w:ao)(K:aj)(mg:Str->Option av)(ah:Heap)(A:Around)(fb:List Env)(s:ar)(H:Hp):Prop where
 frames:A.frames=some fb
 mod:Mod K mg ah
 bs:∀ b o,ah.get? b=some o->s.heap.get? b=some o/\H b=none
 G7:ah.objs.size<=s.heap.objs.size
 rk:s.heap.FunFrames ah fb
 OO:∀ b∈yO fb,H b=none
 fO:oW P w H s.heap
 bare:AllBare s.gens
def CE (fb:az Env)(P:ak)(w:ao)(H:Hp)(s:ar)(Q:VK)(u:av)(s':ar):Prop :=
 ∃ v H',s'.os=s.os/\AllBare s'.gens/\Un (yO fb) [] H H' s.heap s'.heap/\oW P w H' s'.heap/\fH v u/\Q v H'
def CR (CX:Ft)(fb:az Env)(P:ak)(w:ao)(H:Hp)(s:ar)(Q:VK)(E:XK)(r:Result)(s':ar):Prop :=
 match r with
 |.ok (.ret u)=>CE fb P w H s Q u s'
 |.ok _=>False
 |.error e=>CX fb H s E e s'
structure ij (P:ak)(w:ao)(K:aj)(mg:Str->Option av)(ah:Heap)(CX:Ft)(k:Nat)(f:au)(fd:aq)(ps:List Str)(sp:Sp):Prop where
 len:∀ vs H Q E,sp vs H Q E->vs.length=ps.length
 run:∀(A:Around) (fb:List Env) (s:ar) (H:Hp) (args:Args) (us:List av) (vs:List V) (Q:VK) (E:XK),gZ k A->wM P w K mg ah A fb s H->BindsTo s fd args (ps.zip us)->fF vs us->sp vs H Q E ->
  codeAny (model P w) A (.call aaf args) (CR CX fb P w H s Q E) s
theorem ij.mono {P:ak}{w:ao}{K:aj}{mg:Str->aA av}{ah:Heap}{CX:Ft}{j k:Nat}{f:au}{fd:aq}{ps:az Str}{sp:Sp}(F:ij P w K mg ah CX j f fd ps sp)(h:j<=k):
 ij P w K mg ah CX k f fd ps sp:=⟨F.len,λA fb s H d y q Q E hr=>F.run A fb s H d y q Q E<|hr.mono h⟩
def ij.imp {P:ak}{w:ao}{K:aj}{mg:Str->aA av}{ah:Heap}{CX:Ft}{k:Nat}{f:au}{fd:aq}{ps:az Str}{sp d:Sp}(F:ij P w K mg ah CX k f fd ps sp)
 (h:∀ vs H Q E,d vs H Q E->sp vs H Q E):ij P w K mg ah CX k f fd ps d:=
 ⟨λvs H Q E q=>F.len vs H Q E<|h _ _ _ _ q,λA fb s H j y vs Q E hr I hb G hs=>F.run A fb s H j y vs Q E hr I hb G<|h _ _ _ _ hs⟩
def wM.make {P:ak}{w:ao}{K:aj}{mg:Str->aA av}{ah:Heap}{A:Around}{fb:az Env}{s:ar}{H:Hp}(e:wM P w K mg ah A fb s H)(C:au)(us:az av)(kw:az (Str×av)):
 wM P w K mg ah (A.under<|.builtin "type.__call__" ⟨.ref C::us,kw⟩) fb s H:=⟨by first|exact e.frames|(simpa [Around.under,Code.envs,Code.isFrame,pushEnvs]using e.frames),e.mod,e.bs,e.G7,e.rk,e.OO,e.fO,e.bare⟩
theorem wM.in1 {P:ak}{w:ao}{K:aj}{mg:Str->aA av}{ah:Heap}{A:Around}{fb:az Env}{s:ar}{H:Hp}(e:wM P w K mg ah A fb s H):
 wM P w K mg ah A.in1 fb s H:=⟨e.frames,e.mod,e.bs,e.G7,e.rk,e.OO,e.fO,e.bare⟩
section
variable {X:Cx}{aa:az ZE}{σ:St}{H:Hp}{s s':ar}
def Inv.UY (I:Inv X aa σ H s):wM X.prog X.w X.K X.mg X.ah X.A X.stack s H :=
 ⟨I.ok.frames,I.ok.mod,I.bs,aT I.ok.G7 I.sz,I.stack,I.qr,I.fO,I.bare⟩
def Inv.after {Q:VK}{u:av}(I:Inv X aa σ H s)(h:CE X.stack X.prog X.w H s Q u s'):EP X aa σ Q u s':=by refine XU h λv H' os bare un fO r q=>?_;obtain⟨y,g,d,t,j⟩:=s';obtain rfl:j=s.os:=os;exact⟨v,H',I.call (h':=y) (g':=g) (d':=d) (t':=t) (ch:=[]) un fO bare λb z=>absurd z<|by simp,r,q⟩
end
def Oj (sp:Sp)(wC:az V)(E:XK)(t:TA):TE:=λσ H Q=>t σ H λd H1=>sp (d++wC) H1 Q E
def zK (C:au)(m:Str)(sp:Sp)(wC:az V)(E:XK)(ta:TE)(t:TA):TE:=λσ H Q=>ta σ H λx H1=>∃ a dx fs,x=.ref a/\H1 a=some aaN/\fs.lookup m=none /\
 t σ H1 λd H2=>sp (x::(d++wC)) H2 Q E
def Hs (C:au)(sp:Sp)(wC:az V)(E:XK)(t:TA):TE:=λσ H Q=>t σ H λd H1=>∀ x dx,H1 x=none->H1 dx=none->dx≠x ->
 sp (.ref x::(d++wC)) (upd (upd H1 dx<|.own x) x<|.ins C dx []) (λv H2=>v=.fX/\Q (.ref x) H2) E
def Binds (K:aj)(fd:aq)(ps:az Str)(ds:az av):Prop :=
 ∀(s:ar) (us:az av),K.In s.heap->(us++ds).length=ps.length->BindsTo s fd ⟨us,[]⟩ (ps.zip<|us++ds)
def Binds.all {K:aj}{fd:aq}{ps:az Str}(h:∀ us:az av,us.length=ps.length->bindArgs fd ⟨us,[]⟩=pure (ps.zip us)):Binds K fd ps []:=λs us _ hl=>by
 rw[bH]at hl ⊢
 exact .of_eq (h us hl)
def Passes (CX:Ft)(X:Cx)(E:XK):Prop:=∀(aa:az ZE) (σ:St) (H:Hp) (s:ar) (e:av) (s':ar),Inv X aa σ H s->CX X.stack H s E e s'->X.xe e s'
section
variable {X:Cx}{CX:Ft}{k:Nat}{f C:au}{fd:aq}{ps:az Str}{sp:Sp}{wC:az V}{ds:az av}{E:XK}{x m:Str}{p pos gH:Pos}{e o:Expr}{es:az Expr}{ta:TE}{t:TA}
def yp {aa:az ZE}{σ:St}{H:Hp}{s:ar}{Q:VK}{us:az av}{vs:az V}(F:ij X.prog X.w X.K X.mg X.ah CX k f fd ps sp)(hr:gZ k X.A)(hb:Binds X.K fd ps ds)(hd:fF wC ds)(q:Passes CX X E)
 (I:Inv X aa σ H s) (r:fF vs us) (h:sp (vs++wC) H Q E):wpAny Zt X.A (call aaf us) aad X.xe s:=by
 have j:fF (vs++wC) (us++ds):=r.append hd;have hl:(us++ds).length=ps.length:=j.length▸F.len _ _ _ _ h;refine wpAny_call (codeAny_mono (F.run X.A X.stack s H ⟨us,[]⟩ (us++ds) (vs++wC) Q E hr I.UY (hb s us I.se hl) j h) λr s' d=>?_);cases r with
 |error e=>exact q aa σ H s e s' I d
 | ok y =>
  cases y with
  |ret u=>exact I.after d
  |next=>exact False.elim d
  |brk=>exact False.elim d
  |cont=>exact False.elim d
def D9 (F:ij X.prog X.w X.K X.mg X.ah CX k f fd ps sp)(hr:gZ k X.A)(G:Gl X x)(hm:X.mg x=some aaf)(hk:W.keepIn X.K aaf=true)(hb:Binds X.K fd ps ds)(hd:fF wC ds)(y:Passes CX X E)
 (ha:PA X ZX t) (d:Zz=false:=by decide) (he:starEach ZX X.env=(false,eval e X.env)::starEach es X.env:=by rfl) (m4:(backTo pos<|starEach es X.env).any Zx=false:=by rfl):
 PE X ZH (Oj sp wC E t):=by
 intro aa s σ H Q I h;exact cE (qR I G hm (W.callWith_K (h₀:=X.ah) I.ok.mod.SF hk (gc abb λM O J=>fw J λL H1 j r q=>⟨j.se,yp F hr hb hd y j r q⟩) he m4) d)
def yA {pl:Sem Bool}(he:PE X o ta)(c:tF X.K C)(hm:Meth X.K C m f)(F:ij X.prog X.w X.K X.mg X.ah CX k f fd ps sp)(hr:gZ k X.A)(hb:Binds X.K fd ps ds)(hd:fF wC ds)(L:Passes CX X E)(ha:PA X ZX t)
 (d:starEach ZX X.env=(false,eval e X.env)::starEach es X.env:=by rfl) (m4:(backTo pos<|starEach es X.env).any Zx=false:=by rfl)
 (ht:eval ZP X.env=(do
   let ov <- eval o X.env
   standAt gH.atName
   let (f,first) <- holding [ov] (getMethod ov m pl)
   callWith pos f first (backTo pos<|starEach ZX X.env) (backToKw pos<|keywordEach [] X.env)):=by rfl):
 PE X ZP (zK C m sp wC E ta t):=by
 intro aa s σ H Q I h;refine W.methodCall_KW (pl:=pl) (gc aaq λu G OM=>?_) ht;obtain⟨x,H1,y,J,a,dx,fs,ex,O,l,q⟩:=OM;subst ex;obtain rfl:u=Value.ref a:=J;exact pX y O c hm l (W.callWith_K (first:=[.ref a]) (h₀:=X.ah) I.ok.mod.SF hm.kp (gc (ha pos aa G σ H1 _ y q) λus U M=>fw M λvs H2 j r q2=>⟨j.se,yp (us:=.ref a::us) (vs:=.ref a::vs) F hr hb hd L j (.cons rfl r) q2⟩) d m4)
def Ab {pl:Sem Bool}(he:PE X o ta)(c:tF X.K C)(hm:Meth X.K C m f)(F:ij X.prog X.w X.K X.mg X.ah CX k f fd ps sp)(hr:gZ k X.A)(hb:Binds X.K fd ps ds)(hd:fF wC ds)(G:Passes CX X E)
 (ht:eval aai X.env=(do
   let j <- eval o X.env
   standAt gH.atName
   let (f,first) <- holding [j] (getMethod j m pl)
   callWith pos f first (backTo pos<|starEach [] X.env) (backToKw pos<|keywordEach [] X.env)):=by rfl):
 PE X aai (zK C m sp wC E ta BK):=by
 intro aa s σ H Q I h;refine W.methodCall_KW (pl:=pl) (gc aaq λu L MZ=>?_) ht;obtain⟨x,H1,d,y,a,dx,fs,ex,J,l,q⟩:=MZ;subst ex;obtain rfl:u=Value.ref a:=y;exact pX d J c hm l (W.callWith_K0 (first:=[.ref a]) d.se hm.kp<|yp (us:=[.ref a]) (vs:=[.ref a]) F hr hb hd G d (.cons rfl .nil) q)
structure Mk (K:aj)(C f:au):Prop where
 makes:W.makesIn K C=true
 init:W.findIn K ZY "__init__"=some (some<|.ref f)
 fn:W.isFn K aaf=true
 kp:W.keepIn K ZY=true
def HS {aa:az ZE}{σ:St}{H:Hp}{s:ar}{Q:VK}{us:az av}{vs:az V}(M:Mk X.K C f)(F:ij X.prog X.w X.K X.mg X.ah CX k f fd ps sp)(hr:gZ (k+1) X.A)(hb:Binds X.K fd ps ds)(hd:fF wC ds)
 (L:Passes CX X E) (I:Inv X aa σ H s) (r:fF vs us)
 (h:∀ x dx,H x=none->H dx=none->dx≠x->sp (.ref x::(vs++wC)) (upd (upd H dx<|.own x) x<|.ins C dx []) (λv H2=>v=.fX/\Q (.ref x) H2) E):
 wpAny Zt X.A (call ZY us) aad X.xe s:=by
 have y:=h Zy s.heap.objs.size (I.fO.fresh<|dH _) (I.fO.fresh<|aB _)<|aN<|bZ _;have j:=Inv.made (C:=C) I;have q:fF (V.ref (s.heap.objs.size+1)::(vs++wC)) (Value.ref (s.heap.objs.size+1)::(us++ds)):=.cons rfl (r.append hd);have hl:(Value.ref (s.heap.objs.size+1)::us++ds).length=ps.length:=by have e:=q.length;rw[F.len _ _ _ _ y]at e;exact e.symm
 refine wpAny_call (Jd (f:=f) I.se M.makes M.init (beq_iff_eq.mp M.fn) (codeAny_mono (F.run _ X.stack _ _ ⟨Value.ref (s.heap.objs.size+1)::us,[]⟩ (Value.ref (s.heap.objs.size+1)::(us++ds)) _ _ E (hr.make C us [])
  (j.UY.make C us []) (hb _ (Value.ref (s.heap.objs.size+1)::us) j.se hl) q y) λr s' d=>?_))
 cases r with
 |error e=>exact L aa σ _ _ e s' j d
 | ok O =>
  cases O with
  | ret u =>refine jz (j.after d) λv H' U G ev J=>?_;subst ev;exact⟨G,⟨V.ref<|s.heap.objs.size+1,H',U,rfl,J⟩⟩
  |next=>exact False.elim d
  |brk=>exact False.elim d
  |cont=>exact False.elim d
def D5 (M:Mk X.K C f)(F:ij X.prog X.w X.K X.mg X.ah CX k f fd ps sp)(hr:gZ (k+1) X.A)(G:Gl X x)(hm:X.mg x=some ZY)(hb:Binds X.K fd ps ds)(hd:fF wC ds)(y:Passes CX X E)
 (ha:PA X ZX t) (d:Zz=false:=by decide) (he:starEach ZX X.env=(false,eval e X.env)::starEach es X.env:=by rfl) (m4:(backTo pos<|starEach es X.env).any Zx=false:=by rfl):
 PE X ZH (Hs C sp wC E t):=by
 intro aa s σ H Q I h;exact cE (qR I G hm (W.callWith_K (h₀:=X.ah) I.ok.mod.SF M.kp (gc abb λO U J=>fw J λL H1 j r q=>⟨j.se,HS M F hr hb hd y j r q⟩) he m4) d)
end
def PK (X:Cx)(Wa:az Keyword)(t:TA):Prop :=
 ∀(pos:Pos) (aa:az ZE) (s:ar) (σ:St) (H:Hp) (Q:az V->Hp->Prop),Inv X aa σ H s->t σ H Q->wpAny Zt X.A (evalAll ((backToKw pos<|keywordEach Wa X.env).map ZI)) (AP X aa σ Q) X.xe s
section
variable {X:Cx}{CX:Ft}{k:Nat}{f C:au}{fd:aq}{ps ks:az Str}{sp:Sp}{E:XK}{x m:Str}{p pos gH Jm:Pos}{e o:Expr}{es:az Expr}{Wa:az Keyword}{te ta:TE}{t tk:TA}{nm:aA Str}
def Qm:PK X [] BK:=λ_ _ _ _ H Q I h=>wpAny_evalAll_nil ⟨[],H,I,.nil,h⟩
def Mr (ha:PE X e te)(hr:PK X Wa t):PK X (⟨nm,e,Jm⟩::Wa) (wY te t):=by intro pos aa s σ H Q I h;exact wpAny_evalAll_cons (fj<|gc aah λu j d=>fw d λx H1 G y q1=>fj<|dw<|aC<|gc (hr pos aa j σ H1 _ G q1) λJ L d=>fw d λxs H2 F q q2=>⟨x::xs,H2,F,.cons y q,q2⟩)
variable {g:az av->az av->az av}{gV:az V->az V->az V}
end
structure gw (N P:List Str)(sc:Scope):Prop where
 kind:sc.kind=.function
 co:sc.isCoroutine=false
 gen:sc.isGenerator=false
 nd:N.Nodup
 pre:N.take P.length=P
 par:∀ x∈P,sc.names.lookup x=some .local\/sc.names.lookup x=some .cell
 QI:∀ y∈sc.names,y.2≠.free
theorem xP {kindOf:Str->aA NameKind}{x:Str}:∀ {binds:az (Str×av)} {m:Str->aA av},(∀ v,(x,v)∉binds)->bindL kindOf binds m x=m x
 |[],_,_=>rfl
 | (n,v)::r,m,h=>by
  unfold bindL;rw[xP λw d=>h w<|jJ _ d];split
  .have:x≠n:=by rintro rfl;exact h v aE
   simp[this]
  .rfl
theorem xR {kindOf:Str->aA NameKind}{x:Str}:∀ {binds:az (Str×av)} {m:Str->aA av},(∀ v,(x,v)∉binds)->bindC kindOf binds m x=m x
 |[],_,_=>rfl
 | (n,v)::r,m,h=>by
  unfold bindC;rw[xR λw d=>h w<|jJ _ d];split
  .rfl
  .have:x≠n:=by rintro rfl;exact h v aE
   simp[this]
theorem xQ {kindOf:Str->aA NameKind}{x:Str}{v:av}:∀ {P:az Str} {vs:az av} {i:Nat} {m:Str->aA av},P.Nodup->P[i]?=some x->vs[i]?=some v->kindOf x=some .local ->
 bindL kindOf (P.zip vs) m x=some v
 |[],_,_,_,_,h,_,_=>by contradiction
 |_::_,[],_,_,_,_,h,_=>by cases h
 | p::P,w::vs,0,m,nd,h1,h2,hk=>by simp at h1 h2;subst h1;subst h2;show bindL kindOf ((p,w)::P.zip vs) m p=_;unfold bindL;rw[xP λv d=>(List.nodup_cons.mp nd).1 (List.of_mem_zip d).1,aF hk];simp
 | p::P,w::vs,i+1,m,nd,h1,h2,hk=>by unfold bindL;exact xQ (i:=i) (List.nodup_cons.mp nd).2 (by simpa using h1) (by simpa using h2) hk
theorem xS {kindOf:Str->aA NameKind}{x:Str}{v:av}:∀ {P:az Str} {vs:az av} {i:Nat} {m:Str->aA av},P.Nodup->P[i]?=some x->vs[i]?=some v->kindOf x≠some .local ->
 bindC kindOf (P.zip vs) m x=some v
 |[],_,_,_,_,h,_,_=>by contradiction
 |_::_,[],_,_,_,_,h,_=>by cases h
 | p::P,w::vs,0,m,nd,h1,h2,hk=>by simp at h1 h2;subst h1;subst h2;show bindC kindOf ((p,w)::P.zip vs) m p=_;unfold bindC;rw[xR λv d=>(List.nodup_cons.mp nd).1 (List.of_mem_zip d).1,aD hk];simp
 | p::P,w::vs,i+1,m,nd,h1,h2,hk=>by unfold bindC;exact xS (i:=i) (List.nodup_cons.mp nd).2 (by simpa using h1) (by simpa using h2) hk
def start (N:az Str)(vs:az V):St:=vs.map some++List.replicate (N.length - vs.length) none
def o4 (CX:Ft)(P:ak)(w:ao)(K:aj)(mg:Str->aA av)(ah:Heap)(N:az Str)(qual:Str)(scope:Scope)(f:au)(cd:av)(A:Around)(fb:az Env)(s:ar)(H:Hp)(E:XK):Cx where
 prog:=P
 w:=w
 K:=K
 mg:=mg
 ah:=ah
 A:=A.deeper (envOfC qual scope s.heap.objs.size f cd)
 N:=N
 s₀:=s
 H₀:=H
 env:=envOfC qual scope s.heap.objs.size f cd
 fb:=fb
 stack:=envOfC qual scope s.heap.objs.size f cd::fb
 ex:=[]
 fU:=true
 fn:=λ_=>true
 pn:=[]
 xe:=λe s'=>wpAny (model P w) (A.deeper<|envOfC qual scope s.heap.objs.size f cd) (leaving (envOfC qual scope s.heap.objs.size f cd) e) (λ_ d=>CX fb H s E e d) (λj d=>CX fb H s E j d) s'
def mJ {sc:Scope}{n:Nat}{x:Str}(h:sc.names.lookup x=some .cell):∃ c,(cellsFrom n sc.names []).lookup x=some c:=by have q:=W.cellsFrom_some sc.names n []<|.inl h;exact Option.isSome_iff_exists.mp q
def Ge {CX:Ft}{P:ak}{w:ao}{K:aj}{mg:Str->aA av}{ah:Heap}{N ps:az Str}{qual:Str}{scope:Scope}{f:au}{cd:av}{A:Around}{fb:az Env}{s s1:ar}{H:Hp}{E:XK}{us:az av}{vs:az V}
 (S:gw N ps scope) (hd:A.handled=none) (e0:wM P w K mg ah A fb s H) (hl:vs.length=ps.length) (r:fF vs us)
 (x:InCallC s s.heap.objs.size (bindL (envOfC qual scope s.heap.objs.size f cd).kindOf (ps.zip us) λ_=>none) (cellsFrom Zy scope.names []) (bindC (envOfC qual scope s.heap.objs.size f cd).kindOf (ps.zip us) λ_=>none) s1):
 Inv (o4 CX P w K mg ah N qual scope f cd A fb s H E) [] (start N vs) H s1:=by
 have M:ps.length<=N.length:=by have:=b8 List.length S.pre;rw[a9]at this;lia
 refine lJ x.done λh1 tk I hk=>?_;subst I;have d:∀ b:au,b∉(o4 CX P w K mg ah N qual scope f cd A fb s H E).ex:=λb z=>absurd (show b∈([]:az au)from z) ZN;refine⟨⟨e0.mod,S.kind,rfl,rfl,aB _,λy z c h1 h2=>?_,λy j=>?_,λy c _ h=>?_,λ_=>hd,Around.frames_deeper e0.frames,.inr ⟨rfl,rfl⟩,λb z=>absurd z<|d b,e0.bs,e0.G7,λb _ _=>d b,λb z=>absurd z<|d b,e0.rk,e0.OO⟩,
  rfl,e0.bare,Un.af hk,⟨_,x.toInCall.ns,λi y v h1 h2 O=>?_⟩,λy c h=>⟨_,x.cell y c h⟩,e0.fO.fresh aaa,λy c h=>?_,λp G=>absurd (show p∈([]:az ZE)from G)<|by simp,e0.fO.af hk,?_⟩
 .exact name_of_addr x.apart (dm h1) (dm h2)
 .have j:scope.names.lookup y=some .cell\/scope.names.lookup y=some .free:=j;rcases j with j|j
  .exact mJ j
  .exact absurd rfl (S.QI _<|dm j)
 .exact df (x.above y c<|dm h)
 .have hi:i<vs.length:=by
   unfold start at h2;by_cases hi:i<vs.length
   .exact hi
   .rw[lQ (by simpa using hi)]at h2;rw[List.getElem?_replicate]at h2;split at h2<;>cases h2
  have ha:vs[i]?=some v:=by
   unfold start at h2;rw[pF (by simpa using hi),mD]at h2;cases e:vs[i]? with
   |none=>rw[e]at h2;cases h2
   |some a=>rw[e]at h2;cases h2;rfl
  refine eU (r.get ha) λu J L=>?_
  have G:ps[i]?=some y:=by rw[<- S.pre,bu Zs];exact h1
  have F:ps.Nodup:=S.pre▸S.nd.sublist (List.take_sublist _ _)
  refine⟨u,L,?_⟩
  rcases S.par y (lH G)with k|k
  .exact .inl ⟨k,xQ F G J k⟩
  .refine jj (mJ (n:=s.heap.objs.size+1) k) λc e=>.inr ⟨.inl k,c,e,?_⟩;have q:=x.cell y c e;rw[xS F G J (by show scope.names.lookup y≠_;rw[k];decide)]at q;exact q
 .exact e0.fO.fresh (df<|x.above y c<|dm h)
 .delta start;show _=N.length;rw[i8,fI,bC];lia
def OQ {CX:Ft}{P:ak}{w:ao}{K:aj}{mg:Str->aA av}{ah:Heap}{k:Nat}{f:au}{name qual:Str}{params:Arguments}{body:az Stmt}{scope:Scope}{dV kV doc pm d ct oc:av}{an od:aA au}
 {O:Array (aA av)} {N ps:az Str} {sp:Sp} (lk:K.lookup f=some ⟨oc,od,.func<|W.fnOf name qual params body scope dV kV doc pm an d ct,O⟩) (Y:W.codeIn K d qual=true) (S:gw N ps scope)
 (len:∀ vs H Q E,sp vs H Q E->vs.length=ps.length)
 (G:∀(A:Around) (fb:az Env) (s:ar) (H:Hp) (vs:az V) (Q:VK) (E:XK),gZ k (A.deeper<|envOfC qual scope s.heap.objs.size f d)->sp vs H Q E ->
   ∃ t,zk (o4 CX P w K mg ah N qual scope f d A fb s H E) body t/\t { nx:=λ_ H'=>Q .fX H',rt:=Q} (start N vs) H):
 ij P w K mg ah CX (k+1) f (W.fnOf name qual params body scope dV kV doc pm an d ct) ps sp:=by
 refine⟨len,λA fb s H args us vs Q E hr e0 hb r L=>?_⟩;have hl:=len _ _ _ _ L;have KX:K.In s.heap:=e0.mod.SF.keeps λb o e=>(e0.bs b o e).1;have U:s.heap.NoLimit:=e0.mod.nolimit.keeps λb o e=>(e0.bs b o e).1;have F:∀ y∈ps.zip us,scope.names.lookup y.1=some .local\/(scope.names.lookup y.1=some .cell/\((cellsFrom Zy scope.names []).lookup y.1).isSome=true):=λ⟨n,v⟩ hy=>by
  rcases S.par n (List.of_mem_zip hy).1 with q|q
  .exact .inl q
  .exact .inr ⟨q,W.cellsFrom_some _ _ _<|.inl q⟩
 refine codeAny_call_function hr.depth (KX _ _ lk) rfl S.co S.gen rfl (W.codeRec_of KX Y) (hb _ _ _ _<|wpAny_newFunctionEnv_cells S.kind F λenv he Z x=>?_);subst he;refine⟨U.keeps x.toInCall.keep,codeAny_func<|eU (G A fb s H vs Q E (hr.deeper _) L) λt ht hq=>?_⟩;have I:Inv (o4 CX P w K mg ah N qual scope f d A fb s H E) [] (start N vs) H Z:=Ge S hr.hd e0 hl r x;refine b7 (ht [] Z (start N vs) H _ I hq) (λfl s' hs=>?_) λe s' hs=>hs;have fin:∀ {j:St} {H':Hp} {v:V} {u:av},Inv (o4 CX P w K mg ah N qual scope f d A fb s H E) [] j H' s'->fH v u->Q v H'->CE fb P w H s Q u s' :=
  λ{j H' v u} J M q=>⟨v,H',J.os,J.bare,J.ah,J.fO,M,q⟩
 cases fl with
 | ret u =>exact p4 hs λv j H' J M q=>fin J M q
 | next =>exact lJ hs λj H' J q=>fin (v:=V.fX) (u:=Value.none) J rfl q
 | brk =>exact lJ hs λ_ _ _ q=>False.elim q
 | cont =>exact lJ hs λ_ _ _ q=>False.elim q
section
variable {X:Cx}{x:Str}{p pos:Pos}{e:Expr}{es:az Expr}{t:TA}{id T:String}{r:az V->Hp->VK->Prop}
def V3 (r:az V->Hp->VK->Prop)(t:TA):TE:=λσ H Q=>t σ H λd H1=>r d H1 Q
def gn (J:h9 X (.builtin id) r)(G:Gl X x)(hm:X.mg x=none)(F:bootBuiltins x=some (.builtin id))(ha:PA X ZX t)(hn:x ≠ "__name__":=by decide)(M8:Zz=false:=by decide)
 (he:starEach ZX X.env=(false,eval e X.env)::starEach es X.env:=by rfl) (m4:(backTo pos<|starEach es X.env).any Zx=false:=by rfl):PE X ZH (V3 r t):=by
 intro aa s σ H Q I h;exact cE (ku I G hm F (PyProof.Rows.callWith_builtin1 (gc abb λj q L=>fw L λd H1 M y q1=>J aa q σ H1 d j Q M y q1) he m4) hn M8)
def xk (J:h9 X (.type T) r)(G:Gl X x)(hm:X.mg x=none)(F:bootBuiltins x=some (.type T))(ha:PA X ZX t)(hn:x ≠ "__name__":=by decide)(M8:Zz=false:=by decide)
 (he:starEach ZX X.env=(false,eval e X.env)::starEach es X.env:=by rfl) (m4:(backTo pos<|starEach es X.env).any Zx=false:=by rfl):PE X ZH (V3 r t):=by
 intro aa s σ H Q I h;exact cE (ku I G hm F (bA (gc abb λj q L=>fw L λd H1 M y q1=>J aa q σ H1 d j Q M y q1) he m4) hn M8)
end
end L2
namespace HT
open PySem PyProof.Rows
section
variable {prog:ak}{w:ao}{A:Around}{E:av->ar->Prop}{s:ar}
def iz (n d:Nat):aA Int->Nat
 |none=>d
 |some v=>if v<0 then(v+(n:Int)).toNat else min v.toNat n
def oa (n d:Nat):iz n d none=d:=rfl
def jN (n d k:Nat):iz n d (some (k:Int))=min k n:=by show(if(k:Int)<0 then((k:Int)+(n:Int)).toNat else min (k:Int).toNat n)=min k n;rw[aD Zs,BA]
def yo (n d:Nat)(hd:d<=n)(o:aA Int):iz n d o<=n:=by
 cases o with
 |none=>exact hd
 | some v =>
  show(if v<0 then(v+(n:Int)).toNat else min v.toNat n)<=n;by_cases j:v<0
  .rw[aF j];lia
  .rw[aD j];exact Nat.min_le_right _ _
def EZ (v:Int)(n d:Nat):(if v<0 then max (v+(n:Int)) 0 else min v (n:Int))=((iz n d (some v):Nat):Int):=by
 show(if v<0 then max (v+(n:Int)) 0 else min v (n:Int))=(((if v<0 then(v+(n:Int)).toNat else min v.toNat n):Nat):Int);by_cases j:v<0
 .simp only[aF j];lia
 .simp only[aD j];lia
def CW (lo hi:aA Int)(n:Nat):Builtin.Slice.sliceAdjust lo hi 1 (n:Int)=(((iz n 0 lo:Nat):Int),((iz n n hi:Nat):Int)):=by
 have h1:¬ ((1:Int)<0):=by lia
 unfold Builtin.Slice.sliceAdjust;simp only[h1,d0];refine Prod.ext ?_ ?_
 .cases lo with
  |none=>rfl
  |some v=>exact EZ v n 0
 .cases hi with
  |none=>rfl
  |some v=>exact EZ v n n
def B5 (i j:Nat):Builtin.Slice.slicePlaces (i:Int) (j:Int) 1=j - i:=by
 unfold Builtin.Slice.slicePlaces;have h1:(1:Int)>0:=by lia
 simp only[h1,d7,Int.ediv_one];split<;>lia
def uQ {v:av}{o:aA Int}{Q:aA Int->ar->Prop}(p:IsPart v o)(h:Q o s):wpAny Zw A (Builtin.Slice.slicePartIndex v) Q E s:=by
 cases p with
 |none=>exact slicePart_none h
 |int i t=>exact slicePart_int h
def rT {sl:au}{vl vu:av}{lo hi:aA Int}{n:Nat}{Q:Int×Int×Nat->ar->Prop}(hs:s.heap.IsSliceOf sl vl vu .none)(pl:IsPart vl lo)(pu:IsPart vu hi)
 (h:Q (((iz n 0 lo:Nat):Int),1,iz n n hi - iz n 0 lo) s):wpAny Zw A (Builtin.Slice.sliceApplied (.ref sl)<|pure (n:Int)) Q E s:=by
 obtain⟨os,d,q,j⟩:=id hs;unfold Builtin.Slice.sliceApplied Builtin.Slice.sliceFields;refine fj<|fj<|bh d j (x:=vl) rfl (fj<|bh d j (x:=vu) rfl (fj<|bh d j (x:=.none) rfl (aC<|fj<|slicePart_none ?_)));show wpAny _ _ (if((1:Int)==0)=true then _ else _) _ _ s;rw[aD Zu];refine fj<|uQ pl<|fj<|uQ pu<|fj<|aC ?_;show wpAny _ _ (match Builtin.Slice.sliceAdjust lo hi 1 (n:Int)with|(lo,hi)=>pure (lo,(1:Int),Builtin.Slice.slicePlaces lo hi 1)) _ _ s;rw[CW lo hi n];show wpAny _ _ (pure (((iz n 0 lo:Nat):Int),(1:Int),Builtin.Slice.slicePlaces ((iz n 0 lo:Nat):Int) ((iz n n hi:Nat):Int) 1)) _ _ s;rw[B5];exact aC h
def Io (xs:Array av)(i k:Nat):((List.range k).filterMap λ(m:Nat)=>xs[((i:Int)+(m:Int)*1).toNat]?).toArray=((xs.toList.drop i).take k).toArray:=by
 have e:(λ(m:Nat)=>xs[((i:Int)+(m:Int)*1).toNat]?)=λm=>xs[i+m]?:=by
  funext m;have:((i:Int)+(m:Int)*1).toNat=i+m:=by lia
  rw[this]
 rw[e];have:=pick_run xs i k;rw[eG]at this;have d:((λx=>xs[x]?) ∘ λx=>i+x)=λm=>xs[i+m]?:=rfl;rw[d]at this;rw[this]
def rj {t sl:au}{items:Array av}{vl vu:av}{lo hi:aA Int}{Q:av->ar->Prop}(ht:IsTup s.heap t items)(hs:s.heap.IsSliceOf sl vl vu .none)(pl:IsPart vl lo)(pu:IsPart vu hi)
 (hw:¬ (iz items.size 0 lo=0/\iz items.size items.size hi=items.size))
 (h:Q ZV {s with heap:=s.heap.push { cls:=.type "tuple",data:=.seq ((items.toList.drop<|iz items.size 0 lo).take<|iz items.size items.size hi - iz items.size 0 lo).toArray}})
 (hsz:items.size<=sizeLine):wpAny Zw A (getItem (.ref t)<|.ref sl) Q E s:=by
 have d:sizeOk (.seq ((items.toList.drop<|iz items.size 0 lo).take<|iz items.size items.size hi - iz items.size 0 lo).toArray):=by show((items.toList.drop<|iz items.size 0 lo).take<|iz items.size items.size hi - iz items.size 0 lo).toArray.size<=sizeLine;rw[aI,a9,bL,cP];lia
 have J:iz items.size items.size hi<=items.size:=yo _ _ aaa hi;obtain⟨os,j,F,I⟩:=id hs;have G:s.TypeIs (.ref sl) "slice":=⟨os,j,F⟩;unfold getItem;try with_reducible refine cg ?_
 first|refine fj (aC ?_)|skip
 refine fj (wpAny_sequenceKey ht.typeIs Zu ?_);refine fj (bW (name:=Str.ofString "__getitem__") ht.typeIs PyProof.Rows.slot_tuple_getitem
  (cy PyProof.Rows.slot_tuple_getitem ht.typeIs entry_tuple_getitem ?_<|args_tuple_getitem _ _))
 show wpAny _ _ (Builtin.Tuple.tupleItemsOf (.ref t)>>=_) _ _ s;refine fj<|tupleItemsOf_ ht<|fj<|wpAny_typeOf G ?_;rw[aF Zu];refine fj<|rT hs pl pu ?_;have y:¬ ((((iz items.size 0 lo:Nat):Int)==0&&(1:Int)==1&&(iz items.size items.size hi - iz items.size 0 lo)==items.size)=true):=by intro q;rw[bM,bM]at q;have q1:((iz items.size 0 lo:Nat):Int)=0:=eq_of_beq q.1.1;have q2:iz items.size items.size hi - iz items.size 0 lo=items.size:=eq_of_beq q.2;exact hw ⟨by lia,by lia⟩
 show wpAny _ _ (if(((iz items.size 0 lo:Nat):Int)==0&&(1:Int)==1&&(iz items.size items.size hi - iz items.size 0 lo)==items.size)=true then _ else _) _ _ s;rw[aD y,Io];first
  |exact fj (m:=Builtin.Tuple.tupleExact _) (cf (aC ⟨_,rfl,aC h⟩) d)
  |exact fj (m:=Builtin.Tuple.tupleExact _) (cf (fj<|aC<|aC ⟨_,rfl,aC h⟩) d)
  |exact fj (fj (m:=Builtin.Tuple.tupleExact _)<|cf (aC<|aC ⟨_,rfl,aC h⟩) d)
  |exact fj (fj (m:=Builtin.Tuple.tupleExact _)<|cf (aC ⟨_,rfl,aC h⟩) d)
end
end HT
namespace L2
open PySem PySem.Spec PyProof.Rows
abbrev TO:=St->Hp->(aA Int->Hp->Prop)->Prop
def PO (X:Cx)(e:aA Expr)(t:TO):Prop :=
 ∀(aa:az ZE) (s:ar) (σ:St) (H:Hp) (Q:aA Int->Hp->Prop),Inv X aa σ H s->t σ H Q ->
  wpAny Zt X.A (evalPart e X.env) (λu s'=>∃ o H',Inv X aa σ H' s'/\IsPart u o/\Q o H') X.xe s
def LP:TO:=λ_ H Q=>Q none H
section
variable {X:Cx}{e:Expr}{te:TE}{lo hi:aA Expr}{tl th:TO}{pos p2:Pos}
def Mq:PO X none LP:=by intro aa s σ H Q I h;rw[evalPart_none];exact aC ⟨none,H,I,.none,h⟩
def VF (X:Cx)(r:V->aA Int->aA Int->Hp->VK->Prop):Prop :=
 ∀(aa:az ZE) (s:ar) (σ:St) (H:Hp) (x:V) (v vl vu:av) (lo hi:aA Int) (sl:au) (Q:VK),Inv X aa σ H s->fH x v->s.heap.IsSliceOf sl vl vu .none->IsPart vl lo->IsPart vu hi->r x lo hi H Q ->
  ∃ T id,typeLookup (.type T) "__getitem__"=pure (some<|.builtin id)/\s.TypeIs v T/\wpAny Zt X.A (getItem v<|.ref sl) aad X.xe s
def tSl (r:V->aA Int->aA Int->Hp->VK->Prop)(te:TE)(tl th:TO):TE:=λσ H Q=>te σ H λx H1=>tl σ H1 λl H2=>th σ H2 λu d=>r x l u d Q
def Aa {r:V->aA Int->aA Int->Hp->VK->Prop}(hr:VF X r)(he:PE X e te)(hl:PO X lo tl)(U:PO X hi th):PE X (.Subscript e (.Slice lo hi none p2) pos) (tSl r te tl th):=by intro aa s σ H Q I h;refine Subscript_ (gc aaq λv J MY=>?_);obtain⟨x,H1,I1,L,q1⟩:=MY;refine wpAny_Slice (gc (hl aa J σ H1 _ I1 q1) λy G MX=>?_);obtain⟨l,H2,I2,pl,q2⟩:=MX;refine gc (U aa G σ H2 _ I2 q2) λj d MW=>?_;obtain⟨u,F,I3,O,M⟩:=MW;rw[evalPart_none];refine aC ?_;have I4:Inv X aa σ F { d with heap:=d.heap.push { cls:=.type "slice",data:=.fields #[y,j,.none]}}:=I3.af (t':=d.toks) λb ob q=>iU _ q;obtain⟨T,id,Z,ht,Y⟩:=hr aa { d with heap:=d.heap.push { cls:=.type "slice",data:=.fields #[y,j,.none]}} σ F x v y j l u d.heap.objs.size Q I4 L (Heap.IsSliceOf.new ..) pl O M;show wpAny Zt X.A (subscriptTail e (.Slice lo hi none p2) v<|.ref d.heap.objs.size) aad X.xe { d with heap:=d.heap.push { cls:=.type "slice",data:=.fields #[y,j,.none]}};exact tail_any (ops:=[.ref d.heap.objs.size,v]) ht Z Y (by with_unfolding_all rfl)
def za (xs:az V)(lo hi:aA Int):az V:=(xs.drop<|HT.iz xs.length 0 lo).take (HT.iz xs.length xs.length hi - HT.iz xs.length 0 lo)
def tw (xs:az V)(lo hi:aA Int):(za xs lo hi).length<=xs.length:=by unfold za;rw[a9,bL];lia
def WU (K:aj):V->aA Int->aA Int->Hp->VK->Prop:=λx lo hi H Q=>∃ a xs,x=.ref a/\C4 K H a xs /\
 ¬ (HT.iz xs.length 0 lo=0/\HT.iz xs.length xs.length hi=xs.length)/\∀ p,H p=none->Q (.ref p) (upd H p<|.tup<|za xs lo hi)
def PR:VF X (WU X.K):=by
 intro aa s σ H x v O M lo hi U Q I F hs pl G h;obtain⟨a,xs,rfl,J,L,q⟩:=h;cases F;obtain⟨j,r,ht,y⟩:=I.tuple J;have d:j.toArray.size=xs.length:=by rw[aI];exact r.length.symm
 refine⟨"tuple",_,PyProof.Rows.slot_tuple_getitem.lookup,ht.typeIs,HT.rj ht hs pl G (by rw[d];exact L) ?_ (by rw[d];exact y)⟩;rw[d];refine⟨.ref s.heap.objs.size,_,I.laid (t':=s.toks) (o:=.tup<|za xs lo hi) (λb Y q=>iU _ q) aaa ?_,rfl,q _<|I.fO.fresh<|aB _⟩;exact⟨aT (tw xs lo hi) y,_,(r.drop<|HT.iz xs.length 0 lo).take<|HT.iz xs.length xs.length hi - HT.iz xs.length 0 lo,IsTup.new _ _⟩
end
def Ay (n:Nat)(i:Int):aA Nat:=if 0<=i then(if i<n then some i.toNat else none)else if -(n:Int)<=i then some (i+n).toNat else none
def kP {α:Type}(xs:az α)(i:Int):aA α:=(Ay xs.length i).bind λj=>xs[j]?
def Em {n:Nat}{i:Int}{j:Nat}(h:Ay n i=some j):seqIndex? i n=some j/\j<n /\ -(n:Int)<=i/\i<n:=by
 unfold Ay at h;by_cases d:0<=i
 .rw[aF d]at h;by_cases h1:i<n
  .rw[aF h1]at h;have e:i.toNat=j:=a5 h;exact⟨by rw[seqIndex_of d h1,e],by lia,by lia,h1⟩
  .rw[aD h1]at h;cases h
 .rw[aD d]at h;by_cases h1:-(n:Int)<=i
  .rw[aF h1]at h;have e:(i+n).toNat=j:=a5 h;exact⟨by rw[seqIndex_neg Zs h1,e],by lia,h1,by lia⟩
  .rw[aD h1]at h;cases h
def zg {α:Type}{xs:az α}{i:Int}{v:α}(h:kP xs i=some v):∃ j,seqIndex? i xs.length=some j/\xs[j]?=some v/\j<xs.length /\ -(xs.length:Int)<=i/\i<xs.length:=by
 unfold kP at h;cases e:Ay xs.length i with
 |none=>rw[e]at h;cases h
 | some j =>rw[e]at h;obtain⟨h1,h2,q,d⟩:=Em e;exact⟨j,h1,h,h2,q,d⟩
def iS {α:Type}{xs:az α}{j:Nat}{v:α}(h:xs[j]?=some v):kP xs (j:Int)=some v:=by
 have d:j<xs.length:=(jA h).1;have e:Ay xs.length (j:Int)=some j:=by unfold Ay;rw[aF Zs,aF Zs];simp
 unfold kP;rw[e];exact h
def K5 {α:Type}(xs:az α)(v:α):kP (xs++[v]) (-1)=some v:=by
 have hl:(xs++[v]).length=xs.length+1:=by simp
 have e:Ay (xs++[v]).length (-1)=some xs.length:=by unfold Ay;rw[hl,aD Zu,aF Zs];congr 1;lia
 unfold kP;rw[e];show(xs++[v])[xs.length]?=some v;simp
def zj (b:Expr):Prop:=∀ o i,subscripted b false o i=operate [o,i] (getItem o i)
def Fo (X:Cx)(r:R2):Prop :=
 ∀(value d:Expr) (aa:az ZE) (s:ar) (σ:St) (H:Hp) (x y:V) (v u:av) (Q:VK),Inv X aa σ H s->fH x v->fH y u->r x y H Q ->
  subscripted d false v u=operate [v,u] (getItem v u)->wpAny Zt X.A (subscriptTail value d v u) aad X.xe s
def zy (X:Cx)(id:String)(r:V->az V->Hp->VK->Prop):Prop :=
 ∀(aa:az ZE) (s:ar) (σ:St) (H:Hp) (x:V) (xs:az V) (v:av) (us:az av) (Q:VK),Inv X aa σ H s->fH x v->fF xs us->r x xs H Q ->
  wpAny Zt X.A (call (.builtin id)<|v::us) aad X.xe s
section
variable {X:Cx}{a b:Expr}{ta tb:TE}{pos:Pos}
def Fo.or {r G:R2}(h:Fo X r)(h':Fo X G):Fo X (λx y H Q=>r x y H Q\/G x y H Q):=by
 intro value d aa s σ H x y v u Q I F j q hs;rcases q with q|q
 .exact h value d aa s σ H x y v u Q I F j q hs
 .exact h' value d aa s σ H x y v u Q I F j q hs
def og {r:R2}(hr:Fo X r)(ha:PE X a ta)(hb:PE X b tb)(hs:zj b):PE X (.Subscript a b pos) (Td r ta tb):=by intro aa s σ H Q I h;exact Subscript_ (NU ha hb I h λv u d x y H2 G F j q=>hr a b aa d σ H2 x y v u Q G F j q<|hs _ _)
def TH (K:aj):R2:=λx y H Q=>∃ p xs i v,x=.ref p/\y=.int i/\nJ K H p xs/\kP xs i=some v/\Q v H
def TC (K:aj):R2:=λx y H Q=>∃ p xs i v,x=.ref p/\y=.int i/\C4 K H p xs/\kP xs i=some v/\Q v H
def TF:R2:=λx y H Q=>∃ z i c,x=.str z/\y=.int i/\z.length<=sizeLine/\kP z.cps.toList i=some c/\Q (.str ⟨#[c]⟩) H
def MN:Fo X (TH X.K):=by
 intro value d aa s σ H x y v u Q I U O h hs;obtain⟨p,xs,i,z,rfl,rfl,Y,Z,q⟩:=h;cases U;obtain⟨t,rfl⟩:=O;obtain⟨G,r,pl,hz⟩:=I.list Y;obtain⟨j,h1,h2,h3,h4,h5⟩:=zg Z;obtain⟨w,M,F⟩:=r.get h2;have hl:=r.length;have hn:=pV;have fin:EP X aa σ Q w s:=⟨z,H,I,F,q⟩;by_cases L:0<=i
 .have J:i.toNat=j:=by rw[seqIndex_of L h5]at h1;exact a5 h1
  exact item_listR pl.isList L Zs (by rw[J];simpa using M) fin hs
 .have J:(i+(G.toArray.size:Int)).toNat=j:=by rw[seqIndex_neg Zs h4]at h1;rw[aI,<- hl];exact a5 h1
  exact subscriptTail_builtinR (x:=w) pl.isList.typeIs slot_list_getitem.lookup
   (wpAny_getItem_list_neg (Q:=λr s'=>r=w/\EP X aa σ Q r s') pl.isList Zs (by rw[aI]<;> lia) Zs (by rw[J];simpa using M) ⟨rfl,fin⟩) hs
def QS:Fo X (TC X.K):=by
 intro value d aa s σ H x y v u Q I J G h hs;obtain⟨p,xs,i,z,rfl,rfl,M,O,q⟩:=h;cases J;obtain⟨t,rfl⟩:=G;obtain⟨L,r,pl,Y⟩:=I.tuple M;obtain⟨j,h1,h2,h3,h4,Z⟩:=zg O;obtain⟨w,U,F⟩:=r.get h2;have hl:=r.length;have hn:=pV;have fin:EP X aa σ Q w s:=⟨z,H,I,F,q⟩;exact subscriptTail_builtinR (x:=w) pl.typeIs slot_tuple_getitem.lookup
  (getItem_tuple (j:=j) (Q:=λr s'=>r=w/\EP X aa σ Q r s') pl Zs Zs (by rw[aI,<- hl];exact h1) (by simpa using U) ⟨rfl,fin⟩) hs
def QT:Fo X TF:=by
 intro value d aa s σ H x y v u Q I G F h hs;obtain⟨z,i,c,rfl,rfl,Y,J,q⟩:=h;obtain⟨t,rfl⟩:=G;obtain⟨U,rfl⟩:=F;obtain⟨j,h1,h2,Z,M,L⟩:=zg J;have hl:z.cps.toList.length=z.length:=by simp[Str.length]
 rw[hl]at h1 M L;have hn:=pV;exact tail_any (typeIs_str s z t) slot_str_getitem.lookup (getItem_str (c:=c) (by
  have e1:decide (i < -(2 ^ 63:Int))=false:=aO Zs
  have O:decide (i≥2 ^ 63)=false:=aO Zs
  rw[e1,O,Bool.or_false]) (by rw[h1];simpa using h2) ⟨.str ⟨#[c]⟩,H,I.tok _,⟨_,rfl⟩,q⟩) hs
def rIx (K:aj):R2:=λx y H Q=>TH K x y H Q\/TC K x y H Q\/TF x y H Q
def QU:Fo X (rIx X.K):=MN.or (QS.or QT)
def Ce (d:az av)(n j:Nat)(u:av):Obj.mapSeq (·.setIfInBounds j u) { cls:=.type "list",data:=.seq d.toArray n}={ cls:=.type "list",data:=.seq (d.set j u).toArray n}:=by simp[Obj.mapSeq]
theorem Inv.lst {aa:az ZE}{σ:St}{H:Hp}{s:ar}{p:au}{xs:az V}(I:Inv X aa σ H s)(h:H p=some (.lst xs)):
 ∃(d:az av) (n:Nat),fF xs d/\s.heap.get? p=some { cls:=.type "list",data:=.seq d.toArray n}/\xs.length<=sizeLine:=by
 obtain⟨z,d,n,r,e⟩:=I.fO p _ h;exact⟨d,n,r,e,z⟩
def Inv.QL {aa:az ZE}{σ:St}{H:Hp}{s:ar}{p:au}{xs ys:az V}{d its':az av}{n j:Nat}{f:Obj->Obj}(I:Inv X aa σ H s)(h:H p=some (.lst xs))
 (y:s.heap.get? p=some { cls:=.type "list",data:=.seq d.toArray n}) (hf:f { cls:=.type "list",data:=.seq d.toArray n}={ cls:=.type "list",data:=.seq its'.toArray j}) (r:fF ys its') (hz:ys.length<=sizeLine) (t:Nat):
 Inv X aa σ (upd H p<|.lst ys) {s with heap:=s.heap.update p f,toks:=t}:=by
 have e:(s.heap.update p f).get? p=some { cls:=.type "list",data:=.seq its'.toArray j}:=by rw[bV f y (by rw[hf]<;> rfl),hf]
 refine I.write (x:=p) (e:=p) (by rw[h];trivial) aam (λb u hb q=>(bg _ _<|bB hb).trans q) ⟨_,e⟩ ?_;exact⟨hz,its',j,r,e⟩
def TB:V->V->V->Hp->(Hp->Prop)->Prop:=λo i v H Q=>∃ p xs k j,o=.ref p/\i=.int k/\H p=some (.lst xs)/\Ay xs.length k=some j/\Q (upd H p<|.lst<|xs.set j v)
def set_list:N1 X TB:=by
 intro aa s σ H o i v ov iv u Q I U Y O h;obtain⟨p,xs,k,j,rfl,rfl,F,hj,q⟩:=h;cases U;obtain⟨t,rfl⟩:=Y;obtain⟨d,n,r,y,Z⟩:=I.lst F;obtain⟨h1,h2,J,G⟩:=Em hj;have hl:=r.length;have hn:=pV;have M:Inv X aa σ (upd H p<|.lst<|xs.set j v) { s with heap:=s.heap.update p (Obj.mapSeq (·.setIfInBounds j u))} :=
  I.QL F y (Ce d n j u) (r.set O j) (by rw[ba];exact Z) s.toks
 by_cases L:0<=k
 .have hk:k.toNat=j:=by rw[seqIndex_of L G]at h1;exact a5 h1
  exact W.ki_setAt y L Zs (by rw[aI,<- hl];exact G) (by rw[hk];exact⟨_,M,q⟩)
 .have hk:(k+(d.toArray.size:Int)).toNat=j:=by rw[seqIndex_neg Zs J]at h1;rw[aI,<- hl];exact a5 h1
  exact W.ki_setBack y Zs (by rw[aI,<- hl];exact J) Zs (by rw[hk];exact⟨_,M,q⟩)
def yj (lo hi:aA Int)(n:Nat):(sliceBounds lo hi none n).1=((HT.iz n 0 lo:Nat):Int)/\(sliceBounds lo hi none n).2.1=((HT.iz n n hi:Nat):Int)/\(sliceBounds lo hi none n).2.2=1:=by
 refine⟨?_,?_,rfl⟩
 .cases lo with
  |none=>simp[sliceBounds,HT.iz]
  | some i =>
   simp only[sliceBounds,HT.iz,Option.getD_none,show(1:Int)>0 by decide,d7];by_cases h:i<0
   .simp only[h,d7]<;> lia
   .simp only[h,d0]<;> lia
 .cases hi with
  |none=>simp[sliceBounds,HT.iz]
  | some i =>
   simp only[sliceBounds,HT.iz,Option.getD_none,show(1:Int)>0 by decide,d7];by_cases h:i<0
   .simp only[h,d7]<;> lia
   .simp only[h,d0]<;> lia
def wx (d:az av)(lo hi:aA Int):slicePick d.toArray lo hi none=((d.drop<|HT.iz d.length 0 lo).take<|HT.iz d.length d.length hi - HT.iz d.length 0 lo).toArray:=by obtain⟨h1,h2,j⟩:=yj lo hi d.toArray.size;unfold slicePick;rw[h1,h2,j];simp only[sliceRange_one,pick_run,aI]<;> rfl
def WW (K:aj):V->aA Int->aA Int->Hp->VK->Prop:=λx lo hi H Q=>∃ a xs,x=.ref a/\nJ K H a xs/\∀ p,H p=none->Q (.ref p) (upd H p<|.lst<|za xs lo hi)
def L5:VF X (WW X.K):=by intro aa s σ H x v M L lo hi O Q I j hs pl y h;obtain⟨a,xs,rfl,J,q⟩:=h;cases j;obtain⟨F,r,ht,G⟩:=I.list J;have d:=r.length;refine⟨"list",_,slot_list_getitem.lookup,ht.isList.typeIs,wpAny_getItem_list_slice ht.isList hs pl y .none ZN ?_ (by rw[aI]<;> lia)⟩;rw[wx,<- d];refine⟨.ref s.heap.objs.size,_,I.laid (t':=s.toks) (o:=.lst<|za xs lo hi) (λb U q=>iU _ q) aaa ?_,rfl,q _<|I.fO.fresh<|aB _⟩;exact⟨aT (tw xs lo hi) G,_,0,(r.drop<|HT.iz xs.length 0 lo).take<|HT.iz xs.length xs.length hi - HT.iz xs.length 0 lo,aL _ rfl⟩
def jY:V->Bool
 |.fX=>true
 |.bl _=>true
 |.int _=>true
 |.str _=>true
 |_=>false
def J7:V->V->Bool
 |.fX,.fX=>true
 |.bl a,.bl b=>a==b
 |.bl a,.int b=>(if a then 1 else 0)==b
 |.int a,.bl b=>a==(if b then 1 else 0)
 |.int a,.int b=>a==b
 |.str a,.str b=>a==b
 |_,_=>false
def CL {A:Around}{s:ar}{y x:V}{u v:av}(q:fH y u)(d:fH x v)(F:jY y=true)(fx:jY x=true):SeqAt.EqAt A s u v (J7 y x):=by
 cases y with
 | fX =>
  cases q;cases x with
  |fX=>cases d;exact SeqAt.EqAt.same _
  |bl b=>cases d;exact SeqAt.EqAt.none_bool b
  |int b=>obtain⟨t,rfl⟩:=d;exact SeqAt.EqAt.none_int b t
  |str b=>obtain⟨t,rfl⟩:=d;exact SeqAt.EqAt.none_str b t
  |_=>exact absurd (show false=true from fx) aZ
 | bl a =>
  cases q;cases x with
  |fX=>cases d;exact SeqAt.EqAt.bool_none a
  |bl b=>cases d;exact SeqAt.EqAt.bool_bool a b
  |int b=>obtain⟨t,rfl⟩:=d;exact SeqAt.EqAt.bool_int a b t
  |str b=>obtain⟨t,rfl⟩:=d;exact SeqAt.EqAt.bool_str a b t
  |_=>exact absurd (show false=true from fx) aZ
 | int a =>
  obtain⟨j,rfl⟩:=q;cases x with
  |fX=>cases d;exact SeqAt.EqAt.int_none a j
  |bl b=>cases d;exact SeqAt.EqAt.int_bool a j b
  |int b=>obtain⟨t,rfl⟩:=d;exact SeqAt.EqAt.int_int a j b t
  |str b=>obtain⟨t,rfl⟩:=d;exact SeqAt.EqAt.int_str a j b t
  |_=>exact absurd (show false=true from fx) aZ
 | str a =>
  obtain⟨j,rfl⟩:=q;cases x with
  |fX=>cases d;exact SeqAt.EqAt.str_none a j
  |bl b=>cases d;exact SeqAt.EqAt.str_bool a j b
  |int b=>obtain⟨t,rfl⟩:=d;exact SeqAt.EqAt.str_int a j b t
  |str b=>obtain⟨t,rfl⟩:=d;exact SeqAt.EqAt.str_str a j b t
  |_=>exact absurd (show false=true from fx) aZ
 |_=>exact absurd (show false=true from F) aZ
def CK (x:V)(u:av):Bool:=match u with
 |.none=>J7 .fX x
 |.bool b=>J7 (.bl b) x
 |.int i _=>J7 (.int i) x
 |.str z _=>J7 (.str z) x
 |_=>false
def J8 {x y:V}{u:av}(r:fH y u)(f:jY y=true):CK x u=J7 y x:=by
 cases y with
 |fX=>cases r;rfl
 |bl b=>cases r;rfl
 |int i=>obtain⟨t,rfl⟩:=r;rfl
 |str z=>obtain⟨t,rfl⟩:=r;rfl
 |_=>exact absurd (show false=true from f) aZ
theorem rE {x:V}:∀ {xs:az V} {us:az av},fF xs us->xs.all jY=true->us.any (CK x)=xs.any λy=>J7 y x
 |_,_,.nil,_=>rfl
 | y::xs,u::us,.cons r t,f=>by rw[dk,bM]at f;rw[cK,cK,J8 r f.1,rE t f.2]
theorem om {A:Around}{s:ar}{x:V}{v:av}(j:fH x v)(fx:jY x=true):∀ {xs:az V} {us:az av},fF xs us->xs.all jY=true->∀ u∈us,SeqAt.EqAt A s u v (CK x u)
 |_,_,.nil,_=>λu d=>by cases d
 | y::xs,u::us,.cons r t,f=>λq d=>by
  rw[dk,bM]at f;rcases List.mem_cons.mp d with rfl|d
  .rw[J8 r f.1];exact CL r j f.1 fx
  .exact om j fx t f.2 q d
def Q1 (x:V)(xs:az V):Bool:=xs.any λy=>J7 y x
def YN (K:aj)(neg:Bool):R2:=λx y H Q=>∃ p xs,y=.ref p/\(nJ K H p xs\/C4 K H p xs)/\jY x=true/\xs.all jY=true/\Q (.bl<|if neg then !Q1 x xs else Q1 x xs) H
def FY:jG X (compareOp .In) (YN X.K false):=by
 intro aa s σ H x y v u Q I G J h;obtain⟨p,xs,rfl,j,fx,fs,q⟩:=h;cases J;rcases j with j|j
 .obtain⟨d,r,pl,L⟩:=I.list j;refine SeqAt.in_listAt (CK x) pl.isList (λw F=>om G fx r fs w<|by simpa using F) ⟨.bl _,H,I,rfl,?_⟩;rw[show d.toArray.any (CK x)=d.any (CK x) by simp,rE r fs];exact q
 .obtain⟨d,r,pl,L⟩:=I.tuple j;refine SeqAt.in_tupleAt (CK x) pl (λw F=>om G fx r fs w<|by simpa using F) ⟨.bl _,H,I,rfl,?_⟩;rw[show d.toArray.any (CK x)=d.any (CK x) by simp,rE r fs];exact q
def yE:jG X (compareOp .NotIn) (YN X.K true):=by
 intro aa s σ H x y v u Q I G J h;obtain⟨p,xs,rfl,j,fx,fs,q⟩:=h;cases J;rcases j with j|j
 .obtain⟨d,r,pl,L⟩:=I.list j;refine SeqAt.notIn_listAt (CK x) pl.isList (λw F=>om G fx r fs w<|by simpa using F) ⟨.bl _,H,I,rfl,?_⟩;rw[show d.toArray.any (CK x)=d.any (CK x) by simp,rE r fs];exact q
 .obtain⟨d,r,pl,L⟩:=I.tuple j;refine SeqAt.notIn_tupleAt (CK x) pl (λw F=>om G fx r fs w<|by simpa using F) ⟨.bl _,H,I,rfl,?_⟩;rw[show d.toArray.any (CK x)=d.any (CK x) by simp,rE r fs];exact q
def yD:jG X (compareOp .NotIn) (λx y H Q=>∃ i j,x=.str i/\y=.str j/\Q (.bl<|!(!(Builtin.Str.occurrences j i 0 j.length 1).isEmpty)) H):=by intro aa s σ H x y v u Q I F d h;obtain⟨i,j,rfl,rfl,q⟩:=h;obtain⟨t,rfl⟩:=F;obtain⟨G,rfl⟩:=d;exact notIn_str ⟨.bl _,H,I,rfl,q⟩
def zf:h9 X (.builtin "len") (λxs H Q=>∃ p ys,xs=[.ref p]/\(nJ X.K H p ys\/C4 X.K H p ys)/\Q (.int ys.length) H):=by
 intro aa s σ H xs L Q I r h;obtain⟨p,ys,rfl,j,q⟩:=h;obtain⟨u,rfl,G⟩:=vals1 r;cases G;have hn:=pV;rcases j with j|j
 .obtain⟨F,y,pl,J⟩:=I.list j;have d:=y.length;exact Calls.call_len_list pl.isList (by simp only[aI]<;> lia) ⟨.int ys.length,H,I.tok _,⟨s.toks+1,by rw[aI,d]⟩,q⟩
 .obtain⟨F,y,pl,J⟩:=I.tuple j;have d:=y.length;exact len_tuple pl (by simp only[aI]<;> lia) ⟨.int ys.length,H,I.tok _,⟨s.toks+1,by rw[aI,d]⟩,q⟩
def ze:h9 X (.builtin "len") (λxs H Q=>∃ z,xs=[.str z]/\z.length<=sizeLine/\Q (.int z.length) H):=by intro aa s σ H xs d Q I r h;obtain⟨z,rfl,j,q⟩:=h;obtain⟨u,rfl,t,rfl⟩:=vals1 r;have hn:=pV;exact len_str Zs ⟨.int z.length,H,I.tok _,⟨_,rfl⟩,q⟩
def h9.or {f:av}{r y:az V->Hp->VK->Prop}(h:h9 X f r)(h':h9 X f y):h9 X f (λxs H Q=>r xs H Q\/y xs H Q):=by
 intro aa s σ H xs d Q I j q;rcases q with q|q
 .exact h aa s σ H xs d Q I j q
 .exact h' aa s σ H xs d Q I j q
def zd:h9 X (.type "list") (λxs H Q=>∃ p ys,xs=[.ref p]/\(nJ X.K H p ys\/C4 X.K H p ys)/\∀ l,H l=none->Q (.ref l) (upd H l<|.lst ys)):=by
 intro aa s σ H xs U Q I r h;obtain⟨p,ys,rfl,G,q⟩:=h;obtain⟨u,rfl,O⟩:=vals1 r;cases O;have fin:∀(d:az av),fF ys d->ys.length<=sizeLine->∀(h':Heap) (y:Nat),(∀ b o',s.heap.get? b=some o'->h'.get? b=some o') ->
  h'.get? s.heap.objs.size=some { cls:=.type "list",dict:=none,data:=.seq d.toArray y,slots:=#[]}->EP X aa σ Q ZV {s with heap:=h'}:=λd j F h' y kp e=>
  ⟨.ref s.heap.objs.size,_,I.laid (t':=s.toks) kp aaa<|show iB X.prog X.w _ h' _ (.lst ys)from⟨F,d,y,j,e⟩,rfl,q _<|I.fO.fresh<|aB _⟩
 rcases G with G|G
 .obtain⟨d,j,pl,F⟩:=I.list G;have J:=j.length;obtain⟨o,L,M,n,hd⟩:=pl.isList;exact call_list_seq p aam L M hd (λh' y kp e=>fin d j F h' y kp e) (by simp only[aI]<;> lia)
 .obtain⟨d,j,pl,F⟩:=I.tuple G;have J:=j.length;obtain⟨o,L,M,n,hd⟩:=pl;exact call_list_seq p (.inr rfl) L M hd (λh' y kp e=>fin d j F h' y kp e) (by simp only[aI]<;> lia)
def VZ (K:aj)(T:String)(x:V)(H:Hp):Prop:=match x with
 |.str _=>T = "str"
 |.int _=>T = "int"
 | .ref p=>(T = "list"/\∃ xs,nJ K H p xs)\/(T = "tuple"/\∃ o,K.lookup p=some o/\o.cls=.type "tuple"/\o.dict=none) \/
  (T = "dict"/\((∃ d,H p=some (.dK d))\/∃ d,H p=some (.dT d)))\/(T = "set"/\∃ S n,H p=some (.set S n))
 |_=>False
def Hk {aa:az ZE}{σ:St}{H:Hp}{s:ar}{T:String}{x:V}{v:av}(I:Inv X aa σ H s)(r:fH x v)(ty:VZ X.K T x H):
 s.TypeIs v T/\∀ a,v=.ref a->∃ q,s.heap.get? a=some q/\q.dict=none:=by
 cases x with
 | str z =>obtain⟨t,rfl⟩:=r;cases(show T = "str" from ty);exact⟨typeIs_str s z t,λ_ e=>nomatch e⟩
 | int i =>obtain⟨t,rfl⟩:=r;cases(show T = "int" from ty);exact⟨typeIs_int s i t,λ_ e=>nomatch e⟩
 | ref p =>
  cases r;rcases ty with⟨rfl,xs,F⟩|⟨rfl,o,hk,G,hd⟩|⟨rfl,hk⟩|⟨rfl,S,n,hk⟩
  .obtain⟨y,_,pl,_⟩:=I.list F;refine⟨pl.isList.typeIs,λa e=>?_⟩;cases e;obtain⟨o,n,e,c,hd,_⟩:=pl;exact⟨o,e,hd⟩
  .refine⟨⟨o,I.se p o hk,G⟩,λa e=>?_⟩;cases e;exact⟨o,I.se _ o hk,hd⟩
  .have z:∃ o,s.heap.get? p=some o/\o.ExactDict:=by
    rcases hk with⟨d,hk⟩|⟨d,hk⟩
    .obtain⟨_,_,_,_,o,_,_,e,ex,_⟩:=I.fO p _ hk;exact⟨o,e,ex⟩
    .obtain⟨_,_,_,_,o,_,_,e,ex,_⟩:=I.fO p _ hk;exact⟨o,e,ex⟩
   obtain⟨o,e,ex⟩:=z
   refine⟨⟨o,e,ex.1⟩,λa j=>?_⟩
   cases j
   exact⟨o,e,ex.2.1⟩
  .obtain⟨o,_,_,_,e,ex,_⟩:=I.fO p _ hk;refine⟨⟨o,e,ex.1⟩,λa j=>?_⟩;cases j;exact⟨o,e,ex.2.1⟩
 |_=>exact False.elim ty
def WJ (K:aj)(T:String)(r:V->az V->Hp->VK->Prop)(to:TE):TE:=λσ H Q=>to σ H λx H1=>VZ K T x H1/\r x [] H1 Q
def tBM (K:aj)(T:String)(r:V->az V->Hp->VK->Prop)(to:TE)(t:TA):TE:=λσ H Q=>to σ H λx H1=>VZ K T x H1/\t σ H1 λxs H2=>r x xs H2 Q
variable {o e:Expr}{es:az Expr}{to:TE}{t:TA}{name:Str}{gH hJ:Pos}{T id:String}{r:V->az V->Hp->VK->Prop}
def Qv (pa:PlainAttrs T)(slot:Slot T name id)(j:typeOf (.builtin id)=pure (.type "method_descriptor"))(hm:zy X id r)(G:PE X o to)
 (d:attributeBase o name X.env aaF=eval o X.env:=by rfl) (kN:aac=true:=by rfl):PE X (.Call (.Attribute o name gH) [] [] hJ) (WJ X.K T r to):=by
 intro aa s σ H Q I h;refine eH d kN (gc (G aa s σ H _ I h) λv F MV=>?_);obtain⟨x,H1,y,q,ty,q1⟩:=MV;obtain⟨h1,h2⟩:=Hk y q ty;exact⟨T,id,pa,slot,j,h1,h2,cV rfl (PySem.evalArgs_none<|hm aa F σ H1 x [] v [] Q y q .nil q1)⟩
def TU (pa:PlainAttrs T)(slot:Slot T name id)(j:typeOf (.builtin id)=pure (.type "method_descriptor"))(hm:zy X id r)(O:PE X o to)(ha:PA X ZX t)
 (d:attributeBase o name X.env aaF=eval o X.env:=by rfl)
 (Q7:((backTo hJ<|starEach ZX X.env).all (λx=>!x.1)&&(backToKw hJ<|keywordEach [] X.env).all (λx=>x.1.isSome)
   && decide ((e::es).length+([]:az Keyword).length+(if([]:az Keyword).isEmpty then 0 else 1)<30))=true:=by rfl)
 (kN:aac=true:=by rfl) (hs:starEach ZX X.env=(false,eval e X.env)::starEach es X.env:=by rfl) (Cr:(backTo hJ<|starEach es X.env).any Zx=false:=by rfl):
 PE X (.Call (.Attribute o name gH) ZX [] hJ) (tBM X.K T r to t):=by
 intro aa s σ H Q I h;refine wpAny_Call_method_late d Q7 kN rfl (gc (O aa s σ H _ I h) λv L MU=>?_);obtain⟨x,H1,y,q,ty,q1⟩:=MU;obtain⟨h1,h2⟩:=Hk y q ty;refine⟨T,id,pa,slot,j,h1,h2,?_⟩;have hA:=ha hJ aa L σ H1 _ y q1;rw[hs]at hA ⊢
 exact cV (by show(false||(backTo hJ<|starEach es X.env).any Zx)=false;rw[Cr]<;> rfl) (Calls.evalArgs_plain (gc hA λG J OM=>by obtain⟨F,H2,U,M,q2⟩:=OM;exact hm aa J σ H2 x F v G Q U q M q2))
end
def Wo (X:Cx)(id:String)(r:V->az V->Hp->VK->Prop):Prop :=
 ∀(aa:az ZE) (s:ar) (σ:St) (H:Hp) (x:V) (xs:az V) (v:av) (us:az av) (Q:VK),Inv X aa σ H s->fH x v->fF xs us->r x xs H Q ->
  wpAny Zt X.A (call (.builtin id)<|v::us) aad X.xe s
def fF.one {x:V}{us:az av}(h:fF [x] us):∃ u,us=[u]/\fH x u:=by
 cases h with
 |cons r t=>cases t;exact⟨_,rfl,r⟩
def fF.two {x y:V}{us:az av}(h:fF [x,y] us):∃ u v,us=[u,v]/\fH x u/\fH y v:=by
 cases h with
 |cons r t=>obtain⟨v,rfl,q⟩:=fF.one t;exact⟨_,v,rfl,r,q⟩
def fF.zero:∀ {us:az av},fF [] us->us=[]
 |_,.nil=>rfl
theorem fF.dropLast {xs:az V}{us:az av}(h:fF xs us):fF xs.dropLast us.dropLast:=by
 induction h with
 |nil=>exact .nil
 | cons r t d =>
  cases t with
  |nil=>exact .nil
  |cons q j=>exact .cons r d
theorem fF.reverse {xs:az V}{us:az av}(h:fF xs us):fF xs.reverse us.reverse:=by
 induction h with
 |nil=>exact .nil
 |cons r t d=>rw[dg,dg];exact fF.append d (.cons r .nil)
def CJ {α:Type}(l:az α):l.eraseIdx (l.length - 1)=l.dropLast:=by
 induction l with
 |nil=>rfl
 | cons a r d =>
  cases r with
  |nil=>rfl
  | cons b r =>
   have e:(a::b::r).length - 1=((b::r).length - 1)+1:=by have h1:(a::b::r).length=r.length+2:=rfl;have h2:(b::r).length=r.length+1:=rfl;lia
   rw[e,List.eraseIdx_cons_succ,d];all_goals rfl
section
variable {X:Cx}{aa:az ZE}{σ:St}{H:Hp}{s:ar}{l b:au}{xs ys zs:az V}
def Inv.Jf {d its':az av}{n:Nat}{f:Array av->Array av}{t':Nat}(I:Inv X aa σ H s)(y:H l=some (.lst xs))
 (e:s.heap.get? l=some { cls:=.type "list",data:=.seq d.toArray n}) (hf:f d.toArray=its'.toArray) (hv:fF ys its') (hz:ys.length<=sizeLine):
 Inv X aa σ (upd H l<|.lst ys) {s with heap:=s.heap.update l<|Obj.mapSeq f,toks:=t'}:=by
 have q:=PySem.IsL.update e f;rw[hf]at q;refine I.write (x:=l) (e:=l) (by rw[y];exact trivial) aam (λF u hb j=>(bg s.heap (Obj.mapSeq f)<|bB hb).trans j) ⟨_,q⟩ ?_;exact⟨hz,its',_,hv,q⟩
def Inv.W5 {d:az av}{t':Nat}(I:Inv X aa σ H s)(j:fF ys d)(hz:ys.length<=sizeLine):
 Inv X aa σ (upd H s.heap.objs.size<|.lst ys) {s with heap:=s.heap.push { cls:=.type "list",data:=.seq d.toArray},toks:=t'}:=
 I.laid (λ_ _ q=>iU _ q) aaa ⟨hz,d,0,j,aL _ rfl⟩
theorem Inv.fresh (I:Inv X aa σ H s):H s.heap.objs.size=none:=I.fO.fresh aaa
def Inv.j9 (I:Inv X aa σ H s)(j:H l=some (.lst xs)):xs.length<=sizeLine/\∃(d:az av) (n:Nat),fF xs d/\xs.length=d.length/\s.heap.get? l=some { cls:=.type "list",data:=.seq d.toArray n}:=by obtain⟨z,d,n,r,e⟩:=I.fO l _ j;exact⟨z,d,n,r,r.length,e⟩
def vf {n:Nat}(h:n<=sizeLine):Builtin.List.listTooLong n=false:=by unfold Builtin.List.listTooLong;exact aO Zs
end
section
variable {X:Cx}
def Mf:V->az V->Hp->VK->Prop:=λx d H Q=>∃ l xs y,x=.ref l/\d=[y]/\H l=some (.lst xs)/\xs.length<sizeLine/\Q .fX (upd H l<|.lst<|xs++[y])
def F3:Wo X "list.append" Mf:=by intro aa s σ H x M v O Q I G J h;obtain⟨l,xs,y,rfl,rfl,j,U,q⟩:=h;cases G;obtain⟨u,rfl,L⟩:=J.one;obtain⟨z,d,n,r,hl,e⟩:=I.j9 j;refine call_meets F.slot_list_append ⟨_,e,rfl⟩ F.entry_list_append (F.args_list_append_2 _ _) (PySem.list_append l d.toArray n u (by rw[aI];lia)) ⟨e,.fX,_,I.Jf (its':=d++[u]) j e ZN (r.append<|.cons L .nil) ?_,rfl,q⟩;rw[i8,aX];lia
def Md:V->az V->Hp->VK->Prop:=λx d H Q=>∃ l b xs zs,x=.ref l/\d=[.ref b]/\H l=some (.lst xs)/\H b=some (.lst zs)/\xs.length+zs.length<=sizeLine/\Q .fX (upd H l<|.lst<|xs++zs)
def SE:Wo X "list.extend" Md:=by
 intro aa s σ H x vs v us Q I L M h;obtain⟨l,b,xs,zs,rfl,rfl,J,Z,hz,q⟩:=h;cases L;obtain⟨u,rfl,O⟩:=M.one;cases O;obtain⟨z,j,n,r,hl,e⟩:=I.j9 J;obtain⟨z2,d,n2,U,Y,e2⟩:=I.j9 Z;have G:j.toArray.size+d.toArray.size<=sizeLine:=by rw[aI,aI];lia
 have y:¬ (!j.toArray.isEmpty&&Builtin.List.listTooLong (j.toArray.size+d.toArray.size))=true:=by rw[vf G,dO];exact aZ
 refine call_meets F.slot_list_extend ⟨_,e,rfl⟩ F.entry_list_extend (F.args_list_extend_2 _ _)
  (AutoSeq1.list_extend_list_list_0 l j.toArray n b d.toArray n2 y (by rw[aI];lia)<|by lia) ⟨e,e2,?_⟩
 refine⟨.fX,_,I.Jf (its':=j++d) J e ZN (r.append U) ?_,rfl,q⟩;rw[i8];lia
def WX:V->az V->Hp->VK->Prop:=λx d H Q=>∃ l xs y,x=.ref l/\d=[]/\H l=some (.lst xs)/\xs[xs.length - 1]?=some y/\Q y (upd H l<|.lst xs.dropLast)
def QK:Wo X "list.pop" WX:=by
 intro aa s σ H x Z v us Q I L M h;obtain⟨l,xs,y,rfl,rfl,J,U,q⟩:=h;cases L;have G:=M.zero;subst G;obtain⟨z,d,n,r,hl,e⟩:=I.j9 J;obtain⟨u,Y,O⟩:=r.get U;have j:d.toArray[d.toArray.size - 1]?=some u:=by show d.toArray[d.length - 1]?=some u;rw[<- Array.getElem?_toList,<- hl];exact Y
 refine call_meets F.slot_list_pop ⟨_,e,rfl⟩ F.entry_list_pop (F.args_list_pop_1 _) (MeetsSeq.list_pop_last l d.toArray n u j (by rw[aI];lia)) ⟨e,y,_,I.Jf (its':=d.dropLast) J e ?_ r.dropLast ?_,O,q⟩
 .show d.toArray.eraseIdxIfInBounds (d.toArray.size - 1)=d.dropLast.toArray;rw[aI,List.eraseIdxIfInBounds_toArray,CJ]
 .rw[List.length_dropLast];lia
def Qd:V->az V->Hp->VK->Prop:=λx d H Q=>∃ l xs,x=.ref l/\d=[]/\H l=some (.lst xs)/\Q .fX (upd H l<|.lst [])
def IV:Wo X "list.clear" Qd:=by intro aa s σ H x L v M Q I G J h;obtain⟨l,xs,rfl,rfl,y,q⟩:=h;cases G;have j:=J.zero;subst j;obtain⟨z,d,n,r,hl,e⟩:=I.j9 y;exact call_meets F.slot_list_clear ⟨_,e,rfl⟩ F.entry_list_clear (F.args_list_clear_1 _) (AutoSeq1.list_clear_list_0 l d.toArray n (by rw[aI];lia)) ⟨e,.fX,_,I.Jf (its':=[]) (ys:=[]) y e rfl .nil<|bx _,rfl,q⟩
def WY:R2:=λx y H Q=>∃ l b xs zs,x=.ref l/\y=.ref b/\H l=some (.lst xs)/\H b=some (.lst zs)/\xs.length+zs.length<=sizeLine/\∀ p,H p=none->Q (.ref p) (upd H p<|.lst<|xs++zs)
def QD:jG X (binaryOp .Add) WY:=by
 intro aa s σ H x y v u Q I G F h;obtain⟨l,b,xs,zs,rfl,rfl,M,O,hz,q⟩:=h;cases G;cases F;obtain⟨z,j,n,r,hl,e⟩:=I.j9 M;obtain⟨Z,d,n2,J,L,Y⟩:=I.j9 O;refine PySem.P.add_list e Y ?_ (by rw[aI,aI];lia);have U:j.toArray++d.toArray=(j++d).toArray:=by simp
 rw[U];exact⟨.ref _,_,I.W5 (t':=s.toks) (r.append J) (by rw[i8];lia),rfl,q _ I.fresh⟩
end
section
variable {prog:ak}{w:ao}{A:Around}{E:av->ar->Prop}{s:ar}
def FH (d j:az av)(a c:Nat):d.toArray.extract 0 a++j.toArray++d.toArray.extract c d.toArray.size=(d.take a++j++d.drop c).toArray:=by
 apply Array.toList_inj.mp;first
  | (simp
     exact br<|by simp)
  |simp[br]
  |simp
end
end L2
namespace Att
open PySem PySem.W PySem.Calls PyProof.Rows
def tS {P:Params}{h:Heap}:∀(ns:az Int) (vs:az av),WellAll P h vs (ns.map WData.int)->IntsAre vs ns:=by
 intro ns;induction ns with
 | nil =>intro vs w;rw[List.map_nil]at w;cases w;exact .nil
 | cons n ns d =>
  intro vs w;rw[aJ]at w;cases w with
  | cons a b =>cases a;exact .cons _ _ (d _ b)
def FK {l:OpenLaw}{n:Nat}(hn:l.most=some n){P:Params}{h:Heap}{args:az WData}{vals:az av}
 (j:l.row.toRowW.claim.pre args=true) (J:WellAll P h vals args):
 ∃ a vs ns,vals=[Value.ref a]/\args=[WData.list (ns.map WData.int)]/\h.get? a=some { cls:=.type "list",data:=.seq vs.toArray}/\IntsAre vs ns/\ns.length<=n:=by
 have L:WShape.hasAll [] args [.list .int]=true:=(pre_splitW j).1;have M:l.pre.holds [] { args:=args}=true:=(pre_splitW j).2;obtain⟨d,r,rfl,h1,h2⟩:=hasAllW_cons L;obtain rfl:=hasAllW_nil h2;obtain⟨xs,rfl,Z⟩:=hasW_list h1;obtain⟨ns,rfl⟩:=items_int Z;have y:ns.length<=n:=by
  unfold OpenLaw.pre at M;have I:(WTm.not<|.lt (.lit<|.int (n:Int))<|.len<|.arg 0).holds [] { args:=[.list (ns.map .int)]}=true:=by have I:=(holds_andW M).1;rw[hn]at I;exact I
  have G:=condW_of I<|w_not<|w_lt w_lit<|w_len_list<|w_arg rfl;rw[fI]at G;refine Nat.le_of_not_lt λq=>?_;have U:(n:Int)<((ns.length:Nat):Int):=by lia
  first
   |(rw[aH U]at G;exact absurd G<|by decide)
   |(simp at G;lia)
 cases J with
 | cons w1 O =>
  cases O;cases w1 with
  |list Y F=>exact⟨_,_,ns,rfl,rfl,Y,tS ns _ F,y⟩
def FQ (l:OpenLaw)(args:az WData):l.row.toRowW.claim.post args (.bool true) args=true :=
 postW_of (r:=l.row.toRowW) (X:=(true==true))
  (show WShape.has [] (.bool true) .bool=true by first|rfl|decide|simp[WShape.has,WShape.arms,WShape.armsAll])
  (show(WTm.eq .res<|.lit<|.bool true).value [] { args:=args,res:=some<|.bool true,after:=args}=some (.bool<|true==true)from w_eq_bool (w_res rfl) w_lit) rfl
def Bk {l:OpenLaw}{n:Nat}{q:ak}{loose:az Str}{XP:(Str->aA av)->Heap->Prop}{YP:ao->Heap->Prop}{d:DefRec}
 (hn:l.most=some n) (hdf:d.params.defaults=[])
 (call:∀(w:ao) (s₀ j:ar) (mg mb:Str->aA av) (O:au) (o:Obj) (pm U F:av) (a:au) (vs:az av) (ns:az Int),
   Ground q loose [] XP w s₀ mg mb j.heap->YP w j.heap ->
   j.heap.get? O=some o->o.data=.func (docDef d.name d.params d.body d.scope pm U F)->j.heap.CodeRec U d.name->mg d.name=some (.ref O) ->
   j.heap.get? a=some { cls:=.type "list",data:=.seq vs.toArray}->IntsAre vs ns->ns.length<=n->j.gens=#[] ->
   codeAny (model l.prog w) callerA (.call (.ref O) ⟨[.ref a],[]⟩) aal j):
 WalkO q loose XP YP l.row.toRowW d [] (λf vs=>PySem.call f vs):=by
 intro w s₀ j mg mb G Y O o pm U F dV kV ho hd Es hD hmg hg args vals as J hlay YZ hwl hlo;obtain rfl:dV=.none:=Dflts.none hD hdf;obtain rfl:kV=.none:=Dflts.noKw hD;obtain⟨a,vs,ns,rfl,rfl,L,y,M⟩:=FK hn J hwl;refine enter_call (codeAny_mono (call w s₀ j mg mb O o pm U F a vs ns G Y ho (fd_plain hd) Es hmg L y M hg) λr s' hq=>?_);obtain⟨rfl,h2,h3,h4⟩:=hq;exact⟨.inl ⟨.bool true,.bool true,[],rfl,λ_=>rfl,.bool true,FQ l _,λ_=>⟨List.Pairwise.nil,λ_ hm=>(nomatch hm)⟩⟩,h2,h3,h4⟩
end Att
namespace L2
open PySem PySem.Spec PyProof.Rows
def Fy {vs:az av}{ns:az Int}(h:IntsAre vs ns):fF abi vs:=by
 induction h with
 |nil=>exact .nil
 |cons n t h ih=>exact .cons ⟨t,rfl⟩ ih
def R9 (H:Hp):Prop:=∀ b,H b=none\/∃ o xs,H b=some (.oZ o<|.lst xs)
def Jl {P:ak}{w:ao}{K:aj}{mg mb:Str->aA av}{CX:Ft}{k:Nat}{fa a:au}{fd:aq}{x:Str}{sp:Sp}{j:ar}{vs:az av}{ns:az Int}
 (KX:K.In j.heap) (O:j.heap.Ns mainGlobals mg) (hb:j.heap.Ns builtinsNs mb) (hbb:∀ x:Str,x ≠ "__name__"->mb x=bootBuiltins x) (U:j.heap.NoLimit) (hg:j.gens=#[])
 (ha:j.heap.get? a=some { cls:=.type "list",data:=.seq vs.toArray}) (hi:IntsAre vs ns) (hl:ns.length<=sizeLine) (hr:gZ k callerA)
 (F:∀ ah:Heap,K.In ah->ah.Ns mainGlobals mg->ij P w K mg ah CX k fa fd [x] sp) (UB:∀(s:ar) (u:av),BindsTo s fd ⟨[u],[]⟩ [(x,u)])
 (Xj:∀ H:Hp,R9 H->nJ K H a abi->sp [.ref a] H (λv _=>v=.bl true) λ_ _ _=>False)
 (XA:∀ H e s',CX [] H j (λ_ _ _=>False) e s'->False):
 codeAny (model P w) callerA (.call (.ref fa) ⟨[.ref a],[]⟩) aal j:=by
 have rv:=Fy hi;have L:=hi.length;have I:∀ H:Hp,R9 H->nJ K H a abi->oW P w H j.heap->(∀ b,H b≠none->b=a)->(H a≠none->K.lookup a=none) ->
  codeAny (model P w) callerA (.call (.ref fa) ⟨[.ref a],[]⟩) aal j:=by
  intro H hO hS fO hA hK;have y:∀ {b:au} {o:Obj},j.heap.get? b=some o->H b=none->(yK j.heap H).get? b=some o:=λe n=>JD e n;have noA:∀ {b:au} {o:Obj} {es:Array DictEntry} {Z:Nat},j.heap.get? b=some o->o.data=.dict es Z->H b=none:=λ{b o es Z} e d=>by
   cases q:H b with
   |none=>rfl
   | some u =>have e':b=a:=hA b (by rw[q];simp);subst e';rw[ha]at e;cases e;have d':Data.seq vs.toArray _=Data.dict es Z:=d;cases d'
  have G:∀ {b:au} {m:Str->aA av},j.heap.Ns b m->(yK j.heap H).Ns b m:=λ{b m} MZ=>by obtain⟨o,es,Z,e,d,r⟩:=MZ;exact⟨o,es,Z,y e<|noA e d,d,r⟩
  have Y:K.In (yK j.heap H):=λb o e=>y (KX b o e) (by
   cases q:H b with
   |none=>rfl
   | some u =>
    have e':b=a:=hA b (by rw[q];simp)
    subst e'
    rw[hK (by rw[q];simp)]at e;cases e)
  have hM:Mod K mg (yK j.heap H):=⟨Y,G O,⟨mb,G hb,hbb⟩,let ⟨mc,h1,h2⟩:=U;⟨mc,G h1,h2⟩⟩;have e0:wM P w K mg (yK j.heap H) callerA [] j H:=⟨rfl,hM,λb o e=>Mx e,Nat.le_of_eq<|Gi _ _,trivial,λb hb=>absurd (show b∈([]:az au)from hb)<|by simp,fO,.of_eq hg⟩;refine codeAny_mono ((F _ Y<|G O).run callerA [] j H ⟨[.ref a],[]⟩ [.ref a] [.ref a] _ _ hr e0 (UB j<|.ref a) (.cons rfl .nil)<|Xj H hO hS) λr s' h=>?_;cases r with
  |error e=>exact(XA H e s' h).elim
  | ok fl =>
   cases fl with
   |next=>exact False.elim h
   |brk=>exact False.elim h
   |cont=>exact False.elim h
   | ret u =>
    obtain⟨v,H',os,bare,un,M,r',q⟩:=h;have q':v=.bl true:=q;subst q';obtain rfl:u=Value.bool true:=r';refine⟨rfl,OldK.of_keep λb o e=>?_,os,bare⟩;cases q:H b with
    |none=>exact un.keep b o e q (by intro z;exact absurd (show b∈([]:az au)from z)<|by simp) ZN
    | some u =>
     rcases hO b with z|⟨ob,xs,z⟩
     .rw[q]at z;cases z
     .have z2:=un.pY b ob _ z;obtain⟨e1,_⟩:=fO b _ z;obtain⟨e2,_⟩:=M b _ z2;rw[e]at e1;cases e1;exact e2
 cases hk:K.lookup a with
 | some o =>have e:=KX a o hk;rw[ha]at e;cases e;refine I (λ_=>none) (λ_=>.inl rfl) (.inr ⟨_,vs.toArray,_,hk,rfl,rfl,rfl,by rw[aI,L];exact hl,by simpa using rv⟩) (λb u z=>by have J:(none:aA HO)=some u:=z;cases J) (λb z=>absurd rfl z) λz=>absurd rfl z
 | none =>
  refine I (λb=>if b=a then some (.oZ { cls:=.type "list",data:=.seq vs.toArray} (.lst<|ns.map V.int))else none) (λb=>?_) (.inl<|.inr ⟨{ cls:=.type "list",data:=.seq vs.toArray},aF rfl⟩) (λb u z=>?_) (λb z=>?_) λ_=>hk
  .by_cases hb:b=a
   .exact .inr ⟨_,_,aF hb⟩
   .exact .inl (aD hb)
  .by_cases hb:b=a
   .have J:=(aF hb).symm.trans z;cases J;subst hb;exact⟨ha,by rw[fI];exact hl,vs,_,rv,ha⟩
   .have J:=(aD hb).symm.trans z;cases J
  .by_cases hb:b=a
   .exact hb
   .exact absurd (aD hb) z
def LN {l:W.OpenLaw}{n k:Nat}{q:ak}{loose:az Str}{XP:(Str->aA av)->Heap->Prop}{YP:ao->Heap->Prop}{d:DefRec}{K:Params->aj}{CX:ao->Ft}{sp:ao->Sp}{x:Str}
 (hn:l.most=some n) (O:n<=sizeLine) (Z:d.params.defaults=[]) (hr:gZ k callerA)
 (hY:∀(w:ao) (h:Heap),YP w h->(K w.params).In h)
 (F:∀(w:ao) (mg:Str->aA av) (L:au) (h:Heap),(K w.params).In h->h.Ns mainGlobals mg->mg d.name=some (.ref L) ->
   ∃ fd:aq,(∀(s:ar) (u:av),BindsTo s fd ⟨[u],[]⟩ [(x,u)]) /\
    ∀ ah:Heap,(K w.params).In ah->ah.Ns mainGlobals mg->ij l.prog w (K w.params) mg ah (CX w) k L fd [x] (sp w))
 (M:∀(w:ao) (H:Hp) (a:au) (ns:az Int),ns.length<=n->R9 H->nJ (K w.params) H a abi->sp w [.ref a] H (λv _=>v=.bl true) λ_ _ _=>False)
 (XA:∀(w:ao) (H:Hp) (s:ar) (e:av) (s':ar),CX w [] H s (λ_ _ _=>False) e s'->False):
 W.WalkO q loose XP YP l.row.toRowW d [] (λf vs=>PySem.call f vs):=by
 refine Att.Bk hn Z λw s₀ I mg mb L o pm cd doc a vs ns G Y ho hd Es U J y j hg=>?_;have KX:=hY w _ Y;obtain⟨fd,hb,hF⟩:=F w mg L _ KX G.T.g U;exact Jl KX G.T.g G.T.b G.T.builtins G.T.nolimit hg J y (aT j O) hr hF hb (λH hO hS=>M w H a ns j hO hS) λH e s'=>XA w H I e s'
def iR (s:Stmt):Arguments:=match s with
 |.FunctionDef _ a _ _ _ _ _ _ _ _=>a
 |_=>{ posonlyargs:=[],args:=[],vararg:=none,kwonlyargs:=[],kw_defaults:=[],kwarg:=none,defaults:=[]}
def g9 (s:Stmt):az Stmt:=match s with
 |.FunctionDef _ _ b _ _ _ _ _ _ _=>b
 |_=>[]
def fh (s:Stmt):Scope:=match s with
 |.FunctionDef _ _ _ _ _ _ sc _ _ _=>sc
 |_=>{ kind:=.function,names:=[],isGenerator:=false,isCoroutine:=false}
abbrev wq:Ft:=λ_ _ _ _ _ _=>False
abbrev E0:XK:=λ_ _ _=>False
def Eb {X:Cx}:Passes wq X E0:=λ_ _ _ _ _ _ _ h=>h.elim
structure oJ (K:aj)(x qual:Str)(st:Stmt)(f:au)(fd:aq):Prop where
 ex:∃(oc:av) (od:Option au) (kV doc pm:av) (an:Option au) (tx ct:av) (YO:Array (Option av)),
  fd=W.fnOf x qual (iR st) (g9 st) (fh st) .none kV doc pm an tx ct/\K.lookup f=some ⟨oc,od,.func fd,YO⟩/\W.codeIn K tx qual=true
 kp:W.keepIn K aaf=true
section
variable {P:ak}{w:ao}{K:aj}{mg:Str->aA av}{ah:Heap}
def oJ.ok {x qual:Str}{st:Stmt}{f:au}{fd:aq}{N ps:az Str}{k:Nat}{sp:Sp}(F:oJ K x qual st f fd)(S:gw N ps (fh st))(len:∀ vs H Q E,sp vs H Q E->vs.length=ps.length)
 (j:∀(d:av) (A:Around) (fb:az Env) (s:ar) (H:Hp) (vs:az V) (Q:VK) (E:XK),gZ k (A.deeper<|envOfC qual (fh st) s.heap.objs.size f d)->sp vs H Q E ->
   ∃ t,zk (o4 wq P w K mg ah N qual (fh st) f d A fb s H E).QG (g9 st) t/\t { nx:=λ_ H'=>Q .fX H',rt:=Q} (start N vs) H):ij P w K mg ah wq (k+1) f fd ps sp:=by
 obtain⟨O,M,kV,J,L,U,d,ct,I,rfl,lk,G⟩:=F.ex
 refine OQ lk G S len λA fb s H vs Q E hr y=>?_
 obtain⟨t,h,q⟩:=j d A fb s H vs Q E hr y
 exact⟨t,h.QG,q⟩
def oJ.binds {x qual:Str}{st:Stmt}{f:au}{fd:aq}{ps:az Str}(F:oJ K x qual st f fd)
 (h:∀(kV d pm:av) (q:aA au) (j ct:av) (us:az av),us.length=ps.length->bindArgs (W.fnOf x qual (iR st) (g9 st) (fh st) .none kV d pm q j ct) ⟨us,[]⟩=pure (ps.zip us)):Binds K fd ps []:=by
 obtain⟨J,I,kV,d,pm,q,j,ct,y,rfl,lk,G⟩:=F.ex;exact .all (h kV d pm q j ct)
def Q8 {x qual:Str}{st:Stmt}{f:au}{q:av}{od an:aA au}{j:Array (aA av)}{kV doc pm d ct:av}(l:K.lookup f=some ⟨q,od,.func<|W.fnOf x qual (iR st) (g9 st) (fh st) .none kV doc pm an d ct,j⟩)
 (c:W.codeIn K d qual=true) (k:W.keepIn K aaf=true):oJ K x qual st f (W.fnOf x qual (iR st) (g9 st) (fh st) .none kV doc pm an d ct):=⟨⟨q,od,kV,doc,pm,an,d,ct,j,rfl,l,c⟩,k⟩
end
def gA {A:Around}{k:Nat}(hr:gZ k A):A.units+1<cLine:=cx (Nat.add_le_add_left (by decide:1<=64) _) hr.units
section
variable {X:Cx}
def pv (i:Nat){x:Str}{pos:Pos}(d:X.N[i]?=some x:=by rfl)(hv:R6 X.env.scope x:=by first | exact Or.inl rfl | exact Or.inr (Or.inl rfl) | exact Or.inr<|Or.inr rfl)(hd:Zz=false:=by decide)
 (Es:abd=false:=by decide):PE X abh (Tb i):=yz d hv hd Es
end
def gm (H H':Hp):Prop:=∀ b o,H b=some o->H' b=some o
def gm.refl (H:Hp):gm H H:=λ_ _ h=>h
def gm.trans {H H1 H2:Hp}(a:gm H H1)(b:gm H1 H2):gm H H2:=λc o h=>b c o (a c o h)
def gm.free {H H':Hp}(e:gm H H'){l:au}(h:H' l=Option.none):H l=Option.none:=by
 cases q:H l with
 |none=>rfl
 | some o =>rw[e l o q]at h;cases h
end L2
namespace L2
open PySem PySem.W PyProof.Rows
noncomputable abbrev Dp:=Fast.tw14082659384304107361
noncomputable abbrev uF:=Fast.tw14364793385576792824
noncomputable abbrev BE:=Fast.tw4187177175401517315
noncomputable abbrev Wn (w:ao)(os:OsState):ar:=⟨boot_heap w.params,#[],boot_drawn,boot_toks,os⟩
def GR (P:Params):((boot_heap P).isNs mainGlobals,(boot_heap P).objs.size,(boot_heap P).nsMap mainGlobals "__annotations__")=(true,11,some (.ref 6)):=by kernel_rfl
def MG {p q:ak}{loose:az Str}{Xt:ar->Bool}{α:Type}{C:ar->α}{E:ao->α}{N M:Nat}
 (e:opening p=plainProg p.main.scope.names) (G:Nat.ble 600 N=true) (f:∀ s,fenceModules? p s=some s) (le:Nat.ble M N=true)
 (h:∀(w:ao) (os:OsState),(Dp uF p w 11 (some<|.ref 6) M (Wn w os)<|topStub p).map (λs =>
   (staticsOk aao (boot_heap w.params) s.heap&&namesBound p s.heap&&gensDone s&&laidKept (boot_heap w.params) s.heap,BE q loose aao Xt true s,C s))=some (true,openGood q loose,E w)):
 LeftO p q loose Xt C E N:=λw=>by
 obtain⟨⟨H,I,d,k,os⟩,e1,J⟩:=Option.map_eq_some_iff.mp<|boot_open e G f w;obtain⟨rfl,rfl,rfl,rfl⟩:H=boot_heap w.params/\I=#[]/\d=boot_drawn/\k=boot_toks:=by simpa using J
 have b:=GR w.params;simp at b;refine eU (Option.map_eq_some_iff.mp<|h w os) λj r u=>?_;simp only[Prod.mk.injEq]at u;have F:topRun treeTable p w 11 (some<|.ref 6) M (Wn w os) (topStub p)=some j:=by rwa [show topRun=Dp from Fast.te14082659384304107361,show treeTable=uF from Fast.te14364793385576792824]
 have y:=topRun_mono (N - M) _ _ _ _ F;rw[show M+(N - M)=N by have:=Nat.le_of_ble_eq_true le;lia]at y;have t:topFrom treeTable p w N ⟨boot_heap w.params,#[],boot_drawn,boot_toks,os⟩=some j:=by delta topFrom;rw[b.1,b.2.1,b.2.2,y];show(match staticsOk aao (boot_heap w.params) j.heap&&namesBound p j.heap&&gensDone j&&laidKept (boot_heap w.params) j.heap with|true=>_|false=>_)=_;rw[u.1]
 delta openEnds;rw[e1];show(topFrom treeTable p w N _).map _=_;rw[t];refine b8 some<|Prod.ext ?_ u.2.2;rw[<- u.2.1];exact congrFun (congrFun (congrFun (congrFun (congrFun (congrFun Fast.te4187177175401517315 q) loose)<|importedModules p.main.body) Xt) true) j
def jy (P:Params)(x:Str)(t:Nat)(v:av):DictEntry:=⟨PyData.keyHash P x,.str x t,v⟩
def Uh (P:Params)(nm:Str)(t:Nat)(es:az (Str×Nat×av)):Obj:=⟨.type "dict",none,.dict ((([("__name__",165,.str nm t),("__doc__",166,.none),("__package__",167,.none),("__loader__",168,.builtin "__main__.__loader__#opaque"),("__spec__",169,.none),("__annotations__",170,.ref 6),("__builtins__",171,.ref 4),("__file__",173,.str "/claim/cut.py" 172),("__cached__",174,.none)]:az (Str×Nat×av))++es).map λe=>jy P e.1 e.2.1 e.2.2).toArray<|es.length+9,#[]⟩
abbrev sS (x:String):Str:=Str.ofString x
abbrev me (x:String)(t:Nat)(v:av):Str×Nat×av:=(Str.ofString x,t,v)
abbrev ko (a:au)(o:Obj):au×Obj:=(a,o)
abbrev sr (a:au):aA (aA av):=some (some<|.ref a)
abbrev sn:aA (aA av):=some none
def Nd (x q:Str)(s:Stmt)(pm:av)(c:au):Obj:=⟨.type "function",none,.func<|fnOf x q (iR s) (g9 s) (fh s) .none .none .none pm none (.ref c) .none,#[]⟩
def coQ (x q:Str)(t l a u j:Nat)(v1 v2:av)(e d:Nat):Obj:=⟨.type "code",none,.fields #[.str x t,.str q (t+1),.str "/claim/cut.py" (t+2),.int l 0,.int a 0,.int 0 0,.int 0 0,.int 3 0,.ref u,.bool true,.int 181 0,.ref j,.none,v1,v2,.ref e,.int d 0,.int l 0,.str "/claim/cut.py" (d+1)],#[]⟩
def JL {K:Frag}(l:K.lookup f=some (Nd x q s pm c):=by kernel_rfl)(c':codeIn K (.ref c) q=true:=by kernel_rfl)(k:keepIn K aaf=true:=by kernel_rfl):oJ K x q s f (fnOf x q (iR s) (g9 s) (fh s) .none .none .none pm none (.ref c) .none):=Q8 l c' k
def VA {α:Type}{P:az α->Prop}(h:∀ a,P [a])(us:az α)(e:us.length=1):P us:=by obtain⟨a,rfl⟩:=List.length_eq_one_iff.mp e;exact h a
def LI {α:Type}{P:az α->Prop}{n:Nat}(h:∀ a us,us.length=n->P (a::us))(us:az α)(e:us.length=n+1):P us:=by
 cases us with
 |nil=>cases e
 |cons a us=>exact h a us (Nat.succ.inj e)
def NM (s:Stmt):az Stmt:=match s with
 |.ClassDef _ _ _ b _ _ _ _ _ _ _=>b
 |_=>[]
def Ry (s:Stmt):Pos:=match s with
 |.FunctionDef _ _ _ _ _ _ _ _ _ p=>p
 |_=>⟨0,0,0,0⟩
end L2
namespace L2
open PySem PySem.Spec PyProof.Rows
def j4 (cells:az (Str×au)):az (Str×NameKind)->az (Str×au)->az (Str×au)
 |[],acc=>acc
 |(n,k)::r,acc=>if k==.free then j4 cells r ((n,(cells.lookup n).getD 0)::acc)else j4 cells r acc
theorem p6 (f:Str×NameKind->az (Str×au)->Sem (ForInStep<|az<|Str×au))
 (hf:∀ n k cs,f (n,k) cs=if k==.free then(do let a <- cellOf env n;pure (.yield<|(n,a)::cs))else pure (.yield cs)):
 ∀(d:az (Str×NameKind)) (acc:az (Str×au)),(∀ y∈d,y.2=.free->∃ c,env.cells.lookup y.1=some c) ->
  forIn d acc f=pure (j4 env.cells d acc)
 |[],acc,_=>rfl
 | (n,k)::r,acc,h=>by
  rw[cI,hf];unfold j4;have hr:∀ y∈r,y.2=.free->∃ c,env.cells.lookup y.1=some c:=λy q=>h y<|jJ _ q;by_cases hk:(k==NameKind.free)=true
  .rw[aF hk,aF hk];refine jj (h (n,k) aE<|by simpa using hk) λc u=>?_;have j:=u;have e:cellOf env n=pure c:=by delta cellOf;rw[j]
   rw[e,j,pure_bind,pure_bind];exact p6 f hf r _ hr
  .rw[aD hk,aD hk,pure_bind];exact p6 f hf r _ hr
def l7 (h:∀ y∈scope.names,y.2=.free->∃ c,env.cells.lookup y.1=some c):closureFor scope env=pure (j4 env.cells scope.names []):=by
 simp only[closureFor];rw[p6 _ (λn k d=>by
  by_cases hk:(k==NameKind.free)=true
  .simp
  .simp only[hk,c5,d0]) scope.names [] h]
 rfl
theorem m8:∀ {d:az (Str×NameKind)} {acc:az (Str×au)},(∀ y∈d,y.2=.free->∃ c,cells.lookup y.1=some c) ->
 ∀ n c,(n,c)∈j4 cells d acc->(n,c)∈acc\/cells.lookup n=some c
 |[],acc,_,n,c,h=>.inl h
 | (m,k)::r,acc,hf,n,c,h=>by
  unfold j4 at h;have hr:∀ y∈r,y.2=.free->∃ c,cells.lookup y.1=some c:=λy q=>hf y<|jJ _ q;split at h
  .rename_i hk;rcases m8 hr n c h with h|h
   .rcases List.mem_cons.mp h with e | h
    .cases e;refine jj (hf (m,k) aE<|by simpa using hk) λc u=>?_;have j:=u;exact .inr (by rw[j];rfl)
    .exact .inl h
   .exact .inr h
  .exact m8 hr n c h
theorem p7:∀(d:az (Str×NameKind)) (acc:az (Str×au)) (n:Str),(acc.lookup n).isSome=true->((j4 cells d acc).lookup n).isSome=true
 |[],acc,n,h=>h
 | (m,k)::r,acc,n,h=>by
  unfold j4;split
  .refine p7 r _ n ?_;rw[dQ];cases n==m
   .exact h
   .rfl
  .exact p7 r _ n h
theorem m9:∀(d:az (Str×NameKind)) (acc:az (Str×au)) (n:Str),(n,NameKind.free)∈d->((j4 cells d acc).lookup n).isSome=true
 | (m,k)::r,acc,n,h=>by
  unfold j4;rcases List.mem_cons.mp h with e|h
  .cases e;refine p7 r _ m ?_;simp
  .split
   .exact m9 r _ n h
   .exact m9 r _ n h
theorem kE:∀(d:az (Str×NameKind)) (n:Nat) (a b:az (Str×au)),cellsFrom n d (a++b)=cellsFrom n d a++b
 |[],_,_,_=>rfl
 | (m,k)::r,n,a,b=>by
  unfold cellsFrom;split
  .exact kE r (n+1) ((m,n)::a) b
  .exact kE r n a b
def oh
 (h:Q (newEnv scope s.heap.objs.size env.globals (cellsFrom Zy scope.names cl) env.qual none .none (some env) builtinsNs) {s with heap:=pushCells (s.heap.push { cls:=.type "dict",data:=.dict #[]}) scope.names}):
 wpAny M A (newFunctionEnv scope env.globals cl [] env.qual none .none<|some env) Q E s:=by
 simp only[newFunctionEnv,Option.isSome_some,d7];refine fj (wpAny_alloc<|fj<|wpAny_layCells _ (λj kind e=>by cases d:kind==NameKind.cell<;>simp[d]) _ _ _ _ ?_);rw[show({s with heap:=s.heap.push { cls:=.type "dict",data:=.dict #[]}}:ar).heap.objs.size=s.heap.objs.size+1 from bz ..];exact fj (aC<|aC h)
def gC (js:az (aA Nat))(σ:St):St:=js.map λo=>o.bind λj=>(σ[j]?).join
def uw (XN:az Str)(xsc:Scope)(N:az Str)(js:az (aA Nat))(sc:Scope):Bool :=
 (sc.kind==.function)&&(sc.names.all λy=>(y.2 != .local)||(sc.names.lookup y.1==some .local)) &&
 (sc.names.all λy=>(y.2 != .free)||(xsc.names.lookup y.1==some .cell)||(xsc.names.lookup y.1==some .free)) &&
 (js.length==N.length)&&decide N.Nodup &&
 ((N.zip js).all λp=>match p.2 with
   |none=>true
   |some j=>XN[j]?==some p.1&&sc.names.contains (p.1,NameKind.free)&&sc.names.lookup p.1==some .free&&!(sc.names.contains (p.1,NameKind.cell)))
structure jm (X:Cx)(N:List Str)(js:List (Option Nat))(sc:Scope):Prop where
 kind:sc.kind=.function
 loc:∀ y∈sc.names,y.2=.local->sc.names.lookup y.1=some .local
 free:∀ y∈sc.names,y.2=.free->X.env.kindOf y.1=some .cell\/X.env.kindOf y.1=some .free
 len:js.length=N.length
 nd:N.Nodup
 slot:∀(i:Nat) (x:Str) (j:Nat),N[i]?=some x->js[i]?=some (some j)->X.N[j]?=some x/\(x,NameKind.free)∈sc.names/\sc.names.lookup x=some .free/\(x,NameKind.cell)∉sc.names
def CQ (h:uw XN xsc N js sc=true)(u:X.N=XN:=by rfl)(hs:X.env.scope=xsc:=by rfl):jm X N js sc:=by
 subst u;subst hs;delta uw at h;simp only[bM,cY,Bool.or_eq_true,bne_iff_ne,beq_iff_eq,cu]at h;obtain⟨⟨⟨⟨⟨I,H⟩,G⟩,F⟩,E⟩,C⟩:=h;refine⟨I,λy d e=>(H y d).resolve_left λz=>z e,λy d e=>?_,F,E,λi x j e1 J=>?_⟩
 .rcases G y d with(z | z) | z
  .exact absurd e z
  .exact .inl z
  .exact .inr z
 .have hm:(x,some j)∈N.zip js:=List.mem_iff_getElem?.mpr ⟨i,by rw[List.getElem?_zip_eq_some];exact⟨e1,J⟩⟩;have q:=C _ hm;simp at q;exact⟨q.1.1.1,q.1.1.2,q.1.2,q.2⟩
theorem kD:∀(d:az (Str×NameKind)) (n:Nat) (acc:az (Str×au)) (x:Str) (c:au),(x,c)∈cellsFrom n d acc->(x,NameKind.cell)∈d\/(x,c)∈acc
 |[],_,_,_,_,h=>.inr h
 | (m,k)::r,n,acc,x,c,h=>by
  unfold cellsFrom at h;split at h
  .rename_i hk;rcases kD r _ _ x c h with h|h
   .exact .inl (jJ _ h)
   .rcases List.mem_cons.mp h with e | h
    .cases e;have j:k=NameKind.cell:=by simpa using hk
     exact .inl (j▸aE)
    .exact .inr h
  .rcases kD r _ _ x c h with h | h
   .exact .inl (jJ _ h)
   .exact .inr h
theorem sY {α β:Type}(g:Str->α->β):∀(l:az (Str×α)) (x:Str),(l.map λp=>(p.1,g p.1 p.2)).lookup x=(l.lookup x).map (g x)
 |[],_=>rfl
 | (n,k)::r,x=>by
  rw[aJ,dQ,dQ];cases hb:x==n with
  |true=>rw[beq_iff_eq.mp hb];rfl
  |false=>exact sY g r x
def rW (env:Env)(x:Str)(k:NameKind):NameKind:=if(k==.free&&env.scope.kind==.function&&env.kindOf x==some .cell)then .cell else k
def jU:(relabel sc env).names.lookup x=(sc.names.lookup x).map (rW env x):=by rw[<- sY];congr 1;refine bG λp _=>?_;obtain⟨n,k⟩:=p;show(if _ then _ else _)=(n,rW env n k);delta rW;split<;>rfl
def zX (h:rW env x k=.cell\/rW env x k=.free):k=.cell\/k=.free:=by
 delta rW at h;split at h
 .rename_i q;simp at q;exact .inr q.1.1
 .exact h
def xg:rW env x .free=.cell\/rW env x .free=.free:=by
 delta rW;split
 .exact .inl rfl
 .exact .inr rfl
def lR (sc:Scope)(C:au)(env:Env):Env where
 scope:=relabel sc env
 locals:=C
 globals:=env.globals
 cells:=cellsFrom (C+1) sc.names (j4 env.cells sc.names [])
 qual:=env.qual
 func:=none
 code:=env.code
 frame:=env.frame
 builtins:=env.builtins
def nP (X:Cx)(N:az Str)(sc:Scope)(fp:az au)(s:ar)(H:Hp):Cx where
 prog:=X.prog
 w:=X.w
 K:=X.K
 mg:=X.mg
 ah:=X.ah
 A:=X.A
 N:=N
 s₀:=s
 H₀:=H
 env:=lR sc Zy X.env
 fb:=X.stack
 stack:=X.stack
 ex:=fp
 fn:=λx=>sc.names.lookup x==some .cell
 fU:=X.fU
 pn:=[]
 xe:=λ_ _=>False
def rh (sc:Scope)(h:Heap):Heap:=pushCells ((h.push { cls:=.type "list",dict:=none,data:=.seq ([]:az av).toArray}).push { cls:=.type "dict",data:=.dict #[]}) sc.names
def tj:∀ b o,h.get? b=some o->(rh sc h).get? b=some o:=λb o e=>d6 _ _ b o (iU _<|iU _ e)
def Gm:(rh sc h).get? h.objs.size=some { cls:=.type "list",dict:=none,data:=.seq ([]:az av).toArray} :=
 d6 _ _ _ _ (iU _<|aL _ rfl)
def vB {i:Nat}(h:aaW[i]?=some (some v)):∃ j,js[i]?=some (some j)/\σ[j]?=some (some v):=by
 delta gC at h;rw[mD]at h;cases e:js[i]? with
 |none=>rw[e]at h;cases h
 | some o =>
  rw[e]at h;cases o with
  |none=>cases h
  | some j =>
   refine⟨j,rfl,?_⟩;have d:(σ[j]?).join=some v:=a5 h;cases q:σ[j]? with
   |none=>rw[q]at d;cases d
   |some z=>rw[q]at d;have:z=some v:=d;rw[this]
def Jx (I:Inv X aa σ H s)(P:jm X N js sc)(hf:∀ b∈fp,kZ X aa H b)(ho:∀ b∈fp,∃ o,s.heap.get? b=some o)(tk:Nat):
 Inv ZQ [] aaW H {s with heap:=rh sc s.heap,toks:=tk}:=by
 have hC:(s.heap.push { cls:=.type "list",dict:=none,data:=.seq ([]:az av).toArray}).objs.size=s.heap.objs.size+1:=bz ..
 have O:∀ y∈sc.names,y.2=.free->∃ c,X.env.cells.lookup y.1=some c:=λy hy e=>I.ok.has y.1<|P.free y hy e;have ok:=cellsFrom_ok sc.names ((s.heap.push { cls:=.type "list",dict:=none,data:=.seq ([]:az av).toArray}).push { cls:=.type "dict",data:=.dict #[]}) (s.heap.objs.size+1+1) [] ⟨λ_ _ hm=>(nomatch hm),List.Pairwise.nil⟩
  (by rw[bz,hC];exact aB _)
 rw[bz,hC]at ok;have Z:(lR sc Zy X.env).cells=cellsFrom (s.heap.objs.size+1+1) sc.names []++j4 X.env.cells sc.names []:=kE sc.names _ [] _;have lk:∀ x c,(lR sc Zy X.env).cells.lookup x=some c->(x,c)∈cellsFrom (s.heap.objs.size+1+1) sc.names []\/X.env.cells.lookup x=some c:=λx c e=>by
  rw[Z]at e;rcases List.mem_append.mp (mem_of_lookup e)with h|h
  .exact .inl h
  .rcases m8 O x c h with h | h
   .cases h
   .exact .inr h
 have big:∀(x:Str) (c:Nat),(x,c)∈cellsFrom (s.heap.objs.size+1+1) sc.names []->s.heap.objs.size+1+1<=c:=λx c h=>(ok.empty x c h).2;have G:∀(x:Str) (c:Nat),X.env.cells.lookup x=some c->c<s.heap.objs.size:=λx c h=>let ⟨_,q⟩:=I.cell x c h;q.lt
 have has:∀ x,((lR sc Zy X.env).kindOf x=some .cell\/(lR sc Zy X.env).kindOf x=some .free)->∃ c,(lR sc Zy X.env).cells.lookup x=some c:=λx h=>by
  have E:(relabel sc X.env).names.lookup x=some .cell\/(relabel sc X.env).names.lookup x=some .free:=h;rw[jU]at E;rw[Z,eF];cases q:sc.names.lookup x with
  |none=>rw[q]at E;rcases E with E|E<;>cases E
  | some k =>
   rw[q]at E;have hk:=zX (env:=X.env) (x:=x) (k:=k) (E.elim (λz=>.inl<|a5 z) λz=>.inr<|a5 z);rcases hk with rfl|rfl
   .obtain⟨c,F⟩:=mJ q;exact⟨c,by rw[F];rfl⟩
   .have z:=m9 (cells:=X.env.cells) sc.names [] x<|mem_of_lookup q;obtain⟨c,F⟩:=Option.isSome_iff_exists.mp z;cases q2:(cellsFrom (s.heap.objs.size+1+1) sc.names []).lookup x with
    |none=>exact⟨c,by rw[F];rfl⟩
    |some d=>exact⟨d,rfl⟩
 have Q:(nP X N sc fp s H).Ok:=by
  refine⟨I.ok.mod,P.kind,I.ok.glob,I.ok.blt,dH _,λx y c h1 h2=>?_,has,λx c hx h=>?_,I.ok.hd,I.ok.frames,.inl rfl,λb hb=>⟨?_,λx c h=>?_⟩,I.bs,aT I.ok.G7 I.sz,λb o e hb=>?_,λb hb hs=>?_,I.stack,I.qr⟩
  .rcases lk x c h1 with M | M <;> rcases lk y c h2 with L | L
   .exact name_of_addr ok.apart M L
   .exact absurd (aR (G _ _ L)<|aT (aU _ 2)<|big _ _ M) (cn _)
   .exact absurd (aR (G _ _ M)<|aT (aU _ 2)<|big _ _ L) (cn _)
   .exact I.ok.inj x y c M L
  .have W:sc.names.lookup x=some .cell:=by simpa [nP]using hx
   have E:(lR sc Zy X.env).cells.lookup x=some c:=h
   rw[Z,eF]at E
   obtain⟨c2,F⟩:=mJ (n:=s.heap.objs.size+1+1) W
   rw[F]at E
   have e:c2=c:=a5 E
   subst e
   exact aT (aU _ 2) (big _ _<|mem_of_lookup F)
  .obtain⟨o,e⟩:=ho b hb;exact aN (bw<|ic e)
  .obtain⟨o,e⟩:=ho b hb;have l:=ic e;rcases lk x c h with g|g
   .exact bD (aR l<|aT (aU _ 2)<|big _ _ g)
   .exact(hf b hb).2.2.2.2.1 x c g
  .rcases(hf b hb).2.2.2.1 with z | z
   .exact I.ok.F1 b o e z
   .exact absurd (aR (ic e)<|aT I.ok.G7 z) (cn _)
  .rcases List.mem_cons.mp (I.uJ b hs)with z | z
   .exact(hf b hb).2.1 z
   .exact(hf b hb).2.2.1 z
 have C:∀ b u,s.heap.get? b=some u->(rh sc s.heap).get? b=some u:=tj;have U:(rh sc s.heap).Ns Zy λ_=>none:=by have q:=(Heap.Ns.new (s.heap.push { cls:=.type "list",dict:=none,data:=.seq ([]:az av).toArray})<|.type "dict").keeps<|d6 sc.names _;rw[hC]at q;exact q
 refine⟨Q,rfl,I.bare,Un.af C,⟨_,U,λi x v e1 e2 e3=>?_⟩,λx c h=>?_,I.fO.fresh<|dH _,λx c h=>?_,λp hp=>absurd (show p∈([]:az ZE)from hp)<|by simp,I.fO.af C,?_⟩
 .refine eU (vB e2) λj hj hv=>CN (P.slot i x j e1 hj) λM L g3 g4=>?_;have kx:=P.free _ L rfl;refine eU I.loc λm hn hl=>eU (hl j x v M hv<|.inr kx) λu r l=>⟨u,r,?_⟩;rcases l with⟨z,_⟩|⟨_,c,Y,J⟩
  .have z':X.env.kindOf x=some .local:=z;rcases kx with k|k<;>(have k':X.env.kindOf x=_:=k;rw[z']at k';cases k')
  .have kY:(lR sc Zy X.env).kindOf x=some .cell\/(lR sc Zy X.env).kindOf x=some .free:=by
    show(relabel sc X.env).names.lookup x=some .cell\/(relabel sc X.env).names.lookup x=some .free;rw[jU,g3];rcases xg (env:=X.env) (x:=x)with q|q
    .exact .inl aaU
    .exact .inr aaU
   obtain⟨c',E⟩:=has x kY
   refine .inr ⟨kY,c',E,?_⟩
   rcases lk x c' E with g|g
   .rcases kD _ _ _ _ _ g with z | z
    .exact absurd z g4
    .cases z
   .rw[Y]at g;cases g;exact J.keeps C
 .rcases lk x c h with g | g
  .exact⟨_,(ok.empty x c g).1⟩
  .obtain⟨v,q⟩:=I.cell x c g;exact⟨v,q.keeps C⟩
 .rcases lk x c h with g | g
  .exact I.fO.fresh (aT (aU _ 2)<|big _ _ g)
  .exact I.ny x c g
 .delta gC;rw[fI];exact P.len
def Inv.adopt (I:Inv X aa σ H s)(hn:H D=none)(j:D≠X.env.locals)(E:X.s₀.heap.objs.size<=D)(C:∀ x c,X.env.cells.lookup x=some c->c≠D)(y:∀ p∈X.pn++aa,p.1≠D)
 (e:s.heap.get? D=some { cls:=.type "list",data:=.seq Ju.toArray n}) (r:fF ys Ju) (hz:ys.length<=sizeLine):Inv X aa σ (upd H D<|.lst ys) s:=by
 have ne:∀ b,b∉[D]->b≠D:=λb h z=>h (by simp[z]);refine I.step (g':=s.gens) (d':=s.drawn) (t':=s.toks) (h':=s.heap) (λb hb=>?_) (λb o _ _ _ q _=>q) (λb o _ _ _ q _=>⟨o.slots,q⟩) (λb o hb q z=>by rwa [fB (ne b hb)]) (λb o _ q=>⟨o,q⟩)
  (λb d q=>by rwa [fB (fQ q hn)]) (λb o u q=>by rwa [fB (fQ q hn)]) (λb F q=>⟨#[],by rw[fB (fQ q hn),q];simp⟩) (λm q=>q) (λb u q=>?_) I.bare
 .have z:b=D:=by simpa using hb
  subst z
  exact⟨.inr E,j,C,y⟩
 .by_cases hb:b=D
  .subst hb;rw[eZ]at q;cases q;exact⟨hz,Ju,n,r,e⟩
  .rw[fB hb]at q;exact(I.fO b u q).yb (λc v _ z=>z) (λc z=>by rw[fB (fQ z hn)];exact z) λc d z=>by rw[fB (fQ z hn)];exact z
def Li (X:Cx)(ifs:az Expr)(t:TT):Prop :=
 ∀(aa:az ZE) (s:ar) (σ:St) (H:Hp) (Q:Bool->Hp->Prop),Inv X aa σ H s->t σ H Q ->
  wpAny Zt X.A (forIn ifs true λc r=>if r=true then do let ok <- isTrue c X.env (eval c X.env);pure (ForInStep.yield ok)else pure (ForInStep.yield r)) (TP X aa σ Q) X.xe s
def Wx:TT:=λ_ H Q=>Q true H
def D1:Li X [] Wx:=λ_ _ _ H _ I h=>wpAny_tests_nil ⟨H,I,h⟩
def Mi (h:PT X c t):Li X [c] t:=λaa s σ H Q I q=>wpAny_tests_one (h aa s σ H Q I q)
def Ext (σ d:St):Prop:=σ.length=d.length/\∀(i:Nat) v,σ[i]?=some (some v)->d[i]?=some (some v)
def Ext.TX:Ext (none::none::r) (v::u::r):=⟨rfl,λi z h=>by
 match i,h with
 |0,h=>simp at h
 |1,h=>simp at h
 |i+2,h=>simpa using h⟩
def Hi (js:az (aA Nat))(g:TG)(tt:TT)(te:TE)(J:It)(σ:St)(H1:Hp)(fin:az V->Hp->Prop):Prop :=
 ∃ W:Nat->Nat->az V->Hp->Prop,(∃ m,W 0 m [] H1)/\∀ i m e H,W i m e H ->
  (J.stop i H/\fin e H)\/(J.go i H/\∀ x u,J.Fw i H x u->g x aaW u λd E=>Ext aaW d/\tt d E λb q =>
    if b=true then te d q λy C=>e.length<sizeLine/\∃ j,j<m/\W abe j (e++[y]) C else ∃ j,j<m/\W abe j e q)
def zc (I:Nat->ar->Prop)
 (turn:∀ n s,I n s->wpAny Zw A (pyNext it) (λr j=>match r with
   |none=>R (.ok .next) j
   | some v=>wpAny Zw A (letOwnedTupleGo target it v) (λ_ e=>wpAny Zw A (assign target env v) (λ_ C =>
    wpAny Zw A (forIn ifs true λc r=>if r=true then do let ok <- isTrue c env (eval c env);pure (ForInStep.yield ok)else pure (ForInStep.yield r)) (λok d =>
     if ok=true then wpAny Zw A (eval elt env) (λx y =>
      wpAny Zw A (call (.builtin "list.append") [acc,x]) (λ_ u=>∃ m,m<n/\I m u) aaD y) aaD d
     else ∃ m,m<n/\I m d) aaD C) aaD e) aaD j) aaD s)
 (n:Nat) (h:I n s):
 codeAny Zw A (.compLoop (.ListComp elt [⟨target,iter,ifs,0⟩] scope pos) 0 it acc env) R s:=by
 refine codeAny_loop rfl I (λn s O=>wpAny_noted<|fj<|dw<|fj<|b7 (turn n s O) (λr j F=>?_) λ_ _ q=>q.elim) n h;cases r with
 |none=>exact aC F
 | some v =>
  refine fj (b7 F (λ_ e G=>fj<|b7 G (λ_ C M=>fj<|b7 M (λok d E=>?_) λ_ _ q=>q.elim) λ_ _ q=>q.elim) λ_ _ q=>q.elim);cases ok with
  |false=>exact aC ⟨rfl,E⟩
  | true =>exact fj (fj<|b7 E (λx y L=>fj<|b7 L (λ_ u J=>aC<|aC ⟨rfl,J⟩) λ_ _ q=>q.elim) λ_ _ q=>q.elim)
def lobj (d:az av)(n:Nat):Obj:={ cls:=.type "list",data:=.seq d.toArray n}
def vS (I:Inv X aa σ H s)(hc:jm X N js sc)(fU:CM ZQ)
 (T:Turn X.prog X.w X.K tg J fp it tn CM) (st:tn 0 s.heap) (hf:∀ b∈fp,kZ X aa H b)
 (hg:PG ZQ tg g) (ht:Li ZQ ifs tt) (he:PE ZQ elt te) (q:Hi js g tt te J σ H fin)
 (hR:∀ s' H' ys m,Inv X aa σ (upd H' s.heap.objs.size<|.lst ys) s'->H' s.heap.objs.size=none->fin ys H'->s'.heap.Ns Zy m->H' Zy=none->R (.ok .next) s'):
 codeAny Zt X.A (.compStart ZF 0 (.ref it) ZV<|lR sc Zy X.env) R {s with heap:=rh sc s.heap,toks:=tk}:=by
 have Wg:∀ b∈fp,∃ o,s.heap.get? b=some o:=λb hb=>let ⟨o,e,_⟩:=T.obj 0 s.heap st b hb;⟨o,e⟩
 have I0:=Jx I hc hf Wg tk;have M:=I0.ok;obtain⟨W,⟨m0,w0⟩,turn⟩:=q;have E:∀ b∈fp,b≠s.heap.objs.size:=λb hb=>let ⟨o,e⟩:=Wg b hb;aN (ic e)
 have C:∀ {j:az av} {k:Nat} {H':Hp},aas->∀ b∈fp,kZ ZQ [(s.heap.objs.size,lobj j k)] H' b:=λ{j k H'} hn b hb =>
  ⟨hn b hb,(M.SI b hb).1,M.GC b hb,.inl hb,(M.SI b hb).2,λp G=>by
   have e:p=(s.heap.objs.size,lobj j k):=by simpa [nP]using G
   rw[e];exact(E b hb).symm⟩
 have Ol:tn 0 (rh sc s.heap):=T.keep 0 _ _ st λb _ o e=>tj b o e;have I1:Inv ZQ [(s.heap.objs.size,lobj [] 0)] aaW H { s with heap:=rh sc s.heap,toks:=tk}:=I0.qL λp G=>by
  have e:p=(s.heap.objs.size,lobj [] 0):=by simpa using G
  subst e;refine⟨Gm,I.fO.fresh<|aB _,aN<|bZ _,λz=>?_,λv z=>by cases z⟩;obtain⟨_,o,ho,_⟩:=M.rk.mem z;exact cn _ (ic ho)
 have Q:codeAny Zt X.A (.compLoop ZF 0 (.ref it) ZV<|lR sc Zy X.env) R { s with heap:=rh sc s.heap,toks:=tk}:=by
  refine zc (λn s'=>∃ i ys j k H',Inv ZQ [(s.heap.objs.size,lobj j k)] aaW H' s'/\tn i s'.heap/\aas/\fF ys j/\ys.length<=sizeLine/\W i n ys H') ?_ m0
   ⟨0,[],[],0,H,I1,Ol,λb hb=>(hf b hb).1,.nil,bx _,w0⟩
  refine λn s3 O=>Nz O λi ys j k H3 I3 YK UJ rv hz w3=>?_;have len:=rv.length;rcases turn i n ys H3 w3 with⟨stop,qf⟩|⟨go,step⟩
  .refine gc (T.done ZQ rfl rfl rfl fU i _ s3 _ H3 _ I3 (C UJ) YK stop) λr s4 O=>gv O λhr I4=>?_;subst hr;show R (.ok .next) s4;have L:=I4.pin (s.heap.objs.size,lobj j k)<|aW _ aE;refine eU I4.loc λm Xm _=>?_;have IX:Inv X aa σ H3 s4:=I.KW (ch:=fp) I4.os I4.ah I4.fO I4.bare λb hb=>by exact p5 (hf b hb) λf0 f1 f2 f3 f4 f5=>⟨f3,f1,f4,f5⟩
   have neD:∀(b:au) (o:Obj),s.heap.get? b=some o->b≠s.heap.objs.size:=λb o e=>aN<|ic e;refine hR s4 H3 ys m (IX.adopt L.2.1 (bD I.lt) I.sz (λx c e=>?_) (λp G=>neD _ _ (I.pin p G).1) L.1 rv hz) L.2.1 qf Xm I4.free;obtain⟨v,q⟩:=I.cell x c e;exact aN q.lt
  .refine gc (T.item ZQ rfl rfl rfl fU i _ s3 _ H3 _ I3 (C UJ) YK go) λr s4 O=>eU O λu hr h4=>?_;subst hr;refine gc h4 λ_ s5 O=>GG O λx H5 I5 r5 y5 Z UI=>?_;have VO:=I5.pinned (C UI)<|T.obj _ _ Z;refine gc (hg _ s5 _ H5 x u _ VO r5<|step x H5 y5) λ_ s6 ⟨Y,H6,I6,⟨U,q6⟩⟩=>gc (ht _ s6 Y H6 _ I6 q6) λb s7 O=>eU O λH7 I7 q7=>?_;have back:∀ {s':ar} {H':Hp},Inv ZQ ([(s.heap.objs.size,lobj j k)]++r0 fp s5.heap) Y H' s'->tn abe s'.heap/\aas/\Inv ZQ [(s.heap.objs.size,lobj j k)] aaW H' s':=λ{s' H'} I'=>by refine⟨T.keep _ _ _ Z λb hb o e=>(I'.pin (b,o)<|aW _<|aW _<|kr hb e).1,λb hb=>?_,(I'.weak U.1 U.2).nV⟩;exact eU (T.obj _ _ Z b hb) λo e d=>(I'.pin (b,o)<|aW _<|aW _<|kr hb e).2.1
   cases b with
   | false =>
    rw[aD aZ]at q7 ⊢
    exact eU q7 λm' hm w7=>kc (back I7) λt7 f7 YB=>⟨m',hm,i+1,ys,j,k,H7,YB,t7,f7,rv,hz,w7⟩
   | true =>
    rw[aF rfl]at q7 ⊢
    refine gc (he _ s7 Y H7 _ I7 q7) λy P MY=>?_;obtain⟨yv,H8,I8,ry,SG,m',hm,w8⟩:=MY;refine kc (back I8) λt8 f8 VN=>?_;have L:=VN.pin (s.heap.objs.size,lobj j k)<|aW _ aE;have eD:P.heap.get? s.heap.objs.size=some { cls:=.type "list",data:=.seq j.toArray k}:=L.1;refine call_meets F.slot_list_append ⟨_,eD,rfl⟩ F.entry_list_append (F.args_list_append_2 _ _) (PySem.list_append s.heap.objs.size j.toArray k y (by rw[aI];lia)) ⟨eD,?_⟩;have q:=PySem.IsL.update eD (·.push y);have UX:j.toArray.push y=(j++[y]).toArray:=by simp
    have keep:∀(b:au) (o:Obj),b≠s.heap.objs.size->P.heap.get? b=some o->(P.heap.update s.heap.objs.size (Obj.mapSeq (·.push y))).get? b=some o:=λb o hb e=>(bg P.heap (Obj.mapSeq (·.push y))<|bB hb).trans e;have Vw:∀ x c,(nP X N sc fp s H).env.cells.lookup x=some c->c≠s.heap.objs.size:=λx c e z=>by refine lJ (VN.cell x c e) λv o ho hd=>?_;rw[z,eD]at ho;cases ho;cases hd
    have I9:Inv ZQ [] aaW H8 { P with heap:=P.heap.update s.heap.objs.size (Obj.mapSeq (·.push y))} :=
     (VN.qL (pins':=[]) λp G=>absurd G<|by simp).turned (t':=P.toks) keep L.2.1 L.2.2.1 (.inr<|aB _) Vw (λp G=>absurd (show p∈([]:az ZE)from G)<|by simp)
    rw[UX]at q;obtain⟨k',q'⟩:∃ k',(P.heap.update s.heap.objs.size (Obj.mapSeq (·.push y))).get? s.heap.objs.size=some (lobj (j++[y]) k'):=⟨_,q⟩;refine⟨m',hm,i+1,ys++[yv],j++[y],k',H8,I9.qL λp G=>?_,T.keep _ _ _ t8 λb hb o e=>keep b o (E b hb) e,f8,rv.append<|.cons ry .nil,by rw[i8,aX];lia,w8⟩;have e:p=(s.heap.objs.size,lobj (j++[y]) k'):=by simpa using G
    subst e;exact⟨q',L.2.1,L.2.2.1,L.2.2.2.1,λv z=>by cases z⟩
 exact codeAny_compStart_list Q (T.self _ 0 _ _ _ Ol Q)
def Hx (j:TI)(js:az (aA Nat))(g:TG)(tt:TT)(te:TE):TE:=λσ H Q=>j σ H λJ q=>Hi js g tt te J σ q λe d=>∀ D,d D=none->Q (.ref D) (upd d D<|.lst e)
def D8 (u:jm X N js sc)(fU:X.fU=true)(Y:PI X tg iter wi)(Z:∀ fp s H,PG ZQ tg g)(ht:∀ fp s H,Li ZQ ifs tt)(he:∀ fp s H,PE ZQ elt te)
 (hs:∀ x,foldedSetIterable iter X.env x=pure x:=by intro _;rfl):PE X ZF (Hx wi js g tt te):=by
 intro aa s σ H Q I h;refine dY rfl hs (l7 λy U e=>I.ok.has y.1<|u.free y U e) u.kind u.loc (gc (Y aa s σ H _ I h) λv s1 h1=>gc h1 λP d h2=>Nz h2 λit fp tn J E e j T C f2 q=>?_);subst e;refine cf<|oh ?_;simp;refine vS j u fU T C f2 (Z fp d E) (ht fp d E) (he fp d E) q λF H' G m IX M L O hn=>⟨m,O,λh' sb=>?_⟩;have Bz:∀(b:au) (o:Obj),d.heap.get? b=some o->b≠d.heap.objs.size+1:=λb o e=>aN<|bw<|ic e;have IY:Inv X aa σ (upd H' d.heap.objs.size<|.lst G) { F with heap:=h'}:=IX.turned (t':=F.toks) (it:=d.heap.objs.size+1) aau (by rwa [fB (bD<|bZ _)])
  (bD<|bw j.lt) (.inr<|de j.sz) (λx c e=>let ⟨v,z⟩:=j.cell x c e;aN (bw z.lt)) (λp W=>Bz _ _ (j.pin p W).1)
 exact⟨.ref _,_,IY,rfl,L _ M⟩
def B4 (C:jm X N js sc)(fU:X.fU=true)(hN:X.N.Nodup)(G:X.N[i]?=some x)(hx:Loc X.env.scope x)(hi:PI X tg iter wi)(hg:∀ fp s H,PG ZQ tg g)
 (ht:∀ fp s H,Li ZQ ifs tt) (he:∀ fp s H,PE ZQ elt te) (L:swapsWith ZF (some<|.Name x pos') WN.line X.env=pure true:=by rfl)
 (hs:∀ x,foldedSetIterable iter X.env x=pure x:=by intro _;rfl) (hf:X.fn x=true\/X.env.scope.names.lookup x=some .local:=by first|exact .inl rfl|exact .inr rfl|assumption):
 PS X (.Assign [.Name x pos'] ZF WN) (PB (Hx wi js g tt te)<|vD i):=by
 intro aa s σ H D I h;rw[exec_Assign_Name_used _ _ _ _ L];refine fj<|dw<|fj ?_;refine fj (b7 (dY rfl hs (l7 λy hy e=>I.ok.has y.1<|C.free y hy e) C.kind C.loc
  (gc (hi aa s σ H _ I h) λv s1 h1=>gc h1 λYX d h2=>?_)) (λ_ W hq=>aC<|aC hq) λ_ _ e=>e)
 refine Nz h2 λit fp tn J P e j T E f2 q=>?_;subst e;refine cf<|oh ?_;have hC:(d.heap.push { cls:=.type "list",dict:=none,data:=.seq ([]:az av).toArray}).objs.size=d.heap.objs.size+1:=bz ..
 simp only[hC];refine vS j C fU T E f2 (hg fp d P) (ht fp d P) (he fp d P) q λW U Q m IX Z Y nC hn=>?_;have Bz:∀(b:au) (o:Obj),d.heap.get? b=some o->b≠d.heap.objs.size+1:=λb o e=>aN<|bw<|ic e;have M:upd U d.heap.objs.size (.lst Q) (d.heap.objs.size+1)=none:=by rw[fB (bD<|bZ _)];exact hn
 refine wpAny_assign_Name (wZ (v:=.ref d.heap.objs.size) IX hN G hx rfl (λu IZ ch=>?_) hf);refine eU ch λa F ha=>?_;have O:d.heap.objs.size+1≠a:=by
  rcases ha with z|z
  .rw[z];exact bD (bw j.lt)
  .let ⟨v,z⟩:=j.cell x a z;exact bD (bw z.lt)
 refine⟨m,nC.sameBut F O,λh' sb=>?_⟩;have IY:Inv X aa (σ.set i<|some<|.ref d.heap.objs.size) (upd U d.heap.objs.size<|.lst Q) { u with heap:=h'}:=IZ.turned (t':=u.toks) aau M
  (bD<|bw j.lt) (.inr<|de j.sz) (λx c e=>let ⟨v,z⟩:=j.cell x c e;aN (bw z.lt)) (λp hp=>Bz _ _ (j.pin p hp).1)
 exact⟨_,_,IY,Y _ Z⟩
open Builtin Builtin.Str
def ig {α:Type}(xs:az α)(lo d:aA Int):az α:=(xs.drop<|HT.iz xs.length 0 lo).take (HT.iz xs.length xs.length d - HT.iz xs.length 0 lo)
def NO (n:Nat)(lo:aA Int):(match lo with | none=>(0:Int) | some i=>max 0<|min (if i<0 then i+(n:Int)else i) (n:Int))=((HT.iz n 0 lo:Nat):Int):=by
 cases lo with
 |none=>rfl
 |some i=>delta HT.iz;split<;>lia
def NP (n:Nat)(d:aA Int):(match d with | none=>(n:Int) | some i=>max 0<|min (if i<0 then i+(n:Int)else i) (n:Int))=((HT.iz n n d:Nat):Int):=by
 cases d with
 |none=>rfl
 |some i=>delta HT.iz;split<;>lia
def mS (lo d:aA Int)(n:Nat):strSliceIndices lo d 1 n=sliceRange ((HT.iz n 0 lo:Nat):Int) ((HT.iz n n d:Nat):Int) 1:=by rw[<- NO,<- NP];cases lo<;>cases d<;>rfl
def FI (x:Str)(lo d:aA Int):(strSliceIndices lo d 1 x.length).filterMap (x.cps[·]?)=ig x.cps.toList lo d:=by
 have hl:x.cps.toList.length=x.length:=by simp[Str.length]
 delta ig;rw[hl];have ha:=HT.yo x.length 0 (bx _) lo;have hb:=HT.yo x.length x.length aaa d;by_cases j:HT.iz x.length 0 lo<=HT.iz x.length x.length d
 .rw[<- StrLaws.sliced_plain x j hb,mS,mS];congr 2
  .rw[HT.jN,cc ha]
  .rw[HT.jN,cc hb]
 .rw[mS];have e:HT.iz x.length x.length d - HT.iz x.length 0 lo=0:=by lia
  rw[e,List.take_zero];delta sliceRange;have q:¬ (((HT.iz x.length 0 lo:Nat):Int)<((HT.iz x.length x.length d:Nat):Int)):=by lia
  simp[q]
def Bd {α:Type}(xs:az α)(lo d:aA Int):(ig xs lo d).length<=xs.length:=by delta ig;rw[a9,bL];lia
def WV:V->aA Int->aA Int->Hp->VK->Prop:=λx lo d H Q=>∃ z:Str,x=.str z/\z.length<=sizeLine/\Q (.str ⟨(ig z.cps.toList lo d).toArray⟩) H
def PU:VF X WV:=by
 intro J s Y H x v M L lo d Z Q I O hs pl P h;obtain⟨z,rfl,hz,q⟩:=h;obtain⟨t,rfl⟩:=O;refine⟨"str",_,F.slot_str_getitem.lookup,typeIs_str _ _ _,?_⟩;obtain⟨l,G⟩:∃ l:aA (Int×Tok),M=partValue l/\l.map Zx=lo:=by
  cases pl with
  |none=>exact⟨none,rfl,rfl⟩
  |int i t=>exact⟨some (i,t),rfl,rfl⟩
 obtain⟨u,E⟩:∃ u:aA (Int×Tok),L=partValue u/\u.map Zx=d:=by
  cases P with
  |none=>exact⟨none,rfl,rfl⟩
  |int i t=>exact⟨some (i,t),rfl,rfl⟩
 obtain⟨rfl,G⟩:=G;obtain⟨rfl,E⟩:=E;refine wpAny_getItem_str_slice (l:=l) (u:=u) (st:=none) hs rfl ?_;delta sliceMade;have e:slicePicked z l u none=strSliceIndices lo d 1 z.length:=by delta slicePicked;rw[G,E];rfl
 rw[e,FI];by_cases C:(((none:aA (Int×Tok)).map Zx).getD 1==1&&(strSliceIndices lo d 1 z.length).length==z.length)=true
 .rw[aF C];refine⟨.str z,H,I,⟨_,rfl⟩,?_⟩;have j:(strSliceIndices lo d 1 z.length).length=z.length:=by simpa using C
  have hl:z.cps.toList.length=z.length:=by simp[Str.length]
  have U:ig z.cps.toList lo d=z.cps.toList:=by
   rw[mS]at j;delta sliceRange at j;have hb:=HT.yo z.length z.length aaa d;delta ig;rw[hl];by_cases y:((HT.iz z.length 0 lo:Nat):Int)<((HT.iz z.length z.length d:Nat):Int)
   .simp[y]at j;have a0:HT.iz z.length 0 lo=0:=by lia
    have b0:HT.iz z.length z.length d=z.length:=by lia
    rw[a0,b0,List.drop_zero,Nat.sub_zero,<- hl,List.take_length]
   .simp[y]at j;have z0:z.cps.toList=[]:=List.length_eq_zero_iff.mp Zs;rw[z0];simp
  have W:(⟨(ig z.cps.toList lo d).toArray⟩:Str)=z:=by rw[U]
  rw[W]at q;exact q
 .rw[aD C];refine⟨?_,.str _,H,I.tok _,⟨_,rfl⟩,q⟩;have hl:z.cps.toList.length=z.length:=by simp[Str.length]
  have:=Bd z.cps.toList lo d;show(ig z.cps.toList lo d).toArray.size<=sizeLine;rw[aI];lia
theorem wQ:∀ {ys:az Str} {us:az av},fF (ys.map V.str) us->StrsAre us ys
 |[],_,h=>by cases h;exact .nil
 | y::r,_,h=>by
  cases h with
  |cons a b=>obtain⟨t,rfl⟩:=a;exact .cons _ _ (wQ b)
theorem tm:∀(ys:az Str) (d:Array Nat),ys.foldl (λd p=>d++(#[]:Array Nat)++p.cps) d=d++(ys.map (·.cps.toList)).flatten.toArray
 |[],d=>rfl
 | y::r,d=>by rw[cO,tm r,aJ,List.flatten_cons];apply Array.toList_inj.mp;simp
def Cp (z:Str)(hz:z.cps=#[])(ys:az Str):Txt.join z ys=⟨(ys.map (·.cps.toList)).flatten.toArray⟩:=by
 delta Txt.join glued;rw[hz];congr 1;cases ys with
 |nil=>rfl
 | cons y r =>rw[tm,aJ,List.flatten_cons];apply Array.toList_inj.mp;simp
def rJoin (K:aj):V->az V->Hp->VK->Prop:=λx d H Q=>∃(z:Str) (l:au) (ys:az Str),x=.str z/\z.cps=#[]/\d=[.ref l]/\nJ K H l (ys.map V.str)/\(ys.map (·.length)).sum<=16777216/\Q (.str ⟨(ys.map (·.cps.toList)).flatten.toArray⟩) H
def My:zy X "str.join" (rJoin X.K):=by
 intro j s J H x O v P Q I C E h;refine GF h λz l M d y e hl hs q=>?_;subst d;subst e;obtain⟨t,rfl⟩:=C;refine eU E.one λu d F=>?_;subst d;subst F;refine jF (I.list hl) λG r p _=>?_;have L:z.length=0:=by delta Str.length;rw[y];rfl
 refine join_list p.isList (by simpa using wQ r) Zs λU k=>?_;rw[Cp z y];exact⟨.str _,H,I.tok _,⟨_,rfl⟩,q⟩
theorem DZ (c:Nat):∀(n:Nat) (acc:Array Nat),(List.replicate n #[c]).foldl (·++·) acc=acc++(List.replicate n c).toArray
 |0,acc=>rfl
 | n+1,acc=>by rw[List.replicate_succ,cO,DZ c n,List.replicate_succ];apply Array.toList_inj.mp;simp
def mul_one (c:Nat)(n:Int):Txt.mul ⟨#[c]⟩ n=⟨(List.replicate n.toNat c).toArray⟩:=by
 delta Txt.mul;by_cases j:n<1
 .rw[aF j];have e:n.toNat=0:=by lia
  rw[e];rfl
 .rw[aD j];by_cases d:(n==1||(⟨#[c]⟩:Str).length==0)=true
  .rw[aF d];have e:n=1:=by simpa [Str.length]using d
   rw[e];rfl
  .rw[aD d];congr 1;have:=DZ c n.toNat #[];rw[this];apply Array.toList_inj.mp;simp
def B8:jG X (binaryOp .Mult) (λx y H Q=>∃(c:Nat) (n:Int),x=.str ⟨#[c]⟩/\y=.int n /\ -1000000<=n/\n<=1000000/\Q (.str ⟨(List.replicate n.toNat c).toArray⟩) H):=by
 intro d s F H x y v u Q I E C h;obtain⟨c,n,rfl,rfl,J,G,q⟩:=h;obtain⟨t,rfl⟩:=E;obtain⟨j,rfl⟩:=C;refine SB.mul ⟨?_,λhn _=>?_,λhn _=>?_⟩ λj k=>?_
 .rw[aO Zs,aO Zs];rfl
 .have e:((⟨#[c]⟩:Str).length:Int)=1:=rfl;have:(1:Int)<=(2 ^ 63 - 1) / n:=(Int.le_ediv_iff_mul_le<|by lia).mpr Zs;lia
 .have e:(⟨#[c]⟩:Str).length=1:=rfl;delta tooLong sizeLine;rw[aO Zs]
 .rw[mul_one];exact⟨.str _,H,I.tok _,⟨_,rfl⟩,q⟩
theorem xK (c:Nat):∀ l:az Nat,countIn (.str ⟨#[c]⟩) (l.map λn=>PyData.str ⟨#[n]⟩)=((l.count c:Nat):Int)
 |[]=>rfl
 | n::r=>by
  have h:=cnt_cons c n r;unfold cnt at h;rw[h,xK c r,d9];by_cases e:n=c
  .lia
  .lia
def Qc:V->az V->Hp->VK->Prop:=λx d H Q=>∃(z:Str) (c:Nat),x=.str z/\d=[.str ⟨#[c]⟩]/\Q (.int ((z.cps.toList.count c:Nat):Int)) H
def IU:zy X "str.count" Qc:=by intro j s F H x G v J Q I y C h;refine fw h λz c d e q=>?_;subst d;subst e;obtain⟨t,rfl⟩:=y;refine eU C.one λu d E=>?_;subst d;obtain⟨L,rfl⟩:=E;refine SC.count ?_;rw[count_is,xK];exact⟨.int _,H,I.tok _,⟨_,rfl⟩,q⟩
def Zn (l:az Nat):It:=⟨λi _=>i<l.length,λi H x d=>d=H/\∃ c,l[i]?=some c/\x=.str ⟨#[c]⟩,λi _=>i=l.length⟩
def zG {K:aj}{it:au}{z:Str}{n:String}{St:Nat->Heap->Prop}
 (W:∀ A':Around,A'.handled=none->Walks P w A' it [it] [it] z.cps.size (SignAt z) St) (hn:["enumerate","zip","dict_itemiterator","dict_reverseitemiterator","odict_iterator","itertools.zip_longest","itertools.pairwise"].contains n=false)
 (ob:∀ i h,St i h->∃ o vs,h.get? it=some o/\o.cls=.type n/\o.data=.fields vs) (G:∀(A:Around) (i:Nat) (s:ar) (Q:av->ar->Prop) (E:av->ar->Prop),St i s.heap->Q (.ref it) s->wpAny (model P w) A (pyIter<|.ref it) Q E s):Turn P w K tg (Zn z.cps.toList) [it] it St where
 mem:=by simp
 obj:=λi h q b hb=>by
  have e:b=it:=by simpa using hb
  subst e;exact fw (ob i h q) λo vs e c d=>⟨o,e,λv z=>by rw[d]at z;cases z⟩
 keep:=λi h F q k=>(W { handled:=none,depth:=0,units:=0,frames:=none} rfl).frame i h F q k
 item:=by intro X Z L hK Y i j s σ H E I C q O;subst Z L hK;refine p5 (C it<|by simp) λf0 f1 f2 f3 f4 f5=>?_;have M:i<z.cps.toList.length:=O;refine(W X.A<|I.ok.hd Y).item i s _ _ (by simpa using M) q λv F tk hv y kk=>lJ hv λc u U J=>?_;subst J;have I1:Inv X j σ H {s with heap:=F,toks:=tk}:=I.turned (λb o hb e=>kk b o (by simpa using hb) e) f0 f1 f3 f4 f5;exact fw (ob _ _ y) λo vs e c' d=>⟨_,rfl,AE e c' d hn ⟨.str ⟨#[c]⟩,H,I1,⟨u,rfl⟩,⟨rfl,c,by simpa using U,rfl⟩,y,λb hb=>(C b hb).1⟩⟩
 done:=by
  intro X Z L hK Y i j s σ H E I C q O;subst Z L hK;refine p5 (C it<|by simp) λf0 f1 f2 f3 f4 f5=>?_;have e:i=z.cps.size:=by have:i=z.cps.toList.length:=O;simpa using this
  subst e;exact(W X.A<|I.ok.hd Y).done s _ _ q λF tk eb=>⟨rfl,I.turned (t':=tk) (λb o hb e=>eb b o (by simpa using hb) e) f0 f1 f3 f4 f5⟩
 self:=G
def Xh (e:TE):TI:=λd H R=>e d H λx j=>∃ z:Str,x=.str z/\R (Zn z.cps.toList) j
def Qn (hl:PE X l tl):PI X tg l (Xh tl):=by
 intro j s E H R I h;refine gc (hl j s E H _ I h) λv d MX=>?_;obtain⟨x,y,C,G,z,e,q⟩:=MX;subst e;obtain⟨t,rfl⟩:=G;have F:∀ b∈[d.heap.objs.size],kZ X j y b:=λb hb=>by
  have e:b=d.heap.objs.size:=by simpa using hb
  subst e;exact C.wz aaa (C.fO.fresh<|aB _)
 have kp:∀(o:Obj),Inv X j E y { d with heap:=d.heap.push o}:=λo=>C.af (t':=d.toks) λb L e=>iU _ e;cases ha:z.cps.all (·<128)
 .refine wpAny_pyIter_wide ha ⟨d.heap.objs.size,[d.heap.objs.size],λi h=>h.IsStrIter d.heap.objs.size "str_iterator" z t i,_,y,rfl,kp _,zG (λJ hA=>Walks.strWide hA _ z t) rfl (λi h u=>let ⟨o,a,b,c⟩:=u;⟨o,_,a,b,c⟩) λ_ _ _ _ _ u h=>wpAny_pyIter_striter_wide u h,⟨_,aL _ rfl,rfl,rfl⟩,F,q⟩
 .refine wpAny_pyIter_ascii ha ⟨d.heap.objs.size,[d.heap.objs.size],λi h=>h.IsStrIter d.heap.objs.size "str_ascii_iterator" z t i,_,y,rfl,kp _,zG (λJ hA=>Walks.strAscii hA _ z t) rfl (λi h u=>let ⟨o,a,b,c⟩:=u;⟨o,_,a,b,c⟩) λ_ _ _ _ _ u h=>wpAny_pyIter_striter_ascii u h,⟨_,aL _ rfl,rfl,rfl⟩,F,q⟩
def KU:h9 X (.builtin "isinstance") (λvs H Q=>∃ x T t b,vs=[x,.ty T]/\jl X.K H x t/\W.kitOne X.K t (.type T)=some b/\Q (.bl b) H):=by intro j s F H vs J Q I y h;refine fL h λx T t b d ty e q=>?_;subst d;refine fw (vals2 y) λu G d E C=>?_;subst d;subst C;exact xq I E ty e λtk=>⟨.bl b,H,I.tok tk,rfl,q⟩
end L2
namespace L2
open PySem PySem.Spec PyProof.Rows
open Builtin Builtin.Str
def jG.imp {f:av->av->Sem av}{r j:R2}(h:jG X f r)(F:∀ x y H Q,j x y H Q->r x y H Q):jG X f j:=λd s σ H x y v u Q I E C q=>h d s σ H x y v u Q I E C (F x y H Q q)
def PE.imp (h:PE X e t)(j:∀ σ H Q,t' σ H Q->t σ H Q):PE X e t':=λd s σ H Q I q=>h d s σ H Q I (j σ H Q q)
def PT.imp (h:PT X e t)(j:∀ σ H Q,t' σ H Q->t σ H Q):PT X e t':=λd s σ H Q I q=>h d s σ H Q I (j σ H Q q)
def PG.imp (h:PG X e t)(j:∀ v σ H Q,t' v σ H Q->t v σ H Q):PG X e t':=λd s σ H v u Q I r q=>h d s σ H v u Q I r (j v σ H Q q)
def G8.imp (h:G8 X e t)(j:∀ v σ H Q,t' v σ H Q->t v σ H Q):G8 X e t':=λd s σ H v u Q I r q=>h d s σ H v u Q I r (j v σ H Q q)
def PS.imp (h:PS X e t)(j:∀ D σ H,t' D σ H->t D σ H):PS X e t':=λd s σ H D I q=>h d s σ H D I (j D σ H q)
def h9.imp (h:h9 X f r)(y:∀ vs H Q,r' vs H Q->r vs H Q):h9 X f r':=λd s σ H vs j Q I u q=>h d s σ H vs j Q I u (y vs H Q q)
def zy.imp {id:String}(h:zy X id r)(C:∀ x vs H Q,r' x vs H Q->r x vs H Q):zy X id r':=λd s σ H x vs v j Q I y u q=>h d s σ H x vs v j Q I y u (C x vs H Q q)
def Vy (i:Nat):TE:=λσ H Q=>match σ[i]? with|some (some v)=>Q v H|_=>False
def kh (i:Nat)(d:X.N[i]?=some x:=by rfl)(hv:R6 X.env.scope x:=by first | exact Or.inl rfl | exact Or.inr (Or.inl rfl) | exact Or.inr<|Or.inr rfl)(hd:Zz=false:=by decide)
 (Es:abd=false:=by decide):PE X abh (Vy i):=(yz d hv hd Es).imp λσ H Q q=>by
 delta Vy at q;split at q
 .rename_i v e;exact⟨v,e,q⟩
 .exact q.elim
def Ik:R2:=λx y H Q=>match x,y with
 |.int i,.int j=>Q (.int<|i+j) H
 |.str i,.str j=>i.length+j.length<=sizeLine/\Q (.str<|i++j) H
 |.ref l,.ref b=>∃ d zs,H l=some (.lst d)/\H b=some (.lst zs)/\d.length+zs.length<=sizeLine/\∀ p,H p=none->Q (.ref p) (upd H p<|.lst<|d++zs)
 |_,_=>False
def GU:jG X (binaryOp .Add) Ik:=(QE.or<|B9.or QD).imp λx y H Q q=>by
 delta Ik at q;split at q
 .exact .inl ⟨_,_,rfl,rfl,q⟩
 .exact .inr (.inl ⟨_,_,rfl,rfl,q.1,q.2⟩)
 .obtain⟨j,zs,a,b,c,d⟩:=q;exact .inr (.inr ⟨_,_,j,zs,rfl,rfl,a,b,c,d⟩)
 .exact q.elim
def SA (C:Int->Int->Prop)(g:Int->Int->V):R2:=λx y H Q=>match x,y with
 |.int i,.int j=>C i j/\Q (g i j) H
 |_,_=>False
def yq (g:Int->Int->V):R2:=λx y H Q=>match x,y with
 |.int i,.int j=>Q (g i j) H
 |_,_=>False
def jG.i2 {f:av->av->Sem av}{C:Int->Int->Prop}{g:Int->Int->V}(h:jG X f (rI C g)):jG X f (SA C g):=h.imp λx y H Q q=>by
 delta SA at q;split at q
 .exact⟨_,_,rfl,rfl,q.1,q.2⟩
 .exact q.elim
def jG.Ut {f:av->av->Sem av}{g:Int->Int->V}(h:jG X f (Mc g)):jG X f (yq g):=h.imp λx y H Q q=>by
 delta yq at q;split at q
 .exact⟨_,_,rfl,rfl,q⟩
 .exact q.elim
def WM:jG X (binaryOp .Sub) (yq λi j=>.int<|i - j):=Qz.Ut
def Ib:R2:=λx y H Q=>match x,y with
 |.int i,.int j=>G1 i j/\Q (.int<|i*j) H
 |.str z,.int n=>∃ c:Nat,z=⟨#[c]⟩ /\ -1000000<=n/\n<=1000000/\Q (.str ⟨(List.replicate n.toNat c).toArray⟩) H
 |_,_=>False
def mulC:jG X (binaryOp .Mult) Ib:=(QB.or B8).imp λx y H Q q=>by
 delta Ib at q;split at q
 .exact .inl ⟨_,_,rfl,rfl,q.1,q.2⟩
 .obtain⟨c,rfl,a,b,d⟩:=q;exact .inr ⟨c,_,rfl,rfl,a,b,d⟩
 .exact q.elim
def divC:jG X (binaryOp .FloorDiv) (SA VX λi j=>.int<|i / j):=Mv.i2
def An:jG X (binaryOp .Mod) (SA (λ_ j=>0<j) λi j=>.int<|i%j):=QC.i2
def powC:jG X (binaryOp .Pow) (SA VW λi j=>.int<|i ^ j.toNat):=QA.i2
def YU:jG X (compareOp .Lt) (yq λi j=>.bl<|decide (i<j)):=T6.Ut
def leC:jG X (compareOp .LtE) (yq λi j=>.bl<|decide (i<=j)):=T7.Ut
def Y4:jG X (compareOp .Gt) (yq λi j=>.bl<|decide (j<i)):=T8.Ut
def Y5:jG X (compareOp .GtE) (yq λi j=>.bl<|decide (j<=i)):=T9.Ut
def Ij (neg:Bool):R2:=λx y H Q=>match x,y with
 |.int i,.int j=>Q (.bl<|neg != decide (i=j)) H
 |.str i,.str j=>Q (.bl<|neg != decide (i=j)) H
 |.bl i,.bl j=>Q (.bl<|neg != decide (i=j)) H
 |_,_=>False
def sm [Decidable p][Decidable q](h:p↔q):decide p=decide q:=by
 by_cases d:p
 .rw[aH d,aH (h.mp d)]
 .rw[aO d,aO λz=>d<|h.mpr z]
def dI {i j:Int}:decide (V.int i=V.int j)=decide (i=j):=sm ZN
def dS:decide (V.str i=V.str j)=decide (i=j):=sm ZN
def dB:decide (V.bl i=V.bl j)=decide (i=j):=sm ZN
def UW:jG X (compareOp .Eq) (Ij false):=OH.imp λx y H Q q=>by
 delta Ij at q;split at q
 .exact⟨rfl,by simpa using q⟩
 .exact⟨rfl,by simpa using q⟩
 .exact⟨rfl,by simpa using q⟩
 .exact q.elim
def Bz:jG X (compareOp .NotEq) (Ij true):=T1.imp λx y H Q q=>by
 delta Ij at q;split at q
 .exact⟨rfl,by simpa using q⟩
 .exact⟨rfl,by simpa using q⟩
 .exact⟨rfl,by simpa using q⟩
 .exact q.elim
def cT (t:TE):TT:=λσ H Q=>t σ H λx d=>match x with|.bl c=>Q c d|_=>False
def bK (Q:Bool->Hp->Prop):VK:=λx d=>match x with|.bl c=>Q c d|_=>False
def cB (t:TE):TT:=λσ H Q=>t σ H (bK Q)
def lT (L:jG X (compareOp op) r)(ha:PE X a ta)(hb:PE X b tb)(hm:behindInMarks op b=false):PT X (.Compare a [op] [b] pos) (cB<|Td r ta tb):=by
 intro C s σ H Q I h;refine wpAny_isTrue_Compare1 (NU ha hb I h λv u E x y W P G F q=>gc (L _ E σ W x y v u _ P G F q) λc Y M=>fw M λz U O J j=>?_) hm;cases z with
 |bl d=>subst J;exact cF ⟨U,O,j⟩
 |_=>exact j.elim
def qK (h:PE X e t)(he:∀ j,isTrue e X.env j=(do let v <- j;standAt e.pos;holding [v] (truthy v)):=by intro _;rfl):PT X e (cB t):=by
 intro q s σ H Q I y;refine isTrue_plain (gc (h q s σ H _ I y) λv G C=>fw C λx F E u q1=>?_)<|he _;cases x with
 |bl d=>subst u;exact cF ⟨F,E,q1⟩
 |_=>exact q1.elim
def Yr (ta tb:TE):TE:=λσ H Q=>ta σ H λx d=>match x with|.bl c=>if c=true then tb σ d Q else Q (.bl false) d|_=>False
def ug {rest:az Expr}(ha:PE X a ta)(hb:PE X (.BoolOp .And (b::rest) pos) tb):PE X (.BoolOp .And (a::b::rest) pos) (Yr ta tb):=by
 intro d s σ H Q I h;refine BoolOp_and (gc (ha d s σ H _ I h) λv u C=>fw C λx q j y q1=>?_);cases x with
 | bl c =>
  subst y;refine cF ?_;cases c with
  |true=>exact hb d u σ q Q j q1
  |false=>exact⟨.bl false,q,j,rfl,q1⟩
 |_=>exact q1.elim
def opt {α:Type}(o:aA α)(k:α->Prop):Prop:=match o with|some v=>k v|none=>False
def fS {α:Type}{o:aA α}{k:α->Prop}(h:opt o k):∃ v,o=some v/\k v:=by
 cases o with
 |none=>exact h.elim
 |some v=>exact⟨v,rfl,h⟩
def Qb:R2:=λx y H Q=>match x,y with
 |.ref p,.int i=>∃ d,aaB/\opt (kP d i) λv=>Q v H
 |.str z,.int i=>z.length<=sizeLine/\opt (kP z.cps.toList i) λc=>Q (.str ⟨#[c]⟩) H
 |_,_=>False
def Fo.imp (h:Fo X r)(G:∀ x y H Q,r' x y H Q->r x y H Q):Fo X r':=λd j C s σ H x y v u Q I F E q=>h d j C s σ H x y v u Q I F E (G x y H Q q)
def Jt:Fo X Qb:=QU.imp λx y H Q q=>by
 delta Qb at q;split at q
 .refine eU q λd h q=>eU (fS q) λv e q=>?_;rcases h with h|h
  .exact .inl ⟨_,d,_,v,rfl,rfl,nJ.of h,e,q⟩
  .exact .inr (.inl ⟨_,d,_,v,rfl,rfl,C4.of h,e,q⟩)
 .exact gv q λj q=>eU (fS q) λv e q=>.inr (.inr ⟨_,_,v,rfl,rfl,j,e,q⟩)
 .exact q.elim
def Tx:V->aA Int->aA Int->Hp->VK->Prop:=λx lo j H Q=>match x with
 |.ref p=>∃ d,H p=some (.lst d)/\∀ l,H l=none->Q (.ref l) (upd H l<|.lst<|za d lo j)
 |.str z=>z.length<=sizeLine/\Q (.str ⟨(ig z.cps.toList lo j).toArray⟩) H
 |_=>False
def slC:VF X Tx:=by
 intro d s σ H x v q j lo E u Q I y hs pl C h;delta Tx at h;split at h
 .exact eU h λF J G=>L5 d s σ H _ v q j lo E u Q I y hs pl C ⟨_,F,rfl,nJ.of J,G⟩
 .exact PU d s σ H _ v q j lo E u Q I y hs pl C ⟨_,rfl,h.1,h.2⟩
 .cases h
def cNo:TO:=λ_ H Q=>Q none H
def Vz (t:TE):TO:=λσ H Q=>t σ H λx d=>match x with|.int i=>Q (some i) d|_=>False
def Ql:PO X none cNo:=Mq
def Im (h:PE X e te):PO X (some e) (Vz te):=by
 intro d s σ H Q I q;refine gc (h d s σ H _ I q) λu F y=>fw y λx E C j q1=>?_;cases x with
 |int i=>obtain⟨t,rfl⟩:=j;exact⟨some i,E,C,.int i t,q1⟩
 |_=>exact q1.elim
def Ih:az V->Hp->VK->Prop:=λj H Q=>match j with
 |[.ref p]=>∃ d,aaB/\Q (.int d.length) H
 |[.str z]=>z.length<=sizeLine/\Q (.int z.length) H
 |_=>False
def MF:h9 X (.builtin "len") Ih:=(zf.or ze).imp λj H Q q=>by
 delta Ih at q;split at q
 .refine eU q λd h q=>?_;rcases h with h|h
  .exact .inl ⟨_,d,rfl,.inl<|nJ.of h,q⟩
  .exact .inl ⟨_,d,rfl,.inr<|C4.of h,q⟩
 .exact .inr ⟨_,rfl,q.1,q.2⟩
 .exact q.elim
def HZ:C3:=λo i v H Q=>match o,i with
 |.ref p,.int k=>∃ d,H p=some (.lst d)/\opt (Ay d.length k) λj=>Q (upd H p<|.lst<|d.set j v)
 |_,_=>False
def setC:N1 X HZ:=by
 intro d s σ H o i v G J u Q I E F C h;delta HZ at h;split at h
 .exact eU h λy L q=>eU (fS q) λj e q=>set_list d s σ H _ _ v G J u Q I E F C ⟨_,y,_,j,rfl,rfl,L,e,q⟩
 .cases h
def OD:V->V->Hp->VK->Prop:=λo i H Q=>match o,i with
 |.ref p,.int k=>∃ d,H p=some (.lst d)/\0<=k/\opt (d[k.toNat]?) λv=>Q v H
 |_,_=>False
def XB:VH X OD:=by
 intro u s σ H o i O P Q I y C h;delta OD at h;split at h
 .refine jF h λM E J q=>eU (fS q) λv e q=>?_;subst y;obtain⟨t,rfl⟩:=C;obtain⟨z,j,n,r,hl,F⟩:=I.j9 E;refine eU (r.get e) λw L d=>?_;have G:=(jA e).1;have hn:=pV;exact wpAny_getItem_list (⟨_,F,rfl,n,rfl⟩:s.heap.IsList _ j.toArray) J Zs (by simpa using L) ⟨v,H,I,d,q⟩
 .cases h
def Xb (f:Int->Int->Int):Pb:=λx y H Q=>match x,y with|.int i,.int j=>Q (.int<|f i j) H|_,_=>False
def um:VG X .Add (Xb λi j=>i+j):=by
 intro d s σ H x y v u Q I C q h;delta Xb at h;split at h
 .exact QY d s σ H _ _ v u Q I C q ⟨_,_,rfl,rfl,h⟩
 .cases h
def KZ (n:Nat)(t:Bp):TG:=λv σ H Q=>match v with|.ref a=>∃ d,H a=some (.tup d)/\d.length=n/\t d σ H Q|_=>False
def Bg (t:TG)(u:Bp):Bp:=λj σ H Q=>match j with|v::r=>t v σ H λd q=>u r d q Q|[]=>False
def K1:Bp:=λd σ H Q=>match d with|[]=>Q σ H|_=>False
def ud {t:Bp}(j:X.fU=true)(h:G8 X es t)(hn:(assignEach es X.env).length=n:=by rfl)(Ux:(assignEach es X.env).findIdx? Zx=none:=by rfl):PG X (.Tuple es k pos) (KZ n t) :=
 (Qo j h hn Ux).imp λv σ H Q q=>by
  delta KZ at q;split at q
  .obtain⟨d,a,b,c⟩:=q;exact⟨_,d,rfl,C4.of a,b,c⟩
  .exact q.elim
def kl {t:TG}(j:PG X e t)(d:G8 X es u)(hs:(assignEach ZX X.env).map ZI=assign e X.env::(assignEach es X.env).map (·.2):=by rfl):G8 X ZX (Bg t u) :=
 (Iu j d hs).imp λv σ H Q q=>by
  delta Bg at q;split at q
  .exact⟨_,_,rfl,q⟩
  .exact q.elim
def qM:G8 X [] K1:=Mu.imp λv σ H Q q=>by
 delta K1 at q;split at q
 .exact⟨rfl,q⟩
 .exact q.elim
def B1:V->az V->Hp->VK->Prop:=λx j H Q=>match x,j with
 |.str z,[.ref l]=>z.cps=#[]/\∃ d:az Str,H l=some (.lst<|d.map V.str)/\(d.map (·.length)).sum<=16777216/\Q (.str ⟨(d.map (·.cps.toList)).flatten.toArray⟩) H
 |_,_=>False
def OJ:zy X "str.join" B1:=My.imp λx u H Q q=>by
 delta B1 at q;split at q
 .obtain⟨a,j,b,c,d⟩:=q;exact⟨_,_,j,rfl,a,rfl,nJ.of b,c,d⟩
 .exact q.elim
def yt:V->az V->Hp->VK->Prop:=λx d H Q=>match x,d with
 |.str z,[.str y]=>∃ c:Nat,y=⟨#[c]⟩/\Q (.int ((z.cps.toList.count c:Nat):Int)) H
 |_,_=>False
def KO:zy X "str.count" yt:=IU.imp λx d H Q q=>by
 delta yt at q;split at q
 .obtain⟨c,rfl,q⟩:=q;exact⟨_,c,rfl,rfl,q⟩
 .exact q.elim
def OC (K:aj):az V->Hp->VK->Prop:=λd H Q=>match d with
 |[x,.ty T]=>∃ t b,jl K H x t/\W.kitOne K t (.type T)=some b/\Q (.bl b) H
 |_=>False
def qZ:h9 X (.builtin "isinstance") (OC X.K):=KU.imp λy H Q q=>by
 delta OC at q;split at q
 .obtain⟨t,b,u,j,d⟩:=q;exact⟨_,_,t,b,rfl,u,j,d⟩
 .exact q.elim
def BZ (K:aj):az V->Hp->VK->Prop:=λj H Q=>match j with
 |[.ref p]=>∃ d,nJ K H p d/\∀ l,H l=none->Q (.ref l) (upd H l<|.lst d)
 |_=>False
def qQ:h9 X (.type "list") (BZ X.K):=zd.imp λy H Q q=>by
 delta BZ at q;split at q
 .obtain⟨d,u,j⟩:=q;exact⟨_,d,rfl,.inl u,j⟩
 .exact q.elim
def OA:az V->Hp->VK->Prop:=λd H Q=>∃ i j,d=[.int i,.int j]/\Q (.int<|max i j) H
def Jc (u:X.fU=true):h9 X (.builtin "max") OA:=(GO u).imp λy H Q q=>by
 refine lJ q λi j d q=>?_;subst d;refine⟨_,_,rfl,?_⟩;have e:(if j>i then j else i)=max i j:=by split<;>lia
 rwa [e]
def ji {B:Prop}[Decidable c](j:c->A)(d:¬ c->B):if decide c=true then A else B:=by
 by_cases h:c
 .rw[aF (aH h)];exact j h
 .rw[aD (by simp[h])];exact d h
def AA {B:Prop}[Decidable c](j:¬ c->A)(d:c->B):if(true != decide c)=true then A else B:=by
 by_cases h:c
 .rw[aD (by simp[h])];exact d h
 .rw[aF (by simp[h])];exact j h
def Jv {B:Prop}[Decidable c](j:c->A)(d:¬ c->B):if(false != decide c)=true then A else B:=by
 by_cases h:c
 .rw[aF (by simp[h])];exact j h
 .rw[aD (by simp[h])];exact d h
def QW {B:Prop}(j:b=true->A)(d:b=false->B):if b=true then A else B:=by
 cases b with
 |true=>exact j rfl
 |false=>exact d rfl
def Zr (n i:Nat)(Pv:Nat->az V->Hp->Prop)(ys:az V):VK:=λy j=>ys.length<sizeLine/\∃ d,d<n - i/\(d=n - abe/\i+1<=n/\Pv abe (ys++[y]) j)
def Zf {n i:Nat}{Pv:Nat->az V->Hp->Prop}{ys:az V}{y:V}{H:Hp}(d:i<n)(hl:ys.length<sizeLine)(p:Pv abe (ys++[y]) H):Zr n i Pv ys y H:=⟨hl,n - abe,by lia,rfl,d,p⟩
def CSk (n i:Nat)(Pv:Nat->az V->Hp->Prop)(ys:az V)(j:Hp):Prop:=∃ d,d<n - i/\(d=n - abe/\i+1<=n/\Pv abe ys j)
end L2
namespace L2
open PySem PySem.Spec PyProof.Rows
structure lN (P:ak)(w:ao)(K:aj)(mg:Str->Option av)(ah:Heap)(x:Str)(k:Nat)(ps:List Str)(sp:Sp):Prop where
 ex:∃ f fd,ij P w K mg ah wq k f fd ps sp/\mg x=some aaf/\W.keepIn K aaf=true/\Binds K fd ps []
def vc (C:lN X.prog X.w X.K X.mg X.ah x k ps sp)(hr:gZ k X.A)(j:Gl X x)(ha:PA X ZX t)
 (d:Zz=false:=by decide) (he:starEach ZX X.env=(false,eval e X.env)::starEach es X.env:=by rfl) (m4:(backTo pos<|starEach es X.env).any Zx=false:=by rfl):
 PE X ZH (Oj sp [] E0 t):=by
 exact jz C.ex λf fd F hm hk hb=>D9 F hr j hm hk hb .nil Eb ha d he m4
def WI (t u:TS):TS:=λD j H=>∃ M:St->Hp->Prop,t { D with nx:=M} j H/\∀ d e,M d e->u D d e
def Mj {st:Stmt}{rest:az Stmt}(F:PS X st t)(E:zk X rest u):zk X (st::rest) (WI t u):=by
 intro d s y H D I h;refine eU h λM a b=>wpAny_execs_cons (gc (F d s y H { D with nx:=M} I a) λf C q=>?_);cases f with
 | next =>exact lJ q λe j G q=>E d C e j D G (b e j q)
 |ret v=>exact q
 |brk=>exact q
 |cont=>exact q
def SB (b:au)(H H':Hp):Prop:=∀ c o,c≠b->H c=some o->H' c=some o
def SB.trans (h:SB b H H1)(h':SB b H1 H2):SB b H H2:=λc o n e=>h' c o n (h c o n e)
def eT {α:Type}{o:aA α}{k:α->Prop}{v:α}(e:o=some v)(h:k v):opt o k:=by rwa [e]
def OB (b:au)(H H':Hp):Prop:=∀ c,c≠b->H' c=H c
def OB.refl:OB b H H:=λ_ _=>rfl
theorem OB.upd (h:OB b H H'):OB b H (L2.upd H' b o):=λc n=>by rw[fB n];exact h c n
def pM:(0:Int)<2147483647:=by decide
def pN:(0:Int)<1000000007:=by decide
def OX (l:az Nat):Prop:=∀ c∈l,c=111\/c=120
def OX.of (h:l.all (λc=>c==111||c==120)=true):OX l:=λc d=>by have:=List.all_eq_true.mp h c d;simpa using this
def OX.app (ha:OX a)(hb:OX b):OX (a++b):=λc h=>(List.mem_append.mp h).elim (ha c) (hb c)
def OX.one (h:c=111\/c=120):OX [c]:=λd hd=>by rwa [List.mem_singleton.mp hd]
def OX.rep (h:c=111\/c=120):OX (List.replicate n c):=λd hd=>by rwa [(List.mem_replicate.mp hd).2]
def RZ {l:az Nat}{v:Int}(h0:0<=v)(e:v<l.length):∃ c,kP l v=some c/\c∈l:=by
 have d:v.toNat<l.length:=by lia
 refine⟨l[v.toNat],?_,bQ _⟩;have q:=iS<|iO d;rwa [dW h0]at q
def ng (a b:az Nat):((⟨a.toArray⟩:Str)++(⟨b.toArray⟩:Str))=⟨(a++b).toArray⟩:=by show(⟨a.toArray++b.toArray⟩:Str)=_;congr 1;simp
def Ck (a:az Nat):(⟨a.toArray⟩:Str).length=a.length:=by simp[Str.length]
theorem pZ:∀ l:az Nat,((l.map λc=>(⟨#[c]⟩:Str)).map (·.cps.toList)).flatten=l
 |[]=>rfl
 |c::r=>by rw[aJ,aJ,List.flatten_cons,pZ r];rfl
theorem rQ:∀ l:az Nat,((l.map λc=>(⟨#[c]⟩:Str)).map (·.length)).sum=l.length
 |[]=>rfl
 | c::r=>by rw[aJ,aJ,List.sum_cons,rQ r];show 1+r.length=r.length+1;lia
def Om (K:aj):Sp:=λd H Q _=>∃(a:au) (ns:az Int),d=[.ref a]/\nJ K H a abi/\ns.length<=63/\∀ e,Q (.bl true) e
def Ui (z:Str):z.length=z.cps.toList.length:=by simp[Str.length]
def OP (b:Bool):(false != b)=b:=by cases b<;>rfl
def SY (b:Bool):(true != b)=!b:=by cases b<;>rfl
def iq (K:aj)(T:String):W.kitOne K (.type T) (.type T)=some true:=by delta W.kitOne;simp
def lM (c:Bool)(h:Heap)(it a:au)(k:Nat):Prop:=if c=true then h.IsTupleIter it a k else h.IsListIter it a k
def jf (c:Bool)(h:Heap)(a:au)(d:Array av):Prop:=if c=true then h.IsTuple a d else h.IsList a d
theorem lM.extBut {c:Bool}{h h':Heap}{it a b:au}{k:Nat}(x:lM c h it a k)(hs:Heap.ExtBut b h h')(d:it≠b):lM c h' it a k:=by
 cases c with
 |true=>exact Heap.IsTupleIter.extBut x hs d
 |false=>exact Heap.IsListIter.extBut x hs d
theorem jf.extBut {c:Bool}{h h':Heap}{a b:au}{d:Array av}(x:jf c h a d)(hs:Heap.ExtBut b h h')(e:a≠b):jf c h' a d:=by
 cases c with
 |true=>exact Heap.IsTuple.extBut x hs e
 |false=>exact Heap.IsList.extBut x hs e
def jf.lt {c:Bool}{h:Heap}{a:au}{d:Array av}(x:jf c h a d):a≠h.objs.size:=by
 cases c with
 |true=>let ⟨o,e,_⟩:=x;exact aN (ic e)
 |false=>let ⟨o,e,_⟩:=x;exact aN (ic e)
def lM.ex {c:Bool}{h:Heap}{it a:au}{k:Nat}(x:lM c h it a k):∃ o,h.get? it=some o:=by
 cases c with
 |true=>let ⟨o,e,_⟩:=x;exact⟨o,e⟩
 |false=>let ⟨o,e,_⟩:=x;exact⟨o,e⟩
theorem lM.data {c:Bool}{h:Heap}{it a:au}{k:Nat}(x:lM c h it a k):∃ o,h.get? it=some o/\∀ v,o.data≠.cell v:=by
 cases c with
 |true=>let ⟨o,e,_,d⟩:=x;exact⟨o,e,λv z=>by rw[d]at z;cases z⟩
 |false=>let ⟨o,e,_,d⟩:=x;exact⟨o,e,λv z=>by rw[d]at z;cases z⟩
def lM.at {c:Bool}{h h':Heap}{it a:au}{k:Nat}(x:lM c h it a k)(e:∀ o,h.get? it=some o->h'.get? it=some o):lM c h' it a k:=by
 cases c with
 |true=>let ⟨o,q,r⟩:=x;exact⟨o,e o q,r⟩
 |false=>let ⟨o,q,r⟩:=x;exact⟨o,e o q,r⟩
def Cb {it t:au}{i:Nat}{items}{x:av}{Q:av->ar->Prop}(hit:s.heap.IsTupleIter it t i)(ht:s.heap.IsTuple t items)(q:items[i]?=some x)
 (C:∀ h',h'.IsTupleIter it t abe->Heap.SameBut it s.heap h'->Q x {s with heap:=h'}):wpAny Zw A (Builtin.SmallTypes.nextOf<|.ref it) Q E s:=by
 refine jF (id hit) λo d u hd=>?_;obtain⟨ol,e,_,G,j⟩:=ht;refine fj<|bW hit.typeIs c4<|cy c4 hit.typeIs F.entry_tuple_iterator_next ?_<|F.args_tuple_iterator_next_1 _;show wpAny _ _ (field (.ref it) 0>>=_) _ _ s;refine fj<|bh d hd (x:=.ref t) rfl (fj<|bh d hd (x:=.int i 0) rfl (fj<|bT e j ?_));simp only[BA,q];exact fj (eK d hd ZN<|aC ⟨x,rfl,aC<|C _ ⟨_,bV _ d<|Obj.isFreed_of_fields<|eC hd _,(Obj.cls_mapFields ..).trans u,by rw[eC hd];simp[rawInt]⟩<|Heap.SameBut.update ..⟩)
def F2 {it t:au}{i:Nat}{items}{Q:av->ar->Prop}(hh:A.handled=none)(hit:s.heap.IsTupleIter it t i)(ht:s.heap.IsTuple t items)(u:items[i]?=none)
 (C:∀ h' e,Heap.ExtBut it s.heap h'->ZS->E (.ref e) {s with heap:=h'}):wpAny Zw A (Builtin.SmallTypes.nextOf<|.ref it) Q E s:=by
 refine jF (id hit) λo j I hd=>?_;obtain⟨ol,d,_,G,q⟩:=ht;refine fj<|bW (name:=Str.ofString "__next__") hit.typeIs c4<|cy c4 hit.typeIs F.entry_tuple_iterator_next ?_<|F.args_tuple_iterator_next_1 _;show wpAny _ _ (field (.ref it) 0>>=_) _ _ s;refine fj<|bh j hd (x:=.ref t) rfl (fj<|bh j hd (x:=.int i 0) rfl (fj<|bT d q ?_));simp only[BA,u];refine fj (ew<|fj<|eK j hd ZN<|fj<|fj<|cf (fj (m:=firstArgMember _ _)<|wpAny_of_eq (a:=Value.none) (by first|rfl|(simp only[firstArgMember];rfl))<|cf (fj<|wpAny_handled ?_)<|by size_fits)<|by size_fits);first|rw[show A.in1.handled=none from hh]|rw[hh]
 exact fj (aC<|wpAny_throw<|C _ _ (((Heap.SameBut.update ..).extBut.push _).push _) ⟨_,aL _ rfl,rfl⟩)
def kq {c:Bool}{it l:au}{i:Nat}{items:Array av}{x:av}{Q:av->ar->Prop}(hit:lM c s.heap it l i)(hl:jf c s.heap l items)(d:items[i]?=some x)
 (e:∀ h',lM c h' it l abe->Heap.SameBut it s.heap h'->Q x {s with heap:=h'}):wpAny Zw A (Builtin.SmallTypes.nextOf<|.ref it) Q E s:=by
 cases c with
 |true=>exact Cb hit hl d e
 |false=>exact wpAny_nextOf_list_item hit hl d e
def oO {c:Bool}{it l:au}{i:Nat}{items:Array av}{Q:av->ar->Prop}(hh:A.handled=none)(hit:lM c s.heap it l i)(hl:jf c s.heap l items)(d:items[i]?=none)
 (j:∀ h' e,Heap.ExtBut it s.heap h'->ZS->E (.ref e) {s with heap:=h'}):wpAny Zw A (Builtin.SmallTypes.nextOf<|.ref it) Q E s:=by
 cases c with
 |true=>exact F2 hh hit hl d j
 |false=>exact wpAny_nextOf_list_end hh hit hl d j
def ZK (z TO i1 i2:au)(h h':Heap):Prop:=∀ d o,d≠z->d≠TO->d≠i1->d≠i2->h.get? d=some o->h'.get? d=some o
def ZK.trans {z TO i1 i2:au}{h C u:Heap}(a:ZK z TO i1 i2 h C)(b:ZK z TO i1 i2 C u):ZK z TO i1 i2 h u:=λd o q1 q2 q j e=>b d o q1 q2 q j (a d o q1 q2 q j e)
abbrev ni (h:Heap)(z TI TO:au)(f:av)(bb:Bool):Prop:=h.get? z=some { cls:=.type "zip",dict:=none,data:=.fields #[f,.bool bb,.bool false,.ref TI,.ref TO],slots:=#[]}
structure ZG (c:Bool)(z TI TO i1 i2 l1 l2:au)(f:av)(bb:Bool)(a b:av)(k1 k2:Nat)(xs ys:Array av)(h:Heap):Prop where
 z:ni h z TI TO f bb
 ti:IsPair h TI (.ref i1) (.ref i2)
 to:IsPair h TO a b
 n1:lM c h i1 l1 k1
 n2:lM c h i2 l2 k2
 q1:jf c h l1 xs
 q2:jf c h l2 ys
section
variable {z TI TO i1 i2 l1 l2:au}
def ZG.mz (S:ZG c z TI TO i1 i2 l1 l2 f bb a b k1 k2 xs ys h)(D:ZipApart z TI TO i1 i2 l1 l2)(e:ni h' z TI TO f' bb')(k:Heap.ExtBut z h h'):ZG c z TI TO i1 i2 l1 l2 f' bb' a b k1 k2 xs ys h' :=
 ⟨e,k _ _ D.TIz S.ti,k _ _ D.TOz S.to,S.n1.extBut k D.i1z,S.n2.extBut k D.i2z,S.q1.extBut k D.l1z,S.q2.extBut k D.l2z⟩
def ZG.m1 {j:Nat}(S:ZG c z TI TO i1 i2 l1 l2 f bb a b k1 k2 xs ys h)(D:ZipApart z TI TO i1 i2 l1 l2)(e:lM c h' i1 l1 j)(k:Heap.ExtBut i1 h h'):ZG c z TI TO i1 i2 l1 l2 f bb a b j k2 xs ys h' :=
 ⟨k _ _ D.i1z.symm S.z,k _ _ D.TIi1 S.ti,k _ _ D.TOi1 S.to,e,S.n2.extBut k D.i12.symm,S.q1.extBut k D.l1i1,S.q2.extBut k D.l2i1⟩
def ZG.m2 {j:Nat}(S:ZG c z TI TO i1 i2 l1 l2 f bb a b k1 k2 xs ys h)(D:ZipApart z TI TO i1 i2 l1 l2)(e:lM c h' i2 l2 j)(k:Heap.ExtBut i2 h h'):ZG c z TI TO i1 i2 l1 l2 f bb a b k1 j xs ys h' :=
 ⟨k _ _ D.i2z.symm S.z,k _ _ D.TIi2 S.ti,k _ _ D.TOi2 S.to,S.n1.extBut k D.i12,e,S.q1.extBut k D.l1i2,S.q2.extBut k D.l2i2⟩
def ZG.mo (S:ZG c z TI TO i1 i2 l1 l2 f bb a b k1 k2 xs ys h)(D:ZipApart z TI TO i1 i2 l1 l2)(e:IsPair h' TO x y)(k:Heap.ExtBut TO h h'):ZG c z TI TO i1 i2 l1 l2 f bb x y k1 k2 xs ys h' :=
 ⟨k _ _ D.TOz.symm S.z,k _ _ D.TITO S.ti,e,S.n1.extBut k D.TOi1.symm,S.n2.extBut k D.TOi2.symm,S.q1.extBut k D.l1TO,S.q2.extBut k D.l2TO⟩
theorem ZG.push (S:ZG c z TI TO i1 i2 l1 l2 f bb a b k1 k2 xs ys h)(o:Obj):ZG c z TI TO i1 i2 l1 l2 f bb a b k1 k2 xs ys (h.push o) :=
 ⟨iU _ S.z,iU _ S.ti,iU _ S.to,S.n1.at λ_ e=>iU _ e,S.n2.at λ_ e=>iU _ e,
  S.q1.extBut (λ_ _ _ e=>iU _ e) (S.q1.lt),S.q2.extBut (λ_ _ _ e=>iU _ e) (S.q2.lt)⟩
def uz (k:Heap.ExtBut z h h'):ZK z TO i1 i2 h h':=λd o q _ _ _ e=>k d o q e
def Pk (k:Heap.ExtBut TO h h'):ZK z TO i1 i2 h h':=λd o _ q _ _ e=>k d o q e
def Fv (k:Heap.ExtBut i1 h h'):ZK z TO i1 i2 h h':=λd o _ _ q _ e=>k d o q e
def LK (k:Heap.ExtBut i2 h h'):ZK z TO i1 i2 h h':=λd o _ _ _ q e=>k d o q e
end
section
variable {z TI TO i1 i2 l1 l2:au}
def sD {a:au}{Q:aA Obj->ar->Prop}(h:Q (s.heap.get? a) s):wpAny Zw A (loadIfAlive a) Q E s:=λd p _=>by exact h
def Eu {Q:Bool->ar->Prop}(hz:ni s.heap z TI TO f bb)(hf:f=.none\/∃ d:au,f=rawInt d/\s.heap.get? d=none)(q:Q true s):wpAny Zw A (Builtin.SmallTypes.ownedTupleIsFree<|.ref z) Q E s:=by
 rcases hf with rfl|⟨d,rfl,hd⟩
 .exact fj (bh hz rfl rfl (aC q))
 .refine fj<|bh hz rfl rfl ?_;show wpAny _ _ (loadIfAlive d>>=_) _ _ s;refine fj<|sD ?_;rw[hd];exact aC q
def E9 {Q:Bool->ar->Prop}{T0:au}{o:Obj}(hz:ni s.heap z TI TO (rawInt T0) bb)(hd:s.heap.get? T0=some o)(q:∀ g,ni g z TI TO (rawInt T0) true->Heap.SameBut z s.heap g->Q false { s with heap:=g}):wpAny Zw A (Builtin.SmallTypes.ownedTupleIsFree<|.ref z) Q E s:=by
 refine fj<|bh hz rfl rfl ?_;show wpAny _ _ (loadIfAlive T0>>=_) _ _ s;refine fj<|sD ?_;rw[hd];refine fj<|bh hz rfl rfl ?_;cases bb with
 |true=>exact aC (q s.heap hz ⟨rfl,λ_ _=>rfl⟩)
 |false=>exact fj (bS hz ZN λg e t=>aC<|q g e t)
def x5 {Q:av->ar->Prop}(D:ZipApart z TI TO i1 i2 l1 l2)(S:ZG c z TI TO i1 i2 l1 l2 f bb a b k1 k2 xs ys s.heap)(hf:f=.none\/∃ T0:au,f=rawInt T0/\s.heap.get? T0=none)(hx:xs[k1]?=some x)(hy:ys[k2]?=some y)
 (hQ:∀ h',ZG c z TI TO i1 i2 l1 l2 (rawInt s.heap.objs.size) false x y (k1+1) (k2+1) xs ys h'->IsPair h' s.heap.objs.size x y->h'.objs.size=s.heap.objs.size+1->ZK z TO i1 i2 s.heap h'->Q ZV {s with heap:=h'}):
 wpAny Zw A ZT (λfin s'=>∃ v,fin=.done (.ret v)/\Q v s') E s:=by
 refine fj (aC<|fj<|bh S.z rfl (x:=.bool false) rfl (fj<|bh S.z rfl (x:=.ref TI) rfl (fj<|bT S.ti rfl (fj (m:=Builtin.SmallTypes.ownedTupleIsFree<|.ref z)<|Eu S.z hf<|fj<|ew<|fj<|bh S.z rfl (x:=.ref TO) rfl (fj<|bS S.z ZN λg1 e1 M=>?_)))));have Y:=S.mz D (f':=.ellipsis) (bb':=bb) e1 M.extBut;refine fj ?_;rw[show(#[Value.ref i1,Value.ref i2]:Array av).toList.zipIdx=[(.ref i1,0),(.ref i2,1)]from rfl,cI];refine fj (fj<|wpAny_onRaise<|fj<|kq Y.n1 Y.q1 hx λg2 e2 L=>aC ?_);have W:=Y.m1 D e2 L.extBut;refine fj (bT W.to rfl (fj<|wpAny_updateSeq_pair W.to λg3 e3 J=>fj<|dc<|aC ?_));have U:=W.mo D (x:=x) (y:=b) e3 J.extBut;dsimp only;rw[cI];refine fj (fj<|wpAny_onRaise<|fj<|kq U.n2 U.q2 hy λg4 e4 I=>aC ?_);have P:=U.m2 D e4 I.extBut;refine fj (bT P.to rfl (fj<|wpAny_updateSeq_pair P.to λq e5 G=>fj<|dc<|aC ?_));have O:=P.mo D (x:=x) (y:=y) e5 G.extBut;dsimp only;rw[List.forIn_nil];have sz:q.objs.size=s.heap.objs.size:=G.1.trans<|I.1.trans<|J.1.trans<|L.1.trans M.1;refine aC<|fj<|bT O.to rfl (fj<|wpAny_newTuple ?_);have S6:=O.push { cls:=.type "tuple",data:=.seq #[x,y]};refine fj (fj<|bS S6.z ZN λg7 e7 C=>?_);have S7:=S6.mz D (f':=rawInt q.objs.size) (bb':=bb) e7 C.extBut;refine bS S7.z ZN λF e8 u=>?_;have S8:=S7.mz D (f':=rawInt q.objs.size) (bb':=false) e8 u.extBut;have j:q.objs.size≠z:=bD<|ic O.z;have Z:IsPair F q.objs.size x y:=u.extBut _ _ j<|C.extBut _ _ j<|aL _ rfl;have z8:F.objs.size=s.heap.objs.size+1:=by rw[u.1,C.1,bz,sz]
 have kk:ZK z TO i1 i2 s.heap F:=((((((uz M.extBut).trans<|Fv L.extBut).trans<|Pk J.extBut).trans<|LK I.extBut).trans<|Pk G.extBut).trans λd o _ _ _ _ e=>iU _ e).trans<|(uz C.extBut).trans<|uz u.extBut;rw[sz]at S8 Z;refine aC ⟨_,rfl,?_⟩;rw[sz];exact hQ F S8 Z z8 kk
def LL {Q:av->ar->Prop}{T0:au}{o:Obj}(D:ZipApart z TI TO i1 i2 l1 l2)(S:ZG c z TI TO i1 i2 l1 l2 (rawInt T0) bb a b k1 k2 xs ys s.heap)(hd:s.heap.get? T0=some o)(O:xs[k1]?=some x)(M:ys[k2]?=some y)
 (P:∀ h',ZG c z TI TO i1 i2 l1 l2 (rawInt T0) true a b (k1+1) (k2+1) xs ys h'->IsPair h' s.heap.objs.size x y->h'.objs.size=s.heap.objs.size+1->ZK z TO i1 i2 s.heap h'->Q ZV {s with heap:=h'}):
 wpAny Zw A ZT (λfin L=>∃ v,fin=.done (.ret v)/\Q v L) E s:=by
 refine fj (aC<|fj<|bh S.z rfl (x:=.bool false) rfl (fj<|bh S.z rfl (x:=.ref TI) rfl (fj<|bT S.ti rfl (fj<|E9 S.z hd λW e1 C=>?_))));have G:=S.mz D (bb':=true) e1 C.extBut;show wpAny _ _ (forIn (#[Value.ref i1,Value.ref i2]:Array av) (none,#[]) _>>=_) _ _ _;rw[<- Array.forIn_toList];refine fj ?_;rw[show(#[Value.ref i1,Value.ref i2]:Array av).toList=[.ref i1,.ref i2]from rfl,cI];refine fj (fj<|cg<|fj<|kq (s:={s with heap:=W}) G.n1 G.q1 O λU Z u=>aC<|aC ?_);have F:=G.m1 D Z u.extBut;dsimp only;rw[cI];refine fj (fj<|cg<|fj<|kq (s:={s with heap:=U}) F.n2 F.q2 M λj Y q=>aC<|aC ?_);have S3:=F.m2 D Y q.extBut;dsimp only;rw[List.forIn_nil];refine aC (fj<|wpAny_newTuple (aC ⟨_,rfl,?_⟩) (by show 2<=sizeLine;decide));have sz:j.objs.size=s.heap.objs.size:=q.1.trans<|u.1.trans C.1;have S4:=S3.push { cls:=.type "tuple",data:=.seq #[x,y]};have I:IsPair (j.push { cls:=.type "tuple",data:=.seq #[x,y]}) j.objs.size x y:=aL _ rfl;have J:(j.push { cls:=.type "tuple",data:=.seq #[x,y]}).objs.size=s.heap.objs.size+1:=by rw[bz,sz]
 have kk:ZK z TO i1 i2 s.heap (j.push { cls:=.type "tuple",data:=.seq #[x,y]}):=(((uz C.extBut).trans<|Fv u.extBut).trans<|LK q.extBut).trans λd o _ _ _ _ e=>iU _ e;rw[sz]at I ⊢
 exact P _ S4 I J kk
def ZZ (c:Bool)(z TI TO i1 i2 l1 l2:au)(k:Nat)(h:Heap):Prop:=∃ f bb a b,ni h z TI TO f bb/\(f=.none\/∃ d:au,f=rawInt d)/\IsPair h TI (.ref i1) (.ref i2)/\IsPair h TO a b/\lM c h i1 l1 k/\lM c h i2 l2 k
def ZZ.keep {k:Nat}{h h':Heap}(Z:ZZ c z TI TO i1 i2 l1 l2 k h)(kp:∀ b∈[z,TI,TO,i1,i2],∀ o,h.get? b=some o->h'.get? b=some o):ZZ c z TI TO i1 i2 l1 l2 k h':=by exact sh Z λf bb a b F C u q j d=>⟨f,bb,a,b,kp z ZN _ F,C,kp TI ZN _ u,kp TO ZN _ q,j.at λo e=>kp i1 ZN o e,d.at λo e=>kp i2 ZN o e⟩
def mP {Q:Fin->ar->Prop}(hh:A.handled=none)(D:ZipApart z TI TO i1 i2 l1 l2)(S:ZG c z TI TO i1 i2 l1 l2 f bb a b k1 k2 xs ys s.heap)(hf:f=.none\/∃ T0:au,f=rawInt T0/\s.heap.get? T0=none)(hx:xs[k1]?=none\/ys[k2]?=none)
 (Y:∀ h' e,ZK z TO i1 i2 s.heap h'->ZS->E (.ref e) {s with heap:=h'}):
 wpAny Zw A ZT Q E s:=by
 refine fj (aC<|fj<|bh S.z rfl (x:=.bool false) rfl (fj<|bh S.z rfl (x:=.ref TI) rfl (fj<|bT S.ti rfl (fj<|Eu S.z hf<|fj<|ew<|fj<|bh S.z rfl (x:=.ref TO) rfl (fj<|bS S.z ZN λg1 e1 J=>?_)))));have F:=S.mz D (f':=.ellipsis) (bb':=bb) e1 J.extBut;refine fj ?_;rw[show(#[Value.ref i1,Value.ref i2]:Array av).toList.zipIdx=[(.ref i1,0),(.ref i2,1)]from rfl,cI];cases ex:xs[k1]? with
 | none =>
  refine fj (fj<|wpAny_onRaise<|fj<|oO hh F.n1 F.q1 ex λg2 e I M=>eU M λL d u=>?_);have j:ni g2 z TI TO .ellipsis bb:=I _ _ D.i1z.symm F.z;have C:e≠z:=λq=>by subst q;rw[j]at d;cases d;simp at u
  exact bS j ZN λZ _ G=>Y Z e (((uz J.extBut).trans<|Fv I).trans<|uz G.extBut) ⟨L,G.extBut _ _ C d,u⟩
 | some x =>
  have hy:ys[k2]?=none:=by
   rcases hx with q|q
   .rw[ex]at q;cases q
   .exact q
  refine fj (fj<|wpAny_onRaise<|fj<|kq F.n1 F.q1 ex λg2 e2 I=>aC ?_);have P:=F.m1 D e2 I.extBut;refine fj (bT P.to rfl (fj<|wpAny_updateSeq_pair P.to λZ e3 G=>fj<|dc<|aC ?_));have O:=P.mo D (x:=x) (y:=b) e3 G.extBut;dsimp only;rw[cI];refine fj (fj<|wpAny_onRaise<|fj<|oO hh O.n2 O.q2 hy λg4 e W M=>eU M λL d u=>?_);have j:ni g4 z TI TO .ellipsis bb:=W _ _ D.i2z.symm O.z;have C:e≠z:=λq=>by subst q;rw[j]at d;cases d;simp at u
  exact bS j ZN λg5 _ U=>Y g5 e ((((((uz J.extBut).trans<|Fv I.extBut).trans<|Pk G.extBut).trans<|LK W)).trans<|uz U.extBut) ⟨L,U.extBut _ _ C d,u⟩
def x4 {Q:Fin->ar->Prop}{T0:au}{o:Obj}(hh:A.handled=none)(D:ZipApart z TI TO i1 i2 l1 l2)(S:ZG c z TI TO i1 i2 l1 l2 (rawInt T0) bb a b k1 k2 xs ys s.heap)(hd:s.heap.get? T0=some o)(M:xs[k1]?=none\/ys[k2]?=none)
 (G:∀ h' e,ZK z TO i1 i2 s.heap h'->ZS->E (.ref e) {s with heap:=h'}):
 wpAny Zw A ZT Q E s:=by
 refine fj (aC<|fj<|bh S.z rfl (x:=.bool false) rfl (fj<|bh S.z rfl (x:=.ref TI) rfl (fj<|bT S.ti rfl (fj<|E9 S.z hd λP e1 u=>?_))));have d:=S.mz D (bb':=true) e1 u.extBut;show wpAny _ _ (forIn (#[Value.ref i1,Value.ref i2]:Array av) (none,#[]) _>>=_) _ _ _;rw[<- Array.forIn_toList];refine fj ?_;rw[show(#[Value.ref i1,Value.ref i2]:Array av).toList=[.ref i1,.ref i2]from rfl,cI];cases ex:xs[k1]? with
 |none=>exact fj (fj<|cg<|fj<|oO hh d.n1 d.q1 ex λF e j C=>G F e ((uz u.extBut).trans<|Fv j) C)
 | some x =>
  have L:ys[k2]?=none:=by
   rcases M with q|q
   .rw[ex]at q;cases q
   .exact q
  refine fj (fj<|cg<|fj<|kq (s:={s with heap:=P}) d.n1 d.q1 ex λF U j=>aC<|aC ?_);have I:=d.m1 D U j.extBut;dsimp only;rw[cI];exact fj (fj<|cg<|fj<|oO (s:={s with heap:=F}) hh I.n2 I.q2 L λO e J C=>G O e (((uz u.extBut).trans<|Fv j.extBut).trans<|LK J) C)
def Dj {Q:av->ar->Prop}(D:ZipApart z TI TO i1 i2 l1 l2)(Z:ZZ c z TI TO i1 i2 l1 l2 k s.heap)(q1:jf c s.heap l1 xs)(q2:jf c s.heap l2 ys)(e:xs[k]?=some x)(d:ys[k]?=some y)
 (j:∀ h',ZZ c z TI TO i1 i2 l1 l2 (k+1) h'->jf c h' l1 xs->jf c h' l2 ys->IsPair h' s.heap.objs.size x y->h'.objs.size=s.heap.objs.size+1->ZK z TO i1 i2 s.heap h'->Q ZV {s with heap:=h'}):
 wpAny Zw A ZT (λfin J=>∃ v,fin=.done (.ret v)/\Q v J) E s:=by
 refine sh Z λf bb a b G L F C u q=>?_;rcases L with rfl|⟨I,rfl⟩
 .exact x5 D ⟨G,F,C,u,q,q1,q2⟩ aam e d λh' S=>j h' ⟨_,_,_,_,S.z,.inr ⟨_,rfl⟩,S.ti,S.to,S.n1,S.n2⟩ S.q1 S.q2
 .cases hd:s.heap.get? I with
  |none=>exact x5 D ⟨G,F,C,u,q,q1,q2⟩ (.inr ⟨I,rfl,hd⟩) e d λh' S=>j h' ⟨_,_,_,_,S.z,.inr ⟨_,rfl⟩,S.ti,S.to,S.n1,S.n2⟩ S.q1 S.q2
  |some o=>exact LL D ⟨G,F,C,u,q,q1,q2⟩ hd e d λh' S=>j h' ⟨_,_,_,_,S.z,.inr ⟨_,rfl⟩,S.ti,S.to,S.n1,S.n2⟩ S.q1 S.q2
def Dk {Q:Fin->ar->Prop}(hh:A.handled=none)(D:ZipApart z TI TO i1 i2 l1 l2)(Z:ZZ c z TI TO i1 i2 l1 l2 k s.heap)(q1:jf c s.heap l1 xs)(q2:jf c s.heap l2 ys)(d:xs[k]?=none\/ys[k]?=none)
 (j:∀ h' e,ZK z TO i1 i2 s.heap h'->ZS->E (.ref e) {s with heap:=h'}):
 wpAny Zw A ZT Q E s:=by
 refine sh Z λf bb a b G J F C u q=>?_;rcases J with rfl|⟨I,rfl⟩
 .exact mP hh D ⟨G,F,C,u,q,q1,q2⟩ aam d j
 .cases hd:s.heap.get? I with
  |none=>exact mP hh D ⟨G,F,C,u,q,q1,q2⟩ (.inr ⟨I,rfl,hd⟩) d j
  |some o=>exact x4 hh D ⟨G,F,C,u,q,q1,q2⟩ hd d j
def x3 {Q:aA av->ar->Prop}(hz:ni s.heap z TI TO f bb)(h:wpAny Zw A.in1 ZT (λfin s'=>∃ v,fin=.done (.ret v)/\Q (some v) s') (λe s'=>(∃ o,∃ a,e=.ref a/\s'.heap.get? a=some o/\o.cls=.type "StopIteration")/\Q none s') s):wpAny Zw A (pyNext<|.ref z) Q E s:=by have ty:s.TypeIs (.ref z) "zip":=⟨_,hz,rfl⟩;refine fj (wpAny_attempt<|bW ty du<|cy du ty F.entry_zip_next (b7 h (λfin s' C=>eU C λv e q=>⟨v,e,aC q⟩) λe s' ⟨⟨o,a,j,d,u⟩,q⟩=>?_)<|F.args_zip_next_1 _);subst j;exact fj (wpAny_isInstance ⟨o,d,u⟩ isSubtype_stop<|aC q)
end
def Bq (c:Bool)(H:Hp)(a:au)(xs:az V):Prop:=if c=true then H a=some (.tup xs)else H a=some (.lst xs)
def Bq.inj {c:Bool}{H:Hp}{a:au}{xs ys:az V}(h:Bq c H a xs)(h':Bq c H a ys):xs=ys:=by
 cases c with
 |true=>have e:H a=some (.tup xs):=h;have d:H a=some (.tup ys):=h';rw[e]at d;cases d;rfl
 |false=>have e:H a=some (.lst xs):=h;have d:H a=some (.lst ys):=h';rw[e]at d;cases d;rfl
def Bq.ex {c:Bool}{H:Hp}{a:au}{xs:az V}(h:Bq c H a xs):∃ o,H a=some o:=by
 cases c with
 |true=>exact⟨_,h⟩
 |false=>exact⟨_,h⟩
def Bq.val {X:Cx}{aa:az ZE}{σ:St}{H:Hp}{s:ar}{c:Bool}{a:au}{xs:az V}(I:Inv X aa σ H s)(h:Bq c H a xs):∃ d:az av,fF xs d/\jf c s.heap a d.toArray:=by
 cases c with
 | true =>obtain⟨_,d,r,p⟩:=(I.fO a _ h);exact⟨d,r,p⟩
 | false =>obtain⟨_,d,n,r,_,e⟩:=I.j9 h;exact⟨d,r,⟨_,e,rfl,n,rfl⟩⟩
def Yy (c:Bool)(a1 a2:au):It :=
 ⟨λi H=>∃ xs ys x y,Bq c H a1 xs/\Bq c H a2 ys/\xs[i]?=some x/\ys[i]?=some y,
  λi H v d=>∃ T x y,v=.ref T/\H T=none/\d=upd H T (.tup [x,y])/\(∀ xs,Bq c H a1 xs->xs[i]?=some x)/\(∀ ys,Bq c H a2 ys->ys[i]?=some y),
  λi H=>∃ xs ys,Bq c H a1 xs/\Bq c H a2 ys/\(xs.length<=i\/ys.length<=i)⟩
def Inv.wU {ch:az au}{h'':Heap}{x y:V}{u v:av}(I:Inv X aa σ H s)(fr:∀ b∈ch,kZ X aa H b)(j:∀ b o,b∉ch->s.heap.get? b=some o->h''.get? b=some o)(C:IsPair h'' s.heap.objs.size u v)(J:fH x u)(G:fH y v):
 Inv X aa σ (upd H s.heap.objs.size<|.tup [x,y]) {s with heap:=h''}:=by
 have hn:=I.fO.fresh<|aB _;refine I.step (g':=s.gens) (d':=s.drawn) (t':=s.toks) (h':=h'') (ch:=ch) (λb hb=>?_) (λb o _ _ hb e _=>j b o hb e) (λb o _ _ hb e _=>⟨o.slots,j b o hb e⟩)
  (λb o hb e n=>by rw[fB (aN<|ic e)];exact n) (λb o hb e=>⟨o,j b o hb e⟩)
  (λb zs e=>by rw[fB (fQ e hn)];exact e) (λb o u e=>by rw[fB (fQ e hn)];exact e) (λb Y e=>⟨#[],by rw[fB (fQ e hn),e];simp⟩) (λm hm=>?_) (λb o e=>?_) I.bare
 .exact p5 (fr b hb) λf0 Q Z P O M=>⟨P,Q,O,M⟩
 .exact Kg hm λo U W L rr=>⟨o,U,W,j _ o (λq=>(fr _ q).2.1 rfl) L,rr⟩
 .by_cases hb:b=s.heap.objs.size
  .subst hb;rw[eZ]at e;cases e;exact⟨by show 2<=sizeLine;decide,[u,v],.cons J<|.cons G .nil,⟨_,C,rfl,0,rfl⟩⟩
  .rw[fB hb]at e;refine(I.fO b o e).yb (λd F hd q=>j d F (λhm=>?_) q) (λd q=>by rw[fB (fQ q hn)];exact q) λd zs q=>by rw[fB (fQ q hn)];exact q
   have nn:=(fr d hm).1;rcases hd with rfl|hd
   .rw[nn]at e;cases e
   .rw[nn]at hd;cases hd
def Inv.zI {ch:az au}{h'':Heap}(I:Inv X aa σ H s)(fr:∀ b∈ch,kZ X aa H b)(j:∀ b o,b∉ch->s.heap.get? b=some o->h''.get? b=some o):Inv X aa σ H { s with heap:=h''}:=by
 refine I.step (g':=s.gens) (d':=s.drawn) (t':=s.toks) (h':=h'') (λb hb=>?_) (λb o _ _ hb e _=>j b o hb e) (λb o _ _ hb e _=>⟨o.slots,j b o hb e⟩)
  (λb o hb e n=>n) (λb o hb e=>⟨o,j b o hb e⟩) (λb zs e=>e) (λb o u e=>e) (λb Q e=>⟨#[],by rw[e];simp⟩) (λm hm=>?_) (λb o e=>?_) I.bare
 .exact p5 (fr b hb) λW M U L J G=>⟨L,M,J,G⟩
 .exact Kg hm λo O P F rr=>⟨o,O,P,j _ o (λq=>(fr _ q).2.1 rfl) F,rr⟩
 .refine(I.fO b o e).yb (λd C hd q=>j d C (λhm=>?_) q) (λd q=>q) λd zs q=>q;have nn:=(fr d hm).1;rcases hd with rfl|hd
  .rw[nn]at e;cases e
  .rw[nn]at hd;cases hd
def Hm {P:ak}{w:ao}{K:aj}{elts:az Expr}{kk:Nat}{kQ:Pos}{c:Bool}{z TI TO i1 i2 l1 l2:au}(D:ZipApart z TI TO i1 i2 l1 l2):
 Turn P w K aan (Yy c l1 l2) [z,TI,TO,i1,i2] z (λi h=>IsZip h z TI TO .none/\IsPair h TI (.ref i1) (.ref i2)/\(∃ a b,IsPair h TO a b)/\lM c h i1 l1 i/\lM c h i2 l2 i) where
 mem:=by simp
 obj:=λi h G b hb=>by
  obtain⟨C,j,⟨a,Y,d⟩,M,L⟩:=G;simp only[bq,a7,ck]at hb;rcases hb with rfl|rfl|rfl|rfl|rfl
  .exact⟨_,C,λv q=>by cases q⟩
  .exact⟨_,j,λv q=>by cases q⟩
  .exact⟨_,d,λv q=>by cases q⟩
  .exact M.data
  .exact L.data
 keep:=λi h h' G k=>by obtain⟨C,j,⟨a,Y,d⟩,M,L⟩:=G;exact⟨k z ZN _ C,k TI ZN _ j,⟨a,Y,k TO ZN _ d⟩,M.at λo e=>k i1 ZN o e,L.at λo e=>k i2 ZN o e⟩
 item:=by
  intro X hP hw hK hc i aa s σ H E I U G hg;subst hP hw hK;obtain⟨C,j,⟨a,Y,d⟩,M,L⟩:=G;refine fL hg λxs ys x y q1 q2 ex ey=>eU (q1.val I) λus r1 p1=>eU (q2.val I) λws Z p2=>eU (r1.get ex) λu eu ru=>eU (Z.get ey) λv ev rv=>x3 C (x5 D ⟨C,j,d,M,L,p1,p2⟩ aam (by simpa using eu) (by simpa using ev) λh' S' hT _ hk=>⟨_,rfl,wpAny_letOwnedTupleGo_zip S'.z λJ e'' O=>?_⟩);have F:=S'.mz D (f':=.none) (bb':=false) e'' O.extBut;have Tz:s.heap.objs.size≠z:=bD<|ic C;have hT':IsPair J s.heap.objs.size u v:=O.extBut _ _ Tz hT;have kp:ZK z TO i1 i2 s.heap J:=hk.trans<|uz O.extBut;have hn:H s.heap.objs.size=none:=I.fO.fresh<|aB _;have fr:∀ b∈[z,TO,i1,i2],kZ X aa H b:=λb hb=>U b (by
   simp only[bq,a7,ck]at hb ⊢
   rcases hb with q|q|q|q<;>simp[q])
  have Q:∀ b o,b∉[z,TO,i1,i2]->s.heap.get? b=some o->J.get? b=some o:=λb o hb e=>kp b o (λq=>hb<|by simp[q]) (λq=>hb<|by simp[q]) (λq=>hb<|by simp[q]) (λq=>hb<|by simp[q]) e;have I1:Inv X aa σ (upd H s.heap.objs.size<|.tup [x,y]) {s with heap:=J}:=I.wU fr Q hT' ru rv;refine⟨.ref s.heap.objs.size,_,I1,rfl,⟨_,x,y,rfl,hn,rfl,λzs q=>by rw[q.inj q1];exact ex,λzs q=>by rw[q.inj q2];exact ey⟩,⟨F.z,F.ti,⟨_,_,F.to⟩,F.n1,F.n2⟩,λb hb=>?_⟩;obtain⟨o,e,_⟩:∃ o,s.heap.get? b=some o/\True:=by
   simp only[bq,a7,ck]at hb;rcases hb with rfl|rfl|rfl|rfl|rfl
   .exact⟨_,C,trivial⟩
   .exact⟨_,j,trivial⟩
   .exact⟨_,d,trivial⟩
   .obtain⟨o,e⟩:=M.ex;exact⟨o,e,trivial⟩
   .obtain⟨o,e⟩:=L.ex;exact⟨o,e,trivial⟩
  rw[fB (aN<|ic e)];exact(U b hb).1
 done:=by
  intro X hP hw hK hc i aa s σ H E I U G hg;subst hP hw hK;obtain⟨C,j,⟨a,Y,d⟩,M,L⟩:=G;refine fw hg λxs ys q1 q2 hx=>eU (q1.val I) λus r1 p1=>eU (q2.val I) λws Z p2=>?_;have hl:=r1.length;have SH:=Z.length;refine x3 C (mP aaQ D ⟨C,j,d,M,L,p1,p2⟩ aam (by simp;lia) λh' e hk h_=>jj h_ λo he=>⟨⟨o,e,rfl,he⟩,rfl,?_⟩);have fr:∀ b∈[z,TO,i1,i2],kZ X aa H b:=λb hb=>U b (by
   simp only[bq,a7,ck]at hb ⊢
   rcases hb with q|q|q|q<;>simp[q])
  have Q:∀ b o,b∉[z,TO,i1,i2]->s.heap.get? b=some o->h'.get? b=some o:=λb o hb e=>hk b o (λq=>hb<|by simp[q]) (λq=>hb<|by simp[q]) (λq=>hb<|by simp[q]) (λq=>hb<|by simp[q]) e;exact I.zI fr Q
 self:=λ_ _ _ _ _ G h=>cW G.1 h
def pQ (a:au):Obj:={ cls:=.type "tuple_iterator",data:=.fields #[.ref a,.int 0 0]}
def zH (l1 l2:au)(h:Heap):Heap :=
 ((((h.push<|pQ l1).push<|pQ l2).push { cls:=.type "tuple",data:=.seq #[.ref h.objs.size,.ref (h.push<|pQ l1).objs.size]}).push { cls:=.type "tuple",data:=.seq #[.none,.none]}).push
  { cls:=.type "zip",data:=.fields #[.none,.bool false,.bool false,.ref ((h.push<|pQ l1).push<|pQ l2).objs.size,.ref (((h.push<|pQ l1).push<|pQ l2).push { cls:=.type "tuple",data:=.seq #[.ref h.objs.size,.ref (h.push<|pQ l1).objs.size]}).objs.size]}
def Hb (l1 l2:au)(xs ys:Array av):Meets (Builtin.«zip.__new__» ⟨[.type "zip",.ref l1,.ref l2],[]⟩) (λ_ R s=>s.heap.IsTuple l1 xs/\s.heap.IsTuple l2 ys /\
 R (.ok<|.ret<|.ref<|s.heap.objs.size+4) {s with heap:=zH l1 l2 s.heap}):=
 .of_wp λprog w A R s h=>by
  obtain⟨j,g,d,tk,os⟩:=s;refine kc h λu q h=>?_;have y:=sub_zip;have F:=u;have E:Heap.IsTuple (Shared.heap ⟨j.push { cls:=.type "tuple_iterator",data:=.fields #[.ref l1,.int 0 0]},g,d,tk,os⟩) l2 ys:=Heap.IsTuple.push q _;wp_walk using wpAny_pyIter_tuple F,wpAny_pyIter_tuple E;refine⟨_,rfl,?_⟩;have e:j.objs.size+4=((((j.push<|pQ l1).push<|pQ l2).push { cls:=.type "tuple",data:=.seq #[.ref j.objs.size,.ref (j.push<|pQ l1).objs.size]}).push { cls:=.type "tuple",data:=.seq #[.none,.none]}).objs.size:=by simp only[bz]
  have C:R (.ok<|.ret<|.ref<|j.objs.size+4) _:=h;rw[e]at C;exact C
def uB {prog:ak}{w:ao}{A:Around}{E:av->ar->Prop}{s:ar}{c:Bool}{l1 l2:au}{xs ys:Array av}{Q:av->ar->Prop}(p1:jf c s.heap l1 xs)(y:jf c s.heap l2 ys)
 (h:∀ h',IsZip h' (s.heap.objs.size+4) (s.heap.objs.size+2) (s.heap.objs.size+3) .none->IsPair h' (s.heap.objs.size+2) ZV (.ref<|s.heap.objs.size+1)->IsPair h' (s.heap.objs.size+3) .none .none ->
   lM c h' s.heap.objs.size l1 0->lM c h' Zy l2 0->(∀ b o,s.heap.get? b=some o->h'.get? b=some o)->Q (.ref<|s.heap.objs.size+4) {s with heap:=h'}):
 wpAny Zw A (call (.type "zip") [.ref l1,.ref l2]) Q E s:=by
 cases c with
 |false=>exact call_zip_2 p1 y λh' a1 a2 a3 P O _ M=>h h' a1 a2 a3 P O M
 | true =>
  refine callType_new F.called_zip rfl (F.typeCall_zip_2 _ _) (F.newCall_zip_2 _ _) (λobj=>F.args_object_init_3 obj _ _) F.entry_zip_new (Hb l1 l2 xs ys) ⟨p1,y,?_⟩;have q:(s.heap.push<|pQ l1).objs.size=s.heap.objs.size+1:=bz ..
  have j:((s.heap.push<|pQ l1).push<|pQ l2).objs.size=s.heap.objs.size+2:=by rw[bz,q]
  have d:(((s.heap.push<|pQ l1).push<|pQ l2).push { cls:=.type "tuple",data:=.seq #[.ref s.heap.objs.size,.ref (s.heap.push<|pQ l1).objs.size]}).objs.size=s.heap.objs.size+3:=by rw[bz,j]
  have J:((((s.heap.push<|pQ l1).push<|pQ l2).push { cls:=.type "tuple",data:=.seq #[.ref s.heap.objs.size,.ref (s.heap.push<|pQ l1).objs.size]}).push { cls:=.type "tuple",data:=.seq #[.none,.none]}).objs.size=s.heap.objs.size+4:=by rw[bz,d]
  have L:(zH l1 l2 s.heap).get? s.heap.objs.size=some (pQ l1):=iU _<|iU _<|iU _<|iU _<|aL _ rfl;have I:(zH l1 l2 s.heap).get? (s.heap.push<|pQ l1).objs.size=some (pQ l2):=iU _<|iU _<|iU _<|aL _ rfl;have G:(zH l1 l2 s.heap).get? ((s.heap.push<|pQ l1).push<|pQ l2).objs.size=some _:=iU _<|iU _<|aL _ rfl;have C:(zH l1 l2 s.heap).get? (((s.heap.push<|pQ l1).push<|pQ l2).push { cls:=.type "tuple",data:=.seq #[.ref s.heap.objs.size,.ref (s.heap.push<|pQ l1).objs.size]}).objs.size=some _:=iU _<|aL _ rfl;have u:(zH l1 l2 s.heap).get? ((((s.heap.push<|pQ l1).push<|pQ l2).push { cls:=.type "tuple",data:=.seq #[.ref s.heap.objs.size,.ref (s.heap.push<|pQ l1).objs.size]}).push { cls:=.type "tuple",data:=.seq #[.none,.none]}).objs.size=some _:=aL _ rfl;rw[q]at I;rw[j,q]at G;rw[d]at C;rw[J,j,d]at u;exact⟨⟨_,u,rfl⟩,h _ u G C ⟨_,L,rfl,rfl⟩ ⟨_,I,rfl,rfl⟩ λb o e=>iU _<|iU _<|iU _<|iU _<|iU _ e⟩
def Xg (j:TA):TI:=λσ H R=>j σ H λe d=>match e with
 |[.ref a,.ref b]=>∃(c:Bool) (xs ys:az V),Bq c d a xs/\Bq c d b ys/\R (Yy c a b) d
 |_=>False
def Ip {elts:az Expr}{kk:Nat}{kQ:Pos}{a b:Expr}{J:TA}{p pos:Pos}(U:Gl X "zip")(hm:X.mg "zip"=none)(ha:PA X [a,b] J)(hs:starEach [a,b] X.env=[(false,eval a X.env),(false,eval b X.env)]:=by rfl)(yJ:starEach [b] X.env=[(false,eval b X.env)]:=by rfl):
 PI X aan (.Call (.Name "zip" p) [a,b] [] pos) (Xg J):=by
 intro d s σ H R I h;refine Call_ (ku I U hm boot_zip<|bA (gc (ha pos d s σ H _ I h) λP u MW=>?_) (by rw[hs,yJ]) (by rw[yJ];rfl));obtain⟨vs,G,j,L,q1⟩:=MW;try dsimp only at q1
 split at q1
 .rename_i l1 l2;refine p4 q1 λc xs ys q1 q2 q=>fw L.two λu1 u2 C e1 Y=>?_;subst C;subst e1;subst Y;refine eU (q1.val j) λP L p1=>eU (q2.val j) λws r2 Q=>?_;have lt:∀ {l:au} {o:HO},G l=some o->l<u.heap.objs.size:=λe=>j.fO.lt e;refine jj q1.ex λo1 w1=>jj q2.ex λo2 O=>uB p1 Q λW M F E n1 n2 kp=>cW M ?_;have Z:Inv X d σ G { u with heap:=W}:=j.af (t':=u.toks) kp;refine⟨u.heap.objs.size+4,_,_,_,G,rfl,Z,Hm (c:=c)<|zipApart_new (lt w1)<|lt O,⟨M,F,⟨_,_,E⟩,n1,n2⟩,λb hb=>?_,q⟩;have y:u.heap.objs.size<=b:=by
   simp at hb;rcases hb with e|e|e|e|e<;>subst e
   .exact aU ..
   .exact aU ..
   .exact aU ..
   .exact aB _
   .exact aU ..
  exact j.wz y (j.fO.fresh y)
 .exact q1.elim
def z5 (g:az Bool->Bool):az V->Hp->VK->Prop:=λd H Q=>match d with
 |[.ref p]=>∃ bs:az Bool,H p=some (.lst<|bs.map V.bl)/\Q (.bl<|g bs) H
 |_=>False
def range_all (bs:az Bool):(List.range bs.length).all (λi=>bs.getD i true)=bs.all id:=by
 rw[c8,cY,cY];constructor
 .intro h b hb;obtain⟨i,d,e⟩:=bj hb;have:=h i (by simpa using d);rw[aP,iO d,e]at this;exact this
 .intro h i d;have j:i<bs.length:=by simpa using d
  rw[aP,iO j];exact h _ (bQ _)
def NX (hc:X.fU=true):h9 X (.builtin "all") (z5 λbs=>bs.all id):=by
 intro C s σ H vs us Q I W h;delta z5 at h;split at h
 .rename_i p;refine eU h λbs hp q=>eU W.one λu J Y=>?_;subst J;subst Y;obtain⟨z,d,n,r,hl,e⟩:=I.j9 hp;have E:s.heap.IsList p d.toArray:=⟨_,e,rfl,n,rfl⟩;have lt:p≠s.heap.objs.size:=aN<|ic e;refine call_all_walk (c9 E ⟨_,_,_,_,_,_,λi=>bs.getD i true,rfl,Walks.list (A:=X.A.in1) aaQ s.heap.objs.size p lt d.toArray,⟨⟨_,aL _ rfl,rfl,rfl⟩,E.push _⟩,?_,λh' tk kp=>?_⟩)
  .intro i v P Q' E' Z hq;have F:d[i]?=some v:=by simpa using Z
   have hb:∃ b,bs[i]?=some b/\v=.bool b:=by
    cases j:(bs.map V.bl)[i]? with
    |none=>have:=r.none_of j;rw[F]at this;cases this
    | some y =>
     refine eU (r.get j) λu L U=>?_;rw[F]at L;cases L;rw[mD]at j;cases M:bs[i]? with
     |none=>rw[M]at j;cases j
     |some b=>rw[M]at j;cases j;exact⟨b,rfl,U⟩
   obtain⟨b,j,rfl⟩:=hb;have e3:bs.getD i true=b:=by rw[aP,j];rfl
   have G:Q' (bs.getD i true) P:=hq;rw[e3]at G;exact cF G
  .have I2:Inv X C σ H { s with heap:=h',toks:=tk}:=I.af λb o O=>kp b o (by simpa using aN<|ic O)<|iU _ O;have len:d.toArray.size=bs.length:=by rw[aI,<- hl,fI]
   rw[len,range_all];exact⟨.bl _,H,I2,rfl,q⟩
 .cases h
def TJ:R2:=λx y H Q=>match x,y with
 |.fX,.fX=>Q (.bl true) H
 |.int i,.int j=>Q (.bl<|decide (i=j)) H
 |.str i,.str j=>Q (.bl<|decide (i=j)) H
 |.bl i,.bl j=>Q (.bl<|decide (i=j)) H
 |_,_=>False
def Y8:jG X (compareOp .Eq) TJ:=OH.imp λx y H Q q=>by
 delta TJ at q;split at q
 .exact⟨rfl,by simpa using q⟩
 .exact⟨rfl,by rwa [dI]⟩
 .exact⟨rfl,dS▸q⟩
 .exact⟨rfl,dB▸q⟩
 .exact q.elim
def EY {c:Bool}{a1 a2:au}{xs zs:az V}(hn:xs.length=zs.length)(Pv:Nat->az V->Hp->Prop)(h0:Pv 0 [] H)(hl:∀ i ys H,Pv i ys H->Bq c H a1 xs/\Bq c H a2 zs)
 (hs:∀ i x y ys H T,i<xs.length->xs[i]?=some x->zs[i]?=some y->Pv i ys H->H T=none->g (.ref T) aaW (upd H T<|.tup [x,y]) λd L=>Ext aaW d/\tt d L λb C=>if b=true then te d C (Zr xs.length i Pv ys)else CSk xs.length i Pv ys C)
 (hd:∀ ys H,Pv xs.length ys H->fin ys H):Hi js g tt te (Yy c a1 a2) σ H fin:=by
 refine⟨λi m ys H=>m=xs.length - i/\i<=xs.length/\Pv i ys H,⟨xs.length,rfl,bx _,h0⟩,λi m ys H F=>kc F λj M p=>?_⟩;subst j;refine gv (hl i ys H p) λq1 q2=>?_;by_cases q:i<xs.length
 .refine .inr ⟨⟨xs,zs,xs[i],zs[i]' Zs,q1,q2,by simp[q],by simp[show i<zs.length by lia]⟩,λv O E=>?_⟩;refine wB E λT x y j G u J I=>?_;subst j;subst u;exact hs i x y ys H T q (J xs q1) (I zs q2) p G
 .have e:i=xs.length:=by lia
  subst e
  exact .inl ⟨⟨xs,zs,q1,q2,.inl<|aB _⟩,hd ys H p⟩
inductive DV where
 |fX|bl (b:Bool)|int (i:Int)|str (z:Str)|lst (ds:List DV)|tup (ds:List DV)
mutual
def dep:DV->Nat
 |.lst ds=>wD ds+1
 |.tup ds=>wD ds+1
 |_=>0
def wD:List DV->Nat
 |[]=>0
 |d::ds=>max (dep d) (wD ds)
end
mutual
def Lz:DV->Nat
 |.lst ds=>max ds.length (wu ds)
 |.tup ds=>max ds.length (wu ds)
 |_=>0
def wu:List DV->Nat
 |[]=>0
 |d::ds=>max (Lz d) (wu ds)
end
mutual
def Is (H:Hp):DV->V->Prop
 |.fX,v=>v=.fX
 |.bl b,v=>v=.bl b
 |.int i,v=>v=.int i
 |.str z,v=>v=.str z
 |.lst ds,v=>∃ p vs,v=.ref p/\H p=some (.lst vs)/\k9 H ds vs
 |.tup ds,v=>∃ p vs,v=.ref p/\H p=some (.tup vs)/\k9 H ds vs
def k9 (H:Hp):List DV->List V->Prop
 |[],vs=>vs=[]
 |d::ds,vs=>∃ v r,vs=v::r/\Is H d v/\k9 H ds r
end
mutual
theorem Is.mono {H H':Hp}(s:gm H H'):∀(d:DV) (v:V),Is H d v->Is H' d v
 |.fX,_,h=>h
 |.bl _,_,h=>h
 |.int _,_,h=>h
 |.str _,_,h=>h
 | .lst ds,_,h=>by obtain⟨p,vs,e,hp,q⟩:=h;exact⟨p,vs,e,s _ _ hp,k9.mono s ds vs q⟩
 | .tup ds,_,h=>by obtain⟨p,vs,e,hp,q⟩:=h;exact⟨p,vs,e,s _ _ hp,k9.mono s ds vs q⟩
theorem k9.mono {H H':Hp}(s:gm H H'):∀(ds:List DV) (vs:List V),k9 H ds vs->k9 H' ds vs
 |[],_,h=>h
 | d::ds,_,h=>by obtain⟨v,r,e,h1,h2⟩:=h;exact⟨v,r,e,Is.mono s d v h1,k9.mono s ds r h2⟩
end
theorem k9.len {H:Hp}:∀ {ds:az DV} {vs:az V},k9 H ds vs->vs.length=ds.length
 |[],_,h=>by rw[show _=[]from h];rfl
 |d::ds,_,h=>by obtain⟨v,r,rfl,_,e⟩:=h;rw[aY,aY,k9.len e]
theorem k9.get {H:Hp}:∀ {ds:az DV} {vs:az V} {i:Nat} {v:V},k9 H ds vs->vs[i]?=some v->∃ d,ds[i]?=some d/\Is H d v
 |[],_,i,v,h,e=>by rw[show _=[]from h]at e;contradiction
 | d::ds,_,0,v,h,e=>by obtain⟨y,r,rfl,u,q⟩:=h;simp at e;subst e;exact⟨d,rfl,u⟩
 | d::ds,_,i+1,v,h,e=>by refine fw h λy r j u q=>?_;subst j;exact eU (k9.get q<|by simpa using e) λE e1 C=>⟨E,by simpa using e1,C⟩
theorem vM:∀ {ds:az DV} {i:Nat} {d:DV},ds[i]?=some d->dep d<=wD ds
 |d::ds,0,d',h=>by simp at h;subst h;unfold wD;lia
 |d::ds,i+1,d',h=>by have:=vM (i:=i) (by simpa using h);unfold wD;lia
theorem uD:∀ {ds:az DV} {i:Nat} {d:DV},ds[i]?=some d->Lz d<=wu ds
 |d::ds,0,d',h=>by simp at h;subst h;unfold wu;lia
 |d::ds,i+1,d',h=>by have:=uD (i:=i) (by simpa using h);unfold wu;lia
def rR (n:Nat):Sp:=λj H Q _=>match j with
 |[x,y]=>∃ d,dep d<=n/\Lz d<sizeLine/\Is H d x/\Is H d y/\∀ e,gm H e->Q (.bl true) e
 |_=>False
def WO:Sp:=λ_ _ _ _=>False
def spS:Nat->Sp
 |0=>WO
 |n+1=>rR n
theorem gm.upd {H:Hp}{p:au}{o:HO}(h:H p=none):gm H (L2.upd H p o):=λb u e=>by rwa [fB (fQ e h)]
def zb {α:Type}{l:az α}{n:Int}(h:0<=n):ig l none (some n)=l.take n.toNat:=by
 obtain⟨m,rfl⟩:∃ m:Nat,n=(m:Int):=⟨n.toNat,by lia⟩;delta ig;rw[HT.jN,HT.oa,List.drop_zero,Nat.sub_zero,BA];by_cases hm:m<=l.length
 .rw[cc hm]
 .rw[dP Zs,List.take_length,br Zs]
def sv {α:Type}{l:az α}{n:Int}(h:0<=n):ig l (some n) none=l.drop n.toNat:=by
 obtain⟨m,rfl⟩:∃ m:Nat,n=(m:Int):=⟨n.toNat,by lia⟩;delta ig;rw[HT.jN,HT.oa,BA];by_cases hm:m<=l.length
 .rw[cc hm,br (by rw[bL];lia)]
 .rw[dP Zs,bI aaa,bI Zs,List.take_nil]
def zZ:V->az V->Hp->VK->Prop:=λx e H Q=>∃ l y d,x=.ref l/\e=[y]/\H l=some (.lst d)/\d.length<sizeLine/\Q .fX (upd H l<|.lst<|d++[y])
def oV:zy X "list.append" zZ:=zy.imp F3 λx u H Q q=>by refine wB q λl y j e d a b c=>?_;subst e;subst d;exact⟨_,j,_,rfl,rfl,a,b,c⟩
def ux (H:Hp):az V->az (Nat×Nat)->Prop:=Paired λv r=>∃ p,v=.ref p/\H p=some (.tup [.int r.1,.int r.2])
def Ld (H H':Hp):Prop:=∀ p d,H p=some (.tup d)->H' p=some (.tup d)
def Ld.trans (a:Ld H H1)(b:Ld H1 H2):Ld H H2:=λp d h=>b p d (a p d h)
theorem ux.mono (t:Ld H H'):∀ {vs:az V} {rs:az (Nat×Nat)},ux H vs rs->ux H' vs rs
 |_,_,.nil=>.nil
 |_,_,.cons ⟨p,e,h⟩ r=>.cons ⟨p,e,t _ _ h⟩ (ux.mono t r)
def rr (l:az Nat):Nat->Nat×az (Nat×Nat)
 |0=>(0,[])
 |i+1=>if l[i]?=some 120 then(i+1,if(rr l i).1<i then(rr l i).2++[((rr l i).1,i)]else(rr l i).2)else rr l i
theorem Fb (ns:az Int):∀ k,k<ns.length->argBest (λi j=>decide (ns.getD j 0<ns.getD i 0)) k<=k/\∀ j,j<=k->ns.getD j 0<=ns.getD (argBest (λi j=>decide (ns.getD j 0<ns.getD i 0)) k) 0
 |0,_=>⟨aB _,λj d=>by rw[show j=0 by lia];exact cp _⟩
 | k+1,h=>by
  let ⟨h1,h2⟩:=Fb ns k<|df ‹_›;unfold argBest;by_cases hb:ns.getD (argBest (λi j=>decide (ns.getD j 0<ns.getD i 0)) k) 0<ns.getD (k+1) 0
  .rw[aF (aH hb)];refine⟨aB _,λj d=>?_⟩;by_cases e:j=k+1
   .rw[e];exact cp _
   .exact cH (h2 j<|by lia) (dU hb)
  .rw[aD (by simp only[cu];exact hb)];refine⟨by lia,λj d=>?_⟩;by_cases e:j=k+1
   .lia
   .exact h2 j Zs
def Ie:az V->Hp->VK->Prop:=λd H Q=>match d with
 |[.ref p]=>∃ ns:az Int,H p=some (.lst<|ns.map V.int)/\ns≠[]/\∀ m,m∈ns->(∀ x∈ns,x<=m)->Q (.int m) H
 |_=>False
def MB (hc:X.fU=true):h9 X (.builtin "max") Ie:=by
 intro F s σ H vs us Q I rv h;delta Ie at h;split at h
 .rename_i p;obtain⟨ns,hp,P,q⟩:=h;refine eU rv.one λu C ru=>?_;subst C;subst ru;obtain⟨z,d,n,r,hl,e⟩:=I.j9 hp;have G:s.heap.IsList p d.toArray:=⟨_,e,rfl,n,rfl⟩;have lt:=aN<|ic e;have len:d.toArray.size=ns.length:=by rw[aI,<- hl,fI]
  have O:0<ns.length:=List.length_pos_iff.mpr P;have val:∀ i v,d.toArray[i]?=some v->∃ t,i<ns.length/\v=.int (ns.getD i 0) t:=λi v L=>by
   have J:d[i]?=some v:=by simpa using L
   cases E:abi[i]? with
   |none=>have:=r.none_of E;rw[J]at this;cases this
   | some y =>
    refine eU (r.get E) λu Y ry=>?_;rw[J]at Y;cases Y;rw[mD]at E;cases M:ns[i]? with
    |none=>rw[M]at E;cases E
    | some b =>rw[M]at E;cases E;obtain⟨t,rfl⟩:=ry;exact⟨t,(jA M).1,by rw[aP,M];rfl⟩
  refine call_max_walk (c9 G ⟨_,_,_,_,_,_,λi j=>decide (ns.getD j 0<ns.getD i 0),rfl,Walks.list (A:=X.A.in1) aaQ s.heap.objs.size p lt d.toArray,⟨⟨_,aL _ rfl,rfl,rfl⟩,G.push _⟩,?_,by rw[len];exact O,?_,λv h' tk L kp=>?_⟩)
  .intro b hb;simp at hb;rw[bz];rcases hb with rfl|rfl
   .exact bZ _
   .exact bw (ic e)
  .intro i j vi vj s' Q' E' hi W hq;obtain⟨t,_,rfl⟩:=val i vi hi;obtain⟨t',_,rfl⟩:=val j vj W;exact gt_int hq
  .have I2:Inv X F σ H { s with heap:=h',toks:=tk}:=I.af λb o Z=>kp b o (by simpa using aN<|ic Z)<|iU _ Z;rw[len]at L;refine eU (val _ v L) λt U C=>?_;subst C;obtain⟨b1,b2⟩:=Fb ns (ns.length - 1) Zs;refine⟨.int _,H,I2,⟨t,rfl⟩,q _ ?_ λx hx=>?_⟩
   .rw[aP,iO U];exact bQ _
   .obtain⟨j,W,ej⟩:=bj hx;have:=b2 j Zs;rwa [aP,iO W,ej]at this
 .cases h
def Ez (l:az Nat)(c i:Nat):Int->Prop:=λr=>(r = -1/\∀ v,i<=v->l[v]?≠some c)\/∃ k:Nat,r=(k:Int)/\i<=k/\l[k]?=some c/\∀ v,i<=v->v<k->l[v]?≠some c
def Ii:V->az V->Hp->VK->Prop:=λx d H Q=>∃(z:Str) (c:Nat) (i:Int),x=.str z/\d=[.str ⟨#[c]⟩,.int i]/\0<=i/\i<=z.length/\∀ r,Ez z.cps.toList c i.toNat r->Q (.int r) H
def UL:zy X "str.find" Ii:=by
 intro E s Y H x Z v us Q I G J h
 .refine wB h λz c i j C h0 W q=>?_;subst j;subst C;obtain⟨t,rfl⟩:=G;refine fw J.two λu1 u2 j M L=>?_;subst j;obtain⟨t1,rfl⟩:=M;obtain⟨t2,rfl⟩:=L;refine SC.find3 ⟨.int _,H,I.tok _,⟨_,rfl⟩,q _ ?_⟩;have fi:fromIndex z.length i=i.toNat:=by delta fromIndex;lia
  have F:∀ v,z.cps.getD v 0≠c\/¬ v<z.length->z.cps.toList[v]?≠some c:=λv u e=>by
   have d:=(jA e).1;have y:v<z.length:=by rwa [Ui]
   rcases u with u|u
   .exact u (by rw[iO d]at e;injection e with e;rw[<- e];simp[Array.getD,show v<z.cps.size by simpa using d])
   .exact u y
  rcases StrLaws.find3_spec z c i with⟨e,hn⟩|⟨k,e,k1,k2,P,O⟩
  .refine .inl ⟨e,λv u=>F v ?_⟩;by_cases hl:v<z.length
   .exact .inl (hn v Zs hl)
   .exact .inr hl
  .refine .inr ⟨k,e,by lia,?_,λv W U=>F v<|.inl<|O v Zs U⟩;have d:k<z.cps.toList.length:=by rwa [<- Ui]
   rw[iO d,<- P];simp[Array.getD,show k<z.cps.size by simpa using d]
def Sl (l:az Nat)(e t:Nat):Prop:=e<=t/\t<=l.length/\(∀ v,e<=v->v<t->l[v]?=some 111)/\(t=l.length\/l[t]?=some 120)
def Sl.uniq (a:Sl l e t)(b:Sl l e u):t=u:=by
 refine CN a λa1 a2 a3 C=>CN b λy b2 j d=>?_;rcases Nat.lt_trichotomy t u with h|h|h
 .rcases C with q | q
  .lia
  .have:=j t a1 h;rw[q]at this;cases this
 .exact h
 .rcases d with q | q
  .lia
  .have:=a3 u y h;rw[q]at this;cases this
def OF (d:OX l)(h:v<l.length)(n:l[v]?≠some 120):l[v]?=some 111:=by
 have e:=iO h;rcases d _ (bQ h)with q|q
 .rw[e,q]
 .exact absurd (by rw[e,q]) n
def Ez.cl {l:az Nat}{e:Nat}{r:Int}(d:OX l)(he:e<=l.length)(h:Ez l 120 e r):(r<0->Sl l e l.length)/\(¬ r<0->Sl l e r.toNat/\r=(r.toNat:Int)):=by
 rcases h with⟨rfl,hn⟩|⟨k,rfl,y,j,u⟩
 .exact⟨λ_=>⟨he,aB _,λv a b=>OF d b<|hn v a,.inl rfl⟩,λq=>absurd Zu q⟩
 .have hk:=(jA j).1;exact⟨λq=>absurd q<|by lia,λ_=>⟨⟨‹_›,(df ‹_›),λv a b=>OF d Zs<|u v a<|by lia,.inr<|j⟩,by rw[BA]⟩⟩
def VP (es:az Int)(l:az Nat)(e:Int)(m:Int):Prop:=∃ t,Sl l e.toNat t/\m∈es/\m<=(t:Int)/\∀ x∈es,x<=(t:Int)->x<=m
theorem VP.uniq {es:az Int}{l:az Nat}{e m k:Int}(a:VP es l e m)(b:VP es l e k):m=k:=by refine si a λt a1 a2 a3 y=>si b λu q b2 j d=>?_;cases a1.uniq q;exact Int.le_antisymm (d m a2 a3) (y k b2 j)
def ae (n:Int)(cs:az Int):az Int:=0::cs++[n]
inductive D where
 |fX|bl (b:Bool)|int (i:Int)|str (z:Str)|lst (ds:List D)|tup (ds:List D)|gP (ks:List Key) (ds:List D)|mr (k:Nat)|obj (C:au) (ns:List Str) (ds:List D)|ki (ks:List Key) (ds:List D)|fn (a:au)
inductive MO where
 |box|lst (ds:List D)|gP (ks:List Key) (ds:List D)|mF (o:Obj) (fM:List abg) (ds:List D)|ins (C:au) (ns:List Str) (ds:List D)|NB (ks:List (List Key)) (ds:List D)|gx (φ:List au) (H:Hp)|exc (c:av)
inductive Pq where
 |v|i|s|l|m|b|t
def G4:az Pq->Type
 |[]=>Prop
 |.v::ps=>D->G4 ps
 |.i::ps=>Int->G4 ps
 |.s::ps=>Str->G4 ps
 |.m::ps=>Nat->G4 ps
 |.b::ps=>Bool->G4 ps
 |.l::ps|.t::ps=>az D->G4 ps
def dM:(ps:az Pq)->az D->G4 ps->Prop
 |[],[],k=>k
 |.v::ps,n::ds,k|.i::ps,.int n::ds,k|.s::ps,.str n::ds,k|.l::ps,.lst n::ds,k|.m::ps,.mr n::ds,k|.b::ps,.bl n::ds,k|.t::ps,.tup n::ds,k=>dM ps ds (k n)
 |_,_,_=>False
def LG:(ps:az Pq)->G4 ps->(az D->Prop)->Prop
 |[],k,E=>E []/\k
 |.v::ps,k,E=>∃ x:D,LG ps (k x) λl=>E (x::l)
 |.i::ps,k,E=>∃ x:Int,LG ps (k x) λl=>E (.int x::l)
 |.s::ps,k,E=>∃ x:Str,LG ps (k x) λl=>E (.str x::l)
 |.l::ps,k,E=>∃ x:az D,LG ps (k x) λl=>E (.lst x::l)
 |.m::ps,k,E=>∃ x:Nat,LG ps (k x) λl=>E (.mr x::l)
 |.b::ps,k,E=>∃ x:Bool,LG ps (k x) λl=>E (.bl x::l)
 |.t::ps,k,E=>∃ x:az D,LG ps (k x) λl=>E (.tup x::l)
theorem Az:∀ {ps:az Pq} {k:G4 ps} {E d:az D->Prop},(∀ l,E l->d l)->LG ps k E->LG ps k d
 |[],k,E,d,h,x=>⟨h _ x.1,x.2⟩
 |.v::ps,k,E,d,h,⟨x,y⟩|.i::ps,k,E,d,h,⟨x,y⟩|.s::ps,k,E,d,h,⟨x,y⟩|.l::ps,k,E,d,h,⟨x,y⟩|.m::ps,k,E,d,h,⟨x,y⟩|.b::ps,k,E,d,h,⟨x,y⟩|.t::ps,k,E,d,h,⟨x,y⟩=>⟨x,Az (λl=>h _) y⟩
theorem dJ:∀ {ps:az Pq} {ds:az D} {k:G4 ps},dM ps ds k->LG ps k λl=>ds=l
 |[],[],k,h=>⟨rfl,h⟩
 |.v::ps,n::ds,k,h|.i::ps,.int n::ds,k,h|.s::ps,.str n::ds,k,h|.l::ps,.lst n::ds,k,h|.m::ps,.mr n::ds,k,h|.b::ps,.bl n::ds,k,h|.t::ps,.tup n::ds,k,h=>⟨n,Az (λl e=>by rw[e])<|dJ (ps:=ps) h⟩
abbrev MS:=az MO
def wm (μ:MS)(k:Nat):aA (az D):=match μ[k]? with|some (.lst ds)=>some ds|_=>none
def jT (h:wm μ k=some ds):μ[k]?=some (.lst ds):=by
 delta wm at h;split at h
 .cases h;assumption
 .cases h
def fT (h:μ[k]?=some (.lst ds)):wm μ k=some ds:=by delta wm;rw[h]
def jS:wm (μ++[.lst ds]) μ.length=some ds:=fT (by rw[lQ aaa,bc];rfl)
def ME (h:wm μ k=some ds):wm (μ++[m]) k=some ds:=fT (by rw[pF (jA<|jT h).1];exact jT h)
abbrev DE:=az (aA D)
mutual
def il (φ:List au)(H:Hp):D->V->Prop
 |.fX,v=>v=.fX
 |.bl b,v=>v=.bl b
 |.int i,v=>v=.int i
 |.str z,v=>v=.str z
 |.lst ds,v=>∃ p vs,v=.ref p/\p∉φ/\H p=some (.lst vs)/\fg φ H ds vs
 |.tup ds,v=>∃ p vs,v=.ref p/\p∉φ/\H p=some (.tup vs)/\fg φ H ds vs
 |.gP ks ds,v=>∃ p fM vs,v=.ref p/\p∉φ/\H p=some (.dK fM)/\fM.map Zx=ks/\vs=fM.map ZI/\fg φ H ds vs
 |.mr k,v=>∃ p,φ[k]?=some p/\v=.ref p
 |.obj C ns ds,v=>∃ p dx fs vs,v=.ref p/\p∉φ/\H p=some aaN/\fs.map Zx=ns/\vs=fs.map ZI/\fg φ H ds vs
 |.ki ks ds,v=>∃ p o fM vs,v=.ref p/\p∉φ/\H p=some (.oZ o<|.dK fM)/\fM.map Zx=ks/\vs=fM.map ZI/\fg φ H ds vs
 |.fn a,v=>v=.ref a
def fg (φ:List au)(H:Hp):List D->List V->Prop
 |[],vs=>vs=[]
 |d::ds,vs=>∃ v r,vs=v::r/\il φ H d v/\fg φ H ds r
end
structure Fr (φ:List au)(H:Hp)(oX:List au)(H':Hp):Prop where
 ext:∃ ψ,oX=φ++ψ/\∀ c∈ψ,H c=none
 keep:∀ c o,c∉φ->H c=some o->H' c=some o
 Wl:∀ c,H' c=none->H c=none
def Fr.refl (φ:az au)(H:Hp):Fr φ H φ H:=⟨⟨[],by simp,λ_ h=>nomatch h⟩,λ_ _ _ h=>h,λ_ h=>h⟩
def Fr.trans (a:Fr φ H G9 H1)(b:Fr G9 H1 YE H2):Fr φ H YE H2:=by
 obtain⟨⟨y,rfl,d⟩,F,u⟩:=a;obtain⟨⟨C,rfl,q⟩,E,G⟩:=b;refine⟨⟨y++C,by simp,λc j=>?_⟩,λc o j e=>E c o (λh=>?_)<|F c o j e,λc h=>u c<|G c h⟩
 .rcases List.mem_append.mp j with h | h
  .exact d c h
  .exact u c (q c h)
 .rcases List.mem_append.mp h with h | h
  .exact j h
  .rw[d c h]at e;cases e
def Fr.same (h:gm H H'):Fr φ H φ H':=⟨⟨[],by simp,λ_ h=>nomatch h⟩,λc o _ e=>h c o e,λc e=>h.free e⟩
def Fr.new (h:H p=none):Fr φ H φ (upd H p o):=.same (gm.upd h)
def Fr.put (h:p∈φ):Fr φ H φ (upd H p o) :=
 ⟨⟨[],by simp,λ_ h=>nomatch h⟩,λc u d e=>by rw[fB (λz=>d (by rw[z];exact h))];exact e,λc e=>by
  delta upd at e
  split at e
  .cases e
  .exact e⟩
def Fr.snoc (h:H p=none):Fr φ H (φ++[p]) H:=⟨⟨[p],rfl,λc d=>by rwa [List.mem_singleton.mp d]⟩,λ_ _ _ e=>e,λ_ e=>e⟩
def Fr.xm (f:Fr φ H oX H')(h:p∉φ)(e:H p=some o):p∉oX:=by
 obtain⟨⟨u,rfl,d⟩,_,_⟩:=f;intro j;rcases List.mem_append.mp j with q|q
 .exact h q
 .rw[d p q]at e;cases e
def Fr.get (f:Fr φ H oX H'){k:Nat}(h:φ[k]?=some p):oX[k]?=some p:=by obtain⟨⟨j,rfl,d⟩,_,_⟩:=f;rwa [pF (jA h).1]
mutual
theorem il.mono {φ oX:List au}{H H':Hp}(f:Fr φ H oX H'):∀ {d:D} {v:V},il φ H d v->il oX H' d v
 |.fX,_,h=>h
 |.bl _,_,h=>h
 |.int _,_,h=>h
 |.str _,_,h=>h
 |.lst _,_,h=>by obtain⟨p,vs,e,n,hp,q⟩:=h;exact⟨p,vs,e,f.xm n hp,f.keep _ _ n hp,fg.mono f q⟩
 |.tup _,_,h=>by obtain⟨p,vs,e,n,hp,q⟩:=h;exact⟨p,vs,e,f.xm n hp,f.keep _ _ n hp,fg.mono f q⟩
 |.gP _ _,_,h=>by obtain⟨p,fM,vs,e,n,hp,q1,q2,q⟩:=h;exact⟨p,fM,vs,e,f.xm n hp,f.keep _ _ n hp,q1,q2,fg.mono f q⟩
 |.mr _,_,h=>by obtain⟨p,e,q⟩:=h;exact⟨p,f.get e,q⟩
 |.obj _ _ _,_,h=>by obtain⟨p,dx,fs,vs,e,n,hp,q1,q2,q⟩:=h;exact⟨p,dx,fs,vs,e,f.xm n hp,f.keep _ _ n hp,q1,q2,fg.mono f q⟩
 |.ki _ _,_,h=>by obtain⟨p,dx,fs,vs,e,n,hp,q1,q2,q⟩:=h;exact⟨p,dx,fs,vs,e,f.xm n hp,f.keep _ _ n hp,q1,q2,fg.mono f q⟩
 |.fn _,_,h=>h
theorem fg.mono {φ oX:List au}{H H':Hp}(f:Fr φ H oX H'):∀ {ds:List D} {vs:List V},fg φ H ds vs->fg oX H' ds vs
 |[],_,h=>h
 |_::_,_,h=>by obtain⟨v,r,e,h1,h2⟩:=h;exact⟨v,r,e,il.mono f h1,fg.mono f h2⟩
end
theorem fg.len:∀ {ds:az D} {vs:az V},fg φ H ds vs->vs.length=ds.length
 |[],_,h=>by rw[show _=[]from h];rfl
 |d::ds,_,h=>by obtain⟨v,r,rfl,_,j⟩:=h;rw[aY,aY,fg.len j]
theorem fg.get:∀ {ds:az D} {vs:az V} {i:Nat} {d:D},fg φ H ds vs->ds[i]?=some d->∃ v,vs[i]?=some v/\il φ H d v
 |[],_,i,d,h,e=>by cases e
 |d::ds,_,0,d',h,e=>by obtain⟨q,r,rfl,y,u⟩:=h;simp at e;subst e;exact⟨q,rfl,y⟩
 | d::ds,_,i+1,d',h,e=>by refine fw h λq r j y u=>?_;subst j;exact eU (fg.get u<|by simpa using e) λv e1 C=>⟨v,by simpa using e1,C⟩
def fg.AF {i:Nat}(h:fg φ H ds vs)(e:vs[i]?=some v):∃ d,ds[i]?=some d/\il φ H d v:=by have hl:=h.len;have q:=(jA e).1;refine eU (h.get (d:=ds[i]' Zs)<|iO<|by lia) λu e1 j=>?_;rw[e]at e1;cases e1;exact⟨_,iO<|by lia,j⟩
theorem fg.app:∀ {ds es:az D} {vs us:az V},fg φ H ds vs->fg φ H es us->fg φ H (ds++es) (vs++us)
 |[],_,_,_,h,g=>by rw[show _=[]from h];exact g
 |d::ds,es,_,us,h,g=>by obtain⟨v,r,rfl,q,j⟩:=h;exact⟨v,r++us,rfl,q,j.app g⟩
theorem fg.take:∀ {ds:az D} {vs:az V} (n:Nat),fg φ H ds vs->fg φ H (ds.take n) (vs.take n)
 |_,_,0,_=>rfl
 |[],_,n+1,h=>by rw[show _=[]from h];rfl
 |d::ds,_,n+1,h=>by obtain⟨v,r,rfl,q,j⟩:=h;exact⟨v,r.take n,rfl,q,j.take n⟩
theorem fg.drop:∀ {ds:az D} {vs:az V} (n:Nat),fg φ H ds vs->fg φ H (ds.drop n) (vs.drop n)
 |_,_,0,h=>h
 |[],_,n+1,h=>by rw[show _=[]from h];rfl
 |d::ds,_,n+1,h=>by obtain⟨v,r,rfl,q,j⟩:=h;exact j.drop n
theorem fg.set (hd:il φ H d v):∀ {ds:az D} {vs:az V} (n:Nat),fg φ H ds vs->fg φ H (ds.set n d) (vs.set n v)
 |[],_,n,h=>by rw[show _=[]from h];cases n<;>rfl
 |e::ds,_,0,h=>by obtain⟨w,r,rfl,q,j⟩:=h;exact⟨v,r,rfl,hd,j⟩
 |e::ds,_,n+1,h=>by obtain⟨w,r,rfl,q,j⟩:=h;exact⟨w,r.set n v,rfl,q,j.set hd n⟩
theorem fg.rev:∀ {ds:az D} {vs:az V},fg φ H ds vs->fg φ H ds.reverse vs.reverse
 |[],_,h=>by rw[show _=[]from h];rfl
 | d::ds,_,h=>by obtain⟨v,r,rfl,q,j⟩:=h;rw[dg,dg];exact j.rev.app ⟨v,[],rfl,q,rfl⟩
theorem fg.ints:∀ {ns:az Int} {vs:az V},fg φ H (ns.map D.int) vs->vs=ns.map V.int
 |[],_,h=>h
 |n::ns,_,h=>by obtain⟨v,r,rfl,j,d⟩:=h;rw[show v=.int n from j,fg.ints d];rfl
theorem fg.Zh:∀ {ns:az Bool} {vs:az V},fg φ H (ns.map D.bl) vs->vs=ns.map V.bl
 |[],_,h=>h
 |n::ns,_,h=>by obtain⟨v,r,rfl,j,d⟩:=h;rw[show v=.bl n from j,fg.Zh d];rfl
theorem fg.strs:∀ {ns:az Str} {vs:az V},fg φ H (ns.map D.str) vs->vs=ns.map V.str
 |[],_,h=>h
 |n::ns,_,h=>by obtain⟨v,r,rfl,j,d⟩:=h;rw[show v=.str n from j,fg.strs d];rfl
def BxF (φ:az au)(H:Hp)(b:au):Prop:=∃(q:au) (ns:az Int) (i r z:Int),H b=some (.lst [.ref q,.int i,.int r,.int z])/\H q=some (.lst<|ns.map V.int)/\q∉φ/\0<=i/\0<=z/\z<2147483647
def VQ (p:au)(c:av)(h:Heap):Prop:=∃ d j,h.get? p=some d/\d.cls=c/\d.dict=none/\d.data=.fields j/\j[2]?=some .none
def wK (φ:az au)(H:Hp):MO->au->Prop
 |.box,p=>BxF φ H p
 |.lst ds,p=>∃ vs,H p=some (.lst vs)/\fg φ H ds vs
 |.gP ks ds,p=>∃ d vs,H p=some (.dK d)/\d.map Zx=ks/\vs=d.map ZI/\fg φ H ds vs
 |.mF o d ds,p=>H p=some (.oZ o<|.dK d)/\fg φ H ds (d.map ZI)
 |.ins C ns ds,p=>∃ q fs,H p=some (.ins C q fs)/\fs.map Zx=ns/\fg φ H ds (fs.map ZI)
 |.NB ks ds,p=>∃ d,H p=some (.dT d)/\d.map Zx=ks/\fg φ H ds (d.map ZI)
 |.gx j H0,p=>Fr j H0 φ H/\H p=H0 p/\(∃ o,H p=some o)/\∀ zs,H p≠some (.tup zs)
 |.exc c,p=>H p=some (.ext<|VQ p c)
structure fK (φ:List au)(H:Hp)(μ:MS):Prop where
 nd:φ.Nodup
 len:φ.length=μ.length
 at_:∀(k:Nat) (m:MO),μ[k]?=some m->∃ p,φ[k]?=some p/\wK φ H m p
theorem wK.mono (f:Fr φ H oX H')(s:∀ o,H p=some o->H' p=some o)(h:wK φ H m p):wK oX H' m p:=by
 cases m with
 |box=>let ⟨q,ns,i,r,z,h1,h2,h3,h4⟩:=h;exact⟨q,ns,i,r,z,s _ h1,f.keep _ _ h3 h2,f.xm h3 h2,h4⟩
 |lst ds=>let ⟨vs,h1,h2⟩:=h;exact⟨vs,s _ h1,h2.mono f⟩
 |gP u ds=>let ⟨d,vs,h1,h2,h3,h4⟩:=h;exact⟨d,vs,s _ h1,h2,h3,h4.mono f⟩
 |mF o d ds=>exact⟨s _ h.1,h.2.mono f⟩
 |ins C ns ds=>let ⟨dx,fs,h1,h2,h3⟩:=h;exact⟨dx,fs,s _ h1,h2,h3.mono f⟩
 |NB u ds=>let ⟨d,h1,h2,h3⟩:=h;exact⟨d,s _ h1,h2,h3.mono f⟩
 |gx j y=>let ⟨h1,h2,⟨o,h3⟩,h4⟩:=h;exact⟨h1.trans f,(s _ h3).trans<|h3.symm.trans h2,⟨o,s _ h3⟩,λzs e=>h4 zs<|h3.trans<|(s _ h3).symm.trans e⟩
 |exc c=>exact s _ h
def wK.ex (h:wK φ H m p):∃ o,H p=some o:=by
 cases m with
 |box=>let ⟨q,ns,i,r,z,h1,_⟩:=h;exact⟨_,h1⟩
 |lst ds=>let ⟨vs,h1,_⟩:=h;exact⟨_,h1⟩
 |gP u ds=>let ⟨d,vs,h1,_⟩:=h;exact⟨_,h1⟩
 |mF o d ds=>exact⟨_,h.1⟩
 |ins C ns ds=>let ⟨dx,fs,h1,_⟩:=h;exact⟨_,h1⟩
 |NB u ds=>let ⟨d,h1,_⟩:=h;exact⟨_,h1⟩
 |gx j y=>exact h.2.2.1
 |exc c=>exact⟨_,h⟩
theorem fK.same (h:fK φ H μ)(s:gm H H'):fK φ H' μ :=
 ⟨h.nd,h.len,λk m e=>let ⟨p,e1,e2⟩:=h.at_ k m e;⟨p,e1,e2.mono (.same s) λo q=>s _ _ q⟩⟩
def fK.mem (h:fK φ H μ)(d:p∈φ):∃ o,H p=some o:=by obtain⟨k,hk,e⟩:=bj d;refine eU (h.at_ k (μ[k]'(by have:=h.len;lia))<|iO _) λq e1 j=>?_;rw[iO hk,e]at e1;cases e1;exact j.ex
def fK.fresh (h:fK φ H μ)(d:H p=none):p∉φ:=λq=>by refine jj (h.mem q) λo e=>?_;rw[d]at e;cases e
theorem fK.snoc (h:fK φ H μ)(d:H p=none)(hm:wK (φ++[p]) (upd H p o) m p):fK (φ++[p]) (upd H p o) (μ++[m])/\Fr φ H (φ++[p]) (upd H p o):=by
 have y:Fr φ H (φ++[p]) H:=.snoc d;have f:Fr φ H (φ++[p]) (upd H p o):=⟨y.ext,λc u E e=>gm.upd d _ _ e,λc e=>(gm.upd d).free e⟩;refine⟨⟨?_,by rw[i8,i8,h.len];rfl,λk n e=>?_⟩,f⟩
 .rw[cv];exact⟨h.nd,by simp,λa ha b hb=>by rw[List.mem_singleton.mp hb];intro z;exact h.fresh d<|z▸‹_›⟩
 .by_cases hk:k<μ.length
  .rw[pF hk]at e;let ⟨q,e1,e2⟩:=h.at_ k n e;exact⟨q,f.get e1,e2.mono f λu C=>gm.upd d _ _ C⟩
  .have j:k=μ.length:=by have:=(jA e).1;rw[i8,aX]at this;lia
   subst j
   rw[lQ aaa,bc]at e
   cases e
   exact⟨p,by rw[lQ (h.len▸aB _),h.len,bc];rfl,hm⟩
theorem fK.put (h:fK φ H μ)(hk:φ[k]?=some p)(hm:wK φ (upd H p o) m p):fK φ (upd H p o) (μ.set k m):=by
 have F:=lH hk;have f:Fr φ H φ (upd H p o):=.put F;refine⟨h.nd,by rw[ba];exact h.len,λj n e=>?_⟩;by_cases d:k=j
 .subst d;have hl:k<μ.length:=by have:=(jA hk).1;have:=h.len;lia
  rw[aV hl]at e;cases e;exact⟨p,hk,hm⟩
 .rw[aK d]at e;let ⟨q,e1,e2⟩:=h.at_ j n e;refine⟨q,e1,e2.mono f λu G=>?_⟩;rw[fB]
  .exact G
  .intro z;subst z;have a1:=jA hk;have a2:=jA e1;refine jj a1 λE C=>jj a2 λi2 y=>?_;rcases Nat.lt_or_gt_of_ne d with z|z
   .exact List.pairwise_iff_getElem.mp h.nd k j E i2 z (C.trans y.symm)
   .exact List.pairwise_iff_getElem.mp h.nd j k i2 E z (y.trans C.symm)
def j7 (φ:az au)(H:Hp)(j:DE)(σ:St):Prop:=j.length=σ.length/\∀(i:Nat) (d:D),j[i]?=some (some d)->∃ v,σ[i]?=some (some v)/\il φ H d v
theorem j7.mono (f:Fr φ H oX H')(h:j7 φ H ρ σ):j7 oX H' ρ σ:=⟨h.1,λi d e=>let ⟨v,a,b⟩:=h.2 i d e;⟨v,a,b.mono f⟩⟩
theorem j7.set (h:j7 φ H ρ σ)(hd:il φ H d v)(i:Nat):j7 φ H (ρ.set i<|some d) (σ.set i<|some v):=by
 refine⟨by rw[ba,ba];exact h.1,λj e y=>?_⟩;by_cases q:i=j
 .subst q;have hl:i<ρ.length:=by have:=(jA y).1;rwa [ba]at this
  rw[aV hl]at y;cases y;exact⟨v,aV<|h.1▸‹_›,hd⟩
 .rw[aK q]at y;let ⟨u,a,b⟩:=h.2 j e y;exact⟨u,by rwa [aK q],b⟩
def lv (μ:MS):D->aA (az D)
 |.lst ds=>some ds
 |.mr k=>wm μ k
 |_=>none
def lc:D->az D->MS->Prop
 |.mr k,ds=>λμ=>wm μ k=some ds
 |_,_=>λ_=>True
def jv (M:fK φ H μ)(i:il φ H d v)(h:lv μ d=some ds):∃ p vs,v=.ref p/\H p=some (.lst vs)/\fg φ H ds vs:=by
 cases d with
 |lst y=>cases h;obtain⟨p,vs,rfl,_,j,ha⟩:=i;exact⟨p,vs,rfl,j,ha⟩
 | mr k =>obtain⟨p,j,rfl⟩:=i;have e:=jT h;obtain⟨q,e1,vs,u,ha⟩:=M.at_ k _ e;rw[j]at e1;cases e1;exact⟨p,vs,rfl,u,ha⟩
 |_=>cases h
def oQ (M:fK φ H μ)(i:il φ H d (.ref p))(h:lv μ d=some ds)(f:Fr φ H oX H')(C:fK oX H' μ')(c:lc d ds μ'):∃ vs,H' p=some (.lst vs)/\fg oX H' ds vs:=by
 cases d with
 |lst E=>cases h;obtain⟨u,vs,e,n,j,ha⟩:=i;cases e;exact⟨vs,f.keep _ _ n j,ha.mono f⟩
 | mr k =>refine eU i λu j e=>?_;cases e;obtain⟨q,e1,vs,y,ha⟩:=C.at_ k _<|jT c;rw[f.get j]at e1;cases e1;exact⟨vs,y,ha⟩
 |_=>cases h
def vo (h:lv μ d=some ds):lc d ds μ:=by cases d<;>first|trivial|exact h
abbrev DK:=D->MS->Prop
abbrev De:=DE->MS->DK->Prop
abbrev DA:=DE->MS->(az D->MS->Prop)->Prop
abbrev Dt:=DE->MS->(Bool->MS->Prop)->Prop
def tZ (φ:az au)(H:Hp)(K:DK)(Q:VK):Prop:=∀ d q j v u,K d q->Fr φ H j u->fK j u q->il j u d v->Q v u
def tZ.mono {K:DK}(h:tZ φ H K Q)(f:Fr φ H G9 H1):tZ G9 H1 K Q:=λd q j v u k g m i=>h d q j v u k (f.trans g) m i
def tD (w:De):TE:=λu H Q=>∃ d j q K,j7 d H j u/\fK d H q/\w j q K/\tZ d H K Q
def Py (w:DA):TA:=λG H Q=>∃ u y C K,j7 u H y G/\fK u H C/\w y C K/\∀ F j d E q,K F j->Fr u H d q->fK d q j->fg d q F E->Q E q
def wj (w:Dt):TT:=λE H Q=>∃ q y C K,j7 q H y E/\fK q H C/\w y C K/\∀ b j d u,K b j->Fr q H d u->fK d u j->Q b u
abbrev PD (X:Cx)(e:Expr)(w:De):Prop:=PE X e (tD w)
def wG (i:Nat):De:=λj q K=>match j[i]? with|some (some d)=>K d q|_=>False
def dC (d:D):De:=λ_ j K=>K d j
def dv (i:Nat)(y:X.N[i]?=some x:=by rfl)(hv:R6 X.env.scope x:=by first | exact Or.inl rfl | exact Or.inr (Or.inl rfl) | exact Or.inr<|Or.inr rfl)(hd:Zz=false:=by decide)
 (Es:abd=false:=by decide):PD X abh (wG i):=(yz y hv hd Es).imp λC H Q q=>by
 refine fL q λj F u K E M w L=>?_;unfold wG at w;split at w
 .rename_i d hd;exact eU (E.2 i d hd) λv e r=>⟨v,e,L d u j v H w (.refl _ _) M r⟩
 .exact w.elim
def eS {i j pos}:PD X (.Constant (.int i) j pos) (dC<|.int i):=gh.imp λu H Q q=>fL q λd y C K E M w L=>L _ _ d _ H w (.refl _ _) M rfl
def su {b j pos}:PD X (.Constant (.bool b) j pos) (dC<|.bl b):=ID.imp λu H Q q=>fL q λd y C K E M w L=>L _ _ d _ H w (.refl _ _) M rfl
def tq {j pos}:PD X (.Constant .none j pos) (dC .fX):=Qs.imp λu H Q q=>fL q λd y C K E M w L=>L _ _ d _ H w (.refl _ _) M rfl
def fJ {x j pos}:PD X (.Constant (.str x) j pos) (dC<|.str x):=Qq.imp λu H Q q=>fL q λd y C K E M w L=>L _ _ d _ H w (.refl _ _) M rfl
abbrev xX:=D->D->MS->DK->Prop
def tV (F:xX)(E C:De):De:=λq u K=>E q u λx j=>C q j λy d=>F x y d K
def nh (r:R2)(C:xX):Prop:=∀ d H x y u q j K Q,fK d H j->il d H u x->il d H q y->C u q j K->tZ d H K Q->r x y H Q
def Dr (so:nh r U)(h:tD (tV U J wb) σ H Q):Td r (tD J) (tD wb) σ H Q:=by exact fL h λG y I K E M w L=>⟨G,y,I,_,E,M,w,λd1 u j P H1 Y F M1 Z=>⟨j,y,u,_,E.mono F,M1,Y,λd2 q d O H2 W C M2 i2=>so d H2 P O d1 d2 q K Q M2 (Z.mono C) i2 W<|L.mono<|F.trans C⟩⟩
def wF (h:jG X (binaryOp op) r)(so:nh r j)(ha:PD X a d)(hb:PD X b wb):PD X (.BinOp a op b pos) (tV j d wb):=(jH h ha hb).imp λu H Q q=>Dr so q
def xG (h:jG X (compareOp op) r)(so:nh r j)(ha:PD X a d)(hb:PD X b wb)(hm:behindInMarks op b=false):PD X (.Compare a [op] [b] pos) (tV j d wb):=(uf h ha hb hm).imp λu H Q q=>Dr so q
def XY (h:Fo X r)(so:nh r j)(ha:PD X a d)(hb:PD X b wb)(hs:zj b):PD X (.Subscript a b pos) (tV j d wb):=(og h ha hb hs).imp λu H Q q=>Dr so q
def mI (w:De):Dt:=λq u K=>w q u λd j=>match d with|.bl b=>K b j|_=>False
def LU (h:wj (mI w) σ H Q):cB (tD w) σ H Q:=by
 refine fL h λy C F K E M k L=>⟨y,C,F,_,E,M,k,λd q j v I u f G i=>?_⟩;cases d with
 |bl b=>subst i;exact L b q j I u f G
 |_=>exact u.elim
def hG {w:De}(h:PD X e w)(he:∀ d,isTrue e X.env d=(do let v <- d;standAt e.pos;holding [v] (truthy v)):=by intro _;rfl):PT X e (wj<|mI w):=(qK h he).imp λj H Q q=>LU q
def lr (h:jG X (compareOp op) r)(so:nh r J)(ha:PD X a I)(hb:PD X b wb)(hm:behindInMarks op b=false):PT X (.Compare a [op] [b] pos) (wj<|mI<|tV J I wb) :=
 (lT h ha hb hm).imp λU H Q q=>by
  refine fL q λC F G K E M k L=>Dr so ⟨C,F,G,_,E,M,k,λd u j v P y f O i=>?_⟩;cases d with
  |bl b=>subst i;exact L b u j P y f O
  |_=>exact y.elim
def GL (neg:Bool)(w:De):De:=λq u K=>w q u λd j=>match d with|.fX=>K (.bl<|!neg) j|_=>K (.bl neg) j
def Jw (i:il φ H d v):decide (v=V.fX)=(match d with | .fX=>true | _=>false):=by
 cases d with
 |fX=>subst i;rfl
 |bl _=>subst i;rfl
 |int _=>subst i;rfl
 |str _=>subst i;rfl
 |lst _=>obtain⟨p,j,rfl,_⟩:=i;rfl
 |tup _=>obtain⟨p,j,rfl,_⟩:=i;rfl
 |gP _ _=>obtain⟨p,q,j,rfl,_⟩:=i;rfl
 |mr _=>obtain⟨p,_,rfl⟩:=i;rfl
 |obj _ _ _=>obtain⟨p,u,fs,j,rfl,_⟩:=i;rfl
 |ki _ _=>obtain⟨p,u,fs,j,rfl,_⟩:=i;rfl
 |fn _=>subst i;rfl
def Hu (h:tD (GL false w) σ H Q):Tf (tD w) σ H Q:=by refine fL h λy C F K E M k L=>⟨y,C,F,_,E,M,k,λd q j v u G f I i=>?_⟩;show Q (.bl _) u;rw[Jw i];cases d<;>exact L _ q j _ u G f I rfl
def Du (h:tD (GL true w) σ H Q):Oh (tD w) σ H Q:=by refine fL h λy C F K E M k L=>⟨y,C,F,_,E,M,k,λd q j v u G f I i=>?_⟩;show Q (.bl _) u;rw[Jw i];cases d<;>exact L _ q j _ u G f I rfl
def PA.imp (h:PA X es t)(u:∀ d H Q,t' d H Q->t d H Q):PA X es t':=λpos j s d H Q I q=>h pos j s d H Q I (u d H Q q)
def zk.imp {st:az Stmt}(h:zk X st t)(u:∀ D d H,t' D d H->t D d H):zk X st t':=λj s d H D I q=>h j s d H D I (u D d H q)
def A8:DA:=λ_ d K=>K [] d
def rD (C:De)(wr:DA):DA:=λq u K=>C q u λx j=>wr q j λy d=>K (x::y) d
abbrev rO (X:Cx)(es:az Expr)(w:DA):Prop:=PA X es (Py w)
def gg:rO X [] A8:=gJ.imp λu H Q q=>fL q λd y j K E M w L=>L [] j d [] H w (.refl _ _) M rfl
def eW (ha:PD X e wa)(hr:rO X es wr)(hs:starEach ZX X.env=(false,eval e X.env)::starEach es X.env:=by rfl):rO X ZX (rD wa wr):=(fv ha hr hs).imp λσ H Q q=>by exact fL q λI C J K E M w L=>⟨I,C,J,_,E,M,w,λd1 y j P H1 W G M1 Y=>⟨j,C,y,_,E.mono G,M1,W,λds u d O Z U F M2 i2=>L _ u d _ Z U (G.trans F) M2 ⟨P,O,rfl,Y.mono F,i2⟩⟩⟩
def K8 {K:DK}(L:tZ φ H K Q)(M:fK φ H μ)(h:fg φ H ds vs)(k:K (.lst ds) μ)(d:H p=none):Q (.ref p) (upd H p<|.lst vs) :=
 L _ μ φ _ _ k (.new d) (M.same<|gm.upd d) ⟨p,vs,rfl,M.fresh d,eZ,h.mono<|.new d⟩
def K7 {K:DK}(L:tZ φ H K Q)(M:fK φ H μ)(h:fg φ H ds vs)(k:K (.tup ds) μ)(d:H p=none):Q (.ref p) (upd H p<|.tup vs) :=
 L _ μ φ _ _ k (.new d) (M.same<|gm.upd d) ⟨p,vs,rfl,M.fresh d,eZ,h.mono<|.new d⟩
def VB {K:DK}(L:tZ φ H K Q)(M:fK φ H μ)(h:fg φ H ds vs)(k:K (.mr μ.length) (μ++[.lst ds]))(d:H p=none):Q (.ref p) (upd H p<|.lst vs):=by have f:Fr φ H (φ++[p]) (upd H p<|.lst vs):=⟨(Fr.snoc d).ext,λc u _ e=>gm.upd d _ _ e,λc e=>(gm.upd d).free e⟩;obtain⟨j,_⟩:=M.snoc (m:=.lst ds) d ⟨vs,eZ,h.mono f⟩;exact L _ _ _ _ _ k f j ⟨p,by rw[lQ (M.len▸aB _),M.len,bc];rfl,rfl⟩
def nL (m:Bool)(ds:az D)(μ:MS)(K:DK):Prop:=match m with|false=>K (.lst ds) μ|true=>K (.mr μ.length) (μ++[.lst ds])
def CT {K:DK}(L:tZ φ H K Q)(M:fK φ H μ)(h:fg φ H ds vs)(k:nL m ds μ K)(d:H p=none):Q (.ref p) (upd H p<|.lst vs):=by
 cases m with
 |false=>exact K8 L M h k d
 |true=>exact VB L M h k d
def Yb (m:Bool)(w:DA):De:=λq u K=>w q u λj d=>j.length<=sizeLine/\nL m j d K
def X2 (w:DA):De:=λq u K=>w q u λj d=>j.length<=sizeLine/\K (.tup j) d
def iA (m:Bool)(h:rO X es w):PD X (.List es pos) (Yb m w):=(Iv h).imp λO H Q I=>fL I λu y F K E M w L =>⟨u,y,F,_,E,M,w,λU C q P W d J M1 j=>⟨j.len▸d.1,λp G=>CT (L.mono J) M1 j d.2 G⟩⟩
def gN {G}(h:rO X es w):PD X (.Tuple es G pos) (X2 w):=(Qp h).imp λP H Q J=>fL J λu y F K E M w L =>⟨u,y,F,_,E,M,w,λW C q U Y d O M1 j=>⟨j.len▸d.1,λp I=>K7 (L.mono O) M1 j d.2 I⟩⟩
abbrev jo:=az D->MS->DK->Prop
def jg (f:jo):Sp:=λu H Q _=>∃ d q j K,fg d H q u/\fK d H j/\f q j K/\tZ d H K Q
def vQ (f:jo)(w:DA):De:=λj q K=>w j q λu d=>f u d K
def RG (C:lN X.prog X.w X.K X.mg X.ah x k ps (jg f))(hr:gZ k X.A)(O:Gl X x)(ha:rO X ZX w)
 (q:Zz=false:=by decide) (he:starEach ZX X.env=(false,eval e X.env)::starEach es X.env:=by rfl) (m4:(backTo pos<|starEach es X.env).any Zx=false:=by rfl):
 PD X ZH (vQ f w):=(vc C hr O ha q he m4).imp λZ H Q P=>fL P λu y F K E M w L=>
 ⟨u,y,F,_,E,M,w,λW j d G Y I U M1 J=>by show jg f (G++[]) Y Q E0;rw[bH];exact⟨d,W,j,K,J,M1,I,L.mono U⟩⟩
def kz (r:az V->Hp->VK->Prop)(f:jo):Prop:=∀ d H q u j K Q,fK d H j->fg d H u q->f u j K->tZ d H K Q->r q H Q
def Oi (so:kz r f)(h:tD (vQ f w) σ H Q):V3 r (Py w) σ H Q:=by exact fL h λq u y K E M w L=>⟨q,u,y,_,E,M,w,λJ j d C O F I M1 G=>so d O C J j K Q M1 G F<|L.mono I⟩
def kj {id:String}(u:h9 X (.builtin id) r)(so:kz r f)(j:Gl X x)(hm:X.mg x=none)(d:bootBuiltins x=some (.builtin id))(ha:rO X ZX w)(hn:x ≠ "__name__":=by decide)(M8:Zz=false:=by decide)
 (he:starEach ZX X.env=(false,eval e X.env)::starEach es X.env:=by rfl) (m4:(backTo pos<|starEach es X.env).any Zx=false:=by rfl):PD X ZH (vQ f w):=
 (gn u j hm d ha hn M8 he m4).imp λy H Q q=>Oi so q
def rB (u:h9 X (.type T) r)(so:kz r f)(j:Gl X x)(hm:X.mg x=none)(d:bootBuiltins x=some (.type T))(ha:rO X ZX w)(hn:x ≠ "__name__":=by decide)(M8:Zz=false:=by decide)
 (he:starEach ZX X.env=(false,eval e X.env)::starEach es X.env:=by rfl) (m4:(backTo pos<|starEach es X.env).any Zx=false:=by rfl):PD X ZH (vQ f w):=
 (xk u j hm d ha hn M8 he m4).imp λy H Q q=>Oi so q
abbrev Pg:=D->az D->MS->DK->Prop
def Br (K:aj)(T:String)(r:V->az V->Hp->VK->Prop)(f:Pg):Prop:=∀ j H x u d y q C Q,fK j H q->il j H d x->fg j H y u->f d y q C->tZ j H C Q->r x u H Q
def R7 (T:String)(μ:MS):D->Prop
 |.str _=>T = "str"
 |.lst _=>T = "list"
 |.gP _ _=>T = "dict"
 |.mr k=>match μ[k]? with|some (.lst _)=>T = "list" | some (.gP _ _)=>T = "dict" | _=>False
 |_=>False
def R7.is (M:fK φ H μ)(i:il φ H d v)(h:R7 T μ d):VZ Kf T v H:=by
 cases d with
 |str z=>subst i;exact h
 |lst ds=>obtain⟨p,u,rfl,_,y,_⟩:=i;exact .inl ⟨h,u,nJ.of y⟩
 |gP E ds=>obtain⟨p,j,u,rfl,_,y,_⟩:=i;exact .inr (.inr<|.inl ⟨h,.inl ⟨j,y⟩⟩)
 | mr k =>
  obtain⟨p,y,rfl⟩:=i;delta R7 at h;dsimp only at h;cases e:μ[k]? with
  |none=>rw[e]at h;exact h.elim
  | some m =>
   refine eU (M.at_ k m e) λq e1 C=>?_;rw[y]at e1;cases e1;rw[e]at h;cases m with
   |box=>exact h.elim
   |lst ds=>let ⟨u,hv,_⟩:=C;exact .inl ⟨h,u,nJ.of hv⟩
   |gP E ds=>let ⟨j,u,hv,_⟩:=C;exact .inr (.inr<|.inl ⟨h,.inl ⟨j,hv⟩⟩)
   |_=>exact h.elim
 |_=>exact h.elim
def Zb (T:String)(f:Pg)(y:De)(w:DA):De:=λq u K=>y q u λx d=>R7 T d x/\w q d λC j=>f x C j K
def vO {id:String}(pa:PlainAttrs T)(slot:Slot T name id)(F:typeOf (.builtin id)=pure (.type "method_descriptor"))(hm:zy X id r)(so:Br X.K T r f)(ho:PD X o wo)(ha:rO X ZX w)
 (d:attributeBase o name X.env aaF=eval o X.env:=by rfl)
 (Q7:((backTo hJ<|starEach ZX X.env).all (λx=>!x.1)&&(backToKw hJ<|keywordEach [] X.env).all (λx=>x.1.isSome)
   && decide ((e::es).length+([]:az Keyword).length+(if([]:az Keyword).isEmpty then 0 else 1)<30))=true:=by rfl)
 (kN:aac=true:=by rfl) (hs:starEach ZX X.env=(false,eval e X.env)::starEach es X.env:=by rfl) (Cr:(backTo hJ<|starEach es X.env).any Zx=false:=by rfl):
 PD X (.Call (.Attribute o name gH) ZX [] hJ) (Zb T f wo w):=(TU pa slot F hm ho ha d Q7 kN hs Cr).imp λσ H Q q=>by
 exact fL q λU G W K E M w L=>⟨U,G,W,_,E,M,w,λd1 C u Z H1 I P M1 J=>⟨R7.is M1 J I.1,⟨u,G,C,_,E.mono P,M1,I.2,λds y j Y H2 k2 O M2 i2=>so j H2 Z Y d1 ds y K Q M2 (J.mono O) i2 k2<|L.mono<|P.trans O⟩⟩⟩
def Ku {id:String}(pa:PlainAttrs T)(slot:Slot T name id)(y:typeOf (.builtin id)=pure (.type "method_descriptor"))(hm:zy X id r)(so:Br X.K T r f)(P:PD X o wo)
 (d:attributeBase o name X.env aaF=eval o X.env:=by rfl) (kN:aac=true:=by rfl):PD X (.Call (.Attribute o name gH) [] [] hJ) (Zb T f wo A8):=(Qv pa slot y hm P d kN).imp λZ H Q q=>by
 exact fL q λG I J K E M w L=>⟨G,I,J,_,E,M,w,λW u j O Y C U M1 F=>⟨R7.is M1 F C.1,so j Y O [] W [] u K Q M1 F rfl C.2<|L.mono U⟩⟩
def Yp (y u:De):De:=λj q K=>y j q λx d=>match x with|.bl c=>if c=true then u j d K else K (.bl false) d|_=>False
def EW {rest:az Expr}(ha:PD X a I)(hb:PD X (.BoolOp .And (b::rest) pos) wb):PD X (.BoolOp .And (a::b::rest) pos) (Yp I wb):=(ug ha hb).imp λU H Q q=>by
 refine fL q λF C G K E M w L=>⟨F,C,G,_,E,M,w,λO j d W P u y M1 J=>?_⟩;cases O with
 | bl c =>
  subst J;cases c with
  |true=>exact⟨d,C,j,_,E.mono y,M1,u,L.mono y⟩
  |false=>exact L _ j d _ P u y M1 rfl
 |_=>exact u.elim
def EV {op}(h:PD X a w):PD X (.BoolOp op [a] pos) w:=B6 h
def Ya (u:De):De:=λj q K=>u j q λx d=>match x with|.int i=>K (.int<|-i) d|_=>False
def pI (ha:PD X a wa):PD X (.UnaryOp .USub a pos) (Ya wa):=(TR Pm ha).imp λP H Q q=>by
 refine fL q λy C F K E M w L=>⟨y,C,F,_,E,M,w,λJ j d U O u I M1 G=>?_⟩;cases J with
 |int c=>subst G;exact⟨c,rfl,L _ j d _ O u I M1 rfl⟩
 |_=>exact u.elim
def EM (t u:Dt):Dt:=λj q K=>t j q λc d=>if c=true then u j d K else K false d
def Ki (t u:Dt):Dt:=λj q K=>t j q λc d=>if c=true then K true d else u j d K
def OZ (t:Dt):Dt:=λj q K=>t j q λc d=>K (!c) d
abbrev Fj (X:Cx)(e:Expr)(w:Dt):Prop:=PT X e (wj w)
def LV (h:wj (EM t u) σ H Q):To (wj t) (wj u) σ H Q:=by
 refine fL h λI F J K E M w L=>⟨I,F,J,_,E,M,w,λb j d W G C M1=>?_⟩;cases b with
 |true=>exact⟨d,F,j,_,E.mono C,M1,G,λb y q U O P M2=>L b y q U O (C.trans P) M2⟩
 |false=>exact L _ j d W G C M1
def Pr (h:wj (Ki t u) σ H Q):YJ (wj t) (wj u) σ H Q:=by
 refine fL h λI F J K E M w L=>⟨I,F,J,_,E,M,w,λb j d W G C M1=>?_⟩;cases b with
 |false=>exact⟨d,F,j,_,E.mono C,M1,G,λb y q U O P M2=>L b y q U O (C.trans P) M2⟩
 |true=>exact L _ j d W G C M1
abbrev SR (X:Cx)(e:Expr)(w:Dt):Prop:=PW X e (wj w)
def PW.imp (h:PW X e t)(y:∀ d H Q,t' d H Q->t d H Q):PW X e t':=λu j s d H Q I q=>h u j s d H Q I (y d H Q q)
def kR (h:Fj X a t):SR X (.BoolOp .And [a] pos) t:=pw_and1 h
def nY (h:Fj X a t):SR X (.BoolOp .Or [a] pos) t:=pw_or1 h
def ml {rest:az Expr}(ha:Fj X a t)(hb:SR X (.BoolOp .And (b::rest) pos) u):SR X (.BoolOp .And (a::b::rest) pos) (EM t u):=(pw_and ha hb).imp λd H Q q=>LV q
def tP {rest:az Expr}(ha:Fj X a t)(hb:SR X (.BoolOp .Or (b::rest) pos) u):SR X (.BoolOp .Or (a::b::rest) pos) (Ki t u):=(pw_or ha hb).imp λd H Q q=>Pr q
def lE (h:Fj X a t):Fj X (.UnaryOp .Not a pos) (OZ t):=(Qe h).imp λJ H Q q=>by exact fL q λu y C K E M w L=>⟨u,y,C,_,E,M,w,λb j d I F G M1=>L _ j d I F G M1⟩
def dIf (t:Dt)(y u:De):De:=λj q K=>t j q λc d=>if c=true then y j d K else u j d K
def y3 (J:Fj X c t)(ha:PD X a I)(hb:PD X b wb):PD X (.IfExp c a b pos) (dIf t I wb):=(Iy J ha hb).imp λO H Q q=>by
 refine fL q λF y G K E M w L=>⟨F,y,G,_,E,M,w,λb j d P C u M1=>?_⟩;cases b with
 |true=>exact⟨d,y,j,_,E.mono u,M1,C,L.mono u⟩
 |false=>exact⟨d,y,j,_,E.mono u,M1,C,L.mono u⟩
def O4 {j pos'}(h:PD X a w):PD X (.Compare a [.Is] [.Constant .none j pos'] pos) (GL false w):=(IB<|IE h).imp λd H Q q=>Hu q
def RB {j pos'}(h:PD X a w):PD X (.Compare a [.IsNot] [.Constant .none j pos'] pos) (GL true w):=(IB<|Ea h).imp λd H Q q=>Du q
def Dy (G:∀ Q,tD w σ H Q->t σ H Q)(h:wj (mI w) σ H Q):tB t σ H Q:=by
 refine fL h λy C F K E M k L=>G _ ⟨y,C,F,_,E,M,k,λd q j v J u f I i=>?_⟩;cases d with
 |bl b=>subst i;exact⟨b,rfl,L b q j J u f I⟩
 |_=>exact u.elim
def zJ {j pos'}(h:PD X a w):Fj X (.Compare a [.Is] [.Constant .none j pos'] pos) (mI<|GL false w):=(yy<|IE h).imp λd H Q q=>Dy (λQ q=>Hu q) q
def uI {j pos'}(h:PD X a w):Fj X (.Compare a [.IsNot] [.Constant .none j pos'] pos) (mI<|GL true w):=(yy<|Ea h).imp λd H Q q=>Dy (λQ q=>Du q) q
structure DN where
 nx:DE->MS->Prop
 rt:DK
 bk:DE->MS->Prop:=λ_ _=>False
 ct:DE->MS->Prop:=λ_ _=>False
abbrev Ds:=DN->DE->MS->Prop
def Pe (φ:az au)(H:Hp)(k:DE->MS->Prop)(q:St->Hp->Prop):Prop:=∀ u y d j C,k u y->Fr φ H d C->j7 d C u j->fK d C y->q j C
def Pe.mono (h:Pe φ H k q)(f:Fr φ H G9 H1):Pe G9 H1 k q:=λy C j u E a b c d=>h y C j u E a (f.trans b) c d
structure Wq (φ:List au)(H:Hp)(N:DN)(E:Ends):Prop where
 nx:Pe φ H N.nx E.nx
 rt:tZ φ H N.rt E.rt
 bk:Pe φ H N.bk E.bk
 ct:Pe φ H N.ct E.ct
theorem Wq.mono (h:Wq φ H N E)(f:Fr φ H G9 H1):Wq G9 H1 N E:=⟨h.nx.mono f,h.rt.mono f,h.bk.mono f,h.ct.mono f⟩
def V1 (w:Ds):TS:=λE u H=>∃ d j q N,j7 d H j u/\fK d H q/\w N j q/\Wq d H N E
abbrev vV (X:Cx)(st:Stmt)(w:Ds):Prop:=PS X st (V1 w)
abbrev Fl (X:Cx)(st:az Stmt)(w:Ds):Prop:=zk X st (V1 w)
section
variable {st:Stmt}{rest:az Stmt}
def Za:Ds:=λN d j=>N.nx d j
def X7 (t u:Ds):Ds:=λN q y=>t { N with nx:=λd j=>u N d j} q y
def Vr (t u:Ds):Ds:=λN q y=>∃ M:DE->MS->Prop,t { N with nx:=M} q y/\∀ d j,M d j->u N d j
def gu:Fl X [] Za:=lU.imp λE j H y=>fL y λd q u N A M w L=>L.nx q u d j H w (.refl _ _) A M
def ag (O:vV X st t)(J:Fl X rest u):Fl X (st::rest) (X7 t u):=(gI O J).imp λE U H I=>fL I λy F G N A M w L =>⟨y,F,G,_,A,M,w,⟨λj q d C W k f Q P=>⟨d,j,q,N,Q,P,k,L.mono f⟩,L.rt,L.bk,L.ct⟩⟩
def Fc (O:vV X st t)(J:Fl X rest u):Fl X (st::rest) (Vr t u):=(gI O J).imp λE W H ⟨y,F,G,N,A,M,⟨P,w1,I⟩,L⟩ =>⟨y,F,G,_,A,M,w1,⟨λd j q C Y k f U Q=>⟨q,d,j,N,U,Q,I d j k,L.mono f⟩,L.rt,L.bk,L.ct⟩⟩
def eX (h:vV X st t):Fl X [st] t:=jP h
def Vo (w:De):Ds:=λN j q=>w j q λ_ d=>N.nx j d
def gD (h:PD X e w)(hs:swapsWith e none pos.line X.env=pure false:=by rfl):vV X (.Expr e pos) (Vo w):=(Mm h hs).imp λE F H J=>fL J λC u G N A M w L=>⟨C,u,G,_,A,M,w,λd q j P O I y M1 Q=>L.nx u q j F O I y (A.mono y) M1⟩
def X9 (w:De):Ds:=λN d j=>w d j N.rt
def fm (h:PD X e w):vV X (.Return (some e) pos) (X9 w):=(l5 h).imp λE y H u=>fL u λd j q N A M w L=>⟨d,j,q,_,A,M,w,L.rt⟩
def Vn (c:Dt)(t u:Ds):Ds:=λN j q=>c j q λb d=>if b=true then t N j d else u N j d
def gQ (I:Fj X c t)(P:Fl X body u)(O:Fl X orelse v):vV X (.If c body orelse pos) (Vn t u v):=(sU I P O).imp λE Q H J=>fL J λF y G N A M w L =>
 ⟨F,y,G,_,A,M,w,λb j d U C q M1=>by
  cases b with
  |true=>exact⟨d,y,j,N,A.mono q,M1,C,L.mono q⟩
  |false=>exact⟨d,y,j,N,A.mono q,M1,C,L.mono q⟩⟩
def Kw (i:Nat)(w:De):Ds:=λN q u=>w q u λd j=>N.nx (q.set i<|some d) j
def Tu (Q:X.N.Nodup)(O:X.N[i]?=some x)(J:Loc X.env.scope x)(he:PD X e w)(hf:X.fn x=true\/X.env.scope.names.lookup x=some .local:=by first | exact .inl rfl | exact .inr rfl | assumption)
 (Uv:swapsWith e (some<|.Name x pos') pos.line X.env=pure false:=by rfl):vV X (.Assign [.Name x pos'] e pos) (Kw i w):=(rY (pos':=pos') Q O J he Uv hf).imp λE W H P=>fL P λy C F N A M w L=>
 ⟨y,C,F,_,A,M,w,λd q j Y U G u M1 I=>L.nx _ q j _ U G u ((A.mono u).set I i) M1⟩
abbrev DG:=D->DE->MS->(DE->MS->Prop)->Prop
abbrev Ph:=az D->DE->MS->(DE->MS->Prop)->Prop
def Lf (g:TG)(w:DG)(S:az Nat):Prop:=∀ u H E y C d v K,j7 u H E y->fK u H C->il u H d v->w d E C K->g v y H λj F=>F=H/\j.length=y.length/\(∀ i,i∉S->j[i]?=y[i]?)/\∃ q,j7 u H q j/\K q C
def Le (g:Bp)(w:Ph)(S:az Nat):Prop:=∀ q H C u y F E K,j7 q H C u->fK q H y->fg q H F E->w F C y K->g E u H λd G=>G=H/\d.length=u.length/\(∀ i,i∉S->d[i]?=u[i]?)/\∃ j,j7 q H j d/\K j y
def nE (g:TG):Prop:=∀ v j H Q q,(∀ d u,Q d u->q d u)->g v j H Q->g v j H q
def sC (g:Bp):Prop:=∀ v j H Q q,(∀ d u,Q d u->q d u)->g v j H Q->g v j H q
def Ko (i:Nat):DG:=λd j q K=>K (j.set i<|some d) q
def O0 (n:Nat)(t:Ph):DG:=λd j q K=>match d with|.tup ds=>ds.length=n/\t ds j q K|_=>False
def Kq (t:DG)(u:Ph):Ph:=λE y C K=>match E with|d::r=>t d y C λj q=>u r j q K|[]=>False
def O1:Ph:=λq d j K=>match q with|[]=>K d j|_=>False
def qu (i:Nat):Lf (vD i) (Ko i) [i]:=λu H C y F d v K E M h w=>⟨rfl,ba,λj q=>aK λz=>q<|by simp[z],_,E.set h i,w⟩
def jR (i:Nat):nE (vD i):=λv d H Q j h q=>h _ _ q
def BP:Le K1 O1 []:=λu H j y C q F K E M h w=>by
 cases q with
 |nil=>subst h;exact⟨rfl,rfl,λ_ _=>rfl,j,E,w⟩
 |cons d r=>exact w.elim
def pU:sC K1:=λv d H Q j h q=>by
 cases v with
 |nil=>exact h _ _ q
 |cons x r=>exact q
def mY (C:nE g)(y:sC u):sC (Bg g u):=λv E H Q F h q=>by
 cases v with
 |nil=>exact q
 |cons x r=>exact C _ _ _ _ _ (λd G j=>y _ _ _ _ _ h j) q
def Cd (d:sC u):nE (KZ n u):=λv j H Q y h q=>by
 cases v with
 |ref a=>let ⟨xs,e,l,q⟩:=q;exact⟨xs,e,l,d _ _ _ _ _ h q⟩
 |_=>exact q
def qv (Z:Lf g w S)(m1:nE g)(Y:Le u y T)(m2:sC u):Le (Bg g u) (Kq w y) (S++T):=λG H P O I ds vs K E M h k=>by
 cases ds with
 |nil=>exact k.elim
 | cons d r =>refine fw h λv Q F hd hr=>?_;subst F;refine m1 _ _ _ _ _ (λj H1 MV=>?_)<|Z G H P O I d v _ E M hd k;obtain⟨e1,l1,n1,C,E1,W⟩:=MV;subst e1;refine m2 _ _ _ _ _ (λL H2 MU=>?_)<|Y G H1 C j I r Q K E1 M hr W;obtain⟨e2,l2,n2,q,E2,U⟩:=MU;refine⟨e2,l2.trans l1,λi J=>?_,q,E2,U⟩;rw[n2 i (λz=>J<|aW _ z),n1 i (λz=>J<|List.mem_append_left _ z)]
def BO (L:Le u y S):Lf (KZ n u) (O0 n y) S:=λC H G F I d v K E M h k=>by
 cases d with
 | tup ds =>refine jz h λp q j hn J ha=>?_;subst j;exact⟨q,J,ha.len▸k.1,L C H G F I ds q K E M ha k.2⟩
 |_=>exact k.elim
structure Tg (X:Cx)(tg:Expr)(g:TG)(w:DG)(S:List Nat):Prop where
 pg:PG X tg g
 so:Lf g w S
 mo:nE g
def Yo (w:De)(g:DG):Ds:=λN q u=>w q u λd j=>g d q j N.nx
def jq (he:PD X e w)(F:Tg X tg g y S)(hs:swapsWithSole [tg] e pos.line X.env=pure false:=by rfl)(hw:swappedStores [tg] e X.env=pure none:=by rfl)
 (h1:(assignEach [tg] X.env).map ZI=[assign tg X.env]:=by rfl):vV X (.Assign [tg] e pos) (Yo w y):=(rZ he F.pg hs hw h1).imp λE O H Z=>fL Z λJ G P N A M w L=>
 ⟨J,G,P,_,A,M,w,λd q j Q H1 W I M1 Y=>F.mo _ _ _ _ _ (λu H2 ⟨e2,_,_,C,E2,U⟩=>by subst e2;exact L.nx C q j u _ U I E2 M1)<|F.so j H1 G O q d Q _ (A.mono I) M1 Y W⟩
def VD (t:C3)(w:D->D->D->MS->(MS->Prop)->Prop):Prop:=∀ j H o i v E C d y K Q,fK j H y->il j H E o->il j H C i->il j H d v->w E C d y K->(∀ q u,K q->Fr j H j u->fK j u q->Q u)->t o i v H Q
def Kj:D->D->D->MS->(MS->Prop)->Prop:=λo i d q K=>match o,i with
 |.mr k,.int j=>opt (wm q k) λu=>opt (Ay u.length j) λn=>K (q.set k<|.lst<|u.set n d)
 |_,_=>False
def PF:VD HZ Kj:=λC H o i v W U d J K Q M I G hd w q=>by
 delta Kj at w;split at w
 .rename_i k j;refine eU (fS w) λP y w=>?_;have y:=jT y;obtain⟨p,u,rfl⟩:=I;subst G;obtain⟨L,e1,E,F,ha⟩:=M.at_ k _ y;rw[u]at e1;cases e1;refine eU (fS w) λn O w=>⟨E,F,eT (by rwa [ha.len]) ?_⟩;have f:Fr C H C (upd H p<|.lst<|E.set n v):=.put<|lH u;exact q _ _ w f (M.put u ⟨_,eZ,(ha.set hd n).mono f⟩)
 .exact w.elim
def Vt (w F G:De):Ds:=λN j E=>w j E λd C=>F j C λo y=>G j y λi u=>Kj o i d u λq=>N.nx j q
def BV {o i:Expr}{w W Y:De}{pos':Pos}(he:PD X e w)(ho:PD X o W)(hi:PD X i Y)
 (ha:∀ v,assign (.Subscript o i pos') X.env v=(do
   let u <- holding [v] aaF
   let U <- holding [v,u] (eval i X.env)
   standAt pos'
   holding [v,u,U] (setItem u U v)
   release [v,u,U] []):=by intro _;rfl) (hs:swapsWithSole [.Subscript o i pos'] e pos.line X.env=pure false:=by rfl) (hw:swappedStores [.Subscript o i pos'] e X.env=pure none:=by rfl)
 (h1:(assignEach [.Subscript o i pos'] X.env).map ZI=[assign (.Subscript o i pos') X.env]:=by rfl):vV X (.Assign [.Subscript o i pos'] e pos) (Vt w W Y):=(rZ he (va ho hi setC ha) hs hw h1).imp λE σ H h_=>fL h_ λφ q μ N A M w L=>by
 exact⟨φ,q,μ,_,A,M,w,λd P I v1 H1 k1 F M1 i1=>⟨I,q,P,_,A.mono F,M1,k1,λd2 O G v2 H2 k2 C M2 i2=>⟨G,q,O,_,A.mono<|F.trans C,M2,k2,λd3 J j v3 H3 k3 y M3 i3=>PF j H3 _ _ _ d2 d3 d J _ _ M3 (i2.mono y) i3 (i1.mono<|C.trans y) k3 λQ H' k4 Z M4=>L.nx q Q j σ H' k4 ((F.trans<|C.trans y).trans Z) (A.mono<|(F.trans<|C.trans y).trans Z) M4⟩⟩⟩
def VE (t:Pb)(C:xX):Prop:=∀ d H x y u q j K Q,fK d H j->il d H u x->il d H q y->C u q j K->tZ d H K Q->t x y H Q
def Vs (i:Nat)(w:De)(C:xX):Ds:=λN d u=>match d[i]? with|some (some x)=>w d u λy q=>C x y q λz j=>N.nx (d.set i<|some z) j|_=>False
def HP (hN:X.N.Nodup)(hi:X.N[i]?=some x)(W:Loc X.env.scope x)(he:PD X e w)(Z:VG X op ti)(so:VE ti ro)(hf:X.fn x=true\/X.env.scope.names.lookup x=some .local:=by first | exact .inl rfl | exact .inr rfl | assumption):
 vV X (.AugAssign (.Name x pos') op e pos) (Vs i w ro):=(Qk (pos':=pos') hN hi W he Z hf).imp λE σ H h_=>fL h_ λI J O N A M w L=>by
 delta Vs at w;split at w
 .rename_i d hd;exact eU (A.2 i d hd) λv Y C=>⟨v,Y,I,J,O,_,A,M,w,λd1 y q v1 H1 Q F M1 U=>so q H1 _ _ d d1 y _ _ M1 (C.mono F) U Q λd2 u j v2 H2 P G M2 i2=>L.nx _ u j _ H2 P (F.trans G) ((A.mono<|F.trans G).set i2 i) M2⟩
 .exact w.elim
def RH (c:Dt)(b:Ds):Ds:=λN q C=>∃ W:Nat->DE->MS->Prop,(∃ m,W m q C)/\∀ m q C,W m q C ->
 c q C λt u=>if t=true then b { N with nx:=λd j=>∃ y,y<m/\W y d j,ct:=λd j=>∃ y,y<m/\W y d j,bk:=N.nx} q u else N.nx q u
def ua (hp:PassesOwn Zt X.A X.env X.xe)(hc:Fj X c t)(hb:Fl X body u):vV X (.While c body [] pos) (RH t u):=(Il hp hc hb).imp λE σ H ⟨φ,ρ,μ,N,A,M,⟨W,⟨m0,w0⟩,Z⟩,L⟩=>by
 refine⟨λm Q H'=>∃ G j F,Fr φ H G H'/\j7 G H' j Q/\fK G H' F/\W m j F,⟨m0,φ,ρ,μ,.refl _ _,A,M,w0⟩,λm Q H' h_=>AS h_ λG j F f' A' M' w'=>⟨G,j,F,_,A',M',Z m j F w',λb Y P H1 k1 U M1=>?_⟩⟩;cases b with
 | true =>refine⟨λI O=>∃ J,J<m/\∃ d y C,Fr φ H d O/\j7 d O y I/\fK d O C/\W J y C,λI O q=>q,P,j,Y,_,A'.mono U,M1,k1,?_⟩;have nx:Pe P H1 (λj F=>∃ J,J<m/\W J j F) λI O=>∃ J,J<m/\∃ d y C,Fr φ H d O/\j7 d O y I/\fK d O C/\W J y C:=λy C d I O ⟨J,hm,w2⟩ f2 A2 M2=>⟨J,hm,d,y,C,(f'.trans U).trans f2,A2,M2,w2⟩;exact⟨nx,L.rt.mono<|f'.trans U,L.nx.mono<|f'.trans U,nx⟩
 |false=>exact L.nx j Y P Q H1 k1 (f'.trans U) (A'.mono U) M1
def Wk (J:It)(φ:az au)(H:Hp)(ds:az D)(c:MS->Prop):Prop:=∀ j y u,Fr φ H j y->fK j y u->c u->∀ i,
 (∀ d,ds[i]?=some d->J.go i y/\∀ x q,J.Fw i y x q->Fr j y j q/\fK j q u/\il j q d x)/\(i=ds.length->J.stop i y)
abbrev DI:=DE->MS->(az D->(MS->Prop)->MS->Prop)->Prop
def V2 (w:DI):TI:=λF H R=>∃ u y C K,j7 u H y F/\fK u H C/\w y C K/\∀ E c j d J q,K E c j->Fr u H d q->fK d q j->Wk J d q E c->R J q
abbrev Bt (X:Cx)(tg iter:Expr)(w:DI):Prop:=PI X tg iter (V2 w)
def PI.imp (h:PI X tg iter t)(u:∀ d H Q,t' d H Q->t d H Q):PI X tg iter t':=λj s d H Q I q=>h j s d H Q I (u d H Q q)
def wA (g:DG)(b:Ds)(N:DN)(c:MS->Prop):az D->DE->MS->Prop
 |[],y,μ=>c μ/\N.nx y μ
 |d::ds,y,μ=>c μ/\g d y μ λu C=>b { N with nx:=λj q=>wA g b N c ds j q,ct:=λj q=>wA g b N c ds j q,bk:=N.nx} u C
def Yl (u:DI)(g:DG)(b:Ds):Ds:=λN j q=>u j q λy c d=>wA g b N c y j d
def lF {tg iter:Expr}{body:az Stmt}{wi:DI}{g:TG}{y:DG}{S:az Nat}{u:Ds}(hp:PassesOwn Zt X.A X.env X.xe)(hc:X.fU=true)(hi:Bt X tg iter wi)(hg:Tg X tg g y S)(hb:Fl X body u)
 (hs:∀ x,foldedSetIterable iter X.env x=pure x:=by intro _;rfl):vV X (.For tg iter body [] pos) (Yl wi y u):=(Qi hp hc hi hg.pg hb hs).imp λE σ H h_=>fL h_ λφ ρ μ N A M w L=>by
 refine⟨φ,ρ,μ,_,A,M,w,λQ c Od U J H1 k1 f1 M1 wk=>⟨λi m W H'=>m=Q.length - i/\i<=Q.length/\∃ d G j,Fr U H1 d H'/\j7 d H' G W/\fK d H' j/\wA y u N c (Q.drop i) G j,⟨Q.length,rfl,bx _,U,ρ,Od,.refl _ _,A.mono f1,M1,k1⟩,?_⟩⟩;rintro i m W H' ⟨rfl,hi,d,G,j,f',A',M',Y⟩;by_cases Z:i<Q.length
 .rw[bY Z]at Y;refine gv Y λc' Y=>gv ((wk d H' j f' M' c' i).1 Q[i]<|iO Z) λgo Fw=>?_;refine .inr ⟨go,λP O=>∃ C F I,Fr U H1 C O/\j7 C O F P/\fK C O I/\wA y u N c (Q.drop<|i+1) F I,λP O q=>⟨Q.length - abe,by lia,rfl,Z,q⟩,λx O hy=>?_⟩;refine kc (Fw x O hy) λf2 M2 i2=>hg.mo _ _ _ _ _ (λWu H3 MZ=>?_)<|hg.so d O G W j _ x _ (A'.mono f2) M2 i2 Y;obtain⟨e3,_,_,ρ3,E3,k3⟩:=MZ;subst e3;refine⟨d,ρ3,j,_,E3,M2,k3,?_⟩;have nx:Pe d H3 (λG j=>wA y u N c (Q.drop<|i+1) G j) λP O=>∃ C F I,Fr U H1 C O/\j7 C O F P/\fK C O I/\wA y u N c (Q.drop<|i+1) F I:=λF I C P O w2 g2 A2 N2=>⟨C,F,I,(f'.trans f2).trans g2,A2,N2,w2⟩;have ff:=f1.trans<|f'.trans f2;exact⟨nx,L.rt.mono ff,L.nx.mono ff,nx⟩
 .have e:i=Q.length:=by lia
  subst e
  rw[dR]at Y
  exact .inl ⟨(wk d H' j f' M' Y.1 _).2 rfl,L.nx G j d W H' Y.2 (f1.trans f') A' M'⟩
end
def mR (js:az (aA Nat))(d:DE):DE:=js.map λo=>o.bind λj=>(d[j]?).join
theorem j7.gC {φ:az au}{H:Hp}{u:DE}{σ:St}(h:j7 φ H u σ)(js:az (aA Nat)):j7 φ H (mR js u) (gC js σ):=by
 refine⟨by delta mR L2.gC;rw[fI,fI],λi d e=>?_⟩;unfold mR at e;rw[mD]at e;delta L2.gC;rw[mD];cases q:js[i]? with
 |none=>rw[q]at e;cases e
 | some o =>
  rw[q]at e;cases o with
  |none=>cases e
  | some j =>
   have C:(u[j]?).join=some d:=a5 e;have F:u[j]?=some (some d):=by
    cases z:u[j]? with
    |none=>rw[z]at C;cases C
    |some y=>rw[z]at C;have:y=some d:=C;rw[this]
   refine eU (h.2 j d F) λv E hd=>⟨v,?_,hd⟩;show some ((σ[j]?).join)=_;rw[E];rfl
def O7 (E:DE)(y:DG)(t:Dt)(w:De)(d:D)(μ:MS)(K:aA D->MS->Prop):Prop:=y d E μ λj C=>t j C λb q=>if b=true then w j q (λz u=>K (some z) u)else K none q
def nB (it:D->MS->(aA D->MS->Prop)->Prop)(c:MS->Prop):az D->MS->(az D->MS->Prop)->Prop
 |[],μ,K=>c μ/\K [] μ
 |d::ds,μ,K=>c μ/\it d μ λo q=>nB it c ds q λys j=>K (o.toList++ys) j
def pB (S:az Nat)(js:az (aA Nat)):Bool:=S.all λi=>js[i]?==some none
def CI (C:pB S js=true)(hl:YF.length=(gC js σ).length)(hn:∀ i,i∉S->YF[i]?=aaW[i]?):Ext aaW YF:=by
 refine⟨hl.symm,λi v e=>?_⟩;by_cases d:i∈S
 .have q:=List.all_eq_true.mp C i d;have u:js[i]?=some none:=by simpa using q
  refine eU (vB e) λj e1 _=>?_;rw[u]at e1;cases e1
 .rwa [hn i d]
def Ba (m:Bool)(F:DI)(js:az (aA Nat))(y:DG)(t:Dt)(w:De):De:=λq C K=>F q C λu c j=>u.length<=sizeLine/\nB (O7 (mR js q) y t w) c u j λE d=>nL m E d K
def Dv (so:Lf g y S)(mo:nE g)(ho:pB S js=true)(h:tD (Ba m wi js y t w) σ H Q):Hx (V2 wi) js g (wj t) (tD w) σ H Q:=by
 refine fL h λφ ρ μ K A M k L=>⟨φ,ρ,μ,_,A,M,k,λE c Od O J H1 k1 f1 M1 wk=>gv k1 λhz k1=>?_⟩;refine⟨λi n ys G=>n=E.length - i/\i<=E.length/\ys.length<=i/\∃ d zs j,Fr O H1 d G/\fg d G zs ys/\fK d G j/\nB (O7 (mR js ρ) y t w) c (E.drop i) j λr u=>nL m (zs++r) u K,
  ⟨E.length,rfl,bx _,bx _,O,[],Od,.refl _ _,rfl,M1,k1⟩,?_⟩
 rintro i n ys G ⟨rfl,hi,hy,d,zs,j,Z,Z',M',F⟩;by_cases C:i<E.length
 .rw[bY C]at F;refine gv F λc' F=>gv ((wk d G j Z M' c' i).1 E[i]<|iO C) λgo Fw=>?_;refine .inr ⟨go,λx H2 Uu=>kc (Fw x H2 Uu) λf2 M2 i2=>?_⟩;have E2:=((A.mono<|f1.trans<|Z.trans f2).gC js);refine mo _ _ _ _ _ (λWu H3 MY=>?_)<|so d H2 _ _ j _ x _ E2 M2 i2 F;obtain⟨e3,l3,n3,U,E3,k3⟩:=MY;refine⟨CI ho l3 n3,?_⟩;subst e3;refine⟨d,U,j,_,E3,M2,k3,λb Y I H4 k4 f4 M4=>?_⟩;have ff:=Z.trans<|f2.trans f4;cases b with
  | true =>
   refine⟨I,U,Y,_,E3.mono f4,M4,k4,λd5 SV SU v5 H5 k5 f5 M5 i5=>⟨by lia,E.length - abe,by lia,rfl,C,by rw[i8,aX];lia,SU,zs++[d5],SV,ff.trans f5,(Z'.mono<|f2.trans<|f4.trans f5).app ⟨v5,[],rfl,i5,rfl⟩,M5,?_⟩⟩;have e:(λr u=>nL m (zs++[d5]++r) u K)=λr u=>nL m (zs++((some d5).toList++r)) u K:=by funext r u;rw[aS];rfl
   rwa [e]
  | false =>exact⟨E.length - abe,by lia,rfl,C,by lia,I,zs,Y,ff,Z'.mono<|f2.trans f4,M4,k4⟩
 .have e:i=E.length:=by lia
  subst e
  rw[dR]at F
  refine .inl ⟨(wk d G j Z M' F.1 _).2 rfl,λp hp=>?_⟩
  have q:nL m (zs++[]) j K:=F.2
  rw[bH]at q
  exact CT (L.mono<|f1.trans Z) M' Z' q hp
abbrev Bs (X:Cx)(ifs:az Expr)(t:Dt):Prop:=Li X ifs (wj t)
def Li.imp {t:TT}(h:Li X ifs t)(u:∀ d H Q,t' d H Q->t d H Q):Li X ifs t':=λj s d H Q I q=>h j s d H Q I (u d H Q q)
def X1:Dt:=λ_ d K=>K true d
def gF:Bs X [] X1:=D1.imp λu H Q q=>fL q λd C j K A M k L=>L true j d H k (.refl _ _) M
def mQ (h:Fj X c t):Bs X [c] t:=Mi h
def RE (m:Bool){j:DI}(F:jm X N js sc)(fU:X.fU=true)(so:Lf g y S)(mo:nE g)(u:pB S js=true)(C:Bt X tg iter j)(E:∀ d s H,PG (nP X N sc d s H) tg g)(ht:∀ d s H,Bs (nP X N sc d s H) ifs t)(he:∀ d s H,PD (nP X N sc d s H) elt w)
 (hs:∀ x,foldedSetIterable iter X.env x=pure x:=by intro _;rfl):PD X ZF (Ba m j js y t w):=(D8 F fU C E ht he hs).imp λG H Q q=>Dv so mo u q
def FL (m:Bool){I:DI}{pos' j:Pos}{i:Nat}{x:Str}(hc:jm X N js sc)(fU:X.fU=true)(so:Lf g y S)(mo:nE g)(ho:pB S js=true)(hN:X.N.Nodup)(F:X.N[i]?=some x)(hx:Loc X.env.scope x)(hi:Bt X tg iter I)(hg:∀ q s H,PG (nP X N sc q s H) tg g)
 (ht:∀ q s H,Bs (nP X N sc q s H) ifs t) (he:∀ q s H,PD (nP X N sc q s H) elt w) (G:swapsWith ZF (some<|.Name x pos') j.line X.env=pure true:=by rfl)
 (hs:∀ x,foldedSetIterable iter X.env x=pure x:=by intro _;rfl) (hf:X.fn x=true\/X.env.scope.names.lookup x=some .local:=by first|exact .inl rfl|exact .inr rfl|assumption):
 vV X (.Assign [.Name x pos'] ZF j) (Kw i<|Ba m I js y t w):=(B4 hc fU hN F hx hi hg ht he G hs hf).imp λE σ H h_=>fL h_ λO Q U N A M w L=>
 Dv so mo ho ⟨O,Q,U,_,A,M,w,λd C u v1 H1 Y J M1 Z=>L.nx _ C u _ H1 Y J ((A.mono J).set Z i) M1⟩
def Yf (w:De):DI:=λu C K=>w u C λd j=>opt (lv j d) λq=>K q (lc d q) j
def LM (h:∀ j H' μ',Fr φ H j H'->fK j H' μ'->c μ'->∃ vs,H' p=some (.lst vs)/\fg j H' ds vs):Wk (YA J p) φ H ds c:=λj H' μ' f M G i=>by refine eU (h j H' μ' f M G) λvs C ha=>⟨λd hd=>?_,λE=>⟨vs,nJ.of C,by rw[ha.len,E];exact aB _⟩⟩;refine eU (ha.get hd) λv F E=>⟨⟨vs,v,nJ.of C,F⟩,λx I u=>gv u λq u=>?_⟩;subst q;have e:=u vs<|nJ.of C;rw[F]at e;cases e;exact⟨.refl _ _,M,E⟩
def ib (h:PD X a w):Bt X tg a (Yf w):=(Ms h).imp λσ H Q h_=>fL h_ λI J U K A M k L=>by refine⟨I,J,U,_,A,M,k,λd q j v1 H1 C f1 M1 E=>eU (fS C) λds F C=>fw (jv M1 E F) λp Y u Z ha=>?_⟩;subst u;exact⟨p,rfl,⟨Y,nJ.of Z⟩,L ds _ q j _ H1 C f1 M1<|LM λG H' O f M c=>oQ M1 E F f M c⟩
def lP (lo:Int)(n:Nat):az D:=(List.range n).map λi=>D.int (lo+(i:Nat))
def zC {lo:Int}:Wk (VL lo n) φ H (lP lo n) λ_=>True:=λq F u f M _ i=>by
 have hl:(lP lo n).length=n:=by delta lP;rw[fI,xr]
 refine⟨λd hd=>?_,λj=>by rw[hl]at j;exact Nat.le_of_eq j.symm⟩;have j:i<n:=by have:=(jA hd).1;lia
 refine⟨j,λx E C=>?_⟩;obtain⟨rfl,rfl⟩:=C;refine⟨.refl _ _,M,?_⟩;unfold lP at hd;rw[mD,bP j]at hd;cases hd;rfl
def Vk (w:DA):DI:=λq u K=>w q u λC d=>match C with
 |[.int j]=> -(2 ^ 62)<=j/\j<2 ^ 62/\K (lP 0 j.toNat) (λ_=>True) d
 |_=>False
def Vj (w:DA):DI:=λq u K=>w q u λC d=>match C with
 |[.int i,.int j]=>(-(2 ^ 62)<=i/\i<2 ^ 62 /\ -(2 ^ 62)<=j/\j<2 ^ 62)/\K (lP i (j - i).toNat) (λ_=>True) d
 |_=>False
def ir {w:DA}(I:Gl X "range")(hm:X.mg "range"=none)(ha:rO X [a] w)(hs:starEach [a] X.env=[(false,eval a X.env)]:=by rfl):Bt X tg (.Call (.Name "range" p) [a] [] pos) (Vk w):=(FT I hm ha hs).imp λσ H Q J=>fL J λC E F K A M k L=>by
 refine⟨C,E,F,_,A,M,k,λds q j vs Z d Y M1 G=>?_⟩;split at d
 .refine fw G λv r u U O=>?_;subst u;subst U;subst O;exact⟨_,rfl,d.1,d.2.1,L _ _ q j _ Z d.2.2 Y M1 zC⟩
 .exact d.elim
def oy {w:DA}(I:Gl X "range")(hm:X.mg "range"=none)(ha:rO X [a,b] w)(hs:starEach [a,b] X.env=[(false,eval a X.env),(false,eval b X.env)]:=by rfl)(yJ:starEach [b] X.env=[(false,eval b X.env)]:=by rfl):Bt X tg (.Call (.Name "range" p) [a,b] [] pos) (Vj w):=(FR I hm ha hs yJ).imp λσ H Q J=>fL J λC E F K A M k L=>by
 refine⟨C,E,F,_,A,M,k,λds q j vs H1 d Z M1 G=>?_⟩;split at d
 .obtain⟨v,r,rfl,Y,u,r',rfl,U,O⟩:=G;subst Y;subst U;subst O;exact⟨_,_,rfl,d.1,L _ _ q j _ H1 d.2 Z M1 zC⟩
 .exact d.elim
def Ye (w:De):DI:=λq u K=>w q u λd j=>match d with
 |.str z=>K (z.cps.toList.map λc=>D.str ⟨#[c]⟩) (λ_=>True) j
 |_=>False
def Uo (h:PD X a w):Bt X tg a (Ye w):=(Qn h).imp λσ H Q Z=>fL Z λF G J K A M k L=>by
 refine⟨F,G,J,_,A,M,k,λd u q v1 H1 C f1 M1 O=>?_⟩;split at C
 .rename_i z;subst O;refine⟨z,rfl,L _ _ u q _ H1 C f1 M1 λE H' I f M _ i=>⟨λd hd=>?_,λj=>by rw[fI]at j;exact j⟩⟩;have j:i<z.cps.toList.length:=by have:=(jA hd).1;rwa [fI]at this
  refine⟨j,λx SS U=>?_⟩;obtain⟨rfl,c,Y,rfl⟩:=U;rw[mD,Y]at hd;cases hd;exact⟨.refl _ _,M,rfl⟩
 .exact C.elim
mutual
def sW (n:Nat):D->Prop
 |.lst ds=>nO n ds
 |.tup ds=>nO n ds
 |.gP _ ds=>nO n ds
 |.mr k=>k<n
 |.obj _ _ ds=>nO n ds
 |.ki _ ds=>nO n ds
 |_=>True
def nO (n:Nat):List D->Prop
 |[]=>True
 |d::ds=>sW n d/\nO n ds
end
def Ao (n:Nat):MO->Prop
 |.box=>True
 |.lst ds=>nO n ds
 |.gP _ ds=>nO n ds
 |.mF _ _ ds=>nO n ds
 |.ins _ _ ds=>nO n ds
 |.NB _ ds=>nO n ds
 |.gx d _=>d.length<=n
 |.exc _=>True
def Fr.Og (f:Fr lg H0 φ H)(h:lg.length<=n):Fr lg H0 (φ.take n) H:=by obtain⟨⟨q,rfl,j⟩,k,d⟩:=f;exact⟨⟨q.take<|n - lg.length,by rw[List.take_append,br h],λc u=>j c<|bt u⟩,k,d⟩
def Fr.W7 (f:Fr lg H0 φ H)(h:lg.length<=j)(u:φ[j]?=some p):H0 p=none:=by obtain⟨⟨C,rfl,q⟩,k,d⟩:=f;rw[lQ h]at u;exact q p (lH u)
def Fr.Ta (f:Fr lg H0 φ H)(h:lg.length<=n)(C:H0 p=none):Fr lg H0 (φ.take n++[p]) H:=by obtain⟨⟨q,e,j⟩,k,d⟩:=f.Og h;exact⟨⟨q++[p],by rw[e,aS],λc u=>by rcases List.mem_append.mp u with z|z;exact j c z;rwa [List.mem_singleton.mp z]⟩,k,d⟩
mutual
theorem il.jk {n:Nat}{φ:List au}{H:Hp}:∀ {d:D} {v:V},sW n d->il φ H d v->il (φ.take n) H d v
 |.fX,_,_,h=>h
 |.bl _,_,_,h=>h
 |.int _,_,_,h=>h
 |.str _,_,_,h=>h
 |.lst _,_,m,h=>by obtain⟨p,vs,e,nn,hp,q⟩:=h;exact⟨p,vs,e,λz=>nn<|bt z,hp,fg.jk m q⟩
 |.tup _,_,m,h=>by obtain⟨p,vs,e,nn,hp,q⟩:=h;exact⟨p,vs,e,λz=>nn<|bt z,hp,fg.jk m q⟩
 |.gP _ _,_,m,h=>by obtain⟨p,fM,vs,e,nn,hp,q1,q2,q⟩:=h;exact⟨p,fM,vs,e,λz=>nn<|bt z,hp,q1,q2,fg.jk m q⟩
 |.mr k,_,m,h=>by obtain⟨p,e,q⟩:=h;exact⟨p,by rw[bu m];exact e,q⟩
 |.obj _ _ _,_,m,h=>by obtain⟨p,dx,fs,vs,e,nn,hp,q1,q2,q⟩:=h;exact⟨p,dx,fs,vs,e,λz=>nn<|bt z,hp,q1,q2,fg.jk m q⟩
 |.ki _ _,_,m,h=>by obtain⟨p,dx,fs,vs,e,nn,hp,q1,q2,q⟩:=h;exact⟨p,dx,fs,vs,e,λz=>nn<|bt z,hp,q1,q2,fg.jk m q⟩
 |.fn _,_,_,h=>h
theorem fg.jk {n:Nat}{φ:List au}{H:Hp}:∀ {ds:List D} {vs:List V},nO n ds->fg φ H ds vs->fg (φ.take n) H ds vs
 |[],_,_,h=>h
 |_::_,_,m,h=>by obtain⟨v,r,e,h1,h2⟩:=h;exact⟨v,r,e,il.jk m.1 h1,fg.jk m.2 h2⟩
end
theorem fK.jk (h:fK φ H μ)(hm:∀(k:Nat) (m:MO),k<n->μ[k]?=some m->Ao n m):fK (φ.take n) H (μ.take n):=by
 refine⟨h.nd.sublist<|List.take_sublist _ _,by rw[a9,a9,h.len],λk m e=>?_⟩;have hk:k<n:=by have:=(jA e).1;rw[a9]at this;lia
 rw[bu hk]at e;refine eU (h.at_ k m e) λp e1 d=>⟨p,by rwa [bu hk],?_⟩;have hb:=hm k m hk e;cases m with
 |box=>let ⟨q,ns,i,r,z,h1,h2,h3,h4⟩:=d;exact⟨q,ns,i,r,z,h1,h2,λz=>h3<|bt z,h4⟩
 |lst ds=>let ⟨vs,h1,h2⟩:=d;exact⟨vs,h1,h2.jk hb⟩
 |gP E ds=>let ⟨j,vs,h1,h2,h3,h4⟩:=d;exact⟨j,vs,h1,h2,h3,h4.jk hb⟩
 |mF o j ds=>exact⟨d.1,d.2.jk hb⟩
 |ins C ns ds=>let ⟨dx,fs,h1,h2,h3⟩:=d;exact⟨dx,fs,h1,h2,h3.jk hb⟩
 |NB E ds=>let ⟨j,h1,h2,h3⟩:=d;exact⟨j,h1,h2,h3.jk hb⟩
 |gx u F=>exact⟨d.1.Og hb,d.2⟩
 |exc c=>exact d
mutual
theorem il.bound {φ:List au}{H:Hp}:∀ {d:D} {v:V},il φ H d v->sW φ.length d
 |.fX,_,_=>True.intro
 |.bl _,_,_=>True.intro
 |.int _,_,_=>True.intro
 |.str _,_,_=>True.intro
 |.lst _,_,h=>by obtain⟨p,vs,e,nn,hp,q⟩:=h;exact fg.bound q
 |.tup _,_,h=>by obtain⟨p,vs,e,nn,hp,q⟩:=h;exact fg.bound q
 |.gP _ _,_,h=>by obtain⟨p,fM,vs,e,nn,hp,q1,q2,q⟩:=h;exact fg.bound q
 |.mr k,_,h=>by obtain⟨p,e,q⟩:=h;exact(jA e).1
 |.obj _ _ _,_,h=>by obtain⟨p,dx,fs,vs,e,nn,hp,q1,q2,q⟩:=h;exact fg.bound q
 |.ki _ _,_,h=>by obtain⟨p,dx,fs,vs,e,nn,hp,q1,q2,q⟩:=h;exact fg.bound q
 |.fn _,_,_=>True.intro
theorem fg.bound {φ:List au}{H:Hp}:∀ {ds:List D} {vs:List V},fg φ H ds vs->nO φ.length ds
 |[],_,_=>True.intro
 |_::_,_,h=>by obtain⟨v,r,e,h1,h2⟩:=h;exact⟨il.bound h1,fg.bound h2⟩
end
theorem fK.bound (h:fK φ H μ):∀(k:Nat) (m:MO),μ[k]?=some m->Ao μ.length m:=λk m e=>by
 refine eU (h.at_ k m e) λp e1 d=>?_;rw[<- h.len];cases m with
 |box=>exact True.intro
 |lst ds=>let ⟨vs,h1,h2⟩:=d;exact h2.bound
 |gP u ds=>let ⟨j,vs,h1,h2,h3,h4⟩:=d;exact h4.bound
 |mF o j ds=>exact d.2.bound
 |ins C ns ds=>let ⟨dx,fs,h1,h2,h3⟩:=d;exact h3.bound
 |NB u ds=>let ⟨j,h1,h2,h3⟩:=d;exact h3.bound
 |gx q F=>obtain⟨⟨E,e,_⟩,_⟩:=d.1;show q.length<=φ.length;rw[e,i8];lia
 |exc c=>exact True.intro
def km {d:az au}(j:p∈d)(h:q∉d):q∉d.take n++[p]:=λz=>by
 rcases List.mem_append.mp z with z|z
 .exact h (bt z)
 .exact h (by rwa [List.mem_singleton.mp z])
mutual
theorem il.Yt {n:Nat}{oX:List au}{H:Hp}{p:au}(hp:p∈oX):∀ {d:D} {v:V},sW n d->il oX H d v->il (oX.take n++[p]) H d v
 |.fX,_,_,h=>h
 |.bl _,_,_,h=>h
 |.int _,_,_,h=>h
 |.str _,_,_,h=>h
 |.lst _,_,m,h=>by obtain⟨q,vs,e,nn,hq,z⟩:=h;exact⟨q,vs,e,km hp nn,hq,fg.nD hp m z⟩
 |.tup _,_,m,h=>by obtain⟨q,vs,e,nn,hq,z⟩:=h;exact⟨q,vs,e,km hp nn,hq,fg.nD hp m z⟩
 |.gP _ _,_,m,h=>by obtain⟨q,fM,vs,e,nn,hq,q1,q2,z⟩:=h;exact⟨q,fM,vs,e,km hp nn,hq,q1,q2,fg.nD hp m z⟩
 | .mr k,_,m,h=>by
  obtain⟨q,e,z⟩:=h;have hk:k<(oX.take n).length:=by rw[a9];have:=(jA e).1;have m':k<n:=m;lia
  exact⟨q,by rw[pF hk,bu m];exact e,z⟩
 |.obj _ _ _,_,m,h=>by obtain⟨q,dx,fs,vs,e,nn,hq,q1,q2,z⟩:=h;exact⟨q,dx,fs,vs,e,km hp nn,hq,q1,q2,fg.nD hp m z⟩
 |.ki _ _,_,m,h=>by obtain⟨q,dx,fs,vs,e,nn,hq,q1,q2,z⟩:=h;exact⟨q,dx,fs,vs,e,km hp nn,hq,q1,q2,fg.nD hp m z⟩
 |.fn _,_,_,h=>h
theorem fg.nD {n:Nat}{oX:List au}{H:Hp}{p:au}(hp:p∈oX):∀ {ds:List D} {vs:List V},nO n ds->fg oX H ds vs->fg (oX.take n++[p]) H ds vs
 |[],_,_,h=>h
 |_::_,_,m,h=>by obtain⟨v,r,e,h1,h2⟩:=h;exact⟨v,r,e,il.Yt hp m.1 h1,fg.nD hp m.2 h2⟩
end
def qh (R:D->D->Prop)(ds es:az D):Prop:=ds.length=es.length/\∀(i:Nat) (a b:D),ds[i]?=some a->es[i]?=some b->R a b
def vX (n:Nat)(μ:MS):Nat->D->D->Prop
 |0,d,d'=>d'=d/\sW n d
 |k+1,d,d'=>(d'=d/\sW n d)\/(∃ j ds es,d=.mr j/\n<=j/\μ[j]?=some (.lst ds)/\d'=.lst es/\qh (vX n μ k) ds es)\/(∃ ds es,d=.lst ds/\d'=.lst es/\qh (vX n μ k) ds es)\/(∃ ds es,d=.tup ds/\d'=.tup es/\qh (vX n μ k) ds es)\/(∃ j ks ds es,d=.mr j/\n<=j/\μ[j]?=some (.gP ks ds)/\d'=.gP ks es/\qh (vX n μ k) ds es)
theorem fg.ve:∀ {ds:az D} {vs:az V},ds.length=vs.length->(∀(i:Nat) (d:D) (v:V),ds[i]?=some d->vs[i]?=some v->il φ H d v)->fg φ H ds vs
 | [],vs,hl,_=>by cases vs with
  |nil=>rfl
  |cons v r=>contradiction
 | d::ds,vs,hl,h=>by cases vs with
  |nil=>cases hl
  |cons v r=>exact⟨v,r,rfl,h 0 d v rfl rfl,fg.ve (by simpa using hl) λi a b e1 j=>h abe a b (by simpa using e1)<|by simpa using j⟩
def vX.is (M:fK φ H μ)(F:∀ {j:Nat} {p:au},n<=j->φ[j]?=some p->p∉φ.take n):∀ {k:Nat} {d d':D} {v:V},vX n μ k d d'->il φ H d v->il (φ.take n) H d' v:=by
 intro k;induction k with
 |zero=>intro d d' v h i;obtain⟨rfl,hb⟩:=h;exact i.jk hb
 | succ k O =>
  have all:∀ {E es:az D} {q:az V},qh (vX n μ k) E es->fg φ H E q->fg (φ.take n) H es q:=λ{E es q} ha hd =>fg.ve (by rw[hd.len,ha.1]) λi b v e1 Z=>by exact eU (hd.AF Z) λa Y G=>O (ha.2 i a b Y e1) G
  intro d d' v h i;rcases h with⟨rfl,hb⟩|⟨j,E,es,rfl,J,e,rfl,ha⟩|⟨E,es,rfl,rfl,ha⟩|⟨E,es,rfl,rfl,ha⟩|⟨j,ks,E,es,rfl,J,e,rfl,ha⟩
  .exact i.jk hb
  .obtain⟨p,u,rfl⟩:=i;obtain⟨L,e1,q,G,hd⟩:=M.at_ j _ e;rw[u]at e1;cases e1;exact⟨p,q,rfl,F J u,G,all ha hd⟩
  .refine jz i λp q C hn u hd=>?_;subst C;exact⟨p,q,rfl,λz=>hn<|bt z,u,all ha hd⟩
  .refine jz i λp q C hn u hd=>?_;subst C;exact⟨p,q,rfl,λz=>hn<|bt z,u,all ha hd⟩
  .obtain⟨p,u,rfl⟩:=i;obtain⟨L,e1,I,q,G,U,Q,hd⟩:=M.at_ j _ e;rw[u]at e1;cases e1;exact⟨p,I,q,rfl,F J u,G,U,Q,all ha hd⟩
def vY (n:Nat)(μ:MS):Nat->D->D->Prop
 |0,d,d'=>d'=d/\sW n d
 |k+1,d,d'=>(d'=d/\sW n d)\/(∃ j ds es,d=.mr j/\n<=j/\μ[j]?=some (.lst ds)/\d'=.lst es/\qh (vY n μ k) ds es)\/(∃ ds es,d=.lst ds/\d'=.lst es/\qh (vY n μ k) ds es)\/(∃ ds es,d=.tup ds/\d'=.tup es/\qh (vY n μ k) ds es)\/(∃ j o q ds es,d=.mr j/\n<=j/\μ[j]?=some (.mF o q ds)/\d'=.ki (q.map Zx) es/\qh (vY n μ k) ds es)\/(∃ j C ns ds es,d=.mr j/\n<=j/\μ[j]?=some (.ins C ns ds)/\d'=.obj C ns es/\qh (vY n μ k) ds es)
def vY.is (M:fK φ H μ)(G:∀ {j:Nat} {p:au},n<=j->φ[j]?=some p->p∉φ.take n):∀ {k:Nat} {d d':D} {v:V},vY n μ k d d'->il φ H d v->il (φ.take n) H d' v:=by
 intro k;induction k with
 |zero=>intro d d' v h i;obtain⟨rfl,hb⟩:=h;exact i.jk hb
 | succ k Q =>
  have all:∀ {F es:az D} {E:az V},qh (vY n μ k) F es->fg φ H F E->fg (φ.take n) H es E:=λ{F es E} ha hd =>fg.ve (by rw[hd.len,ha.1]) λi b v e1 Z=>by exact eU (hd.AF Z) λa Y I=>Q (ha.2 i a b Y e1) I
  intro d d' v h i;rcases h with⟨rfl,hb⟩|⟨j,F,es,rfl,J,e,rfl,ha⟩|⟨F,es,rfl,rfl,ha⟩|⟨F,es,rfl,rfl,ha⟩|⟨j,o,L,F,es,rfl,J,e,rfl,ha⟩|⟨j,C,ns,F,es,rfl,J,e,rfl,ha⟩
  .exact i.jk hb
  .obtain⟨p,u,rfl⟩:=i;obtain⟨O,e1,E,I,hd⟩:=M.at_ j _ e;rw[u]at e1;cases e1;exact⟨p,E,rfl,G J u,I,all ha hd⟩
  .refine jz i λp E q hn u hd=>?_;subst q;exact⟨p,E,rfl,λz=>hn<|bt z,u,all ha hd⟩
  .refine jz i λp E q hn u hd=>?_;subst q;exact⟨p,E,rfl,λz=>hn<|bt z,u,all ha hd⟩
  .refine eU i λp u q=>?_;subst q;refine jF (M.at_ j _ e) λO e1 I hd=>?_;rw[u]at e1;cases e1;exact⟨p,o,L,_,rfl,G J u,I,rfl,rfl,all ha hd⟩
  .refine eU i λp u q=>?_;subst q;obtain⟨O,e1,dx,fs,I,U,hd⟩:=M.at_ j _ e;rw[u]at e1;cases e1;exact⟨p,dx,fs,_,rfl,G J u,I,U,rfl,all ha hd⟩
inductive Fz (n:Nat)(K:DK):DK where
 |keep {d μ} (k:K d μ):Fz n K d μ
 |drop {d μ} (hd:sW n d) (hm:∀(j:Nat) (m:MO),j<n->μ[j]?=some m->Ao n m) (k:K d (μ.take n)):Fz n K d μ
 |lst {j ds μ} (hj:n<=j) (e:μ[j]?=some (.lst ds)) (hd:nO n ds) (hm:∀(j:Nat) (m:MO),j<n->μ[j]?=some m->Ao n m) (k:K (.lst ds) (μ.take n)):Fz n K (.mr j) μ
 |one {j ds μ} (hj:n<=j) (e:μ[j]?=some (.lst ds)) (hd:nO n ds) (hm:∀(j:Nat) (m:MO),j<n->μ[j]?=some m->Ao n m) (k:K (.mr n) (μ.take n++[.lst ds])):Fz n K (.mr j) μ
 |deep {f d d' μ} (e:vX n μ f d d') (hm:∀(j:Nat) (m:MO),j<n->μ[j]?=some m->Ao n m) (k:K d' (μ.take n)):Fz n K d μ
 |gP {j ks ds μ} (hj:n<=j) (e:μ[j]?=some (.gP ks ds)) (hd:nO n ds) (hm:∀(j:Nat) (m:MO),j<n->μ[j]?=some m->Ao n m) (k:K (.gP ks ds) (μ.take n)):Fz n K (.mr j) μ
 |obj {j C ns ds μ} (hj:n<=j) (e:μ[j]?=some (.ins C ns ds)) (hd:nO n ds) (hm:∀(j:Nat) (m:MO),j<n->μ[j]?=some m->Ao n m) (k:K (.obj C ns ds) (μ.take n)):Fz n K (.mr j) μ
 |ki {j o fM ds μ} (hj:n<=j) (e:μ[j]?=some (.mF o fM ds)) (hd:nO n ds) (hm:∀(j:Nat) (m:MO),j<n->μ[j]?=some m->Ao n m) (k:K (.ki (fM.map Zx) ds) (μ.take n)):Fz n K (.mr j) μ
 |O2 {f d d' μ} (e:vY n μ f d d') (hm:∀(j:Nat) (m:MO),j<n->μ[j]?=some m->Ao n m) (k:K d' (μ.take n)):Fz n K d μ
def tZ.fz {K:DK}(M:fK φ H μ)(L:tZ φ H K Q):tZ φ H (Fz μ.length K) Q:=λd μ' U v Z k f F i=>by
 have u:U.take μ.length=φ:=by obtain⟨⟨ψ,rfl,_⟩,_,_⟩:=f;rw[<- M.len,bp]
 have f0:Fr φ H (U.take μ.length) Z:=by rw[u];exact⟨⟨[],by simp,λ_ h=>nomatch h⟩,f.keep,f.Wl⟩
 have J:∀ {j:Nat} {p:au},μ.length<=j->U[j]?=some p->p∉U.take μ.length:=λ{j p} hj e E=>by obtain⟨i,hi,ei⟩:=bj E;rw[a9]at hi;rw[List.getElem_take]at ei;obtain⟨hj',ej⟩:=jA e;exact List.pairwise_iff_getElem.mp F.nd i j Zs hj' Zs (ei.trans ej.symm)
 cases k with
 |keep k=>exact L d μ' U v Z k f F i
 |drop hd hm k=>exact L d _ _ v Z k f0 (F.jk hm) (i.jk hd)
 | @lst j ds _ hj e hd hm k =>refine eU i λp E I=>?_;subst I;obtain⟨p',e1,vs,hv,ha⟩:=F.at_ j _ e;rw[E]at e1;cases e1;exact L _ _ _ _ Z k f0 (F.jk hm) ⟨p,vs,rfl,J hj E,hv,ha.jk hd⟩
 | @one j ds _ hj e hd hm k =>
  refine eU i λp E I=>?_;subst I;obtain⟨p',e1,vs,hv,ha⟩:=F.at_ j _ e;rw[E]at e1;cases e1;have M0:=F.jk hm;have Y0:p∉φ:=by have:=J hj E;rwa [u]at this
  have hH:H p=none:=by
   obtain⟨⟨ψ,rfl,hψ⟩,_,_⟩:=f;refine hψ p ?_;have q:=lH E;rcases List.mem_append.mp q with q|q
   .exact absurd q Y0
   .exact q
  have M1:=M0;rw[u]at M1;have f1:Fr φ H (φ++[p]) Z:=⟨⟨[p],rfl,λc hc=>by rw[List.mem_singleton.mp hc];exact hH⟩,f.keep,f.Wl⟩;have len:(μ'.take μ.length).length=μ.length:=by rw[<- M1.len,M.len]
  have pin:p∈U:=lH E;have hdv:fg (φ++[p]) Z ds vs:=by have q:=fg.nD pin hd ha;rwa [u]at q
  have M2:fK (φ++[p]) Z (μ'.take μ.length++[.lst ds]):=by
   refine⟨?_,by rw[i8,i8,M1.len];rfl,λk m ek=>?_⟩
   .rw[cv];exact⟨M.nd,by simp,λa ha b hb=>by rw[List.mem_singleton.mp hb];intro z;exact Y0 (by rw[<- z];exact ha)⟩
   .by_cases hk:k<μ.length
    .rw[pF (by rw[len];exact hk)]at ek;rw[bu hk]at ek;refine eU (F.at_ k m ek) λq e1 e2=>?_;have e1':φ[k]?=some q:=by rw[<- u,bu hk];exact e1
     refine⟨q,by rw[pF (by rw[M.len];exact hk)];exact e1',?_⟩;have hb:=hm k m hk ek;cases m with
     | box =>exact XS e2 λb ns i r z O Y h3 h4=>⟨b,ns,i,r,z,O,Y,by have:=km (n:=μ.length) pin h3;rwa [u]at this,h4⟩
     |lst es=>obtain⟨us,O,Y⟩:=e2;exact⟨us,O,by have:=fg.nD pin hb Y;rwa [u]at this⟩
     |gP ks es=>obtain⟨G,us,O,Y,h3,h4⟩:=e2;exact⟨G,us,O,Y,h3,by have:=fg.nD pin hb h4;rwa [u]at this⟩
     |mF o G es=>exact⟨e2.1,by have:=fg.nD pin hb e2.2;rwa [u]at this⟩
     |ins C ns es=>obtain⟨dx,fs,O,Y,h3⟩:=e2;exact⟨dx,fs,O,Y,by have:=fg.nD pin hb h3;rwa [u]at this⟩
     |NB ks es=>obtain⟨G,O,Y,h3⟩:=e2;exact⟨G,O,Y,by have:=fg.nD pin hb h3;rwa [u]at this⟩
     |gx lg H0=>exact⟨by have:=e2.1.Ta (n:=μ.length) hb (p:=p)<|e2.1.W7 (aT hb hj) E;rwa [u]at this,e2.2⟩
     |exc c=>exact e2
    .have Xp:k=μ.length:=by have:=(jA ek).1;rw[i8,aX,len]at this;lia
     subst Xp
     rw[lQ (by rw[len];exact aB _),len,bc]at ek
     cases ek
     exact⟨p,by rw[lQ (by rw[M.len];exact aB _),M.len,bc];rfl,vs,hv,hdv⟩
  exact L _ _ _ _ Z k f1 M2 ⟨p,by rw[lQ (by rw[M.len];exact aB _),M.len,bc];rfl,rfl⟩
 |@deep f' d d' _ e hm k=>exact L _ _ _ _ Z k f0 (F.jk hm) (e.is F J i)
 | @gP j ks ds _ hj e hd hm k =>obtain⟨p,E,rfl⟩:=i;obtain⟨p',e1,G,vs,hv,O,Y,ha⟩:=F.at_ j _ e;rw[E]at e1;cases e1;exact L _ _ _ _ Z k f0 (F.jk hm) ⟨p,G,vs,rfl,J hj E,hv,O,Y,ha.jk hd⟩
 | @obj j C ns ds _ hj e hd hm k =>refine eU i λp E I=>?_;subst I;obtain⟨p',e1,dx,fs,O,Y,h3⟩:=F.at_ j _ e;rw[E]at e1;cases e1;exact L _ _ _ _ Z k f0 (F.jk hm) ⟨p,dx,fs,_,rfl,J hj E,O,Y,rfl,h3.jk hd⟩
 | @ki j o G ds _ hj e hd hm k =>refine eU i λp E I=>?_;subst I;obtain⟨p',e1,O,h3⟩:=F.at_ j _ e;rw[E]at e1;cases e1;exact L _ _ _ _ Z k f0 (F.jk hm) ⟨p,o,G,_,rfl,J hj E,O,rfl,rfl,h3.jk hd⟩
 |@O2 f' d d' _ e hm k=>exact L _ _ _ _ Z k f0 (F.jk hm) (e.is F J i)
def BX (n:Nat)(K:DK):DN:={ nx:=λ_ j=>Fz n K .fX j,rt:=λd j=>Fz n K d j}
def nZ (N:az Str)(ds:az D):DE:=ds.map some++List.replicate (N.length - ds.length) none
theorem j7.start {φ:az au}{H:Hp}{N:az Str}{ds:az D}{vs:az V}(h:fg φ H ds vs):j7 φ H (nZ N ds) (start N vs):=by
 have hl:=h.len;delta nZ L2.start;refine⟨by simp[hl],λi d e=>?_⟩;by_cases u:i<ds.length
 .rw[pF (by rw[fI];exact u),mD]at e;have C:ds[i]?=some d:=by
   cases q:ds[i]? with
   |none=>rw[q]at e;cases e
   |some z=>rw[q]at e;cases e;rfl
  exact eU (h.get C) λv j hd=>⟨v,by rw[pF aaH,mD,j];rfl,hd⟩
 .rw[lQ aaH]at e;have:=lH e;have:=List.eq_of_mem_replicate this;cases this
section
variable {K:aj}
def oJ.YR {x qual:Str}{st:Stmt}{f:au}{fd:aq}{N ps:az Str}{k:Nat}{fs:jo}(F:oJ K x qual st f fd)(S:gw N ps (fh st))(len:∀ ds μ u,fs ds μ u->ds.length=ps.length)
 (C:∀(d:av) (A:Around) (fb:az Env) (s:ar) (H:Hp) (E:XK),gZ k (A.deeper<|envOfC qual (fh st) s.heap.objs.size f d) ->
   ∃ W,Fl (o4 wq P w K mg ah N qual (fh st) f d A fb s H E).QG (g9 st) W/\∀ ds μ u,(∀(j:Nat) (m:MO),μ[j]?=some m->Ao μ.length m)->nO μ.length ds->fs ds μ u->W (BX μ.length u) (nZ N ds) μ):ij P w K mg ah wq (k+1) f fd ps (jg fs):=by
 refine F.ok S (λvs H Q E h=>?_) (λd A fb s H vs Q E hr h=>?_)
 .refine fL h λU ds μ u ha M O L=>?_;rw[ha.len];exact len ds μ u O
 .exact fL h λU ds μ u ha M O L=>eU (C d A fb s H E hr) λW hW q=>⟨_,hW,U,nZ N ds,μ,BX μ.length u,.start ha,M,q ds μ u M.bound (M.len▸ha.bound) O,⟨λZ J I Y H' G f' A' M'=>L.fz M .fX J I .fX H' G f' M' rfl,L.fz M,λ_ _ _ _ _ G _ _ _=>G.elim,λ_ _ _ _ _ G _ _ _=>G.elim⟩⟩
end
def BC:typeLookup (.type "zip") "__len__"=pure none:=by kernel_rfl
def zz:typeLookup (.type "zip") "__length_hint__"=pure none:=by kernel_rfl
def NY (z TI TO i1 i2 l1 l2:au)(i:Nat)(xs ys:Array av)(h:Heap):Prop:=ZZ false z TI TO i1 i2 l1 l2 i h/\jf false h l1 xs/\jf false h l2 ys
section
variable {z TI TO i1 i2 l1 l2:au}
def NY.next (Z:NY z TI TO i1 i2 l1 l2 i xs ys s.heap)(D:ZipApart z TI TO i1 i2 l1 l2)(u:xs[i]?=some x)(q:ys[i]?=some y)
 (C:∀ h',NY z TI TO i1 i2 l1 l2 abe xs ys h'->IsPair h' s.heap.objs.size x y->ZK z TO i1 i2 s.heap h'->Q (some<|.ref s.heap.objs.size) {s with heap:=h'}):wpAny (model P w) A (pyNext<|.ref z) Q E s:=
 U0 Z.1 λ_ _ _ _ j _=>x3 j (Dj D Z.1 Z.2.1 Z.2.2 u q λh' a b c d _ e=>C h' ⟨a,b,c⟩ d e)
def NY.over (hh:A.handled=none)(Z:NY z TI TO i1 i2 l1 l2 i xs ys s.heap)(D:ZipApart z TI TO i1 i2 l1 l2)(j:xs[i]?=none\/ys[i]?=none)
 (C:∀ h',ZK z TO i1 i2 s.heap h'->Q none {s with heap:=h'}):wpAny (model P w) A (pyNext<|.ref z) Q E s:=
 U0 Z.1 λ_ _ _ _ d _=>x3 d (Dk hh D Z.1 Z.2.1 Z.2.2 j λh' e hk u=>jj u λo q=>⟨⟨o,e,rfl,q⟩,C h' hk⟩)
def NY.but {S:au}{h h':Heap}(Z:NY z TI TO i1 i2 l1 l2 i xs ys h)(e:Heap.ExtBut S h h')(n:S∉[z,TI,TO,i1,i2,l1,l2]):NY z TI TO i1 i2 l1 l2 i xs ys h' :=
 ⟨Z.1.keep λb hb o q=>e b o (λr=>n (by simp only[bq,a7,ck]at hb ⊢;lia)) q,Z.2.1.extBut e λr=>n<|by simp[r],Z.2.2.extBut e λr=>n<|by simp[r]⟩
end
def tE (H:Hp)(xs ys:az V)(us:az V):Prop:=∀(i:Nat) (u:V),us[i]?=some u->∃ T x y,u=V.ref T/\H T=some (.tup [x,y])/\xs[i]?=some x/\ys[i]?=some y
def tE.same {H H':Hp}{xs ys us:az V}(h:tE H xs ys us)(s:gm H H'):tE H' xs ys us:=λi u e=>let ⟨T,x,y,a,b,c⟩:=h i u e;⟨T,x,y,a,s _ _ b,c⟩
def He {A:Around}{R:Result->ar->Prop}{z TI TO C i2 l1 l2 S:au}{H0:Hp}{xs ys:az V}{xv yv:az av}{res:av}(hh:A.handled=none)(D:ZipApart z TI TO C i2 l1 l2)(rx:fF xs xv)(ry:fF ys yv)(hz1:xs.length<=sizeLine)
 (L:S∉[z,TI,TO,C,i2,l1,l2])
 (hR:∀ s' H' us d c,Inv X aa σ H' s'->gm H0 H'->H' S=none->s'.heap.get? S=some (lobj d c)->fF us d->us.length=min xs.length ys.length->tE H' xs ys us->R (.ok<|.ret res) s'):
 ∀(k i:Nat) (s:ar) (H:Hp) (us:az V) (d:az av) (c:Nat),min xs.length ys.length - i=k->i<=min xs.length ys.length->us.length=i->Inv X aa σ H s->gm H0 H->(∀ b∈[z,TO,C,i2,S],kZ X aa H b)->s.heap.get? S=some (lobj d c)->fF us d->tE H xs ys us ->
  NY z TI TO C i2 l1 l2 i xv.toArray yv.toArray s.heap->codeAny Zt A (.builtin "list.extend.loop" ⟨[.ref S,.ref z,res],[]⟩) R s:=by
 have lx:=rx.length
 have ly:=ry.length
 have E:S≠z/\S≠TO/\S≠C/\S≠i2:=by simp only[bq,a7,ck,not_or]at L;exact⟨L.1,L.2.2.1,L.2.2.2.1,L.2.2.2.2.1⟩
 have U:∀ {h G:Heap},ZK z TO C i2 h G->∀ b o,b∉[z,TO,C,i2]->h.get? b=some o->G.get? b=some o:=λkk b o hb e=>kk b o (λq=>hb<|by simp[q]) (λq=>hb<|by simp[q]) (λq=>hb<|by simp[q]) (λq=>hb<|by simp[q]) e
 have sub:∀ b∈[z,TO,C,i2],b∈[z,TO,C,i2,S]:=λb hb=>by
  simp only[bq,a7,ck]at hb ⊢
  rcases hb with q|q|q|q<;>simp[q]
 have Q:S∉[z,TO,C,i2]:=by simp only[bq,a7,ck,not_or];exact⟨E.1,E.2.1,E.2.2.1,E.2.2.2⟩
 intro k
 induction k with
 | zero =>
  intro i s H us d c hk hi hu I hS M Y W pr Z;have ei:i=min xs.length ys.length:=by lia
  refine d8 F.entry_extend_loop ?_;rw[Around.under_plainId dX _];show wpAny _ A.in1 (pyNext (.ref z)>>=_) _ _ s;refine fj (Z.over (A:=A.in1) hh D (by simp;lia) λG kk=>?_);have I':=I.zI (ch:=[z,TO,C,i2]) (λb hb=>M b<|sub b hb)<|U kk;exact aC (hR _ H us d c I' hS (M S<|by simp).1 (U kk _ _ Q Y) W (hu.trans ei) pr)
 | succ k ih =>
  intro i s H us d c hk hi hu I hS M Y W pr Z;have SG:i<min xs.length ys.length:=by lia
  obtain⟨x,ex⟩:∃ x,xs[i]?=some x:=⟨xs[i]' Zs,iO _⟩;obtain⟨y,ey⟩:∃ y,ys[i]?=some y:=⟨ys[i]' Zs,iO _⟩;refine eU (rx.get ex) λu eu ru=>eU (ry.get ey) λv ev rv'=>?_;have lu:=W.length;refine d8 F.entry_extend_loop ?_;rw[Around.under_plainId dX _];show wpAny _ A.in1 (pyNext (.ref z)>>=_) _ _ s;refine fj (Z.next (A:=A.in1) D (by simpa using eu) (by simpa using ev) λG Z' hT kk=>?_);have I':=I.wU (ch:=[z,TO,C,i2]) (λb hb=>M b<|sub b hb) (U kk) hT ru rv';have hn:H s.heap.objs.size=none:=I.fO.fresh<|aB _;have S1:gm H (upd H s.heap.objs.size<|.tup [x,y]):=gm.upd hn;have neT:∀ b∈[z,TO,C,i2,S],b≠s.heap.objs.size:=λb hb q=>by
   have nl:S<s.heap.objs.size:=ic Y;refine sh Z.1 λ_ _ _ _ z1 _ _ z2 z3 z4=>?_;obtain⟨_,z3⟩:=z3.ex;obtain⟨_,z4⟩:=z4.ex;have nz:z<s.heap.objs.size:=ic z1;have n1:C<s.heap.objs.size:=ic z3;have n2:i2<s.heap.objs.size:=ic z4;have n3:TO<s.heap.objs.size:=ic z2;simp only[bq,a7,ck]at hb;rcases hb with e|e|e|e|e
   .exact aN nz (e.symm.trans q)
   .exact aN n3 (e.symm.trans q)
   .exact aN n1 (e.symm.trans q)
   .exact aN n2 (e.symm.trans q)
   .exact aN nl (e.symm.trans q)
  have J:=U kk _ _ Q Y;have P:∀ b∈[z,TO,C,i2,S],kZ X aa (upd H s.heap.objs.size<|.tup [x,y]) b:=λb hb=>⟨by rw[fB (neT b hb)];exact(M b hb).1,(M b hb).2⟩;show wpAny _ A.in1 (updateSeq S aae>>=_) _ _ _;refine fj (cM J rfl (aC ⟨dZ dX _,?_⟩) (by rw[aI];lia) (by show(d.toArray.push _).size<=sizeLine+1;rw[Array.size_push,aI];lia));have but:Heap.ExtBut S G (G.update S (Obj.mapSeq aae)):=λb o hb e=>(bg _ _<|bB hb).trans e;have gS2:=bV (Obj.mapSeq aae) J rfl;have I2:=I'.zI (ch:=[S]) (h'':=G.update S (Obj.mapSeq aae)) (λb hb=>by rw[List.mem_singleton.mp hb];exact P S<|by simp) λb o hb e=>but b o (λq=>hb<|by simp[q]) e;have e2:d.toArray.push (Value.ref s.heap.objs.size)=(d++[Value.ref s.heap.objs.size]).toArray:=by simp
  obtain⟨c',gS3⟩:∃ c',(G.update S (Obj.mapSeq aae)).get? S=some (lobj (d++[Value.ref s.heap.objs.size]) c'):=by have q:=PySem.IsL.update J aae;rw[e2]at q;exact⟨_,q⟩
  refine ih abe _ _ (us++[.ref s.heap.objs.size]) _ c' Zs SG (by rw[i8,aX,hu]) I2 (hS.trans S1) P gS3 (W.append<|.cons (show fH (V.ref s.heap.objs.size) _ from rfl) .nil) ?_ (Z'.but but L)
  .intro j u' O;by_cases hj:j<us.length
   .rw[pF hj]at O;exact pr.same S1 j u' O
   .rw[lQ Zs]at O;have hj0:j - us.length=0:=by have:=(jA O).1;rw[aX]at this;lia
    rw[hj0]at O;cases O;have:j=i:=by lia
    subst this;exact⟨_,x,y,rfl,eZ,ex,ey⟩
def Jg {H:Hp}{s:ar}{a b:au}{xs ys:az V}{Q:VK}(I:Inv X aa σ H s)(fU:X.fU=true)(ha:H a=some (.lst xs))(hb:H b=some (.lst ys))
 (hQ:∀ l us H',H l=none->gm H H'->H' l=some (.lst us)->us.length=min xs.length ys.length->tE H' xs ys us->Q (.ref l) H'):
 wpAny Zt X.A (call (.type "zip") [.ref a,.ref b]) (λv s1=>wpAny Zt X.A (call (.type "list") [v]) aad X.xe s1) X.xe s:=by
 obtain⟨z1,xv,n1,rx,lx,ea⟩:=I.j9 ha;obtain⟨z2,yv,n2,ry,ly,eb⟩:=I.j9 hb;have p1:jf false s.heap a xv.toArray:=⟨_,ea,rfl,n1,rfl⟩;have p2:jf false s.heap b yv.toArray:=⟨_,eb,rfl,n2,rfl⟩;have la:(a:Nat)<s.heap.objs.size:=ic ea;have lb:(b:Nat)<s.heap.objs.size:=ic eb;refine uB p1 p2 λj hz Xy Xx i1 i2 kp=>?_;have I1:Inv X aa σ H {s with heap:=j}:=I.af (t':=s.toks) kp;have D:ZipApart (s.heap.objs.size+4) (s.heap.objs.size+2) (s.heap.objs.size+3) s.heap.objs.size Zy a b:=zipApart_new la lb;refine callType_codes (Q₁:=λobj G=>obj=.ref j.objs.size/\G={s with heap:=j.push { cls:=.type "list",data:=.seq #[]}}) F.called_list (F.typeCall_list_1 _) F.entry_list_init (code_list_new _ ⟨rfl,rfl⟩) λobj G W=>?_;obtain⟨rfl,rfl⟩:=W;have hS:(j.push { cls:=.type "list",data:=.seq #[]}).get? j.objs.size=some (lobj [] 0):=aL _ rfl;refine⟨⟨_,hS,rfl⟩,F.args_list_init_2 _ _,?_⟩;have I2:Inv X aa σ H {s with heap:=j.push { cls:=.type "list",data:=.seq #[]}}:=I1.af (t':=s.toks) λ_ _ e=>iU _ e;have sz:s.heap.objs.size+4<j.objs.size:=ic hz;have Z:∀ c,s.heap.objs.size<=c->kZ X aa H c:=λc hc=>I.wz hc<|I.fO.fresh hc;refine fj ?_;delta Builtin.List.listItems;refine fj<|bT hS rfl (aC ?_);show wpAny _ X.A.in1.in1 (updateSeq j.objs.size (λ_=>#[])>>=λ_=>letGo (#[]:Array av).toList.reverse>>=λ_=>Builtin.List.listExtendWith (.ref j.objs.size) (.ref<|s.heap.objs.size+4) .none) _ _ _;refine fj<|cM hS rfl (fj<|dc ?_);have fill:∀(g:Heap) (tk c:Nat),(∀ d o,d≠j.objs.size->(j.push { cls:=.type "list",data:=.seq #[]}).get? d=some o->g.get? d=some o)->g.get? j.objs.size=some (lobj [] c) ->
  codeAny Zt X.A.in1 (.builtin "list.extend.loop" ⟨[.ref j.objs.size,.ref (s.heap.objs.size+4),.none],[]⟩) (wants (λr P=>r=.none/\EP X aa σ Q (.ref j.objs.size) P) X.xe) {s with heap:=g,toks:=tk}:=λg tk c kg gS=>by
  have y:∀ d o,j.get? d=some o->g.get? d=some o:=λd o e=>kg d o (aN<|ic e)<|iU _ e;have I3:Inv X aa σ H {s with heap:=g,toks:=tk}:=I1.af (t':=tk) y;have nS:j.objs.size∉[s.heap.objs.size+4,s.heap.objs.size+2,s.heap.objs.size+3,s.heap.objs.size,s.heap.objs.size+1,a,b]:=by simp only[bq,a7,ck,not_or];have sz':(s.heap.objs.size:Nat)+4<j.objs.size:=sz;refine⟨?_,?_,?_,?_,?_,bD<|dr la<|by lia,bD<|dr lb<|by lia⟩<;> (intro q;lia)
  refine He (A:=X.A.in1) (I.ok.hd fU) D rx ry z1 nS (H0:=H) ?_ _ 0 _ H [] [] c rfl (bx _) rfl I3 (gm.refl _) ?_ gS .nil (λi u e=>by simp at e) ⟨⟨_,_,_,_,y _ _ hz,.inl rfl,y _ _ Xy,y _ _ Xx,i1.at λ_ e=>y _ _ e,i2.at λ_ e=>y _ _ e⟩,⟨_,y _ _<|kp _ _ ea,rfl,n1,rfl⟩,⟨_,y _ _<|kp _ _ eb,rfl,n2,rfl⟩⟩
  .intro s' H' us Ju c' I' S' L gS' rv lu pr;refine⟨rfl,?_⟩;have M:=Z j.objs.size Zs;have I4:=I'.adopt (ys:=us) L M.2.1 (by have:=I.sz;lia) M.2.2.2.2.1 M.2.2.2.2.2 gS' rv Zs;exact⟨.ref j.objs.size,_,I4,rfl,hQ _ us _ (I.fO.fresh<|by lia) (S'.trans<|gm.upd L) eZ lu<|pr.same<|gm.upd L⟩
  .intro d hd;simp only[bq,a7,ck]at hd;refine Z d ?_;rcases hd with e|e|e|e|e<;>subst e<;>lia
 have E:=bV (Obj.mapSeq λ_=>(#[]:Array av)) hS rfl;have U:∀(d:au) (o:Obj),d≠j.objs.size->(j.push { cls:=.type "list",data:=.seq #[]}).get? d=some o->((j.push { cls:=.type "list",data:=.seq #[]}).update j.objs.size<|Obj.mapSeq λ_=>(#[]:Array av)).get? d=some o :=
  λd o hd e=>(bg _ _<|bB hd).trans e
 have Y:=U _ _ (aN sz)<|iU { cls:=.type "list",data:=.seq #[]} hz;have J:Shared.TypeIs {s with heap:=(j.push { cls:=.type "list",data:=.seq #[]}).update j.objs.size (Obj.mapSeq λ_=>(#[]:Array av))} (.ref<|s.heap.objs.size+4) "zip":=⟨_,Y,rfl⟩;delta Builtin.List.listExtendWith;refine fj<|wpAny_typeOf J ?_;have e1:Builtin.List.listSameRef (.ref j.objs.size) (.ref<|s.heap.objs.size+4)=false:=by simp only[Builtin.List.listSameRef];exact c7 (bD sz)
 have e2:(Value.type "zip"==Value.type "list")=false:=by decide
 have e3:(Value.type "zip"==Value.type "tuple")=false:=by decide
 simp only[e1,e2,e3,Bool.or_false,c5,d0];refine fj<|cW Y<|fj<|cg ?_;delta Builtin.List.listLengthHint;refine fj<|wpAny_specialOf J BC ?_;show wpAny _ _ (specialOf (Value.ref<|s.heap.objs.size+4) (Str.ofString "__length_hint__")>>=_) _ _ _;refine fj<|wpAny_specialOf J zz<|aC ?_;show wpAny _ _ (rule "list.extend.makes-room" >>= λ_=>Builtin.List.listTouch (.ref j.objs.size) >>= λ_ =>
  again (.builtin "list.extend.loop" ⟨[.ref j.objs.size,.ref (s.heap.objs.size+4),.none],[]⟩)) _ _ _
 refine fj<|ew<|fj ?_;show wpAny _ _ (updateSeq j.objs.size (·.push .none)>>=λ_=>updateSeq j.objs.size (·.pop)) _ _ _;refine fj<|cM E rfl ?_;have C:=bV (Obj.mapSeq (·.push Value.none)) E rfl;refine cM (hz:=by seq_fits) C rfl ?_;have O:=bV (Obj.mapSeq (·.pop)) C rfl;refine aC ⟨dZ dX _,fill _ s.toks _ (λd o hd e=>?_) O⟩;exact(bg _ _<|bB hd).trans ((bg _ _<|bB hd).trans<|U d o hd e)
def Zo (l:au):It :=
 ⟨λi H=>∃ d x,H l=some (.lst d)/\d[i]?=some x,
  λi H v j=>∃ T x,v=.ref T/\H T=none/\j=upd H T (.tup [.int i,x])/\∀ d,H l=some (.lst d)->d[i]?=some x,
  λi H=>∃ d,H l=some (.lst d)/\i=d.length⟩
def BI {P:ak}{w:ao}{K:aj}{elts:az Expr}{kk:Nat}{kQ:Pos}{e it l:au}(O:e≠it)(hle:l≠e)(Y:l≠it):
 Turn P w K aan (Zo l) [e,it] e (λi h=>(∃ old,IsEnum h e it i old)/\h.IsListIter it l i) where
 mem:=by simp
 obj:=λi h j b hb=>by
  obtain⟨⟨old,G⟩,o,M,hc,hd⟩:=j;simp only[bq,a7,ck]at hb;rcases hb with rfl|rfl
  .exact⟨_,G,λv q=>by cases q⟩
  .exact⟨o,M,λv q=>by rw[hd]at q;cases q⟩
 keep:=λi h h' j k=>by obtain⟨⟨old,G⟩,o,M,r⟩:=j;exact⟨⟨old,k e ZN _ G⟩,o,k it ZN _ M,r⟩
 item:=by
  intro X hP hw hK hc i F s σ H E I Z j hg;subst hP hw hK;obtain⟨⟨old,G⟩,C⟩:=j;refine lJ hg λxs x hl ex=>?_;obtain⟨_,d,n,r,_,M⟩:=I.j9 hl;have J:s.heap.IsList l d.toArray:=⟨_,M,rfl,n,rfl⟩;refine eU (r.get ex) λu eu ru=>?_;have SG:i<d.toArray.size:=by rw[aI];exact(jA eu).1
  have D:=Draws.list (prog:=X.prog) (w:=X.w) (A:=X.A.in1) aaQ it l Y d.toArray;refine wpAny_pyNext_enum_itemD D G ⟨C,J⟩ SG O (by simp[O,bB hle]) λy h1 tk hPy ho1 U hT hsz hk=>?_;have hy:y=u:=by
   have q:d[i]?=some y:=by simpa using hPy
   rw[eu]at q;exact(a5 q).symm
  subst hy;refine⟨_,rfl,wpAny_letOwnedTupleGo_enum ho1 λh2 he2 L=>?_⟩;have fr:∀ b∈[e,it],kZ X F H b:=Z;have Q:e<s.heap.objs.size:=ic G;have ne1:s.heap.objs.size≠e:=bD Q;have Xz:IsPair h2 s.heap.objs.size (.int i tk) y:=(L.2 _ ne1).trans hT;have kp:∀ b o,b∉[e,it]->s.heap.get? b=some o->h2.get? b=some o:=λb o hb q=>by have b1:b≠e:=λz=>hb (by simp[z]);have b2:b≠it:=λz=>hb (by simp[z]);exact(L.2 b b1).trans (hk b o b1 b2 q)
  have hn:H s.heap.objs.size=none:=I.fO.fresh<|aB _;have I1:=(I.wU (ch:=[e,it]) (h'':=h2) (x:=.int i) (y:=x) fr kp Xz ⟨tk,rfl⟩ ru).tok<|tk+1;refine⟨.ref s.heap.objs.size,_,I1,rfl,⟨_,x,rfl,hn,rfl,λzs q=>by rw[hl]at q;cases q;exact ex⟩,⟨⟨_,by simpa using he2⟩,U.1.at λo q=>(L.2 it<|bB O).trans q⟩,λb hb=>?_⟩;have lti:it<s.heap.objs.size:=by obtain⟨o,q,_⟩:=C;exact ic q
  rw[fB]
  .exact(Z b hb).1
  .simp only[bq,a7,ck]at hb;rcases hb with rfl|rfl
   .exact aN Q
   .exact aN lti
 done:=by
  intro X hP hw hK hc i F s σ H E I Z j hg;subst hP hw hK;obtain⟨⟨old,G⟩,C⟩:=j;obtain⟨xs,hl,ei⟩:=hg;obtain⟨_,d,n,r,ll,M⟩:=I.j9 hl;have J:s.heap.IsList l d.toArray:=⟨_,M,rfl,n,rfl⟩;have D:=Draws.list (prog:=X.prog) (w:=X.w) (A:=X.A.in1) aaQ it l Y d.toArray;have en:i=d.toArray.size:=by rw[aI,ei];exact ll
  exact wpAny_pyNext_enum_endD D G (by rw[<- en];exact⟨C,J⟩) λh' hx=>⟨rfl,I.zI (ch:=[e,it]) (λb hb=>Z b hb) λb o hb q=>hx b o (λz=>hb<|by simp[z]) q⟩
 self:=λ_ _ _ _ _ j h=>let ⟨⟨_,e⟩,_⟩:=j;eL e h
def Q5 (y:TA):TI:=λj H R=>y j H λu d=>match u with
 |[.ref l]=>∃ q,d l=some (.lst q)/\R (Zo l) d
 |_=>False
def Ir {elts:az Expr}{kk:Nat}{kQ:Pos}{G:TA}{p:Pos}(Y:Gl X "enumerate")(hm:X.mg "enumerate"=none)(ha:PA X [a] G)(hs:starEach [a] X.env=[(false,eval a X.env)]:=by rfl):
 PI X aan (.Call (.Name "enumerate" p) [a] [] pos) (Q5 G):=by
 intro d s F H R I h;refine Call_ (ku I Y hm (show bootBuiltins "enumerate"=some (.type "enumerate") by decide +kernel)<|bA (gc (ha pos d s F H _ I h) λus y MX=>?_) hs rfl);obtain⟨vs,M,C,P,q1⟩:=MX;try dsimp only at q1
 split at q1
 .rename_i l;refine eU q1 λxs hl q=>eU P.one λu E O=>?_;subst E;subst O;obtain⟨_,Q,n,r,ll,J⟩:=C.j9 hl;have lt:=ic J;refine call_enumerate_list ⟨_,J,rfl,n,rfl⟩ λZ L W U kp=>eL L ?_;have I2:Inv X d F M { y with heap:=Z}:=C.af (t':=y.toks) kp;refine⟨y.heap.objs.size+1,_,_,_,M,rfl,I2,BI (bD<|bZ _) (aN<|bw lt)<|aN lt,⟨⟨_,L⟩,W⟩,λb hb=>?_,q⟩;have j:y.heap.objs.size<=b:=by
   simp at hb;rcases hb with e|e<;>subst e
   .exact dH _
   .exact aB _
  exact C.wz j (C.fO.fresh j)
 .exact q1.elim
def Yd (w:DA):DI:=λC E K=>w C E λF d=>match F with
 |[x,y]=>opt (lv d x) λu=>opt (lv d y) λq=>K (List.zipWith aab u q) (λj=>lc x u j/\lc y q j) d
 |_=>False
def Jz {elts:az Expr}{kk:Nat}{kQ:Pos}{w:DA}{p:Pos}(hg:Gl X "zip")(hm:X.mg "zip"=none)(ha:rO X [a,b] w)(hs:starEach [a,b] X.env=[(false,eval a X.env),(false,eval b X.env)]:=by rfl)(yJ:starEach [b] X.env=[(false,eval b X.env)]:=by rfl):
 Bt X aan (.Call (.Name "zip" p) [a,b] [] pos) (Yd w):=(Ip hg hm ha hs yJ).imp λσ H Q h_=>fL h_ λφ ρ μ K A M k L=>by
 refine⟨φ,ρ,μ,_,A,M,k,λds J G vs H1 q f1 M1 i1=>?_⟩;split at q
 .rename_i x y;refine eU (fS q) λxs ex q=>eU (fS q) λys ey q=>?_
  .obtain⟨v,r,rfl,h1,u,r',rfl,h2,h3⟩:=i1;subst h3;refine fw (jv M1 h1 ex) λp1 E j Uz ax=>?_;subst j;refine fw (jv M1 h2 ey) λp2 C j Uy ay=>?_;subst j;refine⟨false,E,C,Uz,Uy,L _ _ J G _ H1 q f1 M1 λI H' μ' f F c i=>eU (oQ M1 h1 ex f F c.1) λE Z ax=>eU (oQ M1 h2 ey f F c.2) λC Y ay=>?_⟩;have lx:=ax.len;have ly:=ay.len;refine⟨λd hd=>?_,λhi=>⟨E,C,Z,Y,by rw[bO]at hi;lia⟩⟩;rw[bU]at hd;cases e1:xs[i]? with
   |none=>rw[e1]at hd;cases hd
   | some dx =>
    cases e2:ys[i]? with
    |none=>rw[e1,e2]at hd;cases hd
    | some dy =>rw[e1,e2]at hd;cases hd;refine eU (ax.get e1) λP g1 j1=>eU (ay.get e2) λO g2 j2=>⟨⟨E,C,P,O,Z,Y,g1,g2⟩,λz SS W=>wB W λT x' y' j hT U q1 q2=>?_⟩;subst j;subst U;have c1:=q1 E Z;have c2:=q2 C Y;rw[g1]at c1;cases c1;rw[g2]at c2;cases c2;have fn:=Fr.new (φ:=I) (o:=.tup [P,O]) hT;exact⟨fn,F.same<|gm.upd hT,T,_,rfl,F.fresh hT,eZ,P,_,rfl,j1.mono fn,O,_,rfl,j2.mono fn,rfl⟩
 .exact q.elim
def nA (ds:az D):az D:=List.zipWith (λi d=>D.tup [.int (i:Nat),d]) (List.range ds.length) ds
def xA {ds:az D}{i:Nat}{d:D}(h:(nA ds)[i]?=some d):∃ x,ds[i]?=some x/\d=.tup [.int i,x]:=by
 delta nA at h;rw[bU]at h;cases e:ds[i]? with
 |none=>rw[e]at h;cases q:(List.range ds.length)[i]?<;>(rw[q]at h;cases h)
 | some x =>have j:=(jA e).1;rw[e,bP j]at h;cases h;exact⟨x,rfl,rfl⟩
def oR (ds:az D):(nA ds).length=ds.length:=by delta nA;rw[bO,xr,Nat.min_self]
def Yi (w:DA):DI:=λu y K=>w u y λC d=>match C with
 |[x]=>opt (lv d x) λq=>K (nA q) (λj=>lc x q j) d
 |_=>False
def Eo {elts:az Expr}{kk:Nat}{kQ:Pos}{w:DA}{p:Pos}(hg:Gl X "enumerate")(hm:X.mg "enumerate"=none)(ha:rO X [a] w)(hs:starEach [a] X.env=[(false,eval a X.env)]:=by rfl):
 Bt X aan (.Call (.Name "enumerate" p) [a] [] pos) (Yi w):=(Ir hg hm ha hs).imp λσ H Q h_=>fL h_ λφ ρ μ K A M k L=>by
 refine⟨φ,ρ,μ,_,A,M,k,λds E y vs H1 u f1 M1 i1=>?_⟩;split at u
 .rename_i x;refine eU (fS u) λxs ex u=>?_
  .refine fw i1 λv r j Y h3=>?_;subst j;subst h3;refine fw (jv M1 Y ex) λp1 q j O U=>?_;subst j;refine⟨q,O,L _ _ E y _ H1 u f1 M1 λC H' μ' f W c i=>eU (oQ M1 Y ex f W c) λq J U=>?_⟩;have lx:=U.len;refine⟨λd hd=>?_,λhi=>⟨q,J,by rw[oR]at hi;lia⟩⟩;refine eU (xA hd) λdx e1 j=>?_;subst j;refine eU (U.get e1) λF Z j1=>⟨⟨q,F,J,Z⟩,λz SS I=>jz I λT x' j P G q1=>?_⟩;subst j;subst G;have c1:=q1 q J;rw[Z]at c1;cases c1;have fn:=Fr.new (φ:=C) (o:=.tup [.int i,F]) P;exact⟨fn,W.same<|gm.upd P,T,_,rfl,W.fresh P,eZ,.int i,_,rfl,rfl,F,_,rfl,j1.mono fn,rfl⟩
 .exact u.elim
def dLZ (m:Bool)(w:DA):De:=λj q K=>w j q λE d=>match E with
 |[x,y]=>opt (lv d x) λC=>opt (lv d y) λu=>nL m (List.zipWith aab C u) d K
 |_=>False
def D4 {φ:az au}{H:Hp}{xs ys:az D}{C q us:az V}(O:fg φ H xs C)(M:fg φ H ys q)(Z:us.length=min C.length q.length)(F:∀(T:au) (zs:az V),H T=some (.tup zs)->T∉φ)(h:tE H C q us):fg φ H (List.zipWith aab xs ys) us:=by
 have G:∀(j:az D) (us:az V),j.length=us.length->(∀(i:Nat) (d:D) (u:V),j[i]?=some d->us[i]?=some u->il φ H d u)->fg φ H j us:=by
  intro j;induction j with
  | nil=>intro us hl _;cases us with
   |nil=>rfl
   |cons _ _=>contradiction
  | cons d j U =>
   intro us hl J;cases us with
   |nil=>cases hl
   |cons u us=>exact⟨u,us,rfl,J 0 d u rfl rfl,U us (by simpa using hl) λi d' P e1 I=>J abe d' P (by simpa using e1)<|by simpa using I⟩
 refine G _ _ (by rw[bO,Z,O.len,M.len]) λi d u e1 I=>AS (h i u I) λT x y E L Y W=>?_;subst E;refine eU (O.AF Y) λdx ex ix=>eU (M.AF W) λdy ey Q=>?_;rw[bU,ex,ey]at e1;cases e1;exact⟨T,_,rfl,F T _ L,L,x,_,rfl,ix,y,_,rfl,Q,rfl⟩
def GJ (m:Bool){w:DA}{p p2 F:Pos}(fU:X.fU=true)(hg:Gl X "list")(hm:X.mg "list"=none)(Xq:Gl X "zip")(Xo:X.mg "zip"=none)(ha:rO X [a,b] w)(hs:starEach [a,b] X.env=[(false,eval a X.env),(false,eval b X.env)]:=by rfl)(yJ:starEach [b] X.env=[(false,eval b X.env)]:=by rfl)
 (MT:starEach [.Call (.Name "zip" p2) [a,b] [] F] X.env=[(false,eval (.Call (.Name "zip" p2) [a,b] [] F) X.env)]:=by rfl):
 PD X (.Call (.Name "list" p) [.Call (.Name "zip" p2) [a,b] [] F] [] pos) (dLZ m w):=by
 intro aa s σ H Q I h;refine cE (ku I hg hm boot_list<|fL h λφ ρ μ K A M k L=>bA ?_ MT rfl);rw[MT];refine dt ?_;have hq:Py w σ H (λvs U=>match vs with | [.ref a,.ref b]=>∃(Z Y:az V),U a=some (.lst Z)/\U b=some (.lst Y)/\∀ l W J,U l=none->gm U J->J l=some (.lst W)->W.length=min Z.length Y.length->tE J Z Y W->Q (.ref l) J | _=>False):=by
  refine⟨φ,ρ,μ,_,A,M,k,λds G d vs U P f1 M1 i1=>?_⟩;split at P
  .rename_i x y;refine eU (fS P) λZ ex P=>eU (fS P) λY ey P=>?_
   .obtain⟨v,r,rfl,E,u,r',rfl,h2,h3⟩:=i1;cases(show r'=[]from h3);refine fw (jv M1 E ex) λp1 vx O Uz ax=>?_;subst O;refine fw (jv M1 h2 ey) λp2 vy O Uy ay=>?_;subst O;refine⟨vx,vy,Uz,Uy,λl W J hl S' hu len pr=>?_⟩;have UA:l∉d:=M1.fresh hl;have M2:=M1.same S';have f2:Fr d U d J:=.same S';have nt:∀(T:au) (zs:az V),J T=some (.tup zs)->T∉d:=λT zs e hT=>by
     obtain⟨j,hj,ej⟩:=bj hT;refine eU (M2.at_ j (G[j]'(by have:=M2.len;lia))<|iO _) λq e1 e2=>?_;rw[iO hj,ej]at e1;cases e1;revert e2;cases G[j]'(by have:=M2.len;lia)with
     |box=>rintro⟨q,ns,i,r,z,E,_⟩;rw[e]at E;cases E
     |lst ds=>rintro⟨vs,E,_⟩;rw[e]at E;cases E
     |gP ks ds=>rintro⟨fM,vs,E,_⟩;rw[e]at E;cases E
     |mF o fM ds=>rintro⟨E,_⟩;rw[e]at E;cases E
     |ins C ns ds=>rintro⟨dx,fs,E,_⟩;rw[e]at E;cases E
     |NB ks ds=>rintro⟨fM,E,_⟩;rw[e]at E;cases E
     |gx lg H0=>rintro⟨_,_,_,h4⟩;exact absurd e (h4 _)
     |exc c=>intro E;rw[show _=_ from E]at e;cases e
    have al:=D4 (ax.mono f2) (ay.mono f2) len nt pr;cases m with
    |false=>exact L _ G d _ J P (f1.trans f2) M2 ⟨l,W,rfl,UA,hu,al⟩
    | true =>
     have f3:Fr d U (d++[l]) J:=⟨(Fr.snoc (φ:=d) hl).ext,λc o _ e=>S' c o e,λc e=>S'.free e⟩;have M3:fK (d++[l]) J (G++[.lst (List.zipWith aab Z Y)]):=by
      have nt':∀(T:au) (zs:az V),J T=some (.tup zs)->T∉d++[l]:=λT zs e hT=>by
       rcases List.mem_append.mp hT with q|q
       .exact nt T zs e q
       .rw[List.mem_singleton.mp q,hu]at e;cases e
      have al':=D4 (ax.mono f3) (ay.mono f3) len nt' pr;refine⟨?_,by rw[i8,i8,M1.len];rfl,λk n e=>?_⟩
      .rw[cv];exact⟨M1.nd,by simp,λa ha b hb=>by rw[List.mem_singleton.mp hb];intro z;exact UA (by rw[<- z];exact ha)⟩
      .by_cases hk:k<G.length
       .rw[pF hk]at e;exact eU (M1.at_ k n e) λq e1 e2=>⟨q,f3.get e1,e2.mono f3 λu eu=>S' _ _ eu⟩
       .have Xp:k=G.length:=by have:=(jA e).1;rw[i8,aX]at this;lia
        subst Xp
        rw[lQ aaa,bc]at e
        cases e
        exact⟨l,by rw[lQ (by rw[M1.len];exact aB _),M1.len,bc];rfl,W,hu,al'⟩
     exact L _ _ (d++[l]) _ J P (f1.trans f3) M3 ⟨l,by rw[lQ (by rw[M1.len];exact aB _),M1.len,bc];rfl,rfl⟩
  .exact P.elim
 refine Call_ (ku I Xq Xo boot_zip<|bA (gc (ha F aa s σ H _ I hq) λW s1 MW=>?_) (by rw[hs,yJ]) (by rw[yJ];rfl));obtain⟨vs,U,I1,r1,q1⟩:=MW;try dsimp only at q1
 split at q1
 .rename_i l1 l2;refine fw q1 λZ Y E h2 q=>fw r1.two λu1 u2 O e1 e2=>?_;subst O;subst e1;cases e2;exact gc (Jg I1 fU E h2 q) λv s2 hv=>dG hv
 .exact q1.elim
def tZ.val {K:DK}(L:tZ φ H K Q)(M:fK φ H μ)(k:K d μ)(i:il φ H d v):Q v H:=L d μ φ v H k (.refl _ _) M i
def RQ (m:Bool):xX:=λx y d K=>match x,y with
 |.int i,.int j=>K (.int<|i+j) d
 |.str i,.str j=>i.length+j.length<=sizeLine/\K (.str<|i++j) d
 |x,y=>opt (lv d x) λu=>opt (lv d y) λq=>u.length+q.length<=sizeLine/\nL m (u++q) d K
def HC:nh Ik (RQ m):=λP H x y dx Z U K Q M u j k L=>by
 delta RQ at k;split at k
 .subst u;subst j;exact L.val M k rfl
 .subst u;subst j;exact⟨k.1,L.val M k.2 rfl⟩
 .refine eU (fS k) λY ex k=>eU (fS k) λW O k=>fw (jv M u ex) λp G d J E=>?_;subst d;refine fw (jv M j O) λq F d I C=>?_;subst d;exact⟨G,F,J,I,by rw[E.len,C.len];exact k.1,λl hl=>CT L M (E.app C) k.2 hl⟩
def Zd (C:Int->Int->Prop)(g:Int->Int->D):xX:=λx y d K=>match x,y with
 |.int i,.int j=>C i j/\K (g i j) d
 |_,_=>False
def tW (g:Int->Int->D):xX:=λx y d K=>match x,y with
 |.int i,.int j=>K (g i j) d
 |_,_=>False
def Tr {g:Int->Int->Int}:nh (SA C λi j=>.int<|g i j) (Zd C λi j=>.int<|g i j):=λu H x y G F E K Q M q d k L=>by
 delta Zd at k;split at k
 .subst q;subst d;exact⟨k.1,L.val M k.2 rfl⟩
 .exact k.elim
def PL {g:Int->Int->Int}:nh (yq λi j=>.int<|g i j) (tW λi j=>.int<|g i j):=λu H x y F E C K Q M q d k L=>by
 delta tW at k;split at k
 .subst q;subst d;exact L.val M k rfl
 .exact k.elim
def ye {g:Int->Int->Bool}:nh (yq λi j=>.bl<|g i j) (tW λi j=>.bl<|g i j):=λu H x y F E C K Q M q d k L=>by
 delta tW at k;split at k
 .subst q;subst d;exact L.val M k rfl
 .exact k.elim
def Vd:xX:=λx y d K=>match x,y with
 |.int i,.int j=>G1 i j/\K (.int<|i*j) d
 |.str z,.int n=>∃ c:Nat,z=⟨#[c]⟩ /\ -1000000<=n/\n<=1000000/\K (.str ⟨(List.replicate n.toNat c).toArray⟩) d
 |_,_=>False
def rS:nh Ib Vd:=λC H x y G F E K Q M j d k L=>by
 delta Vd at k;split at k
 .subst j;subst d;exact⟨k.1,L.val M k.2 rfl⟩
 .subst j;subst d;obtain⟨c,rfl,u,q,k⟩:=k;exact⟨c,rfl,u,q,L.val M k rfl⟩
 .exact k.elim
def KD (neg:Bool):xX:=λx y d K=>match x,y with
 |.int i,.int j=>K (.bl<|neg != decide (i=j)) d
 |.str i,.str j=>K (.bl<|neg != decide (i=j)) d
 |.bl i,.bl j=>K (.bl<|neg != decide (i=j)) d
 |_,_=>False
def uM:nh (Ij neg) (KD neg):=λq H x y E C u K Q M j d k L=>by
 delta KD at k;split at k
 .subst j;subst d;exact L.val M k rfl
 .subst j;subst d;exact L.val M k rfl
 .subst j;subst d;exact L.val M k rfl
 .exact k.elim
def Vh:xX:=λx y j K=>match x,y with
 |.str z,.int i=>z.length<=sizeLine/\opt (kP z.cps.toList i) λc=>K (.str ⟨#[c]⟩) j
 |.tup q,.int i=>opt (kP q i) λd=>K d j
 |x,.int i=>opt (lv j x) λq=>opt (kP q i) λd=>K d j
 |_,_=>False
theorem fg.kP {φ:az au}{H:Hp}{ds:az D}{vs:az V}{i:Int}{d:D}(h:fg φ H ds vs)(e:kP ds i=some d):∃ v,kP vs i=some v/\il φ H d v:=by
 delta L2.kP at e ⊢
 rw[h.len];cases q:Ay ds.length i with
 |none=>rw[q]at e;cases e
 |some j=>rw[q]at e;exact h.get e
def Tq:nh Qb Vh:=λJ H x y U P O K Q M E C k L=>by
 delta Vh at k;split at k
 .subst E;subst C;exact eU (fS k.2) λc e G=>⟨k.1,eT e<|L.val M G rfl⟩
 .subst C;refine eU (fS k) λd e k=>jz E λp q j _ F ha=>?_;subst j;exact eU (ha.kP e) λv ev u=>⟨q,.inr F,eT ev<|L.val M k u⟩
 .subst C;refine eU (fS k) λW I k=>eU (fS k) λd e k=>fw (jv M E I) λp q j F ha=>?_;subst j;exact eU (ha.kP e) λv ev u=>⟨q,.inl F,eT ev<|L.val M k u⟩
 .exact k.elim
abbrev DO:=DE->MS->(aA Int->MS->Prop)->Prop
def Pw (w:DO):TO:=λE H Q=>∃ q y C K,j7 q H y E/\fK q H C/\w y C K/\∀ o j d u,K o j->Fr q H d u->fK d u j->Q o u
def dNo:DO:=λ_ d K=>K none d
def Va (w:De):DO:=λq u K=>w q u λd j=>match d with|.int i=>K (some i) j|_=>False
def cutD (ds:az D)(lo d:aA Int):az D:=(ds.drop<|HT.iz ds.length 0 lo).take (HT.iz ds.length ds.length d - HT.iz ds.length 0 lo)
def X4 (m:Bool)(w:De)(l h:DO):De:=λj C K=>w j C λx u=>l j u λlo q=>h j q λy d=>match x with
 |.str z=>z.length<=sizeLine/\K (.str ⟨(ig z.cps.toList lo y).toArray⟩) d
 |x=>opt (lv d x) λE=>nL m (cutD E lo y) d K
def PO.imp {e:aA Expr}{t t':TO}(h:PO X e t)(u:∀ d H Q,t' d H Q->t d H Q):PO X e t':=λj s d H Q I q=>h j s d H Q I (u d H Q q)
def tQ:PO X none (Pw dNo):=Ql.imp λu H Q q=>fL q λd y j K A M k L=>L none j d H k (.refl _ _) M
def iD (h:PD X e w):PO X (some e) (Pw<|Va w):=(Im h).imp λJ H Q ⟨y,C,E,K,A,M,k,L⟩ =>
 ⟨y,C,E,_,A,M,k,λd q j O I u G M1 F=>by
  cases d with
  |int i=>cases F;exact L _ q j I u G M1
  |_=>exact u.elim⟩
def fg.cut (h:fg φ H ds vs)(lo d:aA Int):fg φ H (cutD ds lo d) (za vs lo d):=by delta cutD za;rw[h.len];exact(h.drop _).take _
def jd (m:Bool){lo:aA Expr}(ha:PD X a w)(hl:PO X lo (Pw l))(hh:PO X G (Pw h)):PD X (.Subscript a (.Slice lo G none p) pos) (X4 m w l h):=(Aa slC ha hl hh).imp λσ H Q h_=>fL h_ λZ y μ K A M k L=>by
 refine⟨Z,y,μ,_,A,M,k,λd E u v1 H1 k1 J M1 i1=>⟨u,y,E,_,A.mono J,M1,k1,λlo C q H2 k2 I M2=>⟨q,y,C,_,A.mono<|J.trans I,M2,k2,λG Ww Y H3 j U O=>?_⟩⟩⟩;have P:=i1.mono<|I.trans U;have W:=L.mono<|J.trans<|I.trans U;split at j
 .subst P;exact⟨j.1,W.val O j.2 rfl⟩
 .refine eU (fS j) λds el k=>fw (jv O P el) λp vs F hp ha=>?_;subst F;exact⟨vs,hp,λl hl=>CT W O (ha.cut lo G) k hl⟩
def Nr:jo:=λq d K=>match q with
 |[.str z]=>z.length<=sizeLine/\K (.int z.length) d
 |[.tup j]=>K (.int j.length) d
 |[x]=>opt (lv d x) λj=>K (.int j.length) d
 |_=>False
def PH:kz Ih Nr:=λE H u I F K Q M h k L=>by
 delta Nr at k;split at k
 .obtain⟨v,r,rfl,q,j⟩:=h;subst j;subst q;exact⟨k.1,L.val M k.2 rfl⟩
 .obtain⟨v,r,rfl,q,j⟩:=h;subst j;refine jz q λp u d _ y ha=>?_;subst d;exact⟨u,.inr y,ha.len▸L.val M k rfl⟩
 .obtain⟨v,r,rfl,q,j⟩:=h;subst j;refine eU (fS k) λG C k=>fw (jv M q C) λp u d y ha=>?_;subst d;exact⟨u,.inl y,ha.len▸L.val M k rfl⟩
 .exact k.elim
def XJ:jo:=λq d K=>dM [.i,.i] q λi j=>K (.int<|max i j) d
def uK:kz OA XJ:=λy H E G C K Q M h k L=>by obtain⟨_,_,rfl,k⟩:=dJ k;obtain⟨v,r,rfl,q,u,F,rfl,j,d⟩:=h;cases d;cases q;cases j;exact⟨_,_,rfl,L.val M k rfl⟩
def UQ:jo:=λj d K=>dM [.v] j λx=>∃ ns:az Int,lv d x=some (ns.map D.int)/\ns≠[]/\∀ m,m∈ns->(∀ y∈ns,y<=m)->K (.int m) d
def t9:kz Ie UQ:=λy H d E C K Q M h k L=>by obtain⟨_,rfl,k⟩:=dJ k;obtain⟨v,r,rfl,u,q⟩:=h;cases q;let ⟨ns,el,hn,k⟩:=k;obtain⟨p,d,rfl,j,ha⟩:=jv M u el;exact⟨ns,by rw[j,ha.ints],hn,λm a b=>L.val M (k m a b) rfl⟩
def XO (g:az Bool->Bool):jo:=λj d K=>dM [.v] j λx=>∃ bs:az Bool,lv d x=some (bs.map D.bl)/\K (.bl<|g bs) d
def yf {g:az Bool->Bool}:kz (z5 g) (XO g):=λy H d E C K Q M h k L=>by obtain⟨_,rfl,k⟩:=dJ k;obtain⟨v,r,rfl,u,q⟩:=h;cases q;let ⟨bs,el,k⟩:=k;obtain⟨p,d,rfl,j,ha⟩:=jv M u el;exact⟨bs,by rw[j,ha.Zh],L.val M k rfl⟩
def UR (m:Bool):jo:=λq d K=>dM [.v] q λx=>opt (lv d x) λj=>nL m j d K
def lS:kz (BZ Kf) (UR m):=λy H d E C K Q M h k L=>by obtain⟨_,rfl,k⟩:=dJ k;obtain⟨v,r,rfl,u,q⟩:=h;cases q;let ⟨xs,el,k⟩:=fS k;obtain⟨p,d,rfl,j,ha⟩:=jv M u el;exact⟨d,nJ.of j,λl hl=>CT L M ha k hl⟩
def OV:Pg:=λd u q K=>match d,u with
 |.str z,[x]=>z.cps=#[]/\∃ j:az Str,lv q x=some (j.map D.str)/\(j.map (·.length)).sum<=16777216/\K (.str ⟨(j.map (·.cps.toList)).flatten.toArray⟩) q
 |_,_=>False
def DC:Br Kf "str" B1 OV:=λJ H x u d P O K Q M C h k L=>by
 delta OV at k;split at k
 .subst C;obtain⟨v,r,rfl,G,F⟩:=h;subst F;obtain⟨y,q,I,hs,k⟩:=k;refine fw (jv M G I) λp u j E ha=>?_;subst j;exact⟨y,q,by rw[E,ha.strs],hs,L.val M k rfl⟩
 .exact k.elim
def J4:Pg:=λd q j K=>match d,q with
 |.str z,[.str y]=>∃ c:Nat,y=⟨#[c]⟩/\K (.int ((z.cps.toList.count c:Nat):Int)) j
 |_,_=>False
def zN:Br Kf "str" yt J4:=λy H x E d F C K Q M j h k L=>by
 delta J4 at k;split at k
 .subst j;obtain⟨v,r,rfl,u,q⟩:=h;subst q;subst u;obtain⟨c,rfl,k⟩:=k;exact⟨c,rfl,L.val M k rfl⟩
 .exact k.elim
def OW:Pg:=λd q j K=>match d,q with
 |.str z,[.str y,.int i]=>∃ c:Nat,y=⟨#[c]⟩/\0<=i/\i<=z.length/\∀ r,Ez z.cps.toList c i.toNat r->K (.int r) j
 |_,_=>False
def L0:Br Kf "str" Ii OW:=λF H x I d O G K Q M q h k L=>by
 delta OW at k;split at k
 .subst q;obtain⟨v,r,rfl,j,u,J,rfl,C,y⟩:=h;subst y;subst j;subst C;obtain⟨c,rfl,E,j,k⟩:=k;exact⟨_,c,_,rfl,rfl,E,j,λr hr=>L.val M (k r hr) rfl⟩
 .exact k.elim
def IW (M:fK φ H μ)(u:il φ H (.mr k) x)(e:μ[k]?=some (.lst ds)):∃ p vs,x=.ref p/\φ[k]?=some p/\H p=some (.lst vs)/\fg φ H ds vs:=by refine eU u λp j d=>?_;subst d;obtain⟨q,e1,vs,y,ha⟩:=M.at_ k _ e;rw[j]at e1;cases e1;exact⟨p,vs,rfl,j,y,ha⟩
def Cc {K:DK}(L:tZ φ H K Q)(M:fK φ H μ)(j:φ[k]?=some p)(ha:fg φ H ds vs)(hd:il φ H d v)(kk:K d (μ.set k<|.lst ds)):Q v (upd H p<|.lst vs):=by have f:Fr φ H φ (upd H p<|.lst vs):=.put<|lH j;exact L d _ φ v _ kk f (M.put j ⟨_,eZ,ha.mono f⟩) (hd.mono f)
def EH:Pg:=λd u j K=>match d,u with
 |.mr k,[y]=>opt (wm j k) λq=>q.length<sizeLine/\K .fX (j.set k<|.lst<|q++[y])
 |_,_=>False
def lB:Br Kf "list" zZ EH:=λq H x P d U J K Q M y h k L=>by
 delta EH at k;split at k
 .refine eU (fS k) λO I k=>?_
  .refine jz (IW M y<|jT I) λp u j E C ha=>?_;subst j;obtain⟨v,r,rfl,G,F⟩:=h;subst F;exact⟨_,_,u,rfl,rfl,C,ha.len▸k.1,Cc (d:=.fX) L M E (ha.app<|show fg q H [_] [v]from⟨v,[],rfl,G,rfl⟩) rfl k.2⟩
 .exact k.elim
def Ia:V->az V->Hp->VK->Prop:=λx j H Q=>match x,j with
 |.ref l,[]=>∃ d y,H l=some (.lst d)/\d[d.length - 1]?=some y/\Q y (upd H l<|.lst d.dropLast)
 |_,_=>False
def TQ:zy X "list.pop" Ia:=zy.imp QK λx j H Q q=>by
 delta Ia at q;split at q
 .obtain⟨d,y,a,b,c⟩:=q;exact⟨_,d,y,rfl,rfl,a,b,c⟩
 .exact q.elim
def yu:V->az V->Hp->VK->Prop:=λx j H Q=>match x,j with
 |.ref l,[]=>∃ d,H l=some (.lst d)/\Q .fX (upd H l<|.lst [])
 |_,_=>False
def RU:zy X "list.clear" yu:=zy.imp IV λx j H Q q=>by
 delta yu at q;split at q
 .obtain⟨d,a,c⟩:=q;exact⟨_,d,rfl,rfl,a,c⟩
 .exact q.elim
theorem fg.dropLast (h:fg φ H ds vs):fg φ H ds.dropLast vs.dropLast:=by rw[List.dropLast_eq_take,List.dropLast_eq_take,h.len];exact h.take _
def UM:Pg:=λd u q K=>match d,u with
 |.mr k,[]=>opt (wm q k) λj=>opt (j[j.length - 1]?) λy=>K y (q.set k<|.lst j.dropLast)
 |_,_=>False
def Hy:Br Kf "list" Ia UM:=λJ H x U d W O K Q M C h k L=>by
 delta UM at k;split at k
 .refine eU (fS k) λP I k=>?_
  .refine jz (IW M C<|jT I) λp q j F E ha=>?_;subst j;subst h;exact eU (fS k) λy G k=>eU (ha.get G) λv ev u=>⟨q,v,E,by rwa [ha.len],Cc L M F ha.dropLast u k⟩
 .exact k.elim
def J5:Pg:=λd q j K=>match d,q with
 |.mr k,[]=>opt (wm j k) λu=>K .fX (j.set k<|.lst [])
 |_,_=>False
def HB:Br Kf "list" yu J5:=λF H x J d ds G K Q M u h k L=>by
 delta J5 at k;split at k
 .refine eU (fS k) λI E k=>?_
  .refine jz (IW M u<|jT E) λp q j C y ha=>?_;subst j;subst h;exact⟨q,y,Cc (d:=.fX) (ds:=[]) L M C rfl rfl k⟩
 .exact k.elim
def BQ {f:Int->Int->Int}:VE (Xb f) (tW λi j=>.int<|f i j):=λu H x y F E C K Q M q d k L=>by
 delta tW at k;split at k
 .subst q;subst d;exact L.val M k rfl
 .exact k.elim
mutual
def rA:D->D->Bool
 |.fX,.fX=>true
 |.bl a,.bl b=>a==b
 |.bl a,.int b=>(if a then 1 else 0)==b
 |.int a,.bl b=>a==(if b then 1 else 0)
 |.int a,.int b=>a==b
 |.str a,.str b=>a==b
 |.lst xs,.lst ys=>o3 xs ys
 |.tup xs,.tup ys=>o3 xs ys
 |_,_=>false
def o3:List D->List D->Bool
 |[],[]=>true
 |x::xs,y::ys=>rA x y&&o3 xs ys
 |_,_=>false
end
mutual
def wy:Nat->D->Prop
 |n+1,.lst ds=>B3 n ds
 |n+1,.tup ds=>B3 n ds
 |0,.lst _=>False
 |0,.tup _=>False
 |_,.gP _ _=>False
 |_,.mr _=>False
 |_,.obj _ _ _=>False
 |_,.ki _ _=>False
 |_,.fn _=>False
 |_,_=>True
def B3:Nat->List D->Prop
 |_,[]=>True
 |n,d::ds=>wy n d/\B3 n ds
end
theorem qJ:∀ {ds:az D} {i:Nat} {d:D},B3 n ds->ds[i]?=some d->wy n d
 |[],_,_,_,e=>by cases e
 |d::ds,0,d',h,e=>by simp at e;subst e;exact h.1
 |d::ds,i+1,d',h,e=>qJ h.2 (by simpa using e)
mutual
theorem A5 {φ:List au}{H:Hp}:∀ {n:Nat} {d e:D} {v:V},wy n d->wy n e->il φ H d v->il φ H e v->rA d e=true:=λ{n d e v} pd pe hd he=>by
 cases d with
 | fX=>cases(show v=_ from hd);cases e with
  |fX=>rfl
  |lst _=>obtain⟨_,_,q,_⟩:=he;cases q
  |tup _=>obtain⟨_,_,q,_⟩:=he;cases q
  |gP _ _=>obtain⟨_,_,_,q,_⟩:=he;cases q
  |mr _=>obtain⟨_,_,q⟩:=he;cases q
  |obj _ _ _=>obtain⟨_,_,_,_,q,_⟩:=he;cases q
  |ki _ _=>obtain⟨_,_,_,_,q,_⟩:=he;cases q
  |_=>cases aaC
 | bl b=>cases(show v=_ from hd);cases e with
  |bl c=>cases aaC;simp[rA]
  |lst _=>obtain⟨_,_,q,_⟩:=he;cases q
  |tup _=>obtain⟨_,_,q,_⟩:=he;cases q
  |gP _ _=>obtain⟨_,_,_,q,_⟩:=he;cases q
  |mr _=>obtain⟨_,_,q⟩:=he;cases q
  |obj _ _ _=>obtain⟨_,_,_,_,q,_⟩:=he;cases q
  |ki _ _=>obtain⟨_,_,_,_,q,_⟩:=he;cases q
  |_=>cases aaC
 | int b=>cases(show v=_ from hd);cases e with
  |int c=>cases aaC;simp[rA]
  |lst _=>obtain⟨_,_,q,_⟩:=he;cases q
  |tup _=>obtain⟨_,_,q,_⟩:=he;cases q
  |gP _ _=>obtain⟨_,_,_,q,_⟩:=he;cases q
  |mr _=>obtain⟨_,_,q⟩:=he;cases q
  |obj _ _ _=>obtain⟨_,_,_,_,q,_⟩:=he;cases q
  |ki _ _=>obtain⟨_,_,_,_,q,_⟩:=he;cases q
  |_=>cases aaC
 | str b=>cases(show v=_ from hd);cases e with
  |str c=>cases aaC;simp[rA]
  |lst _=>obtain⟨_,_,q,_⟩:=he;cases q
  |tup _=>obtain⟨_,_,q,_⟩:=he;cases q
  |gP _ _=>obtain⟨_,_,_,q,_⟩:=he;cases q
  |mr _=>obtain⟨_,_,q⟩:=he;cases q
  |obj _ _ _=>obtain⟨_,_,_,_,q,_⟩:=he;cases q
  |ki _ _=>obtain⟨_,_,_,_,q,_⟩:=he;cases q
  |_=>cases aaC
 | lst ds =>
  obtain⟨p,vs,rfl,_,hp,ha⟩:=hd;cases n with
  |zero=>exact False.elim pd
  | succ n =>
   cases e with
   | lst es =>obtain⟨p',SX,q,_,JB,UC⟩:=he;cases q;rw[hp]at JB;cases JB;exact sk pd pe ha UC
   |tup es=>obtain⟨p',SX,q,_,JB,UC⟩:=he;cases q;rw[hp]at JB;cases JB
   |gP _ _=>exact False.elim pe
   |mr _=>exact False.elim pe
   |obj _ _ _=>exact False.elim pe
   |ki _ _=>exact False.elim pe
   |fn _=>exact False.elim pe
   |_=>cases aaC
 | tup ds =>
  obtain⟨p,vs,rfl,_,hp,ha⟩:=hd;cases n with
  |zero=>exact False.elim pd
  | succ n =>
   cases e with
   | tup es =>obtain⟨p',SX,q,_,JB,UC⟩:=he;cases q;rw[hp]at JB;cases JB;exact sk pd pe ha UC
   |lst es=>obtain⟨p',SX,q,_,JB,UC⟩:=he;cases q;rw[hp]at JB;cases JB
   |gP _ _=>exact False.elim pe
   |mr _=>exact False.elim pe
   |obj _ _ _=>exact False.elim pe
   |ki _ _=>exact False.elim pe
   |fn _=>exact False.elim pe
   |_=>cases aaC
 |gP _ _=>exact absurd pd ZA
 |mr _=>exact absurd pd ZA
 |obj _ _ _=>exact absurd pd ZA
 |ki _ _=>exact absurd pd ZA
 |fn _=>exact absurd pd ZA
theorem sk {φ:List au}{H:Hp}:∀ {n:Nat} {ds es:List D} {vs:List V},B3 n ds->B3 n es->fg φ H ds vs->fg φ H es vs->o3 ds es=true:=λ{n ds es vs} pd pe hd he=>by
 cases ds with
 | nil =>
  cases(show vs=[]from hd);cases es with
  |nil=>unfold o3;rfl
  |cons e es=>obtain⟨_,_,q,_⟩:=he;cases q
 | cons d ds =>
  obtain⟨v,r,rfl,h1,h2⟩:=hd;cases es with
  |nil=>cases aaC
  | cons e es =>obtain⟨v',r',q,h3,h4⟩:=he;cases q;unfold B3 at pd pe;unfold o3;rw[A5 pd.1 pe.1 h1 h3,sk pd.2 pe.2 h2 h4];rfl
end
theorem oC:∀ {ds es:az D},ds.length≠es.length->o3 ds es=false
 |[],[],h=>absurd rfl h
 |[],_::_,_=>rfl
 |_::_,[],_=>rfl
 |d::ds,e::es,h=>by unfold o3;rw[oC (by simpa using h),dO]
def wJ (ds es:az D)(j:Nat):Bool:=match ds[j]?,es[j]? with|some a,some b=>rA a b|_,_=>true
def u6 (n:Nat)(f:Nat->Bool):(List.range<|n+1).all f=(f 0&&(List.range n).all λj=>f<|j+1):=by rw[List.range_succ_eq_map,dk,List.all_map];rfl
theorem lK:∀(ds es:az D),ds.length=es.length->(List.range ds.length).all (wJ ds es)=o3 ds es
 |[],[],_=>rfl
 |[],_::_,h=>by contradiction
 |_::_,[],h=>by cases h
 | d::ds,e::es,h=>by
  rw[aY,u6];have q:=lK ds es (by simpa using h);have e1:(λj=>wJ (d::ds) ZX<|j+1)=wJ ds es:=by funext j;delta wJ;simp
  rw[e1,q];rfl
def x6 (r:fF xs us)(y:j<us.toArray.size):∃ x,xs[j]?=some x/\fH x us.toArray[j]:=by
 have d:j<xs.length:=by rwa [r.length]
 refine eU (r.get<|iO d) λu e q=>?_;refine⟨_,iO d,?_⟩;have:us.toArray[j]=u:=by have:=jA e;simpa using this.2
 rwa [this]
def uU (I:Inv X aa σ H s)(j:wy n d)(hd:il φ H d x)(C:fH x u):(∀ p,u≠.ref p)\/∃ p e ds vs,u=.ref p/\fF vs e/\fg φ H ds vs/\∃ m,n=m+1/\B3 m ds/\((d=.lst ds/\s.heap.IsList p e.toArray)\/(d=.tup ds/\s.heap.IsTuple p e.toArray)):=by
 cases d with
 |fX=>subst hd;subst C;exact .inl λp q=>by cases q
 |bl b=>subst hd;subst C;exact .inl λp q=>by cases q
 |int b=>subst hd;obtain⟨t,rfl⟩:=C;exact .inl λp q=>by cases q
 |str b=>subst hd;obtain⟨t,rfl⟩:=C;exact .inl λp q=>by cases q
 | lst ds =>
  refine jz hd λp vs y _ E ha=>?_;subst y;subst C;obtain⟨_,e,k,r,_,F⟩:=I.j9 E;cases n with
  |zero=>exact False.elim j
  |succ n=>exact .inr ⟨p,e,ds,vs,rfl,r,ha,n,rfl,j,.inl ⟨rfl,⟨_,F,rfl,k,rfl⟩⟩⟩
 | tup ds =>
  refine jz hd λp vs y _ E ha=>?_;subst y;subst C;obtain⟨_,e,r,F⟩:=(I.fO p _ E);cases n with
  |zero=>exact False.elim j
  |succ n=>exact .inr ⟨p,e,ds,vs,rfl,r,ha,n,rfl,j,.inr ⟨rfl,F⟩⟩
 |gP _ _=>exact absurd j ZA
 |mr _=>exact absurd j ZA
 |obj _ _ _=>exact absurd j ZA
 |ki _ _=>exact absurd j ZA
 |fn _=>exact absurd j ZA
def Ex (e:wy n d)(hd:il φ H d x)(fx:jY x=true):(d=.fX/\x=.fX)\/(∃ b,d=.bl b/\x=.bl b)\/(∃ b,d=.int b/\x=.int b)\/∃ b,d=.str b/\x=.str b:=by
 cases d with
 |fX=>exact .inl ⟨rfl,hd⟩
 |bl b=>exact .inr (.inl ⟨b,rfl,hd⟩)
 |int b=>exact .inr (.inr<|.inl ⟨b,rfl,hd⟩)
 |str b=>exact .inr (.inr<|.inr ⟨b,rfl,hd⟩)
 |lst ds=>obtain⟨p,j,rfl,_⟩:=hd;cases fx
 |tup ds=>obtain⟨p,j,rfl,_⟩:=hd;cases fx
 |gP _ _=>exact absurd e ZA
 |mr _=>exact absurd e ZA
 |obj _ _ _=>exact absurd e ZA
 |ki _ _=>exact absurd e ZA
 |fn _=>exact absurd e ZA
def HY (I:Inv X aa σ H s)(n:Nat)(A:Around)(ds es:az D)(vs ws:az V)(F E:az av)(p q:au)(M:A.units<cLine)
 (ih:∀(d e:D) (x y:V) (u v:av),wy n d->wy n e->il φ H d x->il φ H e y->fH x u->fH y v->SeqAt.EqAt A.in1 s u v (rA d e)) (pd:B3 n ds) (pe:B3 n es) (hd:fg φ H ds vs) (he:fg φ H es ws) (O:fF vs F) (G:fF ws E):
 (s.heap.IsList p F.toArray->s.heap.IsList q E.toArray->SeqAt.RcAt A s (.ref p) (.ref q) (o3 ds es))/\(s.heap.IsTuple p F.toArray->s.heap.IsTuple q E.toArray->SeqAt.RcAt A s (.ref p) (.ref q) (o3 ds es)):=by
 have l1:F.toArray.size=ds.length:=by rw[aI,<- O.length,hd.len]
 have l2:E.toArray.size=es.length:=by rw[aI,<- G.length,he.len]
 have U:∀ j (Q:j<F.toArray.size) (P:j<E.toArray.size),SeqAt.EqAt A.in1 s F.toArray[j] E.toArray[j] (wJ ds es j):=λj Q P=>by
  refine eU (x6 O Q) λx ex rx=>eU (x6 G P) λy ey Z=>eU (hd.AF ex) λd Y L=>eU (he.AF ey) λe W ie=>?_;have q:wJ ds es j=rA d e:=by delta wJ;rw[Y,W]
  rw[q];exact ih d e x y _ _ (qJ pd Y) (qJ pe W) L ie rx Z
 constructor
 .intro hl J;by_cases C:ds.length=es.length
  .have:=SeqAt.RcAt.lists hl J (by rw[l1,l2,C]) M U;rwa [l1,lK ds es C]at this
  .rw[oC C];exact SeqAt.RcAt.lists_lengths hl J (by rw[l1,l2];simpa using C) M
 .intro hl J;have:=SeqAt.RcAt.tuples hl J M U;rw[l1,l2]at this;by_cases C:ds.length=es.length
  .rw[<- C,Nat.min_self,lK ds es C]at this;simpa using this
  .rw[oC C];have e0:(ds.length==es.length)=false:=by simpa using C
   rwa [e0,dO]at this
def J9 (I:Inv X aa σ H s):∀(n:Nat) (A:Around) (d e:D) (x y:V) (u v:av),A.units+n<cLine->wy n d->wy n e->il φ H d x->il φ H e y->fH x u->fH y v->SeqAt.EqAt A s u v (rA d e):=by
 intro n;induction n with
 | zero =>
  intro A d e x y u v hu G L hd E C F;have Q:∀ {d:D} {x:V},wy 0 d->il φ H d x->jY x=true:=λ{d x} G hd=>by
   cases d with
   |fX=>subst hd;rfl
   |bl b=>subst hd;rfl
   |int b=>cases ZW;rfl
   |str b=>cases ZW;rfl
   |_=>exact False.elim G
  have q:=CL (A:=A) (s:=s) C F (Q G hd)<|Q L E;have eq:J7 x y=rA d e:=by
   cases d <;> first
    |exact False.elim G
    | (cases ZW
       cases e <;> first
        |exact False.elim L
        |(cases aaV;rfl))
  rw[eq]at q;exact q
 | succ n ih =>
  intro A d e x y u v hu G L hd E C F;have j:A.units<cLine:=by lia
  have Z:A.in1.units+n<cLine:=by show A.units+1+n<cLine;lia
  rcases uU I G hd C with fd|⟨p,Y,ds,U,rfl,r1,a1,m1,e1,p1,k1⟩
  .rcases uU I L E F with O | ⟨q,P,es,ws,rfl,r2,a2,m2,e2,p2,W⟩
   .have Q:∀ {d:D} {x:V} {u:av},wy (n+1) d->il φ H d x->fH x u->(∀ p,u≠.ref p)->jY x=true:=λ{d x u} G hd C fu=>by
     cases d with
     |fX=>cases ZW;rfl
     |bl b=>cases ZW;rfl
     |int b=>cases ZW;rfl
     |str b=>cases ZW;rfl
     |lst ds=>obtain⟨p,U,rfl,_⟩:=hd;cases C;exact absurd rfl (fu p)
     |tup ds=>obtain⟨p,U,rfl,_⟩:=hd;cases C;exact absurd rfl (fu p)
     |_=>exact False.elim G
    have fx:=Q G hd C fd
    have fy:=Q L E F O
    have q:=CL (A:=A) (s:=s) C F fx fy
    have eq:J7 x y=rA d e:=by
     rcases Ex G hd fx with⟨rfl,rfl⟩|⟨b,rfl,rfl⟩|⟨b,rfl,rfl⟩|⟨b,rfl,rfl⟩<;>
     rcases Ex L E fy with⟨rfl,rfl⟩|⟨c,rfl,rfl⟩|⟨c,rfl,rfl⟩|⟨c,rfl,rfl⟩<;> (rfl)
    rw[eq]at q
    exact q
   .rcases W with⟨rfl,hl⟩ | ⟨rfl,hl⟩
    .cases d with
     |fX=>cases ZW;subst C;exact SeqAt.EqAt.none_list hl j
     |bl b=>cases ZW;cases C;exact SeqAt.EqAt.bool_list b hl j
     |int b=>cases ZW;obtain⟨t,rfl⟩:=C;exact SeqAt.EqAt.int_list b t hl j
     |str b=>cases ZW;obtain⟨t,rfl⟩:=C;exact SeqAt.EqAt.str_list b t hl j
     |lst _=>obtain⟨_,_,rfl,_⟩:=hd;cases C;exact absurd rfl (fd _)
     |tup _=>obtain⟨_,_,rfl,_⟩:=hd;cases C;exact absurd rfl (fd _)
     |_=>exact False.elim G
    .cases d with
     |fX=>cases ZW;cases C;exact SeqAt.EqAt.none_tuple hl j
     |bl b=>cases ZW;cases C;exact SeqAt.EqAt.bool_tuple b hl j
     |int b=>cases ZW;obtain⟨t,rfl⟩:=C;exact SeqAt.EqAt.int_tuple b t hl j
     |str b=>cases ZW;obtain⟨t,rfl⟩:=C;exact SeqAt.EqAt.str_tuple b t hl j
     |lst _=>obtain⟨_,_,rfl,_⟩:=hd;cases C;exact absurd rfl (fd _)
     |tup _=>obtain⟨_,_,rfl,_⟩:=hd;cases C;exact absurd rfl (fd _)
     |_=>exact False.elim G
  .rcases uU I L E F with O | ⟨q,P,es,ws,rfl,r2,a2,m2,e2,p2,W⟩
   .rcases k1 with⟨rfl,hl⟩ | ⟨rfl,hl⟩
    .cases e with
     |fX=>cases aaV;cases F;exact SeqAt.EqAt.list_none hl j
     |bl b=>cases aaV;cases F;exact SeqAt.EqAt.list_bool b hl j
     |int b=>cases aaV;obtain⟨t,rfl⟩:=F;exact SeqAt.EqAt.list_int b t hl j
     |str b=>cases aaV;obtain⟨t,rfl⟩:=F;exact SeqAt.EqAt.list_str b t hl j
     |lst _=>obtain⟨_,_,rfl,_⟩:=E;cases F;exact absurd rfl (O _)
     |tup _=>obtain⟨_,_,rfl,_⟩:=E;cases F;exact absurd rfl (O _)
     |_=>exact False.elim L
    .cases e with
     |fX=>cases aaV;cases F;exact SeqAt.EqAt.tuple_none hl j
     |bl b=>cases aaV;cases F;exact SeqAt.EqAt.tuple_bool b hl j
     |int b=>cases aaV;obtain⟨t,rfl⟩:=F;exact SeqAt.EqAt.tuple_int b t hl j
     |str b=>cases aaV;obtain⟨t,rfl⟩:=F;exact SeqAt.EqAt.tuple_str b t hl j
     |lst _=>obtain⟨_,_,rfl,_⟩:=E;cases F;exact absurd rfl (O _)
     |tup _=>obtain⟨_,_,rfl,_⟩:=E;cases F;exact absurd rfl (O _)
     |_=>exact False.elim L
   .cases e1;cases e2;have rc:=HY I n A ds es U ws Y P p q j (λd e x y u v a b c d' e' f'=>ih A.in1 d e x y u v Z a b c d' e' f') p1 p2 a1 a2 r1 r2;by_cases M:p=q
    .subst M;have hv:x=y:=C.inj F;subst hv;rw[A5 G L hd E];exact SeqAt.EqAt.same _
    .rcases k1 with⟨rfl,hl⟩ | ⟨rfl,hl⟩<;> rcases W with⟨rfl,J⟩ | ⟨rfl,J⟩
     .exact .of_refs M (rc.1 hl J)
     .exact SeqAt.EqAt.list_tuple hl J j
     .exact SeqAt.EqAt.tuple_list hl J j
     .exact .of_refs M (rc.2 hl J)
def V6:D->D->aA (az D×az D)
 |.lst xs,.lst ys=>some (xs,ys)
 |.tup xs,.tup ys=>some (xs,ys)
 |_,_=>none
def Me (n:Nat)(neg:Bool):R2:=λx y H Q=>∃ j d e,wy n d/\wy n e/\il j H d x/\il j H e y/\(V6 d e).isSome=true/\Q (.bl<|neg != rA d e) H
def Dn (I:Inv X aa σ H s)(U:wy n d)(Q:wy n e)(hd:il φ H d x)(he:il φ H e y)(G:fH x u)(F:fH y v)(hs:(V6 d e).isSome=true):
 ∃ p q C j ds es vs ws m,u=.ref p/\v=.ref q/\n=m+1/\fF vs C/\fF ws j/\fg φ H ds vs/\fg φ H es ws/\B3 m ds/\B3 m es/\((d=.lst ds/\e=.lst es/\s.heap.IsList p C.toArray/\s.heap.IsList q j.toArray)\/(d=.tup ds/\e=.tup es/\s.heap.IsTuple p C.toArray/\s.heap.IsTuple q j.toArray)):=by
 rcases uU I U hd G with fd|⟨p,C,ds,vs,rfl,O,a1,m1,rfl,p1,J⟩
 .cases d with
  |lst _=>obtain⟨_,_,rfl,_⟩:=hd;subst G;exact absurd rfl (fd _)
  |tup _=>obtain⟨_,_,rfl,_⟩:=hd;subst G;exact absurd rfl (fd _)
  |_=>cases hs
 .rcases uU I Q he F with L | ⟨P,j,es,ws,rfl,M,a2,m2,Z,W,Y⟩
  .rcases J with⟨rfl,_⟩ | ⟨rfl,_⟩
   .cases e with
    |lst _=>obtain⟨_,_,rfl,_⟩:=he;subst F;exact absurd rfl (L _)
    |_=>cases hs
   .cases e with
    |tup _=>obtain⟨_,_,rfl,_⟩:=he;subst F;exact absurd rfl (L _)
    |_=>cases hs
  .cases Z;refine⟨p,P,C,j,ds,es,vs,ws,m1,rfl,rfl,rfl,O,M,a1,a2,p1,W,?_⟩;rcases J with⟨rfl,hl⟩|⟨rfl,hl⟩<;> rcases Y with⟨rfl,E⟩|⟨rfl,E⟩
   .exact .inl ⟨rfl,rfl,hl,E⟩
   .cases hs
   .cases hs
   .exact .inr ⟨rfl,rfl,hl,E⟩
def XQ (hu:X.A.units+n<cLine):jG X (compareOp .Eq) (Me n false):=by
 intro G s σ H x y u v Q I O M h;refine GF h λφ d e Z Y hd he hs q=>?_;obtain⟨p,W,E,C,ds,es,L,J,m1,rfl,rfl,rfl,U,P,a1,a2,p1,p2,kk⟩:=Dn I Z Y hd he O M hs;have F:=HY I m1 X.A ds es L J E C p W Zs (λd e x y u v a b c d' e' f'=>J9 I m1 X.A.in1 d e x y u v Zs a b c d' e' f') p1 p2 a1 a2 U P;rcases kk with⟨rfl,rfl,hl,j⟩|⟨rfl,rfl,hl,j⟩
 .exact F.1 hl j X.prog X.w X.xe _ ⟨.bl _,H,I,rfl,by rw[OP]at q;exact q⟩
 .exact F.2 hl j X.prog X.w X.xe _ ⟨.bl _,H,I,rfl,by rw[OP]at q;exact q⟩
def IQ (hu:X.A.units+n<cLine):jG X (compareOp .NotEq) (Me n true):=by
 intro M s σ H x y u v Q I P O h;refine GF h λφ d e pd pe hd he hs q=>?_;obtain⟨p,q',L,J,F,E,vs,ws,m1,rfl,rfl,rfl,Y,W,a1,a2,p1,p2,kk⟩:=Dn I pd pe hd he P O hs;have l1:L.toArray.size=F.length:=by rw[aI,<- Y.length,a1.len]
 have l2:J.toArray.size=E.length:=by rw[aI,<- W.length,a2.len]
 have el:∀ j (h1:j<L.toArray.size) (Z:j<J.toArray.size),SeqAt.EqAt X.A.in1 s L.toArray[j] J.toArray[j] (wJ F E j):=λj h1 Z=>by
  refine eU (x6 Y h1) λx ex P=>eU (x6 W Z) λy ey O=>eU (a1.AF ex) λd ed U=>eU (a2.AF ey) λe ee ie=>?_;have q:wJ F E j=rA d e:=by delta wJ;rw[ed,ee]
  rw[q];exact J9 I m1 X.A.in1 d e x y _ _ Zs (qJ p1 ed) (qJ p2 ee) U ie P O
 have fin:Q (.bl<|!o3 F E) H->EP X M σ Q (.bool<|!o3 F E) s:=λq=>⟨.bl _,H,I,rfl,q⟩;rcases kk with⟨rfl,rfl,hl,G⟩|⟨rfl,rfl,hl,G⟩
 .rw[SY]at q;by_cases C:F.length=E.length
  .have:=SeqAt.RcNeAt.lists hl G (by rw[l1,l2,C]) Zs el;rw[l1,lK F E C]at this;exact this X.prog X.w X.xe _ (fin q)
  .have t:=fin q;rw[oC C]at t;exact SeqAt.RcNeAt.lists_lengths hl G (by rw[l1,l2];simpa using C) Zs X.prog X.w X.xe _ t
 .rw[SY]at q;have this:=SeqAt.RcNeAt.tuples hl G Zs el;rw[l1,l2]at this;by_cases C:F.length=E.length
  .rw[<- C,Nat.min_self,lK F E C]at this;exact this X.prog X.w X.xe _ (by simpa using fin q)
  .have t:=fin q;rw[oC C]at t;have e0:(F.length==E.length)=false:=by simpa using C
   rw[e0,dO]at this;exact this X.prog X.w X.xe _ t
def Yn (n:Nat)(neg:Bool):xX:=λx y d K=>wy n x/\wy n y/\(V6 x y).isSome=true/\K (.bl<|neg != rA x y) d
def PN:nh (Me n neg) (Yn n neg):=λd H x y u q C K Q M j e k L=>⟨d,u,q,k.1,k.2.1,j,e,k.2.2.1,L.val M k.2.2.2 rfl⟩
def mE:D->Bool
 |.fX=>true
 |.bl _=>true
 |.int _=>true
 |.str _=>true
 |_=>false
def FP (neg:Bool):R2:=λx y H Q=>match x,y with
 |.str z,.str t=>∃ c:Nat,z=⟨#[c]⟩/\Q (.bl<|neg != decide (c∈t.cps.toList)) H
 |x,.ref p=>∃ d,aaB/\jY x=true/\d.all jY=true/\Q (.bl<|neg != Q1 x d) H
 |_,_=>False
def Xf:jG X (compareOp .In) (FP false):=(FW.or FY).imp λx y H Q q=>by
 delta FP at q;split at q
 .obtain⟨c,rfl,q⟩:=q;exact .inl ⟨_,_,rfl,rfl,by rw[StrLaws.found_one];rw[OP]at q;exact q⟩
 .refine si q λd h j e q=>?_;rw[OP]at q;rcases h with h|h
  .exact .inr ⟨_,d,rfl,.inl<|nJ.of h,j,e,q⟩
  .exact .inr ⟨_,d,rfl,.inr<|C4.of h,j,e,q⟩
 .exact q.elim
def QH:jG X (compareOp .NotIn) (FP true):=(yD.or yE).imp λx y H Q q=>by
 delta FP at q;split at q
 .obtain⟨c,rfl,q⟩:=q;exact .inl ⟨_,_,rfl,rfl,by rw[StrLaws.found_one];rw[SY]at q;exact q⟩
 .refine si q λd h j e q=>?_;rw[SY]at q;rcases h with h|h
  .exact .inr ⟨_,d,rfl,.inl<|nJ.of h,j,e,q⟩
  .exact .inr ⟨_,d,rfl,.inr<|C4.of h,j,e,q⟩
 .exact q.elim
def Yj (neg:Bool):xX:=λx y e K=>match x,y with
 |.str z,.str t=>∃ c:Nat,z=⟨#[c]⟩/\K (.bl<|neg != decide (c∈t.cps.toList)) e
 |x,y=>opt (lv e y) λj=>mE x=true/\j.all mE=true/\K (.bl<|neg != j.any λd=>rA d x) e
def Ct (i:il φ H d v)(h:mE d=true):jY v=true:=by cases d<;>first|exact(Bool.noConfusion h)|(subst i;rfl)
def Rb (i:il φ H d v)(j:il φ H e u)(h:mE d=true)(h':mE e=true):J7 v u=rA d e:=by
 cases d <;> first
  |exact(Bool.noConfusion h)
  | (subst i
     cases e <;> first
      |exact(Bool.noConfusion h')
      |(subst j;rfl))
theorem yQ (i:il φ H x v)(e:mE x=true):∀ {ds:az D} {vs:az V},fg φ H ds vs->ds.all mE=true->vs.all jY=true/\Q1 v vs=ds.any λd=>rA d x
 |[],_,h,_=>by subst h;exact⟨rfl,rfl⟩
 | d::ds,_,h,f=>by
  obtain⟨u,r,rfl,j,q⟩:=h;rw[dk,bM]at f;refine gv (yQ i e q f.2) λa b=>?_;unfold Q1 at b ⊢
  rw[dk,cK,cK,a,b,Ct j f.1,Rb j i f.1 e];exact⟨rfl,rfl⟩
def HA:nh (FP neg) (Yj neg):=λJ H x y U P O K Q M q u k L=>by
 delta Yj at k;split at k
 .subst q;subst u;obtain⟨c,rfl,k⟩:=k;exact⟨c,rfl,L.val M k rfl⟩
 .refine si (fS k) λW I C G k=>fw (jv M u I) λp E e F ha=>?_;subst e;refine gv (yQ q C ha G) λa b=>?_;have fx:=Ct q C;have j:∃ d,aaB/\jY x=true/\d.all jY=true/\Q (.bl<|neg != Q1 x d) H:=⟨E,.inl F,fx,a,b▸L.val M k rfl⟩;cases x<;>exact j
def range_any (bs:az Bool):(List.range bs.length).any (λi=>bs.getD i false)=bs.any id:=by
 rw[c8,List.any_eq_true,List.any_eq_true];constructor
 .rintro⟨i,j,e⟩;have d:i<bs.length:=by simpa using j
  rw[aP,iO d]at e;exact⟨_,bQ d,e⟩
 .refine λq=>eU q λb hb e=>?_;obtain⟨i,j,u⟩:=bj hb;refine⟨i,by simpa using j,?_⟩;rwa [aP,iO j,u]
def anyC (hc:X.fU=true):h9 X (.builtin "any") (z5 λbs=>bs.any id):=by
 intro C s P H vs us Q I Y h;delta z5 at h;split at h
 .rename_i p;refine eU h λbs hp q=>eU Y.one λu J Z=>?_;subst J;subst Z;obtain⟨z,d,n,r,hl,e⟩:=I.j9 hp;have E:s.heap.IsList p d.toArray:=⟨_,e,rfl,n,rfl⟩;have lt:=aN<|ic e;refine call_any_walk (c9 E ⟨_,_,_,_,_,_,λi=>bs.getD i false,rfl,Walks.list (A:=X.A.in1) aaQ s.heap.objs.size p lt d.toArray,⟨⟨_,aL _ rfl,rfl,rfl⟩,E.push _⟩,?_,λh' tk kp=>?_⟩)
  .intro i v U Q' E' hv hq;have F:d[i]?=some v:=by simpa using hv
   have hb:∃ b,bs[i]?=some b/\v=.bool b:=by
    cases j:(bs.map V.bl)[i]? with
    |none=>have:=r.none_of j;rw[F]at this;cases this
    | some y =>
     refine eU (r.get j) λu L W=>?_;rw[F]at L;cases L;rw[mD]at j;cases M:bs[i]? with
     |none=>rw[M]at j;cases j
     |some b=>rw[M]at j;cases j;exact⟨b,rfl,W⟩
   obtain⟨b,j,rfl⟩:=hb;have e3:bs.getD i false=b:=by rw[aP,j];rfl
   have G:Q' (bs.getD i false) U:=hq;rw[e3]at G;exact cF G
  .have I2:Inv X C P H { s with heap:=h',toks:=tk}:=I.af λb o O=>kp b o (by simpa using aN<|ic O)<|iU _ O;have len:d.toArray.size=bs.length:=by rw[aI,<- hl,fI]
   rw[len,range_any];exact⟨.bl _,H,I2,rfl,q⟩
 .cases h
def Sx (H:Hp)(b q:au):Prop:=∃(ns:az Int) (i r z:Int),H b=some (.lst [.ref q,.int i,.int r,.int z])/\H q=some (.lst<|ns.map V.int)/\q≠b/\0<=i/\0<=z/\z<2147483647
def t6:Sp:=λe H Q _=>match e with
 |[.ref b,.int n]=>∃ q,Sx H b q/\0<n/\n<1073741824/\∀ v d,0<=v->v<n->Sx d b q->OB b H d->Q (.int v) d
 |_=>False
def sF (h:t6 vs H Q E):∃ b n q,vs=[.ref b,.int n]/\Sx H b q/\0<n/\n<1073741824/\∀ v H',0<=v->v<n->Sx H' b q->OB b H H'->Q (.int v) H':=by
 delta t6 at h;split at h
 .obtain⟨q,h⟩:=h;exact⟨_,_,q,rfl,h⟩
 .cases h
def OT:jo:=λe d K=>dM [.m,.i] e λk n=>d[k]?=some .box/\0<n/\n<1073741824/\∀ v,0<=v->v<n->K (.int v) d
def Hn (h:jg OT vs H Q E):t6 vs H Q E:=by
 obtain⟨y,ds,μ,K,ha,M,k,L⟩:=h;obtain⟨kk,n,rfl,k⟩:=dJ k;obtain⟨v,r,rfl,h1,u,P,rfl,h2,h3⟩:=ha;cases h3;cases h2;obtain⟨b,hb,rfl⟩:=h1;obtain⟨Y,hn,G,k⟩:=k;obtain⟨b',e1,q,ns,i,r,z,g1,g2,X,g4,g5,g6⟩:=M.at_ kk _ Y;rw[hb]at e1;cases e1;have bin:=lH hb;have qb:q≠b:=λe=>X (by rwa [e]);refine⟨q,⟨ns,i,r,z,g1,g2,qb,g4,g5,g6⟩,hn,G,λv H' v0 v1 B' C=>?_⟩;obtain⟨F,i',P,z',Z,b2,b3,b4,b5,b6⟩:=B';have f:Fr y H y H':=⟨⟨[],by simp,λ_ h=>nomatch h⟩,λc o d e=>(C c λe'=>d<|by rwa [e']).trans e,λc e=>by
  by_cases d:c=b
  .rw[d,Z]at e;cases e
  .rw[<- C c d];exact e⟩
 refine L _ μ y _ H' (k v v0 v1) f ⟨M.nd,M.len,λj m I=>?_⟩ rfl;by_cases W:j=kk
 .subst W;rw[Y]at I;cases I;exact⟨b,hb,q,F,i',P,z',Z,b2,X,b4,b5,b6⟩
 .obtain⟨p,e1,e2⟩:=M.at_ j m I;refine⟨p,e1,e2.mono f λo eo=>?_⟩;have pb:p≠b:=λe=>by
   subst e;obtain⟨U,O⟩:=jA hb;obtain⟨i2,J⟩:=jA e1;rcases Nat.lt_or_gt_of_ne W with z|z
   .exact List.pairwise_iff_getElem.mp M.nd j kk i2 U z (J.trans O.symm)
   .exact List.pairwise_iff_getElem.mp M.nd kk j U i2 z (O.trans J.symm)
  rwa [C p pb]
def BN (K:aj):Sp:=λe H Q _=>match e with
 |[.ref a]=>∃ ns:az Int,nJ K H a abi/\∀ b q d,Sx d b q->H b=none->H q=none->gm H d->Q (.ref b) d
 |_=>False
def GQ (h:Sx H b q):fK [b] H [.box]:=by
 refine sh h λns i r z E C y u j d=>⟨by simp,rfl,λk m e=>?_⟩;cases k with
 |zero=>cases e;exact⟨b,rfl,q,ns,i,r,z,E,C,by simpa using y,u,j,d⟩
 |succ k=>cases e
mutual
def uP:Nat->D->Prop
 |n+1,.lst ds=>ds.length<=100000/\LA n ds
 |n+1,.tup ds=>ds.length<=100000/\LA n ds
 |0,.lst _=>False
 |0,.tup _=>False
 |_,.gP _ _=>False
 |_,.mr _=>False
 |_,.obj _ _ _=>False
 |_,.ki _ _=>False
 |_,.fn _=>False
 |_,_=>True
def LA:Nat->List D->Prop
 |_,[]=>True
 |n,d::ds=>uP n d/\LA n ds
end
theorem yi:∀ {ds:az D},(∀ d∈ds,uP n d)->LA n ds
 |[],_=>by trivial
 |d::ds,h=>⟨h d aE,yi λx e=>h x<|jJ _ e⟩
def pR {n:Nat}{ds:az D}(hl:ds.length<=100000)(h:∀ d∈ds,uP n d):uP (n+1) (.lst ds):=⟨hl,yi h⟩
def uO {n:Nat}{ds:az D}(hl:ds.length<=100000)(h:∀ d∈ds,uP n d):uP (n+1) (.tup ds):=⟨hl,yi h⟩
def jC {n:Nat}{i:Int}:uP n (.int i):=by cases n<;>trivial
def kS:uP n (.str i):=by cases n<;>trivial
def L4 {n:Nat}{ns:az Int}(h:ns.length<=100000):uP (n+1) (.lst<|ns.map D.int):=pR (by rwa [fI]) λd hd=>by obtain⟨i,_,rfl⟩:=List.mem_map.mp hd;exact jC
mutual
theorem DD:∀ {n:Nat} {d:D},uP n d->wy n d:=λ{n d} h=>by
 cases d with
 | lst ds =>
  cases n with
  |zero=>exact absurd h id
  |succ n=>exact BR h.2
 | tup ds =>
  cases n with
  |zero=>exact absurd h id
  |succ n=>exact BR h.2
 |gP _ _=>exact absurd h ZA
 |mr _=>exact absurd h ZA
 |obj _ _ _=>exact absurd h ZA
 |ki _ _=>exact absurd h ZA
 |fn _=>exact absurd h ZA
 |_=>cases n<;>trivial
theorem BR:∀ {n:Nat} {ds:List D},LA n ds->B3 n ds:=λ{n ds} h=>by
 cases ds with
 |nil=>unfold B3;trivial
 |cons d ds=>unfold LA at h;unfold B3;exact⟨DD h.1,BR h.2⟩
end
mutual
def tO:D->DV
 |.fX=>.fX
 |.bl b=>.bl b
 |.int i=>.int i
 |.str z=>.str z
 |.lst ds=>.lst (nX ds)
 |.tup ds=>.tup (nX ds)
 |_=>.fX
def nX:List D->List DV
 |[]=>[]
 |d::ds=>tO d::nX ds
end
theorem rP:∀ ds:az D,(nX ds).length=ds.length
 |[]=>rfl
 |d::ds=>by unfold nX;rw[aY,aY,rP ds]
mutual
theorem n0 {φ:List au}{H:Hp}:∀ {n:Nat} {d:D},uP n d->(∀ v,il φ H d v->Is H (tO d) v)/\dep (tO d)<=n/\Lz (tO d)<=100000:=λ{n d} h=>by
 cases d with
 | lst ds =>
  cases n with
  |zero=>exact absurd h id
  | succ n =>
   have h:_/\LA n _:=h;obtain⟨a,b,c⟩:=yh (φ:=φ) (H:=H) h.2;refine⟨λv hv=>?_,?_,?_⟩
   .obtain⟨p,vs,rfl,_,hp,q⟩:=hv;unfold tO;exact⟨p,vs,rfl,hp,a vs q⟩
   .unfold tO dep;lia
   .have:=rP ds;unfold tO Lz;lia
 | tup ds =>
  cases n with
  |zero=>exact absurd h id
  | succ n =>
   have h:_/\LA n _:=h;obtain⟨a,b,c⟩:=yh (φ:=φ) (H:=H) h.2;refine⟨λv hv=>?_,?_,?_⟩
   .obtain⟨p,vs,rfl,_,hp,q⟩:=hv;unfold tO;exact⟨p,vs,rfl,hp,a vs q⟩
   .unfold tO dep;lia
   .have:=rP ds;unfold tO Lz;lia
 |fX=>exact⟨λv hv=>hv,bx _,bx _⟩
 |bl b=>exact⟨λv hv=>hv,bx _,bx _⟩
 |int b=>exact⟨λv hv=>hv,bx _,bx _⟩
 |str b=>exact⟨λv hv=>hv,bx _,bx _⟩
 |gP _ _=>exact absurd h ZA
 |mr _=>exact absurd h ZA
 |obj _ _ _=>exact absurd h ZA
 |ki _ _=>exact absurd h ZA
 |fn _=>exact absurd h ZA
theorem yh {φ:List au}{H:Hp}:∀ {n:Nat} {ds:List D},LA n ds->(∀ vs,fg φ H ds vs->k9 H (nX ds) vs)/\wD (nX ds)<=n/\wu (nX ds)<=100000:=λ{n ds} h=>by
 cases ds with
 |nil=>exact⟨λvs hv=>hv,bx _,bx _⟩
 | cons d ds =>
  unfold LA at h;obtain⟨a,b,c⟩:=n0 (φ:=φ) (H:=H) h.1;obtain⟨a',b',c'⟩:=yh (φ:=φ) (H:=H) h.2;refine⟨λvs hv=>?_,?_,?_⟩
  .obtain⟨v,r,rfl,h1,h2⟩:=hv;unfold nX;exact⟨v,r,rfl,a v h1,a' r h2⟩
  .unfold nX wD;lia
  .unfold nX wu;lia
end
def Ra (μ:MS):D->aA D
 |.mr k=>(wm μ k).map .lst
 |x=>some x
def Et (M:fK φ H μ)(e:Ra μ x=some d)(hs:uP n d)(h:il φ H x v):Is H (tO d) v:=by
 cases x with
 | mr k =>
  obtain⟨p,C,rfl⟩:=h;have j:(wm μ k).map D.lst=some d:=e;cases q:wm μ k with
  |none=>rw[q]at j;cases j
  | some ds =>
   rw[q]at j;cases j;obtain⟨E,e1,u,y,ha⟩:=M.at_ k _<|jT q;rw[C]at e1;cases e1;cases n with
   |zero=>exact absurd hs id
   | succ n =>exact⟨p,u,rfl,y,(yh (H:=H) hs.2).1 u ha⟩
 |fX=>cases e;exact(n0 (H:=H) hs).1 v h
 |bl b=>cases e;exact(n0 (H:=H) hs).1 v h
 |int b=>cases e;exact(n0 (H:=H) hs).1 v h
 |str b=>cases e;exact(n0 (H:=H) hs).1 v h
 |lst b=>cases e;exact(n0 (H:=H) hs).1 v h
 |tup b=>cases e;exact(n0 (H:=H) hs).1 v h
 |obj _ _ _=>cases e;exact(n0 (H:=H) hs).1 v h
 |ki _ _=>cases e;exact(n0 (H:=H) hs).1 v h
 |fn _=>cases e;exact(n0 (H:=H) hs).1 v h
 |gP _ _=>cases e;exact absurd hs ZA
def OU:jo:=λj e K=>dM [.v,.v] j λx y=>∃ d,Ra e x=some d/\Ra e y=some d/\uP 5 d/\K (.bl true) e
def HE (h:jg OU vs H Q E):rR 5 vs H Q E:=by let ⟨φ,ds,μ,K,ha,M,k,L⟩:=h;obtain⟨_,_,rfl,k⟩:=dJ k;obtain⟨v,r,rfl,q,u,C,rfl,j,e⟩:=ha;cases e;let ⟨d,e1,e2,hs,k⟩:=k;obtain⟨a,b,c⟩:=n0 (φ:=φ) (H:=H) hs;exact⟨tO d,b,cx c<|by decide,Et M e1 hs q,Et M e2 hs j,λy S=>L _ μ φ _ y k (.same S) (M.same S) rfl⟩
theorem hX (j:c μ)(f:D->aA D):∀ {ds:az D} {K:az D->MS->Prop},(∀ d∈ds,∀(q:aA D->MS->Prop),q (f d) μ->it d μ q)->K (ds.filterMap f) μ->nB it c ds μ K
 |[],K,_,k=>⟨j,k⟩
 | d::ds,K,h,k=>⟨j,h d aE _ (hX j f (λx u=>h x<|jJ _ u) (by
  cases e:f d with
  |none=>rw[List.filterMap_cons_none e]at k;exact k
  |some y=>rw[List.filterMap_cons_some e]at k;exact k))⟩
theorem xJ (Pv:az D->az D->MS->Prop):∀ {ds:az D} {μ:MS} {ys:az D} {K:az D->MS->Prop},Pv ds ys μ->(∀ d e ys μ,Pv (d::e) ys μ->c μ/\∀(u:aA D->MS->Prop),(∀ o μ',Pv e (ys++o.toList) μ'->u o μ')->it d μ u)->(∀ ys μ,Pv [] ys μ->c μ)->(∀ zs μ,Pv [] (ys++zs) μ->K zs μ)->nB it c ds μ K
 |[],μ,ys,K,h,hs,q,hk=>⟨q ys μ h,hk [] μ<|by rwa [bH]⟩
 | d::ds,μ,ys,K,h,hs,q,hk=>by let ⟨c',st⟩:=hs d ds ys μ h;exact⟨c',st _ λo μ' y=>xJ Pv y hs q λzs j C=>hk _ j<|by rwa [<- aS]⟩
theorem gR (Pv:az D->DE->MS->Prop):∀ {ds:az D} {e:DE} {μ:MS},Pv ds e μ->(∀ d q e μ,Pv (d::q) e μ->c μ/\∀(nx:DE->MS->Prop),(∀ j μ',Pv q j μ'->nx j μ')->g d e μ λu y=>b { N with nx:=nx,ct:=nx,bk:=N.nx} u y)->(∀ e μ,Pv [] e μ->c μ/\N.nx e μ)->wA g b N c ds e μ
 |[],e,μ,h,hs,hd=>hd e μ h
 | d::ds,e,μ,h,hs,hd=>by exact gv (hs d ds e μ h) λF C=>⟨F,C _ λj μ' E=>gR Pv E hs hd⟩
structure Ws (mg:Str->Option av):Prop where
 len:mg "len"=none
 range:mg "range"=none
 list:mg "list"=none
 isinstance:mg "isinstance"=none
 max:mg "max"=none
 min:mg "min"=none
 bool:mg "bool"=none
 tuple:mg "tuple"=none
 str:mg "str"=none
 int:mg "int"=none
 all:mg "all"=none
 any:mg "any"=none
 zip:mg "zip"=none
 enumerate:mg "enumerate"=none
 reversed:mg "reversed"=none
 dict:mg "dict"=none
 sorted:mg "sorted"=none
abbrev txt (l:az Nat):Str:=⟨l.toArray⟩
structure Cuts (n:Int)(cs:List Int):Prop where
 Xc:∀ c∈cs,1<=c/\c<n
 up:cs.Pairwise (·<·)
abbrev Tk:=az Nat×Int
def iI (t:Tk):D:=.tup [.str (txt t.1),.int t.2]
structure Fi (n:Int)(ts:List Tk):Prop where
 iu:ts.length<=20
 ok:∀ t∈ts,(t.1.length:Int)=n/\OX t.1/\0<=t.2/\t.2<=60
def UU:jo:=λj e K=>dM [.i,.v] j λn x=>∃ d:az Int,lv e x=some (d.map D.int)/\d.length<=1000/\K (.lst<|(ae n d).map D.int) e
def gO (n:Int)(cs:az Int):(ae n cs).length=cs.length+2:=by delta ae;simp
def AR (n:Int)(cs:az Int):[D.int 0]++cs.map D.int++[D.int n]=(ae n cs).map D.int:=by delta ae;simp
def sz (h:n<=100000):n<=sizeLine:=aT h Zu
def WL (h:n<=100000):n<sizeLine:=cx h Zu
def OE (es:az Int):az (Int×Int):=es.zip es.tail
def TN (p:Int×Int):D:=.tup [.int p.1,.int p.2]
def Nm:jo:=λj e K=>dM [.i,.v] j λn x=>∃ d:az Int,lv e x=some (d.map D.int)/\d.length<=1000/\K (.lst<|(OE<|ae n d).map TN) e
def wH (l:az Nat)(a b:Int):az Nat:=ig l (some a) (some b)
def bad (ts:az Tk)(p:Int×Int):Bool:=ts.all λt=>decide (120∈wH t.1 p.1 p.2)
def jI (es:az Int)(ts:az Tk):aA (Int×Int):=(OE es).find? (bad ts)
def TZ:aA (Int×Int)->D
 |some p=>TN p
 |none=>.fX
def Rw:jo:=λj d K=>dM [.i,.v,.v] j λn x y=>∃(e:az Int) (ts:az Tk),lv d x=some (e.map D.int)/\lv d y=some (ts.map iI)/\e.length<=1000/\Fi n ts/\n<=1000/\K (TZ<|jI (ae n e) ts) d
theorem sx {α:Type}(g:α->D)(P:α->Prop){it:D->MS->(aA D->MS->Prop)->Prop}{c:MS->Prop}{μ:MS}(q:c μ):∀ {ds:az D} {K:az D->MS->Prop},(∀ d∈ds,∀(u:aA D->MS->Prop),(∀ a,P a->u (some<|g a) μ)->it d μ u)->(∀ as:az α,as.length=ds.length->(∀ a∈as,P a)->K (as.map g) μ)->nB it c ds μ K
 |[],K,_,k=>⟨q,k [] rfl λ_ h=>nomatch h⟩
 | d::ds,K,h,k=>⟨q,h d aE _ λa ha=>sx g P q (λx j=>h x<|jJ _ j) λas hl y=>k (a::as) (by rw[aY,aY,hl]) λx j=>by
  rcases List.mem_cons.mp j with e|e
  .rwa [e]
  .exact y x e⟩
def DW (lo:Int)(n:Nat):lP lo n=((List.range n).map λi=>lo+(i:Nat)).map D.int:=by rw[aQ];rfl
def jt (lo:Int)(n:Nat):(lP lo n).length=n:=by delta lP;rw[fI,xr]
def iE {n:Int}{cs:az Int}(j:1<=n)(h:Cuts n cs):(ae n cs).Pairwise (·<·):=by
 delta ae;rw[dn,List.pairwise_cons];refine⟨λx d=>?_,?_⟩
 .rcases List.mem_append.mp d with q | q
  .have:=h.Xc x q;lia
  .rw[List.mem_singleton.mp q];assumption
 .rw[List.pairwise_append];exact⟨h.up,List.pairwise_singleton _ _,λx d y e=>by rw[List.mem_singleton.mp e];exact(h.Xc x d).2⟩
def iQ {n:Int}{cs:az Int}(e:1<=n)(h:Cuts n cs){x:Int}(d:x∈ae n cs):0<=x/\x<=n:=by
 rcases List.mem_cons.mp d with q|q
 .lia
 .rcases List.mem_append.mp q with q | q
  .have:=h.Xc x q;lia
  .rw[List.mem_singleton.mp q];lia
def pO {es:az Int}(h:es.Pairwise (·<·)){i j:Nat}{a b:Int}(y:es[i]?=some a)(u:es[j]?=some b)(d:i<j):a<b:=by refine jj (jA y) λE q=>?_;refine jj (jA u) λC e=>?_;have:=List.pairwise_iff_getElem.mp h i j E C d;rwa [q,e]at this
def lA {α β:Type}{g:α->β}{xs:az α}{i:Nat}{a:α}(h:xs[i]?=some a):kP (xs.map g) (i:Int)=some (g a):=iS (by rw[mD,h];rfl)
def i9 (l:az Nat):(txt l).length=l.length:=Ck l
def qj (l:az Nat):(txt l).cps.toList=l:=by simp
def oU {α:Type}(l:az α)(lo d:aA Int):(ig l lo d).length<=l.length:=Bd l lo d
theorem Ek:∀ {ds:az D},(∀ d∈ds,sW n d)->nO n ds
 |[],_=>True.intro
 |d::ds,h=>⟨h d aE,Ek λx e=>h x<|jJ _ e⟩
def Ja (ns:az Int):nO n (ns.map D.int):=Ek λd hd=>by obtain⟨i,_,rfl⟩:=List.mem_map.mp hd;exact True.intro
def Oo {n:Nat}(t:Tk):uP (n+1) (iI t):=by
 refine uO ZN λd hd=>?_;simp at hd;rcases hd with rfl|rfl
 .exact kS
 .exact jC
def PQ {n:Nat}{ts:az Tk}(h:ts.length<=100000):uP (n+2) (.lst<|ts.map iI):=pR (by rwa [fI]) λd hd=>by obtain⟨t,_,rfl⟩:=List.mem_map.mp hd;exact Oo t
def gr:(μ++[x]).set μ.length y=μ++[y]:=by rw[dE _ _ aaa,bc];rfl
def RM {μ:MS}{x:D}{xs:az D}{i:Int}{d:D}{K:DK}(e:lv μ x=some xs)(h:kP xs i=some d)(k:K d μ):Vh x (.int i) μ K:=by
 cases x with
 |lst ds=>cases e;exact eT h k
 |mr j=>exact eT e (eT h k)
 |_=>cases e
def Bc (l:az Nat)(i j:Nat):wH l i j=(l.drop i).take (j - i):=by
 delta wH ig;rw[HT.jN,HT.jN];rcases Nat.le_total i l.length with q|q
 .rw[cc q];rcases Nat.le_total j l.length with z|z
  .rw[cc z]
  .rw[dP z,br (bL▸aB _),br (bL▸Nat.sub_le_sub_right z i)]
 .rw[dP q,bI aaa,bI q,List.take_nil,List.take_nil]
def D3:(OE es)[i]?=(match es[i]?,es[i+1]? with | some a,some b=>some (a,b) | _,_=>none):=by delta OE;rw[List.zip,bU,List.getElem?_tail];cases es[i]?<;>cases es[i+1]?<;>rfl
def Oe (hr:gZ k A)(hn:n<=64):A.units+n<cLine:=by have:=hr.units;lia
def MH:j7 [b] H (none::some (.mr 0)::List.replicate m none) (x::some (.ref b)::List.replicate m none):=by
 refine⟨by simp,λi d e=>?_⟩;cases i with
 |zero=>cases e
 | succ i =>
  cases i with
  |zero=>cases e;exact⟨_,rfl,b,rfl,rfl⟩
  | succ i =>have:=List.eq_of_mem_replicate<|lH e;cases this
def Ul:DN:={ nx:=λ_ _=>False,rt:=λd _=>d=.bl true}
def QM (B:Sx H b q)(w:W Ul (none::some (.mr 0)::List.replicate m none) [.box])(k:∀ H',Q (.bl true) H'):V1 W { nx:=λ_ H'=>Q .fX H',rt:=Q} (some (.ref a)::some (.ref b)::List.replicate m none) H :=
 ⟨[b],_,[.box],Ul,MH,GQ B,w,⟨λ_ _ _ _ _ z=>z.elim,λd j e v H' kd _ _ i=>by subst kd;subst i;exact k H',λ_ _ _ _ _ z=>z.elim,λ_ _ _ _ _ z=>z.elim⟩⟩
section
variable [DecidableEq κ]
def mj (fM:az (κ×V))(k:κ):aA V:=(fM.find? λkv=>decide (kv.1=k)).map ZI
def putK (fM:az (κ×V))(k:κ)(v:V):az (κ×V) :=
 if(fM.any λkv=>decide (kv.1=k))=true then fM.map (λkv=>if kv.1=k then(kv.1,v)else kv)else fM++[(k,v)]
def pG (fM:az (κ×V))(k:κ):az (κ×V):=fM.filter λkv=>decide (kv.1≠k)
def nR {p:κ×V}{r:az (κ×V)}{k:κ}(e:p.1=k):mj (p::r) k=some p.2:=by simp[mj,bR,e]
def nT {p:κ×V}{r:az (κ×V)}{k:κ}(e:¬ p.1=k):mj (p::r) k=mj r k:=by simp[mj,bR,e]
theorem zF (k:κ):∀ fM:az (κ×V),(fM.any λkv=>decide (kv.1=k))=(mj fM k).isSome
 |[]=>rfl
 | p::r=>by
  rw[cK];by_cases e:p.1=k
  .simp only[nR e,aH e,Bool.true_or,Option.isSome_some]
  .rw[nT e,aO e,Bool.false_or];exact zF k r
def ot (fM:az (κ×V))(k:κ)(v:V):(putK fM k v).length<=fM.length+1:=by
 delta putK;split
 .rw[fI];lia
 .rw[i8,aY,List.length_nil];lia
def o5.lD {o:aA V}{u:aA av}(r:o5 o u):o.isSome=u.isSome:=by
 cases o with
 | none=>cases u with
  |none=>rfl
  |some _=>exact(show False from r).elim
 | some _=>cases u with
  |none=>exact(show False from r).elim
  |some _=>rfl
def KV.val {fM:az (κ×V)}{vs:az (κ×av)}(r:KV fM vs)(k:κ):o5 (mj fM k) (valueAt vs k):=by
 delta KV at r;induction r with
 |nil=>exact True.intro
 | @cons p q J j h t G =>
  obtain⟨F,I⟩:=h;by_cases e:p.1=k
  .have C:q.1=k:=F.symm.trans e;have b:valueAt (q::j) k=some q.2:=by simp[valueAt,bR,C]
   rw[nR e,b];exact I
  .have C:¬ q.1=k:=λz=>e<|F.trans z;have b:valueAt (q::j) k=valueAt j k:=by simp[valueAt,bR,C]
   rw[nT e,b];exact G
theorem KV.any {fM:az (κ×V)}{vs:az (κ×av)}(r:KV fM vs)(k:κ):(fM.any λkv=>decide (kv.1=k))=vs.any λkv=>decide (kv.1=k):=by
 delta KV at r;induction r with
 |nil=>rfl
 |cons h t j=>rw[cK,cK,j,h.1]
def KV.P0 {fM:az (κ×V)}{vs:az (κ×av)}(r:KV fM vs)(k:κ){y:V}{u:av}(C:fH y u):
 KV (fM.map λkv=>if kv.1=k then(kv.1,y)else kv) (vs.map λkv=>if kv.1=k then(kv.1,u)else kv):=by
 delta KV at r ⊢
 induction r with
 |nil=>exact .nil
 | @cons p q J I h t F =>
  rw[aJ,aJ];refine .cons (gv h λj G=>?_) F;by_cases e:p.1=k
  .rw[aF e,aF (j.symm.trans e)];exact⟨j,C⟩
  .rw[aD e,aD (λz=>e<|j.trans z)];exact⟨j,G⟩
def KV.put {fM:az (κ×V)}{vs:az (κ×av)}(r:KV fM vs)(k:κ){y:V}{u:av}(j:fH y u):KV (putK fM k y) (stored vs k u):=by
 delta putK stored;rw[r.any k];by_cases e:(vs.any λkv=>decide (kv.1=k))=true
 .rw[aF e,aF e];exact r.P0 k j
 .rw[aD e,aD e];exact Paired.snoc r ⟨rfl,j⟩
def KV.drop {fM:az (κ×V)}{vs:az (κ×av)}(r:KV fM vs)(k:κ):KV (pG fM k) (without vs k):=by
 delta KV at r ⊢
 delta pG without;induction r with
 |nil=>exact .nil
 | @cons p q J I h t C =>
  obtain⟨j,F⟩:=h;rw[bE,bE];by_cases e:p.1=k
  .have a:¬ decide (p.1≠k)=true:=by simp[e]
   have b:¬ decide (q.1≠k)=true:=by simp[j.symm.trans e]
   rw[aD a,aD b];exact C
  .have G:¬ q.1=k:=λz=>e<|j.trans z;have a:decide (p.1≠k)=true:=by simp[e]
   have b:decide (q.1≠k)=true:=by simp[G]
   rw[aF a,aF b];exact .cons ⟨j,F⟩ C
theorem KV.length {fM:az (κ×V)}{vs:az (κ×av)}(r:KV fM vs):fM.length=vs.length:=Paired.length r
def AW (fM:az (κ×V))(k:κ):(pG fM k).length<=fM.length:=bN _ _
end
def qX {P:ak}{w:ao}{k:Key}{u:av}(r:fH (kV k) u):(f9 P w).is k u=true:=by
 cases k with
 |inl i=>obtain⟨t,e⟩:=(show ∃ t,u=Value.int i t from r);subst e;exact Ar P w i t
 |inr x=>obtain⟨t,e⟩:=(show ∃ t,u=Value.str x t from r);subst e;exact Aq P w x t
theorem xp {P:ak}{w:ao}:∀ {ks:az Key} {us:az av},fF (ks.map kV) us->ItemsAre (f9 P w) ks us
 |[],_,r=>by rw[List.map_nil]at r;cases r;exact .nil
 | k::ks,_,r=>by
  rw[aJ]at r;cases r with
  |cons h t=>exact .cons (qX h) (xp t)
abbrev KT (H:Hp):az (az Key×V)->az (az Key×au×av)->Prop:=Paired λp q=>p.1=q.1/\H q.2.1=some (.tup<|p.1.map kV)/\fH p.2 q.2.2
def KT.val {H:Hp}{fM:az (az Key×V)}{xs:az (az Key×au×av)}(r:KT H fM xs)(k:az Key):o5 (mj fM k) ((atKey xs k).map ZI):=by
 induction r with
 |nil=>exact True.intro
 | @cons p q J j h t G =>
  refine kc h λF _ I=>?_;by_cases e:p.1=k
  .have C:q.1=k:=F.symm.trans e;have b:atKey (q::j) k=some q.2:=by simp[atKey,bR,C]
   rw[nR e,b];exact I
  .have C:¬ q.1=k:=λz=>e<|F.trans z;have b:atKey (q::j) k=atKey j k:=by simp[atKey,bR,C]
   rw[nT e,b];exact G
def KT.P0 {H:Hp}{fM:az (az Key×V)}{xs:az (az Key×au×av)}(r:KT H fM xs)(k:az Key){y:V}{u:av}(F:fH y u):
 KT H (fM.map λkv=>if kv.1=k then(kv.1,y)else kv) (xs.map<|putAt k u):=by
 induction r with
 |nil=>exact .nil
 | @cons p q L J h t G =>
  rw[aJ,aJ];refine .cons (kc h λj C I=>?_) G;delta putAt;by_cases e:p.1=k
  .rw[aF e,aF (j.symm.trans e)];exact⟨j,C,F⟩
  .rw[aD e,aD (λz=>e<|j.trans z)];exact⟨j,C,I⟩
def KT.put {H:Hp}{fM:az (az Key×V)}{xs:az (az Key×au×av)}(r:KT H fM xs)(k:az Key){b:au}{y:V}{u:av}(hb:H b=some (.tup<|k.map kV))(j:fH y u):
 KT H (putK fM k y) (storedH xs k b u):=by
 have e:(fM.any λkv=>decide (kv.1=k))=(atKey xs k).isSome:=by rw[zF,(r.val k).lD,Option.isSome_map]
 delta putK storedH;rw[e];by_cases q:(atKey xs k).isSome=true
 .rw[aF q,aF q];exact r.P0 k j
 .rw[aD q,aD q];exact Paired.snoc r ⟨rfl,hb,j⟩
def KT.keeps {H H':Hp}{fM:az (az Key×V)}{xs:az (az Key×au×av)}(r:KT H fM xs)(ht:∀ b ys,H b=some (.tup ys)->H' b=some (.tup ys)):KT H' fM xs :=
 Paired.Cf r λ_ _ z=>⟨z.1,ht _ _ z.2.1,z.2.2⟩
def Oy {u:HO}(ok:oW P w H h)(e:Rd H a u):iB P w H h a u:=e.ok ok
def lY {fM:az abg}(ok:oW P w H h)(e:Rd H a (.dK fM)):fM.length<=sizeLine/\aaZ=false/\∃ vs,KV fM vs/\h.DictOf (f9 P w) a vs :=
 show iB P w H h a (.dK fM)from Oy ok e
def EO {fM:az abg}(ok:oW P w H h)(e:H a=some (.dK fM)):fM.length<=sizeLine/\aaZ=false/\∃ vs,KV fM vs/\h.DictOf (f9 P w) a vs:=lY ok (.inl e)
def vp {ks:az Key}(ok:oW P w H h)(e:H a=some (.tup<|ks.map kV)):(tupleKind<|f9 P w).is h ks a:=by obtain⟨_,j,r,o,F,C,n,q⟩:=(show iB P w H h a (.tup<|ks.map kV)from ok a _ e);exact⟨o,j.toArray,n,F,C,q,by simpa using xp r⟩
def xD {fM:az (az Key×V)}(ok:oW P w H h)(e:Rd H a (.dT fM)):fM.length<=sizeLine/\aaZ=false /\
 ∃ xs,KT H fM xs/\h.DictOfH (tupleKind<|f9 P w) a xs:=by
 obtain⟨z,y,xs,r,o,O,Q,M,L,J,I,G⟩:=(show iB P w H h a (.dT fM)from Oy ok e);refine⟨z,y,xs,r,o,O,Q,M,L,J,I,λx j=>?_,G⟩;have all:∀ {l:az (az Key×V)} {m:az (az Key×au×av)},KT H l m->∀ x∈m,(tupleKind<|f9 P w).is h x.1 x.2.1:=by
  intro l m q;induction q with
  |nil=>intro x j;exact nomatch j
  | @cons p q W U C t F =>
   intro x j;rcases List.mem_cons.mp j with e|j
   .subst e;exact vp ok (C.1▸C.2.1)
   .exact F x j
 exact all r x j
def U1 {fM:az (az Key×V)}(ok:oW P w H h)(e:H a=some (.dT fM)):fM.length<=sizeLine/\aaZ=false /\
 ∃ xs,KT H fM xs/\h.DictOfH (tupleKind<|f9 P w) a xs:=xD ok (.inl e)
def Bu (H:Hp)(a:au)(y:V)(r:aA V):Prop :=
 (∃ fM k,Rd H a (.dK fM)/\y=kV k/\r=mj fM k)\/∃ fM k b,Rd H a (.dT fM)/\y=.ref b/\H b=some (.tup<|k.map kV)/\r=mj fM k
def GY (H:Hp)(a:au)(y v:V)(H':Hp):Prop :=
 (∃ fM k,H a=some (.dK fM)/\y=kV k/\fM.length<sizeLine/\H'=upd H a (.dK<|putK fM k v)) \/
 ∃ fM k b,H a=some (.dT fM)/\y=.ref b/\H b=some (.tup<|k.map kV)/\fM.length<sizeLine/\H'=upd H a (.dT<|putK fM k v)
theorem GY.k {H:Hp}{a:au}{fM:az abg}{k:Key}{v:V}(e:H a=some (.dK fM))(hl:fM.length<sizeLine):GY H a (kV k) v (upd H a<|.dK<|putK fM k v):=.inl ⟨fM,k,e,rfl,hl,rfl⟩
def Inv.big (I:Inv X aa σ H s):sysModules<s.heap.objs.size:=by have h:mainGlobals<s.heap.objs.size:=(I.mod.glob.keeps I.bk).lt;exact dr Zu h
def GK {Q:av->ar->Prop}(O:A.units+1<cLine)(I:Inv X aa σ H s)(g:Bu H a y (some v))(J:fH y u)(h:∀ q s',Inv X aa σ H s'->fH v q->Q q s'):
 wpAny Zt A (getItem (.ref a) u) Q E s:=by
 rcases g with⟨fM,k,e,G,l⟩|⟨fM,k,b,e,G,W,l⟩
 .subst G;obtain⟨z,hd,M,rel,dd⟩:=lY I.fO e;exact eU (o5.some_of (v:=v) (o:=valueAt M k)<|l▸rel.val k) λq C j=>wpAny_getItem_of (qX J) dd.mapOf C (h q _ (I.tok _) j)
 .subst G;cases(show u=Value.ref b from J);obtain⟨z,hd,L,rel,dd⟩:=xD I.fO e;refine eU (o5.some_of (v:=v) (o:=(atKey L k).map ZI)<|l▸rel.val k) λq C j=>eU (Option.map_eq_some_iff.mp C) λp U F=>wpAny_getItem_heap (eA O) (vp I.fO W) dd U ?_;rw[F];exact h q _ (I.tok _) j
def XZ {Q:av->ar->Prop}(F:A.units+1<cLine)(I:Inv X aa σ H s)(g:Bu H a y o)(C:fH y u)(h:∀ s',Inv X aa σ H s'->Q (.bool o.isSome) s'):
 wpAny Zt A (compareOp .In u<|.ref a) Q E s:=by
 rcases g with⟨fM,k,e,j,l⟩|⟨fM,k,b,e,j,G,l⟩
 .subst j;obtain⟨z,hd,L,rel,dd⟩:=lY I.fO e;refine wpAny_in_of (qX C) hd dd.mapOf ?_;rw[<- (rel.val k).lD,<- l];exact h _ (I.tok _)
 .subst j;cases(show u=Value.ref b from C);obtain⟨z,hd,J,rel,dd⟩:=xD I.fO e;refine wpAny_in_heap (eA F) (vp I.fO G) hd dd ?_;have q:=(rel.val k).lD;rw[Option.isSome_map]at q;rw[<- q,<- l];exact h _ (I.tok _)
def ND {Q:av->ar->Prop}(F:A.units+1<cLine)(I:Inv X aa σ H s)(g:Bu H a y o)(C:fH y u)(h:∀ s',Inv X aa σ H s'->Q (.bool<|!o.isSome) s'):
 wpAny Zt A (compareOp .NotIn u<|.ref a) Q E s:=by
 rcases g with⟨fM,k,e,j,l⟩|⟨fM,k,b,e,j,G,l⟩
 .subst j;obtain⟨z,hd,L,rel,dd⟩:=lY I.fO e;refine wpAny_notIn_of (qX C) hd dd.mapOf ?_;rw[<- (rel.val k).lD,<- l];exact h _ (I.tok _)
 .subst j;cases(show u=Value.ref b from C);obtain⟨z,hd,J,rel,dd⟩:=xD I.fO e;refine wpAny_notIn_heap (eA F) (vp I.fO G) hd dd ?_;have q:=(rel.val k).lD;rw[Option.isSome_map]at q;rw[<- q,<- l];exact h _ (I.tok _)
def oS {h':Heap}{t':Nat}{j:HO}(I:Inv X aa σ H s)(C:VI (H a))(hs:Heap.SameBut a s.heap h')(he:∃ q,h'.get? a=some q)(new:iB X.prog X.w (upd H a j) h' a j):
 Inv X aa σ (upd H a j) {s with heap:=h',toks:=t'}:=
 I.write (x:=a) (e:=a) C aam (λb q hb z=>(hs.2 b hb).trans z) he new
def sj {P:ak}{w:ao}{H':Hp}{h':Heap}{fM:az abg}{vs:az (Key×av)}(z:fM.length<=sizeLine)(hd:aaZ=false)(rel:KV fM vs)(dd:h'.DictOf (f9 P w) a vs):
 iB P w H' h' a (.dK fM):=⟨z,hd,vs,rel,dd⟩
def GI {H':Hp}{Q:Unit->ar->Prop}(hu:A.units+1<cLine)(I:Inv X aa σ H s)(g:GY H a y v H')(L:fH y u)(M:fH v r)(h:∀ s',Inv X aa σ H' s'->Q () s'):
 wpAny Zt A (setItem (.ref a) u r) Q E s:=by
 rcases g with⟨fM,k,e,G,l,J⟩|⟨fM,k,b,e,G,W,l,J⟩
 .subst G J;obtain⟨z,hd,Z,rel,dd⟩:=EO I.fO e;have F:Z.length<=sizeLine:=rel.length▸z;have hl:(putK fM k v).length<=sizeLine:=by have:=ot fM k v;lia
  refine wpAny_setItem_pairs (hsz:=F) (qX L) dd λO j hs=>h _ ?_;have he:∃ q,O.get? a=some q:=let ⟨q,_,_,C,_⟩:=j;⟨q,C⟩
  exact oS I (e▸True.intro) hs he (sj hl hd (rel.put k M) j)
 .subst G J;cases(show u=Value.ref b from L);obtain⟨z,hd,Y,rel,dd⟩:=U1 I.fO e;have F:Y.length<=sizeLine:=by rw[<- Paired.length rel];exact z
  have hl:(putK fM k v).length<=sizeLine:=by have:=ot fM k v;lia
  refine wpAny_setItem_heap (hsz:=F) (eA hu) (vp I.fO W) dd λO j hs=>h _ (GF j λq es ep C h2 h3 h4 _ h5=>oS I (e▸True.intro) hs ⟨q,C⟩ ⟨hl,hd,_,(rel.put k W M).keeps λc ys U=>?_,q,es,ep,C,h2,h3,h4,h5⟩);rw[fB (Uc U e λz=>nomatch z)];exact U
def SK {Q:Unit->ar->Prop}(I:Inv X aa σ H s)(e:H a=some (.dK fM))(G:fH (kV k) u)(l:(mj fM k).isSome=true)(h:∀ s',Inv X aa σ (upd H a<|.dK<|pG fM k) s'->Q () s'):
 wpAny Zt A (delItem (.ref a) u) Q E s:=by
 obtain⟨z,hd,C,rel,dd⟩:=EO I.fO e;refine wpAny_delItem_slot dd.typeIs rfl PySem.F.slot_dict_delitem
  (call_meetsIn PySem.F.slot_dict_delitem dd.typeIs PySem.F.entry_dict_delitem (PySem.F.args_dict_delitem_2 _ _) (meets_dict_delitem_pairs (f9 X.prog X.w) a<|qX G) ⟨C,dd,rel.length▸z,by rw[<- (rel.val k).lD];exact l,λL j hs=>h _ ?_⟩)
 have J:∃ q,L.get? a=some q:=let ⟨q,_,_,hq,_⟩:=j;⟨q,hq⟩
 exact oS I (e▸True.intro) hs J (sj (aT (AW fM k) z) hd (rel.drop k) j)
def U6 {v:V}{more:az av}{Q:av->ar->Prop}(I:Inv X aa σ H s)(e:H a=some (.dK fM))(G:fH (kV k) u)(l:mj fM k=some v)(hm:more=[]\/∃ x,more=[x])
 (h:∀ j s',Inv X aa σ (upd H a<|.dK<|pG fM k) s'->fH v j->Q j s'):wpAny Zt A (call (.builtin "dict.pop")<|.ref a::u::more) Q E s:=by
 obtain⟨z,hd,L,rel,dd⟩:=EO I.fO e;refine eU (o5.some_of (v:=v) (o:=valueAt L k)<|l▸rel.val k) λj M J=>?_;have O:(keyPart u).isSome=true:=by
  cases k with
  |inl i=>obtain⟨t,q⟩:=(show ∃ t,u=Value.int i t from G);subst q;rfl
  |inr x=>obtain⟨t,q⟩:=(show ∃ t,u=Value.str x t from G);subst q;rfl
 have ha:argsOk "dict.pop" ⟨.ref a::u::more,[]⟩:=by
  rcases hm with q|⟨x,q⟩
  .subst q;exact PySem.F.args_dict_pop_2 _ _
  .subst q;exact PySem.F.args_dict_pop_3 _ _ _
 refine call_meetsIn PySem.F.slot_dict_pop dd.typeIs PySem.F.entry_dict_pop ha (meets_dict_pop_there (f9 X.prog X.w) a (qX G) more hm O)
  ⟨L,j,dd,rel.length▸z,M,λW C hs=>h j _ ?_ J⟩
 have U:∃ q,W.get? a=some q:=let ⟨q,_,_,hq,_⟩:=C;⟨q,hq⟩
 exact oS I (e▸True.intro) hs U (sj (aT (AW fM k) z) hd (rel.drop k) C)
def U7 {Q:av->ar->Prop}(I:Inv X aa σ H s)(e:Rd H a (.dK fM))(h:∀ t s',Inv X aa σ H s'->Q (.int fM.length t) s'):wpAny Zt A (call (.builtin "len") [.ref a]) Q E s:=by obtain⟨z,hd,j,rel,dd⟩:=lY I.fO e;refine call_len_dict hd dd (by rw[<- rel.length];rw[sizeLine_eq]at z;lia) ?_;rw[<- rel.length];exact h _ _ (I.tok _)
def Lo (i:Expr):Prop:=∀ j q,subscripted i false j q=operate [j,q] (getItem j q)
def Dz {prog:ak}{w:ao}{A:Around}{E:av->ar->Prop}{s:ar}{env:Env}{value slice:Expr}{pos:Pos}{T id:String}{Q:av->ar->Prop}
 (hl:typeLookup (.type T) "__getitem__"=pure (some<|.builtin id)) (hs:Lo slice)
 (h:wpAny Zw A (eval value env) (λo F=>wpAny Zw A (eval slice env) (λi j=>j.TypeIs o T/\wpAny Zw A (getItem o i) Q E j) E F) E s):
 wpAny Zw A (eval (.Subscript value slice pos) env) Q E s:=by
 refine Subscript_ (b7 h (λo F I=>b7 I (λi j q=>?_) λ_ _ x=>x) λ_ _ x=>x);obtain⟨J,q⟩:=q;delta subscriptTail;refine fj ?_;rw[getitemInPython_of_ne J.not_modules];refine fj<|wpAny_specialOf J hl ?_;have fin:wpAny Zw A (subscripted slice false o i) (λr C=>wpAny Zw A (letTemporaryGo value o r >>= λ_=>pure r) Q E C) E j:=by rw[hs o i];exact wpAny_operating (b7 q (λr C G=>fj<|wpAny_letTemporaryGo<|aC G) λ_ _ x=>x)
 first
  |exact aC (fj fin)
  |exact fj (aC<|fj fin)
  |exact fj fin
def A0 {X:Cx}{aa:az ZE}{σ:St}{H:Hp}{s:ar}{a:au}{y:V}{o:aA V}(I:Inv X aa σ H s)(g:Bu H a y o):s.TypeIs (.ref a) "dict":=by
 rcases g with⟨fM,k,e,_,_⟩|⟨fM,k,b,e,_,_,_⟩
 .obtain⟨_,_,q,_,dd⟩:=lY I.fO e;exact dd.typeIs
 .obtain⟨_,_,j,_,dd⟩:=xD I.fO e;exact dd.typeIs
def Tj (td ty:TE):TE:=λσ H Q=>td σ H λx q=>ty σ q λy j=>∃ a v,x=.ref a/\Bu j a y (some v)/\Q v j
def Ti (ty td:TE):TE:=λσ H Q=>ty σ H λy q=>td σ q λx j=>∃ a o,x=.ref a/\Bu j a y o/\Q (.bl o.isSome) j
def Dx (ty td:TE):TE:=λσ H Q=>ty σ H λy q=>td σ q λx j=>∃ a o,x=.ref a/\Bu j a y o/\Q (.bl<|!o.isSome) j
def Tv (td ty tv:TE):TS:=λD σ H=>tv σ H λv F=>td σ F λx C=>ty σ C λy q=>∃ a j,x=.ref a/\GY q a y v j/\D.nx σ j
def D7 (L:X.A.units+1<cLine)(M:PE X o td)(O:PE X i ty)(hs:Lo i):PE X (.Subscript o i pos) (Tj td ty):=by intro aa s σ H Q I h;refine Dz PySem.F.slot_dict_getitem.lookup hs (gc (M aa s σ H _ I h) λu C U=>fw U λx H1 Y J q1=>gc (O aa C σ H1 _ Y q1) λiv s2 MV=>?_);obtain⟨y,Z,q,G,a,v,ex,g,q2⟩:=MV;subst ex;obtain rfl:u=Value.ref a:=J;exact⟨A0 q g,GK L q g G λw' s3 W j=>⟨v,Z,W,j,q2⟩⟩
def Qw (G:X.A.units+1<cLine)(L:PE X i ty)(J:PE X o td):PC X .In i o (Ti ty td):=by intro aa s σ H Q I h;refine gc (L aa s σ H _ I h) λiv j M=>fw M λy Z W q q1=>gc (J aa j σ Z _ W q1) λu s2 MU=>?_;obtain⟨x,Y,U,C,a,F,ex,g,q2⟩:=MU;subst ex;obtain rfl:u=Value.ref a:=C;exact XZ G U g q λs3 O=>⟨.bl F.isSome,Y,O,rfl,q2⟩
def FU (G:X.A.units+1<cLine)(L:PE X i ty)(J:PE X o td):PC X .NotIn i o (Dx ty td):=by intro aa s σ H Q I h;refine gc (L aa s σ H _ I h) λiv j M=>fw M λy Z W q q1=>gc (J aa j σ Z _ W q1) λu s2 OM=>?_;obtain⟨x,Y,U,C,a,F,ex,g,q2⟩:=OM;subst ex;obtain rfl:u=Value.ref a:=C;exact ND G U g q λs3 O=>⟨.bl<|!F.isSome,Y,O,rfl,q2⟩
def D2 (O:X.A.units+1<cLine)(Q:PE X o td)(U:PE X i ty)(M:PE X value tv)(hs:swapsWith value (some<|.Subscript o i pos') pos.line X.env=pure false):
 PS X (.Assign [.Subscript o i pos'] value pos) (Tv td ty tv):=by
 intro aa s σ H D I h;refine wpAny_Assign_Subscript (gc (M aa s σ H _ I h) λr C j=>fw j λv H1 I1 J q1=>gc (Q aa C σ H1 _ I1 q1) λu q j=>fw j λx H2 Z G q2=>gc (U aa q σ H2 _ Z q2) λiv s3 MZ=>?_) hs;obtain⟨y,H3,Y,F,a,H4,ex,g,L⟩:=MZ;subst ex;obtain rfl:u=Value.ref a:=G;exact GI O Y g F J λs4 W=>⟨σ,H4,W,L⟩
def AZ {P:ak}{w:ao}{H:Hp}(h:Heap)(hb:sysModules<h.objs.size):iB P w H (h.push { cls:=.type "dict",data:=.dict #[]}) h.objs.size (.dK []) :=
 ⟨bx _,beq_eq_false_iff_ne.mpr<|bB<|aN hb,[],.nil,Heap.DictOf.new h⟩
def Px:TE:=λ_ H Q=>∀ p,H p=none->Q (.ref p) (upd H p<|.dK [])
def IA:PE X (.Dict [] [] pos) Px:=λaa s σ H Q I h =>wpAny_Dict_empty ⟨.ref s.heap.objs.size,_,I.laid (a:=s.heap.objs.size) (o:=.dK []) (t':=s.toks) (λ_ _ q=>iU _ q) aaa<|AZ s.heap I.big,rfl,h _<|I.fO.fresh<|aB _⟩
structure M1 (X:Cx)(o:Expr)(m:Str)(gH:Pos)(e:Expr)(hJ:Pos):Prop where
 ah:attributeBase o m X.env aaF=eval o X.env
 iu:((backTo hJ<|starEach [e] X.env).all (λx=>!x.1)&&(backToKw hJ<|keywordEach [] X.env).all (λx=>x.1.isSome)
  && decide (([e]:List Expr).length+([]:List Keyword).length+(if([]:List Keyword).isEmpty then 0 else 1)<30))=true
 line:aac=true
 trees:backTo hJ (starEach [e] X.env)=[(false,eval e X.env)]
structure M2 (X:Cx)(o:Expr)(m:Str)(gH:Pos)(e f:Expr)(hJ:Pos):Prop where
 ah:attributeBase o m X.env aaF=eval o X.env
 iu:((backTo hJ<|starEach [e,f] X.env).all (λx=>!x.1)&&(backToKw hJ<|keywordEach [] X.env).all (λx=>x.1.isSome)
  && decide (([e,f]:List Expr).length+([]:List Keyword).length+(if([]:List Keyword).isEmpty then 0 else 1)<30))=true
 line:aac=true
 trees:backTo hJ (starEach [e,f] X.env)=[(false,eval e X.env),(false,eval f X.env)]
def Zp (H:Hp)(a:au):Prop:=(∃ fM,Rd H a (.dK fM))\/∃ fM,Rd H a (.dT fM)
def QX {X:Cx}{aa:az ZE}{σ:St}{H:Hp}{s:ar}{a:au}(I:Inv X aa σ H s)(d:Zp H a):
 s.TypeIs (.ref a) "dict"/\(∀ b,Value.ref a=.ref b->∃ j,s.heap.get? b=some j/\j.dict=none)/\aaZ=false:=by
 rcases d with⟨fM,e⟩|⟨fM,e⟩
 .obtain⟨_,hd,J,_,dd⟩:=lY I.fO e;refine⟨dd.typeIs,λb q=>?_,hd⟩;cases q;exact p4 dd λj _ _ F C _=>⟨j,F,C.2.1⟩
 .obtain⟨_,hd,G,_,dd⟩:=xD I.fO e;refine⟨dd.typeIs,λb q=>?_,hd⟩;cases q;exact p4 dd λj _ _ F C _=>⟨j,F,C.2.1⟩
def Pu (td ty:TE):TE:=λσ H Q=>td σ H λx q=>∃ a,x=.ref a/\Zp q a/\ty σ q λy j=>∃ fM k v,j a=some (.dK fM)/\y=kV k/\mj fM k=some v/\Q v (upd j a<|.dK<|pG fM k)
def Iz (O:PE X o td)(he:PE X e ty)(m:M1 X o "pop" gH e hJ):PE X (.Call (.Attribute o "pop" gH) [e] [] hJ) (Pu td ty):=by intro aa s σ H Q I h;refine wpAny_Call_method m.ah m.iu m.line PySem.F.plainAttrs_dict PySem.F.slot_dict_pop PySem.F.type_dict_pop (gc (O aa s σ H _ I h) λu J MY=>?_);obtain⟨x,H1,q,M,a,ex,d,q1⟩:=MY;subst ex;obtain rfl:u=Value.ref a:=M;refine kc (QX q d) λG C _=>⟨G,C,?_⟩;rw[m.trees];refine cV rfl (Calls.evalArgs_plain<|dt<|gc (he aa J σ H1 _ q q1) λiv s2 MX=>?_);obtain⟨y,H2,Z,L,fM,k,v,W,U,l,q2⟩:=MX;refine dG ?_;subst U;exact U6 Z W L l aam λw' s3 Y j=>⟨v,_,Y,j,q2⟩
def Kv {Q:av->ar->Prop}(I:Inv X aa σ H s)(e:Rd H a (.dK fM))(h:∀ p s',H p=none->Inv X aa σ (upd H p<|.dK fM) s'->Q (.ref p) s'):wpAny Zt A (call (.type "dict") [.ref a]) Q E s:=by obtain⟨z,hd,F,rel,dd⟩:=lY I.fO e;refine kt_call_dict hd dd (rel.length▸z) λG j hs=>h _ _ (I.fO.fresh<|aB _) (I.laid (a:=s.heap.objs.size) (o:=.dK fM) (t':=s.toks) (λb q C=>?_) aaa<|sj z (beq_eq_false_iff_ne.mpr<|bB<|aN I.big) rel j);exact(hs.2 b<|aN<|ic C).trans (iU _ C)
def tu (X:Cx)(N:az Str)(sc:Scope)(fp:az au)(s:ar)(H:Hp):Cx where
 prog:=X.prog
 w:=X.w
 K:=X.K
 mg:=X.mg
 ah:=X.ah
 A:=X.A
 N:=N
 s₀:=s
 H₀:=H
 env:=lR sc s.heap.objs.size X.env
 fb:=X.stack
 stack:=X.stack
 ex:=fp
 fn:=λx=>sc.names.lookup x==some .cell
 fU:=X.fU
 pn:=[]
 xe:=λ_ _=>False
def vz (sc:Scope)(h:Heap):Heap:=pushCells (h.push { cls:=.type "dict",data:=.dict #[]}) sc.names
def tf:∀ b o,h.get? b=some o->(vz sc h).get? b=some o:=λb o e=>d6 _ _ b o (iU _ e)
def Gf (I:Inv X aa σ H s)(P:jm X N js sc)(hf:∀ b∈fp,kZ X aa H b)(ho:∀ b∈fp,∃ o,s.heap.get? b=some o)(tk:Nat):
 Inv aav [] aaW H {s with heap:=vz sc s.heap,toks:=tk}:=by
 have O:∀ y∈sc.names,y.2=.free->∃ c,X.env.cells.lookup y.1=some c:=λy hy e=>I.ok.has y.1<|P.free y hy e;have ok:=cellsFrom_ok sc.names (s.heap.push { cls:=.type "dict",data:=.dict #[]}) Zy [] ⟨λ_ _ hm=>(nomatch hm),List.Pairwise.nil⟩
  (by rw[bz];exact aB _)
 rw[bz]at ok;have Z:(lR sc s.heap.objs.size X.env).cells=cellsFrom Zy sc.names []++j4 X.env.cells sc.names []:=kE sc.names _ [] _;have lk:∀ x c,(lR sc s.heap.objs.size X.env).cells.lookup x=some c->(x,c)∈cellsFrom Zy sc.names []\/X.env.cells.lookup x=some c:=λx c e=>by
  rw[Z]at e;rcases List.mem_append.mp (mem_of_lookup e)with h|h
  .exact .inl h
  .rcases m8 O x c h with h | h
   .cases h
   .exact .inr h
 have big:∀(x:Str) (c:Nat),(x,c)∈cellsFrom Zy sc.names []->s.heap.objs.size+1<=c:=λx c h=>(ok.empty x c h).2;have G:∀(x:Str) (c:Nat),X.env.cells.lookup x=some c->c<s.heap.objs.size:=λx c h=>let ⟨_,q⟩:=I.cell x c h;q.lt
 have has:∀ x,((lR sc s.heap.objs.size X.env).kindOf x=some .cell\/(lR sc s.heap.objs.size X.env).kindOf x=some .free)->∃ c,(lR sc s.heap.objs.size X.env).cells.lookup x=some c:=λx h=>by
  have E:(relabel sc X.env).names.lookup x=some .cell\/(relabel sc X.env).names.lookup x=some .free:=h;rw[jU]at E;rw[Z,eF];cases q:sc.names.lookup x with
  |none=>rw[q]at E;rcases E with E|E<;>cases E
  | some k =>
   rw[q]at E;have hk:=zX (env:=X.env) (x:=x) (k:=k) (E.elim (λz=>.inl<|a5 z) λz=>.inr<|a5 z);rcases hk with rfl|rfl
   .obtain⟨c,F⟩:=mJ (n:=s.heap.objs.size+1) q;exact⟨c,by rw[F];rfl⟩
   .have z:=m9 (cells:=X.env.cells) sc.names [] x<|mem_of_lookup q;obtain⟨c,F⟩:=Option.isSome_iff_exists.mp z;cases q2:(cellsFrom Zy sc.names []).lookup x with
    |none=>exact⟨c,by rw[F];rfl⟩
    |some d=>exact⟨d,rfl⟩
 have Q:(tu X N sc fp s H).Ok:=by
  refine⟨I.ok.mod,P.kind,I.ok.glob,I.ok.blt,aB _,λx y c h1 h2=>?_,has,λx c hx h=>?_,I.ok.hd,I.ok.frames,.inl rfl,λb hb=>⟨?_,λx c h=>?_⟩,I.bs,aT I.ok.G7 I.sz,λb o e hb=>?_,λb hb hs=>?_,I.stack,I.qr⟩
  .rcases lk x c h1 with M | M <;> rcases lk y c h2 with L | L
   .exact name_of_addr ok.apart M L
   .exact absurd (aR (G _ _ L)<|aT (aU _ 1)<|big _ _ M) (cn _)
   .exact absurd (aR (G _ _ M)<|aT (aU _ 1)<|big _ _ L) (cn _)
   .exact I.ok.inj x y c M L
  .have W:sc.names.lookup x=some .cell:=by simpa [tu]using hx
   have E:(lR sc s.heap.objs.size X.env).cells.lookup x=some c:=h
   rw[Z,eF]at E
   obtain⟨c2,F⟩:=mJ (n:=s.heap.objs.size+1) W
   rw[F]at E
   have e:c2=c:=a5 E
   subst e
   exact aT (aU _ 1) (big _ _<|mem_of_lookup F)
  .obtain⟨o,e⟩:=ho b hb;exact aN (ic e)
  .obtain⟨o,e⟩:=ho b hb;have l:=ic e;rcases lk x c h with g|g
   .exact bD (aR l<|aT (aU _ 1)<|big _ _ g)
   .exact(hf b hb).2.2.2.2.1 x c g
  .rcases(hf b hb).2.2.2.1 with z | z
   .exact I.ok.F1 b o e z
   .exact absurd (aR (ic e)<|aT I.ok.G7 z) (cn _)
  .rcases List.mem_cons.mp (I.uJ b hs)with z | z
   .exact(hf b hb).2.1 z
   .exact(hf b hb).2.2.1 z
 have C:∀ b u,s.heap.get? b=some u->(vz sc s.heap).get? b=some u:=tf;have U:(vz sc s.heap).Ns s.heap.objs.size λ_=>none:=by have q:=(Heap.Ns.new s.heap<|.type "dict").keeps<|d6 sc.names _;exact q
 refine⟨Q,rfl,I.bare,Un.af C,⟨_,U,λi x v e1 e2 e3=>?_⟩,λx c h=>?_,I.fO.fresh<|aB _,λx c h=>?_,λp hp=>absurd (show p∈([]:az ZE)from hp)<|by simp,I.fO.af C,?_⟩
 .refine eU (vB e2) λj hj hv=>CN (P.slot i x j e1 hj) λM L g3 g4=>?_;have kx:=P.free _ L rfl;refine eU I.loc λm hn hl=>eU (hl j x v M hv<|.inr kx) λu r l=>⟨u,r,?_⟩;rcases l with⟨z,_⟩|⟨_,c,Y,J⟩
  .have z':X.env.kindOf x=some .local:=z;rcases kx with k|k<;>(have k':X.env.kindOf x=_:=k;rw[z']at k';cases k')
  .have kY:(lR sc s.heap.objs.size X.env).kindOf x=some .cell\/(lR sc s.heap.objs.size X.env).kindOf x=some .free:=by
    show(relabel sc X.env).names.lookup x=some .cell\/(relabel sc X.env).names.lookup x=some .free;rw[jU,g3];rcases xg (env:=X.env) (x:=x)with q|q
    .exact .inl aaU
    .exact .inr aaU
   obtain⟨c',E⟩:=has x kY
   refine .inr ⟨kY,c',E,?_⟩
   rcases lk x c' E with g|g
   .rcases kD _ _ _ _ _ g with z | z
    .exact absurd z g4
    .cases z
   .rw[Y]at g;cases g;exact J.keeps C
 .rcases lk x c h with g | g
  .exact⟨_,(ok.empty x c g).1⟩
  .obtain⟨v,q⟩:=I.cell x c g;exact⟨v,q.keeps C⟩
 .rcases lk x c h with g | g
  .exact I.fO.fresh (aT (aU _ 1)<|big _ _ g)
  .exact I.ny x c g
 .delta gC;rw[fI];exact P.len
def wI {D:au}(I:Nat->ar->Prop)
 (turn:∀ n s,I n s->wpAny Zw A (pyNext it) (λr q=>match r with
   |none=>R (.ok .next) q
   | some v=>wpAny Zw A (letOwnedTupleGo target it v) (λ_ j=>wpAny Zw A (assign target env v) (λ_ F =>
    wpAny Zw A (forIn ifs true λc r=>if r=true then do let ok <- isTrue c env (eval c env);pure (ForInStep.yield ok)else pure (ForInStep.yield r)) (λok e =>
     if ok=true then wpAny Zw A (eval kx env) (λkv E=>wpAny Zw A (eval vx env) (λU C =>
      wpAny Zw A (dictSet D kv U) (λ_ u=>∃ m,m<n/\I m u) aaD C) aaD E) aaD e
     else ∃ m,m<n/\I m e) aaD F) aaD j) aaD q) aaD s)
 (n:Nat) (h:I n s):
 codeAny Zw A (.compLoop (.DictComp kx vx [⟨target,iter,ifs,0⟩] scope pos) 0 it (.ref D) env) R s:=by
 refine codeAny_loop rfl I (λn s W=>wpAny_noted<|fj<|dw<|fj<|b7 (turn n s W) (λr q J=>?_) λ_ _ d=>d.elim) n h;cases r with
 |none=>exact aC J
 | some v =>
  refine fj (b7 J (λ_ j L=>fj<|b7 L (λ_ F Q=>fj<|b7 Q (λok e G=>?_) λ_ _ d=>d.elim) λ_ _ d=>d.elim) λ_ _ d=>d.elim);cases ok with
  |false=>exact aC ⟨rfl,G⟩
  | true =>exact fj (fj<|b7 G (λx E P=>fj<|cg<|b7 P (λy C O=>fj<|dw<|cg<|b7 O (λ_ u M=>aC ⟨rfl,M⟩) λ_ _ d=>d.elim) λ_ _ d=>d.elim) λ_ _ d=>d.elim)
def Hh (js:az (aA Nat))(g:TG)(tt:TT)(tk tv:TE)(J:It)(σ:St)(D:au)(H1:Hp)(fin:az abg->Hp->Prop):Prop :=
 ∃ W:Nat->Nat->az abg->Hp->Prop,(∃ m,W 0 m [] H1)/\∀ i m e H,W i m e H ->
  (J.stop i H/\fin e H)\/(J.go i H/\∀ x y,J.Fw i H x y->g x aaW y λd E=>Ext aaW d/\tt d E λb u =>
    if b=true then tk d u λk C=>tv d C λv q=>∃(kk:Key) (Cn:az abg),k=kV kk/\q D=some (.dK Cn)/\Cn.length<sizeLine/\∃ j,j<m/\W abe j (putK Cn kk v) (upd q D<|.dK<|putK Cn kk v)else ∃ j,j<m/\W abe j e u)
def dict_set (I:Inv X aa σ H s)(e:H a=some (.dK d))(l:d.length<sizeLine)(C:fH (kV k) u)(F:fH v r)
 (h:∀ s',Inv X aa σ (upd H a<|.dK<|putK d k v) s'->Q () s'):wpAny Zt A (dictSet a u r) Q E s:=by
 obtain⟨z,hd,y,rel,dd⟩:=EO I.fO e;have L:y.length<=sizeLine:=rel.length▸‹_›
 have hl:(putK d k v).length<=sizeLine:=by have:=ot d k v;lia
 refine wpAny_dictSet_pairs (qX C) dd λJ j hs=>h _ ?_;have G:∃ q,J.get? a=some q:=let ⟨q,_,_,hq,_⟩:=j;⟨q,hq⟩
 exact oS I (e▸True.intro) hs G (sj hl hd (rel.put k F) j)
def Bf {D:au}(I:Inv X aa σ H s)(hc:jm X N js sc)(fU:X.fU=true)
 (T:Turn X.prog X.w X.K tg J fp it tn) (st:tn 0 s.heap) (hf:∀ b∈fp,kZ X aa H b)
 (hg:PG aav tg g) (ht:Li aav ifs tt) (hk:PE aav kx tk) (hv:PE aav vx tv) (q:Hh js g tt tk tv J σ D H fin)
 (hR:∀ s' H' j m,Inv X aa σ H' s'->fin j H'->s'.heap.Ns s.heap.objs.size m->H' s.heap.objs.size=none->R (.ok .next) s'):
 codeAny Zt X.A (.compStart aag 0 (.ref it) (.ref D)<|lR sc s.heap.objs.size X.env) R {s with heap:=vz sc s.heap,toks:=tok}:=by
 have Wg:∀ b∈fp,∃ o,s.heap.get? b=some o:=λb hb=>let ⟨o,e,_⟩:=T.obj 0 s.heap st b hb;⟨o,e⟩
 have I0:=Gf I hc hf Wg tok;have O:=I0.ok;obtain⟨W,⟨m0,w0⟩,Q⟩:=q;have C:∀ {H':Hp},aas->∀ b∈fp,kZ aav [] H' b:=λ{H'} hn b hb =>⟨hn b hb,(O.SI b hb).1,O.GC b hb,.inl hb,(O.SI b hb).2,λp hp=>absurd (show p∈([]:az ZE)from hp)<|by simp⟩
 have Ol:tn 0 (vz sc s.heap):=T.keep 0 _ _ st λb _ o e=>tf b o e;have G:codeAny Zt X.A (.compLoop aag 0 (.ref it) (.ref D)<|lR sc s.heap.objs.size X.env) R { s with heap:=vz sc s.heap,toks:=tok}:=by
  refine wI (λn s'=>∃ i j H',Inv aav [] aaW H' s'/\tn i s'.heap/\aas/\W i n j H') ?_ m0
   ⟨0,[],H,I0,Ol,λb hb=>(hf b hb).1,w0⟩
  refine λn s3 E=>AS E λi j Z I3 U Y w3=>?_;rcases Q i n j Z w3 with⟨stop,qf⟩|⟨go,step⟩
  .refine gc (T.done aav rfl rfl rfl fU i _ s3 _ Z _ I3 (C Y) U stop) λr s4 E=>gv E λhr P=>?_;subst hr;refine eU P.loc λm Xm _=>?_;have IX:=I.KW (ch:=fp) P.os P.ah P.fO P.bare λb hb=>by exact p5 (hf b hb) λf0 f1 f2 f3 f4 f5=>⟨f3,f1,f4,f5⟩
   exact hR s4 Z j m IX qf Xm P.free
  .refine gc (T.item aav rfl rfl rfl fU i _ s3 _ Z _ I3 (C Y) U go) λr s4 E=>eU E λu hr h4=>?_;subst hr;refine gc h4 λ_ s5 E=>GG E λx H5 I5 r5 y5 M UI=>?_;have VO:=I5.pinned (C UI)<|T.obj _ _ M;refine gc (hg _ s5 _ H5 x u _ VO r5<|step x H5 y5) λ_ s6 ⟨F,H6,I6,⟨L,q6⟩⟩=>gc (ht _ s6 F H6 _ I6 q6) λb s7 E=>eU E λH7 I7 q7=>?_;have back:∀ {s':ar} {H':Hp},Inv aav ([]++r0 fp s5.heap) F H' s'->tn abe s'.heap/\aas/\Inv aav [] aaW H' s':=λ{s' H'} I'=>by refine⟨T.keep _ _ _ M λb hb o e=>(I'.pin (b,o)<|aW _<|aW _<|kr hb e).1,λb hb=>?_,(I'.weak L.1 L.2).nV⟩;exact eU (T.obj _ _ M b hb) λo e d=>(I'.pin (b,o)<|aW _<|aW _<|kr hb e).2.1
   cases b with
   | false =>exact eU q7 λm' hm w7=>kc (back I7) λt7 f7 YB=>⟨m',hm,i+1,j,H7,YB,t7,f7,w7⟩
   | true =>refine gc (hk _ s7 F H7 _ I7 q7) λy s8 E=>fw E λyk H8 I8 ry q8=>gc (hv _ s8 F H8 _ I8 q8) λz s9 MW=>?_;obtain⟨zv,H9,I9,rz,kk,Cn,ek,eD,hl,m',hm,w9⟩:=MW;subst ek;exact dict_set (X:=tu X N sc fp s H) I9 eD hl ry rz λs10 I10=>kc (back I10) λt8 f8 VN=>⟨m',hm,i+1,_,_,VN,t8,f8,w9⟩
 exact codeAny_compStart_dict G (T.self _ 0 _ _ _ Ol G)
def BL (e:TI)(js:az (aA Nat))(g:TG)(tt:TT)(tk tv:TE):TE:=λσ H Q=>e σ H λJ d=>∀ D,d D=none->Hh js g tt tk tv J σ D (upd d D<|.dK []) λ_ j=>Q (.ref D) j
def JO:D->V
 |.bl b=>.bl b
 |.int i=>.int i
 |.str z=>.str z
 |_=>.fX
def Rf (h:mE d=true):il φ H d (JO d):=by cases d<;>first|exact(Bool.noConfusion h)|rfl
def Cu (h:mE d=true)(i:il φ H d v):v=JO d:=by cases d<;>first|exact(Bool.noConfusion h)|exact i
theorem Rc:∀ {ds:az D},ds.all mE=true->fg φ H ds (ds.map JO)
 |[],_=>rfl
 | d::ds,h=>by rw[dk,bM]at h;exact⟨_,_,rfl,Rf h.1,Rc h.2⟩
theorem Ey:∀ {ds:az D} {vs:az V},ds.all mE=true->fg φ H ds vs->vs=ds.map JO
 |[],_,_,h=>h
 | d::ds,_,f,h=>by obtain⟨v,r,rfl,q,j⟩:=h;rw[dk,bM]at f;rw[Cu f.1 q,Ey f.2 j];rfl
def mC:D->aA Key
 |.int i=>some (.inl i)
 |.str z=>some (.inr z)
 |_=>none
def kC (e:mC d=some k)(i:il φ H d v):v=kV k:=by
 cases d with
 |int n=>cases e;exact i
 |str z=>cases e;exact i
 |_=>cases e
def dput (j:az aap)(k:Key)(d:D):az (Key×D):=if(j.any λkv=>decide (kv.1=k))=true then j.map (λkv=>if kv.1=k then(kv.1,d)else kv)else j++[(k,d)]
def kW (d:az aap)(k:Key):aA D:=(d.find? λkv=>decide (kv.1=k)).map ZI
def BD (d:az aap):az (Key×V):=d.map λp=>(p.1,JO p.2)
def Kk (j:az aap)(k:Key)(d:D):BD (dput j k d)=putK (BD j) k (JO d):=by
 delta dput putK BD;have e:((j.map λp=>(p.1,JO p.2)).any λkv=>decide (kv.1=k))=(j.any λkv=>decide (kv.1=k)):=by rw[List.any_map];rfl
 rw[e];split
 .rw[aQ,aQ];congr 1;funext p;by_cases h:p.1=k
  .simp[h]
  .simp[h]
 .rw[aM];rfl
def AY (j:az aap)(k:Key)(d:D):(dput j k d).length<=j.length+1:=by
 delta dput;split
 .rw[fI];lia
 .rw[i8,aX];lia
def xE (h:(u.map ZI).all mE=true)(hd:mE d=true):((dput u k d).map ZI).all mE=true:=by
 delta dput;rw[cY]at h ⊢
 intro x j;split at j
 .rw[aQ]at j;obtain⟨p,C,rfl⟩:=List.mem_map.mp j;show mE (if p.1=k then(p.1,d)else p).2=true;split
  .exact hd
  .exact h _ (List.mem_map.mpr ⟨p,C,rfl⟩)
 .rw[aM]at j;rcases List.mem_append.mp j with q|q
  .exact h x q
  .rwa [List.mem_singleton.mp q]
abbrev U3 (fM:az aap):D:=.gP (fM.map Zx) (fM.map ZI)
def vN (it:D->MS->(aA aap->MS->Prop)->Prop)(c:MS->Prop)(μ:MS):az D->az aap->(az aap->Prop)->Prop
 |[],j,K=>c aat/\K j
 | d::ds,j,K=>c aat/\it d aat λo μ'=>μ'=μ++[.gP (j.map Zx) (j.map ZI)]/\(match o with
  |some (k,y)=>mE y=true/\vN it c μ ds (dput j k y) K
  |none=>vN it c μ ds j K)
def y9 (F:DE)(y:DG)(t:Dt)(wk wv:De)(d:D)(μ:MS)(K:aA aap->MS->Prop):Prop:=y d F μ λj E=>t j E λb q=>if b=true then wk j q λkd C=>opt (mC kd) λk=>wv j C λv u=>K (some (k,v)) u else K none q
def KH (E:DI)(js:az (aA Nat))(y:DG)(t:Dt)(wk wv:De):De:=λq C K=>E q C λu c d=>u.length<=sizeLine/\vN (y9 (mR js q) y t wk wv) c d u [] λj=>K (U3 j) d
def Fr.Ef (f:Fr φ H oX H')(hl:oX.length=φ.length):oX=φ:=by obtain⟨⟨d,rfl,_⟩,_,_⟩:=f;rw[i8]at hl;have:d=[]:=List.length_eq_zero_iff.mp Zs;rw[this,bH]
def Hw (so:Lf g y S)(mo:nE g)(ho:pB S js=true)(h:tD (KH wi js y t wk wv) σ H Q):BL (V2 wi) js g (wj t) (tD wk) (tD wv) σ H Q:=by
 refine fL h λφ ρ μ K A M k L=>⟨φ,ρ,μ,_,A,M,k,λP c C j J H1 k1 f1 M1 YG D hD=>?_⟩;obtain⟨hz,k1⟩:=k1;have hDf:D∉j:=M1.fresh hD;have fD:Fr j H1 (j++[D]) (upd H1 D<|.dK []):=⟨(Fr.snoc (φ:=j) hD).ext,λc u _ e=>gm.upd hD _ _ e,λc e=>(gm.upd hD).free e⟩;obtain⟨MD,_⟩:=M1.snoc (m:=.gP [] []) (o:=.dK []) hD ⟨[],[],eZ,rfl,rfl,rfl⟩;have Zi:∀ {F:Hp} {d:az (Key×L2.D)},(d.map ZI).all mE=true->fK (j++[D]) F (C++[.gP (d.map Zx) (d.map ZI)])->F D=some (.dK<|BD d):=λ{F d} E U=>by
  obtain⟨p,e1,Cn,vs,e2,e3,e4,e5⟩:=U.at_ C.length _ (by rw[lQ aaa,bc];rfl);rw[lQ (by rw[M1.len];exact aB _),M1.len,bc]at e1;cases e1;rw[e2];congr 2;have e6:=Ey E e5;rw[e4]at e6;delta BD;have key:∀(as:az abg) (bs:az (Key×L2.D)),as.map Zx=bs.map Zx->as.map ZI=(bs.map ZI).map JO->as=bs.map λp=>(p.1,JO p.2):=by
   intro as;induction as with
   | nil=>intro bs h1 _;cases bs with
    |nil=>rfl
    |cons _ _=>cases h1
   | cons a as ih =>
    intro bs h1 h2;cases bs with
    |nil=>cases h1
    | cons b bs =>
     simp only[aJ,List.cons.injEq]at h1 h2 ⊢
     exact⟨Prod.ext h1.1 h2.1,ih bs h1.2<|by simpa using h2.2⟩
  exact key Cn d e3 e6
 refine⟨λi n kv F=>n=P.length - i/\i<=P.length/\∃ d:az (Key×L2.D),kv=BD d/\d.length<=i/\(d.map ZI).all mE=true/\Fr j H1 (j++[D]) F/\fK (j++[D]) F (C++[.gP (d.map Zx) (d.map ZI)])/\vN (y9 (mR js ρ) y t wk wv) c C (P.drop i) d λd=>K (U3 d) C,
  ⟨P.length,rfl,bx _,[],rfl,bx _,rfl,fD,MD,k1⟩,?_⟩
 rintro i n kv F ⟨rfl,hi,d,rfl,hkl,E,Z,U,Y⟩;by_cases I:i<P.length
 .rw[bY I]at Y;refine gv Y λc' Y=>gv ((YG _ F _ Z U c' i).1 P[i]<|iO I) λgo Fw=>?_;refine .inr ⟨go,λx H2 Uu=>kc (Fw x H2 Uu) λf2 M2 i2=>?_⟩;have E2:=((A.mono<|f1.trans<|Z.trans f2).gC js);refine mo _ _ _ _ _ (λWu H3 MV=>?_)<|so _ H2 _ _ _ _ x _ E2 M2 i2 Y;obtain⟨e3,l3,n3,W,E3,k3⟩:=MV;refine⟨CI ho l3 n3,?_⟩;subst e3;refine⟨_,W,_,_,E3,M2,k3,λb Wv YD H4 k4 f4 M4=>?_⟩;cases b with
  | true =>
   refine⟨YD,W,Wv,_,E3.mono f4,M4,k4,λd5 SV SU v5 H5 k5 f5 M5 i5=>eU (fS k5) λkk XR k5=>⟨SU,W,SV,_,E3.mono<|f4.trans f5,M5,k5,λG μ6 Wt v6 H6 k6 f6 M6 i6=>kc k6 λe6 O w6=>?_⟩⟩;subst e6;have ff:=f2.trans<|f4.trans<|f5.trans f6;have ef:Wt=j++[D]:=ff.Ef (by rw[M6.len,U.len]);subst ef;have hDv:=Zi E M6;refine⟨kk,_,kC XR i5,hDv,by delta BD;rw[fI];lia,P.length - abe,by lia,rfl,I,dput d kk G,by rw[Kk,Cu O i6],by have:=AY d kk G;lia,xE E O,?_,?_,w6⟩
   .refine(Z.trans ff).trans (.put<|aW _<|List.mem_singleton.mpr rfl)
   .have hp:(j++[D])[C.length]?=some D:=by rw[lQ (by rw[M1.len];exact aB _),M1.len,bc];rfl
    have q:=M6.put (k:=C.length) (p:=D) (o:=.dK<|putK (BD d) kk v6) (m:=.gP ((dput d kk G).map Zx) ((dput d kk G).map ZI)) hp
     ⟨BD<|dput d kk G,((dput d kk G).map ZI).map JO,by rw[eZ,Kk,Cu O i6],by delta BD;rw[aQ];rfl,by unfold BD;rw[aQ,aQ];rfl,Rc<|xE E O⟩
    have e:(C++[MO.gP (d.map Zx) (d.map ZI)]).set C.length (.gP ((dput d kk G).map Zx) ((dput d kk G).map ZI))=C++[.gP ((dput d kk G).map Zx) ((dput d kk G).map ZI)]:=gr
    rw[e]at q
    exact q
  | false =>obtain⟨e4,w4⟩:=k4;subst e4;have ff:=f2.trans f4;have ef:YD=j++[D]:=ff.Ef (by rw[M4.len,U.len]);subst ef;exact⟨P.length - abe,by lia,rfl,I,d,rfl,by lia,E,Z.trans ff,M4,w4⟩
 .have e:i=P.length:=by lia
  subst e
  rw[dR]at Y
  refine .inl ⟨(YG _ F _ Z U Y.1 _).2 rfl,?_⟩
  have M'':fK j F C:=by have q:=U.jk (n:=C.length) (λk m hk e=>by rw[pF hk]at e;exact M1.bound k m e);rw[bp,show(j++[D]).take C.length=j by rw[<- M1.len,bp]]at q;exact q
  have f'':Fr j H1 j F:=⟨⟨[],by simp,λ_ h=>nomatch h⟩,Z.keep,Z.Wl⟩
  exact L _ C j _ F Y.2 (f1.trans f'') M'' ⟨D,BD d,_,rfl,hDf,Zi E U,by unfold BD;rw[aQ];rfl,rfl,by
   have:(BD d).map ZI=(d.map ZI).map JO:=by unfold BD;rw[aQ,aQ];rfl
   rw[this];exact Rc E⟩
def Vg:xX:=λx y j K=>match x with
 |.gP q ds=>opt (mC y) λk=>opt (kW (q.zip ds) k) λd=>K d j
 |_=>False
def rn:∀ {ds:az D} {j:az abg} {k:Key} {d:D},j.map Zx=ks->fg φ H ds (j.map ZI)->kW (ks.zip ds) k=some d->∃ v,mj j k=some v/\il φ H d v:=by
 intro ds j;induction j generalizing ks ds with
 |nil=>intro k d u F q;subst u;cases q
 | cons p j G =>
  intro k d u F q;cases ks with
  |nil=>cases u
  | cons k0 ks =>
   cases ds with
   |nil=>cases F
   | cons L ds =>
    refine fw F λv r e J I=>?_;simp at u e;refine gv e λE C=>?_;subst E;subst C;obtain⟨rfl,u⟩:=u;rw[cZ]at q;delta kW at q;rw[bR]at q;by_cases hk:p.1=k
    .simp only[hk,decide_true]at q;cases q;exact⟨p.2,nR hk,J⟩
    .simp only[hk,decide_false]at q;exact eU (G u I q) λv a b=>⟨v,by rwa [nT hk],b⟩
def O3 (hu:X.A.units+1<cLine)(ha:PD X a W)(hb:PD X b wb)(hs:Lo b):PD X (.Subscript a b pos) (tV Vg W wb):=(D7 hu ha hb hs).imp λσ H Q h_=>fL h_ λO F U K A M k L=>by
 refine⟨O,F,U,_,A,M,k,λd1 u q v1 H1 Y I M1 i1=>⟨q,F,u,_,A.mono I,M1,Y,λd2 P J v2 H2 j G M2 i2=>?_⟩⟩;unfold Vg at j;split at j
 .refine eU (fS j) λk ek j=>eU (fS j) λd ed j=>GF (i1.mono G) λp E vs C _ hp e1 e2 ha=>?_;subst C;cases kC ek i2;subst e2;exact eU (rn e1 ha ed) λv ev Z=>⟨p,v,rfl,.inl ⟨E,k,.inl hp,rfl,ev.symm⟩,(L.mono<|I.trans G).val M2 j Z⟩
 .exact j.elim
theorem uC (ns:az Int):∀ k,k<ns.length->argBest aaT k<=k/\∀ j,j<=k->ns.getD (argBest aaT k) 0<=ns.getD j 0
 |0,_=>⟨aB _,λj d=>by rw[show j=0 by lia];exact cp _⟩
 | k+1,h=>by
  let ⟨h1,h2⟩:=uC ns k<|df ‹_›;unfold argBest;by_cases hb:ns.getD (k+1) 0<ns.getD (argBest aaT k) 0
  .rw[aF (aH hb)];refine⟨aB _,λj d=>?_⟩;by_cases e:j=k+1
   .rw[e];exact cp _
   .exact cH (dU hb) (h2 j<|by lia)
  .rw[aD (by simp only[cu];exact hb)];refine⟨by lia,λj d=>?_⟩;by_cases e:j=k+1
   .lia
   .exact h2 j Zs
section
variable {St:Nat->Heap->Prop}
def MA (W:Walks prog w A.in1 I fp wr n P St)(H:Nat->Nat->Bool)(J:CmpOf prog w A.in1 .Lt P H)(S:au)(L:S∉fp):
 ∀(k j:Nat) (s:ar) (d:av) (c:Nat),n - (j+1)=k->j+1<=n->St (j+1) s.heap->P (argBest H j) d->s.heap.get? S=some { cls:=.type "list",dict:=none,data:=.seq #[d,d] c,slots:=#[]} ->
 (∀ v Z tk,P (argBest H<|n - 1) v->(∀ b o,b∉wr->b≠S->s.heap.get? b=some o->Z.get? b=some o)->R (.ok<|.ret v) {s with heap:=Z,toks:=tk}) ->
 codeAny Zw A (.builtin "min.loop" ⟨[.ref I,.none,.ref S],kw⟩) R s:=by
 have Sw:S∉wr:=λh=>L<|W.sub _ h;have nm:(toString "min"++toString ".loop" : String) = "min.loop":=by decide
 intro k;induction k with
 | zero =>
  intro j s d c hk hj E U M Q;have ej:j+1=n:=by lia
  exact d8 eO (fj<|bT M rfl (fj<|eJ<|W.done s _ _ (ej▸E) λZ tk kp=>fj<|cM (kp S _ Sw M) rfl (fj<|dc<|aC<|Q d _ tk (by rw[<- ej];exact U) λb o hb hbS e=>(bg _ _<|bB hbS).trans<|kp b o hb e)))
 | succ k ih =>
  intro j s d c hk hj E U M Q;have lt:j+1<n:=by lia
  refine d8 eO ?_;show wpAny _ _ (seqItems? (.ref S)>>=_) _ _ s;refine fj (bT M rfl (fj<|eJ<|W.item (j+1) s _ _ lt E λv Z tk hv q kp=>?_));have G:=kp S _ Sw M;show wpAny _ _ (tryCatch (holding [v,v]<|richCompare .Lt v d>>=_) _>>=_) _ _ _;refine fj<|eJ<|cg<|fj<|J (j+1) (argBest H j) v d _ _ _ hv U<|fj<|cg<|cF<|fj<|dc<|aC ?_;cases hb:H (j+1) (argBest H j)with
  | true =>
   simp only[d7];refine fj<|cM G rfl (fj<|dc ?_);rw[nm];refine aC ⟨dZ cQ _,ih (j+1) _ v _ Zs lt (W.frame _ _ _ q λb Xv o e=>?_) (by simp only[argBest,hb,d7];exact hv) (bV _ G rfl) λv' h2 u C y=>?_⟩
   .exact(bg _ _ (λh:S=b=>L (by rw[h];exact Xv))).trans e
   .exact Q v' h2 u C λb o O Y e=>y b o O Y ((bg _ _<|bB Y).trans<|kp b o O e)
  | false =>simp only[c5,d0];refine fj<|dc ?_;rw[nm];exact aC ⟨dZ cQ _,ih (j+1) _ d c Zs lt q (by simp only[argBest,hb,c5,d0];exact U) G λv' h2 u C y=>Q v' h2 u C λb o O Y e=>y b o O Y<|kp b o O e⟩
end
def CS (a v:av):argsOk "min" ⟨[a],[(Str.ofString "default",v)]⟩:=by kernel_rfl
def As {dv:av}(I:Inv X aa σ H s)(fU:X.fU=true)(hp:H p=some (.lst<|ns.map V.int))(rd:fH d dv)(q:if ns=[]then Q d H else ∀ m,m∈ns->(∀ y∈ns,m<=y)->Q (.int m) H):
 wpAny Zt X.A (call (.builtin "min") [.ref p] [(Str.ofString "default",dv)]) aad X.xe s:=by
 have nm:(toString "min"++toString ".loop" : String) = "min.loop":=by decide
 obtain⟨_,E,n,r,hl,e⟩:=I.j9 hp;have L:s.heap.IsList p E.toArray:=⟨_,e,rfl,n,rfl⟩;have lt:p≠s.heap.objs.size:=aN<|ic e;have len:E.toArray.size=ns.length:=by rw[aI,<- hl,fI]
 have val:∀(i:Nat) (v:av),E.toArray[i]?=some v->∃ t,i<ns.length/\v=.int (ns.getD i 0) t:=λi v hv=>by
  have O:E[i]?=some v:=by simpa using hv
  cases C:abi[i]? with
  |none=>have:=r.none_of C;rw[O]at this;cases this
  | some y =>
   refine eU (r.get C) λu hu ry=>?_;rw[O]at hu;cases hu;rw[mD]at C;cases e2:ns[i]? with
   |none=>rw[e2]at C;cases C
   | some b =>rw[e2]at C;cases C;obtain⟨t,rfl⟩:=ry;exact⟨t,(jA e2).1,by rw[aP,e2];rfl⟩
 refine PyProof.Rows.kmk_tree PySem.F.kind_min PySem.F.plain_min PySem.F.entry_min (CS _ _) ?_;show wpAny _ _ (Builtin.Builtins.bindParams "min" ["key","default"] 0 ⟨[],[(Str.ofString "default",dv)]⟩>>=_) _ _ s;refine fj<|wpAny_of_eq rfl (fj<|aC<|fj<|c9 L<|fj<|wpAny_newList ?_<|bx _);rw[nm];have W:=Walks.list (prog:=X.prog) (w:=X.w) (A:=X.A.in1) (I.ok.hd fU) s.heap.objs.size p lt E.toArray;have hS:((s.heap.push { cls:=.type "list_iterator",data:=.fields #[.ref p,.int 0 0]}).push { cls:=.type "list",data:=.seq ([]:az av).toArray}).get? (s.heap.push { cls:=.type "list_iterator",data:=.fields #[.ref p,.int 0 0]}).objs.size=some { cls:=.type "list",dict:=none,data:=.seq #[] 0,slots:=#[]}:=aL _ rfl;have G:(s.heap.push { cls:=.type "list_iterator",data:=.fields #[.ref p,.int 0 0]}).objs.size=s.heap.objs.size+1:=bz ..
 have ltp:p<s.heap.objs.size:=ic e;have Sf:(s.heap.push { cls:=.type "list_iterator",data:=.fields #[.ref p,.int 0 0]}).objs.size∉[s.heap.objs.size,p]:=by rw[G];simp only[bq,a7,ck,not_or];exact⟨bD<|bZ _,bD<|bw ltp⟩
 have Ol:((s.heap.push { cls:=.type "list_iterator",data:=.fields #[.ref p,.int 0 0]}).push { cls:=.type "list",data:=.seq ([]:az av).toArray}).IsListIter s.heap.objs.size p 0/\((s.heap.push { cls:=.type "list_iterator",data:=.fields #[.ref p,.int 0 0]}).push { cls:=.type "list",data:=.seq ([]:az av).toArray}).IsList p E.toArray :=
  ⟨⟨_,iU _<|aL _ rfl,rfl,rfl⟩,(L.push _).push _⟩
 have back:∀ {Z:Heap} {tk:Nat},(∀ b o,s.heap.get? b=some o->Z.get? b=some o)->Inv X aa σ H {s with heap:=Z,toks:=tk}:=λkp=>I.af kp;refine aC ⟨dZ cQ _,d8 eO ?_⟩;rw[Around.under_plainId cQ _];show wpAny _ _ (seqItems? (.ref _)>>=_) _ _ _;refine fj<|bT hS rfl ?_;show wpAny _ _ (tryCatch (pyNext<|.ref s.heap.objs.size) _>>=_) _ _ _;by_cases hn:ns=[]
 .rw[aF hn]at q;have z0:E.toArray.size=0:=by rw[len,hn];rfl
  refine fj (eJ<|W.done _ _ _ (by rw[z0];exact Ol) λZ tk kp=>?_);show wpAny _ _ (rule _>>=_) _ _ _;exact fj (ew<|aC ⟨d,H,back λb o C=>kp b o (by simpa using aN<|ic C)<|iU _<|iU _ C,rd,q⟩)
 .rw[aD hn]at q;have J:0<ns.length:=List.length_pos_iff.mpr hn;refine fj (eJ<|W.item 0 _ _ _ (by rw[len];exact J) Ol λv Z tk hv U kp=>?_);have Y:=kp _ _ (by simpa using(λz:(s.heap.push { cls:=.type "list_iterator",data:=.fields #[.ref p,.int 0 0]}).objs.size=s.heap.objs.size=>Sf<|by simp[z])) hS;show wpAny _ _ (updateSeq _ (λ_=>#[v,v])>>=_) _ _ _;refine fj<|cM Y rfl ?_;rw[nm];refine aC ⟨dZ cQ _,MA W aaT ?_ _ Sf _ 0 _ v _ rfl (by rw[len];exact J) (W.frame _ _ _ U λb Xv o C=>?_) hv (bV _ Y rfl) λv' h2 tk2 M kp2=>?_⟩
  .intro i j vi vj s' Q' E' hi hj hq;obtain⟨t,_,rfl⟩:=val i vi hi;obtain⟨t',_,rfl⟩:=val j vj hj;exact lt_int hq
  .exact(bg _ _ λh=>Sf (by rw[h];exact Xv)).trans C
  .rw[len]at M;refine eU (val _ v' M) λt SG r0_=>?_;subst r0_;obtain⟨b1,b2⟩:=uC ns (ns.length - 1) Zs;have nS:∀ b o,s.heap.get? b=some o->b≠(s.heap.push { cls:=.type "list_iterator",data:=.fields #[.ref p,.int 0 0]}).objs.size:=λb o C=>by rw[G];exact aN (bw<|ic C)
   have nI:∀ b o,s.heap.get? b=some o->b∉[s.heap.objs.size]:=λb o C=>by simpa using aN (ic C)
   refine⟨.int _,H,back λb o C=>kp2 b o (nI b o C) (nS b o C)<|(bg _ _<|bB<|nS b o C).trans<|kp b o (nI b o C)<|iU _<|iU _ C,⟨t,rfl⟩,q _ ?_ λx hx=>?_⟩
   .rw[aP,iO SG];exact bQ _
   .obtain⟨j,hj,ej⟩:=bj hx;have:=b2 j Zs;rw[aP (i:=j),iO hj,ej]at this;exact this
def Ve (w C:De):De:=λq u K=>w q u λx j=>C q j λd e=>∃ ns:az Int,lv e x=some (ns.map D.int)/\if ns=[]then K d e else ∀ m,m∈ns->(∀ y∈ns,m<=y)->K (.int m) e
def RC (fU:X.fU=true)(hg:Gl X "min")(hm:X.mg "min"=none)(he:PD X e w)(hc:PD X c wd)
 (h1:starEach [e] X.env=(false,eval e X.env)::starEach [] X.env:=by rfl)
 (h2:backTo pos (starEach [e] X.env)=(false,eval e X.env)::backTo pos (starEach [] X.env):=by rfl) (h3:(backTo pos<|starEach [e] X.env).any Zx=false:=by rfl)
 (h4:(backToKw pos<|keywordEach [⟨some "default",c,Jm⟩] X.env).all (·.1.isSome)=true:=by rfl) (h5:(backToKw pos<|keywordEach [⟨some "default",c,Jm⟩] X.env).any (·.1.isNone)=false:=by rfl)
 (h6:(backToKw pos<|keywordEach [⟨some "default",c,Jm⟩] X.env).filterMap Zx=[Str.ofString "default"]:=by rfl):
 PD X (.Call (.Name "min" p) [e] [⟨some "default",c,Jm⟩] pos) (Ve w wd):=by
 intro C s J H Q I h;refine fL h λφ ρ μ K A M k L=>cE<|ku I hg hm dA ?_;have q1:wY (tD w) BK J H (λus O=>wY (tD wd) BK J O λds G=>∃(l:au) (d:V) (ns:az Int),us=[.ref l]/\ds=[d]/\G l=some (.lst<|ns.map V.int)/\if ns=[]then Q d G else ∀ m,m∈ns->(∀ y∈ns,m<=y)->Q (.int m) G):=by
  refine⟨φ,ρ,μ,_,A,M,k,λd1 W U v1 O k1 f1 M1 i1=>⟨U,ρ,W,_,A.mono f1,M1,k1,λd2 VY YE v2 G E f2 M2 i2=>eU E λns el E=>fw (jv M2 (i1.mono f2) el) λl vs j Z ha=>?_⟩⟩;subst j;have F:=L.mono<|f1.trans f2;refine⟨l,v2,ns,rfl,rfl,by rw[Z,ha.ints],?_⟩;by_cases hn:ns=[]
  .rw[aF hn]at E ⊢;exact F.val M2 E i2
  .rw[aD hn]at E ⊢;exact λm a b=>F.val M2 (E m a b) rfl
 refine PyProof.Rows.callWith_kw (gc (fv he gJ h1 pos C s J H _ I q1) λus s1 h_=>fw h_ λvs O I1 r1 q2=>gc (Mr hc Qm pos C s1 J O _ I1 q2) λks s2 MU=>?_) h2 h3 h4 h5;obtain⟨ds,G,I2,r2,l,d,ns,e1,e2,Z,q⟩:=MU;subst e1 e2;refine eU r1.one λu j ru=>?_;subst j;refine eU r2.one λu2 j Y=>?_;subst j;subst ru;exact As I2 fU Z Y q
theorem lX:∀(xs:az Int) (e:Int),e<=xs.foldl max e/\∀ x∈xs,x<=xs.foldl max e
 |[],e=>⟨cp _,λ_ h=>nomatch h⟩
 | y::xs,e=>by
  let ⟨h1,h2⟩:=lX xs<|max e y;rw[cO];refine⟨by lia,λx d=>?_⟩;rcases List.mem_cons.mp d with q|q
  .lia
  .exact h2 x q
theorem jX:∀(xs:az Int) (e:Int),xs.foldl max e=e\/xs.foldl max e∈xs
 |[],e=>.inl rfl
 | y::xs,e=>by
  rw[cO];rcases jX xs (max e y)with h|h
  .rw[h];rcases Int.le_total e y with q|q
   .exact .inr (by rw[show max e y=y by lia];exact aE)
   .exact .inl Zs
  .exact .inr (jJ _ h)
def Nf {xs:az Int}{e m:Int}(j:m∈e::xs)(d:∀ x∈e::xs,x<=m):m=xs.foldl max e:=by
 refine gv (lX xs e) λa b=>?_;have le:m<=xs.foldl max e:=by
  rcases List.mem_cons.mp j with q|q
  .lia
  .exact b m q
 have ge:xs.foldl max e<=m:=by
  rcases jX xs e with q|q
  .rw[q];exact d e aE
  .exact d _ (jJ _ q)
 lia
def qa (l:az Nat)(e:Nat):Nat:=e+((l.drop e).takeWhile (·==111)).length
def sy (u:OX l)(he:e<=l.length):Sl l e (qa l e):=by
 have split:=List.takeWhile_append_dropWhile (p:=λc=>c==111) (l:=l.drop e);have len:=b8 List.length split;rw[i8,bL]at len;refine⟨aU _ _,by delta qa;lia,λv C y=>?_,?_⟩
 .have d:v - e<((l.drop e).takeWhile (·==111)).length:=by unfold qa at y;lia
  have g:l[v]?=((l.drop e).takeWhile (·==111))[v - e]?:=by
   have q:(l.drop e)[v - e]?=l[v]?:=by rw[cJ];congr 1;lia
   rw[<- q,<- split,pF d];simp
  rw[g,iO d]
  have:=List.all_eq_true.mp (List.all_takeWhile) _ (bQ d)
  simpa using this
 .cases hd:(l.drop e).dropWhile (·==111)with
  | nil =>left;rw[hd]at len;delta qa;simp at len;lia
  | cons c r =>
   right;have g:l[qa l e]?=some c:=by
    have q:(l.drop e)[qa l e - e]?=l[qa l e]?:=by rw[cJ];congr 1;delta qa;lia
    rw[<- q,<- split,lQ (by delta qa;simp),hd];delta qa;simp
   have j:c≠111:=by have:=List.head?_dropWhile_not (p:=λc=>c==111) (l:=l.drop e);rw[hd]at this;simpa using this
   rw[g];rcases u c (lH g)with q|q
   .exact absurd q j
   .rw[q]
def iT (es:az Int)(l:az Nat)(e:Int):Int:=(es.filter λx=>decide (x<=(qa l e.toNat:Int))).foldl max e
def EB {e:Int}(u:OX l)(h0:0<=e)(he:e<=l.length)(hm:e∈es):VP es l e (iT es l e):=by
 have ct:=sy u (e:=e.toNat) Zs;have y:e∈es.filter λx=>decide (x<=(qa l e.toNat:Int)):=List.mem_filter.mpr ⟨hm,aH (by have:=ct.1;lia)⟩;obtain⟨a,b⟩:=lX aaG e;have mi:iT es l e∈es.filter λx=>decide (x<=(qa l e.toNat:Int)):=by
  rcases jX aaG e with q|q
  .delta iT;rwa [q]
  .exact q
 exact gv (List.mem_filter.mp mi) λm1 m2=>⟨_,ct,m1,bJ m2,λx j d=>b x<|List.mem_filter.mpr ⟨j,aH d⟩⟩
def Cy {es:az Int}{l:az Nat}{e m:Int}(d:OX l)(h0:0<=e)(he:e<=l.length)(hm:e∈es)(h:VP es l e m):m=iT es l e:=h.uniq (EB d h0 he hm)
def rm {es:az Int}{l:az Nat}{e:Int}(hm:e∈es):iT es l e∈es:=by
 delta iT;rcases jX aaG e with q|q
 .rwa [q]
 .exact(List.mem_filter.mp q).1
def EC (es:az Int)(l:az Nat)(e:Int):e<=iT es l e:=(lX _ e).1
def jc (es:az Int)(ts:az Tk)(a e:Int):Int:=ts.foldl (λm t=>if t.2<=a then max m (iT es t.1 e)else m) e
def ip (es:az Int)(ts:az Tk)(a:Int):az Int:=es.map (jc es ts a)
theorem Af (es:az Int)(a e:Int):∀(ts:az Tk) (m:Int),ts.foldl (λm t=>if t.2<=a then max m (iT es t.1 e)else m) m=((ts.filter λt=>decide (t.2<=a)).map λt=>iT es t.1 e).foldl max m
 |[],m=>rfl
 | t::ts,m=>by
  rw[cO,Af es a e ts,bE];by_cases h:t.2<=a
  .rw[aF h,aF (aH h)];rfl
  .rw[aD h,aD (by simp[h])]
def jQ (es:az Int)(ts:az Tk)(a e:Int):jc es ts a e=((ts.filter λt=>decide (t.2<=a)).map λt=>iT es t.1 e).foldl max e:=Af es a e ts e
def Ag {es:az Int}{ts:az Tk}{a e:Int}(hm:e∈es):jc es ts a e∈es:=by
 rw[jQ];rcases jX ((ts.filter λt=>decide (t.2<=a)).map λt=>iT es t.1 e) e with q|q
 .rwa [q]
 .refine eU (List.mem_map.mp q) λt _ ht=>?_;rw[<- ht];exact rm hm
def oN (es:az Int)(ts:az Tk)(a e:Int):e<=jc es ts a e:=by rw[jQ];exact(lX _ e).1
def zW (es:az Int)(t:Tk):az Int:=es.map (iT es t.1)
def p8 (es:az Int)(a:Int)(told:az Int)(t:Tk):az Int:=if t.2<=a then List.zipWith max told (zW es t)else told
theorem xM (es:az Int)(a:Int):∀(ts:az Tk) (g:Int->Int),ts.foldl (p8 es a) (es.map g)=es.map λe=>ts.foldl (λm t=>if t.2<=a then max m (iT es t.1 e)else m) (g e)
 |[],g=>rfl
 | t::ts,g=>by
  have e1:p8 es a (es.map g) t=es.map λe=>if t.2<=a then max (g e) (iT es t.1 e)else g e:=by
   delta p8;by_cases h:t.2<=a
   .rw[aF h];delta zW;simp[h]
   .simp[h]
  rw[cO,e1,xM es a ts];rfl
def KQ (es:az Int)(ts:az Tk)(a:Int):ts.foldl (p8 es a) es=ip es ts a:=by have:=xM es a ts id;rw[List.map_id]at this;rw[this];rfl
def rowAt (es row:az Int)(x:Int):Int:=(row[es.idxOf x]?).getD 0
def lW (es:az Int)(ts:az Tk)(before:az Int)(a:Int):az Int:=List.zipWith (λXG d=>max XG<|rowAt es before d) (ip es ts a) before
structure rJ (es row:List Int):Prop where
 len:row.length=es.length
 mem:∀ x∈row,x∈es
def Cq {es:az Int}{x:Int}(h:x∈es):es.idxOf x<es.length:=List.idxOf_lt_length_iff.mpr h
def uq {es:az Int}{x:Int}(h:x∈es):es[es.idxOf x]?=some x:=by rw[iO (Cq h)];congr 1;exact List.getElem_idxOf (Cq h)
def u5 {es row:az Int}(r:rJ es row){x:Int}(h:x∈es):row[es.idxOf x]?=some (rowAt es row x):=by have hl:es.idxOf x<row.length:=r.len▸Cq h;delta rowAt;rw[iO hl];rfl
def FN {es row:az Int}(r:rJ es row){x:Int}(h:x∈es):rowAt es row x∈es:=r.mem _ (lH<|u5 r h)
def Nx (es:az Int):rJ es es:=⟨rfl,λ_ h=>h⟩
def yB (es:az Int)(ts:az Tk)(a:Int):rJ es (ip es ts a):=⟨by delta ip;rw[fI],λx d=>by
 obtain⟨e,j,rfl⟩:=List.mem_map.mp d
 exact Ag j⟩
def max_mem {es:az Int}{a b:Int}(ha:a∈es)(hb:b∈es):max a b∈es:=by
 rcases Int.le_total a b with h|h
 .rwa [show max a b=b by lia]
 .rwa [show max a b=a by lia]
def Eh {es:az Int}{ts:az Tk}{before:az Int}{a:Int}(r:rJ es before):rJ es (lW es ts before a):=by have o:=yB es ts a;refine⟨by delta lW;rw[bO,o.len,r.len,Nat.min_self],λx d=>?_⟩;unfold lW at d;obtain⟨i,e,rfl⟩:=bj d;rw[List.getElem_zipWith];exact max_mem (o.mem _<|bQ _) (FN r<|r.mem _<|bQ _)
def ik (es:az Int)(ts:az Tk):Nat->az Int
 |0=>ip es ts 0
 |a+1=>lW es ts (ik es ts a) ((a:Int)+1)
theorem qG (es:az Int)(ts:az Tk):∀ a,rJ es (ik es ts a)
 |0=>yB es ts 0
 |a+1=>Eh (qG es ts a)
def BW {es:az Int}{x:Int}(h:x∈es):rowAt es es x=x:=by delta rowAt;rw[uq h];rfl
def xn (es:az Int)(ts:az Tk)(a:Int):lW es ts es a=ip es ts a:=by
 have j:∀ d:az Int,(∀ x∈d,x∈es)->List.zipWith (λXG e=>max XG<|rowAt es es e) (d.map<|jc es ts a) d=d.map (jc es ts a):=by
  intro d;induction d with
  |nil=>intro _;rfl
  | cons x d q =>intro h;rw[aJ,cj,q λy u=>h y<|jJ _ u,BW (h x aE)];have:=oN es ts a x;rw[show max (jc es ts a x) x=jc es ts a x by lia]
 exact j es λ_ h=>h
def Ae {es:az Int}{ts:az Tk}{a:Int}(h:∀ t∈ts,a<t.2):ip es ts a=es:=by
 delta ip;have e:∀ e,jc es ts a e=e:=λe=>by rw[jQ,List.filter_eq_nil_iff.mpr λt ht=>by have:=h t ht;simp;lia];rfl
 rw[bG λx _=>e x,List.map_id']
theorem rV:∀ {a:Nat},(∀ t∈ts,(a:Int)<t.2)->ik es ts a=es
 |0,h=>Ae h
 | a+1,h=>by unfold ik;rw[rV λt ht=>by have:=h t ht;lia,xn];exact Ae λt ht=>by have:=h t ht;assumption
def Cj (h:lv μ x=some ds):lv (μ++[m]) x=some ds:=by
 cases x with
 |lst d=>exact h
 |mr k=>exact ME h
 |_=>cases h
structure hU (n:Int)(cs:List Int)(ts:List Tk):Prop where
 n1:1<=n
 n2:n<=1000
 iu:cs.length<=1000
 j3:Cuts n cs
 takes:Fi n ts
def sf (n:Int)(cs:az Int):0∈ae n cs:=by delta ae;simp
def Ny {n:Int}{cs:az Int}(d:1<=n)(h:Cuts n cs):(ae n cs).Nodup:=List.Pairwise.imp (λh=>Int.ne_of_lt h) (iE d h)
def Rq:jo:=λj d K=>dM [.i,.v] j λn x=>∃ e:az Int,lv d x=some (e.map D.int)/\e.length<=1000/\K (.mr d.length) (d++[.lst ((ae n e).map D.int)])
def Gz:jo:=λq j K=>dM [.i,.v,.s,.i] q λn x z e=>∃ d:az Int,lv j x=some (d.map D.int)/\d.length<=1000/\(z.length:Int)=n/\n<=1000/\OX z.cps.toList/\0<=e/\e<=n/\e∈ae n d/\K (.int<|iT aaY z.cps.toList e) j
def XM:jo:=λq j K=>dM [.l,.s,.i] q λb z e=>∃ d:az Int,b=d.map D.int/\d.length<=2000/\z.length<=1000/\OX z.cps.toList/\0<=e/\e<=z.length/\e∈d/\K (.int<|iT d z.cps.toList e) j
def qH (es:az Int)(t:Tk):D:=.tup [.int t.2,.lst ((zW es t).map D.int)]
def Gy:jo:=λj d K=>dM [.i,.v,.v] j λn x y=>∃(e:az Int) (ts:az Tk),lv d x=some (e.map D.int)/\lv d y=some (ts.map iI)/\hU n e ts/\K (.lst<|ts.map<|qH<|ae n e) d
def GA:jo:=λj e K=>dM [.v,.l,.i] j λx r a=>∃(d:az Int) (ts:az Tk),lv e x=some (d.map D.int)/\r=ts.map (qH d)/\d.length<=2000/\ts.length<=100/\K (.lst<|(ip d ts a).map D.int) e
def Rl:jo:=λj e K=>dM [.v,.l,.v,.i] j λx r y a=>∃(d:az Int) (ts:az Tk) (bf:az Int),lv e x=some (d.map D.int)/\r=ts.map (qH d)/\d.length<=2000/\ts.length<=100/\d.Nodup/\lv e y=some (bf.map D.int)/\rJ d bf/\K (.mr e.length) (e++[.lst ((lW d ts bf a).map D.int)])
def jB (ts:az Tk):Int:=match ts.map ZI with|[]=>0|a::r=>r.foldl min a
theorem lj:∀(xs:az Int) (e:Int),(xs.foldl min e=e\/xs.foldl min e∈xs)/\xs.foldl min e<=e/\∀ x∈xs,xs.foldl min e<=x
 |[],e=>⟨.inl rfl,cp _,λ_ h=>nomatch h⟩
 | y::xs,e=>by
  let ⟨h0,h1,h2⟩:=lj xs<|min e y;rw[cO];refine⟨?_,by lia,λx d=>?_⟩
  .rcases h0 with h | h
   .rw[h];rcases Int.le_total e y with q|q
    .exact .inl Zs
    .exact .inr (by rw[show min e y=y by lia];exact aE)
   .exact .inr (jJ _ h)
  .rcases List.mem_cons.mp d with q | q
   .lia
   .exact h2 x q
def Hf {ts:az Tk}{m:Int}(hm:m∈ts.map ZI)(hl:∀ y∈ts.map ZI,m<=y):m=jB ts:=by
 delta jB;cases e:ts.map ZI with
 |nil=>rw[e]at hm;cases hm
 | cons a r =>
  rw[e]at hm hl;refine kc (lj r a) λj u d=>?_;have a1:m<=r.foldl min a:=by
   rcases j with q|q
   .rw[q];exact hl a aE
   .exact hl _ (jJ _ q)
  have a2:r.foldl min a<=m:=by
   rcases List.mem_cons.mp hm with q|q
   .lia
   .exact d m q
  lia
def zB:∀ t∈ts,jB ts<=t.2:=λt ht=>by
 have hm:t.2∈ts.map (·.2):=List.mem_map.mpr ⟨t,ht,rfl⟩;delta jB;cases e:ts.map ZI with
 |nil=>rw[e]at hm;cases hm
 | cons a r =>
  rw[e]at hm;refine kc (lj r a) λu j d=>?_;rcases List.mem_cons.mp hm with q|q
  .lia
  .exact d _ q
def zA {ts:az Tk}{n:Int}(h:Fi n ts):0<=jB ts/\jB ts<=60:=by
 delta jB;cases e:ts.map ZI with
 |nil=>exact⟨cp _,by decide⟩
 | cons a r =>
  refine kc (lj r a) λu C y=>?_;have d:∀ x∈a::r,0<=x/\x<=60:=λx j=>by rw[<- e]at j;obtain⟨t,ht,rfl⟩:=List.mem_map.mp j;have:=h.ok t ht;exact⟨this.2.2.1,this.2.2.2⟩
  show 0<=r.foldl min a/\r.foldl min a<=60;rcases u with q|q
  .rw[q];exact d a aE
  .exact d _ (jJ _ q)
def Gx:jo:=λe d K=>dM [.v] e λy=>∃ ts:az Tk,lv d y=some (ts.map iI)/\ts.length<=100/\K (.int<|jB ts) d
def XH:jo:=λe d K=>dM [.l,.v,.i] e λb y a=>∃(n:Int) (cs:az Int) (ts:az Tk),b=(ae n cs).map D.int/\lv d y=some (ts.map iI)/\hU n cs ts/\K (.lst<|(ip Zv ts a).map D.int) d
def Xe (x sc:Scope):Scope:={ sc with names:=sc.names.map λ(n,k)=>if k==NameKind.free&&x.kind==.function&&x.names.lookup n==some .cell then(n,NameKind.cell)else(n,k)}
def uv (hs:e.env.scope=xsc)(h:uw j (Xe xsc d) N js sc=true):jm (nP e j d q s H) N js sc:=by subst hs;exact CQ h rfl rfl
def qW (p:Int->Bool):D->aA D
 |.int i=>if p i=true then some (.int i)else none
 |_=>none
def vF (p:Int->Bool)(es:az Int):(es.map D.int).filterMap (qW p)=(es.filter p).map D.int:=by
 induction es with
 |nil=>rfl
 | cons e es d =>
  rw[aJ,cb,bE];unfold qW at d ⊢
  by_cases h:p e=true
  .simp only[h,d7,aJ];rw[d]
  .simp only[h,d0];rw[d];rfl
def yI {p:Int->Bool}{i:Int}{K:aA D->MS->Prop}{μ:MS}(h:p i=true)(k:K (qW p<|.int i) μ):K (some<|.int i) μ:=by have e:qW p (.int i)=some (.int i):=aF h;rw[e]at k;exact k
def uk {p:Int->Bool}{i:Int}{K:aA D->MS->Prop}{μ:MS}(h:¬ p i=true)(k:K (qW p<|.int i) μ):K none μ:=by have e:qW p (.int i)=none:=aD h;rw[e]at k;exact k
def Ug (g:Int->D):D->aA D
 |.int i=>some (g i)
 |_=>none
def Ng (g:Int->D)(es:az Int):(es.map D.int).filterMap (Ug g)=es.map g:=by rw[eG,<- cz];rfl
def MC (g:Tk->D):D->aA D
 |.tup [.str z,.int a]=>some (g (z.cps.toList,a))
 |_=>none
def yP (g:Tk->D)(ts:az Tk):(ts.map iI).filterMap (MC g)=ts.map g:=by rw[eG,<- cz];rfl
def Cf (g:Int->Int->D):D->aA D
 |.tup [.int a,.int b]=>some (g a b)
 |_=>none
def Ew (g:Int->Int->D)(xs ys:az Int):(List.zipWith aab (xs.map D.int)<|ys.map D.int).filterMap (Cf g)=List.zipWith g xs ys:=by
 rw[List.zipWith_map];induction xs generalizing ys with
 |nil=>simp
 | cons x xs d =>
  cases ys with
  |nil=>simp
  |cons y ys=>rw[cj,cj,cb,d];rfl
def Dl {xs ys:az Int}(h:d∈List.zipWith aab (xs.map D.int) (ys.map D.int)):∃ a∈xs,∃ b∈ys,d=.tup [.int a,.int b]:=by
 induction xs generalizing ys with
 |nil=>simp at h
 | cons x xs j =>
  cases ys with
  |nil=>simp at h
  | cons y ys =>
   rcases List.mem_cons.mp h with q|q
   .exact⟨x,aE,y,aE,q⟩
   .obtain⟨a,ha,b,hb,e⟩:=j q;exact⟨a,jJ _ ha,b,jJ _ hb,e⟩
theorem BB {α β d e:Type}(f:d->e)(g:α->β->d):∀(xs:az α) (ys:az β),(List.zipWith g xs ys).map f=List.zipWith (λa b=>f<|g a b) xs ys
 |[],_=>rfl
 |_::_,[]=>rfl
 |x::xs,y::ys=>by rw[cj,cj,aJ,BB f g xs ys]
abbrev kI (i:Int):Key:=.inl i
def vK:Nat->az Int->az D
 |_,[]=>[]
 |n,e::es=>.tup [.int n,.int e]::vK (n+1) es
theorem xx:∀(n:Nat) (es:az Int) (i:Nat),(vK n es)[i]?=(es[i]?).map λe=>D.tup [.int ((n+i:Nat):Int),.int e]
 |n,[],i=>by simp[vK]
 |n,e::es,0=>by simp[vK]
 | n,e::es,i+1=>by unfold vK;rw[List.getElem?_cons_succ,List.getElem?_cons_succ,xx (n+1) es i];congr 1;funext e;rw[show n+1+i=n+abe by lia]
def Ke (es:az Int):nA (es.map D.int)=vK 0 es:=by
 apply cG;intro i;rw[xx];delta nA;rw[bU,fI,mD];cases e:es[i]? with
 |none=>simp
 | some x =>have d:=(jA e).1;rw[bP d];simp
def pL:Nat->az Int->az aap
 |_,[]=>[]
 |n,e::es=>(kI e,.int n)::pL (n+1) es
theorem zD {it:D->MS->(aA aap->MS->Prop)->Prop}{c:MS->Prop}{μ:MS}{K:az aap->Prop}(C:∀ m,c (μ++[m]))(hit:∀(i:Nat) (e:Int) (μ':MS) (F:aA aap->MS->Prop),F (some (kI e,.int i)) μ'->it (.tup [.int i,.int e]) μ' F):∀(es:az Int) (n:Nat) (d:az aap),es.Nodup->(∀ kv∈d,∀ e∈es,kv.1≠kI e)->K (d++pL n es)->vN it c μ (vK n es) d K
 | [],n,d,_,_,k=>by rw[show pL n []=[]from rfl,bH]at k;exact⟨C _,k⟩
 | e::es,n,d,nd,hk,k=>by
  refine⟨C _,hit n e _ _ ⟨rfl,rfl,?_⟩⟩;have hn:(d.any λkv=>decide (kv.1=kI e))=false:=by rw[eR];intro kv j;simp;exact hk kv j e aE
  have hd:dput d (kI e) (.int n)=d++[(kI e,.int n)]:=by delta dput;rw[hn];rfl
  rw[hd];refine zD C hit es (n+1) _ (List.nodup_cons.mp nd).2 (λkv j E u=>?_) ?_
  .rcases List.mem_append.mp j with q | q
   .exact hk kv q E (jJ _ u)
   .rw[List.mem_singleton.mp q];intro z;have G:e=E:=by injection z
    rw[G]at nd;exact(List.nodup_cons.mp nd).1 u
  .rwa [aS]
theorem zip_parts {α β:Type}:∀ l:az aaA,(l.map Zx).zip (l.map ZI)=l
 |[]=>rfl
 |p::l=>by rw[aJ,aJ,cZ,zip_parts l]
theorem wO:∀ {es:az Int} {n:Nat} {m:Int},m∈es->kW (pL n es) (kI m)=some (.int ((n+es.idxOf m:Nat):Int))
 |[],n,m,h=>by cases h
 | e::es,n,m,h=>by
  unfold pL kW;rw[bR];by_cases q:e=m
  .subst q;simp
  .have hm : m ∈ es := by rcases List.mem_cons.mp h with z | z
                          .exact absurd z.symm q
                          .exact z
   have j:decide ((kI e)=kI m)=false:=aO λz=>q (by injection z)
   have d:=j
   rw[d]
   have:=wO (n:=n+1) hm
   unfold kW at this
   rw[this,show(e::es).idxOf m=es.idxOf m+1 by rw[cD,show(e==m)=false from c7 q];rfl]
   congr 3
   lia
def Ac (G:jm X N js sc)(fU:X.fU=true)(hi:PI X tg iter wi)(hg:∀ u s H,PG (tu X N sc u s H) tg g)
 (ht:∀ u s H,Li (tu X N sc u s H) ifs tt) (hk:∀ u s H,PE (tu X N sc u s H) kx tk) (hv:∀ u s H,PE (tu X N sc u s H) vx tv)
 (hs:∀ x,foldedSetIterable iter X.env x=pure x:=by intro _;rfl):PE X aag (BL wi js g tt tk tv):=by
 intro j s L H Q I h;refine dY (use:=none) rfl hs (l7 λy hy e=>I.ok.has y.1<|G.free y hy e) G.kind G.loc (gc (hi j s L H _ I h) λv s1 h1=>gc h1 λYX d h2=>Nz h2 λit u Y J W e E T F U q=>?_);subst e;refine cf<|oh ?_;have hD:=E.fO.fresh<|aB _;have I3:Inv X j L (upd W d.heap.objs.size<|.dK []) { d with heap:=d.heap.push { cls:=.type "dict",data:=.dict #[]}}:=E.laid (t':=d.toks) (λ_ _ q=>iU _ q) aaa<|AZ d.heap E.big;have hC:(d.heap.push { cls:=.type "dict",data:=.dict #[]}).objs.size=d.heap.objs.size+1:=bz ..
 have M:Y 0 (d.heap.push { cls:=.type "dict",data:=.dict #[]}):=T.keep 0 _ _ F λb _ o e=>iU _ e;have O:∀ b∈u,b≠d.heap.objs.size:=λb hb=>let ⟨o,e,_⟩:=T.obj 0 d.heap F b hb;aN (ic e)
 have f3:∀ b∈u,kZ X j (upd W d.heap.objs.size<|.dK []) b:=λb hb=>⟨by rw[fB (O b hb)];exact(U b hb).1,(U b hb).2⟩;refine Bf I3 G fU T M f3 (hg u _ _) (ht u _ _) (hk u _ _) (hv u _ _) (q d.heap.objs.size hD) λP H' fM m IX Z nC hn=>?_;have C:d.heap.objs.size<(d.heap.push { cls:=.type "dict",data:=.dict #[]}).objs.size:=hC▸bZ _;have Bz:∀(b:au) (o:Obj),d.heap.get? b=some o->b≠(d.heap.push { cls:=.type "dict",data:=.dict #[]}).objs.size:=λb o e=>aN<|dr (ic e) C;refine⟨m,nC,λh' sb=>?_⟩;have IY:Inv X j L H' { P with heap:=h'}:=IX.turned (t':=P.toks) aau hn
  (bD<|dr E.lt C) (.inr<|df<|cx E.sz C) (λx c e=>let ⟨v,z⟩:=E.cell x c e;aN (dr z.lt C)) (λp hp=>Bz _ _ (E.pin p hp).1)
 exact⟨.ref _,_,IY,rfl,Z⟩
def NG {e:DI}{pos:Pos}(E:jm X N js sc)(fU:X.fU=true)(so:Lf g y S)(mo:nE g)(q:pB S js=true)(u:Bt X tg iter e)(C:∀ d s H,PG abk tg g)
 (ht:∀ d s H,Bs abk ifs t) (hk:∀ d s H,PD abk kx wk) (j:∀ d s H,PD abk vx wv)
 (hs:∀ x,foldedSetIterable iter X.env x=pure x:=by intro _;rfl):PD X aag (KH e js y t wk wv):=(Ac E fU u C ht hk j hs).imp λF H Q h=>Hw so mo q h
def RX (es:az Int)(ts:az Tk):Nat->az Int
 |0=>es
 |b+1=>ik es ts b
def K2 (es:az Int)(ts:az Tk):∀ b:Nat,lW es ts (RX es ts b) (b:Int)=RX es ts (b+1)
 |0=>xn es ts 0
 |b+1=>by show lW es ts (ik es ts b) ((b+1:Nat):Int)=ik es ts (b+1);rfl
def GS:∀ {b:Nat},(∀ t∈ts,(b:Int)<=t.2)->RX es ts b=es
 |0,_=>rfl
 |b+1,h=>rV λt ht=>by have:=h t ht;assumption
def gy (lo:Int)(n:Nat):lP lo (n+1)=.int lo::lP (lo+1) n:=by
 delta lP;rw[List.range_succ_eq_map,aJ,aQ];congr 1
 .simp
 .refine bG λi _=>?_;show D.int (lo+((i+1:Nat):Int))=_;congr 1;lia
def gM {g:MS}(hm:∀(j:Nat) (m:MO),μ[j]?=some m->Ao μ.length m):∀(j:Nat) (m:MO),j<μ.length->(μ++g)[j]?=some m->Ao μ.length m:=λj m d e=>by rw[pF d]at e;exact hm j m e
def Ax (p:Tk->Bool)(g:Tk->D):D->aA D
 |.tup [.str z,.int a]=>if p (z.cps.toList,a)=true then some (g (z.cps.toList,a))else none
 |_=>none
def vt (p:Tk->Bool)(g:Tk->D)(t:Tk):Ax p g (iI t)=if p t=true then some (g t)else none:=rfl
theorem vE (p:Tk->Bool)(g:Tk->D):∀ ts:az Tk,(ts.map iI).filterMap (Ax p g)=(ts.filter p).map g
 |[]=>rfl
 | t::ts=>by
  rw[aJ,cb,vt,bE];by_cases h:p t=true
  .rw[aF h,aF h,aJ,vE p g ts]
  .rw[aD h,aD h,vE p g ts]
def MI {p:Tk->Bool}{g:Tk->D}{t:Tk}{K:aA D->MS->Prop}{μ:MS}(h:p t=true)(k:K (Ax p g<|iI t) μ):K (some<|g t) μ:=by rw[vt,aF h]at k;exact k
def MJ {p:Tk->Bool}{g:Tk->D}{t:Tk}{K:aA D->MS->Prop}{μ:MS}(h:¬ p t=true)(k:K (Ax p g<|iI t) μ):K none μ:=by rw[vt,aD h]at k;exact k
def mZ (h:wm μ k=some ds):R7 "list" μ (.mr k):=by show(match μ[k]? with|some (.lst _)=> "list" = "list" | some (.gP _ _)=> "list" = "dict" | _=>False);rw[jT h]
def qd {α:Type}(xs:az α)(x:α):kP (xs++[x]) (-1)=some x:=by delta kP Ay;rw[aD Zu,aF (by rw[i8,aX];lia)];show(xs++[x])[((-1:Int)+((xs++[x]).length:Nat)).toNat]?=some x;rw[i8,aX,show((-1:Int)+((xs.length+1:Nat):Int)).toNat=xs.length by lia,lQ aaa,bc];rfl
def yF {es:az Int}{ts:az Tk}{d:az Int}{a:Int}{i:Nat}{f m:Int}(hf:(ip es ts a)[i]?=some f)(hm:d[i]?=some m):(lW es ts d a)[i]?=some (max f<|rowAt es d m):=by delta lW;rw[bU,hf,hm]
def KL {l:az Nat}{a b:Int}{v c:Nat}(ha:0<=a)(d:a<=v)(e:(v:Int)<b)(h:l[v]?=some c):c∈wH l a b:=by obtain⟨i,rfl⟩:=cL ha;obtain⟨j,rfl⟩:=cL<|cH (Int.natCast_nonneg v)<|dU e;have d:=Int.ofNat_le.mp d;rw[Bc];refine lH (i:=v - i) ?_;rwa [bu (Nat.sub_lt_sub_right d<|Int.ofNat_lt.mp e),cJ,Nat.add_sub_cancel' d]
def xN {es:az Int}{l:az Nat}{a b:Int}(d:OX l)(ha:0<=a)(hb:b<=l.length)(u:a<=b)(hm:b∈es)(h:120∉wH l a b):b<=iT es l a:=by
 have ct:=sy d (e:=a.toNat) Zs;have j:b<=(qa l a.toNat:Int):=by
  by_cases q:b<=(qa l a.toNat:Int)
  .exact q
  .rcases ct.2.2.2 with z | z
   .lia
   .exact absurd (KL ha (by have:=ct.1;lia) Zs z) h
 exact(lX _ a).2 b (List.mem_filter.mpr ⟨hm,aH j⟩)
def QJ {n:Int}{cs:az Int}{ts:az Tk}(S:hU n cs ts)(hb:jI Zv ts=none){i:Nat}{u v:Int}(q:Zv[i]?=some u)(d:Zv[i+1]?=some v):∃ t∈ts,v<=iT Zv t.1 u:=by
 have F:(u,v)∈OE (ae n cs):=by have:=D3 (es:=ae n cs) (i:=i);rw[q,d]at this;exact lH this
 have e:=List.find?_eq_none.mp hb _ F;unfold bad at e;rw[Bool.not_eq_true,List.all_eq_false]at e;refine eU e λt ht G=>?_;have y:120∉wH t.1 u v:=by simpa using G
 have ok:=S.takes.ok t ht;have j:=iQ S.n1 S.j3<|lH q;have C:=iQ S.n1 S.j3<|lH d;have E:=pO (iE S.n1 S.j3) q d<|bZ _;exact⟨t,ht,xN ok.2.1 j.1 Zs (dU ‹_›) (lH d) y⟩
def yC {es:az Int}{ts:az Tk}{a e:Int}{t:Tk}(ht:t∈ts)(ha:t.2<=a):iT es t.1 e<=jc es ts a e:=by rw[jQ];exact(lX _ e).2 _ (List.mem_map.mpr ⟨t,List.mem_filter.mpr ⟨ht,aH ha⟩,rfl⟩)
def lV {es:az Int}{ts:az Tk}{a:Int}{i:Nat}{e:Int}(h:es[i]?=some e):(ip es ts a)[i]?=some (jc es ts a e):=by delta ip;rw[mD,h];rfl
def HU:∀ {a i:Nat} {e:Int},es[i]?=some e->∃ x,(ik es ts a)[i]?=some x/\jc es ts a e<=x
 |0,i,e,h=>⟨_,lV h,cp _⟩
 | a+1,i,e,h=>by have d:=(jA h).1;obtain⟨m,hm⟩:∃ m,(ik es ts a)[i]?=some m:=⟨_,iO<|by rwa [(qG es ts a).len]⟩;refine⟨_,yF (lV h) hm,?_⟩;lia
def Goes (es:az Int)(row:az Int)(k:Nat):Prop:=∀ i,i<es.length->∃ j,min (i+k) (es.length - 1)<=j/\j<es.length/\row[i]?=es[j]?
def uE {es:az Int}(d:es.Pairwise (·<·)){i j:Nat}{a b:Int}(u:es[i]?=some a)(e:es[j]?=some b)(h:a<=b):i<=j:=by
 by_cases q:i<=j
 .exact q
 .have:=pO d e u Zs;lia
def JH {n:Int}{cs:az Int}{ts:az Tk}(S:hU n cs ts)(hb:jI Zv ts=none){a:Nat}(ha:∀ t∈ts,t.2<=(a:Int)):Goes Zv (ik Zv ts a) 1:=λi I=>by
 have E:=iE S.n1 S.j3;obtain⟨e,u⟩:∃ e,Zv[i]?=some e:=⟨_,iO I⟩;obtain⟨x,y,H⟩:=HU u;have G:=(qG Zv ts a).mem x<|lH y;obtain⟨j,F,J⟩:=bj G;have d:Zv[j]?=some x:=by rw[iO F,J]
 refine⟨j,?_,F,y.trans d.symm⟩;by_cases q:i+1<(ae n cs).length
 .obtain⟨v,C⟩:∃ v,Zv[i+1]?=some v:=⟨_,iO q⟩;refine eU (QJ S hb u C) λt ht L=>?_;have:=yC (es:=ae n cs) (e:=e) ht<|ha t ht;have:=uE E C d Zs;lia
 .have:=oN Zv ts a e;have:=uE E u d<|cH ‹_› ‹_›;lia
def Q3 {es:az Int}(d:es.Pairwise (·<·)){i:Nat}{e:Int}(h:es[i]?=some e):es.idxOf e=i:=by have hm:=lH h;have g:=uq hm;have q:=uE d g h<|cp _;have j:=uE d h g<|cp _;lia
def JG {i j d q k L:Nat}(e:min (i+k) L<=j)(g1:min (j+k) L<=d)(h:d<=q):min (i+(k+k)) L<=q:=by lia
def Gp {es:az Int}{ts:az Tk}{a k:Nat}(C:es.Pairwise (·<·))(h:Goes es (ik es ts a) k):Goes es (ik es ts<|a+1) (k+k):=λi F=>by
 refine jF (h i F) λj M G L=>jF (h j G) λI Q P O=>?_;obtain⟨e,J⟩:∃ e,es[i]?=some e:=⟨_,iO F⟩;obtain⟨m,hm⟩:∃ m,es[j]?=some m:=⟨_,iO G⟩;obtain⟨y,d⟩:∃ y,es[I]?=some y:=⟨_,iO P⟩;have nx:=yF (ts:=ts) (a:=(a:Int)+1) (lV J)<|L.trans hm;have ra:rowAt es (ik es ts a) m=y:=by delta rowAt;rw[Q3 C hm,O,d];rfl
 rw[ra]at nx;have H:=(qG es ts<|a+1).mem _<|lH nx;obtain⟨q,E,eq⟩:=bj H;have u:es[q]?=some (max (jc es ts ((a:Int)+1) e) y):=by rw[iO E,eq]
 exact⟨q,JG M Q<|uE C d u<|by lia,E,nx.trans u.symm⟩
theorem AD {n:Int}{cs:az Int}{ts:az Tk}(S:hU n cs ts)(hb:jI Zv ts=none){a:Nat}(ha:∀ t∈ts,t.2<=(a:Int)):∀ j:Nat,Goes Zv (ik Zv ts<|a+j) (2 ^ j)
 |0=>JH S hb ha
 | j+1=>by have:=Gp (iE S.n1 S.j3)<|AD S hb ha j;rwa [show 2 ^ (j+1)=2 ^ j+2 ^ j by lia]
def xC (n:Int)(cs:az Int):Zv[(ae n cs).length - 1]?=some n:=by delta ae;simp
structure iF (es:List Int)(ts:List Tk)(n:Int)(a:Nat):Prop where
 at_:(ik es ts a)[0]?=some n
 low:∀ b,b<a->(ik es ts b)[0]?≠some n
def iF.uniq {es:az Int}{ts:az Tk}{n:Int}{a b:Nat}(h:iF es ts n a)(g:iF es ts n b):a=b:=by
 rcases Nat.lt_trichotomy a b with q|q|q
 .exact absurd h.at_ (g.low a q)
 .exact q
 .exact absurd g.at_ (h.low b q)
def Jk {es:az Int}{ts:az Tk}{n:Int}:∀ {m:Nat},(ik es ts m)[0]?=some n->∃ a,a<=m/\iF es ts n a:=by
 intro m;induction m using Nat.strongRecOn with
 | ind m d =>
  intro h;by_cases q:∃ b,b<m/\(ik es ts b)[0]?=some n
  .exact eU q λb hb e=>eU (d b hb e) λa u j=>⟨a,by lia,j⟩
  .exact⟨m,aB _,h,λb hb e=>q ⟨b,hb,e⟩⟩
def vn {n:Int}{cs:az Int}{ts:az Tk}(S:hU n cs ts)(hl:cs.length<=60)(hb:jI Zv ts=none){a:Nat}(ha:∀ t∈ts,t.2<=(a:Int)):∃ x,x<=a+6/\iF Zv ts n x:=by
 refine Jk (jF (AD S hb ha 6 0 (by rw[gO];lia)) λj q e d=>?_);rw[d];have:j=(ae n cs).length - 1:=by rw[gO]at *;lia
 rw[this];exact xC n cs
def Cm {n:Int}{cs:az Int}{ts:az Tk}(S:hU n cs ts)(hl:cs.length<=60)(hb:jI Zv ts=none):∃ x,x<=66/\iF Zv ts n x:=vn S hl hb λt ht=>(S.takes.ok t ht).2.2.2
def Au {n:Int}{cs:az Int}{ts:az Tk}(S:hU n cs ts){a:Nat}(h:iF Zv ts n a):jB ts<=a:=by
 by_cases q:jB ts<=a
 .exact q
 .have:=h.at_;rw[rV λt ht=>by have:=zB t ht;lia]at this;have d:Zv[0]?=some 0:=rfl;have:=S.n1;lia
def yG (es:az Int)(ts:az Tk)(n:Int)(μ:MS)(K:DK):Prop:=match jI es ts with
 |some _=>K .fX μ
 |none=>∀ a:Nat,a<=66->iF es ts n a->K (.int a) μ
def Ro:jo:=λj e K=>dM [.i,.v,.v] j λn x y=>∃(d:az Int) (ts:az Tk),lv e x=some (d.map D.int)/\lv e y=some (ts.map iI)/\hU n d ts/\d.length<=60/\yG aaY ts n e K
def NL {α:Type}(g:α->D)(ts:az α)(k:Nat):cutD (ts.map g) none (some (k:Int))=(ts.take k).map g:=by
 delta cutD;rw[HT.oa,HT.jN,fI,List.drop_zero,Nat.sub_zero,<- List.map_take];congr 1;rcases Nat.le_total k ts.length with h|h
 .rw[cc h]
 .rw[dP h,br aaa,br h]
def SD {ds:az D}{μ:MS}{K:DK}(h:K (.lst ds) μ):nL false ds μ K:=h
def JS {es:az Int}{l:az Nat}{e d:Int}(j:OX l)(h0:0<=e)(F:e<=d)(G:d<=l.length)(hm:e∈es):iT es l e<=iT es l d:=by
 have u:=sy j (e:=e.toNat) Zs;have C:=sy j (e:=d.toNat) Zs;have H:=EC es l d;have I:=rm (l:=l) hm;refine si (EB j h0 (cH ‹_› ‹_›) hm) λt ht _ E _=>?_;have J:=ht.uniq u;subst J;by_cases q:iT es l e<=d
 .lia
 .have L:qa l e.toNat<=qa l d.toNat:=by
   by_cases z:qa l e.toNat<=qa l d.toNat
   .exact z
   .rcases C.2.2.2 with y | y
    .have:=u.2.1;lia
    .have:=u.2.2.1 (qa l d.toNat) (by have:=C.1;lia) Zs;rw[y]at this;cases this
  exact(lX _ d).2 _ (List.mem_filter.mpr ⟨I,aH<|by lia⟩)
def II {n:Int}{es:az Int}{ts:az Tk}{a e j:Int}(T:Fi n ts)(h0:0<=e)(y:e<=j)(C:j<=n)(hm:e∈es):jc es ts a e<=jc es ts a j:=by
 have ge:=oN es ts a j;rw[jQ es ts a e];rcases jX ((ts.filter λt=>decide (t.2<=a)).map λt=>iT es t.1 e) e with q|q
 .lia
 .refine eU (List.mem_map.mp q) λt ht e1=>gv (List.mem_filter.mp ht) λd u=>?_;have ok:=T.ok t d;have:=JS ok.2.1 h0 y Zs hm;have:=yC (es:=es) (e:=j) d<|bJ u;lia
def Pd (row:az Int):Prop:=∀(i j:Nat) (a b:Int),i<=j->row[i]?=some a->row[j]?=some b->a<=b
def qi (u:es.Pairwise (·<·)):Pd es:=λi j a b h e d=>by
 rcases Nat.lt_or_ge i j with q|q
 .exact dU (pO u e d q)
 .have:i=j:=by lia
  subst this
  rw[e]at d;cases d;exact cp _
def FV {n:Int}{cs:az Int}{ts:az Tk}{a:Int}(S:hU n cs ts):Pd (ip Zv ts a):=λi j x y h e d=>by
 delta ip at e d;rw[mD]at e d;cases e1:Zv[i]? with
 |none=>rw[e1]at e;cases e
 | some u =>
  cases q:Zv[j]? with
  |none=>rw[q]at d;cases d
  | some v =>rw[e1]at e;rw[q]at d;cases e;cases d;have E:=iQ S.n1 S.j3<|lH e1;have C:=iQ S.n1 S.j3<|lH q;exact II S.takes E.1 (qi (iE S.n1 S.j3) i j u v h e1 q) C.2 (lH e1)
def Fg {α:Type}{xs:az α}{x:α}(h:xs[xs.length - 1]?=some x):kP xs (-1)=some x:=by
 have hl:=(jA h).1;have e:xs=xs.dropLast++[x]:=by
  have d:xs≠[]:=λe=>by rw[e]at hl;simp at hl
  have:=List.dropLast_concat_getLast d;rw[List.getLast_eq_getElem]at this;rw[iO hl]at h;rw[a5 h]at this;exact this.symm
 rw[e];exact K5 _ _
theorem iy {α:Type}{it:D->MS->(aA D->MS->Prop)->Prop}{c:MS->Prop}{μ:MS}(d:c μ)(g:α->D)(f:α->aA D):∀ {xs:az α} {K:az D->MS->Prop},(∀ x∈xs,∀(j:aA D->MS->Prop),j (f x) μ->it (g x) μ j)->K (xs.filterMap f) μ->nB it c (xs.map g) μ K
 |[],K,_,k=>⟨d,k⟩
 | x::xs,K,h,k=>⟨d,h x aE _ (iy d g f (λy q=>h y<|jJ _ q) (by
  cases e:f x with
  |none=>rw[List.filterMap_cons_none e]at k;exact k
  |some y=>rw[List.filterMap_cons_some e]at k;exact k))⟩
def iJ {α:Type}{it:D->MS->(aA D->MS->Prop)->Prop}{c:MS->Prop}{μ:MS}(e:c μ)(g f:α->D){xs:az α}{K:az D->MS->Prop}(h:∀ x∈xs,∀(d:aA D->MS->Prop),d (some<|f x) μ->it (g x) μ d)(k:K (xs.map f) μ):nB it c (xs.map g) μ K:=by refine iy e g (λx=>some<|f x) h ?_;rwa [List.filterMap_eq_map']
def oH {α:Type}{g:α->D}{xs:az α}{k:Nat}{x:α}(h:xs[k]?=some x):kP (xs.map g) (k:Int)=some (g x):=lA h
def gZ.le (r:gZ k A)(h:j<=k:=by first|decide|exact aB _|lia):gZ j A:=r.mono h
def lo (h:Loc sc x:=by first|exact Or.inl rfl|exact Or.inr rfl):Loc sc x:=h
def Ic:az V->Hp->VK->Prop:=λd H Q=>match d with
 |[.ref p]=>∃ ns:az Int,H p=some (.lst<|ns.map V.int)/\ns≠[]/\∀ m,m∈ns->(∀ x∈ns,m<=x)->Q (.int m) H
 |_=>False
def Ud (hc:X.fU=true):h9 X (.builtin "min") Ic:=by
 intro F s σ H vs us Q I rv h;delta Ic at h;split at h
 .rename_i p;obtain⟨ns,hp,P,q⟩:=h;refine eU rv.one λu C ru=>?_;subst C;subst ru;obtain⟨z,d,n,r,hl,e⟩:=I.j9 hp;have G:s.heap.IsList p d.toArray:=⟨_,e,rfl,n,rfl⟩;have lt:=aN<|ic e;have len:d.toArray.size=ns.length:=by rw[aI,<- hl,fI]
  have O:0<ns.length:=List.length_pos_iff.mpr P;have val:∀ i v,d.toArray[i]?=some v->∃ t,i<ns.length/\v=.int (ns.getD i 0) t:=λi v L=>by
   have J:d[i]?=some v:=by simpa using L
   cases E:abi[i]? with
   |none=>have:=r.none_of E;rw[J]at this;cases this
   | some y =>
    refine eU (r.get E) λu Y ry=>?_;rw[J]at Y;cases Y;rw[mD]at E;cases M:ns[i]? with
    |none=>rw[M]at E;cases E
    | some b =>rw[M]at E;cases E;obtain⟨t,rfl⟩:=ry;exact⟨t,(jA M).1,by rw[aP,M];rfl⟩
  refine call_min_walk (c9 G ⟨_,_,_,_,_,_,λi j=>decide (ns.getD i 0<ns.getD j 0),rfl,Walks.list (A:=X.A.in1) aaQ s.heap.objs.size p lt d.toArray,⟨⟨_,aL _ rfl,rfl,rfl⟩,G.push _⟩,?_,len▸O,?_,λv h' tk L kp=>?_⟩)
  .intro b hb;simp at hb;rw[bz];rcases hb with rfl|rfl
   .exact bZ _
   .exact bw (ic e)
  .intro i j vi vj s' Q' E' hi W hq;obtain⟨t,_,rfl⟩:=val i vi hi;obtain⟨t',_,rfl⟩:=val j vj W;exact lt_int hq
  .have I2:Inv X F σ H { s with heap:=h',toks:=tk}:=I.af λb o Z=>kp b o (by simpa using aN<|ic Z)<|iU _ Z;rw[len]at L;refine eU (val _ v L) λt U C=>?_;subst C;obtain⟨b1,b2⟩:=uC ns (ns.length - 1) Zs;refine⟨.int _,H,I2,⟨t,rfl⟩,q _ ?_ λx hx=>?_⟩
   .rw[aP,iO U];exact bQ _
   .obtain⟨j,W,ej⟩:=bj hx;have:=b2 j Zs;rwa [aP (i:=j),iO W,ej]at this
 .cases h
def UO:jo:=λe d K=>dM [.v] e λx=>∃ ns:az Int,lv d x=some (ns.map D.int)/\ns≠[]/\∀ m,m∈ns->(∀ y∈ns,m<=y)->K (.int m) d
def DB:kz Ic UO:=λu H d C y K Q M h k L=>by obtain⟨_,rfl,k⟩:=dJ k;obtain⟨v,r,rfl,q,j⟩:=h;cases j;let ⟨ns,el,hn,k⟩:=k;obtain⟨p,d,rfl,e,ha⟩:=jv M q el;exact⟨ns,by rw[e,ha.ints],hn,λm a b=>L.val M (k m a b) rfl⟩
def Vp (n:Nat)(neg:Bool):xX:=λx y j K=>∃ f d e,vX 0 j f x d/\vX 0 j f y e/\wy n d/\wy n e/\(V6 d e).isSome=true/\K (.bl<|neg != rA d e) j
def PM:nh (Me n neg) (Vp n neg):=λu H x y Y W U K Q M E C k L=>by
 refine GF k λf d e P O J I G F=>?_;have q:∀ {j:Nat} {p:au},0<=j->u[j]?=some p->p∉u.take 0:=λ_ _=>by simp
 exact⟨u.take 0,d,e,J,I,P.is M q E,O.is M q C,G,L.val M F rfl⟩
def hI (L:Nat)(f:Nat->Int):az D:=(List.range L).map λj=>D.int (f j)
def ja (L:Nat)(T:Nat->Nat->Int):az D:=(List.range L).map λi=>D.lst (hI L<|T i)
def vk:az Int->Int
 |[]=>0
 |x::r=>r.foldl min x
def Jb {ns:az Int}{m:Int}(e:m∈ns)(d:∀ y∈ns,m<=y):m=vk ns:=by
 cases ns with
 |nil=>cases e
 | cons x r =>
  refine kc (lj r x) λa b c=>?_;show m=r.foldl min x;have u:r.foldl min x<=m:=by
   rcases List.mem_cons.mp e with q|q
   .rwa [q]
   .exact c m q
  have j:m<=r.foldl min x:=by
   rcases a with q|q
   .rw[q];exact d x aE
   .exact d _ (jJ _ q)
  lia
def oP (h:ns≠[]):vk ns∈ns/\∀ y∈ns,vk ns<=y:=by
 cases ns with
 |nil=>exact absurd rfl h
 | cons x r =>
  refine kc (lj r x) λa b c=>⟨?_,λy d=>?_⟩
  .rcases a with q | q
   .show r.foldl min x∈_;rw[q];exact aE
   .exact jJ _ q
  .rcases List.mem_cons.mp d with q | q
   .rwa [q]
   .exact c y q
def iH (T:Nat->Nat->Int)(i j:Nat):az Int:=(List.range<|j - abe).filterMap λx=>if 0<T i (i+1+x)*T (i+1+x) j then some (T i (i+1+x)+T (i+1+x) j)else none
def iZ {T:Nat->Nat->Int}{i j:Nat}{v:Int}:v∈iH T i j↔∃ k,i<k/\k<j/\0<T i k*T k j/\v=T i k+T k j:=by
 delta iH;rw[List.mem_filterMap];constructor
 .rintro⟨x,d,e⟩;rw[c3]at d;split at e
  .cases e;exact⟨i+1+x,(aU _ _),by lia,by assumption,rfl⟩
  .cases e
 .rintro⟨k,y,u,q,rfl⟩;refine⟨k - abe,List.mem_range.mpr<|by lia,?_⟩;rw[show i+1+(k - abe)=k by lia,aF q]
def iG (es own:az Int)(T:Nat->Nat->Int)(i j:Nat):Int:=if j<=i then 0 else if es.getD j 0<=own.getD i 0 then 1 else vk (iH T i j)
def iK (es:az Int)(ts:az Tk):Nat->Nat->Nat->Int
 |0=>λ_ _=>0
 |a+1=>iG es (ip es ts a) (iK es ts a)
def LW {es own:az Int}{T:Nat->Nat->Int}(h:∀ i j,0<=T i j/\T i j<=((j - i:Nat):Int))(i j:Nat):0<=iG es own T i j/\iG es own T i j<=((j - i:Nat):Int):=by
 delta iG;split
 .lia
 .split
  .lia
  .by_cases hn:iH T i j=[]
   .rw[hn];show(0:Int)<=0/\(0:Int)<=_;lia
   .refine si (iZ.mp (oP hn).1) λk u q d e=>?_;have a:=h i k;have b:=h k j;lia
theorem pP (es:az Int)(ts:az Tk):∀ a i j,0<=iK es ts a i j/\iK es ts a i j<=((j - i:Nat):Int)
 |0,i,j=>by show(0:Int)<=0/\(0:Int)<=_;lia
 |a+1,i,j=>LW (pP es ts a) i j
def J3:jo:=λq e K=>dM [.l,.l,.l] q λb o l=>∃(d own:az Int) (T:Nat->Nat->Int),b=d.map D.int/\o=own.map D.int/\own.length=d.length/\d≠[]/\d.length<=2000/\((l=[]/\T=λ_ _=>0)\/l=ja d.length T)/\(∀ i j,0<=T i j/\T i j<=((j - i:Nat):Int))/\K (.lst<|ja d.length<|iG d own T) e
def lG (S:Nat->Nat->Int)(i j:Nat)(a b:Nat):Int:=if a<i\/(a=i/\b<j)then S a b else 0
def oI (L:Nat)(T:Nat->Nat->Int)(g:MS):Prop:=g.length=L/\∀ a,a<L->g[a]?=some (.lst<|hI L<|T a)
def jr {L:Nat}{f:Nat->Int}{j:Nat}(h:j<L):(hI L f)[j]?=some (.int<|f j):=by delta hI;rw[mD,bP h];rfl
def kK (L:Nat)(f:Nat->Int):(hI L f).length=L:=by delta hI;rw[fI,xr]
def kH {L:Nat}{T:Nat->Nat->Int}{j:Nat}(h:j<L):(ja L T)[j]?=some (.lst<|hI L<|T j):=by delta ja;rw[mD,bP h];rfl
def jK (L:Nat)(f:Nat->Nat->Int):(ja L f).length=L:=by delta ja;rw[fI,xr]
def HV {L:Nat}{f:Nat->Int}{j:Nat}{v:Int}(h:j<L):(hI L f).set j (.int v)=hI L (λb=>if b=j then v else f b):=by
 apply cG;intro b;by_cases hb:b<L
 .rw[jr hb];by_cases e:b=j
  .subst e;rw[aV (by rw[kK];exact h),aF rfl]
  .rw[aK (bB e),jr hb,aD e]
 .rw[List.getElem?_eq_none_iff.mpr (by rw[ba,kK];lia),List.getElem?_eq_none_iff.mpr (by rw[kK];lia)]
def mw {L:Nat}{f g:Nat->Int}(h:∀ j,j<L->f j=g j):hI L f=hI L g:=bG λj d=>by rw[h j (List.mem_range.mp d)]
def oI.ext {L:Nat}{T d:Nat->Nat->Int}{g:MS}(h:oI L T g)(e:∀ i j,i<L->j<L->T i j=d i j):oI L d g:=⟨h.1,λa ha=>by rw[h.2 a ha,mw (λj q=>e a j ha q)]⟩
def oI.put {L:Nat}{T:Nat->Nat->Int}{g:MS}(h:oI L T g){i j:Nat}(q:i<L)(d:j<L)(v:Int):oI L (λa b=>if a=i/\b=j then v else T a b) (g.set i<|.lst<|(hI L<|T i).set j<|.int v):=by
 refine⟨by rw[ba];exact h.1,λa ha=>?_⟩;by_cases e:a=i
 .subst e;rw[aV (h.1▸q),HV d];congr 2;apply mw;intro b _;simp
 .rw[aK (bB e),h.2 a ha];congr 2;apply mw;intro b _;simp[e]
def DF {g:MS}:(μ++g).set (μ.length+i) m=μ++g.set i m:=by rw[dE _ _ (aU _ _),cw]
def Je (h:g[i]?=some (.lst ds)):wm (μ++g) (μ.length+i)=some ds:=fT (by rwa [lQ (aU _ _),cw])
theorem iM:∀ {ds:az D},(∀ d∈ds,sW n d)->nO n ds
 |[],_=>by trivial
 |d::ds,h=>⟨h d aE,iM λx e=>h x<|jJ _ e⟩
def Ej (L:Nat)(f:Nat->Int):sW n (.lst<|hI L f):=iM λd hd=>by obtain⟨i,_,rfl⟩:=List.mem_map.mp hd;exact trivial
def Ei (L:Nat)(f:Nat->Nat->Int):sW n (.lst<|ja L f):=iM λd hd=>by obtain⟨i,_,rfl⟩:=List.mem_map.mp hd;exact Ej L _
def L1 {n:Nat}(L:Nat)(f:Nat->Int)(h:L<=100000):uP (n+1) (.lst<|hI L f):=pR (by rwa [kK]) λd hd=>by obtain⟨i,_,rfl⟩:=List.mem_map.mp hd;exact jC
def yg {n:Nat}(L:Nat)(f:Nat->Nat->Int)(h:L<=100000):uP (n+2) (.lst<|ja L f):=pR (by rwa [jK]) λd hd=>by obtain⟨i,_,rfl⟩:=List.mem_map.mp hd;exact L1 L _ h
def qh.self (h:∀ d∈ds,R d d):qh R ds ds:=⟨rfl,λi a b e1 e=>by rw[e1]at e;cases e;exact h a<|lH e1⟩
def Nc {n L:Nat}{T:Nat->Nat->Int}{μ g:MS}(hn:n=μ.length)(h:oI L T g):vX n (μ++g) 2 (.lst<|(List.range L).map λi=>.mr<|n+i) (.lst<|ja L T):=by
 refine .inr (.inr<|.inl ⟨_,_,rfl,rfl,by rw[fI,xr,jK],λi a b e1 q=>?_⟩);have e:i<L:=by have:=(jA q).1;rwa [jK]at this
 rw[kH e]at q;rw[mD,bP e]at e1;cases e1;cases q;refine .inr (.inl ⟨n+i,_,_,rfl,(aU _ _),hn▸jT (Je<|h.2 i e),rfl,qh.self λd hd=>?_⟩);obtain⟨j,_,rfl⟩:=List.mem_map.mp hd;exact⟨rfl,trivial⟩
def EJ {n:Nat}{ds:az D}{μ:MS}{K:DK}(hb:sW 0 (.lst ds))(hs:uP (n+1) (.lst ds))(k:K (.bl<|!ds.isEmpty) μ):Vp (n+1) true (.lst ds) (.lst []) μ K:=by
 refine⟨0,_,_,⟨rfl,hb⟩,⟨rfl,iM λd hd=>nomatch hd⟩,DD hs,trivial,rfl,?_⟩;cases ds with
 |nil=>exact k
 |cons d ds=>exact k
inductive Yx where
 |num (n:Int)
 |tri (p:Int) (l r:Yx)
def Jq (a b:Tk)(p:Int):Tk:=(a.1.take p.toNat++b.1.drop p.toNat,max a.2 b.2+1)
def Yx.val (ts:az Tk):Yx->Tk
 |.num n=>(ts[n.toNat]?).getD ([],0)
 |.tri p l r=>Jq (l.val ts) (r.val ts) p
def EG:jo:=λe d K=>match e with
 |[.tup [.str z,.int a],.tup [.str y,.int b],.int p]=>∃ x u:Tk,z=txt x.1/\a=x.2/\y=txt u.1/\b=u.2/\0<=p/\x.1.length<=1000/\u.1.length<=1000/\K (iI<|Jq x u p) d
 |_=>False
section
variable {z TI TO i1 i2 l1 l2:au}
def LJ {k:Nat}{Q:av->ar->Prop}(D:ZipApart z TI TO i1 i2 l1 l2)(Z:ZZ false z TI TO i1 i2 l1 l2 k s.heap)(q1:jf false s.heap l1 xs)(q2:jf false s.heap l2 ys)(j:xs[k]?=some x)(e:ys[k]?=some y)
 (q:∀ h',ZZ false z TI TO i1 i2 l1 l2 (k+1) h'->IsPair h' s.heap.objs.size x y->h'.objs.size=s.heap.objs.size+1->ZK z TO i1 i2 s.heap h'->Q ZV {s with heap:=h'}):
 wpAny Zw A (Builtin.SmallTypes.nextOf<|.ref z) Q E s:=by
 have ty:s.TypeIs (.ref z) "zip":=let ⟨_,_,_,_,h,_⟩:=Z;⟨_,h,rfl⟩
 exact fj (bW ty du<|cy du ty F.entry_zip_next (Dj D Z q1 q2 j e λh' a _ _ b c d=>aC<|q h' a b c d)<|F.args_zip_next_1 _)
def Pj {k:Nat}{Q:av->ar->Prop}(hh:A.handled=none)(D:ZipApart z TI TO i1 i2 l1 l2)(Z:ZZ false z TI TO i1 i2 l1 l2 k s.heap)(q1:jf false s.heap l1 xs)(q2:jf false s.heap l2 ys)(d:xs[k]?=none\/ys[k]?=none)
 (j:∀ h' e,ZK z TO i1 i2 s.heap h'->ZS->E (.ref e) {s with heap:=h'}):
 wpAny Zw A (Builtin.SmallTypes.nextOf<|.ref z) Q E s:=by
 have ty:s.TypeIs (.ref z) "zip":=let ⟨_,_,_,_,h,_⟩:=Z;⟨_,h,rfl⟩
 exact fj (bW ty du<|cy du ty F.entry_zip_next (Dk hh D Z q1 q2 d j)<|F.args_zip_next_1 _)
def Ka {e:au}{i:Nat}{old:av}{Q:av->ar->Prop}(D:ZipApart z TI TO i1 i2 l1 l2)(he:IsEnum s.heap e z i old)(Z:ZZ false z TI TO i1 i2 l1 l2 i s.heap)(ne:e∉[z,TI,TO,i1,i2])(q1:jf false s.heap l1 xs)(q2:jf false s.heap l2 ys)(hx:xs[i]?=some x)(hy:ys[i]?=some y)
 (hQ:∀ h1 h2 tk,IsPair h1 s.heap.objs.size x y->h1.objs.size=s.heap.objs.size+1->(∀ b o,b∉[z,TO,i1,i2]->s.heap.get? b=some o->h1.get? b=some o) ->
   IsEnumOut h2 e z ((i:Int)+1) ZV Zy->ZZ false z TI TO i1 i2 l1 l2 abe h2->IsPair h2 Zy (.int i tk) ZV->(∀ b o,b≠e->h1.get? b=some o->h2.get? b=some o)->Q (.ref<|s.heap.objs.size+1) {s with heap:=h2,toks:=tk+1}):
 wpAny Zw A (Builtin.«enumerate.__next__» ⟨[.ref e],[]⟩) (λfin s'=>∃ v,fin=.done (.ret v)/\Q v s') E s:=by
 obtain⟨I,g,d,tk,os⟩:=s;show wpAny _ _ (field (.ref e) 2>>=_) _ _ _;refine fj<|bh he rfl (x:=.ref z) rfl ?_;have elt:e<I.objs.size:=ic he;refine fj (LJ D Z q1 q2 hx hy λj Z₁ hT₁ C hk₁=>?_);replace hT₁:IsPair j I.objs.size x y:=hT₁;replace C:j.objs.size=I.objs.size+1:=C;simp only[bq,a7,ck,not_or]at ne;refine Kh ne λn1 n2 n3 n4 n5=>?_;have he₁:IsEnum j e z i old:=hk₁ e _ n1 n3 n4 n5 he;refine fj<|bh he₁ rfl (x:=rawInt i) rfl ?_;show wpAny _ _ (field (.ref e) 4>>=_) _ _ ⟨j,g,d,tk,os⟩;refine fj<|bh he₁ rfl (x:=.none) rfl ?_;show wpAny _ _ (mkInt i>>=_) _ _ ⟨j,g,d,tk,os⟩;refine fj (wpAny_mkInt<|fj<|bS he₁ ZN λh₂ Y G=>?_);replace G:Heap.SameBut e j h₂:=G;replace Y:IsEnum h₂ e z ((i:Int)+1) old:=Y;show wpAny _ _ (setField (.ref e) 4 .none>>=_) _ _ ⟨h₂,g,d,tk+1,os⟩;refine fj (bS Y ZN λu X F=>?_);replace F:Heap.SameBut e h₂ u:=F;replace X:IsEnum u e z ((i:Int)+1) old:=X;refine fj<|wpAny_newTuple ?_;have H:IsEnum (u.push { cls:=.type "tuple",data:=.seq #[.int i tk,.ref I.objs.size]}) e z ((i:Int)+1) old:=iU _ X;have hsz:u.objs.size=I.objs.size+1:=by rw[F.1,G.1,C]
 have ht₄:(u.push { cls:=.type "tuple",data:=.seq #[.int i tk,.ref I.objs.size]}).get? (I.objs.size+1)=some { cls:=.type "tuple",data:=.seq #[.int i tk,.ref I.objs.size]}:=hsz▸aL _ rfl;have O:∀ b o,b≠e->j.get? b=some o->(u.push { cls:=.type "tuple",data:=.seq #[.int i tk,.ref I.objs.size]}).get? b=some o:=λb o hb eo=>iU _<|F.extBut b o hb<|G.extBut b o hb eo;generalize u.push { cls:=.type "tuple",data:=.seq #[.int i tk,.ref I.objs.size]}=h₄ at H ht₄ O;rw[hsz];refine fj ?_;delta Builtin.SmallTypes.ownedTupleIsFree;refine fj<|bh H rfl (x:=.none) rfl (aC ?_);simp only[d7];refine fj (ew<|fj<|bh H rfl (x:=old) rfl (fj<|bS H ZN λh₅ W M=>?_));replace M:Heap.SameBut e h₄ h₅:=M;replace W:IsEnum h₅ e z ((i:Int)+1) (.ref I.objs.size):=W;refine fj ?_;delta Builtin.SmallTypes.ownedTupleHandOut;refine fj (bS W ZN λh₆ U L=>?_);replace L:Heap.SameBut e h₅ h₆:=L;replace U:IsEnumOut h₆ e z ((i:Int)+1) (.ref I.objs.size) (I.objs.size+1):=U;refine bS U ZN λh₇ P J=>?_;replace J:Heap.SameBut e h₆ h₇:=J;replace P:IsEnumOut h₇ e z ((i:Int)+1) (.ref I.objs.size) (I.objs.size+1):=P;have W9:∀ b o,b≠e->h₄.get? b=some o->h₇.get? b=some o:=λb o hb eo=>J.extBut b o hb<|L.extBut b o hb<|M.extBut b o hb eo;refine fj (dc<|aC ⟨_,rfl,hQ j h₇ tk hT₁ C (λb o hb eo=>hk₁ b o (λq=>hb<|by simp[q]) (λq=>hb<|by simp[q]) (λq=>hb<|by simp[q]) (λq=>hb<|by simp[q]) eo) P ?_ ?_ λb o hb eo=>W9 b o hb<|O b o hb eo⟩)
 .refine Z₁.keep λb hb o eo=>W9 b o ?_ (O b o ?_ eo)<;>
  .intro q;subst q;simp only[bq,a7,ck]at hb;rcases hb with q|q|q|q|q
   .exact n1 q
   .exact n2 q
   .exact n3 q
   .exact n4 q
   .exact n5 q
 .exact W9 (I.objs.size+1) _ (bD<|bw elt) ht₄
end
def vJ (z TI TO:au):
 Meets (Builtin.«enumerate.__new__» ⟨[.type "enumerate",.ref z],[]⟩) (λ_ R s=>IsZip s.heap z TI TO .none /\
  R (.ok<|.ret<|.ref s.heap.objs.size) {s with heap:=s.heap.push { cls:=.type "enumerate",data:=.fields #[.none,.bool false,.ref z,rawInt 0,.none,.none]}}):=
 .of_wp λprog w A R s h=>by
  obtain⟨C,g,d,tk,os⟩:=s;obtain⟨u,h⟩:=h;have q:=sub_enumerate;have j:=u;wp_walk using cW j;refine wpAny_stack_any λy=>aC ?_;split
  .rename_i c _ _ _ _ _;cases(c==Value.type "enumerate")
   .wp_walk using cW j;exact⟨_,rfl,h⟩
   .wp_walk using cW j;exact⟨_,rfl,h⟩
  .wp_walk using cW j;exact⟨_,rfl,h⟩
def qc {z TI TO:au}{Q:av->ar->Prop}(hz:IsZip s.heap z TI TO .none)
 (h:∀ h',IsEnum h' s.heap.objs.size z 0 .none->h'.objs.size=s.heap.objs.size+1->(∀ b o,s.heap.get? b=some o->h'.get? b=some o)->Q ZV {s with heap:=h'}):
 wpAny Zw A (call (.type "enumerate") [.ref z]) Q E s:=by
 refine callType_new F.called_enumerate rfl (F.typeCall_enumerate_1 _) (F.newCall_enumerate_1 _) (λobj=>F.args_object_init_2 obj _) F.entry_enumerate_new (vJ z TI TO) ⟨hz,?_⟩;have d:IsEnum (s.heap.push { cls:=.type "enumerate",data:=.fields #[.none,.bool false,.ref z,rawInt 0,.none,.none]}) s.heap.objs.size z 0 .none:=aL _ rfl;exact⟨⟨_,d,rfl⟩,h _ d (by rw[bz]) λb o x=>iU _ x⟩
def VM (l1 l2:au):It :=
 ⟨λi H=>∃ j d x y,H l1=some (.lst j)/\H l2=some (.lst d)/\j[i]?=some x/\d[i]?=some y,
  λi H v C=>∃ q u x y,v=.ref u/\H q=none/\(upd H q<|.tup [x,y]) u=none/\C=upd (upd H q<|.tup [x,y]) u (.tup [.int i,.ref q])/\(∀ j,H l1=some (.lst j)->j[i]?=some x)/\(∀ d,H l2=some (.lst d)->d[i]?=some y),
  λi H=>∃ j d,H l1=some (.lst j)/\H l2=some (.lst d)/\(j.length<=i\/d.length<=i)⟩
theorem kZ.upd {X:Cx}{aa:az ZE}{H:Hp}{b T:au}{o:HO}(f:kZ X aa H b)(h:b≠T):kZ X aa (upd H T o) b:=⟨by rw[fB h];exact f.1,f.2⟩
def BH {P:ak}{w:ao}{K:aj}{elts:az Expr}{kk:Nat}{kQ:Pos}{e z TI TO L i2 l1 l2:au}(D:ZipApart z TI TO L i2 l1 l2)(ne:e∉[z,TI,TO,L,i2]):
 Turn P w K aan (VM l1 l2) [e,z,TI,TO,L,i2] e (λi h=>(∃ old,IsEnum h e z i old)/\ZZ false z TI TO L i2 l1 l2 i h) where
 mem:=by simp
 obj:=λi h C b hb=>by
  obtain⟨⟨old,j⟩,f,bb,a,b',J,h2,O,h4,h5,h6⟩:=C;simp only[bq,a7,ck]at hb;rcases hb with rfl|rfl|rfl|rfl|rfl|rfl
  .exact⟨_,j,λv q=>by cases q⟩
  .exact⟨_,J,λv q=>by cases q⟩
  .exact⟨_,O,λv q=>by cases q⟩
  .exact⟨_,h4,λv q=>by cases q⟩
  .exact h5.data
  .exact h6.data
 keep:=λi h h' C k=>by obtain⟨⟨old,j⟩,Z⟩:=C;exact⟨⟨old,k e ZN _ j⟩,Z.keep λb hb o Q=>k b (jJ _ hb) o Q⟩
 item:=by
  intro X hP hw hK hc i G s σ H E I Y C hg;subst hP hw hK;obtain⟨⟨old,j⟩,Z⟩:=C;refine fL hg λxs ys x y q1 q2 ex ey=>?_;let ⟨_,us,n1,r1,_,p1⟩:=I.j9 q1;let ⟨_,ws,n2,r2,_,p2⟩:=I.j9 q2;refine eU (r1.get ex) λu eu ru=>eU (r2.get ey) λv ev rv=>?_;have s1:jf false s.heap l1 us.toArray:=⟨_,p1,rfl,n1,rfl⟩;have s2:jf false s.heap l2 ws.toArray:=⟨_,p2,rfl,n2,rfl⟩;have hT:s.TypeIs (.ref e) "enumerate":=⟨_,j,rfl⟩;have d:∀ b∈[e,z,TI,TO,L,i2],b<s.heap.objs.size:=λb hb=>by
   refine sh Z λf bb a b' J h2 O h4 h5 h6=>?_;simp only[bq,a7,ck]at hb;rcases hb with rfl|rfl|rfl|rfl|rfl|rfl
   .exact ic j
   .exact ic J
   .exact ic O
   .exact ic h4
   .obtain⟨o,q⟩:=h5.ex;exact ic q
   .obtain⟨o,q⟩:=h6.ex;exact ic q
  unfold pyNext;refine fj (wpAny_attempt<|bW (name:=Str.ofString "__next__") hT dF<|cy dF hT F.entry_enumerate_next (Ka D j Z ne s1 s2 (x:=u) (y:=v) (by simpa using eu) (by simpa using ev) λJ h2 tk hT1 U fr1 ho2 Z2 Xz fr2=>aC ?_)<|F.args_enumerate_next_1 _);refine⟨_,rfl,wpAny_letOwnedTupleGo_enum ho2 λO he3 M=>?_⟩;have I1:Inv X G σ (upd H s.heap.objs.size<|.tup [x,y]) { s with heap:=J}:=I.wU (ch:=[z,TO,L,i2]) (h'':=J) (λb hb=>Y b (by
   simp only[bq,a7,ck]at hb ⊢
   rcases hb with q|q|q|q<;>simp[q])) fr1 hT1 ru rv
  have elt:=d e ZN;have en:e≠s.heap.objs.size+1:=aN<|bw elt;have hT3:IsPair O Zy (.int i tk) (.ref s.heap.objs.size):=M.extBut _ _ (bB en) Xz;have I2:=I1.wU (ch:=[e]) (h'':=O) (x:=.int i) (y:=.ref s.heap.objs.size) (u:=.int i tk) (v:=.ref s.heap.objs.size) (λb hb=>by
   rw[List.mem_singleton.mp hb]
   exact(Y e<|by simp).upd<|aN elt) (λb o hb Q=>M.extBut b o (λq=>hb<|by simp[q])<|fr2 b o (λq=>hb<|by simp[q]) Q) (by show IsPair O J.objs.size _ _;rw[U];exact hT3) ⟨tk,rfl⟩ rfl
  have hn1:H s.heap.objs.size=none:=I.fO.fresh<|aB _;have hn2:(upd H s.heap.objs.size<|.tup [x,y]) Zy=none:=by rw[fB (Nat.succ_ne_self _)];exact I.fO.fresh (dH _)
  have I3:=I2.tok<|tk+1;have e1:(({s with heap:=J}:ar).heap.objs.size)=s.heap.objs.size+1:=U;rw[e1]at I3;refine⟨.ref<|s.heap.objs.size+1,_,I3,rfl,⟨_,_,x,y,rfl,hn1,hn2,rfl,λzs q=>by rw[q1]at q;cases q;exact ex,λzs q=>by rw[q2]at q;cases q;exact ey⟩,⟨⟨_,by simpa using he3⟩,Z2.keep λb hb o Q=>M.extBut b o (λq=>ne<|q▸hb) Q⟩,λb hb=>?_⟩;have:=d b hb;rw[fB (aN<|bw this),fB (aN this)];exact(Y b hb).1
 done:=by
  intro X hP hw hK hc i G s σ H E I Y C hg;subst hP hw hK;obtain⟨⟨old,j⟩,Z⟩:=C;refine fw hg λxs ys q1 q2 hx=>?_;obtain⟨_,us,n1,r1,ll1,p1⟩:=I.j9 q1;obtain⟨_,ws,n2,r2,ll2,p2⟩:=I.j9 q2;have s1:jf false s.heap l1 us.toArray:=⟨_,p1,rfl,n1,rfl⟩;have s2:jf false s.heap l2 ws.toArray:=⟨_,p2,rfl,n2,rfl⟩;have hT:s.TypeIs (.ref e) "enumerate":=⟨_,j,rfl⟩;unfold pyNext;refine fj<|wpAny_attempt<|bW (name:=Str.ofString "__next__") hT dF<|cy dF hT F.entry_enumerate_next ?_<|F.args_enumerate_next_1 _;show wpAny _ _ (field (.ref e) 2>>=_) _ _ _;refine fj (bh j rfl (x:=.ref z) rfl (fj<|Pj aaQ D Z s1 s2 (by simp only[List.getElem?_toArray,List.getElem?_eq_none_iff];lia) λh' x hk Xi=>?_));refine eU Xi λo ho hcl=>fj<|wpAny_isInstance (T:= "StopIteration") (b:=true) ⟨o,ho,hcl⟩ isSubtype_stop ?_;refine aC ⟨rfl,I.zI (ch:=[z,TO,L,i2]) (λb hb=>Y b (by
   simp only[bq,a7,ck]at hb ⊢
   rcases hb with q|q|q|q<;>simp[q])) λb o hb Q=>hk b o (λq=>hb<|by simp[q]) (λq=>hb<|by simp[q]) (λq=>hb<|by simp[q]) (λq=>hb<|by simp[q]) Q⟩
 self:=λ_ _ _ _ _ C h=>let ⟨⟨_,e⟩,_⟩:=C;eL e h
def Q4 (C:TA):TI:=λj H R=>C j H λy d=>match y with
 |[.ref l1,.ref l2]=>∃ u q,d l1=some (.lst u)/\d l2=some (.lst q)/\R (VM l1 l2) d
 |_=>False
def Iq {elts:az Expr}{kk:Nat}{kQ y j:Pos}{ta:TA}{p:Pos}(hg:Gl X "enumerate")(hm:X.mg "enumerate"=none)(Z:Gl X "zip")(Y:X.mg "zip"=none)(ha:PA X [a,b] ta)(hs:starEach [a,b] X.env=[(false,eval a X.env),(false,eval b X.env)]:=by rfl)(yJ:starEach [b] X.env=[(false,eval b X.env)]:=by rfl)
 (MT:starEach [.Call (.Name "zip" y) [a,b] [] j] X.env=[(false,eval (.Call (.Name "zip" y) [a,b] [] j) X.env)]:=by rfl):
 PI X aan (.Call (.Name "enumerate" p) [.Call (.Name "zip" y) [a,b] [] j] [] pos) (Q4 ta):=by
 intro u s σ H R I h;refine Call_ (ku I hg hm (show bootBuiltins "enumerate"=some (.type "enumerate") by decide +kernel)<|bA ?_ MT rfl);rw[MT];show wpAny _ _ (spliced<|(false,eval (.Call (.Name "zip" y) [a,b] [] j) X.env)::backTo pos []) _ _ s;refine dt (Call_<|ku I Z Y boot_zip<|bA (gc (ha j u s σ H _ I h) λus d OM=>?_) (by rw[hs,yJ]) (by rw[yJ];rfl));obtain⟨vs,H1,J,r1,q1⟩:=OM;try dsimp only at q1
 split at q1
 .rename_i l1 l2;obtain⟨xs,ys,h1,h2,q⟩:=q1;refine fw r1.two λu1 u2 P e1 e2=>?_;subst P;subst e1;subst e2;obtain⟨_,i1,n1,v1,_,p1⟩:=J.j9 h1;obtain⟨_,i2,n2,v2,_,y⟩:=J.j9 h2;have O:jf false d.heap l1 i1.toArray:=⟨_,p1,rfl,n1,rfl⟩;have M:jf false d.heap l2 i2.toArray:=⟨_,y,rfl,n2,rfl⟩;have U:l1<d.heap.objs.size:=ic p1;have Q:l2<d.heap.objs.size:=ic y;refine uB O M λG W Xy Xx m1 m2 kp=>dG (qc (s:={ d with heap:=G}) W λh'' he hsz C=>eL he ?_);have L:d.heap.objs.size+4<G.objs.size:=ic W;have I2:Inv X u σ H1 { d with heap:=h''}:=J.af (t':=d.toks) λb o eo=>C b o<|kp b o eo;have Z0:ZZ false (d.heap.objs.size+4) (d.heap.objs.size+2) (d.heap.objs.size+3) d.heap.objs.size (d.heap.objs.size+1) l1 l2 0 G:=⟨_,_,_,_,W,.inl rfl,Xy,Xx,m1,m2⟩;have ne:G.objs.size∉[d.heap.objs.size+4,d.heap.objs.size+2,d.heap.objs.size+3,d.heap.objs.size,d.heap.objs.size+1]:=by simp only[bq,a7,ck];lia
  refine⟨G.objs.size,_,_,_,H1,rfl,I2,BH (zipApart_new U Q) ne,⟨⟨_,he⟩,Z0.keep λb _ o eo=>C b o eo⟩,λb hb=>?_,q⟩;have F:d.heap.objs.size<=b:=by
   simp only[bq,a7,ck]at hb;rcases hb with q|q|q|q|q|q
   .rw[q];exact df (cx (aU _ 4) L)
   .rw[q];exact aU _ _
   .rw[q];exact aU _ _
   .rw[q];exact aU _ _
   .rw[q];exact aB _
   .rw[q];exact aU _ _
  exact J.wz F (J.fO.fresh F)
 .exact q1.elim
def Vl (w:DA):DI:=λC F K=>w C F λG d=>match G with
 |[x,y]=>opt (lv d x) λu=>opt (lv d y) λq=>K (nA<|List.zipWith aab u q) (λj=>lc x u j/\lc y q j) d
 |_=>False
def MQ {elts:az Expr}{kk:Nat}{kQ p2 C:Pos}{w:DA}{p:Pos}(hg:Gl X "enumerate")(hm:X.mg "enumerate"=none)(Xq:Gl X "zip")(Xo:X.mg "zip"=none)(ha:rO X [a,b] w)(hs:starEach [a,b] X.env=[(false,eval a X.env),(false,eval b X.env)]:=by rfl)(yJ:starEach [b] X.env=[(false,eval b X.env)]:=by rfl)
 (MT:starEach [.Call (.Name "zip" p2) [a,b] [] C] X.env=[(false,eval (.Call (.Name "zip" p2) [a,b] [] C) X.env)]:=by rfl):
 Bt X aan (.Call (.Name "enumerate" p) [.Call (.Name "zip" p2) [a,b] [] C] [] pos) (Vl w):=(Iq hg hm Xq Xo ha hs yJ MT).imp λσ H Q h_=>fL h_ λφ ρ μ K A M k L=>by
 refine⟨φ,ρ,μ,_,A,M,k,λds Od G9 vs H1 G f1 M1 i1=>?_⟩;split at G
 .rename_i x y;refine eU (fS G) λxs ex G=>eU (fS G) λys ey G=>?_;obtain⟨v,r,rfl,h1,u,r',rfl,h2,h3⟩:=i1;cases(show r'=[]from h3);refine fw (jv M1 h1 ex) λp1 Y j Uz ax=>?_;subst j;refine fw (jv M1 h2 ey) λp2 W j Uy ay=>?_;subst j;refine⟨Y,W,Uz,Uy,L _ _ Od G9 _ H1 G f1 M1 λF H' μ' f M' c i=>eU (oQ M1 h1 ex f M' c.1) λY hx ax=>eU (oQ M1 h2 ey f M' c.2) λW hy ay=>?_⟩;have lx:=ax.len;have ly:=ay.len;refine⟨λd hd=>?_,λhi=>⟨Y,W,hx,hy,by rw[oR,bO]at hi;lia⟩⟩;refine eU (xA hd) λq I j=>?_;subst j;rw[bU]at I;cases e1:xs[i]? with
  |none=>rw[e1]at I;cases I
  | some dx =>
   cases e2:ys[i]? with
   |none=>rw[e1,e2]at I;cases I
   | some dy =>rw[e1,e2]at I;cases I;refine eU (ax.get e1) λv1 g1 j1=>eU (ay.get e2) λZ g2 j2=>⟨⟨Y,W,v1,Z,hx,hy,g1,g2⟩,λz SS hy'=>sh hy' λU T2 x' y' j O J r1_ q1 q2=>?_⟩;subst j;subst r1_;have c1:=q1 Y hx;have c2:=q2 W hy;rw[g1]at c1;cases c1;rw[g2]at c2;cases c2;have P:=Fr.new (φ:=F) (o:=.tup [v1,Z]) O;have Zm:=M'.same<|gm.upd (o:=.tup [v1,Z]) O;have Y6:=Fr.new (φ:=F) (o:=.tup [.int i,.ref U]) J;have M2':=Zm.same<|gm.upd (o:=.tup [.int i,.ref U]) J;have d1:il F (upd H' U<|.tup [v1,Z]) (.tup [dx,dy]) (.ref U):=⟨U,_,rfl,M'.fresh O,eZ,v1,_,rfl,j1.mono P,Z,_,rfl,j2.mono P,rfl⟩;exact⟨P.trans Y6,M2',T2,_,rfl,Zm.fresh J,eZ,.int i,_,rfl,rfl,.ref U,_,rfl,d1.mono Y6,rfl⟩
 .exact G.elim
def Oz:az V->Hp->VK->Prop:=λd H Q=>∃ i j k,d=[.int i,.int j,.int k]/\Q (.int<|min i<|min j k) H
def Ue (F:X.fU=true):h9 X (.builtin "min") Oz:=by
 intro y s G H J L Q I r h;obtain⟨i,j,k,rfl,h⟩:=h;cases r with
 | cons E C =>
  obtain⟨u,v,rfl,⟨O,rfl⟩,⟨M,rfl⟩⟩:=fF.two C;obtain⟨P,rfl⟩:=E;refine min_three_ints (I.ok.hd F) λU tk kp=>⟨_,H,I.af kp,?_,h⟩;by_cases q:j<i
  .by_cases d:k<j
   .rw[aF q,aF d,show min i (min j k)=k by lia];exact⟨_,rfl⟩
   .rw[aF q,aD d,show min i (min j k)=j by lia];exact⟨_,rfl⟩
  .by_cases d:k<i
   .rw[aD q,aF d,show min i (min j k)=k by lia];exact⟨_,rfl⟩
   .rw[aD q,aD d,show min i (min j k)=i by lia];exact⟨_,rfl⟩
def UP:jo:=λq d K=>dM [.i,.i,.i] q λi j k=>K (.int<|min i<|min j k) d
def LY:kz Oz UP:=λE H G J F K Q M h k L=>by obtain⟨_,_,_,rfl,k⟩:=dJ k;obtain⟨v,r,rfl,C,u,I,rfl,y,w,d,rfl,q,j⟩:=h;cases j;cases C;cases y;cases q;exact⟨_,_,_,rfl,L.val M k rfl⟩
def Vq:De:=λ_ d K=>K (.mr d.length) (d++[.gP [] []])
def y8:PD X (.Dict [] [] pos) Vq:=IA.imp λy H Q j=>fL j λu C E K A M k L=>λp d=>by obtain⟨q,f⟩:=M.snoc (m:=.gP [] []) d ⟨[],[],eZ,rfl,rfl,rfl⟩;exact L _ _ _ _ _ k f q ⟨p,by rw[lQ (M.len▸aB _),M.len,bc];rfl,rfl⟩
def Vu (w G H:De):Ds:=λN q F=>w q F λd C=>G q C λo y=>H q y λi j=>match o with
 |.mr k=>∃ u E,j[k]?=some (.gP u E)/\u.length<sizeLine/\opt (mC i) λkk=>kk∉u/\N.nx q (j.set k<|.gP (u++[kk])<|E++[d])
 |_=>False
def PY (hu:X.A.units+1<cLine)(he:PD X e w)(ho:PD X o wo)(hi:PD X i wi)(hs:swapsWith e (some<|.Subscript o i pos') pos.line X.env=pure false:=by rfl):
 vV X (.Assign [.Subscript o i pos'] e pos) (Vu w wo wi):=(D2 hu ho hi he hs).imp λE σ H hq=>by
 refine fL hq λφ C μ N A M w L=>⟨φ,C,μ,_,A,M,w,λd U P u H1 k1 J M1 i1=>⟨P,C,U,_,A.mono J,M1,k1,λd2 Q O v2 H2 k2 I M2 i2=>⟨O,C,Q,_,A.mono<|J.trans I,M2,k2,λd3 Ww q v3 H3 y G M3 i3=>?_⟩⟩⟩;cases d2 with
 | mr k =>
  refine fw y λks ds em hl y=>jF (fS y) λkk ek hn y=>eU (i2.mono G) λp Y W=>?_;subst W;obtain⟨p',e1,j,vs,hv,h1,h2,ha⟩:=M3.at_ k _ em;rw[Y]at e1;cases e1;cases kC ek i3;have Z:(j.any λkv=>decide (kv.1=kk))=false:=by rw[eR];intro kv hkv;rw[cu];intro z;exact hn (by rw[<- h1,<- z];exact List.mem_map_of_mem hkv)
  have ep:putK j kk u=j++[(kk,u)]:=by delta putK;rw[Z];rfl
  have F:Fr q H3 q (upd H3 p<|.dK<|putK j kk u):=.put<|lH Y;refine⟨p,_,rfl,GY.k hv (by rw[<- h1,fI]at hl;exact hl),?_⟩;have M4:=M3.put (k:=k) (p:=p) (m:=.gP (ks++[kk])<|ds++[d]) Y ⟨putK j kk u,vs++[u],eZ,by rw[ep,aM,h1];rfl,by rw[ep,aM,h2];rfl,
   (ha.mono F).app ⟨u,[],rfl,(i1.mono<|I.trans G).mono F,rfl⟩⟩
  exact L.nx C _ q σ _ y ((J.trans<|I.trans G).trans F) (A.mono<|(J.trans<|I.trans G).trans F) M4
 |_=>exact y.elim
def j5 (L:Nat)(i j:Nat):Int:=if j<=i then 0 else(L:Int) - 1
def ow (P:Nat->Nat->Int)(i j:Nat):az Int:=(List.range<|j - abe).map λx=>P i (i+1+x)+P (i+1+x) j+1
def kJ (L:Nat)(es own:az Int)(P:Nat->Nat->Int)(i j:Nat):Int:=if es.getD j 0<=own.getD i 0 then 0 else(ow P i j).foldl min ((L:Int) - 1)
def jb (es:az Int)(ts:az Tk):Nat->Nat->Nat->Int
 |0=>j5 es.length
 |a+1=>kJ es.length es (ip es ts a) (jb es ts a)
def qY {P:Nat->Nat->Int}{i j:Nat}{v:Int}:v∈ow P i j↔∃ k,i<k/\k<j/\v=P i k+P k j+1:=by
 delta ow;rw[List.mem_map];constructor
 .rintro⟨x,d,rfl⟩;rw[c3]at d;exact⟨i+1+x,(aU _ _),by lia,rfl⟩
 .rintro⟨k,u,q,rfl⟩;exact⟨k - abe,List.mem_range.mpr<|by lia,by rw[show i+1+(k - abe)=k by lia]⟩
def Ga {P P':Nat->Nat->Int}{L i j:Nat}(u:i<L)(q:j<L)(h:∀ a b,a<L->b<L->P a b=P' a b):ow P i j=ow P' i j:=by apply bG;intro x d;rw[c3]at d;rw[h i _ u Zs,h _ j Zs q]
def FG {P P':Nat->Nat->Int}{L:Nat}{es own:az Int}{i j:Nat}(q:i<L)(d:j<L)(h:∀ a b,a<L->b<L->P a b=P' a b):kJ L es own P i j=kJ L es own P' i j:=by delta kJ;rw[Ga q d h]
def Lh (L:Nat)(T P:Nat->Nat->Int):Prop:=∀ i j,i<L->j<L->(j<=i->P i j=0)/\(i<j->(T i j=0/\P i j=(L:Int) - 1)\/(1<=T i j/\T i j<=((j - i:Nat):Int)/\P i j=T i j - 1))
def FJ {L:Nat}{es own:az Int}{T P:Nat->Nat->Int}(hs:∀ i j,i<L->j<=i->es.getD j 0<=own.getD i 0)(h:Lh L T P):Lh L (iG es own T) (kJ L es own P):=by
 intro i j O hj;refine⟨λG=>by delta kJ;rw[aF (hs i j O G)],λLH=>?_⟩;delta iG kJ;rw[aD (show ¬ j<=i by lia)];by_cases q:es.getD j 0<=own.getD i 0
 .right;lia
 rw[aD q,aD q];refine kc (lj (ow P i j)<|(L:Int) - 1) λa1 a2 a3=>?_;generalize hm:(ow P i j).foldl min ((L:Int) - 1)=m at a1 a2 a3 ⊢
 have kk:∀ k,i<k->k<j->(0<T i k*T k j/\1<=T i k/\1<=T k j/\T i k+T k j<=((j - i:Nat):Int)/\P i k+P k j+1=T i k+T k j - 1)\/(¬ 0<T i k*T k j/\(L:Int) - 1<P i k+P k j+1):=λk u d=>by
  have x1:=(h i k O<|by lia).2 u;have J:=(h k j Zs hj).2 d;rcases x1 with⟨F,I⟩|⟨F,I,Z⟩
  .right;refine⟨by lia,?_⟩;rcases J with⟨C,E⟩|⟨C,E,Y⟩<;> lia
  .rcases J with⟨C,E⟩ | ⟨C,E,Y⟩
   .right;exact⟨by lia,by lia⟩
   .left;exact⟨Int.mul_pos Zs<|by lia,F,C,by lia,by lia⟩
 by_cases hn:iH T i j=[]
 .left;rw[hn];refine⟨rfl,?_⟩;rcases a1 with e|e
  .exact e
  .exfalso;refine jF (qY.mp e) λk u d e=>?_;rcases kk k u d with⟨y,_⟩|⟨_,y⟩
   .have:=iZ.mpr ⟨k,u,d,y,rfl⟩;rw[hn]at this;cases this
   .lia
 .right;refine gv (oP hn) λW b2=>?_;generalize vk (iH T i j)=t at W b2 ⊢
  refine si (iZ.mp W) λk u d h3 e=>?_;rcases kk k u d with⟨_,F,I,Z,y4⟩|⟨y,_⟩
  .have:=a3 _<|qY.mpr ⟨k,u,d,rfl⟩;refine⟨by lia,by lia,?_⟩;rcases a1 with H|H
   .lia
   .refine jF (qY.mp H) λM U Q H=>?_;rcases kk M U Q with⟨w0,w1,w2,w3,w4⟩|⟨_,w⟩
    .have:=b2 _<|iZ.mpr ⟨M,U,Q,w0,rfl⟩;lia
    .lia
  .exact absurd h3 y
theorem zO (hs:∀ a i j,i<es.length->j<=i->es.getD j 0<=(ip es ts a).getD i 0):∀ a,Lh es.length (iK es ts a) (jb es ts a)
 |0=>λi j q d=>⟨λh=>by show j5 _ i j=0;delta j5;rw[aF h],λh=>.inl ⟨rfl,by show j5 _ i j=_;delta j5;rw[aD Zs]⟩⟩
 |a+1=>FJ (hs a) (zO hs a)
def IH {es:az Int}{ts:az Tk}{a:Int}(h:∀ t∈ts,t.2≠a):ip es ts a=ip es ts (a - 1):=by apply bG;intro e _;rw[jQ,jQ];congr 2;apply List.filter_congr;intro t ht;have:=h t ht;exact decide_eq_decide.mpr ⟨λq=>by lia,λq=>by lia⟩
def IK {es:az Int}{ts:az Tk}{a:Int}(h:∀ t∈ts,a<t.2):ip es ts a=es:=by
 delta ip;have:es.map (jc es ts a)=es.map id:=by
  apply bG;intro e _;rw[jQ];have:(ts.filter λt=>decide (t.2<=a))=[]:=by rw[List.filter_eq_nil_iff];intro t ht;have:=h t ht;lia
  rw[this];rfl
 rw[this,List.map_id]
def getD_some {xs:az Int}(h:i<xs.length):xs[i]?=some (xs.getD i 0):=by rw[aP,iO h];rfl
def Dm {es:az Int}(d:es.Pairwise (·<·))(e:i<es.length)(h:j<=i):es.getD j 0<=es.getD i 0:=qi d j i _ _ h (getD_some<|cx ‹_› ‹_›) (getD_some e)
def IJ {es:az Int}{ts:az Tk}{a:Int}(q:es.Pairwise (·<·))(i j:Nat)(d:i<es.length)(h:j<=i):es.getD j 0<=(ip es ts a).getD i 0:=by have e:=lV (ts:=ts) (a:=a)<|getD_some d;rw[aP (l:=ip es ts a),e];have:=oN es ts a<|es.getD i 0;have:=Dm q d h;show _<=jc es ts a (es.getD i 0);lia
def K3 (C:es.Pairwise (·<·))(d:i<es.length)(u:j<es.length):kJ es.length es es (j5 es.length) i j=j5 es.length i j:=by
 delta kJ;by_cases q:j<=i
 .rw[aF (Dm C d q)];delta j5;rw[aF q]
 .have y:i<j:=by lia
  have:=List.pairwise_iff_getElem.mp C i j d u y
  rw[aD (by
   have e1:=getD_some d
   have F:=getD_some u
   rw[iO d]at e1
   rw[iO u]at F
   lia)]
  refine kc (lj (ow (j5 es.length) i j)<|(es.length:Int) - 1) λa1 a2 a3=>?_
  have E:j5 es.length i j=(es.length:Int) - 1:=by delta j5;rw[aD q]
  rw[E]
  rcases a1 with e|e
  .exact e
  .exfalso;refine jF (qY.mp e) λk H G e=>?_;have I:j5 es.length i k=(es.length:Int) - 1:=by delta j5;rw[aD Zs]
   have b2:j5 es.length k j=(es.length:Int) - 1:=by delta j5;rw[aD Zs]
   lia
def Hq {L:Nat}{T d:Nat->Nat->Int}(h:∀ i j,i<L->j<L->T i j=d i j):ja L T=ja L d:=by apply bG;intro i q;rw[mw λj e=>h i j (List.mem_range.mp q) e]
theorem vL:∀ {xs ys:az D} {i:Nat} {x y:D},o3 xs ys=true->xs[i]?=some x->ys[i]?=some y->rA x y=true
 |[],_,i,_,_,_,e,_=>by contradiction
 |_::_,[],i,_,_,_,_,d=>by cases d
 | x::xs,y::ys,0,_,_,h,e,d=>by unfold o3 at h;rw[bM]at h;simp at e d;subst e;subst d;exact h.1
 | x::xs,y::ys,i+1,_,_,h,e,d=>by unfold o3 at h;rw[bM]at h;exact vL h.2 (by simpa using e) (by simpa using d)
def NC {L:Nat}{S T:Nat->Nat->Int}(h:rA (.lst<|ja L S) (.lst<|ja L T)=true):∀ i j,i<L->j<L->S i j=T i j:=λi j e d=>by have u:=vL h (kH e)<|kH e;have q:=vL u (jr d)<|jr d;exact eq_of_beq q
def JP {k:Nat}(hf:∀ i j,i<es.length->j<es.length->kJ es.length es (ip es ts<|(k:Int) - 1) (jb es ts k) i j=jb es ts k i j)(hn:∀ t∈ts,t.2≠(k:Int))(i j:Nat)(e:i<es.length)(d:j<es.length):jb es ts (k+1) i j=jb es ts k i j:=by show kJ es.length es (ip es ts k) (jb es ts k) i j=_;rw[IH hn];exact hf i j e d
def AG (h:∀ i j,i<es.length->j<es.length->jb es ts (k+1) i j=jb es ts k i j)(i j:Nat)(e:i<es.length)(d:j<es.length):kJ es.length es (ip es ts<|((k+1:Nat):Int) - 1) (jb es ts<|k+1) i j=jb es ts (k+1) i j:=by rw[show((k+1:Nat):Int) - 1=(k:Int) by lia,FG (P':=jb es ts k) e d h];rfl
def Gu {n:Int}{cs:az Int}{ts:az Tk}(S:hU n cs ts)(i j:Nat)(e:i<(ae n cs).length)(d:j<(ae n cs).length):kJ (ae n cs).length Zv (ip Zv ts<|((0:Nat):Int) - 1) (jb Zv ts 0) i j=jb Zv ts 0 i j:=by rw[IK λt ht=>by have:=(S.takes.ok t ht).2.2.1;lia];exact K3 (iE S.n1 S.j3) e d
def Bb {L i j:Nat}{f:Nat->Int}(e:j<=L):cutD (hI L f) (some<|(i:Int)+1) (some (j:Int))=(List.range<|j - abe).map λx=>D.int (f<|i+1+x):=by
 delta cutD;rw[kK,show HT.iz L 0 (some<|(i:Int)+1)=min abe L from HT.jN L 0 abe,HT.jN,cc e];rcases Nat.lt_or_ge abe j with q|q
 .rw[cc (aT (df q) e)];apply cG;intro x;rw[List.getElem?_take,mD];by_cases d:x<j - abe
  .rw[aF d,cJ,bP d,jr Zs];rfl
  .rw[aD d,List.getElem?_eq_none_iff.mpr (xr▸Nat.not_lt.mp d)];rfl
 .rw[Nat.sub_eq_zero_of_le q,Nat.sub_eq_zero_of_le (Nat.le_min.mpr ⟨q,e⟩)];rfl
def Hc {L:Nat}{P:Nat->Nat->Int}{i j:Nat}:List.zipWith (λa b:Int=>a+b+1) ((List.range<|j - abe).map λx=>P i<|i+1+x) ((List.range<|j - abe).map λx=>P (i+1+x) j)=ow P i j:=by
 delta ow;rw[List.zipWith_map];generalize List.range (j - abe)=xs;induction xs with
 |nil=>rfl
 |cons x xs e=>rw[cj,e];rfl
def xw (g:Nat->D)(hl:ds.length=L)(h:∀ i,i<L->ds[i]?=some (g i)):nA ds=(List.range L).map λi=>D.tup [.int (i:Nat),g i]:=by
 delta nA;apply cG;intro i;rw[bU,mD,hl];by_cases d:i<L
 .rw[bP d,h i d];rfl
 .rw[List.getElem?_eq_none_iff.mpr (by rw[xr];lia)];rfl
def Nw {es:az Int}:nA (es.map D.int)=(List.range es.length).map λj=>D.tup [.int (j:Nat),.int (es.getD j 0)] :=
 xw _ (fI ..) λi d=>by rw[mD,getD_some d];rfl
def Kc {L:Nat}{P:Nat->Nat->Int}{own:az Int}(hl:own.length=L):nA (List.zipWith aab (ja L P)<|own.map D.int)=(List.range L).map λi=>D.tup [.int (i:Nat),.tup [.lst (hI L<|P i),.int (own.getD i 0)]] :=
 xw (λi=>.tup [.lst (hI L<|P i),.int (own.getD i 0)]) (by rw[bO,jK,fI];lia) λi d=>by rw[bU,kH d,mD,getD_some Zs];rfl
def FD {L k:Nat}{T:Nat->Nat->Int}:((List.range<|k+1).map λi=>D.lst<|hI L<|T i)=((List.range k).map λi=>D.lst<|hI L<|T i)++[.lst (hI L<|T k)]:=by rw[List.range_succ,aM];rfl
def Mz (L k:Nat)(f:Nat->Nat->Int):nO n ((List.range k).map λi=>D.lst<|hI L<|f i):=iM λd hd=>by obtain⟨i,_,rfl⟩:=List.mem_map.mp hd;exact Ej L _
def Hd {ls:az Int}:List.zipWith aab (ls.map D.int) (rs.map D.int)=(ls.zip rs).map λp=>D.tup [.int p.1,.int p.2]:=by rw[List.zipWith_map,List.zip,List.map_zipWith]
def Ha:(ls.zip rs).map (λp=>D.int<|p.1+p.2+1)=(List.zipWith (λa b=>a+b+1) ls rs).map D.int:=by rw[List.zip,List.map_zipWith,List.map_zipWith]
def TY {i j k:Nat}{u:DE}{μ:MS}{K:Bool->MS->Prop}(ch:Bool)(now:Int)(e:az Int)(E:u[i]?=some (some<|.bl ch))(y:u[j]?=some (some<|.int now))(F:u[k]?=some (some<|.lst<|e.map D.int))(h:∀ c,(c=false->ch=false/\now∉e)->K c μ):Ki (mI<|wG i) (mI<|tV (Yj false) (wG j)<|wG k) u μ K:=by
 delta Ki mI tV wG;rw[E,y,F];show if ch=true then K true μ else _;by_cases q:ch=true
 .rw[aF q];exact h true λz=>by cases z
 .rw[aD q];refine⟨rfl,List.all_map▸List.all_eq_true.mpr λx _=>rfl,h _ λz=>⟨by cases ch with|true=>exact absurd rfl q|false=>rfl,λhm=>?_⟩⟩;have C:((e.map D.int).any λd=>rA d<|.int now)=false:=by cases q2:((e.map D.int).any λd=>rA d<|.int now)with|true=>rw[q2]at z;exact absurd z Zu|false=>rfl
  rw[eR]at C;exact C _ (List.mem_map_of_mem hm) (cX now)
def Np:jo:=λe d K=>dM [.l] e λb=>b.length<=2000/\K (.int<|(b.length:Int) - 1) d
def Rv:jo:=λe d K=>dM [.l] e λb=>b.length<=2000/\K (.lst<|ja b.length<|j5 b.length) d
def J1:jo:=λq j K=>dM [.l,.l,.i] q λl r m=>∃ e d:az Int,l=e.map D.int/\r=d.map D.int/\e.length<=2000/\d.length<=2000/\K (.int<|(List.zipWith (λa b=>a+b+1) e d).foldl min m) j
def JZ:jo:=λj e K=>dM [.l,.l,.l] j λb c l=>∃(d own:az Int) (P:Nat->Nat->Int),b=d.map D.int/\c=own.map D.int/\own.length=d.length/\d.length<=2000/\l=ja d.length P/\K (.lst<|ja d.length<|kJ d.length d own P) e
def uH (es:az Int)(ts:az Tk)(k:Nat):az D:=(List.range k).map λa=>D.lst (ja es.length<|jb es ts<|a+1)
def qV (k:Nat):az Key:=(List.range k).map λa=>(Sum.inl ((a:Nat):Int):Key)
def J2:jo:=λj e K=>dM [.i,.l,.l,.i] j λn x y a=>∃(d:az Int) (ts:az Tk),x=d.map D.int/\y=ts.map iI/\hU n d ts/\0<=a/\a<=1000/\K (.gP (qV<|a.toNat+1)<|uH aaY ts<|a.toNat+1) e
def Gw (m:Int)(L:Nat):D:=if m<=(L:Int)then .int m else .fX
def Nu:jo:=λj e K=>dM [.i,.l,.l,.i] j λn x y a=>∃(d:az Int) (ts:az Tk),x=d.map D.int/\y=ts.map iI/\hU n d ts/\0<=a/\a<=1000/\K (Gw (jb aaY ts (a.toNat+1) 0<|d.length+1) d.length) e
def Jn (k:Nat):(Sum.inl ((k:Nat):Int):Key)∉qV k:=λh=>by refine eU (List.mem_map.mp h) λa ha e=>?_;rw[c3]at ha;lia
def Co (k:Nat):qV (k+1)=qV k++[Sum.inl ((k:Nat):Int)]:=by delta qV;rw[List.range_succ,aM];rfl
def BJ (es:az Int)(ts:az Tk)(k:Nat):uH es ts (k+1)=uH es ts k++[.lst (ja es.length<|jb es ts<|k+1)]:=by delta uH;rw[List.range_succ,aM];rfl
theorem EL:∀ {xs:az Nat} {k:Nat} (g:Nat->D),k∈xs->kW ((xs.map λa=>(Sum.inl ((a:Nat):Int):Key)).zip<|xs.map g) (.inl (k:Int))=some (g k)
 | x::xs,k,g,h=>by
  rw[aJ,aJ,cZ];delta kW;rw[bR];by_cases e:x=k
  .subst e;simp
  .have:¬ (Sum.inl ((x:Nat):Int):Key)=Sum.inl ((k:Nat):Int):=λz=>e Zs;simp only[this,decide_false];exact EL g (by rcases List.mem_cons.mp h with q|q;exact absurd q.symm e;exact q)
def JQ {n:Int}{cs:az Int}{ts:az Tk}(S:hU n cs ts)(a:Nat):(iK Zv ts a 0 (cs.length+1)=0/\Gw (jb Zv ts a 0<|cs.length+1) cs.length=.fX)\/(iK Zv ts a 0 (cs.length+1)≠0/\Gw (jb Zv ts a 0<|cs.length+1) cs.length=.int (iK Zv ts a 0 (cs.length+1) - 1)):=by
 have hl:=gO n cs;have:=(zO (ts:=ts) (λa i j e h=>IJ (iE S.n1 S.j3) i j e h) a 0 (cs.length+1) (Nat.succ_pos _)<|by lia).2<|Nat.succ_pos _;delta Gw;rcases this with⟨d,u⟩|⟨d,u,q⟩
 .left;exact⟨d,by rw[aD Zs]⟩
 .right;exact⟨by lia,by rw[aF Zs,q]⟩
structure Pc (es:List Int)(F:Int->Int):Prop where
 mem:∀ e∈es,F e∈es
 ge:∀ e,e<=F e
 mono:∀ a∈es,∀ b∈es,a<=b->F a<=F b
def Ad {n:Int}{cs:az Int}{ts:az Tk}(S:hU n cs ts)(a:Int):Pc Zv (jc Zv ts a):=by
 refine⟨λe y=>Ag y,λe=>oN _ _ _ _,λC ha b hb d=>?_⟩;let ⟨i,hi,e1⟩:=bj ha;let ⟨j,hj,e2⟩:=bj hb;have u:Zv[i]?=some C:=by rw[iO hi,e1]
 have q:Zv[j]?=some b:=by rw[iO hj,e2]
 exact FV S i j _ _ (uE (iE S.n1 S.j3) u q d) (lV u) (lV q)
def Q2 {es:az Int}(e:es.Pairwise (·<·)){x:Int}(d:x∈es)(g:Int->Int):rowAt es (es.map g) x=g x:=by delta rowAt;rw[mD,uq d];rfl
def IP {es:az Int}{ts:az Tk}{a:Int}(y:es.Pairwise (·<·)){g:Int->Int}(q:∀ e∈es,g e∈es):lW es ts (es.map g) a=es.map λe=>max (jc es ts a e) (g<|g e):=by
 apply cG;intro i;by_cases j:i<es.length
 .have d:=iO j;have hm:=bQ j;rw[yF (lV d) (by rw[mD,d];rfl:(es.map g)[i]?=some (g es[i])),mD,d,Q2 y (q _ hm)];rfl
 .rw[List.getElem?_eq_none_iff.mpr (by rw[(Eh (⟨fI ..,λx u=>by obtain⟨e,d,rfl⟩:=List.mem_map.mp u;exact q e d⟩:rJ es (es.map g))).len];lia),List.getElem?_eq_none_iff.mpr aaH]
def EX {l:az Nat}{a b:Int}{c:Nat}(ha:0<=a)(hb:0<=b)(h:c∈wH l a b):∃ k:Nat,a<=k/\(k:Int)<b/\l[k]?=some c:=by
 obtain⟨i,rfl⟩:=cL ha;obtain⟨j,rfl⟩:=cL hb;rw[Bc]at h;obtain⟨t,ht,e⟩:=bj h;have g:((l.drop i).take<|j - i)[t]?=some c:=by rw[iO ht,e]
 have ht:=aR ht<|List.length_take_le ..;rw[bu ht,cJ]at g;exact⟨i+t,Int.ofNat_le.mpr<|aU _ _,by lia,g⟩
def Wr (a:au)(o:Obj)(d:az abg):It:=⟨λi H=>i<d.length/\H a=some (.oZ o<|.dK d),λi H x e=>e=H/\∃ p,d[i]?=some p/\x=kV p.1,λi H=>d.length<=i/\H a=some (.oZ o<|.dK d)⟩
def Jp (h:vr k u=true):fH (kV k) u:=by
 rcases gW h with⟨i,t,rfl,rfl⟩|⟨x,t,rfl,rfl⟩
 .exact⟨t,rfl⟩
 .exact⟨t,rfl⟩
def Ec {j:Type}{d:az (j×V)}{vs:az (j×av)}(h:KV d vs):∀ {i:Nat} {p:j×V},d[i]?=some p->∃ v,vs[i]?=some (p.1,v):=by
 induction h with
 |nil=>intro i p e;contradiction
 | @cons a b as bs r _ q =>
  intro i p e;cases i with
  | zero =>simp at e;subst e;refine⟨b.2,?_⟩;rw[r.1];rfl
  |succ i=>exact q (by simpa using e)
def FC {K:aj}(a it:au)(kv:KV fM vs)(hd:∀ h:Heap,h.get? a=some o->h.DictAt (f9 P w) a vs ep):
 Turn P w K tg (Wr a o fM) [it] it (λi h=>h.IsKeyIter it a i vs.length ep) where
 mem:=by simp
 obj:=λi h j b hb=>by
  have e:b=it:=by simpa using hb
  subst e;exact jF j λo e c d=>⟨o,e,λv z=>by rw[d]at z;cases z⟩
 keep:=λi h U j k=>j.at λo e=>k it ZN o e
 item:=by intro X O G Q hc i q s σ H E I C j M;subst O G Q;refine gv M λhi J=>?_;obtain⟨p,hp⟩:∃ p,fM[i]?=some p:=⟨_,iO hi⟩;refine jj (Ec kv hp) λv hv=>?_;have L:=(I.fO a _ J).1;refine p5 (C it<|by simp) λf0 f1 f2 f3 Z Y=>wpAny_pyNext_dict_item j (hd _ L) hv λF U y u sb=>?_;have I1:Inv X q σ H {s with heap:=U}:=I.turned (t':=s.toks) aau f0 f1 f3 Z Y;exact jF (id u) λoi e c d=>⟨F,rfl,AE e c d Zu ⟨kV p.1,H,I1,Jp y,⟨rfl,p,hp,rfl⟩,u,λb hb=>(C b hb).1⟩⟩
 done:=by intro X O G Q hc i q s σ H E I C j M;subst O G Q;refine gv M λhi J=>?_;have L:=(I.fO a _ J).1;refine p5 (C it<|by simp) λf0 f1 f2 f3 Z Y=>?_;have hl:=KV.length kv;exact wpAny_pyNext_dict_end aaQ j (hd _ L) (List.getElem?_eq_none_iff.mpr<|by lia) λU eb=>⟨rfl,I.turned (t':=s.toks) (λb o hb e=>eb b o hb e) f0 f1 f3 Z Y⟩
 self:=λ_ _ _ _ _ j h=>wpAny_pyIter_keyiter j h
def freeze (I:Inv X aa σ H s)(e:Rd H a (.dK fM)):∃ o vs j,KV fM vs/\(∀ h:Heap,h.get? a=some o->h.DictAt (f9 X.prog X.w) a vs j)/\s.heap.DictAt (f9 X.prog X.w) a vs j/\aaZ=false/\Inv X aa σ (upd H a<|.oZ o<|.dK fM) s:=by
 obtain⟨z,hd,vs,rel,dd⟩:=lY I.fO e;refine jj dd.dictAt λj y=>lJ (id y) λo C u r=>⟨o,vs,j,rel,λh e=>⟨o,C,e,r⟩,y,hd,?_⟩;rcases e with e|⟨E,e⟩
 .exact oS (t':=s.toks) I (e▸True.intro) ⟨rfl,λb _=>rfl⟩ ⟨o,u⟩ ⟨u,sj z hd rel dd⟩
 .have d:=(I.fO a _ e).1;rw[u]at d;cases d;have:upd H a (.oZ o<|.dK fM)=H:=by
   funext b;delta upd;split
   .rename_i q;rw[q,e]
   .rfl
  rwa [this]
def Us (q:TE):TI:=λj H R=>q j H λv e=>∃ a d,v=.ref a/\((e a=some (.dK d)/\∀ o,R (Wr a o d) (upd e a<|.oZ o<|.dK d))\/∃ o,e a=some (.oZ o<|.dK d)/\R (Wr a o d) e)
def Mt (hl:PE X l tl):PI X tg l (Us tl):=by
 intro u s M H R I h;refine gc (hl u s M H _ I h) λv E P=>fw P λx J L O q1=>lJ q1 λa d e q=>?_;subst e;subst O;obtain⟨o,j,C,kv,hd,G,hs,y,q⟩:∃ o j C,KV d j/\(∀ h:Heap,h.get? a=some o->h.DictAt (f9 X.prog X.w) a j C)/\E.heap.DictAt (f9 X.prog X.w) a j C/\aaZ=false/\Inv X u M (upd J a<|.oZ o<|.dK d) E/\R (Wr a o d) (upd J a<|.oZ o<|.dK d):=by
  rcases q with⟨e,q⟩|⟨o,e,q⟩
  .exact wB (freeze L<|.inl e) λo j C kv hd G hs y=>⟨o,j,C,kv,hd,G,hs,y,q o⟩
  .refine wB (freeze L<|.inr ⟨o,e⟩) λU j C kv hd G hs y=>?_;have Q:=(L.fO a _ e).1;have F:=(y.fO a _ eZ).1;rw[Q]at F;cases F;have:upd J a (.oZ o<|.dK d)=J:=by
    funext b;delta upd;split
    .rename_i q;rw[q,e]
    .rfl
   exact⟨o,j,C,kv,hd,G,hs,y,by rwa [this]⟩
 refine wpAny_pyIter_dict hs G ⟨E.heap.objs.size,[E.heap.objs.size],_,_,_,rfl,y.af (t':=E.toks) λb o e=>iU _ e,FC a _ kv hd,⟨_,aL _ rfl,rfl,rfl⟩,λb hb=>?_,q⟩;have e:b=E.heap.objs.size:=by simpa using hb
 subst e;exact y.wz aaa (y.fO.fresh<|aB _)
def ou:Key->D
 |.inl i=>.int i
 |.inr z=>.str z
def yH (k:Key):il φ H (ou k) (kV k):=by cases k<;>rfl
def tU (μ:MS)(k:Nat):aA (az Key×az D):=match μ[k]? with|some (.gP e ds)=>some (e,ds)|some (.mF _ d ds)=>some (d.map Zx,ds)|_=>none
def yZ (M:fK φ H μ)(i:il φ H (.mr k) v)(h:tU μ k=some (ks,ds)):∃ p d,φ[k]?=some p/\v=.ref p/\Rd H p (.dK d)/\d.map Zx=ks/\fg φ H ds (d.map ZI):=by
 refine eU i λp j u=>?_;subst u;delta tU at h;split at h
 .rename_i e;cases h;obtain⟨q,e1,d,G,C,F,E,y⟩:=M.at_ k _ e;rw[j]at e1;cases e1;subst E;exact⟨p,d,j,rfl,.inl C,F,y⟩
 .rename_i e;cases h;refine jF (M.at_ k _ e) λq e1 C y=>?_;rw[j]at e1;cases e1;exact⟨p,_,j,rfl,.inr ⟨_,C⟩,rfl,y⟩
 .cases h
def AU:∀ {ds:az D} {j:az abg} (k:Key),j.map Zx=ks->fg φ H ds (j.map ZI)->(kW (ks.zip ds) k=none/\mj j k=none)\/∃ d v,kW (ks.zip ds) k=some d/\mj j k=some v/\il φ H d v:=by
 intro ds j;induction j generalizing ks ds with
 |nil=>intro k q C;subst q;exact .inl ⟨rfl,rfl⟩
 | cons p j E =>
  intro k q C;cases ks with
  |nil=>cases q
  | cons k0 ks =>
   cases ds with
   |nil=>cases C
   | cons I ds =>
    refine fw C λv r e G F=>?_;simp at q e;refine gv e λy u=>?_;subst y;subst u;obtain⟨rfl,q⟩:=q;rw[cZ];delta kW;rw[bR];by_cases hk:p.1=k
    .simp only[hk,decide_true];exact .inr ⟨_,_,rfl,nR hk,G⟩
    .simp only[hk,decide_false];rw[nT hk];exact E k q F
def AX (hd:il φ H d v)(e:kv.map Zx=kd.map Zx)(ha:fg φ H (kd.map ZI) (kv.map ZI)):(putK kv k v).map Zx=(dput kd k d).map Zx/\fg φ H ((dput kd k d).map ZI) ((putK kv k v).map ZI):=by
 have C:(kv.any λp=>decide (p.1=k))=kd.any λp=>decide (p.1=k):=by
  have:(kv.map Zx).any (λx=>decide (x=k))=(kd.map Zx).any λx=>decide (x=k):=by rw[e]
  rwa [List.any_map,List.any_map]at this
 delta putK dput;rw[C];by_cases q:(kd.any λp=>decide (p.1=k))=true
 .rw[aF q,aF q];clear q C;induction kd generalizing kv with
  | nil =>
   cases kv with
   |nil=>exact⟨rfl,rfl⟩
   |cons _ _=>cases e
  | cons p kd E =>
   cases kv with
   |nil=>cases e
   | cons u kv =>
    simp at e;refine fw ha λJ r I G F=>?_;obtain⟨rfl,rfl⟩:=I;obtain⟨y,i2⟩:=E e.2 F;by_cases hk:p.1=k
    .have j:u.1=k:=by rw[e.1,hk]
     simp only[aJ,aF hk,aF j]
     exact⟨by rw[y,e.1],_,_,rfl,hd,i2⟩
    .have j:¬ u.1=k:=by rwa [e.1]
     simp only[aJ,aD hk,aD j]
     exact⟨by rw[y,e.1],_,_,rfl,G,i2⟩
 .rw[aD q,aD q,aM,aM,aM,aM];exact⟨by rw[e];rfl,ha.app ⟨v,[],rfl,hd,rfl⟩⟩
def OK (μ:MS)(j:Nat)(y:D):aA (aA D):=(tU μ j).bind λq=>(mC y).map λk=>kW (q.1.zip q.2) k
def Js (h:OK μ j y=some o):∃ ks ds k,tU μ j=some (ks,ds)/\mC y=some k/\kW (ks.zip ds) k=o:=by
 delta OK at h;cases e:tU μ j with
 |none=>rw[e]at h;cases h
 | some q =>
  rw[e]at h;cases d:mC y with
  |none=>rw[d]at h;cases h
  |some k=>rw[d]at h;cases h;exact⟨q.1,q.2,k,rfl,rfl,rfl⟩
def Zc:xX:=λx y q K=>match x with
 |.mr j=>∃ d,OK q j y=some (some d)/\K d q
 |_=>False
def RP (w G H:De):Ds:=λN y F=>w y F λd E=>G y E λo C=>H y C λi u=>match o with
 |.mr j=>∃ kd q:az aap,u[j]?=some (.gP (kd.map Zx) (kd.map ZI))/\kd.length<sizeLine/\(mC i).map (λk=>dput kd k d)=some q/\N.nx y (u.set j (.gP (q.map Zx) (q.map ZI)))
 |_=>False
def lh (hu:X.A.units+1<cLine)(he:PD X e w)(ho:PD X o wo)(hi:PD X i wi)(hs:swapsWith e (some<|.Subscript o i pos') pos.line X.env=pure false:=by rfl):
 vV X (.Assign [.Subscript o i pos'] e pos) (RP w wo wi):=(D2 hu ho hi he hs).imp λE σ H hq=>by
 refine fL hq λφ y μ N A M w L=>⟨φ,y,μ,_,A,M,w,λd U P Z H1 k1 J M1 i1=>⟨P,y,U,_,A.mono J,M1,k1,λd2 Q O v2 H2 k2 I M2 i2=>⟨O,y,Q,_,A.mono<|J.trans I,M2,k2,λd3 Ww q v3 H3 C G M3 i3=>?_⟩⟩⟩;cases d2 with
 | mr j =>refine jz C λkd kd' em hl Y C=>?_;obtain⟨k,ek,rfl⟩:=Option.map_eq_some_iff.mp Y;obtain⟨p,W,rfl⟩:=i2.mono G;obtain⟨p',e1,u,vs,hv,h1,h2,ha⟩:=M3.at_ j _ em;rw[W]at e1;cases e1;subst h2;cases kC ek i3;have F:Fr q H3 q (upd H3 p<|.dK<|putK u k Z):=.put<|lH W;obtain⟨g1,g2⟩:=AX ((i1.mono<|I.trans G).mono F) h1<|ha.mono F;refine⟨p,_,rfl,GY.k hv (by have:=b8 List.length h1;rw[fI,fI]at this;lia),?_⟩;have M4:=M3.put (m:=.gP ((dput kd k d).map Zx) ((dput kd k d).map ZI)) W ⟨putK u k Z,_,eZ,g1,rfl,g2⟩;exact L.nx y _ q σ _ C ((J.trans<|I.trans G).trans F) (A.mono<|(J.trans<|I.trans G).trans F) M4
 |_=>exact C.elim
def B2:az V->Hp->VK->Prop:=λj H Q=>match j with
 |[.ref a]=>∃ d,Rd H a (.dK d)/\∀ p,H p=none->Q (.ref p) (upd H p<|.dK d)
 |_=>False
def Kn:h9 X (.type "dict") B2:=by
 intro d s G H J L Q I r h;delta B2 at h;split at h
 .rename_i a;refine eU h λC j q=>?_;cases r with
  | cons y u =>cases u;subst y;exact Kv I j λp M E F=>⟨.ref p,_,F,rfl,q p E⟩
 .cases h
def Gb (l1 l2:az Nat)(p:Int):az Nat:=l1.take p.toNat++l2.drop p.toNat
def Sd (cs:az Int)(ts:az Tk):Nat->az Nat->Int->Prop
 |0,l,a=>(l,a)∈ts
 |r+1,l,a=>Sd cs ts r l a\/∃ l1 a1 l2 a2 p,Sd cs ts r l1 a1/\Sd cs ts r l2 a2/\p∈cs/\l=Gb l1 l2 p/\a=max a1 a2+1
theorem Sd.up {cs:az Int}{ts:az Tk}{l:az Nat}{a:Int}{r:Nat}(h:Sd cs ts r l a):∀ k,Sd cs ts (r+k) l a
 |0=>h
 |k+1=>.inl (Sd.up h k)
def ML {l1 l2:az Nat}{p:Int}{k:Nat}(h:p<=l1.length)(hk:(k:Int)<p):(Gb l1 l2 p)[k]?=l1[k]?:=by delta Gb;rw[pF (by rw[a9];lia),List.getElem?_take,aF Zs]
def Jr {l1 l2:az Nat}{p:Int}{k:Nat}(h0:0<=p)(h:p<=l1.length)(hk:p<=(k:Int)):(Gb l1 l2 p)[k]?=l2[k]?:=by delta Gb;rw[lQ (by rw[a9];lia),a9,cJ];congr 1;lia
def MM {l1 l2:az Nat}{p:Int}(h0:0<=p)(d:p<=l1.length)(h:l1.length=l2.length):(Gb l1 l2 p).length=l1.length:=by delta Gb;rw[i8,a9,bL];lia
def QR {l1 l2:az Nat}{p:Int}(j:OX l1)(e:OX l2):OX (Gb l1 l2 p):=λc d=>by
 rcases List.mem_append.mp d with q|q
 .exact j c (bt q)
 .exact e c (List.mem_of_mem_drop q)
def Zq (l:az Nat)(e x:Int):Prop:=∀ k:Nat,e<=k->(k:Int)<x->l[k]?=some 111
def EA {es:az Int}{l:az Nat}{e x:Int}(d:OX l)(h0:0<=e)(he:e<=l.length)(j:x<=iT es l e):Zq l e x:=λk y u=>by
 have ct:=sy d (e:=e.toNat) Zs;have:iT es l e<=max e (qa l e.toNat:Int):=by
  delta iT;rcases jX aaG e with q|q
  .lia
  .have:=bJ (List.mem_filter.mp q).2;lia
 exact ct.2.2.1 k Zs Zs
def NN {es:az Int}{l:az Nat}{e x:Int}(y:OX l)(h0:0<=e)(hex:e<=x)(u:x<=l.length)(hm:x∈es)(h:Zq l e x):x<=iT es l e:=by refine xN y h0 u hex hm λz=>jF (EX h0 (cH ‹_› ‹_›) z) λk q j d=>?_;rw[h k q j]at d;cases d
def RF (es:az Int)(ts:az Tk):Nat->Int->Int
 |0=>jc es ts 0
 |a+1=>λe=>max (jc es ts ((a:Int)+1) e) (RF es ts a<|RF es ts a e)
theorem kF {n:Int}{cs:az Int}{ts:az Tk}(S:hU n cs ts):∀ a,Pc Zv (RF Zv ts a)
 |0=>Ad S 0
 | a+1=>by
  have h:=kF S a;have g:=Ad S<|(a:Int)+1;refine⟨λe u=>max_mem (g.mem e u)<|h.mem _<|h.mem e u,λe=>?_,λx q y j d=>?_⟩
  .have:=g.ge e;show e<=max _ _;lia
  .have E:=g.mono x q y j d;have C:=h.mono _ (h.mem x q) _ (h.mem y j)<|h.mono x q y j d;show max _ _<=max _ _;lia
theorem DU {n:Int}{cs:az Int}{ts:az Tk}(S:hU n cs ts):∀ a,ik Zv ts a=(ae n cs).map (RF Zv ts a)
 |0=>rfl
 | a+1=>by show lW Zv ts (ik Zv ts a) _=_;rw[DU S a,IP (iE S.n1 S.j3) (kF S a).mem];rfl
def R8 {n:Int}{cs:az Int}{ts:az Tk}(a:Nat)(e:Int):jc Zv ts a e<=RF Zv ts a e:=by
 cases a with
 |zero=>exact cp _
 |succ a=>show jc Zv ts (((a+1:Nat):Int)) e<=max (jc Zv ts ((a:Int)+1) e) _;rw[show((a+1:Nat):Int)=(a:Int)+1 by lia];lia
def oB (n:Int)(cs:az Int):Zv[0]?=some 0:=rfl
def mB {es:az Int}{ts:az Tk}{a:Int}{i:Nat}{e:Int}(h:es[i]?=some e):(ip es ts a).getD i 0=jc es ts a e:=by rw[aP,lV h];rfl
def getD_at {es:az Int}{i:Nat}{e:Int}(h:es[i]?=some e):es.getD i 0=e:=by rw[aP,h];rfl
def m6 (n:Int)(cs:az Int):Zv[cs.length+1]?=some n:=by have:=xC n cs;rwa [gO]at this
end L2
namespace L2
open PySem PySem.Spec PyProof.Rows PySem.SeqAt
end L2
namespace L2
open PySem PySem.Spec PyProof.Rows
def Di (ts d:az Tk):Prop:=∀ t∈ts,∃ e∈d,e.2=t.2/\∀ k:Nat,t.1[k]?=some 111->e.1[k]?=some 111
def Di.refl (ts:az Tk):Di ts ts:=λt ht=>⟨t,ht,rfl,λ_ h=>h⟩
structure More (n:Int)(cs:List Int)(ts:List Tk)(Ze:List Int)(YI:List Tk):Prop where
 S:hU n cs ts
 S':hU n Ze YI
 sub:∀ c∈cs,c∈Ze
 good:Di ts YI
theorem More.refl {n:Int}{cs:az Int}{ts:az Tk}(S:hU n cs ts):More n cs ts cs ts:=⟨S,S,λ_ h=>h,.refl ts⟩
def More.ends {n:Int}{cs d:az Int}{ts j:az Tk}(h:More n cs ts d j){e:Int}(he:e∈ae n cs):e∈ae n d:=by
 rcases List.mem_cons.mp he with q|q
 .exact List.mem_cons.mpr (.inl q)
 .rcases List.mem_append.mp q with q | q
  .exact jJ _ (List.mem_append.mpr<|.inl<|h.sub e q)
  .exact jJ _ (List.mem_append.mpr<|.inr q)
def More.own {n:Int}{cs u:az Int}{ts d:az Tk}(h:More n cs ts u d){a a' e:Int}(ha:a<=a')(he:e∈ae n cs):jc Zv ts a e<=jc (ae n u) d a' e:=by
 rw[jQ Zv];rcases jX ((ts.filter λt=>decide (t.2<=a)).map λt=>iT Zv t.1 e) e with q|q
 .rw[q];exact oN _ _ _ _
 .refine eU (List.mem_map.mp q) λt ht M=>?_;obtain⟨C,G⟩:=List.mem_filter.mp ht;rw[<- M];refine jF (h.good t C) λH E O L=>?_;have ok:=h.S.takes.ok t C;have y:=h.S'.takes.ok H E;have j:=iQ h.S.n1 h.S.j3 he;have F:=rm (l:=t.1) he;have P:=(iQ h.S.n1 h.S.j3 F).2;have c:=EA (es:=ae n cs) ok.2.1 j.1 Zs<|cp _;exact cH (NN y.2.1 j.1 (EC _ _ _) Zs (h.ends F) λk J I=>L k<|c k J I) (yC E<|O▸cH (bJ G) ha)
theorem More.rf {n:Int}{cs j:az Int}{ts d:az Tk}(h:More n cs ts j d):∀(a:Nat) {e:Int},e∈ae n cs->RF Zv ts a e<=RF (ae n j) d a e
 |0,e,he=>h.own (cp _) he
 | a+1,e,he=>by have g:=kF h.S a;have q:=kF h.S' a;have u:=h.rf a he;have i2:=h.rf a<|g.mem e he;have C:=q.mono _ (h.ends<|g.mem e he) _ (q.mem e<|h.ends he) u;have y:=h.own (a:=(a:Int)+1) (cp _) he;show max _ _<=max _ _;lia
def DY {n:Int}{cs:az Int}{ts:az Tk}(S:hU n cs ts)(a:Nat){i:Nat}{e:Int}(he:Zv[i]?=some e):(ik Zv ts a)[i]?=some (RF Zv ts a e):=by rw[DU S,mD,he];rfl
def PZ {n:Int}{cs:az Int}{ts:az Tk}(S:hU n cs ts){i:Nat}{u v:Int}(J:Zv[i]?=some u)(I:Zv[i+1]?=some v)(hb:bad ts (u,v)=true):∀(a:Nat) {e:Int},e∈ae n cs->e<=u->RF Zv ts a e<=u:=by
 have own:∀(a:Int) {e:Int},e∈ae n cs->e<=u->jc Zv ts a e<=u:=λa e y d=>by
  rw[jQ];rcases jX ((ts.filter λt=>decide (t.2<=a)).map λt=>iT Zv t.1 e) e with q|q
  .rw[q];exact d
  .refine eU (List.mem_map.mp q) λt ht W=>?_;have F:=(List.mem_filter.mp ht).1;rw[<- W];have ok:=S.takes.ok t F;have E:=iQ S.n1 S.j3 y;by_cases z:iT Zv t.1 e<=u
   .exact z
   .exfalso;have up:=iE S.n1 S.j3;obtain⟨j,U,X⟩:=bj<|rm (l:=t.1) y;have L:Zv[j]?=some (iT Zv t.1 e):=by rw[iO U,X]
    have C:i+1<=j:=by
     by_cases M:j<=i
     .exact absurd (qi up j i _ _ M L J) z
     .lia
    have c:=EA (es:=ae n cs) ok.2.1 E.1 Zs<|qi up abe j _ _ C I L;have P:=iQ S.n1 S.j3<|lH J;have O:=iQ S.n1 S.j3<|lH I;refine jF (EX P.1 O.1<|bJ<|List.all_eq_true.mp hb t F) λk Y Q G=>?_;rw[c k (cH ‹_› ‹_›) Q]at G;cases G
 intro a;induction a with
 |zero=>exact λy d=>own 0 y d
 | succ a H =>intro e y d;have:=own ((a:Int)+1) y d;have:=H ((kF S a).mem e y)<|H y d;show max _ _<=u;lia
def F7 {n:Int}{cs:az Int}{ts:az Tk}(S:hU n cs ts){a:Nat}(h:RF Zv ts a 0=n):jI Zv ts=none:=by
 cases e:jI Zv ts with
 |none=>rfl
 | some p =>
  exfalso;obtain⟨u,v⟩:=p;have d:=List.find?_some e;obtain⟨i,q,y⟩:=bj<|List.mem_of_find?_eq_some e;have g:(OE<|ae n cs)[i]?=some (u,v):=by rw[iO q,y]
  rw[D3]at g;cases e1:Zv[i]? with
  |none=>rw[e1]at g;cases g
  | some E =>
   cases j:Zv[i+1]? with
   |none=>rw[e1,j]at g;cases g
   | some C =>rw[e1,j]at g;cases g;have b:=PZ S e1 j d a (sf n cs) (iQ S.n1 S.j3<|lH e1).1;have w:=pO (iE S.n1 S.j3) e1 j<|bZ _;have:=(iQ S.n1 S.j3<|lH j).2;lia
def More.least {n:Int}{cs d:az Int}{ts j:az Tk}(h:More n cs ts d j){a:Nat}(hl:iF Zv ts n a):RF aaY j a 0=n:=by have e:=hl.at_;rw[DY h.S a (oB n cs)]at e;have:=h.rf a<|sf n cs;have:=(iQ h.S'.n1 h.S'.j3<|(kF h.S' a).mem 0<|sf n d).2;lia
def least_le {n:Int}{cs:az Int}{ts:az Tk}(S:hU n cs ts){a b:Nat}(h:RF Zv ts a 0=n)(hl:iF Zv ts n b):b<=a:=by
 by_cases q:b<=a
 .exact q
 .exact absurd (by rw[DY S a (oB n cs),h]) (hl.low a<|by lia)
def vh {x y:Int}(e:0<=x)(d:0<=y)(h:0<x*y):0<x/\0<y:=by
 refine⟨?_,?_⟩
 .rcases Int.lt_or_le 0 x with q | q
  .exact q
  .rw[show x=0 by lia,Int.zero_mul]at h;exact absurd h Zu
 .rcases Int.lt_or_le 0 y with q | q
  .exact q
  .rw[show y=0 by lia,Int.mul_zero]at h;exact absurd h Zu
def xa {es own:az Int}{T:Nat->Nat->Int}{i j:Nat}{v:Int}(y:∀ i j,0<=T i j)(E:i<j)(u:v∈iH T i j):0<iG es own T i j/\iG es own T i j<=v:=by
 have e:∀ w∈iH T i j,2<=w:=λw C=>by refine si (iZ.mp C) λk _ _ F d=>?_;subst d;have:=vh (y i k) (y k j) F;lia
 have m:=oP (ns:=iH T i j) λz=>by rw[z]at u;cases u
 have m1:=e _ m.1;have m2:=m.2 v u;delta iG;by_cases q:es.getD j 0<=own.getD i 0
 .lia
 .lia
theorem More.tab {n:Int}{cs d:az Int}{ts E:az Tk}(h:More n cs ts d E):∀(a a':Nat),a<=a'->∀(i j C u:Nat) (x y:Int),Zv[i]?=some x->Zv[j]?=some y->aaY[C]?=some x->aaY[u]?=some y ->
 0<iK Zv ts a i j->0<iK aaY E a' C u/\iK aaY E a' C u<=iK Zv ts a i j
 |0,_,_,i,j,C,u,x,y,_,_,_,_,J=>absurd J (Int.lt_irrefl _)
 |a+1,0,ha,_,_,_,_,_,_,_,_,_,_,_=>absurd ha Zs
 | a+1,a'+1,ha,i,j,C,u,x,y,P,L,H,G,J=>by
  have up:=iE h.S.n1 h.S.j3;have I:=iE h.S'.n1 h.S'.j3;by_cases O:j<=i
  .exact absurd (show 0<iG _ _ _ i j from J) (by delta iG;rw[aF O];decide)
  have xy:=pO up P L Zs;have M:C<u:=by
   by_cases q:C<u
   .exact q
   .have:=qi I u C _ _ Zs G H;lia
  have bd:=pP Zv ts a;have Q:=pP aaY E a';by_cases q:y<=jc Zv ts a x
  .have Z:=cH q (h.own (a':=(a':Int)) Zs<|lH P);have e':iK aaY E (a'+1) C u=1:=by show iG _ _ _ C u=1;delta iG;rw[aD Zs,aF (by rw[getD_at G,mB H];exact Z)]
   rw[e'];exact⟨by decide,J⟩
  .have e:iK Zv ts (a+1) i j=vk (iH (iK Zv ts a) i j):=by show iG _ _ _ i j=_;delta iG;rw[aD O,aD (by rw[getD_at L,mB P];exact q)]
   rw[e]at J ⊢
   have m:=oP (ns:=iH (iK Zv ts a) i j) λz=>by rw[z]at J;exact absurd J Zu
   refine si (iZ.mp m.1) λk k1 Y k3 ek=>?_
   rw[ek]
   have kp:=vh (bd i k).1 (bd k j).1 k3
   have hk:=getD_some (dr Y (jA L).1)
   have mk:=h.ends (lH hk)
   have F:=uq mk
   have X:=h.tab a a' Zs i k C _ _ _ P hk H F kp.1
   have W:=h.tab a a' Zs k j _ u _ _ hk L F G kp.2
   have w1:=pO up P hk k1
   have w2:=pO up hk L Y
   have c1:C<(ae n d).idxOf ((ae n cs).getD k 0):=by
    by_cases q:C<(ae n d).idxOf ((ae n cs).getD k 0)
    .exact q
    .have:=qi I _ C _ _ Zs F H;lia
   have c2:(ae n d).idxOf ((ae n cs).getD k 0)<u:=by
    by_cases q:(ae n d).idxOf ((ae n cs).getD k 0)<u
    .exact q
    .have:=qi I u _ _ _ Zs G F;lia
   have U:=xa (es:=ae n d) (own:=ip aaY E a') (λi j=>(Q i j).1) M (iZ.mpr ⟨_,c1,c2,Int.mul_pos X.1 W.1,rfl⟩)
   exact⟨U.1,cH U.2<|Int.add_le_add X.2 W.2⟩
def wW {n:Int}{cs:az Int}{ts:az Tk}(S:hU n cs ts):∀(a i j:Nat) (x y:Int),Zv[i]?=some x->Zv[j]?=some y->i<j->y<=RF Zv ts a x->0<iK Zv ts (a+1) i j:=by
 have own:∀(a i j:Nat) (x y:Int),Zv[i]?=some x->Zv[j]?=some y->i<j->y<=jc Zv ts a x->0<iK Zv ts (a+1) i j:=λa i j x y d u e E=>by show 0<iG _ _ _ i j;delta iG;rw[aD Zs,aF (by rw[getD_at u,mB d];exact E)];decide
 intro a;induction a with
 |zero=>exact own 0
 | succ a F =>
  intro i j x y d u e E;by_cases q:y<=jc Zv ts ((a+1:Nat):Int) x
  .exact own (a+1) i j x y d u e q
  have E:y<=max (jc Zv ts ((a:Int)+1) x) (RF Zv ts a<|RF Zv ts a x):=E;have C:y<=RF Zv ts a (RF Zv ts a x):=by have:((a+1:Nat):Int)=(a:Int)+1:=rfl;rw[this]at q;lia
  have up:=iE S.n1 S.j3;have I:=(kF S a).mem x<|lH d;have ge:=(kF S a).ge x;obtain⟨k,hk,J⟩:=bj I;have gk:Zv[k]?=some (RF Zv ts a x):=by rw[iO hk,J]
  by_cases q1:y<=RF Zv ts a x
  .exact((More.refl S).tab (a+1) (a+2) Zs i j i j x y d u d u<|F i j x y d u e q1).1
  have G:k<j:=by
   by_cases z:k<j
   .exact z
   .exact absurd (qi up j k _ _ Zs u gk) q1
  have L:=uE up d gk ge;by_cases z:i=k
  .subst z;rw[d]at gk;have gk:=a5 gk;rw[<- gk]at C;exact absurd C q1
  have p1:=F i k x _ d gk Zs<|cp _;have H:=F k j _ y gk u G C;exact(xa (es:=ae n cs) (λi j=>(pP Zv ts (a+1) i j).1) e<|iZ.mpr ⟨k,by lia,G,Int.mul_pos p1 H,rfl⟩).1
def wX {n:Int}{cs:az Int}{ts:az Tk}(S:hU n cs ts){a:Nat}(hl:iF Zv ts n a):0<iK Zv ts (a+1) 0 (cs.length+1):=by refine wW S a 0 (cs.length+1) 0 n (oB n cs) (m6 n cs) (Nat.succ_pos _) ?_;rw[(More.refl S).least hl];exact cp _
def xH {α:Type}(g:α->D)(ts:az α)(k:Nat):cutD (ts.map g) (some (k:Int)) none=(ts.drop k).map g:=by
 delta cutD;rw[HT.jN,HT.oa,fI,<- List.map_drop,<- List.map_take];by_cases q:k<=ts.length
 .rw[cc q,br (by rw[bL];lia)]
 .rw[bI Zs,bI Zs,List.take_nil]
def kT (C:au)(μ:MS)(k:Nat):aA (az Str×az D):=match μ[k]? with|some (.ins d ns ds)=>if d=C then some (ns,ds)else none|_=>none
def rb (h:kT C μ k=some q):μ[k]?=some (.ins C q.1 q.2):=by
 delta kT at h;split at h
 .rename_i d ns j e;by_cases z:d=C
  .rw[aF z]at h;cases h;rw[e,z]
  .rw[aD z]at h;cases h
 .cases h
def fN (h:μ[k]?=some (.ins C ns ds)):kT C μ k=some (ns,ds):=by delta kT;rw[h];exact aF rfl
def nv (f:Str):az Str->az D->aA D
 |n::ns,d::ds=>if n=f then some d else nv f ns ds
 |_,_=>none
def putN (f:Str)(d:D):az Str->az D->az Str×az D
 |n::ns,e::ds=>if n=f then(n::ns,d::ds)else(n::(putN f d ns ds).1,e::(putN f d ns ds).2)
 |_,_=>([f],[d])
theorem qP:∀ {fs:az (Str×V)} {ds:az D},fg φ H ds (fs.map ZI)->nv f (fs.map Zx) ds=some d->∃ v,fs.lookup f=some v/\il φ H d v
 |[],ds,h,e=>by cases ds<;>cases e
 | (n,x)::fs,ds,h,e=>by
  cases ds with
  |nil=>cases e
  | cons j ds =>
   let ⟨v,r,e1,h1,h2⟩:=h;obtain⟨rfl,rfl⟩:=e1;simp only[aJ,nv]at e;rw[dQ];by_cases q:n=f
   .rw[aF q]at e;cases e;subst q;exact⟨x,by simp,h1⟩
   .rw[aD q]at e;have:(f==n)=false:=beq_eq_false_iff_ne.mpr λz=>q z.symm;simp only[this];exact qP h2 e
theorem vm:∀ {fs:az (Str×V)} {ds:az D},fg φ H ds (fs.map ZI)->nv f (fs.map Zx) ds=none->fs.lookup f=none
 |[],ds,h,e=>rfl
 | (n,x)::fs,ds,h,e=>by
  cases ds with
  |nil=>cases h
  | cons d ds =>
   let ⟨v,r,e1,h1,h2⟩:=h;obtain⟨rfl,rfl⟩:=e1;simp only[aJ,nv]at e;rw[dQ];by_cases q:n=f
   .rw[aF q]at e;cases e
   .rw[aD q]at e;have:(f==n)=false:=beq_eq_false_iff_ne.mpr λz=>q z.symm;simp only[this];exact vm h2 e
theorem yx (hd:il φ H d v):∀ {fs:az (Str×V)} {ds:az D},fg φ H ds (fs.map ZI)->(l0 f v fs).map Zx=(putN f d (fs.map Zx) ds).1/\fg φ H (putN f d (fs.map Zx) ds).2 ((l0 f v fs).map ZI)
 |[],ds,h=>by cases ds<;>exact⟨rfl,v,[],rfl,hd,rfl⟩
 | (n,x)::fs,ds,h=>by
  cases ds with
  |nil=>cases h
  | cons u ds =>
   let ⟨v',r,e1,h1,h2⟩:=h;obtain⟨rfl,rfl⟩:=e1;simp only[l0,aJ,putN];by_cases q:n=f
   .rw[aF q,aF q];exact⟨rfl,_,_,rfl,hd,h2⟩
   .rw[aD q,aD q];obtain⟨j,i2⟩:=yx hd h2;exact⟨by simp only[aJ,j],_,_,rfl,h1,i2⟩
def Ym (C:au)(f:Str)(w:De):De:=λu y K=>w u y λx j=>match x with
 |.mr k=>∃ d,(kT C j k).bind (λq=>nv f q.1 q.2)=some d/\K d j
 |.obj E ns ds=>E=C/\∃ d,nv f ns ds=some d/\K d j
 |_=>False
def fE (c:tF X.K C)(n:kX X.K C f)(h:PD X e w)(hb:attributeBase e f X.env (eval e X.env)=eval e X.env:=by rfl):PD X (.Attribute e f pos) (Ym C f w):=(Qu h hb).imp λσ H Q hq=>by
 refine fL hq λφ ρ μ K A M k L=>⟨φ,ρ,μ,_,A,M,k,λd1 E y v1 H1 u Z M1 Y=>?_⟩;cases d1 with
 | mr j =>refine eU u λd e1 u=>eU (Option.bind_eq_some_iff.mp e1) λq e2 F=>?_;obtain⟨p,hp,rfl⟩:=Y;obtain⟨p',e4,W,fs,U,P,O⟩:=M1.at_ j _<|rb e2;rw[hp]at e4;cases e4;rw[<- P]at F;exact eU (qP O F) λv l J=>⟨p,C,W,fs,v,rfl,U,c,n,l,L _ E y v H1 u Z M1 J⟩
 | obj C' ns ds =>obtain⟨rfl,d,F,u⟩:=u;refine sh Y λp W fs vs I _ U P G O=>?_;subst I;subst G;rw[<- P]at F;exact eU (qP O F) λv l J=>⟨p,_,W,fs,v,rfl,U,c,n,l,L _ E y v H1 u Z M1 J⟩
 |_=>exact u.elim
def U8 (C:au)(f:Str)(w G:De):Ds:=λN u F=>w u F λd y=>G u y λx j=>match x with
 |.mr k=>∃ q E:az Str×az D,kT C j k=some q/\putN f d q.1 q.2=E/\q.1.length<1000/\N.nx u (j.set k<|.ins C E.1 E.2)
 |_=>False
def o9 (c:tF X.K C)(n:kX X.K C f)(he:PD X e w)(ho:PD X o wo)(hs:swapsWith e (some<|.Attribute o f pos') pos.line X.env=pure false:=by rfl):vV X (.Assign [.Attribute o f pos'] e pos) (U8 C f w wo) :=
 (Qj ho he hs).imp λE σ H hq=>by
 refine fL hq λφ I μ N A M k L=>⟨φ,I,μ,_,A,M,k,λd J G v1 H1 k1 U M1 i1=>⟨G,I,J,_,A.mono U,M1,k1,λd2 VY u v2 H2 y Q M2 i2=>?_⟩⟩;cases d2 with
 | mr j =>refine jz y λq _ e2 O hl y=>?_;subst O;obtain⟨p,P,rfl⟩:=i2;obtain⟨p',e4,W,fs,h1,Y,h3⟩:=M2.at_ j _<|rb e2;rw[P]at e4;cases e4;have F:Fr u H2 u (upd H2 p<|.ins C W<|l0 f v1 fs):=.put<|lH P;obtain⟨g1,Z⟩:=yx ((i1.mono Q).mono F)<|h3.mono F;rw[Y]at g1 Z;exact⟨p,C,W,fs,rfl,h1,c,n,by rw[<- Y,fI]at hl;exact hl,L.nx I _ u σ _ y ((U.trans Q).trans F) (A.mono<|(U.trans Q).trans F)<|M2.put P ⟨W,_,eZ,g1,Z⟩⟩
 |_=>exact y.elim
structure o7 (P:ak)(w:ao)(K:aj)(mg:Str->Option av)(ah:Heap)(C:au)(m:Str)(k:Nat)(ps:List Str)(sp:Sp):Prop where
 ex:∃ f fd,ij P w K mg ah wq k f fd ps sp/\Meth K C m f/\Binds K fd ps []
def pw (C:au)(m:Str)(μ:MS):D->Prop
 |.mr k=>(kT C μ k).map (λq=>nv m q.1 q.2)=some none
 |.obj d ns es=>d=C/\nv m ns es=none
 |_=>False
def qI (M:fK φ H μ)(i:il φ H d v)(h:pw C m μ d):∃ p E fs,v=.ref p/\H p=some (.ins C E fs)/\fs.lookup m=none:=by
 cases d with
 | mr j =>refine eU (Option.map_eq_some_iff.mp h) λq Q y=>eU i λp P u=>?_;subst u;obtain⟨U,L,E,fs,J,I,G⟩:=M.at_ j _<|rb Q;rw[P]at L;cases L;rw[<- I]at y;exact⟨p,E,fs,rfl,J,vm G y⟩
 | obj W ns es =>refine gv h λu y=>?_;subst u;refine sh i λp E fs O u _ J I F G=>?_;subst u;subst F;rw[<- I]at y;exact⟨p,E,fs,rfl,J,vm G y⟩
 |_=>exact h.elim
def Kz (C:au)(m:Str)(f:jo)(y:De)(w:DA):De:=λq u K=>y q u λx d=>pw C m d x/\w q d λE j=>f (x::E) j K
def LQ (h:tD (Kz C m f W w) σ H Q):zK C m (jg f) [] E0 (tD W) (Py w) σ H Q:=by refine fL h λP E U K A M k L=>⟨P,E,U,_,A,M,k,λd1 u j v1 H1 G O M1 I=>p4 (qI M1 I G.1) λp dx fs y h1 Z=>?_⟩;subst y;refine⟨p,dx,fs,rfl,h1,Z,j,E,u,_,A.mono O,M1,G.2,λds q d F H2 Y J M2 i2=>?_⟩;show jg f (.ref p::(F++[])) H2 Q E0;rw[bH];exact⟨d,d1::ds,q,K,⟨_,F,rfl,il.mono J I,i2⟩,M2,Y,L.mono<|O.trans J⟩
def XX (u:o7 X.prog X.w X.K X.mg X.ah C m k ps (jg f))(c:tF X.K C)(hr:gZ k X.A)(q:PD X o wo)(ha:rO X ZX w)
 (d:starEach ZX X.env=(false,eval e X.env)::starEach es X.env:=by rfl) (m4:(backTo pos<|starEach es X.env).any Zx=false:=by rfl)
 (ht:eval ZP X.env=(do
   let ov <- eval o X.env
   standAt gH.atName
   let (f,first) <- holding [ov] (getMethod ov m pl)
   callWith pos f first (backTo pos<|starEach ZX X.env) (backToKw pos<|keywordEach [] X.env)):=by rfl):
 PD X ZP (Kz C m f wo w):=by
 exact fw u.ex λE fd F hm hb=>(yA q c hm F hr hb .nil Eb ha d m4 ht).imp λy H Q j=>LQ j
def fR (CM:o7 X.prog X.w X.K X.mg X.ah C m k ps (jg f))(c:tF X.K C)(hr:gZ k X.A)(P:PD X o wo)
 (ht:eval aai X.env=(do
   let u <- eval o X.env
   standAt gH.atName
   let (f,first) <- holding [u] (getMethod u m pl)
   callWith pos f first (backTo pos<|starEach [] X.env) (backToKw pos<|keywordEach [] X.env)):=by rfl):
 PD X aai (Kz C m f wo A8):=by
 refine fw CM.ex λf' fd F hm hb=>(Ab P c hm F hr hb .nil Eb ht).imp λσ H Q O=>fL O λG I J K A M k L=>⟨G,I,J,_,A,M,k,λd1 j d v1 H1 y Y M1 E=>p4 (qI M1 E y.1) λp Z fs q W U=>?_⟩;subst q;exact⟨p,Z,fs,rfl,W,U,d,[d1],j,K,⟨_,[],rfl,E,rfl⟩,M1,y.2,L.mono Y⟩
structure N7 (P:ak)(w:ao)(K:aj)(mg:Str->Option av)(ah:Heap)(x:Str)(C:au)(k:Nat)(ps:List Str)(sp:Sp):Prop where
 ex:∃ f fd,ij P w K mg ah wq k f fd ps sp/\Mk K C f/\mg x=some ZY/\Binds K fd ps []
def O6 (C:au)(f:jo)(w:DA):De:=λu y K=>w u y λE j=>f (.mr j.length::E) (j++[.ins C [] []]) λd q=>d=.fX/\K (.mr j.length) q
def LR (h:tD (O6 C f w) σ H Q):Hs C (jg f) [] E0 (Py w) σ H Q:=by
 refine fL h λY Z μ K A M k L=>⟨Y,Z,μ,_,A,M,k,λds q j vs y k1 f1 M1 i1 x u hx O ne=>?_⟩;have W:gm y (upd y u<|.own x):=gm.upd O;have J:upd y u (.own x) x=none:=by rwa [fB (bB ne)]
 have fa:Fr j y j (upd y u<|.own x):=.same W;obtain⟨M2,f2⟩:=(M1.same W).snoc (m:=.ins C [] []) J ⟨u,[],eZ,rfl,rfl⟩;have U:=fa.trans f2;have E:il (j++[x]) (upd (upd y u<|.own x) x<|.ins C u []) (.mr q.length) (.ref x):=⟨x,by rw[lQ (M1.len▸aB _),M1.len,bc];rfl,rfl⟩;rw[bH];refine⟨j++[x],.mr q.length::ds,q++[.ins C [] []],_,⟨_,vs,rfl,E,i1.mono U⟩,M2,k1,λd G F v H3 I P M3 i3=>?_⟩;obtain⟨rfl,I⟩:=I;exact⟨i3,L _ G F _ H3 I ((f1.trans U).trans P) M3<|E.mono P⟩
def oE {x:Str}{f:jo}{w:DA}{p:Pos}{k:Nat}{ps:az Str}(u:N7 X.prog X.w X.K X.mg X.ah x C k ps (jg f))(hr:gZ (k+1) X.A)(q:Gl X x)(ha:rO X ZX w)
 (d:Zz=false:=by decide) (he:starEach ZX X.env=(false,eval e X.env)::starEach es X.env:=by rfl) (m4:(backTo pos<|starEach es X.env).any Zx=false:=by rfl):
 PD X ZH (O6 C f w):=by
 exact jz u.ex λE fd F M hm hb=>(D5 M F hr q hm hb .nil Eb ha d he m4).imp λy H Q j=>LR j
def RV {P:ak}{w:ao}{K:aj}{mg:Str->aA av}{ah h:Heap}{x q:Str}{st:Stmt}{f:au}{fd:aq}{k:Nat}{ps:az Str}{sp:Sp}(G:K.In h)(N:h.Ns mainGlobals mg)(F:oJ K x q st f fd)(ok:ij P w K mg ah wq k f fd ps sp)(hb:Binds K fd ps [])
 (a:W.nsIn K mainGlobals x=some (some<|.ref f):=by kernel_rfl):lN P w K mg ah x k ps sp:=⟨f,fd,ok,W.mg_of G N a,F.kp,hb⟩
def NR {P:ak}{w:ao}{K:aj}{mg:Str->aA av}{ah:Heap}{C:au}{x q:Str}{st:Stmt}{f:au}{fd:aq}{k:Nat}{ps:az Str}{sp:Sp}(F:oJ K x q st f fd)(ok:ij P w K mg ah wq k f fd ps sp)(hb:Binds K fd ps [])
 (a:W.findIn K ZY x=some (some<|.ref f):=by kernel_rfl) (i:W.isFn K aaf=true:=by kernel_rfl):o7 P w K mg ah C x k ps sp:=⟨f,fd,ok,⟨a,i,F.kp⟩,hb⟩
def NS {P:ak}{w:ao}{K:aj}{mg:Str->aA av}{ah h:Heap}{C:au}{y q:Str}{st:Stmt}{f:au}{fd:aq}{k:Nat}{ps:az Str}{sp:Sp}(G:K.In h)(N:h.Ns mainGlobals mg)(F:oJ K "__init__" q st f fd)(ok:ij P w K mg ah wq k f fd ps sp)(hb:Binds K fd ps [])
 (n:W.nsIn K mainGlobals y=some (some<|.ref C):=by kernel_rfl) (a:W.findIn K ZY "__init__"=some (some<|.ref f):=by kernel_rfl) (i:W.isFn K aaf=true:=by kernel_rfl) (m:W.makesIn K C=true:=by kernel_rfl) (p:W.keepIn K ZY=true:=by kernel_rfl):N7 P w K mg ah y C k ps sp:=⟨f,fd,ok,⟨m,a,i,p⟩,W.mg_of G N n,hb⟩
def Zg:az Str:=["places","rows","tables","whole","counts"]
theorem JN {α:Type}(p:α->Bool)(f:α->D):∀ xs:az α,xs.filterMap (λx=>if p x=true then some (f x)else none)=(xs.filter p).map f
 |[]=>rfl
 | x::xs=>by
  rw[cb,bE];by_cases h:p x=true
  .rw[aF h,aF h];show _::_=_;rw[JN p f xs];rfl
  .rw[aD h,aD h];exact JN p f xs
abbrev At (g:Heap)(b:au):Prop:=∃ u,g.get? b=some u
structure Kp (g:Heap)(l:List Env)(h h':Heap):Prop where
 other:∀ b o,h.get? b=some o->At g b->b∉yO l->h'.get? b=some o
 slot:∀ b o,h.get? b=some o->At g b->b∈yO l->∃ sl,h'.get? b=some { o with slots:=sl}
def Kp.trans (a:Kp g l h1 h2)(b:Kp g l h2 h3):Kp g l h1 h3 :=
 ⟨λc o q lt d=>b.other c o (a.other c o q lt d) lt d,λc o q lt d=>by
  refine jj (a.slot c o q lt d) λy e=>jj (b.slot c _ e lt d) λj u=>?_
  exact⟨j,u⟩⟩
def Kp.any (a:Kp g l h h')(q:h.get? b=some o)(lt:At g b):∃ sl,h'.get? b=some { o with slots:=sl}:=by
 by_cases hb:b∈yO l
 .exact a.slot b o q lt hb
 .exact⟨o.slots,a.other b o q lt hb⟩
def Kp.of (k:∀ b o,h.get? b=some o->At g b->h'.get? b=some o):Kp g l h h':=⟨λb o q lt _=>k b o q lt,λb o q lt _=>⟨o.slots,k b o q lt⟩⟩
abbrev Gk (g h:Heap):Prop:=∀ b,At g b->At h b
def Kp.gk (a:Kp g l h h')(k:Gk g h):Gk g h':=λb hb=>by exact jj (k b hb) λo e=>jj (a.any e hb) λj d=>⟨_,d⟩
def Gk.fresh (k:Gk g h):g.get? h.objs.size=none:=by
 cases q:g.get? h.objs.size with
 |none=>rfl
 |some o=>let ⟨o',e⟩:=k _ ⟨o,q⟩;exact absurd (ic e) (cn _)
def Fe (h:At g b)(d:g.get? c=none):c≠b:=λz=>by obtain⟨u,e⟩:=h;rw[<- z,d]at e;cases e
def C8 (g:Heap)(e:au)(cls j:av)(h:Heap):Prop:=∃(d:Obj) (vs:Array av) (T:au) (oT:Obj) (ts:Array av),(h.get? e=some d/\(d.cls=cls/\d.dict=none)/\d.data=.fields vs/\vs[1]?=some (.ref T)/\vs[2]?=some .none)/\(g.get? T=none/\T≠e/\h.get? T=some oT/\oT.data=.fields ts/\ts[3]?=some j)/\g.get? e=none
section
variable {s:ar}
def xB
 (J:A.frames=some (env::fb)) (hl:s.heap.FunFrames ah (env::fb)) (hf:env.frame=some L) (he:s.heap.get? e=some oe) (O:oe.dict=none) (hd:oe.data=.fields vs) (h1:1<vs.size) (h2:vs[2]?=some .none) (hn:g.get? e=none) (hs:Gk g s.heap)
 (h:∀ h',C8 g e oe.cls (rawInt L) h'->Kp g (env::fb) s.heap h'->Q () {s with heap:=h'}):
 wpAny M A (do let a <- frameOf env;let pl <- entryPlaceOf L Wj;let b <- EntryCells.newEntry head a .none (rawInt L) .none pl;setField (.ref e) 1 b) Q E s:=by
 have y:e∉(env::fb).filterMap (·.frame):=λhm=>by obtain⟨_,o,G,I⟩:=hl.mem hm;rw[he]at G;injection G with G;subst G;exact I vs hd
 refine fj (wpAny_frameOf_fun J hl hf λm x=>fj<|wpAny_entryPlaceOf λpl u=>fj<|cf ?_<|u.sizeOk5 _ _ _ _ _);obtain⟨d,j⟩:∃ d:Obj,d={ cls:=.type "traceback",dict:=none,data:=.fields ([head,.ref L,.none,rawInt L,.none]++(if pl.isEmpty then List.replicate 6 Value.none else pl)).toArray}:=⟨_,rfl⟩;rw[<- j];have e1:=(x.2.1 e y).trans he;have P:=iU d e1;have Y:(m.push d).get? m.objs.size=some d:=aL m (by rw[j];rfl);have F:=bD<|ic e1;have C:=eC hd (·.setIfInBounds 1 (Value.ref m.objs.size));have Z:=bV (Obj.mapFields (·.setIfInBounds 1 (Value.ref m.objs.size))) P<|Obj.isFreed_of_fields C;refine eK P hd h1 (h _ ⟨_,_,m.objs.size,d,_,⟨Z,⟨Obj.cls_mapFields _ _,by delta Obj.mapFields;split<;>exact O⟩,C,by simp[h1],by rw[Array.getElem?_setIfInBounds_ne Zu];exact h2⟩,⟨x.1▸hs.fresh,F,?_,by rw[j],?_⟩,hn⟩ ⟨λb o q lt hb=>?_,λb o q lt hb=>?_⟩)
 .rw[bg _ _ (bB F)];exact Y
 .first|(simp;done)|(rcases u with rfl|⟨_,_,_,_,_,_,_,rfl⟩<;> simp)
 .rw[bg _ _ (Fe lt hn)];exact iU _ ((x.2.1 b hb).trans q)
 .obtain⟨U,W⟩:=x.2.2 b o q;exact⟨U,by rw[bg _ _ (Fe lt hn)];exact iU _ W⟩
def Ca
 (d:A.frames=some (env::fb)) (hl:s.heap.FunFrames ah (env::fb)) (hf:env.frame=some L) (he:s.heap.get? e=some oe) (j:oe.dict=none) (hd:oe.data=.fields vs) (h1:vs[1]?=some .none) (h2:vs[2]?=some .none) (hn:g.get? e=none) (hs:Gk g s.heap)
 (h:∀ h',C8 g e oe.cls (rawInt L) h'->Kp g (env::fb) s.heap h'->Q () {s with heap:=h'}):wpAny M A (noteFrame (.ref e) env) Q E s:=by
 delta noteFrame;simp only[hf];exact fj (bh he hd h1<|xB d hl hf he j hd (Array.getElem?_eq_some_iff.mp h1).1 h2 hn hs h)
def F0
 (u:A.frames=some (env::fb)) (hl:s.heap.FunFrames ah (env::fb)) (hf:env.frame=some L) (hs:Gk g s.heap) (x:C8 g e cls .none s.heap)
 (h:∀ h',C8 g e cls (rawInt L) h'->Kp g (env::fb) s.heap h'->Q () {s with heap:=h'}):wpAny M A (noteFrame (.ref e) env) Q E s:=by
 obtain⟨U,P,T,W,ts,⟨F,G,hd,h1,h2⟩,⟨hn,y,C,d,I⟩,j⟩:=x;delta noteFrame;simp only[hf];refine fj<|bh F hd h1<|fj<|bh C d I<|fj<|eK C d (Array.getElem?_eq_some_iff.mp I).1 ?_;have other:∀ b,b≠T->(s.heap.update T (Obj.mapFields (·.setIfInBounds 3 Value.none))).get? b=s.heap.get? b:=λb hb=>bg _ _<|bB hb;have O:=hl.of_keeps λb o q J=>⟨o,(other b λz=>by rw[z,C]at q;cases q;exact J _ d).trans q,rfl⟩;have k0:Kp g (env::fb) s.heap (s.heap.update T (Obj.mapFields (·.setIfInBounds 3 Value.none))):=Kp.of λb o q lt=>(other b<|bB<|Fe lt hn).trans q;exact xB u O hf ((other e<|bB y).trans F) G.2 hd (Array.getElem?_eq_some_iff.mp h1).1 h2 j (k0.gk hs) λh' a k=>h h' (G.1▸a) (k0.trans k)
def tp (x:C8 g e cls fl s.heap)
 (h:∀ h',C8 g e cls .none h'->Kp g l s.heap h'->(∀ b o,s.heap.get? b=some o->(∀ vs,o.data≠.fields vs)->h'.get? b=some o)->Q () {s with heap:=h'}):wpAny M A (setFlight (.ref e) none) Q E s:=by
 obtain⟨I,vs,T,P,ts,⟨G,L,hd,h1,h2⟩,⟨hn,u,F,d,O⟩,C⟩:=x;refine fj<|bh G hd h1 ?_;have y:=(Array.getElem?_eq_some_iff.mp O).1;have j:=eC d (·.setIfInBounds 3 ((none:aA au).elim Value.none λf=>rawInt f));have other:∀ b,b≠T->(s.heap.update T (Obj.mapFields (·.setIfInBounds 3 ((none:aA au).elim Value.none λf=>rawInt f)))).get? b=s.heap.get? b:=λb hb=>bg _ _<|bB hb;refine eK F d y (h _ ⟨I,vs,T,_,_,⟨(other e<|bB u).trans G,L,hd,h1,h2⟩,⟨hn,u,bV _ F<|Obj.isFreed_of_fields j,j,by simp[y]⟩,C⟩ (Kp.of λb o q lt=>(other b<|bB<|Fe lt hn).trans q) λb o q J=>(other b λz=>by rw[z,F]at q;cases q;exact J _ d).trans q)
end
def xZ (P:ak)(w:ao):Ft:=λfb H s E ev d=>∃(e:au) (cls:av) (H':Hp) (g:Heap),ev=.ref e/\d.os=s.os/\AllBare d.gens/\Un (yO fb) [] H H' s.heap d.heap/\oW P w H' d.heap/\(Gk s.heap g/\(∀ b,H' b≠none->At g b)/\Gk g d.heap)/\C8 g e cls .none d.heap/\E cls none H'
def at_of (x:oW P w H h)(e:H a=some o):At h a:=by
 have x:=x a o e;cases o with
 |lst xs=>let ⟨_,_,_,_,e⟩:=x;exact⟨_,e⟩
 |tup xs=>let ⟨_,_,_,_,e,_⟩:=x;exact⟨_,e⟩
 |dK d=>let ⟨_,_,_,_,o,_,_,e,_⟩:=x;exact⟨_,e⟩
 |dT d=>let ⟨_,_,_,_,o,_,_,e,_⟩:=x;exact⟨_,e⟩
 |set S n=>let ⟨o,_,_,_,e,_⟩:=x;exact⟨_,e⟩
 |ins C I fs=>let ⟨_,_,_,e,_⟩:=x;exact⟨_,e⟩
 |own y=>let ⟨_,e⟩:=x;exact⟨_,e⟩
 |xd fs=>let ⟨_,⟨_,_,_,e,_⟩,_⟩:=x;exact⟨_,e⟩
 |V7 lo G=>let ⟨_,_,_,e⟩:=x;exact⟨_,e⟩
 |oZ F u=>let ⟨e,_⟩:=x;exact⟨_,e⟩
 |Of q=>exact⟨_,x⟩
 |met f y=>exact⟨_,x⟩
 |ext j=>let ⟨_,⟨_,e⟩,_⟩:=x;exact⟨_,e⟩
def JC (x:oW P w H h)(hb:∀ b,H b≠none->At g b/\b∉yO l)(k:Kp g l h h'):oW P w H h':=λa o e =>
 (x a o e).yb (λb u d q=>by
   have hn:H b≠none:=by rcases d with rfl|z<;>intro y<;>simp_all
   exact k.other b u q (hb b hn).1 (hb b hn).2) (λ_ q=>q) λ_ _ q=>q
def Inv.exit (I:Inv X aa σ H s)(P:X.ex=[])(u:Un (yO X.stack) [] H H' s.heap h1)(Q:Gk s.heap g)(k:Kp g X.stack h1 h2):Un X.fs [] X.H₀ H' X.s₀.heap h2:=by
 have nx:∀ b,b∉X.ex:=λb z=>by rw[P]at z;cases z
 have nn:∀ b:au,b∉([]:az au):=λb z=>by cases z
 have d:∀ b o,X.s₀.heap.get? b=some o->At g b:=λb o e=>by exact jj (I.ah.there b o e<|nx b) λq U=>Q b ⟨q,U⟩
 refine⟨λb o e n hb _=>?_,λb o e n hb _=>?_,λb o e n _=>?_,λb o e _=>?_,λb j e=>u.qk b j<|I.ah.qk b j e,λb o j e=>u.pY b o j<|I.ah.pY b o j e,λb O e=>?_⟩
 .have e1:=I.ah.keep b o e n hb<|nx b;have n1:=I.ah.free b o e n<|nx b;have hs:b∉yO X.stack:=λz=>by
   rcases List.mem_cons.mp (I.uJ b z)with y|y
   .exact absurd y (aN<|aR (ic e) I.ok.above)
   .exact hb y
  exact k.other b o (u.keep b o e1 n1 hs<|nn b) (d b o e) hs
 .refine jj (I.ah.slot b o e n hb<|nx b) λL e1=>?_;have n1:=I.ah.free b o e n<|nx b;exact jj (u.any e1 n1<|nn b) λJ C=>jj (k.any C<|d b o e) λF G=>⟨F,G⟩
 .exact jj (I.ah.there b o e<|nx b) λq e1=>u.free b q e1 (I.ah.free b o e n<|nx b) (nn b)
 .refine jj (I.ah.there b o e<|nx b) λq e1=>jj (u.there b q e1<|nn b) λW C=>?_;obtain⟨L,G⟩:=k.any C<|d b o e;exact⟨_,G⟩
 .obtain⟨m1,e1⟩:=I.ah.qo b O e;obtain⟨m2,C⟩:=u.qo b _ e1;exact⟨m1++m2,by rw[C,Array.append_assoc]⟩
section
variable {K:aj}
def UK:Passes (xZ P w) (o4 (xZ P w) P w K mg ah N qual scope f cd A fb s₀ H₀ E) E:=λaa σ H s ev s' I c=>by
 obtain⟨e,j,Q,g,rfl,os,bare,un,fO,⟨y,u,q⟩,ex,O⟩:=c;have C:=I.KW (s':=s') os un fO bare (λb z=>absurd z<|by simp);have d:=I.ok.frames;refine fj (F0 d C.stack rfl q ex λX G M=>tp (l:=envOfC qual scope s₀.heap.objs.size f cd::fb) G λU F L _=>?_);have k:=M.trans L;exact⟨e,j,Q,g,rfl,os.trans I.os,bare,I.exit rfl un y k,JC fO (λb hb=>⟨u b hb,λz=>hb<|C.qr b z⟩) k,⟨λb hb=>by
  refine jj hb λo e0=>jj (I.ah.there b o e0<|by simp[o4]) λJ e1=>?_
  exact y b ⟨J,e1⟩,u,k.gk q⟩,F,O⟩
def raises (I:Inv (o4 (xZ P w) P w K mg ah N qual scope f cd A fb s₀ H₀ E) aa σ H s)(x:Heap.MadeExcOf s.heap h' e cls vs)(M:E cls none H):(o4 (xZ P w) P w K mg ah N qual scope f cd A fb s₀ H₀ E).xe (.ref e) { s with heap:=h'}:=by
 have d:=I.ok.frames;refine jF x.there λt J G ht=>?_;have O:=I.stack.of_keeps λb o q _=>⟨o,x.keeps b o q,rfl⟩;have gk:Gk s.heap h':=λb L=>jj L λo q=>⟨o,x.keeps b o q⟩;refine fj (Ca d O rfl J rfl rfl rfl rfl x.new gk λU u F=>tp (l:=envOfC qual scope s₀.heap.objs.size f cd::fb) u λQ j C _=>?_);have k:=F.trans C;have un:Un (yO<|envOfC qual scope s₀.heap.objs.size f cd::fb) [] H H s.heap h':=Un.af x.keeps;have fO:=I.fO.af x.keeps;refine⟨e,cls,H,s.heap,rfl,I.os,I.bare,I.exit rfl un (λb hb=>hb) k,JC fO (λb hb=>⟨?_,λz=>hb<|I.qr b z⟩) k,⟨λb hb=>?_,λb hb=>?_,k.gk gk⟩,j,M⟩
 .cases q:H b with
  |none=>exact absurd q hb
  |some o=>exact at_of I.fO q
 .obtain⟨o,e0⟩:=hb;obtain⟨y,e1⟩:=I.ah.there b o e0 (by simp[o4]);exact⟨y,e1⟩
 .cases q:H b with
  |none=>exact absurd q hb
  |some o=>exact at_of I.fO q
end
abbrev DX:=av->MS->Prop
def qe (φ:az au)(H:Hp)(Kx:DX)(E:XK):Prop:=∀ c j d q,Kx c j->Fr φ H d q->fK d q j->E c none q
def qe.mono (h:qe φ H Kx E)(f:Fr φ H G9 H1):qe G9 H1 Kx E:=λc j d q k g M=>h c j d q k (f.trans g) M
abbrev ke:=az D->MS->DK->DX->Prop
def nj (f:ke):Sp:=λu H Q E=>∃ d q j K Kx,fg d H q u/\fK d H j/\f q j K Kx/\tZ d H K Q/\qe d H Kx E
structure qg (P:ak)(w:ao)(K:aj)(mg:Str->Option av)(ah:Heap)(x:Str)(k:Nat)(ps:List Str)(sp:Sp):Prop where
 ex:∃ f fd,ij P w K mg ah (xZ P w) k f fd ps sp/\mg x=some aaf/\W.keepIn K aaf=true/\Binds K fd ps []
structure Rz (X:Cx)(lg:List au)(H0:Hp)(Kx:DX):Prop where
 ex:∃ E:XK,qe lg H0 Kx E/\Passes (xZ X.prog X.w) X E
structure Rm (X:Cx)(lg:List au)(H0:Hp)(Kx:DX):Prop where
 ex:∃ E:XK,qe lg H0 Kx E/\Passes (xZ X.prog X.w) X E/\∀(aa:List ZE) (σ:St) (H:Hp) (s:ar) (h':Heap) (e:au) (cls:av) (vs:List av),Inv X aa σ H s->Heap.MadeExcOf s.heap h' e cls vs->E cls none H->X.xe (.ref e) {s with heap:=h'}
def Rm.z (h:Rm X lg H0 Kx):Rz X lg H0 Kx:=let ⟨E,a,b,_⟩:=h.ex;⟨E,a,b⟩
def fK.M7 (M:fK φ H μ)(e:μ[0]?=some (.gx lg H0)):Fr lg H0 φ H:=let ⟨_,_,h⟩:=M.at_ 0 _ e;h.1
def wK.nt (h:wK φ H m p)(zs:az V):H p≠some (.tup zs):=λe=>by
 cases m with
 |box=>let ⟨q,ns,i,r,z,d,_⟩:=h;rw[e]at d;cases d
 |lst ds=>let ⟨vs,d,_⟩:=h;rw[e]at d;cases d
 |gP u ds=>let ⟨j,vs,d,_⟩:=h;rw[e]at d;cases d
 |mF o j ds=>have d:=h.1;rw[e]at d;cases d
 |ins C ns ds=>let ⟨dx,fs,d,_⟩:=h;rw[e]at d;cases d
 |NB u ds=>let ⟨j,d,_⟩:=h;rw[e]at d;cases d
 |gx lg H0=>exact h.2.2.2 zs e
 |exc c=>rw[show _=_ from h]at e;cases e
def fK.ghost (M:fK φ H μ)(e:μ[0]?=some m):fK φ H (μ.set 0<|.gx φ H):=by
 have q:=(jA e).1;refine⟨M.nd,by rw[ba];exact M.len,λk n d=>?_⟩;by_cases hk:k=0
 .subst hk;rw[aV q]at d;cases d;exact eU (M.at_ 0 m e) λp e1 j=>⟨p,e1,.refl _ _,rfl,j.ex,j.nt⟩
 .rw[aK (bB hk)]at d;exact M.at_ k n d
def fK.back (M:fK φ H μ)(e:μ[0]?=some m)(j:fK oX H' μ')(u:μ'[0]?=some (.gx φ H)):fK oX H' (μ'.set 0 m):=by
 have F:=(jA u).1;refine⟨j.nd,by rw[ba];exact j.len,λk n d=>?_⟩;by_cases hk:k=0
 .subst hk;rw[aV F]at d;cases d;refine si (j.at_ 0 _ u) λy e1 f E _=>eU (M.at_ 0 m e) λp G C=>?_;have:=f.get G;rw[e1]at this;cases this;exact⟨y,e1,C.mono f λo q=>E.trans q⟩
 .rw[aK (bB hk)]at d;exact j.at_ k n d
def gK (lg:az au)(H0:Hp)(m:MO)(K:DK):DK:=λd j=>j[0]?=some (.gx lg H0)/\K d (j.set 0 m)
def gX (lg:az au)(H0:Hp)(m:MO)(K:DX):DX:=λc d=>d[0]?=some (.gx lg H0)/\K c (d.set 0 m)
def tZ.ghost {K:DK}(L:tZ φ H K Q)(M:fK φ H μ)(e:μ[0]?=some m):tZ φ H (gK φ H m K) Q:=λd q j v C ⟨u,k⟩ f y i=>L d _ j v C k f (M.back e y u) i
def qe.ghost {K:DX}(L:qe φ H K Q)(M:fK φ H μ)(e:μ[0]?=some m):qe φ H (gX φ H m K) Q:=λc j d y ⟨q,k⟩ f u=>L c _ d y k f (M.back e u q)
def RO (lg:az au)(H0:Hp)(Kx:DX)(f:ke)(w:DA):De:=λj q K=>w j q λu d=>d[0]?=some (.gx lg H0)/\f u d K Kx
def lZ (Z:Rz X lg H0 Kx)(C:qg X.prog X.w X.K X.mg X.ah x k ps (nj f))(hr:gZ k X.A)(Y:Gl X x)(ha:rO X ZX w)
 (q:Zz=false:=by decide) (he:starEach ZX X.env=(false,eval e X.env)::starEach es X.env:=by rfl) (m4:(backTo pos<|starEach es X.env).any Zx=false:=by rfl):
 PD X ZH (RO lg H0 Kx f w):=by
 refine eU Z.ex λE LX U=>jz C.ex λf' fd F hm hk hb=>?_;exact(D9 F hr Y hm hk hb .nil U ha q he m4).imp λσ H Q h_=>fL h_ λy G I K Ee M w L =>⟨y,G,I,_,Ee,M,w,λds j d J H1 u f1 M1 O=>by show nj f (J++[]) H1 Q E;rw[bH];exact⟨d,ds,j,K,Kx,O,M1,u.2,L.mono f1,LX.mono<|M1.M7 u.1⟩⟩
def RI (lg:az au)(H0:Hp)(Kx:DX)(C:au)(w:DA):Ds:=λ_ j q=>w j q λu d=>u.length<=sizeLine/\d[0]?=some (.gx lg H0)/\Kx ZY d
def iC {Zg:az av}(Z:Rm X lg H0 Kx)(hc:X.fU=true)(O:OwnCls x C bm newId X.mg X.ah)(Fn:ExcBaseFacts Bn newId inN Zg)(U:bm.contains (.type Bn)=true)
 (FB:ExcBaseFacts B nid Xd bm) (hg:Gl X x) (ha:rO X ZX w) (hd:Zz=false:=by decide)
 (he:starEach ZX X.env=(false,eval e X.env)::starEach es X.env:=by rfl) (m4:(backTo hJ<|starEach es X.env).any Zx=false:=by rfl):
 vV X (.Raise (some<|.Call (.Name x np) ZX [] hJ) none pos) (RI lg H0 Kx C w):=λd s Y H D I hq=>by
 refine fL hq λφ ρ μ N A M k L=>jF Z.ex λE LX hp mk=>?_;obtain⟨tl,Na,nm,q,bs,hdct,sn,sub,ab,col,dd,k0,k1,k2,k3,k5,mN,hC,hN,Q,T⟩:=O.obj;refine wpAny_Raise_call_subU (nm:=nm) (q:=q) (N:=Na) (bs:=bs) (hdct:=hdct) (sn:=sn) (sub:=sub) (ab:=ab) (col:=col) (dd:=dd) (k0:=k0) (k1:=k1) (k2:=k2) (k3:=k3) (k5:=k5)
  Fn U FB (T.hasType FB.hasBase) aaQ (by rw[he];show(false||(backTo hJ<|starEach es X.env).any Zx)=false;rw[m4];rfl) Q (qR I hg O.bound ⟨rfl,?_⟩ hd)
 have h:=ha hJ d s Y H (λJ j=>J.length<=sizeLine/\E ZY none j) I ⟨φ,ρ,μ,_,A,M,k,λds G F J j k1 f1 M1 i1=>⟨i1.len▸k1.1,LX ZY G F j k1.2.2 (M1.M7 k1.2.1) M1⟩⟩;rw[he]at h ⊢
 refine Calls.evalArgs_plain (b7 h (λus s2 h_=>fw h_ λJ j u r1 q1=>⟨rfl,r1.length▸q1.1,u.bk _ _ hC,hN.keeps u.bk,T.keeps u.bk,λh' e' mx=>mk d Y j s2 h' e' _ _ u mx q1.2⟩) λ_ _ y=>y)
def FX (n:Nat)(K:DX):DX:=λc d=>K c d\/((∀(j:Nat) (m:MO),j<n->d[j]?=some m->Ao n m)/\K c (d.take n))
def qe.fx {K:DX}(M:fK φ H μ)(L:qe φ H K E):qe φ H (FX μ.length K) E:=λc j d u k f y=>by
 rcases k with k|⟨hm,k⟩
 .exact L c j d u k f y
 .have q:d.take μ.length=φ:=by obtain⟨⟨F,rfl,_⟩,_,_⟩:=f;rw[<- M.len,bp]
  have C:Fr φ H (d.take μ.length) u:=by rw[q];exact⟨⟨[],by simp,λ_ h=>nomatch h⟩,f.keep,f.Wl⟩
  exact L c _ _ u k C (y.jk hm)
section
variable {K:aj}
def oJ.ui {x qual:Str}{st:Stmt}{f:au}{fd:aq}{N ps:az Str}{k:Nat}{fs:ke}(F:oJ K x qual st f fd)(S:gw N ps (fh st))(len:∀ ds μ u Kx,fs ds μ u Kx->ds.length=ps.length/\∃ m,μ[0]?=some m)
 (C:∀(d:av) (A:Around) (fb:az Env) (s:ar) (H:Hp) (E:XK),gZ k (A.deeper<|envOfC qual (fh st) s.heap.objs.size f d)->∀(lg:az au) (Kb:DX),Rm (o4 (xZ P w) P w K mg ah N qual (fh st) f d A fb s H E) lg H Kb ->
   ∃ W,Fl (o4 (xZ P w) P w K mg ah N qual (fh st) f d A fb s H E) (g9 st) W/\∀ ds μ m u Kx,(∀(j:Nat) (m':MO),(μ.set 0<|.gx lg H)[j]?=some m'->Ao (μ.set 0<|.gx lg H).length m')->nO (μ.set 0<|.gx lg H).length ds->μ[0]?=some m->fs ds μ u Kx->Kb=FX (μ.set 0<|.gx lg H).length (gX lg H m Kx) ->
    W (BX (μ.set 0<|.gx lg H).length<|gK lg H m u) (nZ N ds) (μ.set 0<|.gx lg H)):ij P w K mg ah (xZ P w) (k+1) f fd ps (nj fs):=by
 obtain⟨oc,od,kV,doc,pm,an,d,ct,YO,rfl,lk,Es⟩:=F.ex
 refine OQ lk Es S (λvs H Q E h=>?_) λA fb s H vs Q E hr Xj=>?_
 .refine UZ h λy ds μ u Kx ha M O L LX=>?_;rw[ha.len];exact(len ds μ u Kx O).1
 .refine UZ Xj λy ds μ u Kx ha M O L LX=>?_;obtain⟨_,m,U⟩:=len ds μ u Kx O;have J:=M.ghost U;have Lg:=(L.ghost M U).fz J;exact eU (C d A fb s H E hr y (FX (μ.set 0<|.gx y H).length<|gX y H m Kx) ⟨E,(LX.ghost M U).fx J,UK,λaa σ H' s' h' e cls vs I x hE=>raises I x hE⟩) λW hW q=>⟨_,hW,y,nZ N ds,μ.set 0<|.gx y H,BX (μ.set 0<|.gx y H).length<|gK y H m u,.start ha,J,q ds μ m u Kx J.bound (J.len▸ha.bound) U O rfl,⟨λSz Z Y σ' H' G f' A' M'=>Lg .fX Z Y .fX H' G f' M' rfl,Lg,λ_ _ _ _ _ G _ _ _=>G.elim,λ_ _ _ _ _ G _ _ _=>G.elim⟩⟩
end
abbrev hC (lg:az au)(H0:Hp)(k:Nat):MS->Prop:=λμ=>μ[0]?=some (.gx lg H0)/\∃ c,μ[k]?=some (.exc c)
abbrev zE:az av:=[.type "ValueError",.type "Exception",.type "BaseException",.type "object"]
def RT {K:aj}(q:W.excIn K C bmB newId=true):∃(e:az av) (ns:au) (nm j:Str) (bs:az av) (hd:Bool) (sn:az Str) (sub:az av) (ab:Bool) (col:aA Bool) (dd:aA au) (k0 k1 k2 k3 k5:aA av),
 K.lookup C=some (excClassObj nm j C ns bs e hd sn sub ab col dd k0 k1 k2 k3 k5 newId)/\W.nsOkIn K ns=true/\W.nsIn K ns "__init__"=some none/\W.tailIn K bmB e=true:=by
 delta W.excIn at q;split at q
 .rename_i dd I E G;split at q
  .rename_i J e k0 k1 k2 k3 n k5 hm hs;simp at q;obtain⟨⟨⟨⟨⟨rfl,rfl⟩,d⟩,ht⟩,fO⟩,y⟩:=q;obtain⟨nm,bs,F,ns,j,hd,sn,sub,ab,col,H⟩:=I;subst hm d;have u:E=#[k0,k1,k2,k3,some (.builtin n),k5]:=by obtain⟨l⟩:=E;simp only at hs;rw[hs]
   subst u;exact⟨e,ns,nm,j,bs,hd,sn,sub,ab,col,dd,k0,k1,k2,k3,k5,G,fO,y,ht⟩
  .cases q
 .cases q
def Qy {K:aj}{h:Heap}{mg:Str->aA av}{x:Str}{C:au}(X:K.In h)(G:h.Ns mainGlobals mg)(e:W.nsIn K mainGlobals x=some (some<|.ref C))(q:W.excIn K C zE "ValueError.__new__"=true):OwnCls x C zE "ValueError.__new__" mg h:=by obtain⟨M,ns,nm,u,bs,hd,sn,sub,ab,d,dd,k0,H,F,E,y,L,j,J,I⟩:=RT q;exact⟨W.mg_of X G e,M,ns,nm,u,bs,hd,sn,sub,ab,d,dd,k0,H,F,E,y,_,X _ _ L,.of_isNs<|W.isNs_of_in X j,W.nsMap_none_of_in X j J,W.tail_of_in X I⟩
def NQ {P:ak}{w:ao}{K:aj}{mg:Str->aA av}{ah h:Heap}{x q:Str}{st:Stmt}{f:au}{fd:aq}{k:Nat}{ps:az Str}{sp:Sp}(G:K.In h)(N:h.Ns mainGlobals mg)(F:oJ K x q st f fd)(ok:ij P w K mg ah (xZ P w) k f fd ps sp)(hb:Binds K fd ps [])
 (a:W.nsIn K mainGlobals x=some (some<|.ref f):=by kernel_rfl):qg P w K mg ah x k ps sp:=⟨f,fd,ok,W.mg_of G N a,F.kp,hb⟩
def fP {μ:MS}(em:μ[0]?=some m):(μ.set 0 n)[0]?=some n:=aV (jA em).1
def yM {μ:MS}(em:μ[0]?=some m):(μ.set 0 n).set 0 m=μ:=by
 cases μ with
 |nil=>cases em
 |cons a r=>cases em;rfl
def fY (e:Kb=FX n (gX d H m Kx))(em:μ[0]?=some m)(k:Kx c μ):(μ.set 0<|.gx d H)[0]?=some (.gx d H)/\Kb c (μ.set 0<|.gx d H):=⟨fP em,e▸.inl ⟨fP em,by rwa [yM em]⟩⟩
def jW {K:DK}(em:μ[0]?=some m)(k:K d μ):gK e H m K d (μ.set 0<|.gx e H):=⟨fP em,by rwa [yM em]⟩
def Ox (n e a b:Int):Prop:=e<a/\a<b/\b<=n
instance (n e a b:Int):Decidable (Ox n e a b):=by unfold Ox;infer_instance
section
variable {X:Cx}
def dFz (w:De):De:=λj d K=>w j d (Fz d.length K)
def y7 (h:PD X e w):PD X e (dFz w):=h.imp λy H Q u=>by exact fL u λd j q K A M k L=>⟨d,j,q,_,A,M,k,L.fz M⟩
def WE (t:TE):TE:=λq H Q=>t q H λv j=>∃ a d,v=.ref a/\j a=some (.dK d)/\∀ o,Q v (upd j a<|.oZ o<|.dK d)
def Qt (h:PE X e t):PE X e (WE t):=λd s j H Q I q =>gc (h d s j H _ I q) λv J C=>by obtain⟨x,O,F,u,a,y,ex,e1,q1⟩:=C;subst ex;exact wB (freeze F<|.inl e1) λo G L kv hd M hs E=>⟨_,_,E,u,q1 o⟩
def Yk (w:De):De:=λy C K=>w y C λx d=>match x with
 |.mr j=>∃ q u,d[j]?=some (.gP q u)/\∀(o:Obj) (fM:az abg),fM.map Zx=q->K (.mr j) (d.set j<|.mF o fM u)
 |_=>False
def vP (h:PD X e w):PD X e (Yk w):=(Qt h).imp λσ H Q U=>by
 refine fL U λI J P K A M k L=>⟨I,J,P,_,A,M,k,λd O q v1 G u f1 M1 F=>?_⟩;cases d with
 | mr k =>have y:=F;obtain⟨p,C,rfl⟩:=F;refine lJ u λks ds em u=>?_;obtain⟨p',e1,j,vs,h1,Z,Y,W⟩:=M1.at_ k _ em;rw[C]at e1;cases e1;subst Y;refine⟨p,j,rfl,h1,λo=>?_⟩;have E:Fr q G q (upd G p<|.oZ o<|.dK j):=.put<|lH C;have M2:=M1.put (m:=.mF o j ds) C ⟨eZ,W.mono E⟩;exact L _ _ q _ _ (u o j Z) (f1.trans E) M2 (y.mono E)
 |_=>exact u.elim
def Vc:De:=λ_ d K=>K (.ki [] []) d
def rC:PD X (.Dict [] [] pos) Vc:=(y7<|vP y8).imp λC H Q y=>by refine fL y λq u j K A M k L=>⟨q,u,j,K,A,M,⟨[],[],by rw[lQ aaa,bc];rfl,λo d hk=>?_⟩,L⟩;have e0:(j++[MO.gP [] []]).set j.length (.mF o d [])=j++[.mF o d []]:=gr;rw[e0];refine Fz.ki aaa (by rw[lQ aaa,bc];rfl) (show nO _ []from True.intro) (gM M.bound) ?_;rwa [bp,hk]
def Cw (i:il φ H (.ki ks ds) v):∃ p o d,v=.ref p/\H p=some (.oZ o<|.dK d)/\d.map Zx=ks/\fg φ H ds (d.map ZI):=by refine sh i λp o d E q _ C y j u=>?_;subst q;subst j;exact⟨p,o,d,rfl,C,y,u⟩
def MP (ks:az Key)(ds:az D)(y:D):aA (aA D):=(mC y).map λk=>kW (ks.zip ds) k
def Yc:xX:=λx y q K=>match x with
 |.ki u ds=>∃ d,MP u ds y=some (some d)/\K d q
 |.mr j=>∃ d,OK q j y=some (some d)/\K d q
 |_=>False
def jZ (hu:X.A.units+1<cLine)(ha:PD X a wa)(hb:PD X b wb)(hs:Lo b):PD X (.Subscript a b pos) (tV Yc wa wb):=(D7 hu ha hb hs).imp λσ H Q hq=>by
 refine fL hq λZ U μ K A M k L=>⟨Z,U,μ,_,A,M,k,λd1 F E v1 H1 k1 J M1 W=>⟨E,U,F,_,A.mono J,M1,k1,λd2 VY Y v2 H2 y C M2 i2=>?_⟩⟩;cases d1 with
 | ki ks ds =>refine eU y λd ex y=>eU (Option.map_eq_some_iff.mp ex) λk O P=>AS (Cw<|W.mono C) λp o u q G e1 ha=>?_;subst q;cases kC O i2;exact eU (rn e1 ha P) λv ev I=>⟨p,v,rfl,.inl ⟨u,k,.inr ⟨o,G⟩,rfl,ev.symm⟩,(L.mono<|J.trans C).val M2 y I⟩
 | mr j =>refine eU y λd ex y=>p4 (Js ex) λks ds k em O P=>GG (yZ M2 (W.mono C) em) λp u hp q G e1 ha=>?_;subst q;cases kC O i2;exact eU (rn e1 ha P) λv ev I=>⟨p,v,rfl,.inl ⟨u,k,G,rfl,ev.symm⟩,(L.mono<|J.trans C).val M2 y I⟩
 |_=>exact y.elim
def KC (neg:Bool):xX:=λx y d K=>match y with
 |.ki q ds=>∃ o,MP q ds x=some o/\K (.bl<|neg != o.isSome) d
 |.mr j=>∃ o,OK d j x=some o/\K (.bl<|neg != o.isSome) d
 |_=>False
def Jy {K:DK}(M:fK φ H μ)(ix:il φ H x vx)(P:il φ H y vy)(k:KC neg x y μ K)(L:tZ φ H K Q):∃ p o,vy=.ref p/\Bu H p vx o/\Q (.bl<|neg != o.isSome) H:=by
 cases y with
 | ki G O =>
  refine eU k λU ex I=>?_;obtain⟨k,J,rfl⟩:=Option.map_eq_some_iff.mp ex;refine AS (Cw P) λp o q u F e1 ha=>?_;subst u;cases kC J ix;refine⟨p,mj q k,rfl,.inl ⟨q,k,.inr ⟨o,F⟩,rfl,rfl⟩,?_⟩;have es:(mj q k).isSome=(kW (G.zip O) k).isSome:=by rcases AU k e1 ha with⟨E,C⟩|⟨d,v,E,C,_⟩<;> (rw[E,C];rfl)
  rw[es];exact L.val M I rfl
 | mr j =>
  refine eU k λU ex I=>p4 (Js ex) λG O k W J u=>?_;subst u;refine GG (yZ M P W) λp q Y u F e1 ha=>?_;subst u;cases kC J ix;refine⟨p,mj q k,rfl,.inl ⟨q,k,F,rfl,rfl⟩,?_⟩;have es:(mj q k).isSome=(kW (G.zip O) k).isSome:=by rcases AU k e1 ha with⟨E,C⟩|⟨d,v,E,C,_⟩<;> (rw[E,C];rfl)
  rw[es];exact L.val M I rfl
 |_=>exact k.elim
def Pp (h:tD (tV (KC false) wa wb) σ H Q):Ti (tD wa) (tD wb) σ H Q:=by refine fL h λF u I K A M k L=>⟨F,u,I,_,A,M,k,λZ j d W H1 O C M1 P=>⟨d,u,j,_,A.mono C,M1,O,λY G E U H2 J y M2 i2=>fw (Jy M2 (P.mono y) i2 J<|L.mono<|C.trans y) λp o e g q=>?_⟩⟩;rw[OP]at q;exact⟨p,o,e,g,q⟩
def FE (h:tD (tV (KC true) wa wb) σ H Q):Dx (tD wa) (tD wb) σ H Q:=by refine fL h λF u I K A M k L=>⟨F,u,I,_,A,M,k,λZ j d W H1 O C M1 P=>⟨d,u,j,_,A.mono C,M1,O,λY G E U H2 J y M2 i2=>fw (Jy M2 (P.mono y) i2 J<|L.mono<|C.trans y) λp o e g q=>?_⟩⟩;rw[SY]at q;exact⟨p,o,e,g,q⟩
def Hr (j:X.A.units+1<cLine)(ha:PD X a wa)(hb:PD X b wb)(d:behindInMarks .In b=false):Fj X (.Compare a [.In] [b] pos) (mI<|tV (KC false) wa wb):=(yy (Qw j ha hb) d).imp λy H Q u=>Dy (λQ q=>Pp q) u
def qp (j:X.A.units+1<cLine)(ha:PD X a wa)(hb:PD X b wb)(d:behindInMarks .NotIn b=false):Fj X (.Compare a [.NotIn] [b] pos) (mI<|tV (KC true) wa wb):=(yy (FU j ha hb) d).imp λy H Q u=>Dy (λQ q=>FE q) u
def SJ (μ:MS):D->aA (az Key×az D)
 |.ki ks ds=>some (ks,ds)
 |.mr j=>tU μ j
 |_=>none
def y0 (M:fK φ H μ)(i:il φ H d v)(h:SJ μ d=some q):∃ p u,v=.ref p/\Rd H p (.dK u)/\u.map Zx=q.1/\fg φ H q.2 (u.map ZI):=by
 cases d with
 | ki E ds =>cases h;refine AS (Cw i) λp o u y C e1 ha=>?_;subst y;exact⟨p,u,rfl,.inr ⟨o,C⟩,e1,ha⟩
 | mr j =>refine GG (yZ M i h) λp u F y C e1 ha=>?_;subst y;exact⟨p,u,rfl,C,e1,ha⟩
 |_=>cases h
def Ru:jo:=λj d K=>dM [.v] j λx=>opt (SJ d x) λq=>K (.mr d.length) (d++[.gP q.1 q.2])
def uN:kz B2 Ru:=λC H P U O K Q M h k L=>by obtain⟨_,rfl,k⟩:=dJ k;obtain⟨v,r,rfl,G,F⟩:=h;cases F;let ⟨q,em,k⟩:=fS k;obtain⟨p,j,rfl,E,e1,ha⟩:=y0 M G em;refine⟨j,E,λy d=>?_⟩;have f:Fr C H (C++[y]) (upd H y<|.dK j):=⟨(Fr.snoc d).ext,λc u _ e=>gm.upd d _ _ e,λc e=>(gm.upd d).free e⟩;obtain⟨J,I⟩:=M.snoc (m:=.gP q.1 q.2) d ⟨j,_,eZ,e1,rfl,ha.mono f⟩;exact L _ _ _ _ _ k I J ⟨y,by rw[lQ (by rw[M.len];exact aB _),M.len,bc];rfl,rfl⟩
def Ig:az V->Hp->VK->Prop:=λj H Q=>match j with
 |[.ref a]=>∃ d,Rd H a (.dK d)/\Q (.int d.length) H
 |_=>False
def W6:h9 X (.builtin "len") Ig:=by
 intro j s G H J L Q I r h;delta Ig at h;split at h
 .refine eU h λE C q=>eU r.one λu d y=>?_;subst d;subst y;exact U7 I C λt M F=>⟨.int _,H,F,⟨t,rfl⟩,q⟩
 .cases h
def US:jo:=λj d K=>dM [.v] j λx=>opt (SJ d x) λq=>K (.int q.1.length) d
def LZ:kz Ig US:=λE H G I F K Q M h k L=>by
 obtain⟨_,rfl,k⟩:=dJ k;obtain⟨v,r,rfl,y,u⟩:=h;cases u;let ⟨q,em,k⟩:=fS k;obtain⟨p,d,rfl,j,e1,ha⟩:=y0 M y em;have C:d.length=q.1.length:=by rw[<- e1,fI]
 exact⟨d,j,by rw[C];exact L.val M k rfl⟩
def BY:az V->Hp->VK->Prop:=λj H Q=>match j with
 |[.ref a]=>∃ d,Rd H a (.dK d)/\∀ p,H p=none->Q (.ref p) (upd H p<|.lst<|d.map λkv=>kV kv.1)
 |_=>False
theorem _root_.L2.fF.ve:∀ {xs:az V} {us:az av},xs.length=us.length->(∀(i:Nat) (x:V) (u:av),xs[i]?=some x->us[i]?=some u->fH x u)->fF xs us
 | [],us,hl,_=>by cases us with
  |nil=>exact .nil
  |cons v r=>simp at hl
 | d::ds,us,hl,h=>by cases us with
  |nil=>simp at hl
  |cons v r=>exact .cons (h 0 d v rfl rfl) (fF.ve (by simpa using hl) λi a b e1 e2=>h abe a b (by simpa using e1)<|by simpa using e2)
def Gd (kv:KV fM vs)(h:ItemsOf (λi v=>∃ k x,vs[i]?=some (k,x)/\(f9 X.prog X.w).is k v=true) acc vs.length):fF (fM.map λkv=>kV kv.1) acc.toList:=by
 refine fF.ve (by rw[fI,kv.length,<- h.1];exact(cP).symm) λi x u e1 C=>?_;rw[mD]at e1;cases q:fM[i]? with
 |none=>rw[q]at e1;cases e1
 | some p =>rw[q]at e1;cases e1;refine jj (Ec kv q) λv j=>lJ (h.2 i u<|by rwa [<- Array.getElem?_toList]) λk x d y=>?_;rw[j]at d;cases d;exact Jp y
def Ji (fU:X.fU=true):h9 X (.type "list") BY:=by
 intro d s E H U Z Q I r h;delta BY at h;split at h
 .rename_i a;refine eU h λC G q=>eU r.one λu y F=>?_;subst y;subst F;obtain⟨z,hd,Y,rel,dd⟩:=lY I.fO G;refine jj dd.dictAt λep M=>W.kdl_call (W.kdl_dict hd) (I.ok.hd fU) M (rel.length▸‹_›) λL tk j O kp hl J=>?_;have P:Inv X d E (upd H s.heap.objs.size<|.lst<|C.map λkv=>kV kv.1) {s with heap:=L,toks:=tk}:=I.laid (t':=tk) kp aaa ⟨by rwa [fI],j.toList,O,Gd rel J,hl⟩;exact⟨.ref s.heap.objs.size,_,P,rfl,q _<|I.fO.fresh<|aB _⟩
 .cases h
def Rn (m:Bool):jo:=λj d K=>dM [.v] j λx=>opt (SJ d x) λq=>nL m (q.1.map ou) d K
theorem Aw:∀(d:az abg),fg φ H ((d.map Zx).map ou) (d.map λkv=>kV kv.1)
 |[]=>rfl
 |p::d=>⟨_,_,rfl,yH _,Aw d⟩
def uL:kz BY (Rn m):=λE H G J F K Q M h k L=>by obtain⟨_,rfl,k⟩:=dJ k;obtain⟨v,r,rfl,C,y⟩:=h;cases y;let ⟨q,em,k⟩:=fS k;obtain⟨p,d,rfl,u,e1,ha⟩:=y0 M C em;refine⟨d,u,λI j=>?_⟩;rw[<- e1]at k;exact CT L M (Aw d) k j
def Yh (w:De):DI:=λq u K=>w q u λd j=>match d with
 |.ki y ds=>K (y.map ou) (λ_=>True) j
 |_=>False
def Ep (h:PD X a w):Bt X tg a (Yh w):=(Mt h).imp λσ H Q G=>by
 refine fL G λP U Z K A M k L=>⟨P,U,Z,_,A,M,k,λd W u v1 H1 I f1 M1 i1=>?_⟩;cases d with
 | ki ks ds =>
  refine sh i1 λp o F vs E hn J C y h3=>?_;subst E;subst C;subst y;refine⟨p,F,rfl,.inr ⟨o,J,L _ _ _ u _ _ I f1 M1 λO H' Y f' M' c i=>?_⟩⟩;have j:=f'.keep _ _ hn J;refine⟨λd hd=>⟨⟨?_,j⟩,λx SS hy=>?_⟩,λhi=>⟨by rw[hi,fI,fI];exact aB _,j⟩⟩
  .have:=(jA hd).1;rwa [fI,fI]at this
  .obtain⟨rfl,q,G,rfl⟩:=hy;rw[mD,mD,G]at hd;cases hd;exact⟨.refl _ _,M',yH _⟩
 |_=>exact I.elim
def Yz (a:au)(o:Obj)(d:az abg):It:=⟨λi H=>i<d.length/\H a=some (.oZ o<|.dK d),λi H x j=>j=H/\∃ p,d[i]?=some p/\x=p.2,λi H=>d.length<=i/\H a=some (.oZ o<|.dK d)⟩
def vd {j:Type}{d:az (j×V)}{vs:az (j×av)}(h:KV d vs):∀ {i:Nat} {p:j×V},d[i]?=some p->∃ v,vs[i]?=some (p.1,v)/\fH p.2 v:=by
 induction h with
 |nil=>intro i p e;contradiction
 | @cons a b as bs r _ q =>
  intro i p e;cases i with
  | zero =>simp at e;subst e;refine⟨b.2,?_,r.2⟩;rw[r.1];rfl
  |succ i=>exact q (by simpa using e)
def x9 {K:aj}(a it:au){o:Obj}(kv:KV fM vs)(hd:∀ h:Heap,h.get? a=some o->h.DictAt (f9 P w) a vs ep):
 Turn P w K tg (Yz a o fM) [it] it (λi h=>h.IsValIter it a i vs.length ep) where
 mem:=by simp
 obj:=λi h j b hb=>by
  have e:b=it:=by simpa using hb
  subst e;exact jF j λo e c d=>⟨o,e,λv z=>by rw[d]at z;cases z⟩
 keep:=λi h O j k=>by exact eU j λo e c=>⟨o,k it ZN o e,c⟩
 item:=by intro X L C M hc i q s σ H E I y j J;subst L C M;refine gv J λhi F=>?_;obtain⟨p,hp⟩:∃ p,fM[i]?=some p:=⟨_,iO hi⟩;refine eU (vd kv hp) λv hv rv=>?_;have G:=(I.fO a _ F).1;refine p5 (y it<|by simp) λf0 Z f2 Y U Q=>wpAny_pyNext_values_item j (hd _ G) hv λO u sb=>?_;have I1:Inv X q σ H {s with heap:=O}:=I.turned (t':=s.toks) aau f0 Z Y U Q;exact jF (id u) λoi e c d=>⟨v,rfl,AE e c d Zu ⟨p.2,H,I1,rv,⟨rfl,p,hp,rfl⟩,u,λb hb=>(y b hb).1⟩⟩
 done:=by intro X L C M hc i q s σ H E I y j J;subst L C M;refine gv J λhi F=>?_;have G:=(I.fO a _ F).1;refine p5 (y it<|by simp) λf0 Z f2 Y U Q=>?_;have hl:=KV.length kv;exact wpAny_pyNext_values_end aaQ j (hd _ G) (List.getElem?_eq_none_iff.mpr<|by lia) λO eb=>⟨rfl,I.turned (t':=s.toks) (λb o hb e=>eb b o hb e) f0 Z Y U Q⟩
 self:=λ_ _ _ _ _ j h=>wpAny_pyIter_valiter j h
end
def ER (I:Inv X aa σ H s)(j:Rd H p (.dK fM)):s.TypeIs (.ref p) "dict"/\∀ a,Value.ref p=.ref a->∃ d,s.heap.get? a=some d/\d.dict=none:=by obtain⟨_,_,_,_,d,_,_,e,ex,_⟩:=lY I.fO j;exact⟨⟨d,e,ex.1⟩,λa q=>by cases q;exact⟨d,e,ex.2.1⟩⟩
def xj (P:PE X o t)(I:Inv X aa σ H s)
 (h:t σ H λx E=>∃ d y,x=.ref d/\Rd E d (.dK y)/\∀ j,Inv X aa σ E j->∀ v,v<j.heap.objs.size->(∀ b,E b≠none->b≠v)->E v=none->j.heap.IsValuesView v d->Q (.ref v) j)
 (u:attributeBase o "values" X.env aaF=eval o X.env:=by rfl) (kN:aac=true:=by rfl):wpAny Zt X.A (eval (.Call (.Attribute o "values" gH) [] [] hJ) X.env) Q X.xe s:=by
 refine eH u kN (gc (P aa s σ H _ I h) λv j O=>?_);obtain⟨x,E,C,M,d,y,ex,G,q⟩:=O;subst ex;subst M;obtain⟨z,hd,L,rel,dd⟩:=lY C.fO G;exact gv (ER C G) λJ U=>⟨"dict","dict.values",F.plainAttrs_dict,F.slot_dict_values,F.type_dict_values,J,U,cV rfl (PySem.evalArgs_none<|call_meetsIn F.slot_dict_values J F.entry_dict_values (F.args_dict_values_1 _) (meets_dict_values (f9 X.prog X.w) d hd) ⟨⟨L,dd⟩,q _ (C.af (t':=j.toks) λb o e=>iU _ e) j.heap.objs.size (by show _<(j.heap.objs.push _).size;rw[Array.size_push];exact bZ _) (λb hb e=>hb<|e▸C.fO.fresh aaa) (C.fO.fresh<|aB _) ⟨_,aL _ rfl,rfl,rfl⟩⟩)⟩
def Vi (w:De):DI:=λq u K=>w q u λd j=>match d with
 |.ki y ds=>y.length=ds.length->K ds (λ_=>True) j
 |_=>False
def Gh (h:PD X o w)(j:attributeBase o "values" X.env aaF=eval o X.env:=by rfl)(kN:aac=true:=by rfl):Bt X tg (.Call (.Attribute o "values" gH) [] [] hJ) (Vi w):=by
 intro Y s σ H R I W;refine fL W λφ ρ μ K A M k L=>xj h I ⟨φ,ρ,μ,_,A,M,k,λd Od O v1 H1 k1 f1 M1 i1=>?_⟩ j kN;cases d with
 | ki ks ds =>
  refine sh i1 λp Z y vs U hn J Q P h3=>?_;subst U;subst Q;subst P;refine⟨p,y,rfl,.inr ⟨Z,J⟩,λG F v hv Wh hvn u=>wB (freeze F<|.inr ⟨Z,J⟩) λo' SX ep kv hd da hs I2=>?_⟩;have ho:=(F.fO p _ J).1;have C:=(I2.fO p _ eZ).1;rw[ho]at C;cases C;refine wpAny_pyIter_values u da ?_;have hl:ds.length=y.length:=by have:=h3.len;rw[fI]at this;exact this.symm
  refine⟨G.heap.objs.size,[G.heap.objs.size],_,_,H1,rfl,F.af (t':=G.toks) λb o e=>iU _ e,x9 p _ kv hd,⟨_,aL _ rfl,rfl,rfl⟩,λb hb=>?_,?_⟩
  .have e:b=G.heap.objs.size:=by simpa using hb
   subst e
   exact F.wz aaa (F.fO.fresh<|aB _)
  .refine L _ _ _ O _ _ (k1<|by rw[fI,hl]) f1 M1 λoX H' μ' f' M' c i=>?_;have E:=f'.keep _ _ hn J;refine⟨λd hd=>⟨⟨?_,E⟩,λx SS hy=>?_⟩,λhi=>⟨by lia,E⟩⟩
   .have:=(jA hd).1;lia
   .obtain⟨rfl,q,W,rfl⟩:=hy;refine eU ((h3.mono f').get hd) λv' e1 e2=>?_;rw[mD,W]at e1;cases e1;exact⟨.refl _ _,M',e2⟩
 |_=>exact k1.elim
def RK (m:Bool)(w:De):De:=λu y K=>w u y λd j=>opt (SJ j d) λq=>nL m q.2 j K
def Hj {d:az abg}(kv:KV d vs)(h:ItemsOf (λi v=>∃ k,vs[i]?=some (k,v)) acc vs.length):fF (d.map ZI) acc.toList:=by
 refine fF.ve (by rw[fI,kv.length,<- h.1];exact(cP).symm) λi x u e1 E=>?_;rw[mD]at e1;cases q:d[i]? with
 |none=>rw[q]at e1;cases e1
 | some p =>rw[q]at e1;cases e1;refine eU (vd kv q) λv C y=>jj (h.2 i u<|by rwa [<- Array.getElem?_toList]) λk j=>?_;rw[C]at j;cases j;exact y
def CP (m:Bool)(fU:X.fU=true)(hg:Gl X "list")(hm:X.mg "list"=none)(h:PD X o w)(j:attributeBase o "values" X.env aaF=eval o X.env:=by rfl)(kN:aac=true:=by rfl)
 (MT:starEach [.Call (.Attribute o "values" gH) [] [] hJ] X.env=[(false,eval (.Call (.Attribute o "values" gH) [] [] hJ) X.env)]:=by rfl):
 PD X (.Call (.Name "list" p) [.Call (.Attribute o "values" gH) [] [] hJ] [] pos) (RK m w):=by
 intro y s Z H Q I hq;refine cE (ku I hg hm boot_list<|fL hq λY ρ μ K A M k L=>bA (dt<|xj h I ⟨Y,ρ,μ,_,A,M,k,λd Od U v1 H1 O f1 M1 i1=>?_⟩ j kN) MT rfl);refine eU (fS O) λq em O=>jz (y0 M1 i1 em) λp' C J P e1 ha=>?_;subst J;refine⟨p',C,rfl,P,λG F v hv Wh hvn u=>dG ?_⟩;obtain⟨z,hd,vs,rel,dd⟩:=lY F.fO P;refine jj dd.dictAt λep da=>W.kdl_call (W.kdl_values) (F.ok.hd fU) ⟨u,da⟩ (rel.length▸‹_›) λh' tk E c' kp hl it=>?_;have I2:Inv X y Z (upd H1 G.heap.objs.size (.lst (C.map ZI))) { G with heap:=h',toks:=tk}:=F.laid (t':=tk) kp aaa ⟨by rwa [fI],E.toList,c',Hj rel it,hl⟩;exact⟨.ref G.heap.objs.size,_,I2,rfl,CT (L.mono f1) M1 ha O<|F.fO.fresh<|aB _⟩
def tT:entryFor table "dict_itemiterator.__iter__"=some Builtin.«dict_keyiterator.__iter__»:=entryFor_alias (id<|Eq.refl<|fastTable "dict_itemiterator.__iter__") rfl (by decide +kernel) (id<|Eq.refl<|fastTable "dict_keyiterator.__iter__")
def z6 (st:IsItemIter s.heap it d i n ep ok ov)(h:Q (.ref it) s):wpAny Zw A (pyIter<|.ref it) Q E s:=by have j:s.TypeIs (.ref it) "dict_itemiterator":=⟨_,st,rfl⟩;refine wpAny_pyIter_slot j F.slot_dict_itemiterator_iter<|cy F.slot_dict_itemiterator_iter j tT ?_<|F.args_dict_itemiterator_iter_1 _;have hn:=F.slot_dict_itemiterator_next.lookup;exact aC ⟨.ref it,rfl,_,_,j,hn,h⟩
def Iti (a:au)(o:Obj)(d:az abg):It:=⟨λi H=>i<d.length/\H a=some (.oZ o<|.dK d),λi H x j=>∃ T p,x=.ref T/\H T=none/\d[i]?=some p/\j=upd H T (.tup [kV p.1,p.2]),λi H=>d.length<=i/\H a=some (.oZ o<|.dK d)⟩
def BG {K:aj}(a it:au)(kv:KV fM vs)(hd:∀ h:Heap,h.get? a=some o->h.DictAt (f9 P w) a vs ep):
 Turn P w K aan (Iti a o fM) [it] it (λi h=>∃ ok j,IsItemIter h it a i vs.length ep ok j) where
 mem:=by simp
 obj:=λi h d b hb=>by
  have e:b=it:=by simpa using hb
  subst e;exact GH d λok j e=>⟨_,e,λv z=>by cases z⟩
 keep:=λi h h' d k=>by exact GH d λok j e=>⟨ok,j,k it ZN _ e⟩
 item:=by
  intro X hP O hK hc i u s σ H E I J d Y;subst hP O hK;refine GH d λok j d=>gv Y λhi Q=>?_;obtain⟨p,hp⟩:∃ p,fM[i]?=some p:=⟨_,iO hi⟩;refine eU (vd kv hp) λv hv rv=>?_;have U:s.heap.get? a=some o:=(I.fO a _ Q).1;refine wpAny_pyNext_items_item d (hd _ U) hv λkey h1 G out hT hsz qU=>⟨_,rfl,wpAny_letOwnedTupleGo_items out λh2 L F=>?_⟩;have C:it<s.heap.objs.size:=ic d;have M:=bD C;have Z:=(F.2 _ M).trans hT;have kp:∀ b o,b∉[it]->s.heap.get? b=some o->h2.get? b=some o:=λb o hb q=>by have b1:b≠it:=λz=>hb (by simp[z]);exact(F.2 b b1).trans (qU b o b1 q)
  have hn:=I.fO.fresh<|aB _;have I1:=I.wU (ch:=[it]) (h'':=h2) (x:=kV p.1) (y:=p.2) J kp Z (Jp G) rv;refine⟨.ref s.heap.objs.size,_,I1,rfl,⟨_,p,rfl,hn,hp,rfl⟩,⟨_,_,L⟩,λb hb=>?_⟩;rw[fB]
  .exact(J b hb).1
  .have e:b=it:=by simpa using hb
   rw[e];exact aN C
 done:=by intro X hP O hK hc i u s σ H E I J d Y;subst hP O hK;refine GH d λok j d=>gv Y λhi Q=>?_;have U:s.heap.get? a=some o:=(I.fO a _ Q).1;refine p5 (J it<|by simp) λf0 f1 f2 f3 f4 f5=>?_;have hl:=KV.length kv;exact wpAny_pyNext_items_end aaQ d (hd _ U) (List.getElem?_eq_none_iff.mpr<|by lia) λh' eb=>⟨rfl,I.turned (t':=s.toks) (λb o hb e=>eb b o hb e) f0 f1 f3 f4 f5⟩
 self:=λ_ _ _ _ _ d h=>let ⟨_,_,e⟩:=d;z6 e h
def Iw (P:PE X o t)(I:Inv X aa σ H s)
 (h:t σ H λx E=>∃ d y,x=.ref d/\Rd E d (.dK y)/\∀ u,Inv X aa σ E u->∀ v,u.heap.IsItemsView v d->Q (.ref v) u)
 (j:attributeBase o "items" X.env aaF=eval o X.env:=by rfl) (kN:aac=true:=by rfl):wpAny Zt X.A (eval (.Call (.Attribute o "items" gH) [] [] hJ) X.env) Q X.xe s:=by
 refine eH j kN (gc (P aa s σ H _ I h) λv u O=>?_);obtain⟨x,E,C,M,d,y,ex,G,q⟩:=O;subst ex;subst M;obtain⟨z,hd,L,rel,dd⟩:=lY C.fO G;exact gv (ER C G) λJ U=>⟨"dict","dict.items",F.plainAttrs_dict,F.slot_dict_items,F.type_dict_items,J,U,cV rfl (PySem.evalArgs_none<|call_meetsIn F.slot_dict_items J F.entry_dict_items (F.args_dict_items_1 _) (meets_dict_items (f9 X.prog X.w) d hd) ⟨⟨L,dd⟩,q _ (C.af (t':=u.toks) λb o e=>iU _ e) u.heap.objs.size ⟨_,aL _ rfl,rfl,rfl⟩⟩)⟩
def Yg (w:De):DI:=λu y K=>w u y λd j=>match d with
 |.ki q ds=>q.length=ds.length->K (List.zipWith (λk d=>D.tup [ou k,d]) q ds) (λ_=>True) j
 |_=>False
def AB (h:PD X o w)(C:attributeBase o "items" X.env aaF=eval o X.env:=by rfl)(kN:aac=true:=by rfl):Bt X aan (.Call (.Attribute o "items" gH) [] [] hJ) (Yg w):=by
 intro aa s σ H R I P;refine fL P λφ ρ μ K A M k L=>Iw h I ⟨φ,ρ,μ,_,A,M,k,λd Od U v1 H1 k1 f1 M1 i1=>?_⟩ C kN;cases d with
 | ki ks ds =>
  refine sh i1 λp oo j vs y hn Q u Y h3=>?_;subst y;subst u;subst Y;refine⟨p,j,rfl,.inr ⟨oo,Q⟩,λO J v E=>wB (freeze J<|.inr ⟨oo,Q⟩) λo' SX ep kv hd da hs I2=>?_⟩;have ho:=(J.fO p _ Q).1;have F:=(I2.fO p _ eZ).1;rw[ho]at F;cases F;refine wpAny_pyIter_items E da ?_;have hl:ds.length=j.length:=by have:=h3.len;rw[fI]at this;exact this.symm
  refine⟨O.heap.objs.size,[O.heap.objs.size],_,_,H1,rfl,J.af (t':=O.toks) λb o e=>iU _ e,BG p _ kv hd,⟨_,_,aL _ rfl⟩,λb hb=>?_,?_⟩
  .have e:b=O.heap.objs.size:=by simpa using hb
   subst e
   exact J.wz aaa (J.fO.fresh<|aB _)
  .refine L _ _ _ U _ _ (k1<|by rw[fI,hl]) f1 M1 λW H' μ' f' M' c i=>?_;have G:=f'.keep _ _ hn Q;have lz:(List.zipWith (λk d=>D.tup [ou k,d]) (j.map Zx) ds).length=j.length:=by rw[bO,fI,hl,Nat.min_self]
   refine⟨λd hd=>⟨⟨?_,G⟩,λx SS hy=>?_⟩,λhi=>⟨by lia,G⟩⟩
   .have:=(jA hd).1;lia
   .refine jz hy λT q y Z P u=>?_;subst y;subst u;rw[bU,mD,P]at hd;cases e1:ds[i]? with
    |none=>rw[e1]at hd;cases hd
    | some dd =>rw[e1]at hd;cases hd;refine eU ((h3.mono f').get e1) λv' e2 e3=>?_;rw[mD,P]at e2;cases e2;have fn:=Fr.new (φ:=W) (o:=.tup [kV q.1,q.2]) Z;exact⟨fn,M'.same<|gm.upd Z,T,_,rfl,M'.fresh Z,eZ,_,_,rfl,yH _,_,_,rfl,e3.mono fn,rfl⟩
 |_=>exact k1.elim
def Bj {a c n:Nat}(d:a<=c)(j:c=n):sliceBounds (some (a:Int)) none none n=((a:Int),(c:Int),1):=by
 simp only[sliceBounds,Option.getD_none];have e:¬ ((a:Int)<0):=by lia
 simp only[e,d0,show(1:Int)>0 by decide,d7];congr 1
 .lia
 .congr 1;lia
set_option maxRecDepth 100000 in
def uT {l b sl:au}{items new:Array av}{n n2:Nat}{vl vu:av}{a c:Nat}{Q:Unit->ar->Prop}
 (e:s.heap.get? l=some { cls:=.type "list",data:=.seq items n}) (e2:s.heap.get? b=some { cls:=.type "list",data:=.seq new n2}) (Wh:l≠b)
 (hs:s.heap.IsSliceOf sl vl vu .none) (pl:IsPart vl (some (a:Int))) (pu:IsPart vu none) (Wi:c=items.size) (hac:a<=c) (hc:c<=items.size)
 (hsz:items.size+new.size<=sizeLine) (h:Q () {s with heap:=s.heap.update l (Obj.mapSeq λxs=>xs.extract 0 a++new++xs.extract c xs.size)}):
 wpAny Zw A (setItem (.ref l) (.ref sl)<|.ref b) Q E s:=by
 have hl:s.heap.IsList l items:=PySem.IsL.isList e;have hb:s.heap.IsList b new:=PySem.IsL.isList e2;obtain⟨os,We,hcs,Xr⟩:=id hs;have Y3:s.TypeIs (.ref sl) "slice":=⟨os,We,hcs⟩;have Uw:¬ ((rawPart none==rawInt 0)=true):=aZ;have JA:Builtin.List.listSameRef (.ref l) (.ref b)=false:=by unfold Builtin.List.listSameRef;exact beq_eq_false_iff_ne.mpr Wh
 have Xn:(max (a:Int) (c:Int)).toNat=c:=by lia
 have hz':((λxs:Array av=>xs.extract 0 a++new++xs.extract c xs.size) items).size<=sizeLine+1:=by simp only[Array.size_append,Array.size_extract];lia
 unfold setItem;try with_reducible refine cg ?_
 first|refine fj (aC ?_)|skip
 refine fj (wpAny_sequenceKey hl.typeIs Zu ?_);refine fj (bW (name:=Str.ofString "__setitem__") hl.typeIs slot_list_setitem
  (cy slot_list_setitem hl.typeIs entry_list_setitem ?_<|args_list_setitem _ _ _))
 show wpAny _ _ (Builtin.List.listSubscript? (.ref sl)>>=_) _ _ s;refine fj ?_;unfold Builtin.List.listSubscript?;refine fj<|wpAny_specialOf Y3 slice_no_index ?_;simp only[Option.isNone_none,d7];refine aC ?_;show wpAny _ _ (typeOf (.ref sl)>>=_) _ _ s;refine fj<|wpAny_typeOf Y3 ?_;first
  |rw[aD Zu]
  |refine W.KFB.if_not Zu ?_
 rw[listSliceParts_eq];refine fj<|fj<|bh We Xr (x:=.none) rfl (fj<|wpAny_listPart .none ?_);rw[aD Uw];refine fj<|bh We Xr (x:=vl) rfl (fj<|wpAny_listPart pl ?_);refine fj<|bh We Xr (x:=vu) rfl (fj<|wpAny_listPart pu<|aC ?_);first
  |simp only[JA,c5,d0]
  |refine W.KFB.if_not JA ?_
  | (dsimp only
     rw[aD (by rw[JA];exact aZ)])
 refine fj (m:=Builtin.List.listAllItems (.ref b) "must assign iterable to extended slice") ?_;unfold Builtin.List.listAllItems;refine fj<|wpAny_typeOf hb.typeIs ?_;first
  |refine W.KFB.if_so Zu ?_
  |rw[aF Zu]
  |simp only[cX,Bool.true_or,d7]
 unfold Builtin.List.listItems;refine fj<|bT e2 rfl (aC ?_);refine fj<|fj<|bT e rfl (aC ?_);refine fj (wpAny_of_eq ((sliceIndices_raw (some (a:Int)) none none items.size<|by simp).trans<|b8 (pure:Int×Int×Int->Sem (Int×Int×Int))<|Bj (c:=c) hac Wi) ?_);show wpAny _ _ (if((1:Int)==1)=true then _ else _) _ _ s;rw[aF Zu];refine fj<|ew ?_;first
  |simp only[vf hsz,c5,d0]
  |refine W.KFB.if_not (vf hsz) ?_
 first|refine fj (aC ?_)|skip
 show wpAny _ _ (updateSeq l (λxs=>xs.extract 0 ((a:Int)).toNat++new++xs.extract (max (a:Int) (c:Int)).toNat xs.size)>>=_) _ _ s;rw[Xn,BA];refine fj<|cM (hz:=aT (aU _ _) hsz) (_hz':=hz') e rfl ?_;refine fj<|dc ?_;first
  |exact fj (aC<|aC ⟨.none,rfl,aC h⟩)
  |exact aC ⟨.none,rfl,aC h⟩
def sq (it:D->MS->(aA aap->MS->Prop)->Prop)(c:MS->Prop)(μ:MS):az D->az aap->(az aap->Prop)->Prop
 |[],j,K=>c aat/\K j
 | d::ds,j,K=>c aat/\it d aat λo μ'=>μ'=μ++[.gP (j.map Zx) (j.map ZI)]/\(match o with
  |some (k,y)=>sq it c μ ds (dput j k y) K
  |none=>sq it c μ ds j K)
def KG (E:DI)(js:az (aA Nat))(y:DG)(t:Dt)(wk wv:De):De:=λq C K=>E q C λu c d=>u.length<=sizeLine/\sq (y9 (mR js q) y t wk wv) c d u [] λj=>K (.mr d.length) (d++[.gP (j.map Zx) (j.map ZI)])
def Hv (so:Lf g y S)(mo:nE g)(ho:pB S js=true)(h:tD (KG wi js y t wk wv) σ H Q):BL (V2 wi) js g (wj t) (tD wk) (tD wv) σ H Q:=by
 refine fL h λφ ρ μ K A M k L=>⟨φ,ρ,μ,_,A,M,k,λG c C j J H1 k1 f1 M1 Z D hD=>?_⟩;obtain⟨hz,k1⟩:=k1;have fD:Fr j H1 (j++[D]) (upd H1 D<|.dK []):=⟨(Fr.snoc (φ:=j) hD).ext,λc u _ e=>gm.upd hD _ _ e,λc e=>(gm.upd hD).free e⟩;obtain⟨MD,_⟩:=M1.snoc (m:=.gP [] []) (o:=.dK []) hD ⟨[],[],eZ,rfl,rfl,rfl⟩;have hp:(j++[D])[C.length]?=some D:=by rw[lQ (by rw[M1.len];exact aB _),M1.len,bc];rfl
 refine⟨λi n kv W=>n=G.length - i/\i<=G.length/\∃ d:az (Key×L2.D),d.length<=i/\Fr j H1 (j++[D]) W/\fK (j++[D]) W (C++[.gP (d.map Zx) (d.map ZI)])/\sq (y9 (mR js ρ) y t wk wv) c C (G.drop i) d λd=>K (.mr C.length) (C++[MO.gP (d.map Zx) (d.map ZI)]),
  ⟨G.length,rfl,bx _,[],bx _,fD,MD,k1⟩,?_⟩
 rintro i n kv W ⟨rfl,hi,d,hkl,U,M',P⟩;by_cases F:i<G.length
 .rw[bY F]at P;refine gv P λc' P=>gv ((Z _ W _ U M' c' i).1 G[i]<|iO F) λgo Fw=>?_;refine .inr ⟨go,λx H2 Uu=>kc (Fw x H2 Uu) λf2 M2 i2=>?_⟩;have E2:=((A.mono<|f1.trans<|U.trans f2).gC js);refine mo _ _ _ _ _ (λWu H3 MZ=>?_)<|so _ H2 _ _ _ _ x _ E2 M2 i2 P;obtain⟨e3,l3,n3,O,E3,k3⟩:=MZ;refine⟨CI ho l3 n3,?_⟩;subst e3;refine⟨_,O,_,_,E3,M2,k3,λb Wv Y H4 k4 f4 M4=>?_⟩;cases b with
  | true =>
   refine⟨Y,O,Wv,_,E3.mono f4,M4,k4,λd5 SV SU v5 H5 k5 f5 M5 i5=>eU (fS k5) λkk XR k5=>⟨SU,O,SV,_,E3.mono<|f4.trans f5,M5,k5,λI μ6 Wt v6 H6 k6 f6 M6 i6=>?_⟩⟩;obtain⟨e6,w6⟩:=k6;subst e6;have ff:=f2.trans<|f4.trans<|f5.trans f6;have ef:Wt=j++[D]:=ff.Ef (by rw[M6.len,M'.len]);subst ef;obtain⟨p,e1,E,vs,e2,Y9,e4,e5⟩:=M6.at_ C.length _ (by rw[lQ aaa,bc];rfl);rw[hp]at e1;cases e1;subst e4;have UA:E.length=d.length:=by have:=b8 List.length Y9;rwa [fI,fI]at this
   have f7:Fr (j++[D]) H6 (j++[D]) (upd H6 D<|.dK<|putK E kk v6):=.put<|aW _<|List.mem_singleton.mpr rfl;obtain⟨g1,g2⟩:=AX (k:=kk) (i6.mono f7) Y9<|e5.mono f7;refine⟨kk,E,kC XR i5,e2,by lia,G.length - abe,by lia,rfl,F,dput d kk I,by have:=AY d kk I;lia,(U.trans ff).trans f7,?_,w6⟩;have q:=M6.put (k:=C.length) (p:=D) (o:=.dK<|putK E kk v6) (m:=.gP ((dput d kk I).map Zx) ((dput d kk I).map ZI)) hp ⟨putK E kk v6,_,eZ,g1,rfl,g2⟩;have e:(C++[MO.gP (d.map Zx) (d.map ZI)]).set C.length (.gP ((dput d kk I).map Zx) ((dput d kk I).map ZI))=C++[.gP ((dput d kk I).map Zx) ((dput d kk I).map ZI)]:=gr;rw[e]at q;exact q
  | false =>obtain⟨e4,w4⟩:=k4;subst e4;have ff:=f2.trans f4;have ef:Y=j++[D]:=ff.Ef (by rw[M4.len,M'.len]);subst ef;exact⟨G.length - abe,by lia,rfl,F,d,by lia,U.trans ff,M4,w4⟩
 .have e:i=G.length:=by lia
  subst e
  rw[dR]at P
  exact .inl ⟨(Z _ W _ U M' P.1 _).2 rfl,L _ _ _ _ W P.2 (f1.trans U) M' ⟨D,hp,rfl⟩⟩
def NF {j:DI}{pos:Pos}(F:jm X N js sc)(fU:X.fU=true)(so:Lf g y S)(mo:nE g)(u:pB S js=true)(C:Bt X tg iter j)(E:∀ d s H,PG abk tg g)
 (ht:∀ d s H,Bs abk ifs t) (hk:∀ d s H,PD abk kx wk) (q:∀ d s H,PD abk vx wv)
 (hs:∀ x,foldedSetIterable iter X.env x=pure x:=by intro _;rfl):PD X aag (KG j js y t wk wv):=(Ac F fU C E ht hk q hs).imp λG H Q h=>Hv so mo u h
section
variable {X:Cx}
def WR (to E C:TE):TS:=λD d H=>C d H λv G=>to d G λx F=>E d F λi u=>∃ l b j q k,x=.ref l/\v=.ref b/\i=.int k/\u l=some (.lst j)/\u b=some (.lst q)/\l≠b/\0<=k/\k<=j.length/\j.length+q.length<=sizeLine/\D.nx d (upd u l<|.lst<|j.take k.toNat++q)
def Qh {lo:Expr}(ho:PE X o to)(hl:PE X lo tl)(hv:PE X value tv)(hs:swapsWith value (some<|.Subscript o (.Slice (some lo) none none p) pos') pos.line X.env=pure false:=by rfl):
 PS X (.Assign [.Subscript o (.Slice (some lo) none none p) pos'] value pos) (WR to tl tv):=by
 intro d s E H D I h;refine wpAny_Assign_Subscript (gc (hv d s E H _ I h) λr Y O=>?_) hs;refine fw O λv H1 I1 rv q1=>gc (ho d Y E H1 _ I1 q1) λu W M=>fw M λx H2 I2 Z q2=>wpAny_Slice (gc (hl d W E H2 _ I2 q2) λiv G L=>?_);obtain⟨i,H3,I3,ri,l,b,F,ys,k,ex,ev,ei,U,hB,P,h0,hk,hz,q⟩:=L;subst ex ev ei;subst Z;subst rv;obtain⟨t,rfl⟩:=ri;refine aC<|aC ?_;have Q:Inv X d E H3 { G with heap:=G.heap.push { cls:=.type "slice",data:=.fields #[.int k t,.none,.none]}}:=I3.af (t':=G.toks) λb o e=>iU _ e;obtain⟨z,C,n,r,hl,e⟩:=Q.j9 U;obtain⟨z2,j,n2,r2,SH,e2⟩:=Q.j9 hB;obtain⟨J,rfl⟩:=cL h0;refine uT (a:=J) (vu:=.none) e e2 P ⟨_,aL _ rfl,rfl,rfl⟩ (.int _ _) .none (by rw[aI]) Zs (by exact aB _) (by rw[aI,aI];lia) ?_;have I5:=Q.Jf (its':=C.take J++j) (t':=G.toks) U e (f:=λF=>F.extract 0 J++j.toArray++F.extract C.length F.size) (by
  have:=FH C j J C.length
  rw[dR,bH]at this
  exact this) (fF.append (r.take _) r2) (by rw[i8,a9];lia)
 exact⟨E,_,I5,by simpa using q⟩
def X6 (H wl wv:De):Ds:=λN q G=>wv q G λv E=>H q E λx C=>wl q C λi d=>match x,v,i with
 |.mr j,.lst F,.int k=>∃ u,wm d j=some u/\0<=k/\k<=u.length/\u.length+F.length<=sizeLine/\N.nx q (d.set j<|.lst<|u.take k.toNat++F)
 |_,_,_=>False
def Oq {lo:Expr}(ho:PD X o wo)(hl:PD X lo wl)(Y:PD X value wv)(hs:swapsWith value (some<|.Subscript o (.Slice (some lo) none none p) pos') pos.line X.env=pure false:=by rfl):
 vV X (.Assign [.Subscript o (.Slice (some lo) none none p) pos'] value pos) (X6 wo wl wv):=(Qh ho hl Y hs).imp λE σ H hq=>by
 refine fL hq λφ C μ N A M w L=>⟨φ,C,μ,_,A,M,w,λd1 U P v1 H1 k1 J M1 i1=>⟨P,C,U,_,A.mono J,M1,k1,λd2 Q O v2 H2 k2 I M2 i2=>⟨O,C,Q,_,A.mono<|J.trans I,M2,k2,λd3 Ww d v3 H3 u G M3 i3=>?_⟩⟩⟩;split at u
 .rename_i j ys k;refine NA u λxs ex h0 hk hz u=>?_;subst i3;have W:=i1.mono<|I.trans G;refine jz W λpb vb q nb hb ab=>?_;subst q;refine eU (i2.mono G) λp F q=>?_;subst q;obtain⟨p',e1,vs,Y,ha⟩:=M3.at_ j _<|jT ex;rw[F]at e1;cases e1;have ne:p≠pb:=λz=>nb<|z▸lH F;have Z:Fr d H3 d (upd H3 p<|.lst<|vs.take k.toNat++vb):=.put<|lH F;have M4:=M3.put (k:=j) (p:=p) (m:=.lst<|xs.take k.toNat++ys) F ⟨_,eZ,((ha.take _).app ab).mono Z⟩;exact⟨p,pb,vs,vb,k,rfl,rfl,rfl,Y,hb,ne,h0,ha.len▸hk,by rw[ha.len,ab.len];exact hz,L.nx C _ d σ _ u ((J.trans<|I.trans G).trans Z) (A.mono<|(J.trans<|I.trans G).trans Z) M4⟩
 .exact u.elim
def KJ (C:au)(f:Str)(g:Int->Int->Int)(H w:De):Ds:=λN E G=>H E G λx u=>match x with
 | .mr k=>∃ i,(kT C u k).bind (λq=>nv f q.1 q.2)=some (.int i)/\w E u λy d=>match y with
  |.int j=>∃ q F:az Str×az D,kT C d k=some q/\putN f (.int<|g i j) q.1 q.2=F/\q.1.length<1000/\N.nx E (d.set k<|.ins C F.1 F.2)
  |_=>False
 |_=>False
def Dw {C:au}{f:Str}{g:Int->Int->Int}{wo w:De}{rd:V->V->Hp->VK->Prop}(c:tF X.K C)(n:kX X.K C f)(YZ:∀ i j H Q,Q (.int<|g i j) H->rd (.int i) (.int j) H Q){E:Ends}{σ:St}{H:Hp}(hq:V1 (KJ C f g wo w) E σ H):DS X.K (tD wo) (tD w) rd f E σ H:=by
 refine fL hq λφ Y μ N A M k L=>⟨φ,Y,μ,_,A,M,k,λd1 Z W v1 H1 U f1 M1 i1=>?_⟩;cases d1 with
 | mr k =>
  refine eU U λi e1 U=>eU (Option.bind_eq_some_iff.mp e1) λq e2 e3=>eU i1 λp hp F=>?_;subst F;obtain⟨p',O,dx,fs,h1,h2,h3⟩:=M1.at_ k _<|rb e2;rw[hp]at O;cases O;rw[<- h2]at e3;obtain⟨v,l,iv⟩:=qP h3 e3;subst iv;refine⟨p,C,dx,fs,.int i,rfl,h1,c,n,l,W,Y,Z,_,A.mono f1,M1,U,λd2 VY u v2 H2 P f2 M2 i2=>?_⟩;cases d2 with
  | int j =>subst i2;refine jz P λq' _ e5 F hl P=>?_;subst F;have G:=f2.get hp;obtain⟨p',O,I,J,g1,g2,g3⟩:=M2.at_ k _<|rb e5;rw[G]at O;cases O;refine YZ _ _ _ _ ⟨I,J,g1,by rw[<- g2,fI]at hl;exact hl,?_⟩;have f4:Fr u H2 u (upd H2 p<|.ins C I<|l0 f (.int<|g i j) J):=.put<|lH G;obtain⟨y1,y2⟩:=yx (f:=f) (d:=.int<|g i j) rfl (g3.mono f4);rw[g2]at y1 y2;exact L.nx Y _ u σ _ P ((f1.trans f2).trans f4) (A.mono<|(f1.trans f2).trans f4) (M2.put G ⟨I,_,eZ,y1,y2⟩)
  |_=>exact P.elim
 |_=>exact U.elim
def DR (c:tF X.K C)(n:kX X.K C f)(F:PD X o wo)(d:PD X e w):vV X (.AugAssign (.Attribute o f kQ) .Add e pos) (KJ C f (·+·) wo w):=(xi F d Q0).imp λE G H u=>Dw c n (λi j H Q q=>⟨i,j,rfl,rfl,q⟩) u
def L9 (c:tF X.K C)(n:kX X.K C f)(F:PD X o wo)(d:PD X e w):vV X (.AugAssign (.Attribute o f kQ) .Sub e pos) (KJ C f (· - ·) wo w):=(xi F d QZ).imp λE G H u=>Dw c n (λi j H Q q=>⟨i,j,rfl,rfl,q⟩) u
end
structure kO (P:ak)(w:ao)(K:aj)(mg:Str->Option av)(ah:Heap)(C:au)(m:Str)(k:Nat)(ps:List Str)(sp:Sp):Prop where
 ex:∃ f fd,ij P w K mg ah (xZ P w) k f fd ps sp/\Meth K C m f/\Binds K fd ps []
structure Fp (P:ak)(w:ao)(K:aj)(mg:Str->Option av)(ah:Heap)(x:Str)(C:au)(k:Nat)(ps:List Str)(sp:Sp):Prop where
 ex:∃ f fd,ij P w K mg ah (xZ P w) k f fd ps sp/\Mk K C f/\mg x=some ZY/\Binds K fd ps []
def IG:Passes (xZ X.prog X.w) X (λ_ _ _=>False):=λd j H s e q I c=>by exact XT c λ_ _ _ _ _ _ _ _ _ _ _ z=>z.elim
def zL {ok:MS->Prop}(Z:∀ φ μ H,fK φ H μ->ok μ->qe φ H Kx E)(h:tD (λu μ K=>Y u μ λx j=>pw C m j x/\w u j λds d=>ok d/\f (x::ds) d K Kx) σ H Q):zK C m (nj f) [] E (tD Y) (Py w) σ H Q:=by refine fL h λφ u μ K A M k L=>⟨φ,u,μ,_,A,M,k,λd1 j y v1 H1 J U M1 O=>p4 (qI M1 O J.1) λp dx fs F h1 h2=>?_⟩;subst F;refine⟨p,dx,fs,rfl,h1,h2,y,u,j,_,A.mono U,M1,J.2,λds d q G W I P M2 i2=>?_⟩;show nj f (.ref p::(G++[])) W Q E;rw[bH];exact⟨q,d1::ds,d,K,Kx,⟨_,G,rfl,il.mono P O,i2⟩,M2,I.2,L.mono<|U.trans P,Z q d W M2 I.1⟩
def RJ (lg:az au)(H0:Hp)(Kx:DX)(C:au)(m:Str)(f:ke)(y:De)(w:DA):De:=λq u K=>y q u λx j=>pw C m j x/\w q j λE d=>d[0]?=some (.gx lg H0)/\f (x::E) d K Kx
def je (Z:Rz X lg H0 Kx)(G:kO X.prog X.w X.K X.mg X.ah C m k ps (nj f))(c:tF X.K C)(hr:gZ k X.A)(u:PD X o wo)(ha:rO X ZX w)
 (d:starEach ZX X.env=(false,eval e X.env)::starEach es X.env:=by rfl) (m4:(backTo pos<|starEach es X.env).any Zx=false:=by rfl)
 (ht:eval ZP X.env=(do
   let ov <- eval o X.env
   standAt gH.atName
   let (f,first) <- holding [ov] (getMethod ov m pl)
   callWith pos f first (backTo pos<|starEach ZX X.env) (backToKw pos<|keywordEach [] X.env)):=by rfl):
 PD X ZP (RJ lg H0 Kx C m f wo w):=by
 exact eU Z.ex λE y q=>fw G.ex λO fd F hm hb=>(yA u c hm F hr hb .nil q ha d m4 ht).imp λJ H Q j=>zL (λI L H M e=>y.mono<|M.M7 e) j
def NJ (C:au)(m:Str)(f:ke)(y:De)(w:DA):De:=λq u K=>y q u λx d=>pw C m d x/\w q d λE j=>True/\f (x::E) j K λ_ _=>False
def mH (u:kO X.prog X.w X.K X.mg X.ah C m k ps (nj f))(c:tF X.K C)(hr:gZ k X.A)(q:PD X o wo)(ha:rO X ZX w)
 (d:starEach ZX X.env=(false,eval e X.env)::starEach es X.env:=by rfl) (m4:(backTo pos<|starEach es X.env).any Zx=false:=by rfl)
 (ht:eval ZP X.env=(do
   let ov <- eval o X.env
   standAt gH.atName
   let (f,first) <- holding [ov] (getMethod ov m pl)
   callWith pos f first (backTo pos<|starEach ZX X.env) (backToKw pos<|keywordEach [] X.env)):=by rfl):
 PD X ZP (NJ C m f wo w):=by
 exact fw u.ex λI fd F hm hb=>(yA q c hm F hr hb .nil IG ha d m4 ht).imp λE H Q j=>zL (λy G H M e=>λ_ _ _ _ z _ _=>z.elim) j
def FF {ok:MS->Prop}(I:∀ φ μ H,fK φ H μ->ok μ->qe φ H Kx E)(h:tD (λq μ K=>G q μ λx d=>pw C m d x/\ok d/\f [x] d K Kx) σ H Q):zK C m (nj f) [] E (tD G) BK σ H Q:=by refine fL h λφ q μ K A M k L=>⟨φ,q,μ,_,A,M,k,λW d j Z Y y P M1 F=>p4 (qI M1 F y.1) λp U fs u O J=>?_⟩;subst u;exact⟨p,U,fs,rfl,O,J,j,[W],d,K,Kx,⟨_,[],rfl,F,rfl⟩,M1,y.2.2,L.mono P,I j d Y M1 y.2.1⟩
def Ky (C:au)(m:Str)(f:ke)(u:De):De:=λj q K=>u j q λx d=>pw C m d x/\True/\f [x] d K λ_ _=>False
def xF (u:kO X.prog X.w X.K X.mg X.ah C m k ps (nj f))(c:tF X.K C)(hr:gZ k X.A)(q:PD X o wo)
 (ht:eval aai X.env=(do
   let d <- eval o X.env
   standAt gH.atName
   let (f,first) <- holding [d] (getMethod d m pl)
   callWith pos f first (backTo pos<|starEach [] X.env) (backToKw pos<|keywordEach [] X.env)):=by rfl):
 PD X aai (Ky C m f wo):=by
 exact fw u.ex λI fd F hm hb=>(Ab q c hm F hr hb .nil IG ht).imp λE H Q j=>FF (λy G H M e=>λ_ _ _ _ z _ _=>z.elim) j
def Ht {ok:MS->Prop}(hE:∀ φ μ H,fK φ H μ->ok μ->qe φ H Kx E)(h:tD (λI μ K=>w I μ λds j=>ok j/\f (.mr j.length::ds) (j++[.ins C [] []]) (λd O=>d=.fX/\K (.mr j.length) O) Kx) σ H Q):Hs C (nj f) [] E (Py w) σ H Q:=by
 refine fL h λφ I μ K A M k L=>⟨φ,I,μ,_,A,M,k,λds j q vs u Z f1 M1 i1 x y hx W ne=>?_⟩;have S1:gm u (upd u y<|.own x):=gm.upd W;have U:upd u y (.own x) x=none:=by rwa [fB (bB ne)]
 have fa:Fr q u q (upd u y<|.own x):=.same S1;obtain⟨M2,f2⟩:=(M1.same S1).snoc (m:=.ins C [] []) U ⟨y,[],eZ,rfl,rfl⟩;have Y:=fa.trans f2;have F:il (q++[x]) (upd (upd u y<|.own x) x<|.ins C y []) (.mr j.length) (.ref x):=⟨x,by rw[lQ (M1.len▸aB _),M1.len,bc];rfl,rfl⟩;rw[bH];refine⟨q++[x],.mr j.length::ds,j++[.ins C [] []],_,Kx,⟨_,vs,rfl,F,i1.mono Y⟩,M2,Z.2,λd J G v H3 P f4 M3 i3=>?_,(hE q j u M1 Z.1).mono Y⟩;obtain⟨rfl,P⟩:=P;exact⟨i3,L _ J G _ H3 P ((f1.trans Y).trans f4) M3<|F.mono f4⟩
def NK (C:au)(f:ke)(w:DA):De:=λu y K=>w u y λE j=>True/\f (.mr j.length::E) (j++[.ins C [] []]) (λd q=>d=.fX/\K (.mr j.length) q) λ_ _=>False
def A7 {x:Str}{f:ke}{w:DA}{p:Pos}{k:Nat}{ps:az Str}(u:Fp X.prog X.w X.K X.mg X.ah x C k ps (nj f))(hr:gZ (k+1) X.A)(q:Gl X x)(ha:rO X ZX w)
 (d:Zz=false:=by decide) (he:starEach ZX X.env=(false,eval e X.env)::starEach es X.env:=by rfl) (m4:(backTo pos<|starEach es X.env).any Zx=false:=by rfl):
 PD X ZH (NK C f w):=by
 exact jz u.ex λI fd F M hm hb=>(D5 M F hr q hm hb .nil IG ha d he m4).imp λE H Q j=>Ht (λy G H M e=>λ_ _ _ _ z _ _=>z.elim) j
def KS {P:ak}{w:ao}{K:aj}{mg:Str->aA av}{ah:Heap}{C:au}{x q:Str}{st:Stmt}{f:au}{fd:aq}{k:Nat}{ps:az Str}{sp:Sp}(F:oJ K x q st f fd)(ok:ij P w K mg ah (xZ P w) k f fd ps sp)(hb:Binds K fd ps [])
 (a:W.findIn K ZY x=some (some<|.ref f):=by kernel_rfl) (i:W.isFn K aaf=true:=by kernel_rfl):kO P w K mg ah C x k ps sp:=⟨f,fd,ok,⟨a,i,F.kp⟩,hb⟩
def KY {P:ak}{w:ao}{K:aj}{mg:Str->aA av}{ah h:Heap}{C:au}{y q:Str}{st:Stmt}{f:au}{fd:aq}{k:Nat}{ps:az Str}{sp:Sp}(G:K.In h)(N:h.Ns mainGlobals mg)(F:oJ K "__init__" q st f fd)(ok:ij P w K mg ah (xZ P w) k f fd ps sp)(hb:Binds K fd ps [])
 (n:W.nsIn K mainGlobals y=some (some<|.ref C):=by kernel_rfl) (a:W.findIn K ZY "__init__"=some (some<|.ref f):=by kernel_rfl) (i:W.isFn K aaf=true:=by kernel_rfl) (m:W.makesIn K C=true:=by kernel_rfl) (p:W.keepIn K ZY=true:=by kernel_rfl):Fp P w K mg ah y C k ps sp:=⟨f,fd,ok,⟨m,a,i,p⟩,W.mg_of G N n,hb⟩
def xl:jG X (compareOp .LtE) (λx y H Q=>∃ i j,x=.str i/\y=.str j/\Q (.bl<|!decide (j.cps.toList<i.cps.toList)) H):=by intro G s M H x y v u Q I L J h;refine fw h λi j C d q=>?_;subst C;subst d;obtain⟨t,rfl⟩:=L;obtain⟨E,rfl⟩:=J;exact compareOp_gives (typeIs_str s i t) (typeIs_str s j E) F.slot_str_le F.entry_str_le (F.args_str_le_2 _ _) (gives_str_le i j t E) (by first|rfl|simp[Made.takes]|decide) (gd I q rfl)
def Vf:xX:=λx y d K=>match x,y with
 |.str a,.str b=>K (.bl<|!decide (b.cps.toList<a.cps.toList)) d
 |_,_=>False
def Hz:nh (λx y H Q=>∃ i j,x=.str i/\y=.str j/\Q (.bl<|!decide (j.cps.toList<i.cps.toList)) H) Vf:=λu H x y F E C K Q M q d k L=>by
 delta Vf at k;split at k
 .subst q;subst d;exact⟨_,_,rfl,rfl,L.val M k rfl⟩
 .exact k.elim
def RN (L E:xX)(I H G:De):De:=λj F K=>I j F λx C=>H j C λy u=>L x y u λz d=>match z with
 |.bl k=>if k=true then G j d λJ q=>E y J q K else K (.bl false) d
 |_=>False
def NH (ho:jG X (compareOp op) r)(W:jG X (compareOp YQ) r')(so:nh r ro)(P:nh r' ro')(ha:PD X a wa)(hb:PD X b wb)(hc:PD X c wc)
 (hm:lastMarks [op,YQ] [b,c]=false:=by with_unfolding_all rfl):PD X (.Compare a [op,YQ] [b,c] pos) (RN ro ro' wa wb wc):=(IC ho W ha hb hc hm).imp λσ H Q hq=>by
 refine fL hq λφ G μ K A M k L=>⟨φ,G,μ,_,A,M,k,λd1 O F v1 H1 k1 y M1 i1=>⟨F,G,O,_,A.mono y,M1,k1,λd2 J E Y H2 k2 u M2 i2=>so E H2 v1 Y d1 d2 J _ _ M2 (i1.mono u) i2 k2 λd3 j d v3 H3 U q M3 i3=>?_⟩⟩;cases d3 with
 | bl k =>
  subst i3;refine⟨k,rfl,?_⟩;cases k with
  |false=>exact L _ j d _ H3 U (y.trans<|u.trans q) M3 rfl
  |true=>exact⟨d,G,j,_,A.mono<|y.trans<|u.trans q,M3,U,λd4 I C v4 H4 k4 Z M4 i4=>P C H4 Y v4 d2 d4 I K Q M4 (i2.mono<|q.trans Z) i4 k4<|L.mono<|y.trans<|u.trans<|q.trans Z⟩
 |_=>exact U.elim
def Lq (mg:Str->aA av)(x:Str)(i:Int):Prop:=∃ t,mg x=some (.int i t)
def y6 {x:Str}{i:Int}(q:Gl X x)(hm:Lq X.mg x i)(hd:Zz=false:=by decide):PD X abh (dC<|.int i):=by refine jj hm λt hm=>?_;exact(D6 (v:=.int i) q hm ⟨t,rfl⟩ hd).imp λu H Q j=>by exact fL j λd y C K A M k L=>L _ _ d _ H k (.refl _ _) M rfl
structure Tab (P:ak)(w:ao)(K:aj)(mg:Str->Option av)(x:Str)(ts:List (Str×au)):Prop where
 ex:∃ d,mg x=some (.ref d)/\∀ h:Heap,K.In h->h.DictOf (f9 P w) d (ts.map λp=>(Sum.inr p.1,Value.ref p.2))
def X3 (ts:az (Str×au))(w:De):De:=λq u K=>w q u λd j=>match d with
 |.str z=>∃ a,(ts.find? λp=>decide (p.1=z)).map ZI=some a/\K (.fn a) j
 |_=>False
theorem sE {a:au}:∀ {ts:az (Str×au)},(ts.find? λp=>decide (p.1=z)).map ZI=some a->valueAt (ts.map λp=>((Sum.inr p.1:Key),Value.ref p.2)) (Sum.inr z)=some (.ref a)
 |[],h=>by cases h
 | p::ts,h=>by
  delta valueAt;rw[aJ,bR];rw[bR]at h;by_cases q:p.1=z
  .rw[aH q]at h;cases h;rw[show decide ((Sum.inr p.1:Key)=Sum.inr z)=true from aH (by rw[q])];rfl
  .rw[aO q]at h;rw[show decide ((Sum.inr p.1:Key)=Sum.inr z)=false from aO λy=>q<|Sum.inr.inj y];exact sE h
def U4 (T:Tab X.prog X.w X.K X.mg x ts)(hg:Gl X x)(hb:PD X b w)(hs:Lo b)(hd:Zz=false:=by decide):PD X (.Subscript (.Name x p) b pos) (X3 ts w):=by
 intro j s U H Q I hq;refine fL hq λP W Y K A M k L=>eU T.ex λd hm T=>Dz PySem.F.slot_dict_getitem.lookup hs (qR I hg hm (gc (hb j s U H (λv y=>∃ z a,v=.str z/\(ts.find? λp=>decide (p.1=z)).map ZI=some a/\Q (.ref a) y) I ⟨P,W,Y,_,A,M,k,λd1 G E v1 y C f1 M1 i1=>?_⟩) λu s1 J=>?_) hd)
 .cases d1 with
  | str z =>subst i1;exact eU C λa e C=>⟨z,a,rfl,e,L _ G E _ y C f1 M1 rfl⟩
  |_=>exact C.elim
 .obtain⟨x,y,O,Z,z,a,rfl,e,q⟩:=J;have dd:=T _ O.se;exact p4 (id dd) λob _ _ eb ex _=>⟨⟨ob,eb,ex.1⟩,wpAny_getItem_of (qX (k:=Sum.inr z) Z) dd.mapOf (sE e) ⟨.ref a,y,O.tok _,rfl,q⟩⟩
def tab_of {P:ak}{w:ao}{K:aj}{mg:Str->aA av}{x:Str}{d:au}{n:Nat}{h:Heap}(es:az (Str×Nat×au))(X:K.In h)(G:h.Ns mainGlobals mg)(e:W.nsIn K mainGlobals x=some (some<|.ref d))
 (l:K.lookup d=some ⟨.type "dict",none,.dict ((es.map λp=>jy w.params p.1 p.2.1<|.ref p.2.2).toArray) n,#[]⟩) (nd:(es.map Zx).Nodup):Tab P w K mg x (es.map λp=>(p.1,p.2.2)):=by
 refine⟨d,W.mg_of X G e,λH I=>⟨_,_,_,I _ _ l,⟨rfl,rfl,rfl⟩,rfl,?_,?_,?_⟩⟩
 .intro y F;refine eU (List.mem_map.mp<|List.mem_toArray.mp F) λp _ C=>?_;subst C;exact⟨Sum.inr p.1,sd p.1 p.2.1,rfl⟩
 .clear l nd;induction es with
  |nil=>exact .nil
  |cons p es E=>exact .cons (sd p.1 p.2.1) rfl E
 .rw[aQ,aQ];show(List.map ((λz:Str=>(Sum.inr z:Key)) ∘ λp:Str×Nat×au=>p.1) es).Nodup;rw[<- aQ];exact nd.map (f:=λz:Str=>(Sum.inr z:Key)) λa b h z=>h (Sum.inr.inj z)
structure N6 (P:ak)(w:ao)(K:aj)(mg:Str->Option av)(ah:Heap)(T:List (au×ke))(k:Nat)(ps:List Str):Prop where
 ex:∀ p∈T,∃ fd,ij P w K mg ah (xZ P w) k p.1 fd ps (nj p.2)/\W.keepIn K (.ref p.1)=true/\Binds K fd ps []
def KI (j:az au)(H0:Hp)(C:DX)(T:az (au×ke))(i:Nat)(w:DA):De:=λq u K=>match q[i]? with
 |some (some<|.fn a)=>∃ f,(a,f)∈T/\w q u λy d=>d[0]?=some (.gx j H0)/\f y d K C
 |_=>False
def NI (Z:Rz X lg H0 Kx)(CV:N6 X.prog X.w X.K X.mg X.ah T k ps)(hr:gZ k X.A)(hN:X.N[i]?=some x)(hv:R6 X.env.scope x)(ha:rO X ZX w)
 (P:Zz=false:=by decide) (Es:abd=false:=by decide) (he:starEach ZX X.env=(false,eval e X.env)::starEach es X.env:=by rfl) (m4:(backTo pos<|starEach es X.env).any Zx=false:=by rfl):
 PD X ZH (KI lg H0 Kx T i w):=by
 intro d s σ H Q I hq;refine fL hq λφ ρ μ K A M k L=>eU Z.ex λE LX hp=>?_;unfold KI at k;split at k
 .rename_i a ea;refine eU k λf hf k=>eU (A.2 i _ ea) λv ev iv=>?_;subst iv;refine jF (CV.ex _ hf) λfd F hk hb=>cE (gc (yz hN hv P Es d s σ H (λu Y=>u=.ref a/\Y=H) I ⟨_,ev,rfl,rfl⟩) λu s1 O=>jz O λx1 Y I1 r1 G C=>?_);subst G;subst C;subst r1;refine W.callWith_K I.ok.mod.SF hk (gc (ha pos d s1 σ Y (λy U=>nj f y U Q E) I1 ⟨φ,ρ,μ,_,A,M,k,λds q j y U k1 f1 M1 i1=>?_⟩) λus s2 J=>?_) he m4
  .exact⟨j,ds,q,K,Kx,i1,M1,k1.2,L.mono f1,LX.mono<|M1.M7 k1.1⟩
  .exact fw J λy U I2 r2 q2=>⟨I2.se,yp F hr hb .nil hp I2 r2<|by rwa [bH]⟩
 .exact k.elim
def X5 (w:De)(l h:DO):De:=λd C K=>w d C λx u=>l d u λlo q=>h d q λy j=>match x with
 |.tup ds=>¬ (HT.iz ds.length 0 lo=0/\HT.iz ds.length ds.length y=ds.length)/\K (.tup<|cutD ds lo y) j
 |_=>False
def A6 {lo:aA Expr}(ha:PD X a w)(hl:PO X lo (Pw l))(hh:PO X G (Pw h)):PD X (.Subscript a (.Slice lo G none p) pos) (X5 w l h):=(Aa PR ha hl hh).imp λσ H Q hq=>by
 refine fL hq λU y Y K A M k L=>⟨U,y,Y,_,A,M,k,λd E u v1 H1 k1 J M1 i1=>⟨u,y,E,_,A.mono J,M1,k1,λlo C q H2 k2 I M2=>⟨q,y,C,_,A.mono<|J.trans I,M2,k2,λG W P H3 j O M3=>?_⟩⟩⟩;have i3:=i1.mono<|I.trans O;have L3:=L.mono<|J.trans<|I.trans O;split at j
 .refine jz i3 λp Z F _ hp ha=>?_;subst F;exact⟨p,Z,rfl,C4.of hp,ha.len▸j.1,λl hl=>K7 L3 M3 (ha.cut lo G) j.2 hl⟩
 .exact j.elim
def Vm (neg:Bool):xX:=λx y j K=>match y with
 |.tup ds=>mE x=true/\ds.all mE=true/\K (.bl<|neg != ds.any λd=>rA d x) j
 |_=>False
def PJ:nh (FP neg) (Vm neg):=λJ H x y U P O K Q M u F k L=>by
 delta Vm at k;split at k
 .refine kc k λC I k=>jz F λp E j _ G ha=>?_;subst j;refine gv (yQ u C ha I) λa b=>?_;have fx:=Ct u C;have q:∃ d,aaB/\jY x=true/\d.all jY=true/\Q (.bl<|neg != Q1 x d) H:=⟨E,.inr G,fx,a,b▸L.val M k rfl⟩;cases x<;>exact q
 .exact k.elim
def U9 (G F:De):De:=λC E K=>G C E λx u=>match x with
 |.mr j=>(∃ H I,u[j]?=some (.gP H I))/\F C u λy q=>∃(kd:az aap) (k:Key) (d:D),q[j]?=some (.gP (kd.map Zx) (kd.map ZI))/\mC y=some k/\kW kd k=some d/\K d (q.set j (.gP ((kd.filter λp=>decide (p.1≠k)).map Zx) ((kd.filter λp=>decide (p.1≠k)).map ZI)))
 |_=>False
theorem AV:∀ {kd:az aap} {kv:az abg},kv.map Zx=kd.map Zx->fg φ H (kd.map ZI) (kv.map ZI)->(pG kv k).map Zx=(kd.filter λp=>decide (p.1≠k)).map Zx/\fg φ H ((kd.filter λp=>decide (p.1≠k)).map ZI) ((pG kv k).map ZI)
 | [],kv,e,h=>by
  cases kv with
  |nil=>exact⟨rfl,rfl⟩
  |cons _ _=>cases e
 | p::kd,kv,e,h=>by
  cases kv with
  |nil=>cases e
  | cons q kv =>
   simp at e;let ⟨v,r,e2,h1,h2⟩:=h;obtain⟨rfl,rfl⟩:=e2;obtain⟨u,j⟩:=AV e.2 h2;delta pG at u j ⊢
   rw[bE,bE];by_cases z:p.1=k
   .have d:q.1=k:=by rw[e.1,z]
    rw[aD (by simp[d]),aD (by simp[z])]
    exact⟨u,j⟩
   .have d:¬ q.1=k:=by rwa [e.1]
    rw[aF (by simp[d]),aF (by simp[z])]
    exact⟨by rw[aJ,aJ,u,e.1],_,_,rfl,h1,j⟩
def Kt (ho:PD X o wd)(he:PD X e wk)(m:M1 X o "pop" gH e hJ:=by exact⟨rfl,rfl,rfl,rfl⟩):PD X (.Call (.Attribute o "pop" gH) [e] [] hJ) (U9 wd wk):=(Iz ho he m).imp λσ H Q hq=>by
 refine fL hq λφ W μ K A M k L=>⟨φ,W,μ,_,A,M,k,λd1 F E v1 H1 C f1 M1 i1=>?_⟩;cases d1 with
 | mr j =>
  obtain⟨⟨ks,ds,em⟩,C⟩:=C;refine eU i1 λp Y G=>?_;subst G;obtain⟨p',e1,I,vs,h1,h2,h3,h4⟩:=M1.at_ j _ em;rw[Y]at e1;cases e1;refine⟨p,rfl,.inl ⟨I,.inl h1⟩,⟨E,W,F,_,A.mono f1,M1,C,λd2 VY u v2 H2 J f2 M2 i2=>AS J λkd k d P ek ed J=>?_⟩⟩;have y:=f2.get Y;obtain⟨p',e1,q,vs2,g1,g2,g3,Z⟩:=M2.at_ j _ P;rw[y]at e1;cases e1;subst g3;cases kC ek i2;have U:kW ((kd.map Zx).zip (kd.map ZI)) k=some d:=by rwa [zip_parts]
  refine eU (rn g2 Z U) λv ev iv=>⟨q,k,v,g1,rfl,ev,?_⟩;have O:Fr u H2 u (upd H2 p<|.dK<|pG q k):=.put<|lH y;obtain⟨y1,y2⟩:=AV g2<|Z.mono O;exact L _ _ u _ _ J ((f1.trans f2).trans O) (M2.put y ⟨_,_,eZ,y1,rfl,y2⟩) (iv.mono O)
 |_=>exact C.elim
inductive Pt where
 |fst (b:List Nat) (a:Int)
 |jn (l r:Str) (p:Int)
structure RS where
 n:Int
 af:List aak
 gs:List (Int×Unit)
inductive Dd where
 |put (nm b:Str) (a:Int)|join (nm l r:Str) (p:Int)|found (nm:Str) (bar:Int) (sg:Str)|rH (nm:Str) (a:Int)|drop (nm:Str)|free (p:Int)|gs (p:Int)
section
variable [DecidableEq α]
def fc (l:az aaA)(k:α):aA β:=(l.find? λp=>decide (p.1=k)).map ZI
def g0 (l:az aaA)(k:α)(v:β):az (α×β):=if(l.any λp=>decide (p.1=k))=true then l.map (λp=>if p.1=k then(p.1,v)else p)else l++[(k,v)]
def i7 (l:az aaA)(k:α):az (α×β):=l.filter λp=>decide (p.1≠k)
def fW {p:α×β}:fc (p::l) k=if p.1=k then some p.2 else fc l k:=by
 delta fc;rw[bR];by_cases h:p.1=k
 .rw[aH h,aF h];rfl
 .rw[aO h,aD h]
def lL {k:α}:(l.any λp=>decide (p.1=k))=(fc l k).isSome:=by
 induction l with
 |nil=>rfl
 | cons p l d =>
  rw[cK,fW,d];by_cases h:p.1=k
  .rw[aH h,aF h];rfl
  .rw[aO h,aD h];rfl
def rG {l:az aaA}(h:fc l k=some v):(k,v)∈l:=by
 induction l with
 |nil=>cases h
 | cons p l d =>
  rw[fW]at h;by_cases q:p.1=k
  .rw[aF q]at h;cases h;rw[<- q];exact aE
  .rw[aD q]at h;exact jJ _ (d h)
def fV {l:az aaA}:(fc l k).isSome=true↔k∈l.map (·.1):=by
 rw[<- lL,List.any_eq_true,List.mem_map];constructor
 .rintro⟨p,d,e⟩;exact⟨p,d,bJ e⟩
 .rintro⟨p,d,e⟩;exact⟨p,d,aH e⟩
def gB {l:az aaA}(nd:(l.map Zx).Nodup)(h:(k,v)∈l):fc l k=some v:=by
 induction l with
 |nil=>cases h
 | cons p l d =>
  rw[aJ,List.nodup_cons]at nd;rw[fW];rcases List.mem_cons.mp h with q|q
  .subst q;rw[aF rfl]
  .rw[aD]
   .exact d nd.2 q
   .intro e;exact nd.1 (e▸List.mem_map.mpr ⟨_,q,rfl⟩)
def Bo {k:α}:fc (l++m) k=(fc l k).or (fc m k):=by
 induction l with
 |nil=>rfl
 | cons p l d =>
  rw[dn,fW,fW,d];by_cases q:p.1=k
  .rw[aF q,aF q];rfl
  .rw[aD q,aD q]
def sA {l:az aaA}:(g0 l k v).map Zx=if k∈l.map Zx then l.map Zx else l.map Zx++[k]:=by
 delta g0;have e:((l.any λp=>decide (p.1=k))=true)↔k∈l.map (·.1):=by rw[lL];exact fV
 by_cases h:k∈l.map Zx
 .rw[aF (e.mpr h),aF h,aQ];refine bG λp _=>?_;simp;split<;>rfl
 .rw[aD (λz=>h<|e.mp z),aD h,aM];rfl
def rF {l:az aaA}:fc (g0 l k v) j=if j=k then some v else fc l j:=by
 delta g0;split
 .rename_i h;induction l with
  |nil=>cases h
  | cons p l d =>
   rw[aJ,fW,fW];by_cases q:p.1=k
   .rw[aF q];by_cases z:j=k
    .rw[aF z,aF (by rw[q,z])]
    .rw[aD z,aD (λy=>z<|by rw[<- y,q]),aD (λy=>z<|by rw[<- y,q])];clear d h;induction l with
     |nil=>rfl
     | cons r l d =>
      rw[aJ,fW,fW,d];by_cases y:r.1=k
      .rw[aF y,aD (λx=>z<|by rw[<- x,y]),aD (λx=>z<|by rw[<- x,y])]
      .rw[aD y]
   .rw[aD q];have u:(l.any λp=>decide (p.1=k))=true:=by rw[cK,aO q]at h;exact h
    rw[d u];by_cases z:j=k
    .rw[aF z,aD (λy=>q<|by rw[y,z]),aF z]
    .rw[aD z,aD z]
 .rename_i h;rw[Bo];have hn:fc l k=none:=by
   cases e:fc l k with
   |none=>rfl
   |some x=>exact absurd (by rw[lL,e];rfl) h
  by_cases z:j=k
  .subst z;rw[aF rfl,hn,fW,aF rfl];rfl
  .rw[aD z,fW,aD (λy=>z y.symm)];cases fc l j<;>rfl
def xU {j:α}(h:j≠k):fc (i7 l k) j=fc l j:=by
 delta i7;induction l with
 |nil=>rfl
 | cons p l d =>
  rw[bE,fW];by_cases q:p.1=k
  .rw[aD (by simp[q]),d,aD (λy=>h<|by rw[<- y,q])]
  .rw[aF (by simp[q]),fW,d]
end
def fG (z:Str):Key:=Sum.inr z
def kM (i:Int):Key:=Sum.inl i
def fo:∀ a b,fG a=fG b->a=b:=λ_ _ h=>Sum.inr.inj h
def jw:∀ a b,kM a=kM b->a=b:=λ_ _ h=>Sum.inl.inj h
def pH {α β:Type}(κ:α->Key)(f:β->D)(l:az aaA):D:=.ki (l.map λp=>κ p.1) (l.map λp=>f p.2)
theorem uA {α β γ:Type}(f:α->β)(g:α->γ):∀ l:az α,(l.map f).zip (l.map g)=l.map λa=>(f a,g a)
 |[]=>rfl
 |a::l=>by rw[aJ,aJ,cZ,uA f g l];rfl
section
variable {α β:Type}[DecidableEq α]{κ:α->Key}(hi:∀ a b,κ a=κ b->a=b)(f:β->D)
include hi
theorem yY (k:α):∀ l:az aaA,kW (l.map λp=>(κ p.1,f p.2)) (κ k)=(fc l k).map f
 |[]=>rfl
 | p::l=>by
  have d:=yY k l;rw[fW];unfold kW at d ⊢
  rw[aJ,bR];by_cases h:p.1=k
  .rw[show decide ((κ p.1,f p.2).1=κ k)=true from aH (by rw[h]),aF h];rfl
  .rw[show decide ((κ p.1,f p.2).1=κ k)=false from aO λz=>h<|hi _ _ z,aD h];exact d
def CO (k:α)(v:β)(l:az aaA):dput (l.map λp=>(κ p.1,f p.2)) (κ k) (f v)=(g0 l k v).map λp=>(κ p.1,f p.2):=by
 have e:((l.map λp=>(κ p.1,f p.2)).any λkv=>decide (kv.1=κ k))=l.any λp=>decide (p.1=k):=by
  rw[List.any_map];congr 1;funext p;show decide (κ p.1=κ k)=_;by_cases h:p.1=k
  .rw[aH h,aH (by rw[h])]
  .rw[aO h,aO (λz=>h<|hi _ _ z)]
 delta dput g0;rw[e];split
 .rw[aQ,aQ];refine bG λp _=>?_;simp;by_cases h:p.1=k
  .rw[aF h,aF (by rw[h])]
  .rw[aD h,aD (λz=>h<|hi _ _ z)]
 .rw[aM];rfl
def EN (k:α)(l:az aaA):((l.map λp=>(κ p.1,f p.2)).filter λp=>decide (p.1≠κ k))=(i7 l k).map λp=>(κ p.1,f p.2):=by
 rw[List.filter_map];congr 1;refine List.filter_congr λp _=>?_;show decide (κ p.1≠κ k)=_;by_cases h:p.1=k
 .rw[aO (by simp[h]),aO (by simp[h])]
 .rw[aH (show κ p.1≠κ k from λz=>h<|hi _ _ z),aH h]
def jV (k:α)(l:az aaA)(hd:mC d=some (κ k)):MP (l.map λp=>κ p.1) (l.map λp=>f p.2) d=some ((fc l k).map f):=by delta MP;rw[hd];show some (kW _<|κ k)=_;rw[uA,yY hi]
def vv (k:α)(l:az aaA)(hd:mC d=some (κ k))(h:tU μ j=some (l.map λp=>κ p.1,l.map λp=>f p.2)):OK μ j d=some ((fc l k).map f):=by delta OK;rw[h,hd];show some (kW _<|κ k)=_;rw[uA,yY hi]
end
def GD {γ:Type}(gf:Str->az Nat->Int->γ)(gj:γ->γ->Int->γ)(z:γ)(af:az aak):Nat->Str->γ
 |0,_=>z
 | f+1,nm=>match fc af nm with
  |some (.fst b a)=>gf nm b a
  |some (.jn l r p)=>gj (GD gf gj z af f l) (GD gf gj z af f r) p
  |none=>z
def iN (af:az aak)(nm:Str):Nat:=(af.map Zx).idxOf nm
structure wL (af:List aak):Prop where
 nd:(af.map Zx).Nodup
 low:∀ nm l r p,fc af nm=some (.jn l r p)->iN af l<iN af nm/\iN af r<iN af nm
def m3:iN af nm<af.length↔nm∈af.map (·.1):=by rw[show af.length=(af.map Zx).length from(fI _).symm];exact List.idxOf_lt_length_iff
def wL.there {af:az aak}(h:wL af){nm l r:Str}{p:Int}(e:fc af nm=some (.jn l r p)):(∃ x,fc af l=some x)/\∃ x,fc af r=some x:=by have hn:=m3.mpr (fV.mp (by rw[e];rfl));exact gv (h.low nm l r p e) λj d=>⟨Option.isSome_iff_exists.mp<|fV.mpr<|m3.mp<|by lia,Option.isSome_iff_exists.mp<|fV.mpr<|m3.mp<|by lia⟩
def AQ (h:wL af):∀(f:Nat) (nm:Str),iN af nm<f->f<=af.length->GD gf gj z af f nm=GD gf gj z af af.length nm:=by
 have d:∀(i f g:Nat) (nm:Str),iN af nm=i->i<f->i<g->GD gf gj z af f nm=GD gf gj z af g nm:=by
  intro i;induction i using Nat.strongRecOn with
  | ind i j =>
   intro f g nm hi F E;obtain⟨f,rfl⟩:∃ C,f=C+1:=⟨f - 1,by lia⟩;obtain⟨g,rfl⟩:∃ y,g=y+1:=⟨g - 1,by lia⟩;unfold GD;cases e:fc af nm with
   |none=>rfl
   | some x =>
    cases x with
    |fst b a=>rfl
    | jn l r p =>refine gv (h.low nm l r p e) λq u=>?_;dsimp only;rw[j _ Zs f g l rfl Zs Zs,j _ Zs f g r rfl Zs Zs]
 intro f nm q u;exact d _ f af.length nm rfl q Zs
def ev (gf:Str->az Nat->Int->γ)(gj:γ->γ->Int->γ)(z:γ)(af:az aak)(nm:Str):γ:=GD gf gj z af af.length nm
def yW {nm:Str}{b:az Nat}{a:Int}(e:fc af nm=some aaX):ev gf gj z af nm=gf nm b a:=by have hn:=m3.mpr (fV.mp (by rw[e];rfl));delta ev;obtain⟨m,hm⟩:∃ m,af.length=m+1:=⟨af.length - 1,by lia⟩;rw[hm];unfold GD;rw[e]
def EI (h:wL af){nm l r:Str}{p:Int}(e:fc af nm=some (.jn l r p)):ev gf gj z af nm=gj (ev gf gj z af l) (ev gf gj z af r) p:=by
 have hn:=m3.mpr (fV.mp (by rw[e];rfl));refine gv (h.low nm l r p e) λu q=>?_;obtain⟨m,hm⟩:∃ m,af.length=m+1:=⟨af.length - 1,by lia⟩;have e1:=AQ (gf:=gf) (gj:=gj) (z:=z) h m l Zs Zs;have j:=AQ (gf:=gf) (gj:=gj) (z:=z) h m r Zs Zs;have d:GD gf gj z af (m+1) nm=gj (GD gf gj z af m l) (GD gf gj z af m r) p:=by
  conv=>lhs;unfold GD
  rw[e]
 delta ev;rw[<- e1,<- j,<- d,<- hm]
def yV (h:wL af)(P:Str->Prop)(hf:∀ nm b a,fc af nm=some aaX->P nm)(q:∀ nm l r p,fc af nm=some (.jn l r p)->P l->P r->P nm):∀ nm x,fc af nm=some x->P nm:=by
 have d:∀(i:Nat) (nm:Str) (x:Pt),iN af nm=i->fc af nm=some x->P nm:=by
  intro i;induction i using Nat.strongRecOn with
  | ind i j =>
   intro nm x hi e;cases x with
   |fst b a=>exact hf nm b a e
   | jn l r p =>refine gv (h.low nm l r p e) λF E=>?_;obtain⟨⟨y,u⟩,⟨w,C⟩⟩:=h.there e;exact q nm l r p e (j _ Zs l y rfl u) (j _ Zs r w rfl C)
 exact λnm x e=>d _ nm x rfl e
def gb (af:az aak)(nm:Str):az Nat×Int:=ev (λ_ b a=>(b,a)) (λx y p=>(Gb x.1 y.1 p,max x.2 y.2+1)) ([],0) af nm
def gE (af:az aak)(nm:Str):Int->Str×Nat:=ev (λnm _ _ _=>(nm,0)) (λx y p bar=>if bar<p then((x bar).1,(x bar).2+1)else((y bar).1,(y bar).2+1)) (λ_=>("",0)) af nm
def iL (z:Str):Bool:=decide (1<=z.length)&&decide (z.length<=8)&&z.cps.toList.all λc=>decide (97<=c)&&decide (c<=122)
def LC (z:Str):Bool:=z.cps.toList.all λc=>decide (c=111)||decide (c=120)
def jx (S:RS)(nm:Str):Bool:=(fc S.af nm).isSome
def ox (nm:Str):Pt->Bool
 |.fst _ _=>false
 |.jn l r _=>decide (l=nm)||decide (r=nm)
def pE (S:RS)(nm:Str):Bool:=S.af.any λp=>ox nm p.2
def oY (S:RS)(nm:Str):aA Nat:=if iL nm=false then some 4 else if jx S nm=true then some 9 else if 20<=S.af.length then some 10 else none
def iV (S:RS)(p:Int):aA Nat:=if 1<=p/\p<S.n then none else some 7
def nH (a:Int):aA Nat:=if 0<=a/\a<=20 then none else some 5
def mV (S:RS):Dd->aA Nat
 |.put nm b a=>(oY S nm).or aaS
 |.join nm l r p=>(oY S nm).or (if jx S l=false then some 11 else if jx S r=false then some 11 else(iV S p).or (if(fc S.gs p).isSome=true then some 12 else none))
 |.found nm bar d=>if jx S nm=false then some 11 else if 0<=bar/\bar<S.n then(if d = "o"\/d = "x" then none else some 0)else some 6
 | .rH nm a=>match fc S.af nm with
  |none=>some 11
  |some (.jn _ _ _)=>some 13
  |some (.fst _ _)=>nH a
 |.drop nm=>if jx S nm=false then some 11 else if pE S nm=true then some 14 else none
 |.free p=>iV S p
 |.gs p=>iV S p
def vw (b:az Nat)(bar:Int)(d:Str):az Nat:=b.take bar.toNat++(d.cps.toList++b.drop (bar.toNat+1))
def yL (af:az aak)(nm:Str)(bar:Int)(d:Str):az (Str×Pt):=match fc af nm with
 |some (.fst b a)=>g0 af nm (.fst (vw b bar d) a)
 |_=>af
def m7 (S:RS):Dd->RS
 |.put nm b a=>{ S with af:=g0 S.af nm (.fst b.cps.toList a)}
 |.join nm l r p=>{ S with af:=g0 S.af nm (.jn l r p)}
 |.found nm bar d=>{ S with af:=yL S.af (gE S.af nm bar).1 bar d}
 | .rH nm a=>match fc S.af nm with
  |some (.fst b _)=>{ S with af:=g0 S.af nm aaX}
  |_=>S
 |.drop nm=>{ S with af:=i7 S.af nm}
 |.free p=>{ S with gs:=i7 S.gs p}
 |.gs p=>{ S with gs:=g0 S.gs p ()}
structure o6 (S:RS)(m:Nat):Prop where
 n1:1<=S.n
 n2:S.n<=40
 kp:wL S.af
 iu:S.af.length<=20
 fs:∀ nm b a,fc S.af nm=some aaX->(b.length:Int)=S.n/\OX b/\0<=a/\a<=20
 js:∀ nm l r p,fc S.af nm=some (.jn l r p)->1<=p/\p<S.n
 Ub:∀ p∈S.af,iL p.1=true
 shl:S.gs.length<=m
 PV:(S.gs.map Zx).Nodup
def rg (h:nm∈l.map Zx):iN (l++[x]) nm=iN l nm:=by delta iN;rw[aM,dh,aF h]
def En (h:x.1∉l.map Zx):iN (l++[x]) x.1=l.length:=by delta iN;rw[aM,dh,aD h,aJ,cD,show(x.1==x.1)=true from cX _,fI];simp
theorem pW {p:Str->Bool}{a b:Str}:∀ {l:az Str},p a=true->p b=true->l.idxOf a<l.idxOf b->(l.filter p).idxOf a<(l.filter p).idxOf b
 |[],_,_,h=>by simp at h
 | x::t,ha,hb,h=>by
  by_cases e1:x=a
  .subst e1;have d:¬ x=b:=λd=>by subst d;exact absurd h (cn _)
   rw[bE,aF ha,cD,cD,show(x==x)=true from cX _,show(x==b)=false from c7 d];simp
  .have d:¬ x=b:=λd=>by subst d;simp at h
   rw[cD,cD,show(x==a)=false from c7 e1,show(x==b)=false from c7 d]at h
   have j:t.idxOf a<t.idxOf b:=by simpa using h
   have e:=pW ha hb j
   rw[bE]
   split
   .rw[cD,cD,show(x==a)=false from c7 e1,show(x==b)=false from c7 d];simpa using e
   .exact e
def wL.push (h:wL l)(hn:nm∉l.map Zx)(E:∀ a b p,x=.jn a b p->a∈l.map Zx/\b∈l.map Zx):wL (l++[(nm,x)]):=by
 refine⟨?_,λz a b p e=>?_⟩
 .rw[aM,cv];exact⟨h.nd,by simp,λa ha b hb e=>by rw[aJ,List.map_nil,List.mem_singleton]at hb;have hb:b=nm:=hb;exact hn<|by rwa [<- hb,<- e]⟩
 .rw[Bo]at e;cases q:fc l z with
  | some y =>rw[q]at e;cases e;obtain⟨j,d⟩:=h.low z a b p q;have C:=fV.mp (show(fc l z).isSome=true by rw[q];rfl);obtain⟨⟨J,e1⟩,⟨I,H⟩⟩:=h.there q;rw[rg C,rg (fV.mp (by rw[e1];rfl)),rg (fV.mp (by rw[H];rfl))];exact⟨j,d⟩
  | none =>
   rw[q]at e;have u:=e;rw[fW]at u;split at u
   .rename_i y;subst y;have G:=a5 u;obtain⟨j,d⟩:=E a b p G;have F:=En (x:=(nm,x)) hn;rw[show iN (l++[(nm,x)]) nm=l.length from F,rg j,rg d];exact⟨m3.mpr j,m3.mpr d⟩
   .cases u
def wL.same (h:wL l)(hk:l'.map Zx=l.map Zx)(d:∀ z a b p,fc l' z=some (.jn a b p)->fc l z=some (.jn a b p)):wL l':=by refine⟨hk▸h.nd,λz a b p e=>?_⟩;delta iN;rw[hk];exact h.low z a b p (d z a b p e)
def wL.drop (h:wL l)(u:∀ z a b p,fc l z=some (.jn a b p)->a≠nm/\b≠nm):wL (i7 l nm):=by
 have hk:(i7 l nm).map Zx=(l.map Zx).filter λz=>decide (z≠nm):=by rw[List.filter_map];rfl
 refine⟨hk▸h.nd.sublist (List.filter_sublist),λz a b p e=>?_⟩;have d:z≠nm:=λy=>by subst y;have:=rG e;unfold i7 at this;rw[List.mem_filter]at this;simpa using this.2
 rw[xU d]at e;refine gv (h.low z a b p e) λq j=>gv (u z a b p e) λn1 n2=>?_;unfold iN at q j ⊢
 rw[hk];exact⟨pW (aH n1) (aH d) q,pW (aH n2) (aH d) j⟩
def mK {α β:Type}[DecidableEq α]{l:az aaA}{k:α}{v:β}(h:fc l k=none):g0 l k v=l++[(k,v)]:=by delta g0;rw[aD];rw[lL,h];exact aZ
def K6 {α β:Type}[DecidableEq α]{l:az aaA}{k:α}{v:β}:(g0 l k v).length<=l.length+1:=by
 delta g0;split
 .rw[fI];lia
 .rw[i8,aX];exact aB _
def vU {α β:Type}[DecidableEq α]{l:az aaA}{k:α}{v x:β}(h:fc l k=some x):(g0 l k v).map Zx=l.map Zx/\(g0 l k v).length=l.length:=by have:k∈l.map (·.1):=fV.mp (by rw[h];rfl);have e:=sA (l:=l) (k:=k) (v:=v);rw[aF this]at e;exact⟨e,by have:=b8 List.length e;rwa [fI,fI]at this⟩
def M9 (h:jx S nm=false):fc S.af nm=none:=by
 delta jx at h;cases e:fc S.af nm with
 |none=>rfl
 |some x=>rw[e]at h;cases h
def oz (h:¬ jx S nm=false):∃ x,fc S.af nm=some x:=by
 delta jx at h;cases e:fc S.af nm with
 |none=>rw[e]at h;exact absurd rfl h
 |some x=>exact⟨x,rfl⟩
def r8 (h:oY S nm=none):iL nm=true/\fc S.af nm=none/\S.af.length<20:=by
 delta oY at h;split at h
 .cases h
 .rename_i j;split at h
  .cases h
  .rename_i d;split at h
   .cases h
   .rename_i q;exact⟨by cases e:iL nm with|true=>rfl|false=>exact absurd e j,M9 (by cases e:jx S nm with|false=>rfl|true=>exact absurd e d),by lia⟩
def or_none {α:Type}{a b:aA α}(h:a.or b=none):a=none/\b=none:=by
 cases a with
 |none=>exact⟨rfl,h⟩
 |some x=>cases h
def z9 {S:RS}{p:Int}(h:iV S p=none):1<=p/\p<S.n:=by
 delta iV at h;split at h
 .assumption
 .cases h
def xV {a:Int}(h:nH a=none):0<=a/\a<=20:=by
 delta nH at h;split at h
 .assumption
 .cases h
def Qx (h:LC z=true):OX z.cps.toList:=λc d=>by
 have:=List.all_eq_true.mp h c d;rcases Bool.or_eq_true_iff.mp this with q|q
 .exact .inl (bJ q)
 .exact .inr (bJ q)
def yd (h:wL af)(bar:Int):∀ nm x,fc af nm=some x->∃ b a,fc af (gE af nm bar).1=some (.fst b a):=by
 refine yV h (λnm=>∃ b a,fc af (gE af nm bar).1=some aaX) (λnm b a e=>?_) (λnm l r p e j d=>?_)
 .delta gE;rw[yW e];exact⟨b,a,e⟩
 .delta gE;rw[EI h e];split
  .exact j
  .exact d
def Gj {b:az Nat}{bar n:Int}{d:Str}(hb:(b.length:Int)=n)(h0:0<=bar)(e:bar<n)(hs:d.cps.toList.length=1):((vw b bar d).length:Int)=n:=by delta vw;rw[i8,i8,a9,bL,hs];lia
def JF {b:az Nat}{bar:Int}{d:Str}(hb:OX b)(hs:OX d.cps.toList):OX (vw b bar d):=λc e=>by
 rcases List.mem_append.mp e with q|q
 .exact hb c (bt q)
 .rcases List.mem_append.mp q with q | q
  .exact hs c q
  .exact hb c (List.mem_of_mem_drop q)
def BS {d:Str}(h:d = "o"\/d = "x"):OX d.cps.toList/\d.cps.toList.length=1:=by
 rcases h with rfl|rfl
 .exact⟨OX.of<|by decide +kernel,rfl⟩
 .exact⟨OX.of<|by decide +kernel,rfl⟩
def o6.again {S:RS}{m:Nat}(h:o6 S m){nm:Str}{b b':az Nat}{a a':Int}(e:fc S.af nm=some aaX)(hb:(b'.length:Int)=S.n)(C:OX b')(h0:0<=a')(E:a'<=20):o6 { S with af:=g0 S.af nm (.fst b' a')} (m+1):=by
 obtain⟨d,j⟩:=vU e;refine⟨h.n1,h.n2,h.kp.same d λz a b p q=>?_,j▸h.iu,λz b a q=>?_,λz l r p q=>?_,λp y=>?_,de h.shl,h.PV⟩
 .rw[rF]at q;split at q
  .cases q
  .exact q
 .rw[rF]at q;split at q
  .cases q;exact⟨hb,C,h0,E⟩
  .exact h.fs z b a q
 .rw[rF]at q;split at q
  .cases q
  .exact h.js z l r p q
 .have:p.1∈(g0 S.af nm<|.fst b' a').map (·.1):=List.mem_map.mpr ⟨p,y,rfl⟩;rw[d]at this;refine eU (List.mem_map.mp this) λq u F=>?_;rw[<- F];exact h.Ub q u
def o6.more {S:RS}{m:Nat}(h:o6 S m){nm:Str}{x:Pt}(hn:oY S nm=none)(j:∀ a b p,x=.jn a b p->(∃ y,fc S.af a=some y)/\(∃ y,fc S.af b=some y)/\1<=p/\p<S.n)(hf:∀ b a,x=.fst b a->(b.length:Int)=S.n/\OX b/\0<=a/\a<=20):o6 { S with af:=g0 S.af nm x} (m+1):=by
 refine kc (r8 hn) λn1 n2 E=>?_;have e:=mK (v:=x) n2;rw[e];have d:nm∉S.af.map (·.1):=λz=>by have:=fV.mpr z;rw[n2]at this;cases this
 have get:∀ z y,fc (S.af++[(nm,x)]) z=some y->fc S.af z=some y\/(z=nm/\y=x):=λz y q=>by
  rw[<- e,rF]at q;split at q
  .rename_i w;exact .inr ⟨w,(a5 q).symm⟩
  .exact .inl q
 refine⟨h.n1,h.n2,h.kp.push d λa b p q=>?_,by show(S.af++[(nm,x)]).length<=20;rw[i8,aX];lia,λz b a q=>?_,λz l r p q=>?_,λp u=>?_,de h.shl,h.PV⟩
 .obtain⟨⟨y,e1⟩,⟨w,C⟩,_⟩:=j a b p q;exact⟨fV.mp (by rw[e1];rfl),fV.mp (by rw[C];rfl)⟩
 .rcases get z _ q with q | ⟨_,q⟩
  .exact h.fs z b a q
  .exact hf b a q.symm
 .rcases get z _ q with q | ⟨_,q⟩
  .exact h.js z l r p q
  .exact(j l r p q.symm).2.2
 .rcases List.mem_append.mp u with q | q
  .exact h.Ub p q
  .rwa [List.mem_singleton.mp q]
def o6.do {S:RS}{m:Nat}{d:Dd}(h:o6 S m)(hr:mV S d=none):o6 (m7 S d) (m+1):=by
 cases d with
 | put nm b a =>
  obtain⟨u,j⟩:=or_none hr;split at j
  .rename_i q;obtain⟨a0,a1⟩:=xV j;exact h.more u (λ_ _ _ e=>by cases e) λY Z e=>by cases e;exact⟨q.1,Qx q.2,a0,a1⟩
  .cases j
 | join nm l r p =>
  obtain⟨u,j⟩:=or_none hr;split at j
  .cases j
  .rename_i q1;split at j
   .cases j
   .rename_i q2;obtain⟨Q,_⟩:=or_none j;obtain⟨p1,J⟩:=z9 Q;exact h.more u (λa b X e=>by cases e;exact⟨oz q1,oz q2,p1,J⟩) λ_ _ e=>by cases e
 | found nm bar F =>
  have hr:(if jx S nm=false then some 11 else if 0<=bar/\bar<S.n then(if F = "o"\/F = "x" then none else some 0)else some 6)=(none:aA Nat):=hr;split at hr
  .cases hr
  .rename_i q1;split at hr
   .rename_i q2;split at hr
    .rename_i I;obtain⟨x,ex⟩:=oz q1;refine GH (yd h.kp bar nm x ex) λb a e=>CN (h.fs _ b a e) λE C W U=>?_;obtain⟨M,L⟩:=BS I;have:=h.again e (Gj E q2.1 q2.2 L) (JF (bar:=bar) C M) W U;delta m7 yL;dsimp only;rwa [e]
    .cases hr
   .cases hr
 | rH nm a =>
  have hr:(match fc S.af nm with|none=>some 11|some (.jn _ _ _)=>some 13|some (.fst _ _)=>nH a)=(none:aA Nat):=hr;show o6 (match fc S.af nm with|some (.fst b _)=>{ S with af:=g0 S.af nm aaX}|_=>S) _;cases e:fc S.af nm with
  |none=>rw[e]at hr;cases hr
  | some x =>
   rw[e]at hr;cases x with
   |jn l r p=>cases hr
   | fst b a0 =>obtain⟨a1,a2⟩:=xV hr;exact kc (h.fs nm b a0 e) λE C _=>h.again e E C a1 a2
 | drop nm =>
  have hr:aaz=(none:aA Nat):=hr;split at hr
  .cases hr
  .split at hr
   .cases hr
   .rename_i q;have O:∀ z a b p,fc S.af z=some (.jn a b p)->a≠nm/\b≠nm:=λz a b p e=>by have G:¬ ox nm (.jn a b p)=true:=λy=>q<|List.any_eq_true.mpr ⟨_,rG e,y⟩;exact⟨λy=>G (by show(decide (a=nm)||decide (b=nm))=true;rw[aH y];rfl),λy=>G (by show(decide (a=nm)||decide (b=nm))=true;rw[aH y,Bool.or_true])⟩
    have get:∀ z y,fc (i7 S.af nm) z=some y->fc S.af z=some y:=λz y e=>by
     by_cases H:z=nm
     .subst H;have:=rG e;unfold i7 at this;rw[List.mem_filter]at this;exact absurd this.2 ZN
     .rw[xU H]at e;exact e
    refine⟨h.n1,h.n2,h.kp.drop O,aT (bN _ _) h.iu,λz b a e=>h.fs z b a<|get z _ e,λz l r p e=>h.js z l r p<|get z _ e,λp P=>h.Ub p (List.mem_filter.mp P).1,de h.shl,h.PV⟩
 |free p=>exact⟨h.n1,h.n2,h.kp,h.iu,h.fs,h.js,h.Ub,de<|aT (bN _ _) h.shl,h.PV.sublist<|List.Sublist.map _ List.filter_sublist⟩
 | gs p=>exact⟨h.n1,h.n2,h.kp,h.iu,h.fs,h.js,h.Ub,aT K6<|Nat.succ_le_succ h.shl,by
  show((g0 S.gs p ()).map Zx).Nodup
  rw[sA]
  split
  .exact h.PV
  .rename_i q
   rw[cv]
   exact⟨h.PV,by simp,λa ha b hb e=>q (by rw[<- List.mem_singleton.mp hb,<- e];exact ha)⟩⟩
def mf:Pt->D
 |.fst _ _=>.fX
 |.jn l r p=>.tup [.str l,.str r,.int p]
def JM:Str×Pt->aA (Str×Tk)
 |(nm,.fst b a)=>some (nm,(b,a))
 |(_,.jn _ _ _)=>none
def fA (af:az aak):az (Str×Tk):=af.filterMap JM
def L6 (d:az (Int×Unit)):D:=pH kM aay d
def LB:az Str:=["length","made_of","firsts","closed"]
def jL (d:au)(S:RS):D:=.obj d LB [.int S.n,pH fG mf S.af,pH fG iI (fA S.af),L6 S.gs]
def mG:Dd->D
 |.put nm b a=>.tup [.str "put",.str nm,.str b,.int a]
 |.join nm l r p=>.tup [.str "join",.str nm,.str l,.str r,.int p]
 |.found nm bar d=>.tup [.str "found",.str nm,.int bar,.str d]
 |.rH nm a=>.tup [.str "aged",.str nm,.int a]
 |.drop nm=>.tup [.str "drop",.str nm]
 |.free p=>.tup [.str "free",.int p]
 |.gs p=>.tup [.str "shut",.int p]
def XW:Dd->Nat
 |.put _ _ _=>0|.join _ _ _ _=>1|.found _ _ _=>2|.rH _ _=>3|.drop _=>4|.free _=>5|.gs _=>6
def Ks:Dd->Prop
 |.put nm b _=>nm.length<=1000/\b.length<=1000
 |.join nm _ _ _=>nm.length<=1000
 |_=>True
def uh (cs:az au)(K:DK)(e:DX)(o:aA Nat)(d:D)(μ:MS):Prop:=match o with
 |some i=>e (.ref<|cs.getD i 0) μ
 |none=>K d μ
def OS:jo:=λq d K=>match q with
 |[.ki e j,y,v]=>∃(kd:az aap) (k:Key),e=kd.map Zx/\j=kd.map ZI/\kd.length<=100000/\mC y=some k/\K (.ki ((dput kd k v).map Zx) ((dput kd k v).map ZI)) d
 |_=>False
def AI:jo:=λu d K=>match u with
 |[.ki e q,y]=>∃(kd:az aap) (k:Key),e=kd.map Zx/\q=kd.map ZI/\kd.length<=100000/\(kd.map Zx).Nodup/\mC y=some k/\(∀ p∈kd,(∃ i j,p.1=kM i/\k=kM j)\/∃ i j,p.1=fG i/\k=fG j)/\K (.ki ((kd.filter λp=>decide (p.1≠k)).map Zx) ((kd.filter λp=>decide (p.1≠k)).map ZI)) d
 |_=>False
def Nt:jo:=λe d K=>dM [.i,.s] e λn z=>z.length<=1000/\K (.bl<|decide (((z.length:Nat):Int)=n/\LC z=true)) d
def JU (j:au)(cs:az au):ke:=λe d K q=>dM [.v,.s] e λx nm=>abc/\∃ S,x=jL j S/\(match fc S.af nm with|some _=>K .fX d|none=>q (.ref<|cs.getD 11 0) d)
def CA {K:DK}(h:JU cS cs ds μ K Kx):ds.length=2/\∃ m,μ[0]?=some m:=by obtain⟨_,_,rfl,h⟩:=dJ h;exact⟨rfl,h.1⟩
def EF (j:au)(cs:az au):ke:=λe d K q=>dM [.v,.s] e λx nm=>abc/\∃ S,x=jL j S/\(match fc S.af nm with|some y=>K (mf y) d|none=>q (.ref<|cs.getD 11 0) d)
def AN {K:DK}(h:EF cS cs ds μ K Kx):ds.length=2/\∃ m,μ[0]?=some m:=by obtain⟨_,_,rfl,h⟩:=dJ h;exact⟨rfl,h.1⟩
def BM (p:Str×Nat):D:=.tup [.str p.1,.int p.2]
def AJ (q:au)(cs:az au):ke:=λj d K e=>dM [.v,.s,.i] j λx nm bar=>abc/\∃ S,x=jL q S/\wL S.af/\(match fc S.af nm with|some _=>(if 0<=bar/\bar<S.n then K (BM<|gE S.af nm bar) d else e (.ref<|cs.getD 6 0) d)|none=>e (.ref<|cs.getD 11 0) d)
def yR {K:DK}(h:AJ cS cs ds μ K Kx):ds.length=3/\∃ m,μ[0]?=some m:=by obtain⟨_,_,_,rfl,h⟩:=dJ h;exact⟨rfl,h.1⟩
def uG (af:az aak):az (Str×Tk):=af.map λp=>(p.1,gb af p.1)
def J6 (j:au):jo:=λe d K=>dM [.v] e λx=>∃ S m,x=jL j S/\o6 S m/\K (pH fG iI<|uG S.af) d
def JV (j:au)(cs:az au):ke:=λe d K q=>dM [.v,.s] e λx nm=>abc/\∃ S m,x=jL j S/\o6 S m/\(match fc S.af nm with|some _=>K (iI<|gb S.af nm) d|none=>q (.ref<|cs.getD 11 0) d)
def CB {K:DK}(h:JV cS cs ds μ K Kx):ds.length=2/\∃ m,μ[0]?=some m:=by obtain⟨_,_,rfl,h⟩:=dJ h;exact⟨rfl,h.1⟩
def hZ (S:RS):az Int:=((List.range (S.n - 1).toNat).map λi=>1+((i:Nat):Int)).filter λp=>!(fc S.gs p).isSome
def gU (S:RS):az Tk:=S.af.map λp=>gb S.af p.1
def Nk (j:au):jo:=λe d K=>dM [.v] e λx=>∃ S m,x=jL j S/\o6 S m/\K (.tup [.int S.n,.lst ((hZ S).map D.int),.lst ((gU S).map iI)]) d
def Nj (e:au):jo:=λj d K=>dM [.m,.i,.v,.v,.v] j λk n a b c=>d[k]?=some (.ins e [] [])/\K .fX (d.set k<|.ins e LB [.int n,a,b,c])
def m5 (j:au)(cs:az au)(w:Nat):ke:=λq e K u=>dM [.v,.v] q λx y=>(∃ m,e[0]?=some m)/\∃ S d m,x=jL j S/\y=mG d/\XW d=w/\o6 S m/\m<=1000/\Ks d/\uh cs K u (mV S d) (jL j<|m7 S d) e
def jE {K:DK}(h:m5 cS cs w ds μ K Kx):ds.length=2/\∃ m,μ[0]?=some m:=by obtain⟨_,_,rfl,h⟩:=dJ h;exact⟨rfl,h.1⟩
def AO (j:au)(cs:az au):ke:=λq e K u=>dM [.v,.v] q λx y=>(∃ m,e[0]?=some m)/\∃ S d m,x=jL j S/\y=mG d/\o6 S m/\m<=1000/\Ks d/\uh cs K u (mV S d) (jL j<|m7 S d) e
def yU {K:DK}(h:AO cS cs ds μ K Kx):ds.length=2/\∃ m,μ[0]?=some m:=by obtain⟨_,_,rfl,h⟩:=dJ h;exact⟨rfl,h.1⟩
def UN (j:au)(cs:az au):ke:=λe d K q=>dM [.v,.s] e λx nm=>abc/\nm.length<=1000/\∃ S,x=jL j S/\uh cs K q (oY S nm) .fX d
def J0 {K:DK}(h:UN cS cs ds μ K Kx):ds.length=2/\∃ m,μ[0]?=some m:=by obtain⟨_,_,rfl,h⟩:=dJ h;exact⟨rfl,h.1⟩
def OY (cs:az au):ke:=λe d K j=>dM [.i] e λa=>abc/\uh cs K j (nH a) .fX d
def GB {K:DK}(h:OY cs ds μ K Kx):ds.length=1/\∃ m,μ[0]?=some m:=by obtain⟨_,rfl,h⟩:=dJ h;exact⟨rfl,h.1⟩
def EE (j:au)(cs:az au):ke:=λe d K q=>dM [.v,.i] e λx p=>abc/\∃ S,x=jL j S/\uh cs K q (iV S p) .fX d
def AM {K:DK}(h:EE cS cs ds μ K Kx):ds.length=2/\∃ m,μ[0]?=some m:=by obtain⟨_,_,rfl,h⟩:=dJ h;exact⟨rfl,h.1⟩
def KR {P:ak}{w:ao}{K:aj}{mg:Str->aA av}{ah:Heap}{k:Nat}{ps:az Str}:N6 P w K mg ah [] k ps:=⟨λ_ h=>nomatch h⟩
def ky {P:ak}{w:ao}{K:aj}{mg:Str->aA av}{ah:Heap}{x:Str}{k:Nat}{ps:az Str}{f:ke}{a:au}{T:az (au×ke)}(C:qg P w K mg ah x k ps (nj f))(hm:mg x=some (.ref a))(R:N6 P w K mg ah T k ps):N6 P w K mg ah ((a,f)::T) k ps:=⟨λp e=>by
 rcases List.mem_cons.mp e with rfl|q
 .refine jz C.ex λj fd F d hk hb=>?_
  rw[hm]at d
  cases d
  exact⟨fd,F,hk,hb⟩
 .exact R.ex p q⟩
def gi:(μ++[x])[μ.length]?=some x:=by rw[lQ aaa,bc];rfl
def EK:tU (μ++[.gP ks ds]) μ.length=some (ks,ds):=by delta tU;rw[gi]
theorem uj:∀ {ds:az D} {d:D},nO n ds->d∈ds->sW n d
 | _::_,d,h,hd=>by
  rcases List.mem_cons.mp hd with rfl|q
  .exact h.1
  .exact uj h.2 q
def Km (h:d∈(dput kd k v).map ZI):d∈kd.map ZI\/d=v:=by
 delta dput at h;split at h
 .rw[aQ]at h;obtain⟨p,e,rfl⟩:=List.mem_map.mp h;simp only[Function.comp];split
  .exact .inr rfl
  .exact .inl (List.mem_map.mpr ⟨p,e,rfl⟩)
 .rw[aM]at h;rcases List.mem_append.mp h with q|q
  .exact .inl q
  .exact .inr (List.mem_singleton.mp q)
def mX (h:nO n (kd.map ZI))(e:sW n v):nO n ((dput kd k v).map ZI):=iM λd hd=>by
 rcases Km hd with q|q
 .exact uj h q
 .rwa [q]
def Kl (h:k∉kd.map Zx):dput kd k v=kd++[(k,v)]:=by delta dput;rw[aD];intro z;exact eU (List.any_eq_true.mp z) λp d e=>h (List.mem_map.mpr ⟨p,d,bJ e⟩)
def xo {kd:az aap}:List.zipWith (λk d=>D.tup [ou k,d]) (kd.map Zx) (kd.map ZI)=kd.map λp=>D.tup [ou p.1,p.2]:=by
 induction kd with
 |nil=>rfl
 |cons p kd e=>rw[aJ,aJ,cj,e];rfl
theorem l6 {it:D->MS->(aA aap->MS->Prop)->Prop}{μ:MS}(t:Key×D->Bool):∀(kd d:az aap) (K:az aap->Prop),((d++kd).map Zx).Nodup ->
 (∀ p∈kd,∀(μ':MS) (y:aA aap->MS->Prop),y (if t p=true then some p else none) μ'->it (.tup [ou p.1,p.2]) μ' y)->K (d++kd.filter t)->sq it (λ_=>True) μ (kd.map λp=>D.tup [ou p.1,p.2]) d K
 |[],d,K,_,_,k=>by rw[List.filter_nil,bH]at k;exact⟨trivial,k⟩
 | p::kd,d,K,nd,h,k=>by
  refine⟨trivial,h p aE _ _ ⟨rfl,?_⟩⟩;rw[bE]at k;have u:=nd.sublist<|List.Sublist.map _<|List.Sublist.append_left (List.sublist_cons_self _ _) _;by_cases q:t p=true
  .rw[aF q]at k ⊢
   have hn:p.1∉d.map (·.1):=λz=>by rw[aM,cv]at nd;exact nd.2.2 p.1 z p.1 (List.mem_map.mpr ⟨p,aE,rfl⟩) rfl
   show sq it _ μ _ (dput d p.1 p.2) K;rw[Kl hn];exact l6 t kd (d++[p]) K (by rwa [aS]) (λj e=>h j<|jJ _ e) (by rwa [aS])
  .rw[aD q]at k ⊢
   exact l6 t kd d K u (λj e=>h j<|jJ _ e) k
theorem KP:∀ l:az Nat,l.count 111+l.count 120=l.length↔(l.all λc=>decide (c=111)||decide (c=120))=true
 |[]=>by simp
 | c::l=>by
  have q:=KP l;have le:l.count 111+l.count 120<=l.length:=by
   clear q;induction l with
   |nil=>simp
   | cons d l j =>
    rw[d9,d9,aY];by_cases e1:d=111
    .subst e1;lia
    .by_cases e:d=120
     .subst e;lia
     .lia
  rw[d9,d9,aY,dk];by_cases e1:c=111
  .subst e1;lia
  .by_cases e:c=120
   .subst e;lia
   .rw[aD (by simpa using e1),aD (by simpa using e),aO e1,aO e];lia
def iY (p:Str×Pt)(l:az aak):fA (p::l)=match JM p with | some q=>q::fA l | none=>fA l:=by delta fA;rw[cb];cases JM p<;>rfl
def lI (nd:(l.map Zx).Nodup):fc (fA l) nm=match fc l nm with | some (.fst b a)=>some (b,a) | _=>none:=by
 induction l with
 |nil=>rfl
 | cons p l d =>
  obtain⟨z,x⟩:=p;rw[aJ,List.nodup_cons]at nd;have d:=d nd.2;rw[iY,fW];by_cases e:z=nm
  .rw[aF e];have hn:fc l nm=none:=by
    cases q:fc l nm with
    |none=>rfl
    |some y=>exact absurd (fV.mp (show(fc l nm).isSome=true by rw[q];rfl)) (e▸nd.1)
   cases x with
   |fst b a=>show fc ((z,(b,a))::fA l) nm=_;rw[fW,aF e]
   |jn a b p=>show fc (fA l) nm=_;rw[d,hn]
  .rw[aD e];cases x with
   |fst b a=>show fc ((z,(b,a))::fA l) nm=_;rw[fW,aD e,d]
   |jn a b p=>show fc (fA l) nm=_;rw[d]
def vG:((fA l).map Zx).Sublist (l.map Zx):=by
 induction l with
 |nil=>exact .slnil
 | cons p l d =>
  obtain⟨z,x⟩:=p;cases x with
  |fst b a=>exact d.cons₂ _
  |jn a b q=>exact d.cons _
def AH:fA (i7 l nm)=i7 (fA l) nm:=by
 delta i7;induction l with
 |nil=>rfl
 | cons p l d =>
  obtain⟨z,x⟩:=p;rw[bE,iY];by_cases e:z=nm
  .rw[aD (by simp[e]),d];cases x with
   |fst b a=>show _=List.filter _ ((z,(b,a))::fA l);rw[bE,aD (by simp[e])]
   |jn a b q=>rfl
  .rw[aF (by simp[e]),iY,d];cases x with
   |fst b a=>show _=List.filter _ ((z,(b,a))::fA l);rw[bE,aF (by simp[e])];rfl
   |jn a b q=>rfl
def vI:fA (l++m)=fA l++fA m:=List.filterMap_append
def Gv {l:az aak}{nm a b:Str}{p:Int}(h:fc l nm=none):fA (g0 l nm<|.jn a b p)=fA l:=by rw[mK h,vI];exact bH _
def Cv {l:az aak}{nm:Str}{b:az Nat}{a:Int}(nd:(l.map Zx).Nodup)(h:fc l nm=none):fA (g0 l nm<|.fst b a)=g0 (fA l) nm (b,a):=by rw[mK h,mK (by rw[lI nd,h]),vI];rfl
def Bl {α β:Type}[DecidableEq α]{l:az aaA}{k:α}{v:β}(h:k∉l.map Zx):(l.map λp=>if p.1=k then(p.1,v)else p)=l:=by
 conv=>rhs;rw[<- List.map_id l]
 refine bG λp d=>?_;rw[aD]
 .rfl
 .exact λe=>h (List.mem_map.mpr ⟨p,d,e⟩)
def vH {l:az aak}{nm:Str}{b b0:az Nat}{a a0:Int}(nd:(l.map Zx).Nodup)(h:fc l nm=some (.fst b0 a0)):fA (g0 l nm<|.fst b a)=g0 (fA l) nm (b,a):=by
 have d:fc (fA l) nm=some (b0,a0):=by rw[lI nd,h]
 delta g0;rw[aF (by rw[lL,h];rfl),aF (by rw[lL,d];rfl)];clear d;induction l with
 |nil=>cases h
 | cons p l j =>
  obtain⟨z,x⟩:=p;rw[aJ,List.nodup_cons]at nd;rw[fW]at h;rw[aJ];by_cases e:z=nm
  .subst e;rw[aF rfl]at h;cases(a5 h);rw[aF rfl,Bl (k:=z) nd.1,iY,iY];show(z,(b,a))::fA l=List.map _ ((z,(b0,a0))::fA l);rw[aJ,aF rfl,Bl (k:=z) (λq=>nd.1<|vG.subset q)]
  .rw[aD e]at h;rw[aD e,iY,iY,j nd.2 h];cases x with
   |fst u a1=>show _=List.map _ ((z,(u,a1))::fA l);rw[aJ,aD e];rfl
   |jn _ _ _=>rfl
def wV {S:RS}{m:Nat}(h:o6 S m):∀ nm x,fc S.af nm=some x->((gb S.af nm).1.length:Int)=S.n/\OX (gb S.af nm).1/\0<=(gb S.af nm).2:=by
 refine yV h.kp (λnm=>((gb S.af nm).1.length:Int)=S.n/\OX (gb S.af nm).1/\0<=(gb S.af nm).2) (λnm b a e=>?_) (λnm l r p e j d=>?_)
 .delta gb;rw[yW e];exact CN (h.fs nm b a e) λC u q _=>⟨C,u,q⟩
 .refine gv (h.js nm l r p e) λp1 E=>?_;unfold gb at j d ⊢
  rw[EI h.kp e];refine kc j λa1 a2 a3=>?_;obtain⟨G,b2,F⟩:=d;refine⟨?_,QR a2 b2,?_⟩
  .have:=MM (l1:=(ev (λ_ b a=>(b,a)) (λx y p=>(Gb x.1 y.1 p,max x.2 y.2+1)) ([],0) S.af l:az Nat×Int).1) (l2:=(ev (λ_ b a=>(b,a)) (λx y p=>(Gb x.1 y.1 p,max x.2 y.2+1)) ([],0) S.af r:az Nat×Int).1) (p:=p) (dU ‹_›) Zs Zs;rwa [this]
  .lia
def Dq {S:RS}(h:wL S.af){nm l r:Str}{p:Int}(e:fc S.af nm=some (.jn l r p)):gb S.af nm=Jq (gb S.af l) (gb S.af r) p:=by delta gb;rw[EI h e];rfl
def ya {af:az aak}{nm:Str}{b:az Nat}{a:Int}(e:fc af nm=some aaX):gb af nm=(b,a):=by delta gb;rw[yW e]
def gY {α β:Type}(κ:α->Key)(f:β->D)(l:az aaA):(l.map λp=>κ p.1)=(l.map λp=>(κ p.1,f p.2)).map Zx/\(l.map λp=>f p.2)=(l.map λp=>(κ p.1,f p.2)).map (·.2):=by rw[aQ,aQ];exact⟨rfl,rfl⟩
def qt {af:az aak}{nm:Str}{b:az Nat}{a bar:Int}(e:fc af nm=some aaX):gE af nm bar=(nm,0):=by delta gE;rw[yW e]
def yc {af:az aak}(h:wL af){nm l r:Str}{p:Int}(e:fc af nm=some (.jn l r p))(bar:Int):gE af nm bar=if bar<p then((gE af l bar).1,(gE af l bar).2+1)else((gE af r bar).1,(gE af r bar).2+1):=by delta gE;rw[EI h e]
def F4 {α β:Type}{n:Nat}{κ:α->Key}{f:β->D}(hf:∀ b,sW n (f b))(l:az aaA):nO n ((l.map λp=>(κ p.1,f p.2)).map ZI):=iM λd hd=>by rw[aQ]at hd;refine eU (List.mem_map.mp hd) λp _ e=>?_;subst e;exact hf _
def sT:∀ x,sW n (mf x)
 |.fst _ _=>trivial
 |.jn _ _ _=>⟨trivial,trivial,trivial,trivial⟩
def qm (t:Tk):sW n (iI t):=⟨trivial,trivial,trivial⟩
def sV {α β:Type}{n:Nat}{κ:α->Key}{f:β->D}(hf:∀ b,sW n (f b))(l:az aaA):sW n (pH κ f l):=iM λd hd=>by obtain⟨p,_,rfl⟩:=List.mem_map.mp hd;exact hf _
def Am (l:az (Int×Unit)):sW n (L6 l):=sV (f:=λ_:Unit=>D.bl true) (λ_=>True.intro) l
section
variable [DecidableEq α]{κ:α->Key}(hi:∀ a b,κ a=κ b->a=b)(f:β->D)
include hi
def Fx (k:α)(v:β)(l:az aaA):D.ki ((dput (l.map λp=>(κ p.1,f p.2)) (κ k)<|f v).map Zx) ((dput (l.map λp=>(κ p.1,f p.2)) (κ k)<|f v).map ZI)=pH κ f (g0 l k v):=by rw[CO hi f k v l,<- (gY κ f _).1,<- (gY κ f _).2];rfl
def Hg (k:α)(l:az aaA):D.ki (((l.map λp=>(κ p.1,f p.2)).filter λp=>decide (p.1≠κ k)).map Zx) (((l.map λp=>(κ p.1,f p.2)).filter λp=>decide (p.1≠κ k)).map ZI)=pH κ f (i7 l k):=by rw[EN hi f k l,<- (gY κ f _).1,<- (gY κ f _).2];rfl
def Jo {l:az aaA}(nd:(l.map Zx).Nodup):((l.map λp=>(κ p.1,f p.2)).map Zx).Nodup:=by rw[aQ];show(l.map<|κ ∘ λp=>p.1).Nodup;rw[<- aQ];exact nd.map (f:=κ) λa b h z=>h (hi _ _ z)
end
def kd_len {α β:Type}{κ:α->Key}{f:β->D}{l:az aaA}:(l.map λp=>(κ p.1,f p.2)).length=l.length:=fI _
def QV [Decidable c]{B:Prop}(e:¬ c->A)(d:c->B):if(!decide c)=true then A else B:=by
 by_cases q:c
 .rw[aH q];exact d q
 .rw[aO q];exact e q
def Vv:decide (([a]:az Nat)<[b])=decide (a<b):=by
 by_cases h:a<b
 .rw[aH h,aH (show([a]:az Nat)<[b]from List.Lex.rel h)]
 .rw[aO h,aO];intro z;cases z with
  |rel q=>exact h q
  |cons q=>cases q
def IT (e:¬ ((nm.length:Nat):Int)<1)(d:¬ (8:Int)<((nm.length:Nat):Int)):iL nm=(nm.cps.toList.all λc=>decide (97<=c)&&decide (c<=122)):=by delta iL;rw[aH (show 1<=nm.length by lia),aH (show nm.length<=8 by lia)];rfl
def Ah (S:RS):(((List.range (S.n - 1).toNat).map λi=>1+((i:Nat):Int)).filterMap λp=>if(fc S.gs p).isSome=true then none else some (D.int p))=(hZ S).map D.int:=by
 delta hZ;generalize ((List.range (S.n - 1).toNat).map λi=>1+((i:Nat):Int))=l;induction l with
 |nil=>rfl
 | cons p l d =>
  rw[cb,bE];cases(fc S.gs p).isSome with
  |true=>exact d
  |false=>show D.int p::_=D.int p::_;rw[d]
def z7 {l:az aak}{nm:Str}{b b0:az Nat}{a a0:Int}(h:fc l nm=some (.fst b0 a0))(nd:(l.map Zx).Nodup:=by assumption):pH fG mf (g0 l nm<|.fst b a)=pH fG mf l:=by
 delta pH;have d:=(vU (v:=Pt.fst b a) h).1;have e1:(g0 l nm<|.fst b a).map (λp=>fG p.1)=l.map λp=>fG p.1:=by have:=b8 (List.map fG) d;rwa [aQ,aQ]at this
 congr 1;delta g0;rw[aF (by rw[lL,h];rfl),aQ];refine bG λp j=>?_;simp;by_cases e:p.1=nm
 .rw[aF e];have:fc l nm=some p.2:=gB nd<|e▸j;rw[h]at this;rw[<- a5 this];rfl
 .rw[aD e]
def zh:(⟨l.toArray⟩++d:Str)=⟨(l++d.cps.toList).toArray⟩:=ng l d.cps.toList
def Um [Decidable c1][Decidable c2]{B:Prop}(d:c1\/c2->B)(hA:¬ (c1\/c2)->A):if(true != decide c1)=true then(if(true != decide c2)=true then A else B)else B:=by
 by_cases q1:c1
 .rw[aH q1];exact d (.inl q1)
 .by_cases q2:c2
  .rw[aO q1,aH q2];exact d (.inr q2)
  .rw[aO q1,aO q2];exact hA λz=>z.elim q1 q2
def nG:az Str:=["stands","rows","done"]
structure fC (cR cS:au)(μ:MS)(k j1 j2:Nat)(ss:List RS)(rs:List Dd)(d:Nat):Prop where
 k0:k≠0
 a0:j1≠0
 b0:j2≠0
 ka:k≠j1
 kb:k≠j2
 ab:j1≠j2
 ins:μ[k]?=some (.ins cR nG [.mr j1,.mr j2,.int (d:Int)])
 l1:μ[j1]?=some (.lst<|ss.map<|jL cS)
 l2:μ[j2]?=some (.lst<|rs.map mG)
 len:ss.length=rs.length+1
 le:d<=rs.length
 wf:∀ i S,ss[i]?=some S->o6 S i
 iu:rs.length<=900
def jh (cR cS:au)(μ:MS)(k j1 j2:Nat)(ss:az RS)(rs:az Dd)(d:Nat):MS:=((μ.set j1<|.lst<|ss.map<|jL cS).set j2<|.lst<|rs.map mG).set k (.ins cR nG [.mr j1,.mr j2,.int (d:Int)])
section
variable {μ:MS}
def fC.lk (h:fC cR cS μ k j1 j2 ss rs d):k<μ.length/\j1<μ.length/\j2<μ.length:=⟨(jA h.ins).1,(jA h.l1).1,(jA h.l2).1⟩
def fC.now (h:fC cR cS μ k j1 j2 ss rs d):∃ S,ss[d]?=some S/\o6 S d:=by
 have:d<ss.length:=by have:=h.len;have:=h.le;lia
 exact⟨_,iO this,h.wf d _<|iO this⟩
def fC.other (h:fC cR cS μ k j1 j2 ss rs d)(hk:i≠k)(j:i≠j1)(e:i≠j2):fC cR cS (μ.set i m) k j1 j2 ss rs d :=
 ⟨h.k0,h.a0,h.b0,h.ka,h.kb,h.ab,by rw[aK hk];exact h.ins,by rw[aK j];exact h.l1,by rw[aK e];exact h.l2,h.len,h.le,h.wf,h.iu⟩
def fC.gx (h:fC cR cS μ k j1 j2 ss rs d):fC cR cS (μ.set 0 m) k j1 j2 ss rs d:=h.other (bB h.k0) (bB h.a0) (bB h.b0)
def fC.more (h:fC cR cS μ k j1 j2 ss rs d):fC cR cS (μ++g) k j1 j2 ss rs d:=by exact kc h.lk λa b c=>⟨h.k0,h.a0,h.b0,h.ka,h.kb,h.ab,by rw[pF a];exact h.ins,by rw[pF b];exact h.l1,by rw[pF c];exact h.l2,h.len,h.le,h.wf,h.iu⟩
def fC.put (h:fC cR cS μ k j1 j2 ss rs d)(len:ss'.length=rs'.length+1)(le:d'<=rs'.length)(wf:∀ i S,ss'[i]?=some S->o6 S i)(iu:rs'.length<=900):fC cR cS (jh cR cS μ k j1 j2 ss' rs' d') k j1 j2 ss' rs' d':=by
 refine kc h.lk λa b c=>⟨h.k0,h.a0,h.b0,h.ka,h.kb,h.ab,?_,?_,?_,len,le,wf,iu⟩
 .delta jh;rw[aV (by rw[ba,ba];exact a)]
 .delta jh;rw[aK h.ka,aK (bB h.ab),aV b]
 .delta jh;rw[aK h.kb,aV (by rw[ba];exact c)]
def set_same (h:μ[i]?=some m):μ.set i m=μ:=by
 refine cG λj=>?_;by_cases e:i=j
 .subst e;rw[aV (jA h).1,h]
 .rw[aK e]
def uc (h:fC cR cS μ k j1 j2 ss rs d)(em:μ[0]?=some m0):(jh cR cS (μ.set 0 m) k j1 j2 ss' rs' d').set 0 m0=jh cR cS μ k j1 j2 ss' rs' d'/\(jh cR cS (μ.set 0 m) k j1 j2 ss' rs' d')[0]?=some m:=by
 have e:=(jA em).1;delta jh;refine⟨?_,?_⟩
 .rw[di _ _ h.k0,di _ _ h.b0,di _ _ h.a0,eQ,set_same em]
 .rw[aK h.k0,aK h.b0,aK h.a0,aV e]
def u7:(jh cR cS μ k j1 j2 ss' rs' d').length=μ.length:=by delta jh;rw[ba,ba,ba]
def jO (hk:i≠k)(j:i≠j1)(e:i≠j2):(jh cR cS μ k j1 j2 ss' rs' d')[i]?=μ[i]?:=by delta jh;rw[aK (bB hk),aK (bB e),aK (bB j)]
end
section
variable (cR cS:au)(cs:az au)
def ED:ke:=λds μ K Kx=>dM [.m,.i] ds λk n=>(∃ m,μ[0]?=some m)/\k≠0/\μ[k]?=some (.ins cR [] [])/\(if 1<=n/\n<=40 then K .fX (μ.set k (.ins cR nG [.mr μ.length,.mr (μ.length+1),.int 0])++[.lst [jL cS ⟨n,[],[]⟩],.lst []])else Kx (.ref<|cs.getD 8 0) μ)
def XI:jo:=λds μ K=>dM [.m] ds λk=>∃ j1 j2 ss rs d S,fC cR cS μ k j1 j2 ss rs d/\ss[d]?=some S/\K (jL cS S) μ
def CH:ke:=λds μ K Kx=>dM [.m,.v] ds λk y=>(∃ m,μ[0]?=some m)/\∃ j1 j2 ss rs d S e,fC cR cS μ k j1 j2 ss rs d/\ss[d]?=some S/\y=mG e/\Ks e/\rs.length<900/\(match mV S e with|some i=>Kx (.ref<|cs.getD i 0) μ|none=>K .fX<|jh cR cS μ k j1 j2 (ss.take (d+1)++[m7 S e]) (rs.take d++[e])<|d+1)
def JW (b:Bool):jo:=λds μ K=>dM [.m] ds λk=>∃ j1 j2 ss rs d,fC cR cS μ k j1 j2 ss rs d/\K (.lst<|(if b=true then rs.take d else rs.drop d).map mG) μ
def yT (g:RS->D):jo:=λds μ K=>dM [.m] ds λk=>∃ j1 j2 ss rs d S,fC cR cS μ k j1 j2 ss rs d/\ss[d]?=some S/\K (g S) μ
def ur (g:RS->Str->D):ke:=λds μ K Kx=>dM [.m,.s] ds λk nm=>(∃ m,μ[0]?=some m)/\∃ j1 j2 ss rs d S,fC cR cS μ k j1 j2 ss rs d/\ss[d]?=some S/\(match fc S.af nm with|some _=>K (g S nm) μ|none=>Kx (.ref<|cs.getD 11 0) μ)
def AK:ke:=λds μ K Kx=>dM [.m,.s,.i] ds λk nm bar=>(∃ m,μ[0]?=some m)/\∃ j1 j2 ss rs d S,fC cR cS μ k j1 j2 ss rs d/\ss[d]?=some S/\(match fc S.af nm with|some _=>(if 0<=bar/\bar<S.n then K (BM<|gE S.af nm bar) μ else Kx (.ref<|cs.getD 6 0) μ)|none=>Kx (.ref<|cs.getD 11 0) μ)
end
def UE (S:RS):D:=.int S.n
def JJ (S:RS):D:=.lst (S.af.map λp=>.str p.1)
def JK (S:RS):D:=.lst ((hZ S).map D.int)
def vC (S:RS):D:=.lst ((gU S).map iI)
def UH (S:RS)(nm:Str):D:=.str (txt (gb S.af nm).1)
def XF (S:RS)(nm:Str):D:=.int (gb S.af nm).2
def yN (S:RS)(nm:Str):D:=match fc S.af nm with|some y=>mf y|none=>.fX
section
variable {K:DK}
def AL (h:ED cR cS cs ds μ K Kx):ds.length=2/\∃ m,μ[0]?=some m:=by obtain⟨_,_,rfl,h⟩:=dJ h;exact⟨rfl,h.1⟩
def CG (h:CH cR cS cs ds μ K Kx):ds.length=2/\∃ m,μ[0]?=some m:=by obtain⟨_,_,rfl,h⟩:=dJ h;exact⟨rfl,h.1⟩
def oA {g:RS->Str->D}(h:ur cR cS cs g ds μ K Kx):ds.length=2/\∃ m,μ[0]?=some m:=by obtain⟨_,_,rfl,h⟩:=dJ h;exact⟨rfl,h.1⟩
def yS (h:AK cR cS cs ds μ K Kx):ds.length=3/\∃ m,μ[0]?=some m:=by obtain⟨_,_,_,rfl,h⟩:=dJ h;exact⟨rfl,h.1⟩
end
def nN:Pt->D
 |.fst b a=>.tup [.str "first",.str (txt b),.int a]
 |.jn l r p=>.tup [.str "joined",.str l,.str r,.int p]
def xb (S:RS):D:=.tup [.int S.n,pH fG nN S.af,L6 S.gs]
def Qf:∀ x,sW n (nN x)
 |.fst _ _=>⟨trivial,trivial,trivial,trivial⟩
 |.jn _ _ _=>⟨trivial,trivial,trivial,trivial,trivial⟩
def pT (d:az Str):Prop:=1<=d.length/\d.length<=50/\∀ z∈d,iL z=true
def zM (l:az Str):D:=.lst (l.map D.str)
def Nq:jo:=λj e K=>dM [.m,.i] j λk many=>e[k]?=some .box/\1<=many/\many<=50/\∀ d:az Str,(d.length:Int)=many->pT d->K (zM d) e
def Nn:jo:=λe d K=>dM [.v,.s,.i] e λx nm bar=>∃ af y,SJ d x=some (af.map λp=>fG p.1,af.map λp=>nN p.2)/\wL af/\fc af nm=some y/\K (BM<|gE af nm bar) d
def La (af:az aak):az (Str×Int):=af.map λp=>(p.1,(gb af p.1).2)
def Rx:jo:=λe d K=>dM [.v] e λx=>∃ S m,x=pH fG nN S.af/\o6 S m/\K (pH fG D.int<|La S.af) d
def Rp:jo:=λe d K=>dM [.v,.s] e λx nm=>∃ S m y,x=xb S/\o6 S m/\fc S.af nm=some y/\K (.str<|txt (gb S.af nm).1) d
def Nh:jo:=λe d K=>dM [.v] e λx=>∃ S m,x=xb S/\o6 S m/\K (vC S) d
def Rk:jo:=λe d K=>dM [.v] e λx=>∃ S m,x=xb S/\o6 S m/\K (JK S) d
def Rt:jo:=λj e K=>dM [.v,.v] j λx y=>∃ S d m,x=xb S/\y=mG d/\o6 S m/\m<=1000/\mV S d=none/\K (xb<|m7 S d) e
def El (af:az aak):az Str:=(af.map Zx).filter λz=>!af.any λp=>ox z p.2
def Ni (F E:au):jo:=λC e K=>dM [.m,.v] C λk x=>(∃ m,e[0]?=some m)/\∃ y u j q d S,fC F E e k y u j q d/\j[d]?=some S/\x=xb S/\K (.bl true) e
def o6.new {n:Int}(j:1<=n)(d:n<=40):o6 ⟨n,[],[]⟩ 0 :=
 ⟨j,d,⟨.nil,λ_ _ _ _ e=>(by cases e)⟩,bx _,λ_ _ _ e=>(by cases e),λ_ _ _ _ e=>(by cases e),λ_ h=>(nomatch h),aB _,.nil⟩
def fC.made {j d:au}{μ:MS}{n:Int}(h0:μ≠[])(u:1<=n)(q:n<=40):fC j d (μ++[.ins j nG [.mr (μ.length+1),.mr (μ.length+2),.int 0],.lst [jL d ⟨n,[],[]⟩],.lst []]) μ.length (μ.length+1) (μ.length+2) [⟨n,[],[]⟩] [] 0:=by
 have hl:=List.length_pos_iff.mpr h0;refine⟨(bD ‹_›),by lia,by lia,by lia,by lia,by lia,?_,?_,?_,rfl,aB _,λi S e=>?_,bx _⟩
 .rw[lQ aaa,bc];rfl
 .rw[lQ Zs,cw];rfl
 .rw[lQ Zs,cw];rfl
 .cases i with
  |zero=>cases e;exact .new u q
  |succ i=>cases e
def JE {S:RS}{m:Nat}(h:o6 S m)(bar:Nat)(hb:(bar:Int)<S.n):∀ nm x,fc S.af nm=some x->∃ b a c,fc S.af (gE S.af nm bar).1=some aaX/\b[bar]?=some c/\(gb S.af nm).1[bar]?=some c:=by
 refine yV h.kp (λnm=>∃ b a c,fc S.af (gE S.af nm bar).1=some aaX/\b[bar]?=some c/\(gb S.af nm).1[bar]?=some c) (λnm b a e=>?_) (λnm l r p e E C=>?_)
 .refine gv (h.fs nm b a e) λX _=>?_;rw[qt e,ya e];exact⟨b,a,b[bar]' Zs,e,iO _,iO _⟩
 .refine gv (h.js nm l r p e) λp1 Q=>?_;obtain⟨⟨j,I⟩,⟨d,H⟩⟩:=h.kp.there e;refine gv (wV h l j I) λP _=>gv (wV h r d H) λO _=>?_;rw[yc h.kp e,Dq h.kp e];refine p4 E λb a c G F W=>p4 C λL M J y u U=>?_;by_cases q:(bar:Int)<p
  .rw[aF q];exact⟨b,a,c,G,F,by show(Gb _ _ p)[bar]?=_;rwa [ML Zs q]⟩
  .rw[aD q];exact⟨L,M,J,y,u,by show(Gb _ _ p)[bar]?=_;rwa [Jr (dU ‹_›) Zs Zs]⟩
open PySem PySem.Spec PyProof.Rows PyProof
def Tc (i j k:Nat)(q:TA):TS:=λD d H=>q d H λe y=>∃ v w u,e=[v,w,u]/\D.nx (((d.set i<|some v).set j<|some w).set k<|some u) y
def Ml {kt k2 Qg}(hc:X.fU=true)(W:X.N.Nodup)(hi:X.N[i]?=some x)(hj:X.N[j]?=some y)(hk:X.N[k]?=some z)(U:i≠j)(Q:i≠k)(P:j≠k)
 (hx:X.env.scope.names.lookup x=some .local) (Z:X.env.scope.names.lookup y=some .local) (hz:X.env.scope.names.lookup z=some .local) (ha:PA X [a,b,c] ta)
 (hw:swappedStores [.Tuple [.Name x px,.Name y py,.Name z pz] kt pt] (.Tuple [a,b,c] k2 Qg) X.env=pure (some [x,y,z]))
 (hs:swapsWithSole [.Tuple [.Name x px,.Name y py,.Name z pz] kt pt] (.Tuple [a,b,c] k2 Qg) pos.line X.env=pure false:=by rfl):
 PS X (.Assign [.Tuple [.Name x px,.Name y py,.Name z pz] kt pt] (.Tuple [a,b,c] k2 Qg) pos) (Tc i j k ta):=by
 intro d s Y H D I h;refine fj<|dw ?_;rw[hs];refine fj (aC<|fj<|Tuple_<|gc (ha _ d s Y H _ I h) λus G h_=>fw h_ λvs H1 I1 r1 q1=>?_);obtain⟨v,w,u,e1,q1⟩:=q1;subst e1;obtain⟨F,E,C,rfl,rv,J,ru⟩:∃ F E C,us=[F,E,C]/\fH v F/\fH w E/\fH u C:=by
  cases r1 with
  | cons p q =>
   cases q with
   | cons p' q' =>
    cases q' with
    | cons M L =>cases L;exact⟨_,_,_,rfl,p,p',M⟩
 refine cf ?_ (by show 3<=sizeLine;decide);have I2:Inv X d Y H1 { G with heap:=G.heap.push { cls:=.type "tuple",data:=.seq [F,E,C].toArray}}:=I1.af (t':=G.toks) λb o e=>iU _ e;rw[hw];refine fj (aC<|fj<|ew<|fj<|unpackItems_tuple (items:=#[F,E,C]) aaQ (IsTup.new G.heap _) λh' O=>?_);have I3:=I2.af (h':=h') (t':=G.toks) λb o e=>O b o (aN<|ic e) e;refine fj (eB<|wpAny_bindName<|mm I3 W hk (.inl hz) ru (λs2 I4=>eB<|wpAny_bindName<|mm I4 W hj (.inl Z) J (λs3 I5=>eB<|wpAny_bindName<|mm I5 W hi (.inl hx) rv (λs4 I6=>assignInOrder_nil<|aC ?_)<|.inr hx)<|.inr Z)<|.inr hz);rw[di _ _ (bB P),di _ _ (bB Q),di _ _ (bB U)]at I6;exact⟨_,H1,I6,q1⟩
def Vb (i j k:Nat)(w:DA):Ds:=λN e q=>w e q λu d=>match u with
 |[a,b,c]=>N.nx (((e.set i<|some a).set j<|some b).set k<|some c) d
 |_=>False
def PX {kt k2 Qg}(hN:X.N.Nodup)(Y:X.N[i]?=some x)(W:X.N[j]?=some y)(hk:X.N[k]?=some z)(F:i≠j)(C:i≠k)(u:j≠k)
 (U:X.env.scope.names.lookup x=some .local) (Q:X.env.scope.names.lookup y=some .local) (hz:X.env.scope.names.lookup z=some .local) (ha:rO X [a,b,c] w) (Z:X.fU=true:=by rfl)
 (hw:swappedStores [.Tuple [.Name x px,.Name y py,.Name z pz] kt pt] (.Tuple [a,b,c] k2 Qg) X.env=pure (some [x,y,z]):=by rfl)
 (hs:swapsWithSole [.Tuple [.Name x px,.Name y py,.Name z pz] kt pt] (.Tuple [a,b,c] k2 Qg) pos.line X.env=pure false:=by rfl):
 vV X (.Assign [.Tuple [.Name x px,.Name y py,.Name z pz] kt pt] (.Tuple [a,b,c] k2 Qg) pos) (Vb i j k w):=(Ml Z hN Y W hk F C u U Q hz ha hw hs).imp λE σ H h_=>fL h_ λI J O N A M w L=>
 ⟨I,J,O,_,A,M,w,λds e d vs H1 q G M1 P=>by
  split at q
  .obtain⟨v1,r1,rfl,g1,v2,r2,rfl,g2,v3,r3,rfl,g3,g4⟩:=P
   subst g4
   exact⟨_,_,_,rfl,L.nx _ e d _ H1 q G ((((A.mono G).set g1 i).set g2 j).set g3 k) M1⟩
  .exact q.elim⟩
def i0:(μ++x::g)[μ.length]?=some x:=by rw[lQ aaa,bc];rfl
def kB:(μ++x::g).set μ.length y=μ++y::g:=by rw[dE _ _ aaa,bc];rfl
def IS (j:1<=cs.length)(e:cs.length<=8)(h:∀ c∈cs,97<=c/\c<=122):iL (txt cs)=true:=by delta iL;rw[show(txt cs).length=cs.length from Ck cs,aH j,aH e];show(cs.all _)=true;rw[cY];intro c d;refine gv (h c d) λa b=>?_;rw[aH a,aH b];rfl
def R4 {v:Int}(h0:0<=v)(j:v<26):∃ c,kP (Str.ofString "abcdefghijklmnopqrstuvwxyz").cps.toList v=some c/\97<=c/\c<=122:=by
 refine eU (RZ (l:=(Str.ofString "abcdefghijklmnopqrstuvwxyz").cps.toList) h0 j) λc e d=>?_;have:((Str.ofString "abcdefghijklmnopqrstuvwxyz").cps.toList.all λc=>decide (97<=c)&&decide (c<=122))=true:=by decide +kernel
 have:=List.all_eq_true.mp this c d;simp at this;exact⟨c,e,this⟩
def Ys {α:Type}{xs:az α}{v:Int}(h0:0<=v)(d:v<(xs.length:Int)):∃ x∈xs,kP xs v=some x:=by
 obtain⟨n,rfl⟩:∃ n:Nat,v=(n:Int):=⟨v.toNat,by lia⟩;have hn:n<xs.length:=by lia
 exact⟨xs[n],bQ hn,iS<|iO hn⟩
def oG {α β:Type}{g:α->β}{xs:az α}{v:Int}(h0:0<=v)(d:v<(xs.length:Int)):∃ x∈xs,kP (xs.map g) v=some (g x):=by
 obtain⟨n,rfl⟩:∃ n:Nat,v=(n:Int):=⟨v.toNat,by lia⟩;have hn:n<xs.length:=by lia
 exact⟨xs[n],bQ hn,lA<|iO hn⟩
def Mp {af pre post:az aak}{E:Type}{g:Str->E}{z:Str}{y:Pt}(nd:(af.map Zx).Nodup)(hs:af=pre++(z,y)::post):
 fc af z=some y/\iN af z=pre.length/\pre.length<af.length/\fc (pre.map λp=>(p.1,g p.1)) z=none/\∀ w,iN af w<pre.length->fc (pre.map λp=>(p.1,g p.1)) w=some (g w):=by
 have C:z∉pre.map (·.1):=λq=>by rw[hs,aM,cv]at nd;exact nd.2.2 z q z (List.mem_map.mpr ⟨_,aE,rfl⟩) rfl
 refine⟨gB nd<|hs▸aW _ aE,?_,by rw[hs,i8,aY];lia,?_,λw j=>?_⟩
 .delta iN;rw[hs,aM,dh,aD C,aJ,cD,show((z,y).1==z)=true from cX _,fI];simp
 .cases q:fc (pre.map λp=>(p.1,g p.1)) z with
  |none=>rfl
  | some w =>have:=fV.mp (show(fc (pre.map λp=>(p.1,g p.1)) z).isSome=true by rw[q];rfl);rw[aQ]at this;exact absurd this C
 .have u:w∈pre.map (·.1):=by
   unfold iN at j;rw[hs,aM,dh]at j;by_cases q:w∈pre.map Zx
   .exact q
   .rw[aD q,fI]at j;lia
  refine eU (List.mem_map.mp u) λp F d=>?_
  subst d
  have e:((pre.map λp=>(p.1,g p.1)).map Zx).Nodup:=by rw[aQ];rw[hs,aM,cv]at nd;exact nd.1
  exact gB e (List.mem_map.mpr ⟨p,F,rfl⟩)
def K9 (nd:(af.map Zx).Nodup)(d:p∈af):fc (La af) p.1=some (gb af p.1).2:=by refine gB ?_<|List.mem_map.mpr ⟨p,d,rfl⟩;delta La;rwa [aQ]
def FO (l:az Nat):((List.range l.length).filterMap λi=>some<|D.str ⟨#[l.getD i 0]⟩)=l.map λc=>D.str ⟨#[c]⟩:=by
 rw[show(λi=>some<|D.str ⟨#[l.getD i 0]⟩)=some ∘ (λi:Nat=>D.str ⟨#[l.getD i 0]⟩)from rfl,cz];refine cG λi=>?_;rw[mD,mD];by_cases h:i<l.length
 .rw[bP h,iO h];simp[aP,h]
 .rw[List.getElem?_eq_none (by rw[xr];lia),List.getElem?_eq_none Zs];rfl
def TV (c:Dt)(ρ:DE)(μ:MS)(b:Bool):Prop:=∀ K:Bool->MS->Prop,K b μ->c ρ μ K
def TV.nW (h:∀ K:DK,K (.bl b) μ->e ρ μ K):TV (mI e) ρ μ b:=λK k=>h _ k
def TV.and (q:TV a ρ μ x)(d:x=true->TV c ρ μ y):TV (EM a c) ρ μ (x&&y):=λK k=>q _ (by
 cases x with
 |true=>rw[aF rfl];exact d rfl K k
 |false=>rwa [aD Zu])
def TV.or (q:TV a ρ μ x)(d:x=false->TV c ρ μ y):TV (Ki a c) ρ μ (x||y):=λK k=>q _ (by
 cases x with
 |true=>rwa [aF rfl]
 |false=>rw[aD Zu];exact d rfl K k)
def TV.not (d:TV a ρ μ x):TV (OZ a) ρ μ (!x):=λK k=>d _ k
def TV.to (h:TV a ρ μ x)(e:x=y):TV a ρ μ y:=e▸h
def iw (b:Bool)(h:TV c ρ μ b)(ht:b=true->t N ρ μ)(d:b=false->u N ρ μ):Vn c t u N ρ μ:=h _ (by
 cases b with
 |true=>rw[aF rfl];exact ht rfl
 |false=>rw[aD Zu];exact d rfl)
def j0 (h:N.nx ρ μ):Za N ρ μ:=h
def uu (h:∀ K:DK,K d μ'->w ρ μ K)(k:N.nx (ρ.set i<|some d) μ'):Kw i w N ρ μ:=h _ k
def wR:(μ++[a,b])[μ.length+1]?=some b:=by rw[lQ (aU _ _),cw];rfl
def ym:(μ++[a,b]).set (μ.length+1) y=μ++[a,y]:=by rw[dE _ _ (aU _ _),cw];rfl
def A9 {α β:Type}(κ:α->Key)(f:β->D)(l:az aaA):MO:=.gP (l.map λp=>κ p.1) (l.map λp=>f p.2)
section
variable [DecidableEq α]{κ:α->Key}(hi:∀ a b,κ a=κ b->a=b){μ:MS}{l:az aaA}
include hi
def rX (C:μ[j]?=some (A9 κ f l))(hl:l.length<sizeLine)(hk:mC i=some (κ k))(v:β)(hd:d=f v){P:MS->Prop}(h:P (μ.set j<|A9 κ f<|g0 l k v)):
 ∃ kd q:az aap,μ[j]?=some (.gP (kd.map Zx) (kd.map ZI))/\kd.length<sizeLine/\(mC i).map (λk=>dput kd k d)=some q/\P (μ.set j (.gP (q.map Zx) (q.map ZI))):=by
 subst hd;refine gv (gY κ f l) λe1 E=>⟨l.map λp=>(κ p.1,f p.2),_,by rw[C,<- e1,<- E];rfl,by rwa [kd_len],by rw[hk];rfl,?_⟩;show P (μ.set j (.gP ((dput _ (κ k)<|f v).map Zx) ((dput _ (κ k)<|f v).map ZI)));rwa [CO hi f k v l,<- (gY κ f _).1,<- (gY κ f _).2]
def pop_at (q:μ[j]?=some (A9 κ f l))(hk:mC i=some (κ k))(he:fc l k=some v){P:D->MS->Prop}(h:P (f v) (μ.set j<|A9 κ f<|i7 l k)):
 ∃(kd:az aap) (k':Key) (d:D),μ[j]?=some (.gP (kd.map Zx) (kd.map ZI))/\mC i=some k'/\kW kd k'=some d/\P d (μ.set j (.gP ((kd.filter λp=>decide (p.1≠k')).map Zx) ((kd.filter λp=>decide (p.1≠k')).map ZI))):=by
 refine gv (gY κ f l) λe1 C=>⟨l.map λp=>(κ p.1,f p.2),κ k,f v,by rw[q,<- e1,<- C];rfl,hk,by rw[yY hi f k l,he];rfl,?_⟩;rwa [EN hi f k l,<- (gY κ f _).1,<- (gY κ f _).2]
end
def rq (h:μ[j]?=some (.gP ks ds)):tU μ j=some (ks,ds):=by delta tU;rw[h]
def CU {α β:Type}[DecidableEq α]{l:az aaA}{k:α}(h:fc l k=none):i7 l k=l:=by refine List.filter_eq_self.mpr λp d=>aH λe=>?_;have:=fV.mpr (List.mem_map.mpr ⟨p,d,rfl⟩:p.1∈l.map Zx);rw[e,h]at this;cases this
def Bm (C:∀ d,sW n d->R d d)(h:nO n ds):qh R ds ds:=⟨rfl,λi a b e1 q=>by
 rw[e1]at q;cases q
 exact C a<|uj h<|lH e1⟩
def Nb {μ:MS}{n:Int}{G F:Obj}{k1 k2:az abg}{C q:az D}(J:nO μ.length C)(I:nO μ.length q):vY μ.length (μ++[.mF G k1 C,.mF F k2 q]) 2 (.tup [.int n,.mr μ.length,.mr (μ.length+1)]) (.tup [.int n,.ki (k1.map Zx) C,.ki (k2.map Zx) q]):=by
 have E:∀ d,sW μ.length d->vY μ.length (μ++[.mF G k1 C,.mF F k2 q]) 0 d d:=λd h=>⟨rfl,h⟩;refine .inr (.inr<|.inr<|.inl ⟨_,_,rfl,rfl,rfl,λi a b e1 H=>?_⟩);match i with
 |0=>cases e1;cases H;exact .inl ⟨rfl,trivial⟩
 |1=>cases e1;cases H;exact .inr (.inr<|.inr<|.inr<|.inl ⟨_,G,k1,C,C,rfl,aB _,i0,rfl,Bm E J⟩)
 |2=>cases e1;cases H;exact .inr (.inr<|.inr<|.inr<|.inl ⟨_,F,k2,q,q,rfl,dH _,wR,rfl,Bm E I⟩)
 |i+3=>cases e1
def kU (S:RS)(d:az Str):az Str:=d.filter λz=>!(fc S.af z).isSome&&decide (S.af.length<20)
def Gq (S:RS)(d:az Str):(d.filterMap λz=>if(!(fc S.af z).isSome&&decide (S.af.length<20))=true then some (D.str z)else none)=(kU S d).map D.str:=by
 delta kU;induction d with
 |nil=>rfl
 | cons z d C =>
  rw[cb,bE];by_cases q:(!(fc S.af z).isSome&&decide (S.af.length<20))=true
  .rw[aF q,aF q,aJ,C]
  .rwa [aD q,aD q]
def xu (h:pT kL)(hz:z∈kU S kL):oY S z=none/\z.length<=8:=by
 refine gv (List.mem_filter.mp hz) λhz q=>?_;simp at q;have hn:=h.2.2 z hz;refine⟨?_,?_⟩
 .delta oY jx;rw[hn,q.1,aD Zu,aD Zu,aD Zs]
 .unfold iL at hn;simp at hn;exact hn.1.2
def Gr (h:pT kL)(h0:S.af=[]):0<(kU S kL).length:=by delta kU;rw[h0];have:(kL.filter λz=>!(fc ([]:az aak) z).isSome&&decide (([]:az aak).length<20))=kL:=List.filter_eq_self.mpr λz _=>rfl;have:=h.1;lia
def OG (q:a=none)(d:b=none):a.or b=none:=by rw[q,d];rfl
def Cs (d:p∈S.af):jx S p.1=true:=fV.mpr (List.mem_map.mpr ⟨p,d,rfl⟩)
def u9 {S:RS}{p:Int}(q:1<=p)(d:p<S.n):iV S p=none:=by delta iV;rw[aF ⟨q,d⟩]
def Lb {a:Int}(q:0<=a)(d:a<=20):nH a=none:=by delta nH;rw[aF ⟨q,d⟩]
def D0 {S:RS}{z:Str}{l:az Nat}{a:Int}(h:oY S z=none)(hl:(l.length:Int)=S.n)(d:OX l)(a0:0<=a)(a1:a<=20):mV S (.put z (txt l) a)=none:=by
 refine OG h ?_;have:LC (txt l)=true:=by refine List.all_eq_true.mpr λc C=>?_;rcases d c C with q|q<;>rw[q]<;> rfl
 rw[aF ⟨by rw[i9];exact hl,this⟩];exact Lb a0 a1
def HW {S:RS}{z:Str}{p q:Str×Pt}{i:Int}(h:oY S z=none)(F:p∈S.af)(E:q∈S.af)(hi:i∈hZ S):mV S (.join z p.1 q.1 i)=none:=by
 refine OG h (gv (List.mem_filter.mp hi) λhi e=>eU (List.mem_map.mp hi) λj C d=>?_);subst d;have C:=List.mem_range.mp C;have e:(fc S.gs<|1+(j:Int)).isSome=false:=by simpa using e
 rw[Cs F,Cs E,aD Zu,aD Zu,e,aD Zu,u9 Zs Zs];rfl
def HX (h:z∈El S.af):mV S (.drop z)=none:=by
 refine gv (List.mem_filter.mp h) λC q=>?_;have d:jx S z=true:=fV.mpr C;have hn:pE S z=false:=by delta pE;simpa using q
 show(if jx S z=false then some 11 else if pE S z=true then some 14 else none)=none;rw[d,hn,aD Zu,aD Zu]
def xh {S:RS}{p:Str×Pt}{bar:Int}{d:Str}(q:p∈S.af)(E:0<=bar)(C:bar<S.n)(hs:d = "o"\/d = "x"):mV S (.found p.1 bar d)=none:=by show(if jx S p.1=false then some 11 else if 0<=bar/\bar<S.n then(if d = "o"\/d = "x" then none else some 0)else some 6)=none;rw[Cs q,aD Zu,aF ⟨E,C⟩,aF hs]
def OL:Pt->Bool
 |.fst _ _=>true
 |.jn _ _ _=>false
theorem Be:∀(l:az Int),c μ->∀ {K:az D->MS->Prop},(∀ x∈l,∀(C:aA D->MS->Prop),(∀ a:Nat,97<=a/\a<=122->C (some<|.str ⟨#[a]⟩) μ)->it (.int x) μ C)->(∀ cs:az Nat,cs.length=l.length->(∀ a∈cs,97<=a/\a<=122)->K (cs.map λa=>.str ⟨#[a]⟩) μ)->nB it c (l.map D.int) μ K
 |[],d,K,_,k=>⟨d,k [] rfl λ_ h=>nomatch h⟩
 | x::l,d,K,h,k=>⟨d,h x aE _ λa ha=>Be l d (λy E=>h y<|jJ _ E) λcs cl F=>k (a::cs) (by rw[aY,aY,cl]) λb hb=>by
  rcases List.mem_cons.mp hb with q|q
  .rwa [q]
  .exact F b q⟩
end L2
namespace L2
open PySem PySem.W PyProof.Rows
noncomputable abbrev x8:=Fast.tw10156331382660048174
noncomputable abbrev Hl:=Fast.tw11892475500146522536
noncomputable def Mb (p:ak)(w:ao)(d:Nat)(ann:aA av):Nat->SharedT->Thread->aA SharedT
 |0,_,_=>none
 | n+1,s,t=>match through t with
  |true=>some s
  | false=>match stepOk d ann t with
   |false=>none
   | true=>match x8 (Hl uF) p w s t with
    |some (s',t')=>Mb p w d ann n s' t'
    |none=>none
theorem DT:∀ {n:Nat} {s s':SharedT} {t:Thread},Mb p w n₀ ann n s t=some s'->topRun treeTable p w n₀ ann n s.abs t=some s'.abs
 |0,_,_,_,h=>by cases h
 | n+1,s,s',t,h=>by
  unfold Mb at h;unfold topRun;cases e:through t with
  |true=>rw[e]at h;cases h;rfl
  | false =>
   rw[e]at h;cases hk:stepOk n₀ ann t with
   |false=>rw[hk]at h;cases h
   | true =>
    rw[hk]at h;cases hs:x8 (Hl uF) p w s t with
    |none=>rw[hs]at h;cases h
    | some r =>
     let ⟨s2,t2⟩:=r;rw[hs]at h;have d:stepT (denote treeTable) p w s t=some (s2,t2):=by rwa [show stepT=x8 from Fast.te10156331382660048174,show denote=Hl from Fast.te11892475500146522536,show treeTable=uF from Fast.te14364793385576792824]
     rw[stepT_spec d];exact DT h
noncomputable def boT (P:Params):BT:=(.node (boot_o_0 P) (.node (boot_o_1 P) (.node (boot_o_3 P) (.node (boot_o_7 P) .nil .nil) .nil)<|.node (boot_o_5 P) (.node (boot_o_9 P) .nil .nil) .nil)<|.node (boot_o_2 P) (.node (boot_o_4 P) (.node (boot_o_8 P) .nil .nil) .nil)<|.node (boot_o_6 P) (.node (boot_o_10 P) .nil .nil) .nil)
noncomputable abbrev Zk (w:ao)(os:OsState):SharedT:=⟨boT w.params,11,(boot_heap w.params).life,#[],boot_drawn,boot_toks,os⟩
def NT (w:ao)(os:OsState):(Zk w os).abs=Wn w os:=by kernel_rfl
end L2
namespace L2
open PySem PySem.Spec PyProof.Rows PyProof PySem.W
def zm (p q:ak)(loose:az Str)(Xt:ar->Bool){α:Type}(d:ar->α)(j:ao->α)(M:Nat)(row:String)(b:Bool):Prop:=∀(w:ao) (os:OsState),(Dp uF p (w.withFollow row b) 11 (some<|.ref 6) M (Wn w os)<|topStub p).map (λs =>
 (W.staticsOk aao (W.boot_heap w.params) s.heap&&W.namesBound p s.heap&&W.gensDone s&&W.laidKept (W.boot_heap w.params) s.heap,BE q loose aao Xt true s,d s))=some (true,W.openGood q loose,j w)
def Jj {p q:ak}{loose:az Str}{Xt:ar->Bool}{α:Type}{d:ar->α}{j:ao->α}{N M:Nat}{row:String}
 (e:W.opening p=W.plainProg p.main.scope.names) (u:Nat.ble 600 N=true) (f:∀ s,fenceModules? p s=some s) (le:Nat.ble M N=true)
 (h0:zm p q loose Xt d j M row false) (y:zm p q loose Xt d j M row true):W.LeftO p q loose Xt d j N:=MG e u f le λw os=>by
 have h:∀ b,zm p q loose Xt d j M row b:=λb=>by cases b;exact h0;exact y
 have:=h (w.params.followText row) w os;rwa [World.withFollow_self]at this
def Fm (p q:ak)(loose:az Str)(Xt:ar->Bool){α:Type}(d:ar->α)(j:ao->α)(M:Nat)(row:String)(b:Bool):Prop:=∀(w:ao) (os:OsState),(Mb p (w.withFollow row b) 11 (some<|.ref 6) M (Zk w os)<|topStub p).map (λs =>
 (W.staticsOk aao (W.boot_heap w.params) s.abs.heap&&W.namesBound p s.abs.heap&&W.gensDone s.abs&&W.laidKept (W.boot_heap w.params) s.abs.heap,BE q loose aao Xt true s.abs,d s.abs))=some (true,W.openGood q loose,j w)
theorem Fm.at {p q:ak}{loose:az Str}{Xt:ar->Bool}{α:Type}{j:ar->α}{u:ao->α}{M:Nat}{row:String}{b:Bool}(h:Fm p q loose Xt j u M row b):zm p q loose Xt j u M row b:=λw os=>by refine eU (Option.map_eq_some_iff.mp<|h w os) λy r e=>?_;have d:=DT r;rw[NT,show topRun=Dp from Fast.te14082659384304107361,show treeTable=uF from Fast.te14364793385576792824]at d;rw[d];exact b8 some e
def Ts {n:Nat}(e:Dd):uP (n+1) (mG e):=by
 cases e<;>refine uO (by simp only[aY,List.length_nil];lia) (λd hd=>?_)<;> simp only[bq,a7,ck]at hd
 .rcases hd with rfl|rfl|rfl|rfl<;>first|exact kS|exact jC
 .rcases hd with rfl|rfl|rfl|rfl|rfl<;>first|exact kS|exact jC
 .rcases hd with rfl|rfl|rfl|rfl<;>first|exact kS|exact jC
 .rcases hd with rfl|rfl|rfl<;>first|exact kS|exact jC
 .rcases hd with rfl|rfl<;>first|exact kS|exact jC
 .rcases hd with rfl|rfl<;>first|exact kS|exact jC
 .rcases hd with rfl|rfl<;>first|exact kS|exact jC
def HD {n:Nat}{rs:az Dd}(h:rs.length<=100000):uP (n+2) (.lst<|rs.map mG):=pR (by rwa [fI]) λd hd=>by obtain⟨q,_,rfl⟩:=List.mem_map.mp hd;exact Ts q
def gG {cR cS:au}{μ:MS}{k j1 j2 d:Nat}{ss:az RS}{rs:az Dd}(ra:fC cR cS μ k j1 j2 ss rs d){nm:Str}(hn:nv nm nG [.mr j1,.mr j2,.int (d:Int)]=none):pw cR nm μ (.mr k):=by show(kT _ _ _).map _=_;rw[fN ra.ins];exact b8 some hn
end L2
namespace L2
open PySem PySem.Spec PyProof.Rows PyProof
def JT (F E H:au):ke:=λG j K I=>dM [.m] G λk=>(∃ m,j[0]?=some m)/\∃ C y u q d,fC F E j k C y u q d/\(match d with|0=>I (.ref H) j|d'+1=>∀ e,q[d']?=some e->K (mG e) (jh F E j k C y u q d'))
def Cz {e d j:au}{ds:az D}{μ:MS}{K:DK}{q:DX}(h:JT e d j ds μ K q):ds.length=1/\∃ m,μ[0]?=some m:=by obtain⟨_,rfl,h⟩:=dJ h;exact⟨rfl,h.1⟩
section
variable {af:az aak}(h:fc af z=some aaX)
include h
end
def zs (h:Nat.ble n 100=true:=by rfl):n<=sizeLine:=aT (Nat.le_of_ble_eq_true h) (sz<|by decide)
def a1 (h:PD X e w)(s:starEach [e] X.env=(false,eval e X.env)::starEach [] X.env:=by rfl):rO X [e] (rD w A8):=eW h gg s
def a2 (h:PD X e w)(d:PD X e1 w1)(s:starEach [e,e1] X.env=(false,eval e X.env)::starEach [e1] X.env:=by rfl)(s1:starEach [e1] X.env=(false,eval e1 X.env)::starEach [] X.env:=by rfl):rO X [e,e1] (rD w<|rD w1 A8):=eW h (a1 d s1) s
def a3 (h:PD X e w)(j:PD X e1 w1)(d:PD X e2 w2)(s:starEach [e,e1,e2] X.env=(false,eval e X.env)::starEach [e1,e2] X.env:=by rfl)(s1:starEach [e1,e2] X.env=(false,eval e1 X.env)::starEach [e2] X.env:=by rfl)(s2:starEach [e2] X.env=(false,eval e2 X.env)::starEach [] X.env:=by rfl):rO X [e,e1,e2] (rD w<|rD w1<|rD w2 A8):=eW h (a2 j d s1 s2) s
def fZ (ha:PD X a wa)(hb:PD X b wb)(hs:zj b:=by exact λ_ _=>rfl):PD X (.Subscript a b pos) (tV Vh wa wb):=XY Jt Tq ha hb hs
def mO (ha:PD X a wa)(hb:PD X b wb):PD X (.BinOp a .Add b pos) (tV (RQ false) wa wb):=wF GU HC ha hb
def O5 (ha:PD X a wa)(hb:PD X b wb):PD X (.BinOp a .Sub b pos) (tV (tW λi j=>.int<|i - j) wa wb):=wF WM PL ha hb
def G2 (ha:PD X a wa)(hb:PD X b wb):PT X (.Compare a [.Lt] [b] pos) (wj<|mI<|tV (tW λi j=>.bl<|decide (i<j)) wa wb):=lr YU ye ha hb (ia _)
def Mg (ha:PD X a wa)(hb:PD X b wb):PT X (.Compare a [.LtE] [b] pos) (wj<|mI<|tV (tW λi j=>.bl<|decide (i<=j)) wa wb):=lr leC ye ha hb (ia _)
def G3 (ha:PD X a wa)(hb:PD X b wb):PT X (.Compare a [.Gt] [b] pos) (wj<|mI<|tV (tW λi j=>.bl<|decide (j<i)) wa wb):=lr Y4 ye ha hb (ia _)
def W0 (ha:PD X a wa)(hb:PD X b wb):PT X (.Compare a [.GtE] [b] pos) (wj<|mI<|tV (tW λi j=>.bl<|decide (j<=i)) wa wb):=lr Y5 ye ha hb (ia _)
def yw (ha:PD X a wa)(hb:PD X b wb):PT X (.Compare a [.Eq] [b] pos) (wj<|mI<|tV (KD false) wa wb):=lr UW uM ha hb (ia _)
def V8 (ha:PD X a wa)(hb:PD X b wb):PT X (.Compare a [.NotEq] [b] pos) (wj<|mI<|tV (KD true) wa wb):=lr Bz uM ha hb (ia _)
def tr (T:Ws X.mg)(h:PD X e w)(d:Gl X "len":=by rfl)(he:starEach [e] X.env=(false,eval e X.env)::starEach [] X.env:=by rfl)(m4:(backTo pos<|starEach [] X.env).any Zx=false:=by rfl):PD X (.Call (.Name "len" p) [e] [] pos) (vQ Nr<|rD w A8):=kj MF PH d T.len eM (a1 h he) Zu rfl he m4
def qC (C:lN X.prog X.w X.K X.mg X.ah x k ps (jg f))(hr:gZ k0 X.A)(ha:rO X ZX u)(hk:k<=k0:=by first | decide | exact aB _ | lia)(hg:Gl X x:=by rfl)(M8:Zz=false:=by decide)(he:starEach ZX X.env=(false,eval e X.env)::starEach es X.env:=by rfl)(m4:(backTo pos<|starEach es X.env).any Zx=false:=by rfl):
 PD X ZH (vQ f u):=RG C (hr.mono hk) hg ha M8 he m4
def qS (i:Nat)(j:X.N.Nodup)(he:PD X e w)(d:X.N[i]?=some x:=by rfl)(hx:Loc X.env.scope x:=by first | exact Or.inl rfl | exact Or.inr rfl)(hf:X.fn x=true\/X.env.scope.names.lookup x=some .local:=by first | exact .inl rfl | exact .inr rfl | assumption)
 (Uv:swapsWith e (some<|.Name x pos') pos.line X.env=pure false:=by rfl):vV X (.Assign [.Name x pos'] e pos) (Kw i w):=Tu j d hx he hf Uv
def qN (i:Nat)(j:X.N.Nodup)(d:X.N[i]?=some x:=by rfl)(hx:Loc X.env.scope x:=by first|exact Or.inl rfl|exact Or.inr rfl)(hf:X.fn x=true\/X.env.scope.names.lookup x=some .local:=by first|exact .inl rfl|exact .inr rfl|assumption):PG X abh (vD i):=ue j d hx hf
def qT (i:Nat)(j:X.N.Nodup)(d:X.N[i]?=some x:=by rfl)(hx:Loc X.env.scope x:=by first|exact Or.inl rfl|exact Or.inr rfl)(hf:X.fn x=true\/X.env.scope.names.lookup x=some .local:=by first|exact .inl rfl|exact .inr rfl|assumption):Tg X abh (vD i) (Ko i) [i]:=⟨ue j d hx hf,qu i,jR i⟩
def pJ (S:gw N0 ps YL)(h:uw N0 YL N js sc=true)(d:X.N=N0:=by rfl)(hs:X.env.scope=YL:=by rfl):jm X N js sc:=CQ h d hs
def Ma (i:Nat)(m:Bool){pos' d:Pos}{x:Str}(G:X.N.Nodup)(q:jm X N js sc)(F:Bt X tg iter wi)(C:∀ j s H,N.Nodup->Tg (nP X N sc j s H) tg g y S)
 (ht:∀ j s H,Bs (nP X N sc j s H) ifs t) (he:∀ j s H,PD (nP X N sc j s H) elt w) (E:pB S js=true:=by rfl) (fU:X.fU=true:=by rfl) (Xi:X.N[i]?=some x:=by rfl) (hx:Loc X.env.scope x:=by first|exact Or.inl rfl|exact Or.inr rfl) (Uv:swapsWith ZF (some<|.Name x pos') d.line X.env=pure true:=by rfl)
 (hs:∀ x,foldedSetIterable iter X.env x=pure x:=by intro _;rfl) (hf:X.fn x=true\/X.env.scope.names.lookup x=some .local:=by first|exact .inl rfl|exact .inr rfl|assumption):
 vV X (.Assign [.Name x pos'] ZF d) (Kw i<|Ba m wi js y t w):=FL m q fU (C [] X.s₀ X.H₀ q.nd).so (C [] X.s₀ X.H₀ q.nd).mo E G Xi hx F (λj s H=>(C j s H q.nd).pg) ht he Uv hs hf
def tX (m:Bool)(j:jm X N js sc)(E:Bt X tg iter wi)(q:∀ d s H,N.Nodup->Tg (nP X N sc d s H) tg g y S)(ht:∀ d s H,Bs (nP X N sc d s H) ifs t)(he:∀ d s H,PD (nP X N sc d s H) elt w)(C:pB S js=true:=by rfl)(fU:X.fU=true:=by rfl)
 (hs:∀ x,foldedSetIterable iter X.env x=pure x:=by intro _;rfl):PD X ZF (Ba m wi js y t w):=RE m j fU (q [] X.s₀ X.H₀ j.nd).so (q [] X.s₀ X.H₀ j.nd).mo C E (λd s H=>(q d s H j.nd).pg) ht he hs
structure Wm (X:Cx)(es:List Expr)(u:Bp)(y:Ph)(S:List Nat):Prop where
 pg:G8 X es u
 so:Le u y S
 mo:sC u
def nM:Wm X [] K1 O1 []:=⟨qM,BP,pU⟩
def hV {e:Expr}{es:az Expr}{v:DG}{u:Bp}{z:Ph}{U:az Nat}(h:Tg X e g v S)(r:Wm X es u z U)(hs:(assignEach ZX X.env).map ZI=assign e X.env::(assignEach es X.env).map (·.2):=by rfl):Wm X ZX (Bg g u) (Kq v z) (S++U):=⟨kl h.pg r.pg hs,qv h.so h.mo r.so r.mo,mY h.mo r.mo⟩
def nK (n:Nat){es:az Expr}{u:Bp}{z:Ph}{k:Nat}(r:Wm X es u z S)(d:X.fU=true:=by rfl)(hn:(assignEach es X.env).length=n:=by rfl)(Ux:(assignEach es X.env).findIdx? Zx=none:=by rfl):Tg X (.Tuple es k pos) (KZ n u) (O0 n z) S:=⟨ud d r.pg hn Ux,BO r.so,Cd r.mo⟩
end L2
namespace L2
open PySem PySem.Spec PyProof.Rows PyProof PySem.W
abbrev pA (s:Stmt):az Str:=(iR s).args.map (·.arg)
def Ap (d:sc.kind=.function:=by rfl)(h2:sc.isCoroutine=false:=by rfl)(h3:sc.isGenerator=false:=by rfl)(h4:N.Nodup:=by decide +kernel)(h5:N.take P.length=P:=by rfl)
 (h6:∀ x∈P,sc.names.lookup x=some .local\/sc.names.lookup x=some .cell:=by decide +kernel) (h7:∀ y∈sc.names,y.2≠.free:=by decide +kernel):gw N P sc:=⟨d,h2,h3,h4,h5,h6,h7⟩
def kf (f c:au)(x q:Str)(s:Stmt)(pm:av)(t l a u j:Nat)(v1 v2:av)(e d:Nat):az (au×Obj):=[ko f (Nd x q s pm c),ko c (coQ x q t l a u j v1 v2 e d)]
def kf1 (f c:au)(x:Str)(s:Stmt)(pm:av)(t l a u j:Nat)(v1 v2:av)(e d:Nat):az (au×Obj):=kf f c x x s pm t l a u j v1 v2 e d
def kx (P:Params)(a n h:au)(x:Str)(sl:aA av)(t u:Nat)(m:av)(i l:Nat)(st:au)(sub:az av:=[])(bs:az av:=[.ref h])(mro:az av:=[.ref a,.ref h,.type "ValueError",.type "Exception",.type "BaseException",.type "object"]):az ZE :=
 [ko a ⟨.type "type",none,.cls ⟨x,bs,mro,n,x,true,[],sub,false,none,false⟩,#[sl,none,some (.str x t),some (.str x u),some (.builtin "ValueError.__new__"),some (.bool true)]⟩,
  ko n ⟨.type "dict",none,.dict #[jy P "__module__" i m,jy P "__firstlineno__" (i+4) (.int l<|i+3),jy P "__static_attributes__" (i+5) (.ref st),jy P "__doc__" (i+6) .none] 2,#[]⟩]
section
variable {K:Frag}(F:oJ K x q s f fd)
include F
def SQ (hl:ps.length=1:=by rfl)(h:∀(kV e j:av) (an:aA au) (tx ct a:av),bindArgs (fnOf x q (iR s) (g9 s) (fh s) .none kV e j an tx ct) ⟨[a],[]⟩=pure (ps.zip [a]):=by intros;rfl):Binds K fd ps []:=F.binds λk d p n c t=>hl▸VA λa=>h k d p n c t a
def RY (hl:ps.length=2:=by rfl)(h:∀(kV e j:av) (an:aA au) (tx ct a b:av),bindArgs (fnOf x q (iR s) (g9 s) (fh s) .none kV e j an tx ct) ⟨[a,b],[]⟩=pure (ps.zip [a,b]):=by intros;rfl):Binds K fd ps []:=F.binds λk d p n c t=>hl▸LI λa=>VA λb=>h k d p n c t a b
def SO (hl:ps.length=3:=by rfl)(h:∀(kV j u:av) (an:aA au) (tx ct a b e:av),bindArgs abf ⟨[a,b,e],[]⟩=pure (ps.zip [a,b,e]):=by intros;rfl):Binds K fd ps []:=F.binds λk d p n c t=>hl▸LI λa=>LI λb=>VA λe=>h k d p n c t a b e
def SN (hl:ps.length=4:=by rfl)(h:∀(kV j u:av) (an:aA au) (tx ct a b e g:av),bindArgs abf ⟨[a,b,e,g],[]⟩=pure (ps.zip [a,b,e,g]):=by intros;rfl):Binds K fd ps []:=F.binds λk d p n c t=>hl▸LI λa=>LI λb=>LI λe=>VA λg=>h k d p n c t a b e g
def SM (hl:ps.length=5:=by rfl)(h:∀(kV j u:av) (an:aA au) (tx ct a b e g i:av),bindArgs abf ⟨[a,b,e,g,i],[]⟩=pure (ps.zip [a,b,e,g,i]):=by intros;rfl):Binds K fd ps []:=F.binds λk d p n c t=>hl▸LI λa=>LI λb=>LI λe=>LI λg=>VA λi=>h k d p n c t a b e g i
end
end L2
namespace L2
open PySem PySem.Spec PyProof.Rows PyProof
def Gg (i:Int):Str:=toString i
def ddT:Dd->az Str
 |.put nm b a=>["put",nm,b,Gg a]
 |.join nm l r p=>["join",nm,l,r,Gg p]
 |.found nm bar d=>["found",nm,Gg bar,d]
 |.rH nm a=>["aged",nm,Gg a]
 |.drop nm=>["drop",nm]
 |.free p=>["free",Gg p]
 |.gs p=>["shut",Gg p]
def thD:Dd->az D
 |.put nm b a=>[.str "put",.str nm,.str b,.int a]
 |.join nm l r p=>[.str "join",.str nm,.str l,.str r,.int p]
 |.found nm bar d=>[.str "found",.str nm,.int bar,.str d]
 |.rH nm a=>[.str "aged",.str nm,.int a]
 |.drop nm=>[.str "drop",.str nm]
 |.free p=>[.str "free",.int p]
 |.gs p=>[.str "shut",.int p]
structure l8 (S0:RS)(ps:List (RS×Dd))(ss:List RS)(rs:List Dd)(d:Nat):Prop where
 hs:ss.take (d+1)=S0::ps.map Zx
 hr:rs.take d=ps.map ZI
def GN (S0:RS)(ps:az (RS×Dd)):RS:=ps.foldl (λ_ p=>p.1) S0
def pD (p:RS×Dd):D:=.tup [xb p.1,mG p.2]
def iW (S0:RS)(ps:az (RS×Dd)):az D:=.tup [xb S0,.tup []]::ps.map pD
def vR:GN S0 (ps++[x])=x.1:=by delta GN;rw[List.foldl_append];rfl
def yX {α:Type}(l:az α):l=[]\/∃ a x,l=a++[x]:=by
 rcases List.eq_nil_or_concat l with h|⟨a,x,h⟩
 .exact .inl h
 .exact .inr ⟨a,x,by rw[h,List.concat_eq_append]⟩
def my:iW S0 (ps++[x])=iW S0 ps++[pD x]:=by delta iW;rw[aM];rfl
def r6 (S0:RS)(ps:az (RS×Dd)):(iW S0 ps).length=ps.length+1:=by delta iW;rw[aY,fI]
def oM (S0:RS)(ps:az (RS×Dd)):∃ x,kP (iW S0 ps) (-1)=some (.tup [xb (GN S0 ps),x]):=by
 rcases yX ps with rfl|⟨a,x,rfl⟩
 .exact⟨_,qd [] _⟩
 .rw[my,vR];exact⟨_,qd _ _⟩
def U2 (S:RS)(e:Dd):(m7 S e).n=S.n:=by cases e<;>first|rfl|(delta m7;dsimp only;split<;>rfl)
def l8.len (h:l8 S0 ps ss rs d)(hle:d<=rs.length):ps.length=d:=by have:=b8 List.length h.hr;rw[a9,fI]at this;lia
def l8.now (h:l8 S0 ps ss rs d)(hle:d<=rs.length):ss[d]?=some (GN S0 ps):=by
 have e1:ss[d]?=(ss.take<|d+1)[d]?:=by rw[bu aaa]
 have hl:=h.len hle;rw[e1,h.hs];rcases yX ps with rfl|⟨a,x,rfl⟩
 .subst hl;rfl
 .rw[vR,aM,<- dn,lQ (by rw[aY,fI,<- hl,i8];exact aB _),aY,fI,<- hl,i8,aX,bc];rfl
def l8.start:l8 S0 [] [S0] [] 0:=⟨rfl,rfl⟩
def l8.Pl (h:l8 S0 (ps++[x]) ss rs (d+1))(hle:d+1<=rs.length):l8 S0 ps ss rs d:=by
 have hl:=h.len hle;rw[i8,aX]at hl;refine⟨?_,?_⟩
 .have:=b8 (List.take<|d+1) h.hs;rwa [List.take_take,cc (dH _),aM,<- dn,List.take_left' (by rw[aY,fI];lia)]at this
 .have:=b8 (List.take d) h.hr;rwa [List.take_take,cc (dH _),aM,List.take_left' aaH]at this
def l8.do (h:l8 S0 ps ss rs d)(hle:d<=rs.length)(hl:ss.length=rs.length+1):l8 S0 (ps++[(m7 S e,e)]) (ss.take (d+1)++[m7 S e]) (rs.take d++[e]) (d+1):=by
 refine⟨?_,?_⟩
 .rw[br (by rw[i8,a9];show _+1<=_;lia),h.hs,aM];rfl
 .rw[br (by rw[i8,a9];show _+1<=_;lia),h.hr,aM];rfl
def fC.UD (ra:fC cR cS μ k j1 j2 ss rs d)(es:ss[d]?=some S)(hr:mV S e=none)(iu:rs.length<900):fC cR cS (jh cR cS μ k j1 j2 (ss.take (d+1)++[m7 S e]) (rs.take d++[e])<|d+1) k j1 j2 (ss.take (d+1)++[m7 S e]) (rs.take d++[e]) (d+1)/\(ss.take (d+1)++[m7 S e])[d+1]?=some (m7 S e):=by
 have hl:=ra.len;have u:=ra.le;have q:(ss.take<|d+1).length=d+1:=by rw[a9];lia
 refine⟨ra.put ?_ ?_ (λi T j=>?_) ?_,?_⟩
 .rw[i8,i8,q,a9];show d+1+1=_+1+1;lia
 .rw[i8,a9];show d+1<=_+1;lia
 .by_cases y:i<d+1
  .rw[pF Zs,bu y]at j;exact ra.wf i T j
  .rw[lQ Zs,q]at j;have:i=d+1:=by have:=(jA j).1;rw[aX]at this;lia
   subst this;rw[bc]at j;cases j;exact(ra.wf d S es).do hr
 .rw[i8,a9];show _+1<=_;lia
 .rw[lQ Zs,q,bc];rfl
def IF (S0:RS)(ps:az (RS×Dd)):cutD (iW S0 ps) (some 1) none=ps.map pD:=by have:=xH (λx:D=>x) (iW S0 ps) 1;rw[List.map_id']at this;rw[show(1:Int)=((1:Nat):Int)from rfl,this,List.map_id'];rfl
def B7 (u:c μ){K:az D->MS->Prop}(h:l8 S0 ps ss rs d)(q:∀ p:RS×Dd,∀(e:aA D->MS->Prop),e (some<|mG p.2) μ->it (pD p) μ e)(k:K ((rs.take d).map mG) μ):nB it c (ps.map pD) μ K:=by refine iy u pD (λp=>some<|mG p.2) (λp _ e j=>q p e j) ?_;rw[show(λp:RS×Dd=>some<|mG p.2)=some ∘ (λp=>mG p.2)from rfl,cz];rwa [h.hr,aQ]at k
def w0 (n:Nat):Bool:=n==0
def w1 (n:Nat):Bool:=n==1
def RA:Dd->Str
 |.put _ _ _=> "put" | .join _ _ _ _=> "join" | .found _ _ _=> "found" | .rH _ _=> "aged" | .drop _=> "drop" | .free _=> "free" | .gs _=> "shut"
def CF (cR cS:au)(cs:az au)(w n:Nat):ke:=λj μ K q=>(j.length=n/\∃ m,μ[0]?=some m)/\match j with
 |.mr k::xs=>∃ e,XW e=w/\thD e=.str (RA e)::xs/\CH cR cS cs [.mr k,mG e] μ K q
 |_=>False
def CD {K:DK}(h:CF cR cS cs w n ds μ K Kx):ds.length=n/\∃ m,μ[0]?=some m:=h.1
def fC.TL (h:fC cR cS μ k j1 j2 ss rs d)(x:∀ i∈[k',a',b'],i≠k/\i≠j1/\i≠j2):fC cR cS (jh cR cS μ k' a' b' ss' rs' d') k j1 j2 ss rs d:=by have q:=x k' ZN;have j:=x a' ZN;have e:=x b' ZN;exact((h.other j.1 j.2.1 j.2.2).other e.1 e.2.1 e.2.2).other q.1 q.2.1 q.2.2
section
variable {e st:Expr}
def Qr (he:PE X e te)(C:PO X (some st) ts):PE X (.Subscript e (.Slice none none (some st) p2) pos) (λu H Q=>te u H λx J=>ts u J λo G=>o=some (-1)/\∃ a xs,x=.ref a/\nJ X.K G a xs/\∀ p,G p=none->Q (.ref p) (upd G p<|.lst xs.reverse)):=by intro j s u H Q I h;refine Subscript_ (gc (he j s u H _ I h) λv O E=>fw E λx J I1 P q1=>wpAny_Slice<|aC<|aC<|gc (C j O u J _ I1 q1) λM y E=>fw E λo H3 I3 ps U=>?_);obtain⟨rfl,a,xs,rfl,hx,q⟩:=U;subst P;have F:Inv X j u H3 { y with heap:=y.heap.push { cls:=.type "slice",data:=.fields #[.none,.none,M]}}:=I3.af (t':=y.toks) λb Y q=>iU _ q;refine jF (F.list hx) λZ r ht hz=>?_;have L:=r.length;refine tail_any ht.isList.typeIs slot_list_getitem.lookup (wpAny_getItem_list_slice ht.isList (Heap.IsSliceOf.new ..) .none .none ps Zu ?_ (by rw[aI]<;> lia)) (by with_unfolding_all rfl);rw[W.krv_pick];refine⟨.ref _,_,F.laid (t':=y.toks) (λb Y q=>iU _ q) aaa ?_,rfl,q _<|F.fO.fresh<|aB _⟩;exact⟨by rwa [List.length_reverse],_,0,r.reverse,aL _ rfl⟩
def X8 (w:De)(st:DO):De:=λu y K=>w u y λx q=>st u q λo j=>o=some (-1)/\opt (lv j x) λC=>K (.lst C.reverse) j
def U5 (ha:PD X e w)(hl:PO X (some st) (Pw l)):PD X (.Subscript e (.Slice none none (some st) p2) pos) (X8 w l):=(Qr ha hl).imp λσ H Q Z=>by refine fL Z λI C O K A M k L=>⟨I,C,O,_,A,M,k,λd u q v1 H1 U F M1 Y=>⟨q,C,u,_,A.mono F,M1,U,λlo J G H2 j E M2=>?_⟩⟩;have W:=Y.mono E;have L3:=L.mono<|F.trans E;refine gv j λe0 j=>eU (fS j) λds ed j=>fw (jv M2 W ed) λp P y hp ha=>?_;subst y;exact⟨e0,p,P,rfl,nJ.of hp,λl hl=>K8 L3 M2 ha.rev j hl⟩
end
structure Later (qs:List (RS×Dd))(ss:List RS)(rs:List Dd)(d:Nat):Prop where
 hs:ss.drop (d+1)=qs.map Zx
 hr:rs.drop d=qs.map ZI
def xI {α:Type}{l:az α}{d:Nat}{a:α}{r:az α}(h:l.drop d=a::r):l[d]?=some a/\l.drop (d+1)=r:=by
 refine⟨?_,?_⟩
 .have:=b8 (·[0]?) h;rwa [cJ,Nat.add_zero]at this
 .have:=b8 (List.drop 1) h;rwa [List.drop_drop]at this
def Ff {α:Type}{l:az α}{d:Nat}{a:α}(h:l[d]?=some a):l.drop d=a::l.drop (d+1):=by obtain⟨hl,rfl⟩:=jA h;exact bY hl
def Fd {α:Type}{l:az α}{d:Nat}{a:α}(h:l[d]?=some a):l.take (d+1)=l.take d++[a]:=by obtain⟨hl,rfl⟩:=jA h;exact List.take_succ_eq_append_getElem hl
def l8.back (h:l8 S0 (ps++[x]) ss rs (d+1))(hle:d+1<=rs.length):ss[d+1]?=some x.1/\rs[d]?=some x.2:=by have e:=h.now hle;rw[vR]at e;refine⟨e,?_⟩;have hl:=h.len hle;have:=b8 (·[d]?) h.hr;rw[bu aaa,aM,lQ (by rw[fI];rw[i8,aX]at hl;lia),fI]at this;rw[this,show d - ps.length=0 by rw[i8,aX]at hl;lia];rfl
def Later.Pl (h:Later qs ss rs (d+1))(e1:ss[d+1]?=some x.1)(j:rs[d]?=some x.2):Later (x::qs) ss rs d:=⟨by rw[Ff e1,h.hs];rfl,by rw[Ff j,h.hr];rfl⟩
def Later.Qa (h:Later (x::qs) ss rs d):ss[d+1]?=some x.1/\rs[d]?=some x.2/\Later qs ss rs (d+1):=by exact gv (xI h.hs) λa b=>gv (xI h.hr) λc e=>⟨a,c,b,e⟩
def l8.Qa (h:l8 S0 ps ss rs d)(e1:ss[d+1]?=some x.1)(j:rs[d]?=some x.2):l8 S0 (ps++[x]) ss rs (d+1):=⟨by rw[Fd e1,h.hs,aM];rfl,by rw[Fd j,h.hr,aM];rfl⟩
def Later.none (q:ss'.length<=d+1)(j:rs'.length<=d):Later [] ss' rs' d:=⟨bI q,bI j⟩
def Av (y:c μ){K:az D->MS->Prop}(h:Later qs ss rs d)(u:∀ p:RS×Dd,∀(j:aA D->MS->Prop),j (some<|mG p.2) μ->it (pD p) μ j)(k:K ((rs.drop d).map mG) μ):nB it c (qs.map pD) μ K:=by refine iy y pD (λp=>some<|mG p.2) (λp _ j q=>u p j q) ?_;rw[show(λp:RS×Dd=>some<|mG p.2)=some ∘ (λp=>mG p.2)from rfl,cz];rwa [h.hr,aQ]at k
def Later.len (h:Later qs ss rs d):qs.length=rs.length - d:=by have:=b8 List.length h.hr;rw[bL,fI]at this;lia
def JX (C y F:au):ke:=λE j K G=>dM [.m] E λk=>(∃ m,j[0]?=some m)/\∃ u q ss rs d,fC C y j k u q ss rs d/\(match rs[d]? with|none=>G (.ref F) j|some e=>K (mG e)<|jh C y j k u q ss rs<|d+1)
def CC {K:DK}(h:JX cR cS cN ds μ K Kx):ds.length=1/\∃ m,μ[0]?=some m:=by obtain⟨_,rfl,h⟩:=dJ h;exact⟨rfl,h.1⟩
def Nl (F E:au):jo:=λC j K=>dM [.m,.m,.m] C λk p q=>(∃ m,j[0]?=some m)/\∃ y u ss rs d S0 ps qs,fC F E j k y u ss rs d/\l8 S0 ps ss rs d/\Later qs ss rs d/\j[p]?=some (.lst<|iW S0 ps)/\j[q]?=some (.lst<|qs.reverse.map pD)/\K (.bl true) j
open PySem PySem.Spec PyProof.Rows
def F6 (kp:wL af)(e:af=r++[q]):q.1∈El af:=by
 subst e;have nd:=kp.nd;have u:q.1∉r.map (·.1):=λhm=>by rw[aM]at nd;exact(List.nodup_append.mp nd).2.2 _ hm _ aE rfl
 have E:=En u;refine List.mem_filter.mpr ⟨List.mem_map.mpr ⟨q,aW _ aE,rfl⟩,?_⟩;rw[Bool.not_eq_true'];refine Bool.eq_false_iff.mpr λj=>?_;obtain⟨⟨pn,pt⟩,d,hn⟩:=List.any_eq_true.mp j;cases pt with
 |fst _ _=>cases hn
 | jn l C c =>
  have y:=gB nd d;refine gv (kp.low _ _ _ _ y) λF i2=>?_;have lt:=m3.mpr<|List.mem_map.mpr ⟨_,d,rfl⟩;rw[i8]at lt;have lt:iN (r++[q]) pn<r.length+1:=lt;rcases Bool.or_eq_true_iff.mp hn with e|e
  .lia
  .lia
def LO {n:Int}{cs:az Int}{ts:az Tk}(S:hU n cs ts):∀(a i j:Nat) (x y:Int),Zv[i]?=some x->Zv[j]?=some y->i<j->0<iK Zv ts (a+1) i j->y<=RF Zv ts a x:=by
 intro a;induction a with
 | zero =>
  intro i j x y u d C h;have h:0<iG Zv (ip Zv ts ((0:Nat):Int)) (iK Zv ts 0) i j:=h;delta iG at h;rw[aD Zs]at h;by_cases q:(ae n cs).getD j 0<=(ip Zv ts ((0:Nat):Int)).getD i 0
  .rw[getD_at d,mB u]at q;exact q
  .rw[aD q]at h;exfalso;cases e:iH (iK Zv ts 0) i j with
   |nil=>rw[e]at h;exact absurd h Zu
   | cons v r =>refine si (iZ.mp (show v∈iH (iK Zv ts 0) i j by rw[e];exact aE)) λk _ _ E _=>?_;exact absurd E (by show ¬ (0:Int)<0*0;decide)
 | succ a H =>
  intro i j x y u d C h;have h:0<iG Zv (ip Zv ts ((a+1:Nat):Int)) (iK Zv ts<|a+1) i j:=h;delta iG at h;rw[aD Zs]at h;by_cases q:(ae n cs).getD j 0<=(ip Zv ts ((a+1:Nat):Int)).getD i 0
  .rw[getD_at d,mB u]at q;exact cH q (R8 (a+1) x)
  .rw[aD q]at h;cases e:iH (iK Zv ts<|a+1) i j with
   |nil=>rw[e]at h;exact absurd h Zu
   | cons v r =>refine si (iZ.mp (show v∈iH (iK Zv ts<|a+1) i j by rw[e];exact aE)) λk M G E _=>?_;obtain⟨p1,J⟩:=vh (pP Zv ts (a+1) i k).1 (pP Zv ts (a+1) k j).1 E;have L:=dr G (jA d).1;have hk:=iO L;have I:=H i k x _ u hk M p1;have O:=H k j _ y hk d G J;have F:=kF S a;have P:=F.mono _ (lH hk) _ (F.mem x<|lH u) I;show y<=max _ (RF Zv ts a<|RF Zv ts a x);lia
def Ho {n:Int}{cs:az Int}{ts:az Tk}(S:hU n cs ts){b:Nat}(h:0<iK Zv ts (b+1) 0 (cs.length+1)):(ik Zv ts b)[0]?=some n:=by
 have y:=LO S b 0 (cs.length+1) 0 n (oB n cs) (m6 n cs) (Nat.succ_pos _) h;have j:=DY S b<|oB n cs;have e:=(kF S b).mem 0<|lH<|oB n cs;obtain⟨k,hk,q⟩:=bj e;have gk:Zv[k]?=some (RF Zv ts b 0):=by rw[iO hk,q]
 have d:=gO n cs;have u:=qi (iE S.n1 S.j3) k (cs.length+1) _ _ Zs gk<|m6 n cs;rw[j,show RF Zv ts b 0=n by lia]
def Rj:jo:=λj e K=>dM [.i,.l,.v] j λn c y=>∃(d:az Int) (ts:az Tk),c=d.map D.int/\lv e y=some (ts.map iI)/\hU n d ts/\d.length<=60/\(match jI aaY ts with|some _=>K .fX e|none=>∀ a:Nat,a<=66->iF aaY ts n a->K (.tup [.int a,.int (iK aaY ts (a+1) 0 (d.length+1) - 1)]) e)
def Pn {S:RS}{m:Nat}(h:o6 S m):∀ nm x,fc S.af nm=some x->(gb S.af nm).2<=20+(iN S.af nm:Int):=by
 refine yV h.kp (λnm=>(gb S.af nm).2<=20+(iN S.af nm:Int)) (λnm b a e=>?_) (λnm l r p e hl hr=>?_)
 .rw[ya e];have:=(h.fs nm b a e).2.2.2;lia
 .rw[Dq h.kp e];refine gv (h.kp.low nm l r p e) λd i2=>?_;show max (gb S.af l).2 (gb S.af r).2+1<=_;lia
def uR (h:o6 S m):hU S.n (hZ S) (gU S)/\(hZ S).length<=40:=by
 have n2:=h.n2;have ol:(hZ S).length<=40:=by refine aT (bN _ _) ?_;rw[fI,xr];lia
 refine⟨⟨h.n1,by lia,by lia,⟨λc j=>?_,?_⟩,⟨?_,λt ht=>?_⟩⟩,ol⟩
 .refine gv (List.mem_filter.mp j) λj _=>?_;obtain⟨i,y,rfl⟩:=List.mem_map.mp j;have:=List.mem_range.mp y;lia
 .refine List.Pairwise.sublist List.filter_sublist (List.pairwise_map.mpr<|List.Pairwise.imp (λ{a b} (q:a<b)=>?_) List.pairwise_lt_range);lia
 .delta gU;rw[fI];exact h.iu
 .refine eU (List.mem_map.mp ht) λp u d=>?_;subst d;have e:=gB h.kp.nd u;refine kc (wV h p.1 _ e) λa1 a2 a3=>?_;have E:=Pn h p.1 _ e;have C:=m3.mpr<|List.mem_map.mpr ⟨p,u,rfl⟩;have:=h.iu;exact⟨a1,a2,a3,by lia⟩
def qO (n:Int)(cs:az Int)(ts:az Tk)(f:Int->Int->D)(μ:MS)(K:DK):Prop:=match jI Zv ts with
 |some _=>K .fX μ
 |none=>∀ a:Nat,a<=66->iF Zv ts n a->K (f a<|iK Zv ts (a+1) 0 (cs.length+1) - 1) μ
def UT (j:au):jo:=λe d K=>dM [.v] e λx=>∃ S m,x=jL j S/\o6 S m/\qO S.n (hZ S) (gU S) (λa b=>.tup [.int a,.int b]) d K
def JY (F E:au)(f:Int->Int->D):jo:=λC e K=>dM [.m] C λk=>∃ y u j q d S,fC F E e k y u j q d/\j[d]?=some S/\qO S.n (hZ S) (gU S) f e K
def Rg (y j:au):jo:=λF e K=>dM [.m] F λk=>(∃ m,e[0]?=some m)/\∃ E C q u d,fC y j e k E C q u d/\∀ S,K (.mr e.length) (e++[.ins y nG [.mr (e.length+3),.mr (e.length+4),.int (d:Int)],.lst [jL j S],.lst [],.lst (q.map<|jL j),.lst (u.map mG)])
def Ri (F E:au):jo:=λC e K=>dM [.m,.v] C λk x=>∃ y u j q d S,fC F E e k y u j q d/\j[d]?=some S/\x=xb S/\K (.bl true) e
def ON (d:az Str):Dd->Prop
 |.put nm _ _=>nm∈d
 |.join nm _ _ _=>nm∈d
 |_=>True
def C7 (d:az Str)(S:RS):Prop:=∀ z,z∈S.af.map Zx->z∈d
def Rr:jo:=λq j K=>dM [.m,.v,.v] q λk x y=>j[k]?=some .box/\∃ S m e,x=xb S/\y=zM e/\o6 S m/\pT e/\∀ d,mV S d=none->Ks d->ON e d->K (mG d) j
def Nv (u q:au):jo:=λj e K=>dM [.m,.i] j λk d=>(∃ m,e[0]?=some m)/\e[k]?=some .box/\k<e.length/\1<=d/\d<=40/\∀(n:Int) (kL:az Str),1<=n->n<=d->pT kL->kL.length<=8->K (.tup [.mr e.length,xb ⟨n,[],[]⟩,zM kL]) (e++[.ins u nG [.mr (e.length+1),.mr (e.length+2),.int 0],.lst [jL q ⟨n,[],[]⟩],.lst []])
def Fh {d:az Str}{l:az aak}(h:∀ z,z∈l.map Zx->z∈d)(hn:nm∈d):∀ z,z∈(g0 l nm x).map Zx->z∈d:=λz e=>by
 rw[sA]at e;split at e
 .exact h z e
 .rcases List.mem_append.mp e with q | q
  .exact h z q
  .rwa [List.mem_singleton.mp q]
def xT {d:az Str}{l:az aak}(h:∀ z,z∈l.map Zx->z∈d)(e:fc l nm=some y):∀ z,z∈(g0 l nm x).map Zx->z∈d:=λz j=>by rw[(vU e).1]at j;exact h z j
def C7.do (wf:o6 S m)(h:C7 kL S)(hr:mV S e=none)(hf:ON kL e):C7 kL (m7 S e):=by
 cases e with
 |put nm b a=>exact Fh h hf
 |join nm l r p=>exact Fh h hf
 | found nm bar j =>
  intro z d;have d:z∈(yL S.af (gE S.af nm bar).1 bar j).map (·.1):=d;delta yL at d;split at d
  .rename_i e;exact xT h e z d
  .exact h z d
 | rH nm a =>
  intro z d;delta m7 at d;dsimp only at d;split at d
  .rename_i e;exact xT h e z d
  .exact h z d
 | drop nm =>intro z d;obtain⟨p,q,rfl⟩:=List.mem_map.mp d;exact h _ (List.mem_map.mpr ⟨p,(List.mem_filter.mp q).1,rfl⟩)
 |free p=>exact h
 |gs p=>exact h
structure j6 (cR cS:au)(kL:List Str)(R0:RS)(μ:MS)(k j1 j2 p q:Nat)(ps qs:List (RS×Dd))(ss:List RS)(rs:List Dd)(d:Nat):Prop where
 ra:fC cR cS μ k j1 j2 ss rs d
 pa:l8 R0 ps ss rs d
 la:Later qs ss rs d
 lp:μ[p]?=some (.lst<|iW R0 ps)
 lq:μ[q]?=some (.lst<|qs.reverse.map pD)
 nm:∀ T∈ss,C7 kL T/\T.n=R0.n
structure Apart (k j1 j2 p q:Nat):Prop where
 p1:p≠k/\p≠j1/\p≠j2
 q1:q≠k/\q≠j1/\q≠j2
 pq:p≠q
def Sy (μ μ':MS)(k e d p q:Nat):Prop:=μ'.length=μ.length/\∀ i,i≠k->i≠e->i≠d->i≠p->i≠q->μ'[i]?=μ[i]?
def K4:Sy μ (((jh I H μ k j e ss rs d).set p x).set q y) k j e p q :=
 ⟨by rw[ba,ba,u7],λi G F E C u=>by rw[aK (bB u),aK (bB C),jO G F E]⟩
def Rh (M L:au):jo:=λW C K=>dM [.m,.m,.m,.m,.v] W λb k p q y=>C[b]?=some .box/\(∃ m,C[0]?=some m)/\∃ F E e O U Q P H d,y=zM e/\pT e/\j6 M L e O C k F E p q U Q P H d/\Apart k F E p q/\H.length<800 /\
 ∀ j J I G u X,u.length<=H.length+1->j6 M L e O j k F E p q J I G u X->Sy C j k F E p q->K .fX j
theorem vg {α:Type}[DecidableEq α]:∀ {l m:az α},l.Nodup->(∀ x∈l,x∈m)->l.length<=m.length
 |[],_,_,_=>bx _
 | x::l,m,nd,h=>by have d:=h x aE;refine gv (List.nodup_cons.mp nd) λn1 n2=>?_;have r:=vg (m:=m.erase x) n2 λy j=>(List.mem_erase_of_ne λe=>n1<|by rwa [<- e]).mpr<|h y<|jJ _ j;rw[List.length_erase_of_mem d]at r;have:=List.length_pos_of_mem d;rw[aY];lia
def pC:az Str:=["aa","ab","ac","ad","ae","af","ag","ah","ai"]
def Gs (pl:kL.length<=8)(h:C7 kL S):(pC.filter λz=>!decide (z∈S.af.map Zx))≠[]:=λe=>by
 have all:∀ z∈pC,z∈kL:=λz d=>by
  have:=List.filter_eq_nil_iff.mp e z d;refine h z ?_;by_cases q:z∈S.af.map Zx
  .exact q
  .rw[aO q]at this;exact absurd rfl this
 have:=vg (by decide +kernel) all;have j:pC.length=9:=rfl;lia
def JR (wf:o6 S m)(pl:kL.length<=8)(h:C7 kL S):S.af.length<=8:=by have:=vg wf.kp.nd h;rw[fI]at this;lia
structure YC (K:aj)(C:au):Prop where
 ha:W.findIn K ZY "__class__"=some (some<|.builtin "object.__class__")
 hn:W.specialIn K (.builtin "object.__class__") "__get__"=some (some<|.builtin "getset_descriptor.__get__")
 Wd:W.takesIn K (.builtin "object.__class__")=some true
 hm:W.mroIn K C (.type "object")=some true
def Xa (cl:tF X.K C)(d:YC X.K C):h9 X (.builtin "isinstance") (λvs H Q=>∃ e y fs,vs=[.ref e,.ref C]/\H e=some (.ins C y fs)/\Q (.bl true) H):=by intro u s J H vs L Q I r q;obtain⟨e,y,fs,rfl,G,q⟩:=q;refine fw r.two λO M j F E=>?_;subst j;subst E;exact xq I F (jl.ins G cl d.ha d.hn d.Wd d.hm) (by delta W.kitOne;rw[aF (cX _)]) λtk=>⟨.bl true,H,I.tok tk,rfl,q⟩
def O8 (C:au)(w:De):De:=λj q y=>w j q λd e=>match d with
 |.mr k=>(∃ ns u,e[k]?=some (.ins C ns u))/\y (.bl true) e
 |_=>False
def LS (h:tD (O8 C w) σ H Q):V3 (λvs H Q=>∃ e F fs,vs=[.ref e,.ref C]/\H e=some (.ins C F fs)/\Q (.bl true) H) (wY (tD w)<|wY (tC<|.ref C) BK) σ H Q:=by
 refine fL h λI J O K A M k L=>⟨I,J,O,_,A,M,k,λd y u v1 Z q W M1 P=>?_⟩;cases d with
 | mr j =>obtain⟨⟨ns,ds,e1⟩,q⟩:=q;refine eU P λp U E=>?_;subst E;obtain⟨p',G,F,fs,Y,_⟩:=M1.at_ j _ e1;rw[U]at G;cases G;exact⟨p,F,fs,rfl,Y,L _ y u _ Z q W M1 rfl⟩
 |_=>exact q.elim
def RD (cl:tF X.K B)(u:YC X.K B)(j:Gl X "isinstance")(hm:X.mg "isinstance"=none)(e:Gl X x)(d:X.mg x=some (.ref B))(ha:PD X a w)(hd:Zz=false:=by decide)
 (hs:starEach [a,.Name x p2] X.env=(false,eval a X.env)::starEach [.Name x p2] X.env:=by rfl) (yJ:starEach [.Name x p2] X.env=(false,eval (.Name x p2) X.env)::starEach [] X.env:=by rfl) (m4:(backTo pos<|starEach [.Name x p2] X.env).any Zx=false:=by rfl):
 PD X (.Call (.Name "isinstance" p) [a,.Name x p2] [] pos) (O8 B w):=
 (gn (Xa cl u) j hm boot_isinstance (fv ha (fv (D6 (v:=.ref B) e d rfl hd) gJ yJ) hs) Zu rfl hs m4).imp λy H Q q=>LS q
section
variable {μ:MS}
def oF (hl:μ.length=n):(μ++g)[n+i]?=g[i]?:=by subst hl;rw[lQ (aU _ _),cw]
def j6.away (h:j6 cR cS kL R0 μ k j1 j2 p q ps qs ss rs d)(u:Sy μ μ' k' a' b' p' q')(x:∀ i∈[k,j1,j2,p,q],i≠k'/\i≠a'/\i≠b'/\i≠p'/\i≠q'):j6 cR cS kL R0 μ' k j1 j2 p q ps qs ss rs d:=by
 have e:∀ i∈[k,j1,j2,p,q],μ'[i]?=μ[i]?:=λi j=>by exact Kh (x i j) λa b c d e=>u.2 i a b c d e
 have ra:=h.ra;refine⟨⟨ra.k0,ra.a0,ra.b0,ra.ka,ra.kb,ra.ab,?_,?_,?_,ra.len,ra.le,ra.wf,ra.iu⟩,h.pa,h.la,?_,?_,h.nm⟩
 .rw[e k ZN];exact ra.ins
 .rw[e j1 ZN];exact ra.l1
 .rw[e j2 ZN];exact ra.l2
 .rw[e p ZN];exact h.lp
 .rw[e q ZN];exact h.lq
theorem j6.more (h:j6 cR cS kL R0 μ k j1 j2 p q ps qs ss rs d):j6 cR cS kL R0 (μ++g) k j1 j2 p q ps qs ss rs d :=
 ⟨h.ra.more,h.pa,h.la,by rw[pF (jA h.lp).1];exact h.lp,by rw[pF (jA h.lq).1];exact h.lq,h.nm⟩
def j6.two (h:j6 cR cS kL R0 μ 1 2 3 4 5 ps qs ss rs d)(hb:μ[0]?=some .box)(hl:μ.length=6)(e:ν=μ++[.ins cR nG [.mr 9,.mr 10,.int (d:Int)],x,y,.lst (ss.map<|jL cS),.lst (rs.map mG)]++[.lst (iW R0 ps)]++[.lst (qs.reverse.map pD)]):j6 cR cS kL R0 ν 1 2 3 4 5 ps qs ss rs d/\j6 cR cS kL R0 ν 6 9 10 11 12 ps qs ss rs d/\ν[0]?=some .box/\ν.length=13:=by
 subst e;have ra:=h.ra;refine⟨h.more.more.more,?_,?_,?_⟩
 .rw[aS,aS];exact⟨⟨by decide,by decide,by decide,by decide,by decide,by decide,(oF (i:=0) hl).trans rfl,(oF (i:=3) hl).trans rfl,(oF (i:=4) hl).trans rfl,ra.len,ra.le,ra.wf,ra.iu⟩,h.pa,h.la,(oF (i:=5) hl).trans rfl,(oF (i:=6) hl).trans rfl,h.nm⟩
 .rwa [aS,aS,pF Zs]
 .rw[i8,i8,i8,hl];rfl
def fC.S2 (h:fC cR cS μ k j1 j2 ss rs d)(hl:μ.length=13):fC cR cS (μ++[.ins cR nG [.mr 16,.mr 17,.int (d:Int)],x,y,.lst (ss.map<|jL cS),.lst (rs.map mG)]) 13 16 17 ss rs d :=
 ⟨by decide,by decide,by decide,by decide,by decide,by decide,(oF (i:=0) hl).trans rfl,(oF (i:=3) hl).trans rfl,(oF (i:=4) hl).trans rfl,h.len,h.le,h.wf,h.iu⟩
end
def IM {S:RS}(z:Str):((S.af.map λp=>D.str p.1).any λd=>rA d<|.str z)=decide (z∈S.af.map Zx):=by
 rw[c8,List.any_eq_true,cu];constructor
 .rintro⟨d,hd,e⟩;obtain⟨p,j,rfl⟩:=List.mem_map.mp hd;have:p.1=z:=by simpa [rA]using e
  rw[<- this];exact List.mem_map.mpr ⟨p,j,rfl⟩
 .intro h;obtain⟨p,j,rfl⟩:=List.mem_map.mp h;exact⟨_,List.mem_map.mpr ⟨p,j,rfl⟩,by simp[rA]⟩
def IL (S:RS):(pC.filterMap λz=>if(!decide (z∈S.af.map Zx))=true then some (D.str z)else none)=(pC.filter λz=>!decide (z∈S.af.map Zx)).map D.str:=JN _ _ _
def Eg:∀ z∈pC,iL z=true:=by decide +kernel
def Mh {S:RS}{z:Str}{l:az Nat}{a:Int}(hz:z∈pC)(hn:z∉S.af.map Zx)(iu:S.af.length<=8)(hl:(l.length:Int)=S.n)(e:OX l)(a0:0<=a)(a1:a<=20):mV S (.put z (txt l) a)=none:=by
 refine D0 ?_ hl e a0 a1;delta oY jx;have j:(fc S.af z).isSome=false:=by rw[Bool.eq_false_iff];intro h;exact hn (fV.mp h)
 rw[Eg z hz,j,aD Zu,aD Zu,aD Zs]
end L2
namespace Pf
open PySem L2 PyProof.Rows
def top (i:Nat):Stmt:=PySem.Challenge.pw_hissroom_k40_twins.main.body.getD i (.Pass ⟨0,0,0,0⟩)
def met (i j:Nat):Stmt:=(NM<|top i).getD j (.Pass ⟨0,0,0,0⟩)
abbrev Ow:=top 62
abbrev HG:=top 63
abbrev s_same:=top 77
abbrev xf:=top 36
abbrev zT:=top 37
abbrev uW:=top 55
abbrev o8:=top 56
abbrev mv:=met 42 0
abbrev k8:=met 42 1
abbrev pj:=met 42 2
abbrev n9:=met 42 3
abbrev jM:=met 42 4
abbrev qy:=met 42 5
abbrev ph:=met 42 6
abbrev sI:=top 52
abbrev sJ:=top 53
abbrev pf:=top 54
abbrev Ot:=top 43
abbrev HK:=top 44
abbrev DP:=top 45
abbrev HR:=top 46
abbrev HM:=top 47
abbrev HL:=top 48
abbrev HH:=top 49
abbrev n8:=top 51
abbrev nu:=met 59 0
abbrev u0:=met 59 1
abbrev sP:=met 59 9
abbrev qE:=met 59 12
abbrev qF:=met 59 13
abbrev sN:=met 59 14
abbrev qB:=met 59 15
abbrev sR:=met 59 16
abbrev u4:=met 59 17
abbrev qA:=met 59 18
abbrev pk:=met 59 19
abbrev sQ:=met 59 20
abbrev qz:=met 59 21
abbrev sL:=met 59 10
abbrev sO:=met 59 11
abbrev DL:=top 64
abbrev DQ:=top 65
abbrev zR:=top 66
abbrev HQ:=top 67
abbrev DM:=top 68
abbrev DH:=top 69
abbrev HJ:=top 70
abbrev HN:=top 71
abbrev zP:=top 78
abbrev zS:=top 72
abbrev Ov:=top 73
abbrev Ou:=top 74
abbrev pS:=top 75
abbrev HI:=top 76
abbrev BU:=top 2
abbrev zQ:=top 3
abbrev zV:=top 5
abbrev uY:=top 4
abbrev n6:=top 24
abbrev sH:=top 25
abbrev qw:=top 26
abbrev uV:=top 23
abbrev sG:=top 22
abbrev xc:=top 29
abbrev mU:=top 30
abbrev nr:=top 32
abbrev mT:=top 31
abbrev qx:=top 28
abbrev zU:=top 34
abbrev nk:=top 60
abbrev qD:=met 59 23
abbrev u3:=met 59 24
abbrev sM:=met 59 27
abbrev uZ:=met 59 2
abbrev mu:=top 82
abbrev uX:=top 80
abbrev HF:=top 81
abbrev DJ:=top 79
structure R5 (K:aj)(C:au):Prop where
 cl:tF K C
 h8:W.findIn K ZY "length"=some none
 gz:W.findIn K ZY "made_of"=some none
 iX:W.findIn K ZY "firsts"=some none
 ju:W.findIn K ZY "closed"=some none
structure VC (K:aj)(C:au):Prop where
 cl:tF K C
 oj:W.findIn K ZY "stands"=some none
 mW:W.findIn K ZY "rows"=some none
 jD:W.findIn K ZY "done"=some none
def eV:au:=346
def fe:au:=642
def E4:au:=152
def E7:au:=104
def vT:au:=80
def K0:au:=128
def Pa:au:=140
def E8:au:=92
def xO:au:=116
def Bi:au:=68
def O9:au:=164
def E6:au:=176
def E5:au:=188
def Bh:au:=212
def nc:au:=200
def RW:au:=55
def Lc:au:=357
def CZ:au:=364
def zi:au:=371
def C2:au:=378
def C1:au:=383
def C0:au:=390
def CY:au:=397
abbrev ub:az au:=[Bi,0,0,0,vT,E8,E7,xO,Bh,K0,Pa,E4,O9,E6,E5,0,0]
def kp (b:Nat)(x q:Str)(s:Stmt)(pm:av)(t l a t2:Nat):az (au×Obj):=kf (b+6) (b+5) x q s pm t l a b (b+1) (.ref<|b+2) (.ref<|b+3) (b+4) t2
def qU (b:Nat)(x:Str):=kp b x x
def kn (b:Nat)(x q:Str)(s:Stmt)(pm:av)(t l a t2:Nat):az (au×Obj):=kf (b+4) (b+3) x q s pm t l a b (b+1) .none .none (b+2) t2
def tR (b:Nat)(x:Str):=kn b x x
def F9:av:=(.str "hissroom.errors" 225)
def mh:av:=(.str "law_hissroom_k40_twins" 1074)
def Wb:av:=(.str "hissroom.bars" 538)
def mM:av:=(.str "hissroom.stand" 562)
def mL:av:=(.str "hissroom.room" 805)
def MK:av:=(.str "hissroom.ends" 194)
def LF:av:=(.str "hissroom.reach" 453)
def LD:av:=(.str "hissroom.tables" 492)
def YW:av:=(.str "hissroom.few" 525)
def kk (P:Params):aj:=List.flatten [[ko 3 (Uh P "law_hissroom_k40_twins" 1074 [me "_wall" 193 (.ref 21),me "ends" 203 (.ref 28),me "pieces" 212 (.ref 35),me "farthest" 218 (.ref 40),me "bar_of" 224 (.ref 45),me "HissError" 244 (.ref 55),me "BadBars" 260 (.ref 68),me "BadName" 276 (.ref 80),me "BadAge" 292 (.ref 92),me "BadBar" 308 (.ref 104),me "BadPlace" 324 (.ref 116),me "Taken" 340 (.ref 128),me "Full" 356 (.ref 140),me "NoTake" 372 (.ref 152),me "Shut" 388 (.ref 164),me "Joined" 404 (.ref 176),me "Needed" 420 (.ref 188),me "NothingLeft" 436 (.ref 200),me "BadSize" 452 (.ref 212),me "least_age" 467 (.ref 221),me "youngest" 473 (.ref 226),me "take_rows" 479 (.ref 231),me "clean_row" 485 (.ref 236),me "next_reach" 491 (.ref 241),me "few_tables" 499 (.ref 246),me "no_make" 506 (.ref 253),me "bare_table" 512 (.ref 258),me "next_table" 518 (.ref 263),me "fewest_joined" 524 (.ref 268),me "fewest" 537 (.ref 275),me "is_bars" 547 (.ref 282),me "joined" 561 (.ref 289),me "MOST_LETTERS" 565 (.int 8 564),me "MOST_TAKES" 567 (.int 20 566),me "OLDEST" 569 (.int 20 568),me "Stand" 661 (.ref 346),me "put" 674 (.ref 357),me "join" 687 (.ref 364),me "found" 704 (.ref 371),me "aged" 717 (.ref 378),me "drop" 723 (.ref 383),me "free" 733 (.ref 390),me "shut" 743 (.ref 397),me "DEEDS" 758 (.ref 398),me "stand_behind" 767 (.ref 405),me "check_new" 773 (.ref 410),me "check_age" 780 (.ref 417),me "check_place" 788 (.ref 424),me "with_key" 798 (.ref 431),me "without_key" 804 (.ref 436),me "LONGEST" 808 (.int 40 807),me "Room" 1062 (.ref 642),me "least_and_few" 1073 (.ref 653),me "_law_box" 1082 (.ref 660),me "_law_take" 1094 (.ref 667),me "_law_names" 1100 (.ref 672),me "_law_begun" 1109 (.ref 679),me "_law_origin" 1123 (.ref 686),me "_law_ages" 1133 (.ref 693),me "_law_heard" 1139 (.ref 698),me "_law_takes" 1145 (.ref 703),me "_law_open" 1151 (.ref 708),me "_law_done" 1166 (.ref 715),me "_law_likely" 1172 (.ref 720),me "_law_far" 1178 (.ref 725),me "_law_own" 1184 (.ref 730),me "_law_few_next" 1190 (.ref 735),me "_law_pair" 1196 (.ref 740),me "_law_same" 1202 (.ref 745),me "_law_stands" 1217 (.ref 752),me "_law_right" 1223 (.ref 757),me "_law_one_turn" 1236 (.ref 764),me "_law_told" 1245 (.ref 771),me "law" 1251 (.ref 776)])],[ko 346 ⟨.type "type",none,(.cls ⟨"Stand",[.type "object"],[.ref 346,.type "object"],345, "Stand",true,[],[],false,none,false⟩),#[none,none,(some<|.str "Stand" 570),(some<|.str "Stand" 578),(some<|.builtin "object.__new__"),(some<|.bool true)]⟩,ko 345 ⟨.type "dict",none,(.dict #[jy P "__module__" 577 (.str "hissroom.stand" 562),jy P "__firstlineno__" 581 (.int 120 580),jy P "__init__" 592 (.ref 303),jy P "check_there" 600 (.ref 310),jy P "parts" 608 (.ref 317),jy P "source" 622 (.ref 324),jy P "takes_by_names" 635 (.ref 331),jy P "take" 643 (.ref 338),jy P "shelf" 649 (.ref 343),jy P "__static_attributes__" 654 (.ref 344),jy P "__dict__" 656 (.ref 347),jy P "__weakref__" 658 (.ref 348),jy P "__doc__" 659 (.none)] 4),#[]⟩],[ko 642 ⟨.type "type",none,(.cls ⟨"Room",[.type "object"],[.ref 642,.type "object"],641, "Room",true,[],[],false,none,false⟩),#[none,none,(some<|.str "Room" 809),(some<|.str "Room" 817),(some<|.builtin "object.__new__"),(some<|.bool true)]⟩,ko 641 ⟨.type "dict",none,(.dict #[jy P "__module__" 816 (.str "hissroom.room" 805),jy P "__firstlineno__" 820 (.int 237 819),jy P "__init__" 828 (.ref 450),jy P "now" 835 (.ref 457),jy P "put" 845 (.ref 464),jy P "join" 856 (.ref 471),jy P "found" 866 (.ref 478),jy P "aged" 875 (.ref 485),jy P "drop" 883 (.ref 492),jy P "free" 891 (.ref 499),jy P "shut" 899 (.ref 506),jy P "deed" 908 (.ref 513),jy P "undo" 915 (.ref 520),jy P "redo" 922 (.ref 527),jy P "deeds" 929 (.ref 534),jy P "ahead" 936 (.ref 541),jy P "size" 943 (.ref 548),jy P "names" 950 (.ref 555),jy P "bars" 958 (.ref 562),jy P "age" 966 (.ref 569),jy P "parts" 974 (.ref 576),jy P "source" 983 (.ref 583),jy P "cuts" 993 (.ref 590),jy P "takes" 1003 (.ref 597),jy P "answer" 1010 (.ref 604),jy P "least" 1020 (.ref 611),jy P "few" 1028 (.ref 618),jy P "after" 1036 (.ref 625),jy P "coming" 1043 (.ref 632),jy P "twin" 1051 (.ref 639),jy P "__static_attributes__" 1055 (.ref 640),jy P "__dict__" 1057 (.ref 643),jy P "__weakref__" 1059 (.ref 644),jy P "__doc__" 1060 (.none)] 4),#[]⟩],kx P 152 151 55 "NoTake" (some<|.ref 143) 357 365 F9 364 36 150,kx P 104 103 55 "BadBar" (some<|.ref 95) 293 301 F9 300 28 102,kx P 80 79 55 "BadName" (some<|.ref 71) 261 269 F9 268 24 78,kx P 128 127 55 "Taken" (some<|.ref 119) 325 333 F9 332 32 126,kx P 140 139 55 "Full" (some<|.ref 131) 341 349 F9 348 34 138,kx P 92 91 55 "BadAge" (some<|.ref 83) 277 285 F9 284 26 90,kx P 116 115 55 "BadPlace" (some<|.ref 107) 309 317 F9 316 30 114,kx P 68 67 55 "BadBars" (some<|.ref 59) 245 253 F9 252 22 66,kx P 164 163 55 "Shut" (some<|.ref 155) 373 381 F9 380 38 162,kx P 176 175 55 "Joined" (some<|.ref 167) 389 397 F9 396 40 174,kx P 188 187 55 "Needed" (some<|.ref 179) 405 413 F9 412 42 186,kx P 212 211 55 "BadSize" (some<|.ref 203) 437 445 F9 444 46 210,kx P 200 199 55 "NothingLeft" (some<|.ref 191) 421 429 F9 428 44 198,[ko 55 ⟨.type "type",none,(.cls ⟨"HissError",[.type "ValueError"],[.ref 55,.type "ValueError",.type "Exception",.type "BaseException",.type "object"],54, "HissError",true,[],[.ref 68,.ref 80,.ref 92,.ref 104,.ref 116,.ref 128,.ref 140,.ref 152,.ref 164,.ref 176,.ref 188,.ref 200,.ref 212],false,none,false⟩),#[(some<|.ref 46),none,(some<|.str "HissError" 227),(some<|.str "HissError" 235),(some<|.builtin "ValueError.__new__"),(some<|.bool true)]⟩,ko 54 ⟨.type "dict",none,(.dict #[jy P "__module__" 234 (.str "hissroom.errors" 225),jy P "__firstlineno__" 238 (.int 20 237),jy P "__static_attributes__" 239 (.ref 53),jy P "__weakref__" 241 (.ref 56),jy P "__doc__" 242 (.none)] 3),#[]⟩],qU 654 "_law_box" Ow mh 1076 350 1 1080,qU 661 "_law_take" HG mh 1083 352 2 1092,tR 741 "_law_same" s_same mh 1197 476 2 1200,qU 276 "is_bars" xf Wb 540 109 2 545,qU 283 "joined" zT Wb 548 111 3 559,qU 425 "with_key" uW mM 789 229 3 796,tR 432 "without_key" o8 mM 799 233 2 802,kp 297 "__init__" "Stand.__init__" mv mM 582 122 5 590,kp 304 "check_there" "Stand.check_there" k8 mM 593 128 2 598,kp 311 "parts" "Stand.parts" pj mM 601 132 2 606,kp 318 "source" "Stand.source" n9 mM 609 136 3 620,kp 325 "takes_by_names" "Stand.takes_by_names" jM mM 623 148 1 633,kp 332 "take" "Stand.take" qy mM 636 158 2 641,kn 339 "shelf" "Stand.shelf" ph mM 644 162 1 647,tR 406 "check_new" sI mM 768 216 2 771,qU 411 "check_age" sJ mM 774 223 1 778,qU 418 "check_place" pf mM 781 226 2 786,qU 351 "put" Ot mM 662 165 2 672,qU 358 "join" HK mM 675 173 2 685,qU 365 "found" DP mM 688 182 2 702,qU 372 "aged" HR mM 705 190 2 715,tR 379 "drop" HM mM 718 197 2 721,qU 384 "free" HL mM 724 204 2 731,qU 391 "shut" HH mM 734 208 2 741,qU 399 "stand_behind" n8 mM 759 213 2 765,kp 444 "__init__" "Room.__init__" nu mL 821 239 2 826,kp 451 "now" "Room.now" u0 mL 829 246 1 833,kp 507 "deed" "Room.deed" sP mL 900 270 2 906,kp 528 "deeds" "Room.deeds" qE mL 923 288 1 927,kp 535 "ahead" "Room.ahead" qF mL 930 291 1 934,kp 542 "size" "Room.size" sN mL 937 294 1 941,kp 549 "names" "Room.names" qB mL 944 297 1 948,kp 556 "bars" "Room.bars" sR mL 951 300 2 956,kp 563 "age" "Room.age" u4 mL 959 303 2 964,kp 570 "parts" "Room.parts" qA mL 967 306 2 972,kp 577 "source" "Room.source" pk mL 975 309 3 981,kp 584 "cuts" "Room.cuts" sQ mL 984 312 1 991,kp 591 "takes" "Room.takes" qz mL 994 316 1 1001,kp 514 "undo" "Room.undo" sL mL 909 276 1 913,kp 521 "redo" "Room.redo" sO mL 916 282 1 920,tR 668 "_law_names" DL mh 1095 368 2 1098,qU 673 "_law_begun" DQ mh 1101 382 2 1107,qU 680 "_law_origin" zR mh 1110 385 3 1121,qU 687 "_law_ages" HQ mh 1124 392 1 1131,tR 694 "_law_heard" DM mh 1134 398 2 1137,tR 699 "_law_takes" DH mh 1140 401 1 1143,tR 704 "_law_open" HJ mh 1146 404 1 1149,qU 709 "_law_done" HN mh 1152 406 2 1164,qU 746 "_law_stands" zP mh 1203 486 2 1215,tR 716 "_law_likely" zS mh 1167 425 3 1170,tR 721 "_law_far" Ov mh 1173 446 3 1176,tR 726 "_law_own" Ou mh 1179 451 3 1182,tR 731 "_law_few_next" pS mh 1185 456 3 1188,tR 736 "_law_pair" HI mh 1191 468 3 1194,qU 22 "ends" BU MK 196 5 2 201,qU 29 "pieces" zQ MK 204 7 2 210,tR 41 "bar_of" zV MK 219 14 3 222,tR 36 "farthest" uY MK 213 10 4 216,tR 227 "take_rows" n6 LF 474 62 3 477,tR 232 "clean_row" sH LF 480 65 3 483,tR 237 "next_reach" qw LF 486 71 4 489,tR 222 "youngest" uV LF 468 60 1 471,qU 215 "least_age" sG LF 455 49 3 465,qU 247 "no_make" xc LD 500 90 1 504,tR 254 "bare_table" mU LD 507 92 1 510,tR 264 "fewest_joined" nr LD 519 102 3 522,tR 259 "next_table" mT LD 513 95 3 516,tR 242 "few_tables" qx LD 494 76 4 497,qU 269 "fewest" zU YW 527 105 4 535,qU 647 "least_and_few" nk mL 1063 343 1 1071,kp 605 "least" "Room.least" qD mL 1011 323 1 1018,kp 612 "few" "Room.few" u3 mL 1021 327 1 1026,kp 633 "twin" "Room.twin" sM mL 1044 337 1 1049,kp 458 "put" "Room.put" uZ mL 836 249 4 843,tR 772 "law" mu mh 1246 529 1 1249,qU 758 "_law_one_turn" uX mh 1224 511 5 1234,qU 765 "_law_told" HF mh 1237 524 2 1243,tR 753 "_law_right" DJ mh 1218 505 3 1221,[ko 398 ⟨.type "dict",none,(.dict #[jy P "put" 744 (.ref 357),jy P "join" 745 (.ref 364),jy P "found" 746 (.ref 371),jy P "aged" 747 (.ref 378),jy P "drop" 748 (.ref 383),jy P "free" 749 (.ref 390),jy P "shut" 750 (.ref 397)] 7),#[]⟩]]
def hk:W.Hook:=W.kHook kk [3,346,345,642,641,152,151,104,103,80,79,128,127,140,139,92,91,116,115,68,67,164,163,176,175,188,187,212,211,200,199,55,54,660,659,667,666,745,744,282,281,289,288,431,430,436,435,303,302,310,309,317,316,324,323,331,330,338,337,343,342,410,409,417,416,424,423,357,356,364,363,371,370,378,377,383,382,390,389,397,396,405,404,450,449,457,456,513,512,534,533,541,540,548,547,555,554,562,561,569,568,576,575,583,582,590,589,597,596,520,519,527,526,672,671,679,678,686,685,693,692,698,697,703,702,708,707,715,714,752,751,720,719,725,724,730,729,735,734,740,739,28,27,35,34,45,44,40,39,231,230,236,235,241,240,226,225,221,220,253,252,258,257,268,267,263,262,246,245,275,274,653,652,611,610,618,617,639,638,464,463,776,775,764,763,771,770,757,756,398] (λ_=>by kernel_rfl)
def lw:W.OpenLaw:=PySem.Challenge.rw_hissroom_k40_twins
def qq:ak:={ lw.prog with main:={ lw.prog.main with body:=[mu]}}
def ll:az Str:=[sS "_wall",sS "ends",sS "pieces",sS "farthest",sS "bar_of",sS "HissError",sS "BadBars",sS "BadName",sS "BadAge",sS "BadBar",sS "BadPlace",sS "Taken",sS "Full",sS "NoTake",sS "Shut",sS "Joined",sS "Needed",sS "NothingLeft",sS "BadSize",sS "least_age",sS "youngest",sS "take_rows",sS "clean_row",sS "next_reach",sS "few_tables",sS "no_make",sS "bare_table",sS "next_table",sS "fewest_joined",sS "fewest",sS "is_bars",sS "joined",sS "MOST_LETTERS",sS "MOST_TAKES",sS "OLDEST",sS "Stand",sS "put",sS "join",sS "found",sS "aged",sS "drop",sS "free",sS "shut",sS "DEEDS",sS "stand_behind",sS "check_new",sS "check_age",sS "check_place",sS "with_key",sS "without_key",sS "LONGEST",sS "Room",sS "least_and_few",sS "_law_box",sS "_law_take",sS "_law_names",sS "_law_begun",sS "_law_origin",sS "_law_ages",sS "_law_heard",sS "_law_takes",sS "_law_open",sS "_law_done",sS "_law_likely",sS "_law_far",sS "_law_own",sS "_law_few_next",sS "_law_pair",sS "_law_same",sS "_law_stands",sS "_law_right",sS "_law_one_turn",sS "_law_told"]
def xt (s:ar):Bool:=W.xlAt qq [] s&&W.recOk (W.RowW.records lw.row.toRowW) s
def Uk:Fm lw.prog qq ll xt hk.obs hk.val 6299 "special-get-raises" false:=λw os=>by kernel_rfl
def Uj:Fm lw.prog qq ll xt hk.obs hk.val 6299 "special-get-raises" true:=λw os=>by kernel_rfl
def left:W.LeftO lw.prog qq ll xt hk.obs hk.val 6299:=Jj (by kernel_rfl) rfl (λs=>by kernel_rfl) rfl Uk.at Uj.at
def WQ:lw.wellSaid=true:=(congrFun W.Fast.te9446332074065402090 lw).trans (by kernel_rfl)
def dd:DefRec:=⟨"law",iR mu,g9 mu,fh mu,Ry mu⟩
def holds (F:W.WalkO qq ll (W.XL qq []) hk.says lw.row.toRowW dd [] (λf vs=>PySem.call f vs)):lw.Holds:=W.holds_law WQ λk1=>W.holds_open (q:=qq) (loose:=ll) (Xt:=xt) (XP:=W.XL qq []) (d:=dd) (kwd:=[]) left hk.of hk.keeps (λs e=>W.xl_of s (Bool.and_eq_true_iff.mp e).1) W.XL.keeps (by kernel_rfl) (by kernel_rfl) rfl (λs e=>W.recFacts_of (Bool.and_eq_true_iff.mp e).2) rfl k1 (by kernel_rfl) ⟨rfl,rfl,rfl,rfl,rfl,by kernel_rfl⟩ ⟨[.list []],by kernel_rfl,by kernel_rfl⟩ F
class Ev (P:outParam ak) (w:outParam ao) (K:outParam aj) (mg:outParam (Str->Option av)) (ah:outParam Heap):Prop where
 k:K=kk w.params
 X:K.In ah
 G:ah.Ns mainGlobals mg
section
variable {P:ak}{w:ao}{K:aj}{mg:Str->aA av}{ah:Heap}{f:au}{fd:aq}
def W2 {x qual:Str}{st:Stmt}{N ps:az Str}{k:Nat}{fs:jo}(F:oJ K x qual st f fd)(S:gw N ps (fh st))(h:∃ W,(∀ {tx A fb s H E},gZ k (A.deeper<|envOfC qual (fh st) s.heap.objs.size f tx)->Fl (o4 wq P w K mg ah N qual (fh st) f tx A fb s H E).QG (g9 st) W)/\∀ ds μ Kd,fs ds μ Kd->ds.length=ps.length/\((∀(j:Nat) (m:MO),μ[j]?=some m->Ao μ.length m)->nO μ.length ds->W (BX μ.length Kd) (nZ N ds) μ)):ij P w K mg ah wq (k+1) f fd ps (jg fs):=let ⟨_,a,b⟩:=h;F.YR S (λds μ Kd q=>(b ds μ Kd q).1) λtx A o s H E hr=>⟨_,a hr,λds μ Kd u v q=>(b ds μ Kd q).2 u v⟩
theorem KA:∀ {ps:az Pq} {ds:az D} {k:G4 ps},dM ps ds k->ds.length=ps.length
 |[],[],k,h=>rfl
 |.v::ps,n::ds,k,h|.i::ps,.int n::ds,k,h|.s::ps,.str n::ds,k,h|.l::ps,.lst n::ds,k,h|.m::ps,.mr n::ds,k,h|.b::ps,.bl n::ds,k,h|.t::ps,.tup n::ds,k,h=>b8 (·+1) (KA (ps:=ps) h)
def lC {x qual:Str}{st:Stmt}{N ps:az Str}{k:Nat}{pt:az Pq}{fk:MS->DK->G4 pt}(F:oJ K x qual st f fd)(S:gw N ps (fh st))(h:∃ W,(∀ {tx A fb s H E},gZ k (A.deeper<|envOfC qual (fh st) s.heap.objs.size f tx)->Fl (o4 wq P w K mg ah N qual (fh st) f tx A fb s H E).QG (g9 st) W)/\∀ ds μ Kd,dM pt ds (fk μ Kd)->(∀(j:Nat) (m:MO),μ[j]?=some m->Ao μ.length m)->nO μ.length ds->W (BX μ.length Kd) (nZ N ds) μ)(hn:pt.length=ps.length:=by rfl):ij P w K mg ah wq (k+1) f fd ps (jg λds μ Kd=>dM pt ds<|fk μ Kd):=let ⟨_,a,b⟩:=h;F.YR S (λds μ Kd q=>(KA q).trans hn) λtx A o s H E hr=>⟨_,a hr,λds μ Kd u v q=>b ds μ Kd q u v⟩
variable [e:Ev P w K mg ah]
include e
def mq {x:Str}(h:W.nsIn ZL mainGlobals x=some (some v):=by kernel_rfl):mg x=some v:=W.mg_of e.X e.G (e.k▸h)
def mn {x:Str}(h:W.nsIn ZL mainGlobals x=some none:=by kernel_rfl):mg x=none:=W.mg_none_of e.X e.G (e.k▸h)
def T:Ws mg:=⟨mn,mn,mn,mn,mn,mn,mn,mn,mn,mn,mn,mn,mn,mn,mn,mn,mn⟩
def oq {x:Str}{C:au}(h:W.nsIn ZL mainGlobals x=some (some<|.ref C):=by kernel_rfl)(q:W.excIn ZL C zE "ValueError.__new__"=true:=by kernel_rfl):OwnCls x C zE "ValueError.__new__" mg ah:=Qy e.X e.G (e.k▸h) (e.k▸q)
def fq {x q:Str}{s:Stmt}(f:au)(pm:av)(l:(kk w.params).lookup f=some (Nd x q s pm<|f - 1):=by kernel_rfl)(c:W.codeIn ZL (.ref<|f - 1) q=true:=by kernel_rfl)(k:W.keepIn ZL aaf=true:=by kernel_rfl):∃ fd,oJ K x q s f fd:=⟨_,e.k▸JL l c k⟩
def cq {x:Str}{s:Stmt}{k:Nat}{sp:Sp}(f:au)(pm:av)(N:az Str)(ok:∀ {fd},oJ K x x s f fd->gw N (pA s) (fh s)->ij P w K mg ah wq k f fd (pA s) sp)(S:gw N (pA s) (fh s):=by exact Ap)(hb:∀ fd,oJ K x x s f fd->Binds K fd (pA s) []:=by intro _ F;first|exact SQ F|exact RY F|exact SO F|exact SN F|exact SM F)(l:(kk w.params).lookup f=some (Nd x x s pm<|f - 1):=by kernel_rfl)(c:W.codeIn ZL (.ref<|f - 1) x=true:=by kernel_rfl)(m:W.keepIn ZL aaf=true:=by kernel_rfl)(a:W.nsIn ZL mainGlobals x=some (some<|.ref f):=by kernel_rfl):lN P w K mg ah x k (pA s) sp:=let ⟨_,F⟩:=fq f pm l c m;RV e.X e.G F (ok F S) (hb _ F) (e.k▸a)
def cqI {x:Str}(q:Str){s:Stmt}{k:Nat}{sp:Sp}{C:au}(f:au)(pm:av)(N:az Str)(ok:∀ {fd},oJ K "__init__" q s f fd->gw N (pA s) (fh s)->ij P w K mg ah wq k f fd (pA s) sp)(S:gw N (pA s) (fh s):=by exact Ap)(hb:∀ fd,oJ K "__init__" q s f fd->Binds K fd (pA s) []:=by intro _ F;first|exact SQ F|exact RY F|exact SO F|exact SN F|exact SM F)(l:(kk w.params).lookup f=some (Nd "__init__" q s pm<|f - 1):=by kernel_rfl)(c:W.codeIn ZL (.ref<|f - 1) q=true:=by kernel_rfl)(m:W.keepIn ZL aaf=true:=by kernel_rfl)(n:W.nsIn ZL mainGlobals x=some (some<|.ref C):=by kernel_rfl)(a:W.findIn ZL ZY "__init__"=some (some<|.ref f):=by kernel_rfl)(i:W.isFn ZL aaf=true:=by kernel_rfl)(t:W.makesIn ZL C=true:=by kernel_rfl)(p:W.keepIn ZL ZY=true:=by kernel_rfl):N7 P w K mg ah x C k (pA s) sp:=let ⟨_,F⟩:=fq f pm l c m;NS e.X e.G F (ok F S) (hb _ F) (e.k▸n) (e.k▸a) (e.k▸i) (e.k▸t) (e.k▸p)
def tY {x:Str}(q:Str){s:Stmt}{k:Nat}{sp:Sp}{C:au}(f:au)(pm:av)(N:az Str)(ok:∀ {fd},oJ K x q s f fd->gw N (pA s) (fh s)->ij P w K mg ah (xZ P w) k f fd (pA s) sp)(S:gw N (pA s) (fh s):=by exact Ap)(hb:∀ fd,oJ K x q s f fd->Binds K fd (pA s) []:=by intro _ F;first|exact SQ F|exact RY F|exact SO F|exact SN F|exact SM F)(l:(kk w.params).lookup f=some (Nd x q s pm<|f - 1):=by kernel_rfl)(c:W.codeIn ZL (.ref<|f - 1) q=true:=by kernel_rfl)(m:W.keepIn ZL aaf=true:=by kernel_rfl)(a:W.findIn ZL ZY x=some (some<|.ref f):=by kernel_rfl)(i:W.isFn ZL aaf=true:=by kernel_rfl):kO P w K mg ah C x k (pA s) sp:=let ⟨_,F⟩:=fq f pm l c m;KS F (ok F S) (hb _ F) (e.k▸a) (e.k▸i)
def G6 {x:Str}(q:Str){s:Stmt}{k:Nat}{sp:Sp}{C:au}(f:au)(pm:av)(N:az Str)(ok:∀ {fd},oJ K x q s f fd->gw N (pA s) (fh s)->ij P w K mg ah wq k f fd (pA s) sp)(S:gw N (pA s) (fh s):=by exact Ap)(hb:∀ fd,oJ K x q s f fd->Binds K fd (pA s) []:=by intro _ F;first|exact SQ F|exact RY F|exact SO F|exact SN F|exact SM F)(l:(kk w.params).lookup f=some (Nd x q s pm<|f - 1):=by kernel_rfl)(c:W.codeIn ZL (.ref<|f - 1) q=true:=by kernel_rfl)(m:W.keepIn ZL aaf=true:=by kernel_rfl)(a:W.findIn ZL ZY x=some (some<|.ref f):=by kernel_rfl)(i:W.isFn ZL aaf=true:=by kernel_rfl):o7 P w K mg ah C x k (pA s) sp:=let ⟨_,F⟩:=fq f pm l c m;NR F (ok F S) (hb _ F) (e.k▸a) (e.k▸i)
def KN {x:Str}{s:Stmt}{k:Nat}{sp:Sp}(f:au)(pm:av)(N:az Str)(ok:∀ {fd},oJ K x x s f fd->gw N (pA s) (fh s)->ij P w K mg ah (xZ P w) k f fd (pA s) sp)(S:gw N (pA s) (fh s):=by exact Ap)(hb:∀ fd,oJ K x x s f fd->Binds K fd (pA s) []:=by intro _ F;first|exact SQ F|exact RY F|exact SO F|exact SN F|exact SM F)(l:(kk w.params).lookup f=some (Nd x x s pm<|f - 1):=by kernel_rfl)(c:W.codeIn ZL (.ref<|f - 1) x=true:=by kernel_rfl)(m:W.keepIn ZL aaf=true:=by kernel_rfl)(a:W.nsIn ZL mainGlobals x=some (some<|.ref f):=by kernel_rfl):qg P w K mg ah x k (pA s) sp:=let ⟨_,F⟩:=fq f pm l c m;NQ e.X e.G F (ok F S) (hb _ F) (e.k▸a)
def Yq {x:Str}(q:Str){s:Stmt}{k:Nat}{sp:Sp}{C:au}(f:au)(pm:av)(N:az Str)(ok:∀ {fd},oJ K "__init__" q s f fd->gw N (pA s) (fh s)->ij P w K mg ah (xZ P w) k f fd (pA s) sp)(S:gw N (pA s) (fh s):=by exact Ap)(hb:∀ fd,oJ K "__init__" q s f fd->Binds K fd (pA s) []:=by intro _ F;first|exact SQ F|exact RY F|exact SO F|exact SN F|exact SM F)(l:(kk w.params).lookup f=some (Nd "__init__" q s pm<|f - 1):=by kernel_rfl)(c:W.codeIn ZL (.ref<|f - 1) q=true:=by kernel_rfl)(m:W.keepIn ZL aaf=true:=by kernel_rfl)(n:W.nsIn ZL mainGlobals x=some (some<|.ref C):=by kernel_rfl)(a:W.findIn ZL ZY "__init__"=some (some<|.ref f):=by kernel_rfl)(i:W.isFn ZL aaf=true:=by kernel_rfl)(t:W.makesIn ZL C=true:=by kernel_rfl)(p:W.keepIn ZL ZY=true:=by kernel_rfl):Fp P w K mg ah x C k (pA s) sp:=let ⟨_,F⟩:=fq f pm l c m;KY e.X e.G F (ok F S) (hb _ F) (e.k▸n) (e.k▸a) (e.k▸i) (e.k▸t) (e.k▸p)
def ai:R5 K eV:=by obtain⟨rfl,X,G⟩:=e;exact⟨⟨by kernel_rfl,by kernel_rfl,by kernel_rfl,by kernel_rfl⟩,by kernel_rfl,by kernel_rfl,by kernel_rfl,by kernel_rfl⟩
def eY:VC K fe:=by obtain⟨rfl,X,G⟩:=e;exact⟨⟨by kernel_rfl,by kernel_rfl,by kernel_rfl,by kernel_rfl⟩,by kernel_rfl,by kernel_rfl,by kernel_rfl⟩
def Lj:OwnCls "NoTake" E4 zE "ValueError.__new__" mg ah:=oq
def Lm:OwnCls "BadBar" E7 zE "ValueError.__new__" mg ah:=oq
def GW:OwnCls "BadName" vT zE "ValueError.__new__" mg ah:=oq
def N3:OwnCls "Taken" K0 zE "ValueError.__new__" mg ah:=oq
def Sb:OwnCls "Full" Pa zE "ValueError.__new__" mg ah:=oq
def Ln:OwnCls "BadAge" E8 zE "ValueError.__new__" mg ah:=oq
def C6:OwnCls "BadPlace" xO zE "ValueError.__new__" mg ah:=oq
def xW:OwnCls "BadBars" Bi zE "ValueError.__new__" mg ah:=oq
def Sa:OwnCls "Shut" O9 zE "ValueError.__new__" mg ah:=oq
def Ll:OwnCls "Joined" E6 zE "ValueError.__new__" mg ah:=oq
def Lk:OwnCls "Needed" E5 zE "ValueError.__new__" mg ah:=oq
def GV:OwnCls "BadSize" Bh zE "ValueError.__new__" mg ah:=oq
def pK:OwnCls "NothingLeft" nc zE "ValueError.__new__" mg ah:=oq
def GX:Lq mg "LONGEST" 40:=⟨807,mq⟩
def vW:Lq mg "MOST_LETTERS" 8:=⟨564,mq⟩
def zo:Lq mg "MOST_TAKES" 20:=⟨566,mq⟩
def Lp:Lq mg "OLDEST" 20:=⟨568,mq⟩
def NZ:Tab P w K mg "DEEDS" [("put",Lc),("join",CZ),("found",zi),("aged",C2),("drop",C1),("free",C0),("shut",CY)]:=by obtain⟨rfl,X,G⟩:=e;exact tab_of (x:= "DEEDS") (d:=398) (n:=7) [("put",744,357),("join",745,364),("found",746,371),("aged",747,378),("drop",748,383),("free",749,390),("shut",750,397)] X G (by kernel_rfl) (by kernel_rfl) Zu
def VJ:mg "put"=some (.ref Lc):=mq
def Sg:mg "join"=some (.ref CZ):=mq
def N4:mg "found"=some (.ref zi):=mq
def Sj:mg "aged"=some (.ref C2):=mq
def Si:mg "drop"=some (.ref C1):=mq
def Sh:mg "free"=some (.ref C0):=mq
def Se:mg "shut"=some (.ref CY):=mq
def Oc:YC K fe:=by obtain⟨rfl,X,G⟩:=e;exact⟨by kernel_rfl,by kernel_rfl,by kernel_rfl,by kernel_rfl⟩
def N5:mg "Room"=some (.ref fe):=mq
def VV:lN P w K mg ah "_law_box" 1 (pA Ow) (BN K):=cq 660 mh ["_law_script"] λF q=>by
 refine F.ok q (λj H Q E h=>?_) (λp A fb s H j Q E hr h=>?_)
 .unfold BN at h;split at h
  .rfl
  .cases h
 .unfold BN at h;split at h
  .rename_i a;obtain⟨ns,hs,k⟩:=h;refine⟨_,(jP<|l5<|Iv<|fv (xk qQ ZO T.list bo<|fv (kh 0) gJ)<|fv gh<|fv gh<|fv gh gJ),_,hs,λl hl=>⟨(zs),λb hb=>?_⟩⟩;have d:l≠b:=fQ (o:=.lst<|ns.map V.int) eZ hb;have g:H b=none:=by rw[fB d.symm]at hb;exact hb
   refine k b l _ ⟨ns,0,0,1,eZ,by rw[fB d];exact eZ,d,by decide,by decide,by decide⟩ g hl λc o e=>?_;rw[fB (fQ e g),fB (fQ e hl)];exact e
  .cases h
def gL:lN P w K mg ah "_law_take" 1 (pA HG) (jg OT):=cq 667 mh ["_law_box_here","_law_many","_law_rest","_law_cell","_law_one","_law_two"] λF R=>by
 refine ij.imp (sp:=t6) (F.ok R (λvs H Q E h=>?_) λtx A fb s H vs Q E hr h=>?_) λvs H Q E h=>Hn h
 .obtain⟨b,n,q,rfl,_⟩:=sF h;rfl
 .obtain⟨b,n,q,rfl,⟨ns,i,r,z,hb,Z,d,hi,hz,Y⟩,hn,L,k⟩:=sF h;refine⟨_,(gI (sU (lT Y4 aaw gh<|ia _)
   (gI (rY (i:=2) R.nd rfl (by first|exact Or.inl rfl|exact Or.inr rfl)<|og Jt (kh 0) gh λ_ _=>rfl)
   (gI (rZ (jH divC (kh 2)<|kh 1)<|va (kh 0) gh setC)
   (jP<|l5<|jH An (kh 2)<|kh 1)))
   lU)
   (gI (rZ (jH An (jH GU (jH mulC aaw gh) gh) gh)<|va (kh 0) gh setC)
   (Mj (sU (lT YU aaw (gn MF ZO T.len eM<|fv aaw gJ)<|ia _)
   (gI (rY (i:=3) R.nd rfl (by first|exact Or.inl rfl|exact Or.inr rfl)<|og Jt aaw aaw λ_ _=>rfl)
   (gI (Mn (kh 0) gh XB gh um setC)
   (gI (sU (lT Y5 (kh 3) (jH powC gh gh)<|ia _)
   (gI (rZ (jH divC (kh 3)<|kh 1)<|va (kh 0) gh setC)
   (jP<|l5<|jH An (kh 3)<|kh 1))
   lU)
   (jP<|rZ (jH An (jH GU aaw<|jH mulC (kh 3) gh) gh)<|va (kh 0) gh setC))))
   lU)
   (gI (rY (i:=4) R.nd rfl (by first|exact Or.inl rfl|exact Or.inr rfl)<|og Jt (kh 0) gh λ_ _=>rfl)
   (gI (rY (i:=5) R.nd rfl (by first|exact Or.inl rfl|exact Or.inr rfl)<|jH An (jH GU (jH mulC (kh 4)<|kh 4)<|jH divC (kh 4) gh) gh)
   (jP<|l5<|jH An (jH An (jH GU (jH mulC (kh 5) gh)<|kh 4) gh)<|kh 1)))))),?_⟩
  have fin:∀(v:Int) (u:Hp) (g y a:Int),OB b H u->u b=some (.lst [.ref q,.int g,.int y,.int a])->0<=g->0<=a->a<2147483647->Q (.int<|v%n) u:=λv u g y a U p O C M =>k _ _ (Int.emod_nonneg _<|by lia) (Int.emod_lt_of_pos _ hn) ⟨ns,g,y,a,p,(U q d).trans Z,d,O,C,M⟩ U
  have B:∀ x:Int,0<=x%2147483647/\x%2147483647<2147483647:=λx=>⟨Int.emod_nonneg _<|by decide,Int.emod_lt_of_pos _<|by decide⟩;refine⟨_,.inl hb,ji (λO=>?_) λO=>?_⟩
  .exact⟨_,.inl hb,⟨hn,L⟩,_,hb,hn,fin _ _ _ _ _ OB.refl.upd eZ hi hz Y⟩
  .refine⟨_,.inl hb,.inr ⟨by decide,by decide⟩,pM,_,hb,?_⟩;have J:∀ o,OB b H (upd H b o):=λo=>OB.refl.upd;refine⟨λI u=>∃(c:aA V) (g y a:Int),I=[some (.ref b),some (.int n),none,c,none,none]/\OB b H u/\u b=some (.lst [.ref q,.int g,.int y,.int a])/\0<=g/\0<=a/\a<2147483647,?_,?_⟩
   .refine⟨_,.inl eZ,_,.inl eZ,_,.inl<|(J _ q d).trans Z,ji (λC=>?_) λC=>?_⟩
    .have h2':i<(ns.length:Int):=by simpa using C
     obtain⟨c,hc⟩:∃ c,ns[i.toNat]?=some c:=⟨ns[i.toNat]' Zs,iO _⟩
     have e:kP abi i=some (.int c):=by have q:=iS (xs:=ns.map V.int) (j:=i.toNat) (v:=.int c) (by rw[mD,hc];rfl);rwa [dW hi]at q
     refine⟨_,.inl eZ,_,.inl eZ,_,.inl<|(J _ q d).trans Z,eT e ⟨_,eZ,by decide,_,eZ,?_⟩⟩
     refine⟨⟨by decide,by decide,by decide⟩,?_⟩
     refine ji (λM=>?_) (λM=>?_)
     .exact⟨⟨hn,L⟩,_,eZ,hn,fin _ _ abe _ _ OB.refl.upd.upd.upd eZ Zs (B _).1 (B _).2⟩
     .refine⟨_,.inl eZ,.inr ⟨by decide,by decide⟩,pM,_,eZ,?_⟩;exact⟨_,i+1,_,_,rfl,OB.refl.upd.upd.upd,eZ,by lia,(B _).1,(B _).2⟩
    .exact⟨_,i,_,_,rfl,OB.refl.upd,eZ,hi,(B _).1,(B _).2⟩
   .rintro I u ⟨c,g,y,a,rfl,U,p,O,C,M⟩;refine⟨_,.inl p,.inl ⟨by lia,by lia⟩,⟨by decide,by decide⟩,pN,.inr ⟨by decide,by decide⟩,pM,hn,?_⟩;exact fin _ _ g _ _ U p O C M
def wg:lN P w K mg ah "ends" 1 (pA BU) (jg UU):=cq 28 MK ["size","cuts"] λF c=>by refine lC F c ⟨_,λhr=>(eX<|fm<|mO (mO (iA false<|a1 eS)<|rB qQ (lS (m:=false)) ZO T.list bo<|a1<|dv 1)<|iA false<|a1<|dv 0),λj d o h hm hl=>?_⟩;obtain⟨n,x,rfl,a,ex,g,kk⟩:=dJ h;refine⟨zs,eT ex ⟨by rw[fI];exact sz (by show 1+a.length<=_;lia),zs,by rw[i8,fI];exact sz (by show 1+a.length+1<=_;lia),?_⟩⟩;rw[AR];exact .keep kk
def Mo (es:az Int):List.zipWith aab (es.map D.int) (L2.cutD (es.map D.int) (some 1) none)=(OE es).map TN:=by
 have e:L2.cutD (es.map D.int) (some 1) none=es.tail.map D.int:=by
  unfold L2.cutD;rw[show(1:Int)=((1:Nat):Int)from rfl,HT.jN,HT.oa,fI];cases es with
  |nil=>rfl
  |cons a es=>rw[aY,cc Zs];simp[br]
 rw[e];unfold OE;have g:∀(d c:az Int),List.zipWith aab (d.map D.int) (c.map D.int)=(d.zip c).map TN:=by
  intro d;induction d with
  |nil=>intro c;simp
  | cons x d j =>
   intro c;cases c with
   |nil=>simp
   |cons y c=>rw[aJ,aJ,cj,j,cZ,aJ];rfl
 exact g es es.tail
def Lu:lN P w K mg ah "pieces" 2 (pA zQ) (jg Nm):=cq 35 MK ["size","cuts","places"] λF d=>by
 refine lC F d ⟨_,λhr=>(ag (qS 2 d.nd<|qC wg hr<|a2 ZM<|dv 1)
  (eX<|fm<|GJ false rfl ZO T.list ZO T.zip<|a2 aaP<|jd false aaP (iD eS) tQ)),λo g p h hm hl=>?_⟩
 obtain⟨n,x,rfl,c,ex,j,kk⟩:=dJ h;refine⟨c,ex,j,?_⟩;show Fz _ _ (.lst<|List.zipWith aab ((ae n c).map D.int)<|L2.cutD ((ae n c).map D.int) (some 1) none) g;rw[Mo];exact .keep kk
def Ly:lN P w K mg ah "bar_of" 3 (pA zV) (jg Rw):=cq 45 MK ["size","cuts","takes","first","behind"] λF o=>by
 refine lC F o ⟨_,λhr=>(ag (lF bF rfl (ib<|qC Lu hr<|a2 ZM<|dv 1) (nK 2<|hV (qT 3 o.nd)<|hV (qT 4 o.nd) nM)
  (eX (gQ (hG<|kj (NX rfl) yf ZO T.all dD<|a1<|tX false (pJ (N:=["text","age","first","behind"]) (js:=[none,none,some 3,some 4]) o<|by decide +kernel) (ib<|dv 2) ZD ZR λ_ _ _=>(xG Xf HA fJ (jd false ZM (iD<|dv 2)<|iD<|dv 3)<|by with_unfolding_all rfl))
  (eX<|fm<|gN<|a2 aar<|dv 4)
  gu)))
  (eX<|fm tq)),λC H Q h hm hl=>?_⟩
 obtain⟨n,x,y,rfl,E,ts,ex,B,J,ht,hn,kk⟩:=dJ h;refine⟨E,ex,J,gR (λC q g=>∃(c:az (Int×Int)) (a b:aA D),C=c.map TN/\jI (ae n E) ts=c.find? (bad ts)/\q=[some (.int n),some x,some y,a,b]/\g=H) ⟨_,none,none,rfl,rfl,rfl,rfl⟩ ?_ ?_⟩
 .rintro d M q g ⟨c,a,b,e,j,rfl,rfl⟩;refine⟨trivial,λnx u=>?_⟩;cases c with
  |nil=>cases e
  | cons p c =>
   cases e;refine⟨rfl,eT B ⟨by rw[fI];exact sz (by have:=ht.iu;lia),hX (vo B) (λd=>match d with|.tup [.str z,_]=>some (.bl<|decide (120∈ig z.cps.toList (some p.1) (some p.2)))|_=>none) (λd hd R I=>?_) ?_⟩⟩
   .obtain⟨t,r,rfl⟩:=List.mem_map.mp hd;have O:=ht.ok t r;refine⟨rfl,by rw[i9];exact sz<|by lia,120,rfl,?_⟩;rw[OP];exact I
   .refine⟨ts.map λt=>decide (120∈wH t.1 p.1 p.2),?_,?_⟩
    .show some _=_;rw[eG,aQ];congr 1;rw[<- cz];rfl
    .have L:(ts.map λt=>decide (120∈wH t.1 p.1 p.2)).all id=bad ts p:=by unfold bad;rw[List.all_map];rfl
     rw[bR,<- L]at j
     refine QW (b:=(ts.map λt=>decide (120∈wH t.1 p.1 p.2)).all id) (λhb=>?_) (λhb=>?_)
     .refine⟨zs,.keep ?_⟩;rw[hb]at j;rw[j]at kk;exact kk
     .rw[hb]at j;exact u _ _ ⟨c,_,_,rfl,j,rfl,rfl⟩
 .rintro q g ⟨c,a,b,e,j,rfl,rfl⟩;cases c with
  | nil =>rw[j]at kk;exact⟨trivial,.keep kk⟩
  |cons p c=>cases e
def L8:gw ["_law_found","_law_due"] (pA s_same) (fh s_same):=Ap
def Ai (n:Nat){f:au}{fd:aq}(F:oJ K "_law_same" "_law_same" s_same f fd)(T:Ws mg)(k7:lN P w K mg ah "_law_same" n ["_law_found","_law_due"] (spS n)):ij P w K mg ah wq (n+1) f fd ["_law_found","_law_due"] (rR n):=by
 refine F.ok L8 (λc H Q E h=>?_) (λtx A fb s H c Q E hr h=>?_)
 .unfold rR at h;split at h
  .rfl
  .cases h
 .unfold rR at h;split at h
  .rename_i x y;obtain⟨d,hd,M,J,I,k⟩:=h;refine⟨_,(gI (sU (PW.pt<|pw_or (qK<|gn qZ ZO T.isinstance a6<|fv (kh 1)<|fv aba gJ)<|pw_or1<|qK<|gn qZ ZO T.isinstance a6<|fv (kh 0)<|fv aba gJ)
   (jP<|l5<|ug (gn qZ ZO T.isinstance a6<|fv (kh 1)<|fv aba gJ)<|ug (gn qZ ZO T.isinstance a6<|fv (kh 0)<|fv aba gJ)<|B6<|uf Y8 (kh 0) (kh 1)<|ia _)
   lU)
   (gI (sU (PW.pt<|pw_or (qK<|gn qZ ZO T.isinstance a6<|fv (kh 1)<|fv (iP (v:=.ty "list") rfl T.list bo rfl) gJ)<|pw_or1<|qK<|gn qZ ZO T.isinstance a6<|fv (kh 1)<|fv (iP (v:=.ty "tuple") rfl T.tuple eI rfl) gJ)
   (gI (sU (PW.pt<|pw_or (lT Bz (gn qZ ZO T.isinstance a6<|fv (kh 1)<|fv (iP (v:=.ty "list") rfl T.list bo rfl) gJ) (gn qZ ZO T.isinstance a6<|fv (kh 0)<|fv (iP (v:=.ty "list") rfl T.list bo rfl) gJ)<|ia _)<|pw_or1<|lT Bz (gn qZ ZO T.isinstance a6<|fv (kh 1)<|fv (iP (v:=.ty "tuple") rfl T.tuple eI rfl) gJ) (gn qZ ZO T.isinstance a6<|fv (kh 0)<|fv (iP (v:=.ty "tuple") rfl T.tuple eI rfl) gJ)<|ia _)
   (jP<|l5 ID)
   lU)
   (jP<|l5<|ug (uf UW (gn MF ZO T.len eM<|fv (kh 0) gJ) (gn MF ZO T.len eM<|fv (kh 1) gJ)<|ia _)<|B6<|gn (NX rfl) ZO T.all dD<|fv (D8 (CQ (XN:=["_law_found","_law_due"]) (xsc:=(fh s_same)) (N:=["_law_one","_law_other"]) (js:=[none,none])<|by decide +kernel) rfl (Ip rfl T.zip<|fv (kh 0)<|fv (kh 1) gJ) (λ_ _ _=>(ud (n:=2) rfl (kl (ue (i:=0) (show List.Nodup (["_law_one","_law_other"]:az Str) by decide +kernel) rfl (by first|exact Or.inl rfl|exact Or.inr rfl))<|kl (ue (i:=1) (show List.Nodup (["_law_one","_law_other"]:az Str) by decide +kernel) rfl (by first|exact Or.inl rfl|exact Or.inr rfl)) qM))) (λ_ _ _=>D1) λ_ _ _=>(vc k7 (hr.mono<|by first|decide|exact aB _|lia) rfl (fv (kh 0)<|fv (kh 1) gJ))) gJ))
   lU)
   (gI (sU (PW.pt<|pw_or (lT Bz (gn qZ ZO T.isinstance a6<|fv (kh 1)<|fv (iP (v:=.ty "str") rfl T.str PyProof.Rows.boot_str rfl) gJ) (gn qZ ZO T.isinstance a6<|fv (kh 0)<|fv (iP (v:=.ty "str") rfl T.str PyProof.Rows.boot_str rfl) gJ)<|ia _)<|pw_or1<|lT Bz (gn qZ ZO T.isinstance a6<|fv (kh 1)<|fv (iP (v:=.ty "int") rfl T.int PyProof.Rows.boot_int rfl) gJ) (gn qZ ZO T.isinstance a6<|fv (kh 0)<|fv (iP (v:=.ty "int") rfl T.int PyProof.Rows.boot_int rfl) gJ)<|ia _)
   (jP<|l5 ID)
   lU)
   (jP<|l5<|uf Y8 (kh 0) (kh 1)<|ia _)))),?_⟩
   cases d with
   | bl b =>obtain rfl:x=.bl b:=J;obtain rfl:y=.bl b:=I;refine⟨_,true,jl.bl b,iq K _,_,true,jl.bl b,iq K _,_,true,jl.bl b,iq K _,?_⟩;show Q (.bl<|decide (b=b)) H;rw[aH rfl];exact k H (gm.refl H)
   | int i =>obtain rfl:x=.int i:=J;obtain rfl:y=.int i:=I;refine⟨_,false,.int i,rfl,_,false,.int i,rfl,_,false,.int i,rfl,_,false,.int i,rfl,_,false,.int i,rfl,_,false,.int i,rfl,_,true,.int i,iq K _,_,true,.int i,iq K _,?_⟩;show Q (.bl<|decide (i=i)) H;rw[aH rfl];exact k H (gm.refl H)
   | str z =>obtain rfl:x=.str z:=J;obtain rfl:y=.str z:=I;refine⟨_,false,.str z,rfl,_,false,.str z,rfl,_,false,.str z,rfl,_,false,.str z,rfl,_,true,.str z,iq K _,_,true,.str z,iq K _,_,false,.str z,rfl,_,false,.str z,rfl,?_⟩;show Q (.bl<|decide (z=z)) H;rw[aH rfl];exact k H (gm.refl H)
   | fX =>obtain rfl:x=.fX:=J;obtain rfl:y=.fX:=I;exact⟨_,false,.fX,rfl,_,false,.fX,rfl,_,false,.fX,rfl,_,false,.fX,rfl,_,false,.fX,rfl,_,false,.fX,rfl,_,false,.fX,rfl,_,false,.fX,rfl,k H<|gm.refl H⟩
   | lst ds =>
    obtain⟨p,c,rfl,g,r⟩:=J;obtain⟨q,U,rfl,a,qq⟩:=I;obtain⟨m,rfl⟩:∃ m,n=m+1:=⟨n - 1,by unfold dep at hd;lia⟩;have B:wD ds<=m:=by unfold dep at hd;lia
    have Z:ds.length<sizeLine:=by unfold Lz at M;lia
    have u:wu ds<sizeLine:=by unfold Lz at M;lia
    have len:c.length=U.length:=by rw[r.len,qq.len]
    refine⟨_,false,jl.lst a,rfl,_,false,jl.lst g,rfl,_,true,jl.lst a,iq K _,_,true,jl.lst a,iq K _,_,true,jl.lst g,iq K _,_,false,jl.lst a,rfl,_,false,jl.lst g,rfl,_,.inl g,_,.inl a,Jv (λ_=>?_) λh=>(h<|by rw[len]).elim⟩;refine⟨false,_,_,g,a,EY len (λi o j=>o=List.replicate i (V.bl true)/\gm H j) ⟨rfl,gm.refl H⟩ (λi o j h=>⟨h.2 _ _ g,h.2 _ _ a⟩) ?_ ?_⟩
    .rintro i R O o j T' hi ex ey ⟨rfl,S⟩ hT;refine⟨_,eZ,rfl,Ext.TX,?_⟩;obtain⟨d1,e1,Y⟩:=r.get ex;obtain⟨d2,L,i2⟩:=qq.get ey;rw[e1]at L;cases L;have C:gm H (upd j T'<|.tup [R,O]):=S.trans<|gm.upd hT;exact⟨d1,aT (vM e1) B,cx (uD e1) u,Y.mono C _ _,i2.mono C _ _,λH3 S3=>Zf hi (by rw[bC];have:=r.len;lia) ⟨by rw[List.replicate_succ'],C.trans S3⟩⟩
    .rintro o j ⟨rfl,S⟩ D hD;refine⟨List.replicate c.length true,by rw[eZ,List.map_replicate],?_⟩;have e:(List.replicate c.length true).all id=true:=by rw[cY];intro b hb;rw[(List.mem_replicate.mp hb).2];rfl
     show Q (.bl<|(List.replicate c.length true).all id) (upd j D<|.lst<|List.replicate c.length<|V.bl true);rw[e];exact k _ (S.trans<|gm.upd hD)
   | tup ds =>
    obtain⟨p,c,rfl,g,r⟩:=J;obtain⟨q,U,rfl,a,qq⟩:=I;obtain⟨m,rfl⟩:∃ m,n=m+1:=⟨n - 1,by unfold dep at hd;lia⟩;have B:wD ds<=m:=by unfold dep at hd;lia
    have Z:ds.length<sizeLine:=by unfold Lz at M;lia
    have u:wu ds<sizeLine:=by unfold Lz at M;lia
    have len:c.length=U.length:=by rw[r.len,qq.len]
    refine⟨_,false,jl.tup a,rfl,_,false,jl.tup g,rfl,_,false,jl.tup a,rfl,_,true,jl.tup a,iq K _,_,false,jl.tup a,rfl,_,false,jl.tup g,rfl,_,true,jl.tup a,iq K _,_,true,jl.tup g,iq K _,_,.inr g,_,.inr a,Jv (λ_=>?_) λh=>(h<|by rw[len]).elim⟩;refine⟨true,_,_,g,a,EY len (λi o j=>o=List.replicate i (V.bl true)/\gm H j) ⟨rfl,gm.refl H⟩ (λi o j h=>⟨h.2 _ _ g,h.2 _ _ a⟩) ?_ ?_⟩
    .rintro i R O o j T' hi ex ey ⟨rfl,S⟩ hT;refine⟨_,eZ,rfl,Ext.TX,?_⟩;obtain⟨d1,e1,Y⟩:=r.get ex;obtain⟨d2,L,i2⟩:=qq.get ey;rw[e1]at L;cases L;have C:gm H (upd j T'<|.tup [R,O]):=S.trans<|gm.upd hT;exact⟨d1,aT (vM e1) B,cx (uD e1) u,Y.mono C _ _,i2.mono C _ _,λH3 S3=>Zf hi (by rw[bC];have:=r.len;lia) ⟨by rw[List.replicate_succ'],C.trans S3⟩⟩
    .rintro o j ⟨rfl,S⟩ D hD;refine⟨List.replicate c.length true,by rw[eZ,List.map_replicate],?_⟩;have e:(List.replicate c.length true).all id=true:=by rw[cY];intro b hb;rw[(List.mem_replicate.mp hb).2];rfl
     show Q (.bl<|(List.replicate c.length true).all id) (upd j D<|.lst<|List.replicate c.length<|V.bl true);rw[e];exact k _ (S.trans<|gm.upd hD)
  .cases h
theorem Ed {f:au}{fd:aq}(F:oJ K "_law_same" "_law_same" s_same f fd)(T:Ws mg)(hm:mg "_law_same"=some aaf)(hk:W.keepIn K aaf=true)(hb:Binds K fd ["_law_found","_law_due"] []):∀ n,ij P w K mg ah wq (n+1) f fd ["_law_found","_law_due"] (rR n)
 |0=>Ai 0 F T ⟨f,fd,⟨λ_ _ _ _ h=>h.elim,λ_ _ _ _ _ _ _ _ _ _ _ _ _ h=>h.elim⟩,hm,hk,hb⟩
 |n+1=>Ai (n+1) F T ⟨f,fd,Ed F T hm hk hb n,hm,hk,hb⟩
def k7:lN P w K mg ah "_law_same" 6 (pA s_same) (jg OU):=cq 745 mh ["_law_found","_law_due"] λF _=>(Ed F T  mq F.kp (RY F)  5).imp λa H Q E h=>HE h
def VU:lN P w K mg ah "ends" 1 (pA BU) (jg Rq):=cq 28 MK ["size","cuts"] λF c=>by refine lC F c ⟨_,λhr=>(eX<|fm<|wF GU (HC (m:=true)) (mO (iA false<|a1 eS)<|rB qQ (lS (m:=false)) ZO T.list bo<|a1<|dv 1)<|iA false<|a1<|dv 0),λj d o h hm hl=>?_⟩;obtain⟨n,x,rfl,a,ex,g,kk⟩:=dJ h;refine⟨zs,eT ex ⟨by rw[fI];exact sz (by show 1+a.length<=_;lia),zs,by rw[i8,fI];exact sz (by show 1+a.length+1<=_;lia),?_⟩⟩;rw[AR];exact .keep kk
def Df:lN P w K mg ah "farthest" 2 (pA uY) (jg Gz):=cq 40 MK ["size","cuts","text","end","spoilt","clean_to"] λF u=>by
 refine lC F u ⟨_,λhr=>(ag (qS 4 u.nd<|vO cU PySem.F.slot_str_find PySem.F.type_str_find UL L0 aaP<|a2 fJ<|dv 3)
  (ag (qS 5 u.nd<|y3 (G2 (dv 4) eS) ZM<|dv 4)
  (eX<|fm<|kj (MB rfl) t9 ZO T.max b9<|a1<|mO (iA false<|a1<|dv 3)<|tX false (pJ (N:=["place","clean_to"]) (js:=[none,some 5]) u<|by decide +kernel) (ib<|qC wg hr<|a2 ZM<|dv 1) ZC (λ_ _ _=>(mQ<|Mg ZM<|dv 1)) λ_ _ _=>ZM))),λZ U Kd h hm hl=>?_⟩
 obtain⟨n,x,z,e,rfl,j,ex,O,hn,J,E,H,Y,c,kk⟩:=dJ h;have len:(z.cps.toList.length:Int)=n:=by rw[<- hn];simp[Str.length]
 refine⟨rfl,120,rfl,H,by lia,λr hr=>?_⟩;obtain⟨q1,q2⟩:=hr.cl E Zs;have M:(ae n j).length=j.length+2:=gO n j;refine ji (λo=>?_) (λo=>?_);all_goals
  refine⟨zs,j,ex,O,by rw[fI];exact sz<|by lia,?_⟩
 .have ct:=q1 o;refine hX trivial (qW λi=>decide (i<=n)) (λd hd R p=>?_) ?_
  .obtain⟨i,L,rfl⟩:=List.mem_map.mp hd;refine ji (λg=>?_) (λg=>?_)
   .exact yI (aH g) p
   .exact uk (by simp[g]) p
  .rw[vF];have Q:=bN (λi=>decide (i<=n))<|ae n j;refine⟨by rw[fI];exact sz (by show 1+_<=_;lia),e::(ae n j).filter λi=>decide (i<=n),rfl,by simp,λm a b=>.keep ?_⟩;rw[Cy E H Zs c (m:=m) ⟨_,ct,?_,?_,?_⟩]
   .exact kk
   .rcases List.mem_cons.mp a with q | q
    .rw[q];exact c
    .exact(List.mem_filter.mp q).1
   .rcases List.mem_cons.mp a with q | q
    .lia
    .have:=bJ (List.mem_filter.mp q).2;lia
   .exact λy C B=>b y (jJ _<|List.mem_filter.mpr ⟨C,aH<|by lia⟩)
 .obtain⟨ct,I⟩:=q2 o;refine hX trivial (qW λi=>decide (i<=r)) (λd hd R p=>?_) ?_
  .obtain⟨i,L,rfl⟩:=List.mem_map.mp hd;refine ji (λg=>?_) (λg=>?_)
   .exact yI (aH g) p
   .exact uk (by simp[g]) p
  .rw[vF];have Q:=bN (λi=>decide (i<=r))<|ae n j;refine⟨by rw[fI];exact sz (by show 1+_<=_;lia),e::(ae n j).filter λi=>decide (i<=r),rfl,by simp,λm a b=>.keep ?_⟩;rw[Cy E H Zs c (m:=m) ⟨_,ct,?_,?_,?_⟩]
   .exact kk
   .rcases List.mem_cons.mp a with q | q
    .rw[q];exact c
    .exact(List.mem_filter.mp q).1
   .rcases List.mem_cons.mp a with q | q
    .have:=ct.1;lia
    .have:=bJ (List.mem_filter.mp q).2;lia
   .exact λy C B=>b y (jJ _<|List.mem_filter.mpr ⟨C,aH<|by lia⟩)
def tG:lN P w K mg ah "take_rows" 3 (pA n6) (jg Gy):=cq 231 LF ["size","cuts","takes","places"] λF j=>by
 refine lC F j ⟨_,λhr=>(ag (qS 3 j.nd<|qC wg hr<|a2 ZM<|dv 1)
  (eX<|fm<|tX false (pJ (N:=["text","age","places","size","cuts"]) (js:=[none,none,some 3,some 0,some 1]) j<|by decide +kernel) (ib<|dv 2) ZD ZR λ_ _ _=>(gN<|a2 ZJ<|tX false (uv (xsc:=(fh n6)) (N:=["end","size","cuts","text"]) (js:=[none,some 3,some 4,some 0]) rfl (by decide +kernel)) (ib<|dv 2) ZC ZR λ_ _ _=>(qC Df hr<|eW ZJ<|eW aaP<|eW aar<|eW ZM gg)))),λH C I h hm hl=>?_⟩
 obtain⟨n,x,y,rfl,a,ts,ex,q,S,kk⟩:=dJ h;have u:(ae n a).length=a.length+2:=gO n a;have iu:=S.iu;have E:=S.takes.iu;refine⟨a,ex,S.iu,eT q ⟨by rw[fI];exact sz<|by lia,hX (vo q) (MC<|qH<|ae n a) (λd hd J r=>?_) ?_⟩⟩
 .obtain⟨t,ht,rfl⟩:=List.mem_map.mp hd;have o:=S.takes.ok t ht;refine⟨rfl,by rw[fI];exact sz<|by lia,?_⟩;refine hX trivial (Ug λe=>.int<|iT (ae n a) t.1 e) (λd hd B g=>?_) ?_
  .obtain⟨e,p,rfl⟩:=List.mem_map.mp hd;have c:=iQ S.n1 S.j3 p;exact⟨a,ex,S.iu,by rw[i9];exact o.1,S.n2,by rw[qj];exact o.2.1,c.1,c.2,p,by rw[qj];exact g⟩
  .refine⟨zs,?_⟩;rw[Ng,show(ae n a).map (λe=>D.int<|iT (ae n a) t.1 e)=(zW (ae n a) t).map D.int by unfold zW;rw[aQ];rfl];exact r
 .refine .keep ?_;rw[yP];exact kk
def tI:lN P w K mg ah "clean_row" 1 (pA sH) (jg GA):=cq 236 LF ["places","rows","age","told","take_age","row"] λF C=>by
 refine lC F C ⟨_,λhr=>(ag (qS 3 C.nd<|rB qQ (lS (m:=false)) ZO T.list bo<|a1<|dv 0)
  (ag (lF bF rfl (ib<|dv 1) (nK 2<|hV (qT 4 C.nd)<|hV (qT 5 C.nd) nM)
  (eX (gQ (Mg (dv 4)<|dv 2)
  (eX<|Ma 3 false C.nd (pJ (N:=["far","other"]) (js:=[none,none]) C<|by decide +kernel) (Jz rfl T.zip<|a2 aar<|dv 5) ZD ZR λ_ _ _=>(kj (Jc rfl) uK ZO T.max b9<|a2 ZM<|dv 1))
  gu)))
  (eX<|fm<|dv 3))),λL M Kd h hm hl=>?_⟩
 obtain⟨x,r,a,rfl,j,ts,ex,rfl,J,Q,kk⟩:=dJ h;refine eT ex (gR (λL I B=>∃(c:az Tk) (y:az Int) (u v:aA D),L=c.map (qH j)/\c.foldl (p8 j a) y=ip j ts a/\y.length<=2000/\I=[some x,some (.lst<|ts.map<|qH j),some (.int a),some (.lst<|y.map D.int),u,v]/\B=M) ⟨ts,j,none,none,rfl,KQ j ts a,J,rfl,rfl⟩ ?_ ?_)
 .rintro d R I B ⟨c,y,u,v,e,o,H,rfl,rfl⟩;refine⟨trivial,λnx E=>?_⟩;cases c with
  |nil=>cases e
  | cons t c =>
   cases e;refine⟨rfl,?_⟩;rw[cO]at o;refine ji (λg=>?_) (λg=>?_)
   .unfold p8 at o;rw[aF g]at o;have U:(zW j t).length=j.length:=by unfold zW;rw[fI]
    refine⟨by rw[bO,fI,fI];exact sz<|by lia,hX ⟨trivial,trivial⟩ (Cf λa b=>.int<|max a b) (λd hd K' O=>?_) ?_⟩
    .obtain⟨p,Z,q,Y,rfl⟩:=Dl hd;exact⟨rfl,O⟩
    .rw[Ew,<- BB D.int max];exact E _ _ ⟨c,List.zipWith max y<|zW j t,_,_,rfl,o,by rw[bO];lia,rfl,rfl⟩
   .unfold p8 at o;rw[aD g]at o;exact E _ _ ⟨c,y,_,_,rfl,o,H,rfl,rfl⟩
 .rintro I B ⟨c,y,u,v,e,o,H,rfl,rfl⟩;cases c with
  | nil =>refine⟨trivial,.keep ?_⟩;rw[show ip j ts a=y from o.symm]at kk;exact kk
  |cons t c=>cases e
def rK:lN P w K mg ah "next_reach" 2 (pA qw) (jg Rl):=cq 241 LF ["places","rows","before","age","where","clean"] λF o=>by
 refine lC F o ⟨_,λhr=>(ag (qS 4 o.nd<|NG (pJ (N:=["at","end"]) (js:=[none,none]) o<|by decide +kernel) rfl (BO<|qv (qu 0) (jR 0) (qv (qu 1) (jR 1) BP pU)<|mY (jR 1) pU) (Cd<|mY (jR 0)<|mY (jR 1) pU) rfl (Eo rfl T.enumerate<|a1<|dv 0) (λ_ _ _=>(ud (n:=2) rfl (kl (qN 0<|show List.Nodup (["at","end"]:az Str) by decide +kernel)<|kl (qN 1<|show List.Nodup (["at","end"]:az Str) by decide +kernel) qM))) ZR (λ_ _ _=>ZJ) λ_ _ _=>ZM)
  (ag (qS 5 o.nd<|qC tI hr<|a3 ZM ZJ<|dv 3)
  (eX<|fm<|tX true (pJ (N:=["far","middle","before","where"]) (js:=[none,none,some 2,some 4]) o<|by decide +kernel) (Jz rfl T.zip<|a2 (dv 5)<|dv 2) ZD ZR λ_ _ _=>(kj (Jc rfl) uK ZO T.max b9<|a2 ZM<|fZ aaP<|O3 aax aar ZJ λ_ _=>rfl)))),λO J Q h hm hl=>?_⟩
 obtain⟨x,r,y,a,rfl,c,ts,g,ex,rfl,B,q,nd,C,ok,kk⟩:=dJ h;have L:=ok.len;refine eT ex ⟨by rw[oR,fI];exact sz<|by lia,?_⟩;rw[Ke];refine zD (λm=>vo<|Cj ex) (λi e E I p=>⟨rfl,p⟩) c 0 [] nd (λ_ h=>nomatch h) ⟨c,ts,ex,rfl,B,q,eT C ⟨by rw[bO,fI,fI];exact sz<|by lia,hX ⟨trivial,vo C⟩ (Cf λf m=>.int<|max f<|rowAt c g m) (λd hd I p=>?_) ?_⟩⟩
 .obtain⟨f,M,m,u,rfl⟩:=Dl hd;refine⟨rfl,?_⟩;have j:=ok.mem m u;have e1:kW (((pL 0 c).map Zx).zip ((pL 0 c).map ZI)) (kI m)=some (.int (c.idxOf m:Nat)):=by rw[zip_parts,wO j,Nat.zero_add]
  have H:kP (g.map D.int) ((c.idxOf m:Nat):Int)=some (.int<|rowAt c g m):=lA<|u5 ok j;exact eT e1 (RM C H p)
 .rw[Ew,show List.zipWith (λf m=>D.int<|max f<|rowAt c g m) (ip c ts a) g=(lW c ts g a).map D.int from(BB D.int (λf m=>max f<|rowAt c g m) _ _).symm];exact .keep kk
def vZ:lN P w K mg ah "youngest" 1 (pA uV) (jg Gx):=cq 226 LF ["takes"] λF g=>by
 refine lC F g ⟨_,λhr=>(eX<|fm<|RC rfl ZO T.min (tX false (pJ (N:=["text","age"]) (js:=[none,none]) g<|by decide +kernel) (ib<|dv 0) ZD ZR λ_ _ _=>ZJ) eS),λq p r h hm hl=>?_⟩;obtain⟨y,rfl,ts,c,o,kk⟩:=dJ h;refine eT c ⟨by rw[fI];exact sz<|by lia,hX (vo c) (MC λt=>.int t.2) (λd hd u j=>?_) ?_⟩
 .obtain⟨t,ht,rfl⟩:=List.mem_map.mp hd;exact⟨rfl,j⟩
 .rw[yP];refine⟨ts.map ZI,by unfold lv;rw[aQ];rfl,?_⟩;split
  .rename_i e;refine .keep ?_;have:jB ts=0:=by unfold jB;rw[e]
   rw[this]at kk;exact kk
  .exact λm a b=>.keep (by rw[Hf a b];exact kk)
def VT:lN P w K mg ah "_law_far" 1 (pA Ov) (jg XM):=cq 725 mh ["_law_border","_law_text","_law_end","_law_at"] λF x=>by
 refine lC F x ⟨_,λhr=>(ag (qS 3 x.nd<|dv 2)
  (ag (ua bF (PW.pt<|ml (G2 aar<|tr T<|dv 1)<|kR<|yw (fZ ZJ<|dv 3) fJ)
  (eX<|HP (i:=3) x.nd rfl lo eS um BQ))
  (eX<|fm<|kj (MB rfl) t9 ZO T.max b9<|a1<|tX false (pJ (N:=["_law_one","_law_end","_law_at"]) (js:=[none,some 2,some 3]) x<|by decide +kernel) (ib<|dv 0) ZC (λ_ _ _=>(mQ<|PW.pt<|ml (Mg ZJ<|dv 0)<|kR<|Mg ZM<|dv 2)) λ_ _ _=>ZM))),λds Q Kd h hm hl=>?_⟩
 obtain⟨b,z,e,rfl,H,rfl,Y,hz,L,O,h1,M,kk⟩:=dJ h;have len:z.cps.toList.length=z.length:=by simp[Str.length]
 have ct:=sy L (e:=e.toNat) Zs;refine⟨λm I g=>∃ at_:Nat,m=qa z.cps.toList e.toNat - at_/\e.toNat<=at_/\at_<=qa z.cps.toList e.toNat/\I=[some (.lst<|H.map D.int),some (.str z),some (.int e),some (.int (at_:Int))]/\g=Q,⟨_,e.toNat,rfl,aB _,ct.1,by rw[dW O];rfl,rfl⟩,?_⟩;rintro m I g ⟨at_,rfl,Z,g2,rfl,rfl⟩;have r:∀ K:Bool->MS->Prop,K (decide (at_<qa z.cps.toList e.toNat)) g->EM (mI<|tV (tW λi j=>D.bl<|decide (i<j)) (wG 3)<|vQ Nr<|rD (wG 1) A8)
  (mI<|tV (KD false) (tV Vh (wG 1)<|wG 3)<|dC<|D.str<|Str.ofString "o")
  [some (D.lst<|List.map D.int H),some (D.str z),some (D.int e),some (D.int ↑at_)] g K:=by
  intro K k;refine⟨sz<|by lia,ji (c:=(at_:Int)<(z.length:Nat)) (λo=>?_) λo=>?_⟩
  .have E:at_<z.cps.toList.length:=by lia
   have ga:z.cps.toList[at_]?=some (z.cps.toList[at_]):=iO E
   have ea:kP z.cps.toList (at_:Int)=some (z.cps.toList[at_]):=iS ga
   refine⟨sz<|by lia,eT ea ?_⟩
   by_cases q:at_<qa z.cps.toList e.toNat
   .have:=ct.2.2.1 at_ Z q;rw[ga]at this;rw[a5 this];rw[aH q]at k;exact k
   .have p:qa z.cps.toList e.toNat=at_:=by lia
    have:=ct.2.2.2
    rw[p,ga]at this
    rcases this with J|J
    .lia
    .rw[a5 J];rw[aO q]at k;exact k
  .rw[aO (by have:=ct.2.1;lia)]at k;exact k
 refine r _ (ji (λo=>?_) λo=>?_)
 .exact⟨_,by lia,at_+1,rfl,by lia,by lia,rfl,rfl⟩
 .refine⟨by rw[fI];exact sz<|by lia,hX trivial (qW λi=>decide (e<=i)&&decide (i<=(at_:Int))) (λd hd K' C=>?_) ?_⟩
  .obtain⟨i,hi,rfl⟩:=List.mem_map.mp hd;refine ji (c:=e<=i) (λp1=>?_) (λp1=>?_)
   .refine ji (c:=i<=(at_:Int)) (λB=>?_) (λB=>?_)
    .exact yI (by simp[p1,B]) C
    .exact uk (by simp[B]) C
   .exact uk (by simp[p1]) C
  .rw[vF];have u:e∈H.filter λi=>decide (e<=i)&&decide (i<=(at_:Int)):=List.mem_filter.mpr ⟨M,by simp;lia⟩;refine⟨_,rfl,(λq=>by rw[q]at u;cases u),λm a b=>.keep ?_⟩;have p:qa z.cps.toList e.toNat=at_:=by lia
   rw[p]at ct;obtain⟨a1,a2⟩:=List.mem_filter.mp a;simp only[bM,cu]at a2;rw[Cy L O Zs M (m:=m) ⟨_,ct,a1,a2.2,λy U R=>?_⟩]
   .exact kk
   .by_cases q:e<=y
    .exact b y (List.mem_filter.mpr ⟨U,by simp;lia⟩)
    .lia
def VS:lN P w K mg ah "_law_own" 2 (pA Ou) (jg XH):=cq 730 mh ["_law_border","_law_takes_here","_law_age","_law_row","_law_end"] λF u=>by
 refine lC F u ⟨_,λhr=>(ag (qS 3 u.nd<|iA true gg)
  (ag (lF bF rfl (ib<|dv 0) (qT 4 u.nd)
  (eX<|gD<|vO bX cC cA oV lB aar<|a1<|kj (MB rfl) t9 ZO T.max b9<|a1<|mO (iA false<|a1<|dv 4)<|tX false (pJ (N:=["_law_text","_law_old","_law_border","_law_end","_law_age"]) (js:=[none,none,some 0,some 4,some 2]) u<|by decide +kernel) (ib<|dv 1) ZD (λ_ _ _=>(mQ<|Mg ZJ<|dv 4)) λ_ _ _=>(qC VT hr<|a3 aaP ZM<|dv 3)))
  (eX<|fm<|dv 3))),λL H Kd h hm hl=>?_⟩
 obtain⟨b,y,a,rfl,n,r,ts,rfl,J,S,kk⟩:=dJ h;have iu:=S.iu;have ft:=S.takes.iu;have E:(ae n r).length=r.length+2:=gO n r;have o:∀ x∈ae n r,0<=x/\x<=n:=λx Q=>iQ S.n1 S.j3 Q;obtain⟨c,R⟩:∃ c,c=ae n r:=⟨_,rfl⟩;rw[<- R]at kk E o ⊢
 refine⟨zs,gR (λL B j=>∃(i:Nat) (v:aA D),L=(c.drop i).map D.int/\B=[some (.lst<|c.map D.int),some y,some (.int a),some (.mr H.length),v]/\j=H++[.lst (((c.take i).map<|jc c ts a).map D.int)]) ⟨0,none,rfl,rfl,rfl⟩ ?_ ?_⟩
 .rintro d G5 B j ⟨i,v,e,rfl,rfl⟩;refine⟨trivial,λnx C=>?_⟩;have p:i<c.length:=by
   by_cases q:i<c.length
   .exact q
   .rw[bI Zs]at e;cases e
  rw[bY p]at e;cases e;have g:c[i]∈c:=bQ p;have U:=o _ g;refine⟨mZ jS,zs,eT (Cj J) ⟨by rw[fI];exact sz<|by lia,hX (vo<|Cj J) (Ax (λt=>decide (t.2<=a)) λt=>.int<|iT c t.1 c[i]) (λd hd K' I=>?_) ?_⟩⟩
  .obtain⟨t,ht,rfl⟩:=List.mem_map.mp hd;have O:=S.takes.ok t ht;refine⟨rfl,ji (λq=>?_) λq=>MJ (by simp[q]) I⟩;have n2:=S.n2;exact⟨c,rfl,by lia,by rw[i9];lia,by rw[qj];exact O.2.1,U.1,by rw[i9];lia,g,by rw[qj];exact MI (by simp[q]) I⟩
  .rw[vE];have fl:=bN (λt:Tk=>decide (t.2<=a)) ts;refine⟨by rw[fI];exact sz (by show 1+_<=_;lia),c[i]::(ts.filter λt=>decide (t.2<=a)).map λt=>iT c t.1 c[i],(by show some (D.int c[i]::_)=_;rw[aJ,aQ];rfl),by simp,λm p1 M=>?_⟩;have Z:m=jc c ts a c[i]:=by rw[jQ];exact Nf p1 M
   refine eT jS ⟨WL (by rw[fI,fI,a9];lia),C _ _ ⟨i+1,_,rfl,rfl,?_⟩⟩;have Y:c.take abe=c.take i++[c[i]]:=by rw[List.take_succ,iO p];rfl
   rw[gr,Y,Z,aM,aM];rfl
 .rintro B j ⟨i,v,e,rfl,rfl⟩;refine⟨trivial,?_⟩;have p:c.length<=i:=by have:=b8 List.length e;rw[fI,bL]at this;simp at this;lia
  rw[br p];refine Fz.lst aaa (jT jS) (Ja _) (gM hm) ?_;rw[bp];exact kk
def tH:lN P w K mg ah "least_age" 4 (pA sG) (jg Ro):=cq 221 LF ["size","cuts","takes","places","rows","age","told"] λF u=>by
 refine lC F u ⟨_,λhr=>(ag (gQ (uI<|qC Ly hr<|a3 ZM ZJ<|dv 2)
  (eX<|fm tq)
  gu)
  (ag (qS 3 u.nd<|qC wg hr<|a2 ZM<|dv 1)
  (ag (qS 4 u.nd<|qC tG hr<|a3 ZM ZJ<|dv 2)
  (ag (qS 5 u.nd<|qC vZ hr<|a1<|dv 2)
  (ag (qS 6 u.nd<|qC rK hr<|eW aar<|eW (dv 4)<|eW aar<|eW (dv 5) gg)
  (ag (ua bF (V8 (fZ (dv 6) eS)<|dv 0)
  (ag (HP (i:=5) u.nd rfl lo eS um BQ)
  (eX<|qS 6 u.nd<|qC rK hr<|eW aar<|eW (dv 4)<|eW (dv 6)<|eW (dv 5) gg)))
  (eX<|fm<|dv 5))))))),λds R Kd h hm hl=>?_⟩
 obtain⟨n,x,y,rfl,o,ts,ex,L,S,J,kk⟩:=dJ h;have iu:=S.iu;have ft:=S.takes.iu;have n2:=S.n2;have nd:=Ny S.n1 S.j3;have I:(ae n o).length=o.length+2:=gO n o;refine⟨o,ts,ex,L,by lia,S.takes,by lia,?_⟩;unfold yG at kk;cases hb:jI (ae n o) ts with
 | some p =>rw[hb]at kk;exact .keep kk
 | none =>
  rw[hb]at kk;obtain⟨a,ha,la⟩:=Cm S J hb;have Y:=Au S la;have kk:=kk a ha la;refine⟨o,ex,S.iu,o,ts,ex,L,S,ts,L,by lia,?_⟩;have U:=zA S.takes;have O:=zB (ts:=ts);obtain⟨d,H⟩:∃ d:Nat,jB ts=(d:Int):=⟨(jB ts).toNat,by lia⟩;rw[H]at U O Y ⊢
  obtain⟨c,he⟩:∃ c,c=ae n o:=⟨_,rfl⟩;rw[<- he]at nd I la ⊢
  refine⟨c,ts,c,rfl,rfl,by lia,by lia,nd,rfl,Nx c,?_⟩;have e0:lW c ts c (d:Int)=ik c ts d:=by have:=K2 c ts d;rwa [GS (b:=d) O]at this
  rw[e0];refine⟨λm M r=>∃(b j:Nat) (g:MS),m=a - b/\b<=a/\M=[some (.int n),some x,some y,some (.lst<|c.map D.int),some (.lst<|ts.map<|qH c),some (.int b),some (.mr j)]/\r=R++g/\wm r j=some ((ik c ts b).map D.int),⟨_,d,_,[.lst ((ik c ts d).map D.int)],rfl,by lia,rfl,rfl,jS⟩,?_⟩;rintro m M r ⟨b,j,g,rfl,hba,rfl,rfl,Q⟩;have C:=qG c ts b;obtain⟨z,E⟩:∃ z,(ik c ts b)[0]?=some z:=⟨_,iO (by rw[C.len];lia)⟩;refine eT (show lv _ (.mr j)=_ from Q) (eT (show kP _ (0:Int)=_ from lA (i:=0) E)<|AA (λq=>?_) λq=>?_)
  .have Z:b<a:=by
    rcases Nat.lt_or_ge b a with B|B
    .exact B
    .have e:b=a:=by lia
     rw[e,la.at_]at E
     exact absurd (a5 E).symm q
   refine⟨c,ts,ik c ts b,rfl,rfl,by lia,by lia,nd,Q,C,?_⟩
   exact⟨_,by lia,b+1,_,g++[.lst ((ik c ts<|b+1).map D.int)],rfl,by lia,rfl,by rw[aS];rfl,jS⟩
  .have e:b=a:=by
    rcases Nat.lt_or_ge b a with B|B
    .rw[q]at E;exact absurd E (la.low b B)
    .lia
   refine Fz.drop True.intro (gM hm) ?_
   rw[bp,e]
   exact kk
def Dc:lN P w K mg ah "_law_few_next" 1 (pA pS) (jg J3):=cq 735 mh ["_law_border","_law_own_here","_law_last","_law_table","_law_i","_law_j","_law_some"] λF U=>by
 refine lC F U ⟨_,λhr=>(ag (Ma 3 false U.nd (pJ (N:=["_law_end","_law_border"]) (js:=[none,some 0]) U<|by decide +kernel) (ib<|dv 0) ZC ZR λ_ _ _=>(tX true (uv (xsc:=(fh pS)) (N:=["_law_end"]) (js:=[none]) rfl (by decide +kernel)) (ib<|dv 1) ZC ZR λ_ _ _=>eS))
  (ag (lF bF rfl (ir rfl T.range<|a1<|tr T<|dv 0) (qT 4 U.nd)
  (eX (lF bF rfl (oy rfl T.range<|a2 (mO (dv 4) eS)<|tr T<|dv 0) (qT 5 U.nd)
  (ag (qS 6 U.nd<|iA false gg)
  (Fc (gQ (lr (IQ (n:=3)<|Oe hr<|by decide) PM aaP (iA false gg)<|ia _)
  (eX<|Ma 6 false U.nd (pJ (N:=["_law_k","_law_last","_law_i","_law_j"]) (js:=[none,some 2,some 4,some 5]) U<|by decide +kernel) (oy rfl T.range<|a2 (mO (dv 4) eS)<|dv 5) ZC (λ_ _ _=>(mQ<|G3 (wF mulC rS (fZ (fZ ZJ<|dv 2)<|dv 0)<|fZ (fZ ZJ<|dv 0)<|dv 3) eS)) λ_ _ _=>(mO (fZ (fZ ZJ<|dv 2)<|dv 0)<|fZ (fZ ZJ<|dv 0)<|dv 3))
  gu)
  (eX (gQ (Mg (fZ ZM<|dv 5)<|fZ ZJ<|dv 4)
  (eX<|BV eS (fZ aar<|dv 4)<|dv 5)
  (eX (gQ (G3 (tr T<|dv 6) eS)
  (eX<|BV (kj (Ud rfl) DB ZO T.min dA<|a1<|dv 6) (fZ aar<|dv 4)<|dv 5)
  gu)))))))))
  (eX<|fm<|dv 3))),λds μ Kd h hm hl=>?_⟩
 obtain⟨b,o,l,rfl,es,own,T,rfl,rfl,Wf,Wh,hel,I,hT,kk⟩:=dJ h;obtain⟨L,hL⟩:∃ L,L=es.length:=⟨_,rfl⟩;rw[<- hL]at Wf hel I kk;obtain⟨S,hS⟩:∃ S,S=iG es own T:=⟨_,rfl⟩;rw[<- hS]at kk;have S0:∀ a b,b<=a->S a b=0:=λa b Xw=>by rw[hS];unfold iG;rw[aF Xw]
 refine⟨sz aaH,xJ (λds ys μ'=>∃ k:Nat,k<=L/\ds=(es.drop k).map D.int/\ys=(List.range k).map (λi=>D.mr<|μ.length+i)/\∃ g:MS,μ'=μ++g/\g.length=k/\∀ a,a<k->g[a]?=some (.lst<|hI L λ_=>0)) (ys:=[]) ⟨0,by lia,rfl,rfl,[],by simp,rfl,λa ha=>by lia⟩ ?_ (λys μ' _=>trivial) ?_⟩
 .rintro d G5 ys μ' ⟨k,hk,e,rfl,g,rfl,Z,J⟩;refine⟨trivial,λK' hK'=>?_⟩;have hk2:k<es.length:=by
   by_cases q:k<es.length
   .exact q
   .rw[bI Zs]at e;cases e
  rw[bY hk2]at e;cases e;refine⟨sz aaH,iJ trivial D.int (λ_:Int=>D.int 0) (λx hx K'' k''=>k'')<|hK' _ _ ⟨k+1,by lia,rfl,?_,g++[.lst (hI L λ_=>0)],?_,by rw[i8,Z];rfl,λa ha=>?_⟩⟩
  .rw[List.range_succ,aM];show _++[D.mr (μ++g).length]=_;rw[i8,Z];rfl
  .have e0:es.map (λ_:Int=>D.int 0)=hI L (λ_=>0):=by
    unfold hI;rw[hL];apply cG;intro i;rw[mD,mD];by_cases Q:i<es.length
    .rw[iO Q,bP Q];rfl
    .rw[List.getElem?_eq_none_iff.mpr Zs,List.getElem?_eq_none_iff.mpr (by rw[xr];lia)];rfl
   rw[e0,aS]
  .rcases Nat.lt_or_ge a k with z | z
   .rw[pF Zs];exact J a z
   .have:a=k:=by lia
    subst this
    rw[lQ Zs,Z,bc];rfl
 rintro zs μ' ⟨k,hk,e,rfl,g,rfl,Z,J⟩;have hkL:k=L:=by have:=b8 List.length e;rw[fI,bL]at this;simp at this;lia
 subst hkL;have R0:oI k (lG S 0 0) g:=⟨Z,λa ha=>by
  rw[J a ha]
  congr 2
  apply mw
  intro j hj
  unfold lG
  rw[aD Zs]⟩
 refine⟨by rw[fI];lia,by rw[fI];lia,?_⟩;rw[fI,BA,<- hL];have esj:∀ j,j<k->kP (es.map D.int) (j:Int)=some (.int<|es.getD j 0):=λj hj=>by
  have:es[j]?=some (es.getD j 0):=by rw[aP,iO Zs];rfl
  exact oH this
 have owj:∀ j,j<k->kP (own.map D.int) (j:Int)=some (.int<|own.getD j 0):=λj hj=>by
  have:own[j]?=some (own.getD j 0):=by rw[aP,iO Zs];rfl
  exact oH this
 refine gR (λds Y μ'=>∃(i c:Nat) (g:MS) (u v w:aA D),ds=lP (i:Int) c/\i+c=k/\μ'=μ++g/\oI k (lG S i 0) g/\Y=[some (.lst<|es.map D.int),some (.lst<|own.map D.int),some (.lst l),some (.lst<|(List.range k).map λi=>D.mr<|μ.length+i),u,v,w]) ⟨0,k,g,none,none,none,rfl,by lia,rfl,R0,rfl⟩ ?_ ?_
 .clear R0 Z J hk e;clear g;rintro d G5 Y μ' ⟨i,c,g,u,v,w,e,hic,rfl,M,rfl⟩;refine⟨trivial,λnx Er=>?_⟩;cases c with
  |zero=>cases e
  | succ c =>
   rw[gy]at e;cases e;refine⟨⟨by lia,by lia,by rw[fI];lia,by rw[fI];lia⟩,?_⟩;rw[fI,<- hL];have ek:((k:Int) - ((i:Int)+1)).toNat=k - (i+1):=by lia
   rw[ek];refine gR (λds Y μ'=>∃(j c:Nat) (g:MS) (v w:aA D),ds=lP (j:Int) c/\i<j/\j+c=k/\μ'=μ++g/\oI k (lG S i j) g/\Y=[some (.lst<|es.map D.int),some (.lst<|own.map D.int),some (.lst l),some (.lst<|(List.range k).map λi=>D.mr<|μ.length+i),some (.int (i:Int)),v,w]) ⟨i+1,k - abe,g,v,w,rfl,by lia,by lia,rfl,M.ext λa b ha hb=>?_,rfl⟩ ?_ ?_
   .unfold lG;by_cases H:a<i
    .rw[aF (.inl H),aF (.inl H)]
    .rw[aD Zs];by_cases h2:a=i/\b<i+1
     .rw[aF (.inr h2),S0 a b Zs]
     .rw[aD Zs]
   .clear M Er;clear g;rintro d ds'' Y μ' ⟨j,R,g,v',w',e,LH,hjc,rfl,M,rfl⟩;refine⟨trivial,λnx Er=>?_⟩;cases R with
    |zero=>cases e
    | succ R =>
     rw[gy]at e;cases e;have Q:i<k:=by lia
     have hj:j<k:=by lia
     have Zj:kP ((List.range k).map λi=>D.mr<|μ.length+i) (i:Int)=some (D.mr<|μ.length+i):=oH (g:=λi=>D.mr<|μ.length+i)<|bP Q;have YT:wm (μ++g) (μ.length+i)=some (hI k<|lG S i j i):=Je<|M.2 i Q;have Wc:Ay (hI k<|lG S i j i).length (j:Int)=some j:=by unfold Ay;rw[kK,aF Zs,aF Zs,BA]
     have fin:∀ v:Int,S i j=v->oI k (lG S i<|j+1) (g.set i<|.lst<|(hI k<|lG S i j i).set j<|.int v):=λv hv =>
      (M.put Q hj v).ext λa b ha hb=>by
       by_cases q:a=i/\b=j
       .rw[aF q,q.1,q.2,<- hv];unfold lG;rw[aF Zs]
       .rw[aD q];unfold lG;by_cases H:a<i\/(a=i/\b<j)
        .rw[aF H,aF Zs]
        .rw[aD H,aD Zs]
     have Yw:S i j=if es.getD j 0<=own.getD i 0 then 1 else vk (iH T i j):=by rw[hS];unfold iG;rw[aD Zs]
     refine⟨zs,λSz O=>Sz=[some (.lst<|es.map D.int),some (.lst<|own.map D.int),some (.lst l),some (.lst<|(List.range k).map λi=>D.mr<|μ.length+i),some (.int (i:Int)),some (.int (j:Int)),some (.lst<|(iH T i j).map D.int)]/\O=μ++g,?_,?_⟩
     .refine⟨zs,?_⟩;rcases I with⟨rfl,rfl⟩|rfl
      .refine SD (EJ (n:=2) (ds:=[]) (iM λd hd=>by cases hd) (pR ZN λd hd=>by cases hd) ?_);refine⟨?_,rfl⟩;have:iH (λ_ _=>0) i j=[]:=by rw[List.eq_nil_iff_forall_not_mem];intro x hx;obtain⟨k,_,_,h3,_⟩:=iZ.mp hx;simp at h3
       rw[this];rfl
      .refine SD (EJ (n:=2) (Ei k T) (yg k T<|by lia) ?_);have ne:(ja k T).isEmpty=false:=by
        cases q:ja k T with
        |nil=>have:=jK k T;rw[q]at this;simp at this;lia
        |cons a b=>rfl
       rw[ne];refine QW (b:=!false) (λ_=>?_) (λz=>by cases z);refine⟨⟨by lia,by lia,by lia,by lia⟩,?_⟩;have ej:((j:Int) - ((i:Int)+1)).toNat=j - (i+1):=by lia
       rw[ej];refine⟨sz (by unfold lP;rw[fI,xr];lia),iy trivial (λx:Nat=>D.int<|(i:Int)+1+(x:Nat)) (λx=>(if 0<T i (i+1+x)*T (i+1+x) j then some (T i (i+1+x)+T (i+1+x) j)else none).map D.int) (λx hx K' k'=>?_) ?_⟩
       .rw[c3]at hx;have a1:kP (ja k T) (i:Int)=some (.lst<|hI k<|T i):=iS<|kH Q;have ex:(i:Int)+1+(x:Nat)=((i+1+x:Nat):Int):=by lia
        have a2:kP (hI k<|T i) ((i:Int)+1+(x:Nat))=some (.int<|T i<|i+1+x):=by rw[ex];exact iS (jr<|by lia)
        have a3:kP (ja k T) ((i:Int)+1+(x:Nat))=some (.lst<|hI k<|T<|i+1+x):=by rw[ex];exact iS (kH<|by lia)
        have a4:kP (hI k<|T<|i+1+x) (j:Int)=some (.int<|T (i+1+x) j):=iS<|jr hj;have cm:G1 (T i<|i+1+x) (T (i+1+x) j):=.inl (by have:=hT i<|i+1+x;lia);refine eT a1 (eT a2<|eT a3<|eT a4 ⟨cm,ji (c:=0<T i (i+1+x)*T (i+1+x) j) (λq=>?_) λq=>?_⟩)
        .rw[aF q]at k';exact eT a1 (eT a2<|eT a3<|eT a4 k')
        .rw[aD q]at k';exact k'
       .refine⟨?_,rfl⟩;have:(List.range<|j - abe).filterMap (λx=>(if 0<T i (i+1+x)*T (i+1+x) j then some (T i (i+1+x)+T (i+1+x) j)else none).map D.int)=(iH T i j).map D.int:=by unfold iH;rw[List.map_filterMap]
        rw[this];rfl
     rintro Sz O ⟨rfl,rfl⟩;refine eT (esj j hj) (eT (owj i Q)<|ji (c:=es.getD j 0<=own.getD i 0) (λq=>?_) λq=>?_)
     .refine eT Zj<|eT YT<|eT Wc ?_;rw[DF];exact Er _ _ ⟨j+1,R,_,_,_,rfl,by lia,by lia,rfl,fin 1<|by rw[Yw,aF q],rfl⟩
     .refine ji (c:=(0:Int)<((iH T i j).map D.int).length) (λz=>?_) (λz=>?_)
      .have Xs:iH T i j≠[]:=λe=>by rw[e]at z;simp at z
       refine⟨iH T i j,rfl,Xs,λm H h2=>eT Zj<|eT YT<|eT Wc ?_⟩
       rw[DF]
       exact Er _ _ ⟨j+1,R,_,_,_,rfl,by lia,by lia,rfl,fin m<|by rw[Yw,aD q,Jb H h2],rfl⟩
      .have Xs:iH T i j=[]:=by
        cases e:iH T i j with
        |nil=>rfl
        |cons a b=>rw[e]at z;exact absurd ZN z
       refine Er _ _ ⟨j+1,R,g,_,_,rfl,by lia,by lia,rfl,M.ext λa b ha hb=>?_,rfl⟩
       unfold lG
       by_cases H:a<i\/(a=i/\b<j)
       .rw[aF H,aF Zs]
       .rw[aD H];by_cases h2:a=i/\b=j
        .rw[aF Zs,h2.1,h2.2,Yw,aD q,Xs];rfl
        .rw[aD Zs]
   .clear M;clear g;rintro Y μ' ⟨j,R,g,v',w',e,LH,hjc,rfl,M,rfl⟩;cases R with
    |succ R=>rw[gy]at e;cases e
    | zero =>
     refine⟨trivial,Er _ _ ⟨i+1,c,g,_,_,_,rfl,by lia,rfl,M.ext λa b ha hb=>?_,rfl⟩⟩;unfold lG;by_cases H:a<i\/(a=i/\b<j)
     .rw[aF H,aF Zs]
     .rw[aD H,aD Zs]
 .clear R0 Z J hk e;clear g;rintro Y μ' ⟨i,c,g,u,v,w,e,hic,rfl,M,rfl⟩;cases c with
  |succ c=>rw[gy]at e;cases e
  | zero =>
   refine⟨trivial,.deep (Nc rfl M) (gM hm) ?_⟩;rw[bp];have:ja k (lG S i 0)=ja k S:=by unfold ja;refine bG λa ha=>?_;rw[c3]at ha;congr 1;apply mw;intro b hb;unfold lG;rw[aF Zs]
   rw[this];exact kk
def xY:lN P w K mg ah "no_make" 1 (pA xc) (jg Np):=cq 253 LD ["places"] λF a=>by refine lC F a ⟨_,λhr=>(eX<|fm<|O5 (tr T<|dv 0) eS),λd c g h hm hl=>?_⟩;obtain⟨b,rfl,hl,kk⟩:=dJ h;exact .keep kk
def zr:lN P w K mg ah "bare_table" 2 (pA mU) (jg Rv):=cq 258 LD ["places","none"] λF Sc=>by
 refine lC F Sc ⟨_,λhr=>(ag (qS 1 Sc.nd<|qC xY hr<|a1<|dv 0)
  (eX<|fm<|tX false (pJ (N:=["first","places","none"]) (js:=[none,some 0,some 1]) Sc<|by decide +kernel) (ir rfl T.range<|a1<|tr T<|dv 0) ZC ZR λ_ _ _=>(tX false (uv (xsc:=(fh mU)) (N:=["behind","first","none"]) (js:=[none,some 0,some 2]) rfl (by decide +kernel)) (ir rfl T.range<|a1<|tr T<|dv 1) ZC ZR λ_ _ _=>(y3 (Mg ZM<|dv 1) eS<|dv 2)))),λx p y h hm hl=>?_⟩
 obtain⟨b,rfl,hl,kk⟩:=dJ h;refine⟨hl,by lia,by lia,?_⟩;rw[BA];refine⟨sz (by rw[jt];lia),iJ trivial (λi:Nat=>D.int<|0+(i:Nat)) (λi=>D.lst<|hI b.length<|j5 b.length i) (λi u o k'=>?_)<|.keep kk⟩;refine⟨by lia,by lia,?_⟩;rw[BA];refine⟨sz (by rw[jt];lia),iJ trivial (λj:Nat=>D.int<|0+(j:Nat)) (λj=>D.int<|j5 b.length i j) (λj r o k'=>?_) k'⟩;unfold j5 at k';refine ji (c:=(0+(j:Nat):Int)<=0+(i:Nat)) (λq=>?_) (λq=>?_)
 .rw[aF Zs]at k';exact k'
 .rw[aD Zs]at k';exact k'
def t5:lN P w K mg ah "fewest_joined" 1 (pA nr) (jg J1):=cq 268 LD ["lefts","rights","none"] λF x=>by
 refine lC F x ⟨_,λhr=>(eX<|fm<|kj (Ud rfl) DB ZO T.min dA<|a1<|mO (iA false<|a1<|dv 2)<|tX false (pJ (N:=["left","right"]) (js:=[none,none]) x<|by decide +kernel) (Jz rfl T.zip<|a2 ZM<|dv 1) ZD ZR λ_ _ _=>(mO (mO ZM<|dv 1) eS)),λL C O h hm hl=>?_⟩;obtain⟨l,r,m,rfl,ls,rs,rfl,rfl,I,H,kk⟩:=dJ h;refine⟨zs,by rw[bO,fI,fI];exact sz<|by lia,?_⟩;rw[Hd];refine iJ ⟨trivial,trivial⟩ (λp:Int×Int=>D.tup [.int p.1,.int p.2]) (λp=>D.int<|p.1+p.2+1) (λp E Q y=>⟨rfl,y⟩) ?_;rw[Ha];refine⟨by rw[fI,bO];exact sz (by show 1+_<=_;lia),?_⟩;obtain⟨B,M,b3⟩:=lj (List.zipWith (λa b=>a+b+1) ls rs) m;refine⟨m::List.zipWith (λa b=>a+b+1) ls rs,rfl,by simp,λv hv YY=>.keep ?_⟩;have e:v=(List.zipWith (λa b=>a+b+1) ls rs).foldl min m:=by
  have J:=YY m aE;rcases B with q|q
  .rcases List.mem_cons.mp hv with z | z
   .lia
   .have:=b3 v z;lia
  .have:=YY _<|jJ _ q;rcases List.mem_cons.mp hv with z|z
   .lia
   .have:=b3 v z;lia
 rw[e];exact kk
def zp:lN P w K mg ah "next_table" 2 (pA mT) (jg JZ):=cq 263 LD ["places","clean","before","columns","none","told","first","row","far"] λF Sc=>by
 refine lC F Sc ⟨_,λhr=>(ag (qS 3 Sc.nd<|tX false (pJ (N:=["at","before"]) (js:=[none,some 2]) Sc<|by decide +kernel) (ir rfl T.range<|a1<|tr T<|dv 2) ZC ZR λ_ _ _=>(tX false (uv (xsc:=(fh mT)) (N:=["row","at"]) (js:=[none,some 0]) rfl (by decide +kernel)) (ib<|dv 1) ZC ZR λ_ _ _=>(fZ ZM<|dv 1)))
  (ag (qS 4 Sc.nd<|qC xY hr<|a1<|dv 0)
  (ag (qS 5 Sc.nd<|iA true gg)
  (ag (lF bF rfl (MQ rfl T.enumerate rfl T.zip<|a2 aaP<|dv 1) (nK 2<|hV (qT 6 Sc.nd)<|hV (nK 2<|hV (qT 7 Sc.nd)<|hV (qT 8 Sc.nd) nM) nM)
  (eX<|gD<|vO bX cC cA oV lB (dv 5)<|a1<|tX false (pJ (N:=["behind","end","far","row","first","columns","none"]) (js:=[none,none,some 8,some 7,some 6,some 3,some 4]) Sc<|by decide +kernel) (Eo rfl T.enumerate<|a1<|dv 0) ZD ZR λ_ _ _=>(y3 (Mg ZJ<|dv 2) eS<|qC t5 hr<|a3 (jd false aar (iD<|mO (dv 4) eS)<|iD<|dv 0) (jd false (fZ (dv 5)<|dv 0) (iD<|mO (dv 4) eS)<|iD<|dv 0)<|dv 6)))
  (eX<|fm<|dv 5))))),λZ U Kd h hm hl=>?_⟩
 obtain⟨b,c,l,rfl,es,own,P,rfl,rfl,Wf,O,rfl,kk⟩:=dJ h;obtain⟨L,R⟩:∃ L,L=es.length:=⟨_,rfl⟩;rw[<- R]at Wf O kk ⊢
 refine⟨by rw[jK];lia,by rw[jK];lia,?_⟩;rw[jK,BA];refine⟨sz (by rw[jt];lia),iJ trivial (λj:Nat=>D.int<|0+(j:Nat)) (λj=>D.lst<|hI L λi=>P i j) (λj E K' k'=>?_) ?_⟩
 .rw[c3]at E;refine⟨sz (by rw[jK];lia),iJ trivial (λi:Nat=>D.lst<|hI L<|P i) (λi=>D.int<|P i j) (λi M K' k'=>?_) k'⟩;have a1:kP (hI L<|P i) (0+(j:Nat):Int)=some (.int<|P i j):=by rw[Int.zero_add];exact iS (jr E)
  exact eT a1 k'
 refine⟨by rw[fI];lia,?_⟩;rw[fI,<- R];refine⟨zs,?_⟩;obtain⟨Q,Y⟩:∃ Q,Q=kJ L es own P:=⟨_,rfl⟩;rw[<- Y]at kk;refine gR (λZ I μ'=>∃(k:Nat) (u v w:aA D),k<=L/\Z=((List.range L).drop k).map (λi=>D.tup [.int (i:Nat),.tup [.lst (hI L<|P i),.int (own.getD i 0)]])/\I=[some (.lst<|es.map D.int),some (.lst<|own.map D.int),some (.lst<|ja L P),some (.lst<|(List.range L).map λj=>D.lst<|hI L λi=>P i j),some (.int<|(L:Int) - 1),some (.mr U.length),u,v,w]/\μ'=U++[.lst ((List.range k).map λi=>D.lst<|hI L<|Q i)]) ⟨0,none,none,none,by lia,Kc Wf,rfl,rfl⟩ ?_ ?_
 .rintro d G5 I μ' ⟨k,u,v,w,hk,e,rfl,rfl⟩;refine⟨⟨trivial,trivial⟩,λnx J=>?_⟩;have M:k<(List.range L).length:=by
   by_cases q:k<(List.range L).length
   .exact q
   .rw[bI Zs]at e;cases e
  have C:k<L:=by rwa [xr]at M
  rw[bY M,List.getElem_range]at e;cases e;refine⟨rfl,rfl,mZ jS,by rw[oR,fI];exact sz<|by lia,?_⟩;rw[Nw,<- R];refine iJ trivial (λj:Nat=>D.tup [.int (j:Nat),.int (es.getD j 0)]) (λj=>D.int<|Q k j) (λj E K' k'=>?_) ?_
  .rw[c3]at E;refine⟨rfl,?_⟩;have H:Q k j=if es.getD j 0<=own.getD k 0 then 0 else(ow P k j).foldl min ((L:Int) - 1):=by rw[Y];rfl
   refine ji (c:=es.getD j 0<=own.getD k 0) (λq=>?_) (λq=>?_)
   .rw[aF q]at H;rw[H]at k';exact k'
   .rw[aD q]at H;rw[H]at k';have ac:kP ((List.range L).map λj=>D.lst<|hI L λi=>P i j) (j:Int)=some (.lst<|hI L λi=>P i j):=oH (g:=λj=>D.lst<|hI L λi=>P i j)<|bP E;refine eT ac ⟨(List.range<|j - (k+1)).map λx=>P k<|k+1+x,(List.range<|j - (k+1)).map λx=>P (k+1+x) j,?_,?_,?_,?_,?_⟩
    .rw[Bb Zs,aQ];rfl
    .rw[Bb Zs,aQ];rfl
    .rw[fI,xr];lia
    .rw[fI,xr];lia
    .rw[Hc (L:=L)];exact k'
  .refine eT jS ⟨WL (by rw[fI,xr];lia),J _ _ ⟨k+1,_,_,_,by lia,rfl,rfl,?_⟩⟩;rw[gr,FD];rfl
 .rintro I μ' ⟨k,u,v,w,hk,e,rfl,rfl⟩;refine⟨⟨trivial,trivial⟩,?_⟩;have C:k=L:=by have:=b8 List.length e;rw[fI,bL,xr]at this;simp at this;lia
  subst C;refine Fz.lst aaa (jT jS) (Mz _ _ _) (gM hm) ?_;rw[bp];exact kk
def zq:lN P w K mg ah "few_tables" 4 (pA qx) (jg J2):=cq 246 LD ["size","cuts","takes","age","places","rows","ages","table","changing","told","now","before"] λF p=>by
 refine lC F p ⟨_,λhr=>(ag (qS 4 p.nd<|qC wg hr<|a2 ZM<|dv 1)
  (ag (qS 5 p.nd<|qC tG hr<|a3 ZM ZJ<|dv 2)
  (ag (Ma 6 false p.nd (pJ (N:=["text","old"]) (js:=[none,none]) p<|by decide +kernel) (ib<|dv 2) ZD ZR λ_ _ _=>ZJ)
  (ag (qS 7 p.nd<|qC zr hr<|a1<|dv 4)
  (ag (qS 8 p.nd su)
  (ag (qS 9 p.nd y8)
  (ag (lF bF rfl (oy rfl T.range<|a2 (kj (Ue rfl) LY ZO T.min dA<|a3 (qC vZ hr<|a1<|dv 2) eS<|dv 3)<|mO aar eS) (qT 10 p.nd)
  (Fc (gQ (PW.pt<|tP (hG<|dv 8)<|nY<|lr Xf HA (dv 10) (dv 6)<|by with_unfolding_all rfl)
  (ag (qS 11 p.nd<|dv 7)
  (ag (qS 7 p.nd<|qC zp hr<|a3 (dv 4) (qC tI hr<|a3 (dv 4) (dv 5)<|dv 10)<|dv 11)
  (eX<|qS 8 p.nd<|xG (IQ (n:=4)<|Oe hr<|by decide) PN (dv 7) (dv 11)<|ia _)))
  gu)
  (eX<|PY aax (dv 7) (dv 9)<|dv 10)))
  (eX<|fm<|dv 9)))))))),λY J Kd h hm hl=>?_⟩
 obtain⟨n,x,y,a,rfl,r,ts,rfl,rfl,S,a0,a1,kk⟩:=dJ h;have iu:=S.iu;have ft:=S.takes.iu;have Q:(ae n r).length=r.length+2:=gO n r;refine⟨r,rfl,iu,r,ts,rfl,rfl,S,sz aaH,iJ trivial iI (λt=>D.int t.2) (λt ht K' k'=>⟨rfl,k'⟩) ?_⟩;have B:ts.map (λt=>D.int t.2)=(ts.map ZI).map D.int:=by rw[aQ];rfl
 rw[B];refine⟨by rw[fI];lia,?_⟩;rw[fI];have fs:=Gu S;obtain⟨g,he⟩:∃ g,g=ae n r:=⟨_,rfl⟩;rw[<- he]at kk Q fs ⊢
 refine⟨ts,rfl,by lia,?_⟩;have yn:=zA S.takes;have Z:min (jB ts) (min 0 a)=0:=by lia
 refine⟨⟨by lia,by lia,by lia,by lia⟩,?_⟩;rw[Z];refine gR (λY L o=>∃(k c:Nat) (C:Bool) (u v:aA D),Y=lP (k:Int) c/\(k:Int)+c=a+1/\(C=false->∀ i j,i<g.length->j<g.length->kJ g.length g (ip g ts<|(k:Int) - 1) (jb g ts k) i j=jb g ts k i j)/\L=[some (.int n),some (.lst<|r.map D.int),some (.lst<|ts.map iI),some (.int a),some (.lst<|g.map D.int),some (.lst<|ts.map<|qH g),some (.lst ((ts.map ZI).map D.int)),some (.lst<|ja g.length<|jb g ts k),some (.bl C),some (.mr J.length),u,v]/\o=J++[.gP (qV k) (uH g ts k)]) ⟨0,(a+1).toNat,false,none,none,by rw[Int.sub_zero];rfl,by lia,λ_=>fs,rfl,rfl⟩ ?_ ?_
 .rintro d G5 L o ⟨k,c,C,u,v,e,O,I,rfl,rfl⟩;refine⟨trivial,λnx M=>?_⟩;cases c with
  |zero=>cases e
  | succ c =>
   rw[gy]at e;cases e;refine⟨λE o=>∃(q:Bool) (U:aA D),(q=false->∀ i j,i<g.length->j<g.length->kJ g.length g (ip g ts<|((k+1:Nat):Int) - 1) (jb g ts<|k+1) i j=jb g ts (k+1) i j)/\E=[some (.int n),some (.lst<|r.map D.int),some (.lst<|ts.map iI),some (.int a),some (.lst<|g.map D.int),some (.lst<|ts.map<|qH g),some (.lst ((ts.map ZI).map D.int)),some (.lst<|ja g.length<|jb g ts<|k+1),some (.bl q),some (.mr J.length),some (.int (k:Int)),U]/\o=J++[.gP (qV k) (uH g ts k)],?_,?_⟩
   .refine TY (i:=8) (j:=10) (k:=6) C (k:Int) (ts.map ZI) rfl rfl rfl λb hb=>QW (b:=b) (λhbT=>?_) (λR=>?_)
    .refine⟨g,ts,rfl,rfl,by lia,by lia,?_⟩;refine⟨g,ip g ts k,jb g ts k,rfl,rfl,(yB _ _ _).len,by lia,rfl,?_⟩;exact⟨DD<|yg _ _<|by lia,DD<|yg _ _<|by lia,rfl,_,_,λhf=>AG<|NC<|(show ∀ b:Bool,(true != b)=false->b=true by decide) _ hf,rfl,rfl⟩
    .obtain⟨h1,h2⟩:=hb R;have fx:=JP (I h1) λt ht et=>h2 (by rw[<- et];exact List.mem_map_of_mem ht);rw[Hq fx];refine⟨C,_,λ_=>AG fx,rfl,rfl⟩
   .rintro E o ⟨q,U,H,rfl,rfl⟩;refine⟨_,_,(by rw[lQ aaa,bc];rfl),WL (by unfold qV;rw[fI,xr];lia),Jn k,?_⟩;refine M _ _ ⟨k+1,c,q,_,_,rfl,by lia,H,rfl,?_⟩;rw[gr,Co,BJ]
 .rintro L o ⟨k,c,C,u,v,e,O,I,rfl,rfl⟩;refine⟨trivial,?_⟩;cases c with
  |succ c=>rw[gy]at e;cases e
  | zero =>
   have hk:k=a.toNat+1:=by lia
   subst hk;refine Fz.gP aaa (by rw[lQ aaa,bc];rfl) (iM λd hd=>by obtain⟨i,_,rfl⟩:=List.mem_map.mp hd;exact Ei _ _) (gM hm) ?_;rw[bp];exact kk
def Lx:lN P w K mg ah "fewest" 5 (pA zU) (jg Nu):=cq 275 YW ["size","cuts","takes","age","many"] λF o=>by
 refine lC F o ⟨_,λhr=>(ag (qS 4 o.nd<|fZ (fZ (O3 aax (qC zq hr<|eW ZM<|eW ZJ<|eW aaP<|eW aar gg) aar λ_ _=>rfl) eS)<|pI eS)
  (eX<|fm<|y3 (Mg (dv 4)<|tr T<|dv 1) (dv 4) tq)),λB u C h hm hl=>?_⟩
 obtain⟨n,x,y,a,rfl,d,ts,rfl,rfl,S,a0,a1,kk⟩:=dJ h;refine⟨d,ts,rfl,rfl,S,a0,a1,?_⟩;have g:(ae n d).length=d.length+2:=gO n d;have e1:kW ((qV<|a.toNat+1).zip<|uH aaY ts<|a.toNat+1) (.inl a)=some (.lst<|ja (ae n d).length<|jb aaY ts<|a.toNat+1):=by have:=EL (xs:=List.range<|a.toNat+1) (k:=a.toNat) (λk=>D.lst<|ja (ae n d).length<|jb aaY ts<|k+1) (List.mem_range.mpr<|by lia);rw[dW a0]at this;exact this
 have r:kP (ja (ae n d).length<|jb aaY ts<|a.toNat+1) 0=some (.lst<|hI (ae n d).length<|jb aaY ts (a.toNat+1) 0):=iS (j:=0) (kH<|by lia);have p:kP (hI (ae n d).length<|jb aaY ts (a.toNat+1) 0) (-1)=some (.int<|jb aaY ts (a.toNat+1) 0<|d.length+1):=Fg (by rw[kK,g];exact jr<|by lia);refine eT e1<|eT r<|eT p ?_;unfold Gw at kk;refine ji (c:=jb aaY ts (a.toNat+1) 0 (d.length+1)<=((d.map D.int).length:Int)) (λq=>?_) (λq=>?_)
 .rw[fI]at q;rw[aF q]at kk;exact .keep kk
 .rw[fI]at q;rw[aD q]at kk;exact .keep kk
def Lw:lN P w K mg ah "joined" 1 (pA zT) (jg EG):=cq 289 Wb ["one","other","place","bars","age","other_bars","other_age","cut"] λF c=>by
 refine W2 F c ⟨_,λhr=>(ag (jq ZM<|nK 2<|hV (qT 3 c.nd)<|hV (qT 4 c.nd) nM)
  (ag (jq ZJ<|nK 2<|hV (qT 5 c.nd)<|hV (qT 6 c.nd) nM)
  (ag (qS 7 c.nd<|kj (Jc rfl) uK ZO T.max b9<|a2 aaP eS)
  (eX<|fm<|gN<|a2 (mO (jd false aar tQ<|iD<|dv 7)<|jd false (dv 5) (iD<|dv 7) tQ)<|mO (kj (Jc rfl) uK ZO T.max b9<|a2 (dv 4)<|dv 6) eS)))),λC o q h=>?_⟩
 unfold EG at h;split at h
 .rename_i z a y b p;refine⟨rfl,λhm hl=>?_⟩;obtain⟨x,u,rfl,rfl,rfl,rfl,j,r,B,kk⟩:=h;have g:(txt x.1).length<=sizeLine:=by rw[i9];exact sz Zs
  have d:(txt u.1).length<=sizeLine:=by rw[i9];exact sz Zs
  have H:=oU x.1 none<|some<|max p 0;have E:=oU u.1 (some<|max p 0) none;refine⟨rfl,rfl,g,d,?_,zs,.keep ?_⟩
  .show(txt<|ig x.1 none<|some<|max p 0).length+(txt<|ig u.1 (some<|max p 0) none).length<=sizeLine;rw[i9,i9];exact sz Zs
  .show q (.tup [.str (txt (ig x.1 none<|some<|max p 0)++txt (ig u.1 (some<|max p 0) none)),.int (max x.2 u.2+1)]) o;rw[show max p 0=p by lia,ng,zb j,sv j];exact kk
 .cases h
def GZ:lN P w K mg ah "is_bars" 1 (pA xf) (jg Nt):=cq 282 Wb ["size","text"] λF o=>by
 refine lC F o ⟨_,λhr=>(eX<|fm<|EW (xG UW uM (tr T<|dv 1) ZM<|ia _)<|EV<|xG UW uM (mO (vO cU PySem.F.slot_str_count PySem.F.type_str_count KO zN ZJ<|a1 fJ)<|vO cU PySem.F.slot_str_count PySem.F.type_str_count KO zN ZJ<|a1 fJ) ZM<|ia _),λx j p h hm hl=>?_⟩;obtain⟨n,z,rfl,u,kk⟩:=dJ h;refine⟨sz<|by lia,?_⟩;have d:(((z.cps.toList.count 111:Nat):Int)+((z.cps.toList.count 120:Nat):Int)=n/\((z.length:Nat):Int)=n)↔(((z.length:Nat):Int)=n/\LC z=true):=by
  have:=KP z.cps.toList;have r:z.length=z.cps.toList.length:=(cP (xs:=z.cps)).symm;constructor
  .rintro⟨g,a⟩;exact⟨a,this.mp<|by lia⟩
  .rintro⟨g,a⟩;have:=this.mpr a;exact⟨by lia,g⟩
 refine Jv (c:=((z.length:Nat):Int)=n) (λe=>?_) (λe=>?_)
 .refine⟨rfl,111,rfl,rfl,120,rfl,?_⟩;have:decide (((z.length:Nat):Int)=n/\LC z=true)=decide (((z.cps.toList.count 111:Nat):Int)+((z.cps.toList.count 120:Nat):Int)=n):=by
   by_cases q:((z.cps.toList.count 111:Nat):Int)+((z.cps.toList.count 120:Nat):Int)=n
   .rw[aH q,aH (d.mp ⟨q,e⟩)]
   .rw[aO q,aO λy=>q (d.mpr y).1]
  rw[this]at kk;show Fz _ p (.bl<|false != decide (((z.cps.toList.count 111:Nat):Int)+((z.cps.toList.count 120:Nat):Int)=n)) j;rw[OP];exact .keep kk
 .rw[aO (λy=>e y.1)]at kk;exact .keep kk
def kA:lN P w K mg ah "with_key" 1 (pA uW) (jg OS):=cq 431 mM ["table","key","thing","told"] λF g=>by
 refine W2 F g ⟨_,λhr=>(ag (qS 3 g.nd<|rB Kn uN ZO T.dict eP<|a1<|dv 0)
  (ag (lh aax aaP aar<|dv 1)
  (eX<|fm<|vP<|dv 3))),λu p x h=>?_⟩
 unfold OS at h;split at h
 .rename_i q r y v;refine⟨rfl,λhm hl=>?_⟩;obtain⟨d,k,rfl,rfl,a,hk,kk⟩:=h;refine eT rfl ⟨d,dput d k v,gi,cx a<|by decide,by rw[hk];rfl,?_⟩;rw[gr];refine⟨_,_,gi,λo j c=>?_⟩;rw[gr];refine Fz.ki aaa gi (mX hl.1 hl.2.2.1) (gM hm) ?_;rw[bp,c];exact kk
 .cases h
def l9:lN P w K mg ah "without_key" 1 (pA o8) (jg AI):=cq 436 mM ["table","key"] λF C=>by
 refine W2 F C ⟨_,λhr=>(eX<|fm<|vP<|NF (pJ (N:=["other","thing","key"]) (js:=[none,none,some 1]) C<|by decide +kernel) rfl (BO<|qv (qu 0) (jR 0) (qv (qu 1) (jR 1) BP pU)<|mY (jR 1) pU) (Cd<|mY (jR 0)<|mY (jR 1) pU) rfl (AB<|dv 0) (λ_ _ _=>(ud (n:=2) rfl (kl (qN 0<|show List.Nodup (["other","thing","key"]:az Str) by decide +kernel)<|kl (qN 1<|show List.Nodup (["other","thing","key"]:az Str) by decide +kernel) qM))) (λ_ _ _=>(mQ<|V8 ZM<|dv 2)) (λ_ _ _=>ZM) λ_ _ _=>ZJ),λQ L R h=>?_⟩;unfold AI at h;split at h
 .rename_i M O y;refine⟨rfl,λhm hl=>?_⟩;obtain⟨I,k,rfl,rfl,J,nd,hk,hs,kk⟩:=h;intro B;rw[xo];refine⟨by rw[fI];exact sz<|by lia,l6 (λp=>decide (p.1≠k)) I [] _ nd (λp u g r a=>?_) ?_⟩
  .refine⟨rfl,?_⟩;rcases hs p u with⟨i,j,e1,rfl⟩|⟨i,j,e1,rfl⟩
   .obtain⟨E,pv⟩:=p;cases e1;cases y with
    | int y =>
     cases hk;refine AA (c:=i=j) (λq=>?_) (λq=>?_)
     .have a:r (if decide (kM i≠kM j)=true then some (kM i,pv)else none) g:=a;rw[aH (show kM i≠kM j from λz=>q<|jw _ _ z)]at a;exact a
     .have a:r (if decide (kM i≠kM j)=true then some (kM i,pv)else none) g:=a;rw[aO (show ¬ kM i≠kM j from λz=>z<|by rw[q])]at a;exact a
    |_=>cases hk
   .obtain⟨E,pv⟩:=p;cases e1;cases y with
    | str y =>
     cases hk;refine AA (c:=i=j) (λq=>?_) (λq=>?_)
     .have a:r (if decide (fG i≠fG j)=true then some (fG i,pv)else none) g:=a;rw[aH (show fG i≠fG j from λz=>q<|fo _ _ z)]at a;exact a
     .have a:r (if decide (fG i≠fG j)=true then some (fG i,pv)else none) g:=a;rw[aO (show ¬ fG i≠fG j from λz=>z<|by rw[q])]at a;exact a
    |_=>cases hk
  .refine⟨_,_,gi,λo H x=>?_⟩;rw[gr];refine Fz.ki aaa gi (iM λd hd=>?_) (gM hm) ?_
   .obtain⟨p,u,rfl⟩:=List.mem_map.mp hd;exact uj hl.1 (List.mem_map.mpr ⟨p,(List.mem_filter.mp u).1,rfl⟩)
   .rw[bp,x];exact kk
 .cases h
def gq:N7 P w K mg ah "Stand" eV 1 (pA mv) (jg<|Nj eV):=cqI "Stand.__init__" 303 mM ["self","length","made_of","firsts","closed"] λF p=>by
 refine lC F p ⟨_,λhr=>(ag (o9 ai.cl ai.h8 ZJ<|dv 0)
  (ag (o9 ai.cl ai.gz aaP<|dv 0)
  (ag (o9 ai.cl ai.iX aar<|dv 0)
  (eX<|o9 ai.cl ai.ju (dv 4)<|dv 0)))),λd j q h hm hl=>?_⟩
 obtain⟨k,n,a,b,c,rfl,o,kk⟩:=dJ h;have hk:k<j.length:=(jA o).1;have g:∀ ns d,(j.set k<|.ins eV ns d)[k]?=some (.ins eV ns d):=λns d=>aV hk;refine⟨_,_,fN o,rfl,by decide,?_⟩;refine⟨_,_,fN<|g _ _,rfl,by show 1<1000;decide,?_⟩;rw[eQ];refine⟨_,_,fN<|g _ _,rfl,by show 2<1000;decide,?_⟩;rw[eQ];refine⟨_,_,fN<|g _ _,rfl,by show 3<1000;decide,?_⟩;rw[eQ];exact .keep kk
def gT:kO P w K mg ah eV "check_there" 1 (pA k8) (nj<|JU eV ub):=tY "Stand.check_there" 310 mM ["self","name"] λF p=>by
 refine F.ui p (λj d r q h=>CA h) (λo A fb s H E hr c u Z=>⟨_,(eX (gQ (qp aax ZJ (fE ai.cl ai.gz<|dv 0)<|by with_unfolding_all rfl)
  (eX<|iC Z rfl Lj aG Zu aG rfl (a1 fJ))
  gu)),λj d m r q hm hl a h g=>?_⟩)
 obtain⟨x,nm,rfl,h⟩:=dJ h;obtain⟨_,S,rfl,kk⟩:=h;refine⟨rfl,_,rfl,_,jV fo mf nm S.af rfl,?_⟩;cases e:fc S.af nm with
 |none=>rw[e]at kk;exact⟨zs,fY g a kk⟩
 |some x=>rw[e]at kk;exact .keep (jW a kk)
def md:kO P w K mg ah eV "parts" 2 (pA pj) (nj<|EF eV ub):=tY "Stand.parts" 317 mM ["self","name"] λF p=>by
 refine F.ui p (λj d r q h=>AN h) (λo A fb s H E hr c u Z=>⟨_,(ag (gD<|je Z.z gT ai.cl hr.le ZM<|a1<|dv 1)
  (eX<|fm<|jZ aax (fE ai.cl ai.gz<|dv 0) ZJ λ_ _=>rfl)),λj d m r q hm hl a h g=>?_⟩)
 obtain⟨x,nm,rfl,h⟩:=dJ h;obtain⟨_,S,rfl,kk⟩:=h;refine⟨⟨rfl,rfl⟩,fP a,⟨_,fP a⟩,S,rfl,?_⟩;cases e:fc S.af nm with
 |none=>rw[e]at kk;exact(fY g a kk).2
 | some x =>rw[e]at kk;exact⟨rfl,_,rfl,mf x,by rw[jV fo mf nm S.af rfl,e];rfl,.keep<|jW a kk⟩
def oK:kO P w K mg ah eV "source" 3 (pA n9) (nj<|AJ eV ub):=tY "Stand.source" 324 mM ["self","name","bar","parts","copies","left","right","place"] λF d=>by
 refine F.ui d (λds o C Kx h=>yR h) (λtx A fb s H E hr I Kb Z=>⟨_,(ag (qS 3 d.nd<|je Z.z md ai.cl hr.le ZM<|a1<|dv 1)
  (ag (gQ (PW.pt<|tP (G2 aaP eS)<|nY<|W0 aaP<|fE ai.cl ai.h8<|dv 0)
  (eX<|iC Z rfl Lm aG Zu aG rfl (a1 fJ))
  gu)
  (ag (qS 4 d.nd eS)
  (ag (ua PassesOwn.leaving (uI<|dv 3)
  (ag (jq aar<|nK 3<|hV (qT 5 d.nd)<|hV (qT 6 d.nd)<|hV (qT 7 d.nd) nM)
  (ag (qS 1 d.nd<|y3 (G2 aaP<|dv 7) (dv 5)<|dv 6)
  (ag (qS 3 d.nd<|jZ aax (fE ai.cl ai.gz<|dv 0) ZJ λ_ _=>rfl)
  (eX<|HP (i:=4) d.nd rfl lo eS um BQ)))))
  (eX<|fm<|gN<|a2 ZJ<|dv 4))))),λds o m C Kx hm hl g h J=>?_⟩)
 obtain⟨x,nm,bar,rfl,h⟩:=dJ h;obtain⟨_,S,rfl,kp,kk⟩:=h;refine⟨⟨rfl,rfl⟩,fP g,⟨_,fP g⟩,S,rfl,?_⟩;cases e:fc S.af nm with
 |none=>rw[e]at kk;exact(fY J g kk).2
 | some x =>
  rw[e]at kk;refine ji (c:=bar<0) (λq=>⟨zs,fY J g ?_⟩) (λq1=>⟨rfl,_,rfl,ji (c:=S.n<=bar) (λq=>⟨zs,fY J g ?_⟩) λq2=>?_⟩)
  .have kk:(if 0<=bar/\bar<S.n then C (BM<|gE S.af nm bar) o else _):=kk;rw[aD Zs]at kk;exact kk
  .have kk:(if 0<=bar/\bar<S.n then C (BM<|gE S.af nm bar) o else _):=kk;rw[aD Zs]at kk;exact kk
  .have kk:(if 0<=bar/\bar<S.n then C (BM<|gE S.af nm bar) o else _):=kk;rw[aF Zs]at kk;refine⟨λi M j=>∃(z:Str) (y:Pt) (c:Nat) (Y U R:aA D),i=iN S.af z/\fc S.af z=some y/\gE S.af nm bar=((gE S.af z bar).1,(gE S.af z bar).2+c)/\M=[some (jL eV S),some (.str z),some (.int bar),some (mf y),some (.int (c:Int)),Y,U,R]/\j=o.set 0 (.gx I H),⟨_,nm,x,0,none,none,none,rfl,e,rfl,rfl,rfl⟩,?_⟩;rintro i M j ⟨z,y,c,Y,U,R,rfl,u,L,rfl,rfl⟩;cases y with
   | fst b a =>refine⟨zs,.keep<|jW g ?_⟩;rw[L,qt u,Nat.zero_add]at kk;exact kk
   | jn l r p =>
    obtain⟨⟨Q,el⟩,⟨O,er⟩⟩:=kp.there u;obtain⟨i1,i2⟩:=kp.low z l r p u;refine⟨rfl,?_⟩;have B:=yc kp u bar;refine ji (c:=bar<p) (λq=>?_) (λq=>?_)
    .rw[aF q]at B;exact⟨rfl,_,rfl,mf Q,by rw[jV fo mf l S.af rfl,el];rfl,iN S.af l,i1,l,Q,c+1,_,_,_,rfl,el,by rw[L,B];congr 1;show _+1+c=_;lia,rfl,rfl⟩
    .rw[aD q]at B;exact⟨rfl,_,rfl,mf O,by rw[jV fo mf r S.af rfl,er];rfl,iN S.af r,i2,r,O,c+1,_,_,_,rfl,er,by rw[L,B];congr 1;show _+1+c=_;lia,rfl,rfl⟩
def j8:o7 P w K mg ah eV "takes_by_names" 2 (pA jM) (jg<|J6 eV):=G6 "Stand.takes_by_names" 331 mM ["self","told","name","parts","left","right","place"] λF C=>by
 refine lC F C ⟨_,λhr=>(ag (qS 1 C.nd y8)
  (ag (lF bF rfl (AB<|fE ai.cl ai.gz<|dv 0) (nK 2<|hV (qT 2 C.nd)<|hV (qT 3 C.nd) nM)
  (eX (gQ (zJ<|dv 3)
  (eX<|lh aax (jZ aax (fE ai.cl ai.iX<|dv 0) aaP λ_ _=>rfl) ZJ<|dv 2)
  (ag (jq aar<|nK 3<|hV (qT 4 C.nd)<|hV (qT 5 C.nd)<|hV (qT 6 C.nd) nM)
  (eX<|lh aax (qC Lw hr<|a3 (jZ aax ZJ (dv 4) λ_ _=>rfl) (jZ aax ZJ (dv 5) λ_ _=>rfl)<|dv 6) ZJ<|dv 2)))))
  (eX<|fm<|vP<|dv 1))),λds u Kd h hm hl=>?_⟩
 obtain⟨x,rfl,S,m,rfl,wf,kk⟩:=dJ h;refine⟨rfl,_,rfl,λ_=>?_⟩;have nd:=wf.kp.nd;have iu:=wf.iu;have ei:List.zipWith (λk d=>D.tup [ou k,d]) (S.af.map λp=>fG p.1) (S.af.map λp=>mf p.2)=S.af.map λp=>D.tup [.str p.1,mf p.2]:=by obtain⟨e1,e2⟩:=gY fG mf S.af;rw[e1,e2,xo,aQ];rfl
 show wA _ _ _ _ (List.zipWith (λk d=>D.tup [ou k,d]) (S.af.map λp=>fG p.1)<|S.af.map λp=>mf p.2) _ _;rw[ei];refine gR (λds I j=>∃(pre c:az aak) (Q O M L J:aA D),S.af=pre++c/\ds=c.map (λp=>D.tup [.str p.1,mf p.2])/\I=[some (jL eV S),some (.mr u.length),Q,O,M,L,J]/\j=u++[.gP ((pre.map λp=>(p.1,gb S.af p.1)).map λp=>fG p.1) ((pre.map λp=>(p.1,gb S.af p.1)).map λp=>iI p.2)]) ⟨[],S.af,none,none,none,none,none,rfl,rfl,rfl,rfl⟩ ?_ ?_
 .rintro d G5 I j ⟨pre,c,Q,O,M,L,J,hs,e1,rfl,rfl⟩;refine⟨trivial,λnx Y=>?_⟩;cases c with
  |nil=>cases e1
  | cons p c =>
   obtain⟨z,y⟩:=p;cases e1;have hz:z∉pre.map (·.1):=λq=>by rw[hs,aM,cv]at nd;exact nd.2.2 z q z (List.mem_map.mpr ⟨_,aE,rfl⟩) rfl
   have E:fc S.af z=some y:=gB nd (by rw[hs];exact aW _ aE);have ix:iN S.af z=pre.length:=by unfold iN;rw[hs,aM,dh,aD hz,aJ,cD,show((z,y).1==z)=true from cX _,fI];simp
   have lp:pre.length<S.af.length:=by rw[hs,i8,aY];lia
   have g:∀ w:Str,iN S.af w<pre.length->fc aaR w=some (gb S.af w):=λw U=>by
    have Z:w∈pre.map (·.1):=by
     unfold iN at U;rw[hs,aM,dh]at U;by_cases q:w∈pre.map Zx
     .exact q
     .rw[aD q,fI]at U;lia
    obtain⟨p,hp,rfl⟩:=List.mem_map.mp Z;have R:((pre.map λp=>(p.1,gb S.af p.1)).map Zx).Nodup:=by rw[aQ];rw[hs,aM,cv]at nd;exact nd.1
    exact gB R (List.mem_map.mpr ⟨p,hp,rfl⟩)
   have hn:fc aaR z=none:=by
    cases q:fc aaR z with
    |none=>rfl
    | some w =>have:=fV.mp (show(fc aaR z).isSome=true by rw[q];rfl);rw[aQ]at this;exact absurd this hz
   have fin:∀(v:Tk) (w1 w2 w3 w4 w5:aA D),v=gb S.af z->∃ H B:az aap,(u++[MO.gP ((pre.map λp=>(p.1,gb S.af p.1)).map λp=>fG p.1) ((pre.map λp=>(p.1,gb S.af p.1)).map λp=>iI p.2)])[u.length]?=some (.gP (H.map Zx) (H.map ZI))/\H.length<sizeLine/\(mC<|.str z).map (λk=>dput H k<|iI v)=some B/\nx [some (jL eV S),some (.mr u.length),w1,w2,w3,w4,w5] ((u++[MO.gP ((pre.map λp=>(p.1,gb S.af p.1)).map λp=>fG p.1) ((pre.map λp=>(p.1,gb S.af p.1)).map λp=>iI p.2)]).set u.length (.gP (B.map Zx) (B.map ZI))):=λv w1 w2 w3 w4 w5 hv=>by
    obtain⟨e1,e2⟩:=gY fG iI aaR;refine⟨_,_,by rw[gi,e1,e2],?_,rfl,?_⟩
    .rw[fI,fI];exact aR lp (sz<|by lia)
    .show nx _ ((_++[_]).set _ (.gP ((dput _ (fG z)<|iI v).map Zx) ((dput _ (fG z)<|iI v).map ZI)));rw[CO fo iI z v,mK hn,gr];refine Y _ _ ⟨pre++[(z,y)],c,_,_,_,_,_,by rw[hs,aS];rfl,rfl,rfl,?_⟩;have e3:(pre++[(z,y)]).map (λp=>(p.1,gb S.af p.1))=pre.map (λp=>(p.1,gb S.af p.1))++[(z,v)]:=by rw[aM,hv];rfl
     rw[e3,<- (gY fG iI _).1,<- (gY fG iI _).2]
   refine⟨rfl,?_⟩;cases y with
   | fst b a =>refine⟨rfl,_,rfl,iI (b,a),by rw[jV fo iI z (fA S.af) rfl,lI nd,E];rfl,fin (b,a) _ _ _ _ _ (ya E).symm⟩
   | jn l r p =>obtain⟨i1,i2⟩:=wf.kp.low z l r p E;obtain⟨⟨yl,el⟩,⟨yr,er⟩⟩:=wf.kp.there E;obtain⟨p1,p2⟩:=wf.js z l r p E;obtain⟨t1,_⟩:=wV wf l yl el;obtain⟨t2,_⟩:=wV wf r yr er;have n2:=wf.n2;refine⟨rfl,iI<|gb S.af l,by rw[vv fo iI l _ rfl EK,g l Zs];rfl,iI<|gb S.af r,by rw[vv fo iI r _ rfl EK,g r Zs];rfl,?_⟩;exact⟨gb S.af l,gb S.af r,rfl,rfl,rfl,rfl,by lia,by lia,by lia,fin _ _ _ _ _ _ (Dq wf.kp E).symm⟩
 .rintro I j ⟨pre,c,Q,O,M,L,J,hs,e1,rfl,rfl⟩;cases c with
  |cons p c=>cases e1
  | nil =>rw[bH]at hs;refine⟨trivial,_,_,gi,λo fM hks=>?_⟩;rw[gr];refine Fz.ki aaa gi (iM λd hd=>by obtain⟨q,_,rfl⟩:=List.mem_map.mp hd;exact⟨trivial,trivial,trivial⟩) (gM hm) ?_;rw[bp,hks,<- hs];exact kk
def rL:kO P w K mg ah eV "take" 3 (pA qy) (nj<|JV eV ub):=tY "Stand.take" 338 mM ["self","name"] λF u=>by
 refine F.ui u (λq g B y h=>CB h) (λr A fb s H E hr d C Z=>⟨_,(ag (gD<|je Z.z gT ai.cl hr.le ZM<|a1<|dv 1)
  (eX<|fm<|jZ aax (fR j8 ai.cl hr.le<|dv 0) ZJ λ_ _=>rfl)),λq g m B y hm hl a h o=>?_⟩)
 obtain⟨x,nm,rfl,h⟩:=dJ h;obtain⟨_,S,j,rfl,wf,kk⟩:=h;refine⟨⟨rfl,rfl⟩,fP a,⟨_,fP a⟩,S,rfl,?_⟩;cases e:fc S.af nm with
 |none=>rw[e]at kk;exact(fY o a kk).2
 | some x =>
  rw[e]at kk;have c:((uG S.af).map Zx).Nodup:=by unfold uG;rw[aQ];exact wf.kp.nd
  have p:fc (uG S.af) nm=some (gb S.af nm):=gB c<|List.mem_map.mpr ⟨_,rG e,rfl⟩;exact⟨⟨rfl,rfl⟩,S,j,rfl,wf,iI<|gb S.af nm,by rw[jV fo iI nm (uG S.af) rfl,p];rfl,.keep<|jW a kk⟩
def kG:o7 P w K mg ah eV "shelf" 3 (pA ph) (jg<|Nk eV):=G6 "Stand.shelf" 343 mM ["self","cuts"] λF c=>by
 refine lC F c ⟨_,λhr=>(ag (Ma 1 false c.nd (pJ (N:=["place","self"]) (js:=[none,some 0]) c<|by decide +kernel) (oy rfl T.range<|a2 eS<|fE ai.cl ai.h8<|dv 0) ZC (λ_ _ _=>(mQ<|qp aax ZM (fE ai.cl ai.ju<|dv 1)<|by with_unfolding_all rfl)) λ_ _ _=>ZM)
  (eX<|fm<|gN<|a3 (fE ai.cl ai.h8<|dv 0) ZJ<|CP false rfl ZO T.list<|fR j8 ai.cl hr.le<|dv 0)),λg d j h hm hl=>?_⟩
 obtain⟨x,rfl,S,m,rfl,wf,kk⟩:=dJ h;have n1:=wf.n1;have n2:=wf.n2;refine⟨rfl,_,rfl,⟨by decide,by decide,by lia,by lia⟩,sz (by rw[jt];lia),?_⟩;rw[DW];refine iy trivial D.int (λp=>if(fc S.gs p).isSome=true then none else some (D.int p)) (λp _ o a=>?_) ?_
 .refine⟨rfl,_,rfl,_,jV jw aay p S.gs rfl,?_⟩;cases e:fc S.gs p with
  |none=>rw[e]at a;exact a
  |some x=>rw[e]at a;exact a
 .rw[Ah];refine⟨rfl,_,rfl,⟨rfl,rfl⟩,S,m,rfl,wf,eT rfl ⟨zs,.keep ?_⟩⟩;have e:(uG S.af).map (λp=>iI p.2)=(gU S).map iI:=by unfold uG gU;rw[aQ,aQ];rfl
  rw[e];exact kk
def tK:qg P w K mg ah "check_age" 1 (pA sJ) (nj<|OY ub):=KN 417 mM ["age"] λF u=>by
 refine F.ui u (λp o y x h=>GB h) (λr A fb s H E hr j B Z=>⟨_,(eX (gQ (PW.pt<|tP (G2 ZM eS)<|nY<|G3 ZM<|y6 rfl Lp)
  (eX<|iC Z rfl Ln aG Zu aG rfl (a1 fJ))
  gu)),λp o m y x hm hl d h g=>?_⟩)
 obtain⟨a,rfl,h⟩:=dJ h;obtain⟨_,kk⟩:=h;unfold nH at kk;refine ji (c:=a<0) (λq=>⟨zs,fY g d aaL⟩) (λq1=>ji (c:=20<a) (λq=>⟨zs,fY g d aaL⟩) λq2=>.keep<|jW d (by rw[aF Zs]at kk;exact kk))
def ma:qg P w K mg ah "check_place" 1 (pA pf) (nj<|EE eV ub):=KN 424 mM ["stand","place"] λF u=>by
 refine F.ui u (λo j B y h=>AM h) (λr A fb s H E hr g C Z=>⟨_,(eX (gQ (PW.pt<|tP (G2 ZJ eS)<|nY<|W0 ZJ<|fE ai.cl ai.h8<|dv 0)
  (eX<|iC Z rfl C6 aG Zu aG rfl (a1 fJ))
  gu)),λo j m B y hm hl a h d=>?_⟩)
 obtain⟨x,p,rfl,h⟩:=dJ h;obtain⟨_,S,rfl,kk⟩:=h;unfold iV at kk;refine ji (c:=p<1) (λq=>⟨zs,fY d a aaL⟩) (λq1=>⟨rfl,_,rfl,ji (c:=S.n<=p) (λq=>⟨zs,fY d a aaL⟩) λq2=>.keep<|jW a (by rw[aF Zs]at kk;exact kk)⟩)
def tJ:qg P w K mg ah "check_new" 1 (pA sI) (nj<|UN eV ub):=KN 410 mM ["stand","name"] λF B=>by
 refine F.ui B (λO μ C u h=>J0 h) (λQ A fb s H E hr J U Z=>⟨_,(ag (gQ (PW.pt<|tP (G2 (tr T<|dv 1) eS)<|tP (G3 (tr T<|dv 1)<|y6 rfl vW)<|nY<|lE<|hG<|kj (NX rfl) yf ZO T.all dD<|a1<|tX false (pJ (N:=["sign"]) (js:=[none]) B<|by decide +kernel) (Uo<|dv 1) ZC ZR λ_ _ _=>(NH xl xl Hz Hz fJ ZM fJ))
  (eX<|iC Z rfl GW aG Zu aG rfl (a1 fJ))
  gu)
  (ag (gQ (Hr aax ZJ (fE ai.cl ai.gz<|dv 0)<|by with_unfolding_all rfl)
  (eX<|iC Z rfl N3 aG Zu aG rfl (a1 fJ))
  gu)
  (eX (gQ (W0 (kj W6 LZ ZO T.len eM<|a1<|fE ai.cl ai.gz<|dv 0)<|y6 rfl zo)
  (eX<|iC Z rfl Sb aG Zu aG rfl (a1 fJ))
  gu)))),λO μ m C u hm hl em h hK=>?_⟩)
 obtain⟨x,nm,rfl,h⟩:=dJ h;obtain⟨_,R,S,rfl,kk⟩:=h;have sl:nm.length<=sizeLine:=sz Zs;unfold oY at kk;have bad:iL nm=false->u (.ref vT) μ:=λq=>by rw[aF q]at kk;exact kk
 refine⟨sl,ji (c:=((nm.length:Nat):Int)<1) (λq=>⟨zs,fY hK em<|bad ?_⟩) λq1=>⟨sl,ji (c:=(8:Int)<((nm.length:Nat):Int)) (λq=>⟨zs,fY hK em<|bad ?_⟩) λq2=>?_⟩⟩
 .unfold iL;rw[aO (show ¬ 1<=nm.length by lia)];rfl
 .unfold iL;rw[aO (show ¬ nm.length<=8 by lia),dO];rfl
 refine⟨by rw[fI];exact sl,iJ trivial (λc:Nat=>D.str ⟨#[c]⟩) (λc=>D.bl<|decide (97<=c)&&decide (c<=122)) (λc _ I k'=>?_) ?_⟩
 .have e1:(!decide (([c]:az Nat)<[97]))=decide (97<=c):=by rw[Vv];by_cases q:97<=c <;> simp[q]<;> lia
  have M:(!decide (([122]:az Nat)<[c]))=decide (c<=122):=by rw[Vv];by_cases q:c<=122<;>simp[q]<;> lia
  show if(!decide (([c]:az Nat)<[97]))=true then I (some<|.bl<|!decide (([122]:az Nat)<[c])) _ else I (some<|.bl false) _
  rw[e1,M]
  cases q:decide (97<=c)with
  |true=>rw[q]at k';exact k'
  |false=>rw[q]at k';exact k'
 .refine⟨nm.cps.toList.map λc=>decide (97<=c)&&decide (c<=122),by rw[aQ];rfl,?_⟩;have L:((nm.cps.toList.map λc=>decide (97<=c)&&decide (c<=122)).all id)=iL nm:=by rw[IT q1 q2,List.all_map];rfl
  show if(!((nm.cps.toList.map λc=>decide (97<=c)&&decide (c<=122)).all id))=true then _ else _;rw[L];cases y:iL nm with
  |false=>exact⟨zs,fY hK em<|bad y⟩
  | true =>
   rw[aD (by rw[y];exact λz=>nomatch z)]at kk;refine⟨rfl,_,rfl,_,jV fo mf nm S.af rfl,?_⟩;unfold jx at kk;cases e:fc S.af nm with
   |some x=>rw[e]at kk;exact⟨zs,fY hK em kk⟩
   | none =>
    rw[e]at kk;refine⟨rfl,_,rfl,eT rfl ?_⟩;have kk:uh _ C u (if 20<=S.af.length then some 10 else none) .fX μ:=kk;refine ji (c:=(20:Int)<=((S.af.map λp=>fG p.1).length:Nat)) (λq=>⟨zs,fY hK em ?_⟩) (λq=>.keep<|jW em ?_)
    .rw[fI]at q;rw[aF Zs]at kk;exact kk
    .rw[fI]at q;rw[aD Zs]at kk;exact kk
def VR:qg P w K mg ah "put" 6 (pA Ot) (nj<|m5 eV ub 0):=KN 357 mM ["stand","row","word","name","bars","age","made_of"] λF j=>by
 refine F.ui j (λL o p r h=>jE h) (λM A fb s H E hr C U Z=>⟨_,(ag (jq ZJ<|nK 4<|hV (qT 2 j.nd)<|hV (qT 3 j.nd)<|hV (qT 4 j.nd)<|hV (qT 5 j.nd) nM)
  (ag (gD<|lZ Z.z tJ hr.le rfl (a2 ZM<|dv 3))
  (ag (gQ (lE<|hG<|qC GZ hr<|a2 (fE ai.cl ai.h8<|dv 0)<|dv 4)
  (eX<|iC Z rfl xW aG Zu aG rfl (a1 fJ))
  gu)
  (ag (gD<|lZ Z.z tK hr.le rfl (a1<|dv 5))
  (ag (qS 6 j.nd<|qC kA hr<|a3 (fE ai.cl ai.gz<|dv 0) aar tq)
  (eX<|fm<|y7<|oE gq hr.le rfl (eW (fE ai.cl ai.h8<|dv 0)<|eW (dv 6)<|eW (qC kA hr<|a3 (fE ai.cl ai.iX<|dv 0) aar<|gN<|a2 (dv 4)<|dv 5)<|eW (fE ai.cl ai.ju<|dv 0) gg))))))),λL o m p r hm hl g h u=>?_⟩)
 obtain⟨x,y,rfl,h⟩:=dJ h;obtain⟨_,S,d,Q,rfl,rfl,I,wf,J,fO,kk⟩:=h;obtain⟨nm,b,a,rfl⟩:∃ nm b a,d=.put nm b a:=by cases d<;>first|exact⟨_,_,_,rfl⟩|cases I
 have iu:=wf.iu;refine⟨rfl,fP g,⟨_,fP g⟩,fO.1,S,rfl,?_⟩;have kk:uh _ p r ((oY S nm).or<|if((b.length:Nat):Int)=S.n/\LC b=true then nH a else some 0) (jL eV<|m7 S<|.put nm b a) o:=kk;cases e:oY S nm with
 |some i=>rw[e]at kk;exact(fY u g kk).2
 | none =>
  rw[e]at kk;refine⟨rfl,_,rfl,fO.2,QV (c:=((b.length:Nat):Int)=S.n/\LC b=true) (λq=>⟨zs,fY u g ?_⟩) λq=>?_⟩
  .have kk:uh _ p r aaS (jL eV<|m7 S<|.put nm b a) o:=kk;rw[aD q]at kk;exact kk
  .have kk:uh _ p r aaS (jL eV<|m7 S<|.put nm b a) o:=kk;rw[aF q]at kk;refine⟨fP g,⟨_,fP g⟩,?_⟩;cases B:nH a with
   |some i=>rw[B]at kk;exact(fY u g kk).2
   | none =>rw[B]at kk;obtain⟨n1,n2,O⟩:=r8 e;refine⟨rfl,_,rfl,_,_,(gY fG mf S.af).1,(gY fG mf S.af).2,by rw[kd_len];lia,rfl,?_⟩;have R:(fA S.af).length<=20:=aT (dj _ _) iu;refine⟨rfl,_,rfl,rfl,_,rfl,zs,_,_,(gY fG iI<|fA S.af).1,(gY fG iI<|fA S.af).2,by rw[kd_len];lia,rfl,rfl,_,rfl,gi,rfl,?_⟩;rw[gr];refine Fz.obj aaa gi ⟨trivial,mX (F4 sT _) trivial,mX (F4 qm _)<|qm (b.cps.toList,a),Am _,trivial⟩ (gM hm) ?_;rw[bp];have kk:p (.obj eV LB [.int S.n,pH fG mf (g0 S.af nm<|.fst b.cps.toList a),pH fG iI (fA<|g0 S.af nm<|.fst b.cps.toList a),L6 S.gs]) o:=kk;rw[Cv wf.kp.nd n2,<- Fx fo mf,<- Fx fo iI]at kk;exact .keep (jW g kk)
def So:qg P w K mg ah "join" 6 (pA HK) (nj<|m5 eV ub 1):=KN 364 mM ["stand","row","word","name","left","right","place"] λF c=>by
 refine F.ui c (λQ g o q h=>jE h) (λR A fb s H E hr L Kb Z=>⟨_,(ag (jq ZJ<|nK 5<|hV (qT 2 c.nd)<|hV (qT 3 c.nd)<|hV (qT 4 c.nd)<|hV (qT 5 c.nd)<|hV (qT 6 c.nd) nM)
  (ag (gD<|lZ Z.z tJ hr.le rfl (a2 ZM<|dv 3))
  (ag (gD<|je Z.z gT ai.cl hr.le ZM<|a1<|dv 4)
  (ag (gD<|je Z.z gT ai.cl hr.le ZM<|a1<|dv 5)
  (ag (gD<|lZ Z.z ma hr.le rfl (a2 ZM<|dv 6))
  (ag (gQ (Hr aax (dv 6) (fE ai.cl ai.ju<|dv 0)<|by with_unfolding_all rfl)
  (eX<|iC Z rfl Sa aG Zu aG rfl (a1 fJ))
  gu)
  (eX<|fm<|y7<|oE gq hr.le rfl (eW (fE ai.cl ai.h8<|dv 0)<|eW (qC kA hr<|a3 (fE ai.cl ai.gz<|dv 0) aar<|gN<|a3 (dv 4) (dv 5)<|dv 6)<|eW (fE ai.cl ai.iX<|dv 0)<|eW (fE ai.cl ai.ju<|dv 0) gg)))))))),λQ g m o q hm hl a h j=>?_⟩)
 obtain⟨x,y,rfl,h⟩:=dJ h;obtain⟨_,S,d,m',rfl,rfl,M,wf,O,fO,kk⟩:=h;obtain⟨nm,l,r,p,rfl⟩:∃ nm l r p,d=.join nm l r p:=by cases d<;>first|exact⟨_,_,_,_,rfl⟩|cases M
 have iu:=wf.iu;refine⟨rfl,fP a,⟨_,fP a⟩,fO,S,rfl,?_⟩;have kk:uh _ o q ((oY S nm).or<|if jx S l=false then some 11 else if jx S r=false then some 11 else(iV S p).or (if(fc S.gs p).isSome=true then some 12 else none)) (jL eV<|m7 S<|.join nm l r p) g:=kk;cases e:oY S nm with
 |some i=>rw[e]at kk;exact(fY j a kk).2
 | none =>
  rw[e]at kk;have kk:uh _ o q (if jx S l=false then some 11 else if jx S r=false then some 11 else(iV S p).or (if(fc S.gs p).isSome=true then some 12 else none)) (jL eV<|m7 S<|.join nm l r p) g:=kk;refine⟨⟨rfl,rfl⟩,fP a,⟨_,fP a⟩,S,rfl,?_⟩;unfold jx at kk;cases C:fc S.af l with
  |none=>rw[C]at kk;exact(fY j a kk).2
  | some Y =>
   rw[C]at kk;refine⟨⟨rfl,rfl⟩,fP a,⟨_,fP a⟩,S,rfl,?_⟩;cases B:fc S.af r with
   |none=>rw[B]at kk;exact(fY j a kk).2
   | some U =>
    rw[B]at kk;have kk:uh _ o q ((iV S p).or<|if(fc S.gs p).isSome=true then some 12 else none) (jL eV<|m7 S<|.join nm l r p) g:=kk;refine⟨fP a,⟨_,fP a⟩,S,rfl,?_⟩;cases J:iV S p with
    |some i=>rw[J]at kk;exact(fY j a kk).2
    | none =>
     rw[J]at kk;refine⟨rfl,_,rfl,_,jV jw aay p S.gs rfl,?_⟩;cases I:fc S.gs p with
     |some u=>rw[I]at kk;exact⟨zs,fY j a kk⟩
     | none =>rw[I]at kk;obtain⟨n1,n2,n3⟩:=r8 e;refine⟨rfl,_,rfl,rfl,_,rfl,zs,_,_,(gY fG mf S.af).1,(gY fG mf S.af).2,by rw[kd_len];lia,rfl,rfl,_,rfl,rfl,_,rfl,gi,rfl,?_⟩;rw[gr];refine Fz.obj aaa gi ⟨trivial,mX (F4 sT _)<|sT<|.jn l r p,sV qm _,Am _,trivial⟩ (gM hm) ?_;rw[bp];have kk:o (.obj eV LB [.int S.n,pH fG mf (g0 S.af nm<|.jn l r p),pH fG iI (fA<|g0 S.af nm<|.jn l r p),L6 S.gs]) g:=kk;rw[Gv n2,<- Fx fo mf]at kk;exact .keep (jW a kk)
def Oa:qg P w K mg ah "found" 6 (pA DP) (nj<|m5 eV ub 2):=KN 371 mM ["stand","row","word","name","bar","sign","first","copies","bars","age","heard"] λF j=>by
 refine F.ui j (λU q r B h=>jE h) (λY A fb s H E hr J Kb Z=>⟨_,(ag (jq ZJ<|nK 4<|hV (qT 2 j.nd)<|hV (qT 3 j.nd)<|hV (qT 4 j.nd)<|hV (qT 5 j.nd) nM)
  (ag (jq (je Z.z oK ai.cl hr.le ZM<|a2 aar<|dv 4)<|nK 2<|hV (qT 6 j.nd)<|hV (qT 7 j.nd) nM)
  (ag (gQ (PW.pt<|ml (V8 (dv 5) fJ)<|kR<|V8 (dv 5) fJ)
  (eX<|iC Z rfl xW aG Zu aG rfl (a1 fJ))
  gu)
  (ag (jq (jZ aax (fE ai.cl ai.iX<|dv 0) (dv 6) λ_ _=>rfl)<|nK 2<|hV (qT 8 j.nd)<|hV (qT 9 j.nd) nM)
  (ag (qS 10 j.nd<|gN<|a2 (mO (mO (jd false (dv 8) tQ<|iD<|dv 4)<|dv 5)<|jd false (dv 8) (iD<|mO (dv 4) eS) tQ)<|dv 9)
  (eX<|fm<|y7<|oE gq hr.le rfl (eW (fE ai.cl ai.h8<|dv 0)<|eW (fE ai.cl ai.gz<|dv 0)<|eW (qC kA hr<|a3 (fE ai.cl ai.iX<|dv 0) (dv 6)<|dv 10)<|eW (fE ai.cl ai.ju<|dv 0) gg))))))),λU q m r B hm hl o h u=>?_⟩)
 obtain⟨x,y,rfl,h⟩:=dJ h;obtain⟨_,S,d,m',rfl,rfl,M,wf,O,fO,kk⟩:=h;obtain⟨nm,bar,g,rfl⟩:∃ nm bar g,d=.found nm bar g:=by cases d<;>first|exact⟨_,_,_,rfl⟩|cases M
 have iu:=wf.iu;have n2:=wf.n2;refine⟨rfl,⟨rfl,rfl⟩,fP o,⟨_,fP o⟩,S,rfl,wf.kp,?_⟩;have kk:uh _ r B (if jx S nm=false then some 11 else if 0<=bar/\bar<S.n then(if g = "o"\/g = "x" then none else some 0)else some 6) (jL eV<|m7 S<|.found nm bar g) q:=kk;unfold jx at kk;cases e:fc S.af nm with
 |none=>rw[e]at kk;exact(fY u o kk).2
 | some x =>
  rw[e]at kk;have kk:uh _ r B (if 0<=bar/\bar<S.n then(if g = "o"\/g = "x" then none else some 0)else some 6) (jL eV<|m7 S<|.found nm bar g) q:=kk;by_cases hb:0<=bar/\bar<S.n
  .rw[aF hb]at kk;show(if 0<=bar/\bar<S.n then _ else _);rw[aF hb];refine⟨rfl,?_⟩;by_cases hs:g = "o"\/g = "x"
   .rw[aF hs]at kk;obtain⟨b,a,ef⟩:=yd wf.kp bar nm x e;obtain⟨f1,f2,f3,f4⟩:=wf.fs _ b a ef;obtain⟨o1,C⟩:=BS hs;have lf:(fA S.af).length<=20:=aT (dj _ _) iu;have kk:r (.obj eV LB [.int S.n,pH fG mf (yL S.af (gE S.af nm bar).1 bar g),pH fG iI (fA<|yL S.af (gE S.af nm bar).1 bar g),L6 S.gs]) q:=kk;unfold yL at kk;rw[ef]at kk;dsimp only at kk;rw[vH wf.kp.nd ef,<- Fx fo iI,z7 ef wf.kp.nd]at kk;have L:g.length=1:=C;have I:(txt b).length<=sizeLine:=by rw[i9];exact sz Zs
    have c1:=oU b none<|some bar;have c2:=oU b (some<|bar+1) none;have Q:(⟨(ig b none<|some bar).toArray⟩++g++⟨(ig b (some<|bar+1) none).toArray⟩:Str)=txt (vw b bar g):=by rw[zb hb.1,sv (show 0<=bar+1 by lia),show(bar+1).toNat=bar.toNat+1 by lia];rw[zh,ng,aS];rfl
    have l1:(⟨(ig b none<|some bar).toArray⟩:Str).length+g.length<=sizeLine:=by rw[L];show(ig b none<|some bar).length+1<=_;exact sz Zs
    have l2:(⟨(ig b none<|some bar).toArray⟩++g:Str).length+(⟨(ig b (some<|bar+1) none).toArray⟩:Str).length<=sizeLine:=by rw[zh];show(ig b none (some bar)++g.cps.toList).length+(ig b (some<|bar+1) none).length<=_;rw[i8,C];exact sz Zs
    have R:MP ((fA S.af).map λp=>fG p.1) ((fA S.af).map λp=>iI p.2) (.str (gE S.af nm bar).1)=some (some<|iI (b,a)):=by rw[jV fo iI _ (fA S.af) rfl,lI wf.kp.nd,ef];rfl
    refine Um (c1:=g = "o") (c2:=g = "x") (λ_=>?_) (λz=>absurd hs z);refine⟨rfl,_,rfl,iI (b,a),R,rfl,I,l1,I,l2,zs,rfl,_,rfl,rfl,_,rfl,rfl,_,rfl,_,_,(gY fG iI<|fA S.af).1,(gY fG iI<|fA S.af).2,by rw[kd_len];lia,rfl,rfl,_,rfl,gi,rfl,?_⟩;rw[gr];refine Fz.obj aaa gi ⟨trivial,sV sT _,mX (F4 qm _) ⟨trivial,trivial,trivial⟩,Am _,trivial⟩ (gM hm) ?_;rw[bp];refine .keep<|jW o ?_;show r (.obj eV LB [.int S.n,pH fG mf S.af,.ki ((dput _ _<|.tup [.str (⟨(ig b none<|some bar).toArray⟩++g++⟨(ig b (some<|bar+1) none).toArray⟩),.int a]).map Zx) ((dput _ _<|.tup [.str (⟨(ig b none<|some bar).toArray⟩++g++⟨(ig b (some<|bar+1) none).toArray⟩),.int a]).map ZI),L6 S.gs]) q;rw[Q];exact kk
   .rw[aD hs]at kk;exact AA (c:=g = "o") (λq1=>AA (c:=g = "x") (λq2=>⟨zs,fY u o kk⟩) λq2=>absurd (.inr q2) hs) (λq1=>absurd (.inl q1) hs)
  .rw[aD hb]at kk;show(if 0<=bar/\bar<S.n then _ else _);rw[aD hb];exact(fY u o kk).2
def Sv:qg P w K mg ah "aged" 6 (pA HR) (nj<|m5 eV ub 3):=KN 378 mM ["stand","row","word","name","age","bars","before"] λF g=>by
 refine F.ui g (λL j o u h=>jE h) (λM A fb s H E hr C R Z=>⟨_,(ag (jq ZJ<|nK 3<|hV (qT 2 g.nd)<|hV (qT 3 g.nd)<|hV (qT 4 g.nd) nM)
  (ag (gQ (uI<|je Z.z md ai.cl hr.le ZM<|a1<|dv 3)
  (eX<|iC Z rfl Ll aG Zu aG rfl (a1 fJ))
  gu)
  (ag (gD<|lZ Z.z tK hr.le rfl (a1<|dv 4))
  (ag (jq (jZ aax (fE ai.cl ai.iX<|dv 0) aar λ_ _=>rfl)<|nK 2<|hV (qT 5 g.nd)<|hV (qT 6 g.nd) nM)
  (eX<|fm<|y7<|oE gq hr.le rfl (eW (fE ai.cl ai.h8<|dv 0)<|eW (fE ai.cl ai.gz<|dv 0)<|eW (qC kA hr<|a3 (fE ai.cl ai.iX<|dv 0) aar<|gN<|a2 (dv 5)<|dv 4)<|eW (fE ai.cl ai.ju<|dv 0) gg)))))),λL j m o u hm hl c h q=>?_⟩)
 obtain⟨x,y,rfl,h⟩:=dJ h;obtain⟨_,S,d,O,rfl,rfl,I,wf,J,fO,kk⟩:=h;obtain⟨nm,a,rfl⟩:∃ nm a,d=.rH nm a:=by cases d<;>first|exact⟨_,_,rfl⟩|cases I
 have iu:=wf.iu;have Q:(fA S.af).length<=20:=aT (dj _ _) iu;refine⟨rfl,⟨rfl,rfl⟩,fP c,⟨_,fP c⟩,S,rfl,?_⟩;have kk:uh _ o u (match fc S.af nm with|none=>some 11|some (.jn _ _ _)=>some 13|some (.fst _ _)=>nH a) (jL eV<|match fc S.af nm with|some (.fst b _)=>{ S with af:=g0 S.af nm aaX}|_=>S) j:=kk;cases e:fc S.af nm with
 |none=>rw[e]at kk;exact(fY q c kk).2
 | some x =>
  rw[e]at kk;cases x with
  |jn l r p=>exact⟨zs,fY q c kk⟩
  | fst b a0 =>
   refine⟨fP c,⟨_,fP c⟩,?_⟩;have kk:uh _ o u (nH a) (jL eV { S with af:=g0 S.af nm aaX}) j:=kk;cases B:nH a with
   |some i=>rw[B]at kk;exact(fY q c kk).2
   | none =>rw[B]at kk;refine⟨rfl,_,rfl,iI (b,a0),by rw[jV fo iI nm (fA S.af) rfl,lI wf.kp.nd,e];rfl,rfl,?_⟩;refine⟨rfl,_,rfl,rfl,_,rfl,rfl,_,rfl,zs,_,_,(gY fG iI<|fA S.af).1,(gY fG iI<|fA S.af).2,by rw[kd_len];lia,rfl,rfl,_,rfl,gi,rfl,?_⟩;rw[gr];refine Fz.obj aaa gi ⟨trivial,sV sT _,mX (F4 qm _)<|qm (b,a),Am _,trivial⟩ (gM hm) ?_;rw[bp];have kk:o (.obj eV LB [.int S.n,pH fG mf (g0 S.af nm<|.fst b a),pH fG iI (fA<|g0 S.af nm<|.fst b a),L6 S.gs]) j:=kk;rw[vH wf.kp.nd e,<- Fx fo iI,z7 e wf.kp.nd]at kk;exact .keep (jW c kk)
def Sr:qg P w K mg ah "drop" 6 (pA HM) (nj<|m5 eV ub 4):=KN 383 mM ["stand","row","word","name","made_of"] λF o=>by
 refine F.ui o (λds u B I h=>jE h) (λtx A fb s H E hr R Kb Z=>⟨_,(ag (jq ZJ<|nK 2<|hV (qT 2 o.nd)<|hV (qT 3 o.nd) nM)
  (ag (gD<|je Z.z gT ai.cl hr.le ZM<|a1<|dv 3)
  (ag (gQ (hG<|kj (anyC rfl) yf ZO T.any PyProof.Rows.boot_any<|a1<|tX false (pJ (N:=["parts","name"]) (js:=[none,some 3]) o<|by decide +kernel) (Gh<|fE ai.cl ai.gz<|dv 0) ZC ZR λ_ _ _=>(EW (RB<|dv 0)<|EV<|xG Xf PJ ZJ (A6 ZM tQ<|iD eS)<|by with_unfolding_all rfl))
  (eX<|iC Z rfl Lk aG Zu aG rfl (a1 fJ))
  gu)
  (ag (qS 4 o.nd<|qC l9 hr<|a2 (fE ai.cl ai.gz<|dv 0)<|dv 3)
  (eX<|fm<|y7<|oE gq hr.le rfl (eW (fE ai.cl ai.h8<|dv 0)<|eW (dv 4)<|eW (qC l9 hr<|a2 (fE ai.cl ai.iX<|dv 0)<|dv 3)<|eW (fE ai.cl ai.ju<|dv 0) gg)))))),λds u m B I hm hl g h Q=>?_⟩)
 obtain⟨x,y,rfl,h⟩:=dJ h;obtain⟨_,S,d,m',rfl,rfl,hw,wf,hm',fO,kk⟩:=h;obtain⟨nm,rfl⟩:∃ nm,d=.drop nm:=by cases d<;>first|exact⟨_,rfl⟩|cases hw
 have iu:=wf.iu;have lf:(fA S.af).length<=20:=aT (dj _ _) iu;refine⟨rfl,⟨rfl,rfl⟩,fP g,⟨_,fP g⟩,S,rfl,?_⟩;have kk:uh _ B I aaz (jL eV { S with af:=i7 S.af nm}) u:=kk;unfold jx at kk;cases e:fc S.af nm with
 |none=>rw[e]at kk;exact(fY Q g kk).2
 | some x =>
  rw[e]at kk;have kk:uh _ B I (if pE S nm=true then some 14 else none) (jL eV { S with af:=i7 S.af nm}) u:=kk;refine⟨rfl,_,rfl,λ_=>⟨by rw[fI];exact sz<|by lia,iJ trivial (λp:Str×Pt=>mf p.2) (λp=>D.bl<|ox nm p.2) (λp _ K' M=>?_) ?_⟩⟩
  .obtain⟨z,y⟩:=p;cases y with
   |fst b a=>exact M
   | jn l r q =>
    refine⟨λy=>absurd y.2<|show ¬ (2:Nat)=3 by decide,rfl,rfl,?_⟩;have C:(false != ([D.str l,D.str r].any λd=>rA d<|.str nm))=ox nm (.jn l r q):=by rw[OP];simp only[cK,List.any_nil,rA,Bool.or_false];rfl
    show K' (some<|.bl<|false != ([D.str l,D.str r].any λd=>rA d<|.str nm)) _;rw[C];exact M
  .refine⟨S.af.map λp=>ox nm p.2,by rw[aQ];rfl,?_⟩;have C:((S.af.map λp=>ox nm p.2).any id)=pE S nm:=by rw[List.any_map];rfl
   show if((S.af.map λp=>ox nm p.2).any id)=true then _ else _;rw[C];by_cases q:pE S nm=true
   .rw[aF q]at kk ⊢
    exact⟨zs,fY Q g kk⟩
   .rw[aD q]at kk ⊢
    have J:∀ {c:Type} {f:c->D} {l:az (Str×c)},∀ p∈(l.map λp=>(fG p.1,f p.2)),(∃ i j,p.1=kM i/\fG nm=kM j)\/∃ i j,p.1=fG i/\fG nm=fG j:=λp hp=>by obtain⟨z,_,rfl⟩:=List.mem_map.mp hp;exact .inr ⟨_,_,rfl,rfl⟩
    have U:((fA S.af).map Zx).Nodup:=wf.kp.nd.sublist vG;refine⟨rfl,_,rfl,_,_,(gY fG mf S.af).1,(gY fG mf S.af).2,by rw[kd_len];lia,Jo fo mf wf.kp.nd,rfl,J,?_⟩;refine⟨rfl,_,rfl,rfl,_,rfl,_,_,(gY fG iI<|fA S.af).1,(gY fG iI<|fA S.af).2,by rw[kd_len];lia,Jo fo iI U,rfl,J,rfl,_,rfl,gi,rfl,?_⟩;rw[gr];have L:∀ {c:Type} {n:Nat} {f:c->D} (O:∀ b,sW n (f b)) (l:az (Str×c)),nO n (((l.map λp=>(fG p.1,f p.2)).filter λp=>decide (p.1≠fG nm)).map ZI):=λO l=>iM λd hd=>by obtain⟨z,Y,rfl⟩:=List.mem_map.mp hd;obtain⟨z2,_,rfl⟩:=List.mem_map.mp (List.mem_filter.mp Y).1;exact O _
    refine Fz.obj aaa gi ⟨trivial,L sT _,L qm _,Am _,trivial⟩ (gM hm) ?_;rw[bp];have kk:B (.obj eV LB [.int S.n,pH fG mf (i7 S.af nm),pH fG iI (fA<|i7 S.af nm),L6 S.gs]) u:=kk;rw[AH,<- Hg fo,<- Hg fo]at kk;exact .keep (jW g kk)
def Sq:qg P w K mg ah "free" 6 (pA HL) (nj<|m5 eV ub 5):=KN 390 mM ["stand","row","word","place"] λF Sc=>by
 refine F.ui Sc (λM μ Kd Kx h=>jE h) (λO A fb s H E hr u U Z=>⟨_,(ag (jq ZJ<|nK 2<|hV (qT 2 Sc.nd)<|hV (qT 3 Sc.nd) nM)
  (ag (gD<|lZ Z.z ma hr.le rfl (a2 ZM<|dv 3))
  (eX<|fm<|y7<|oE gq hr.le rfl (eW (fE ai.cl ai.h8<|dv 0)<|eW (fE ai.cl ai.gz<|dv 0)<|eW (fE ai.cl ai.iX<|dv 0)<|eW (qC l9 hr<|a2 (fE ai.cl ai.ju<|dv 0)<|dv 3) gg)))),λM μ m Kd Kx hm hl em h L=>?_⟩)
 obtain⟨x,y,rfl,h⟩:=dJ h;obtain⟨_,S,d,R,rfl,rfl,C,wf,J,fO,kk⟩:=h;obtain⟨p,rfl⟩:∃ p,d=.free p:=by cases d<;>first|exact⟨_,rfl⟩|cases C
 have shl:=wf.shl;refine⟨rfl,fP em,⟨_,fP em⟩,S,rfl,?_⟩;have kk:uh _ Kd Kx (iV S p) (jL eV { S with gs:=i7 S.gs p}) μ:=kk;cases e:iV S p with
 |some i=>rw[e]at kk;exact(fY L em kk).2
 | none =>
  rw[e]at kk;refine⟨rfl,_,rfl,rfl,_,rfl,rfl,_,rfl,rfl,_,rfl,_,_,(gY kM aay S.gs).1,(gY kM aay S.gs).2,by rw[fI];lia,Jo jw (λ_:Unit=>D.bl true) wf.PV,rfl,λq I=>?_,gi,rfl,?_⟩
  .obtain⟨z,_,rfl⟩:=List.mem_map.mp I;exact .inl ⟨_,_,rfl,rfl⟩
  rw[gr];refine Fz.obj aaa gi ⟨trivial,sV sT _,sV qm _,iM λd hd=>?_,trivial⟩ (gM hm) ?_
  .obtain⟨z,B,rfl⟩:=List.mem_map.mp hd;obtain⟨Q,_,rfl⟩:=List.mem_map.mp (List.mem_filter.mp B).1;exact True.intro
  rw[bp];have kk:Kd (.obj eV LB [.int S.n,pH fG mf S.af,pH fG iI (fA S.af),pH kM aay (i7 S.gs p)]) μ:=kk;rw[<- Hg jw]at kk;exact .keep (jW em kk)
def Sm:qg P w K mg ah "shut" 6 (pA HH) (nj<|m5 eV ub 6):=KN 397 mM ["stand","row","word","place"] λF Sc=>by
 refine F.ui Sc (λI μ Kd q h=>jE h) (λJ A fb s H E hr r M Z=>⟨_,(ag (jq ZJ<|nK 2<|hV (qT 2 Sc.nd)<|hV (qT 3 Sc.nd) nM)
  (ag (gD<|lZ Z.z ma hr.le rfl (a2 ZM<|dv 3))
  (eX<|fm<|y7<|oE gq hr.le rfl (eW (fE ai.cl ai.h8<|dv 0)<|eW (fE ai.cl ai.gz<|dv 0)<|eW (fE ai.cl ai.iX<|dv 0)<|eW (qC kA hr<|a3 (fE ai.cl ai.ju<|dv 0) aar su) gg)))),λI μ m Kd q hm hl em h C=>?_⟩)
 obtain⟨x,y,rfl,h⟩:=dJ h;obtain⟨_,S,d,L,rfl,rfl,u,wf,B,fO,kk⟩:=h;obtain⟨p,rfl⟩:∃ p,d=.gs p:=by cases d<;>first|exact⟨_,rfl⟩|cases u
 have shl:=wf.shl;refine⟨rfl,fP em,⟨_,fP em⟩,S,rfl,?_⟩;have kk:uh _ Kd q (iV S p) (jL eV { S with gs:=g0 S.gs p ()}) μ:=kk;cases e:iV S p with
 |some i=>rw[e]at kk;exact(fY C em kk).2
 | none =>rw[e]at kk;refine⟨rfl,_,rfl,rfl,_,rfl,rfl,_,rfl,rfl,_,rfl,_,_,(gY kM aay S.gs).1,(gY kM aay S.gs).2,by rw[fI];lia,rfl,gi,rfl,?_⟩;rw[gr];refine Fz.obj aaa gi ⟨trivial,sV sT _,sV qm _,mX (F4 (f:=λ_:Unit=>D.bl true) (λ_=>True.intro) _) True.intro,trivial⟩ (gM hm) ?_;rw[bp];have kk:Kd (.obj eV LB [.int S.n,pH fG mf S.af,pH fG iI (fA S.af),pH kM aay (g0 S.gs p ())]) μ:=kk;rw[<- Fx jw (λ_:Unit=>D.bl true)]at kk;exact .keep (jW em kk)
def v8:qg P w K mg ah "stand_behind" 7 (pA n8) (nj<|AO eV ub):=KN 405 mM ["stand","row","deed"] λF u=>by
 have Q:=ky VR VJ<|ky So Sg<|ky Oa N4<|ky Sv Sj<|ky Sr Si<|ky Sq Sh<|ky Sm Se KR;refine F.ui u (λL j q O h=>yU h) (λM A fb s H E hr c B Z=>⟨_,(ag (qS 2 u.nd<|U4 NZ rfl aaj λ_ _=>rfl)
  (eX<|fm<|NI (i:=2) Z.z Q hr.le rfl (by first|exact Or.inl rfl|exact Or.inr (Or.inl rfl)|exact Or.inr<|Or.inr rfl)<|a2 ZM<|dv 1)),λL j m q O hm hl g h J=>?_⟩)
 obtain⟨x,y,rfl,h⟩:=dJ h;obtain⟨_,S,d,C,rfl,rfl,wf,o,fO,kk⟩:=h;have kk:uh ub (gK c H m q) B (mV S d) (jL eV<|m7 S d) (j.set 0<|.gx c H):=by
  unfold uh at kk ⊢
  cases e:mV S d with
  |some i=>rw[e]at kk;exact(fY J g kk).2
  |none=>rw[e]at kk;exact jW g kk
 have fin:∀ w,XW d=w->m5 eV ub w [jL eV S,mG d] (j.set 0<|.gx c H) (BX (j.set 0<|.gx c H).length<|gK c H m q).rt B:=λw I=>⟨⟨_,fP g⟩,S,d,C,rfl,rfl,I,wf,o,fO,by
  unfold uh at kk ⊢
  cases e:mV S d with
  |some i=>rw[e]at kk;exact kk
  |none=>rw[e]at kk;exact .keep kk⟩
 cases d with
 |put nm b a=>exact eT rfl ⟨Lc,rfl,_,aE,fP g,fin 0 rfl⟩
 |join nm l r p=>exact eT rfl ⟨CZ,rfl,_,jJ _ aE,fP g,fin 1 rfl⟩
 |found nm b a=>exact eT rfl ⟨zi,rfl,_,jJ _<|jJ _ aE,fP g,fin 2 rfl⟩
 |rH nm b=>exact eT rfl ⟨C2,rfl,_,jJ _<|jJ _<|jJ _ aE,fP g,fin 3 rfl⟩
 |drop nm=>exact eT rfl ⟨C1,rfl,_,jJ _<|jJ _<|jJ _<|jJ _ aE,fP g,fin 4 rfl⟩
 |free nm=>exact eT rfl ⟨C0,rfl,_,jJ _<|jJ _<|jJ _<|jJ _<|jJ _ aE,fP g,fin 5 rfl⟩
 |gs nm=>exact eT rfl ⟨CY,rfl,_,jJ _<|jJ _<|jJ _<|jJ _<|jJ _<|jJ _ aE,fP g,fin 6 rfl⟩
def nF:Fp P w K mg ah "Room" fe 3 (pA nu) (nj<|ED fe eV ub):=Yq "Room.__init__" 450 mL ["self","size"] λF I=>by
 refine F.ui I (λB d x J h=>AL h) (λC A fb s H E hr a M Z=>⟨_,(ag (gQ (PW.pt<|tP (G2 ZJ eS)<|nY<|G3 ZJ<|y6 rfl GX)
  (eX<|iC Z rfl GV aG Zu aG rfl (a1 fJ))
  gu)
  (ag (o9 eY.cl eY.oj (iA true<|a1<|y7<|oE gq hr.le rfl (eW ZJ<|eW rC<|eW rC<|eW rC gg))<|dv 0)
  (ag (o9 eY.cl eY.mW (iA true gg)<|dv 0)
  (eX<|o9 eY.cl eY.jD eS<|dv 0)))),λB d m x J hm hl o h r=>?_⟩)
 obtain⟨k,n,rfl,h⟩:=dJ h;obtain⟨_,k0,u,kk⟩:=h;refine ji (c:=n<1) (λq=>⟨zs,fY r o aaL⟩) (λq1=>ji (c:=(40:Int)<n) (λq=>⟨zs,fY r o aaL⟩) λq2=>?_);rw[aF Zs]at kk;have hk:k<d.length:=(jA u).1;have g:k<(d.set 0<|.gx a H).length:=by rw[ba];exact hk
 have y:(d.set 0<|.gx a H)[k]?=some (.ins fe [] []):=by rw[aK (bB k0)];exact u
 refine⟨gi,rfl,?_⟩;rw[gr];refine Fz.obj aaa gi ⟨trivial,trivial,trivial,trivial,trivial⟩ (gM hm) ?_;rw[bp];refine⟨zs,_,_,fN (by rw[pF g];exact y),rfl,by decide,?_⟩;rw[dN _ _ g];refine⟨zs,?_⟩;have j:∀ X:MO,k<((d.set 0<|.gx a H).set k X).length:=λX=>by rw[ba];exact g
 refine⟨_,_,fN<|by rw[aS,pF (j _),aV g],rfl,by show 1<1000;decide,?_⟩;rw[aS,dN _ _ (j _),eQ];refine⟨_,_,fN<|by rw[pF (j _),aV g],rfl,by show 2<1000;decide,.keep ?_⟩;rw[dN _ _ (j _),eQ];have p:0<d.length:=(jA o).1;refine⟨by rw[pF (by rw[ba,ba];exact p),aK k0,aV p],?_⟩;rw[dN _ _ (by rw[ba,ba];exact p),di _ _ k0,yM o];have L:(d.set 0<|.gx a H).length=d.length:=ba;show x .fX (d.set k (.ins fe nG [.mr (d.set 0<|.gx a H).length,.mr ((d.set 0<|.gx a H).set k _++[_]).length,.int 0])++[.lst [jL eV ⟨n,[],[]⟩],.lst []]);simp only[i8,ba,aX];exact kk
def g8:o7 P w K mg ah fe "now" 1 (pA u0) (jg<|XI fe eV):=G6 "Room.now" 457 mL ["self"] λF g=>by refine lC F g ⟨_,λhr=>(eX<|fm<|fZ (fE eY.cl eY.oj<|dv 0)<|fE eY.cl eY.jD<|dv 0),λr j u h hm hl=>?_⟩;obtain⟨k,rfl,a,q,o,p,d,S,ra,c,kk⟩:=dJ h;exact⟨.mr a,by rw[fN ra.ins];rfl,.int d,by rw[fN ra.ins];rfl,eT (fT ra.l1)<|eT (oH c)<|Fz.keep kk⟩
def tN:kO P w K mg ah fe "deed" 8 (pA sP) (nj<|CH fe eV ub):=tY "Room.deed" 513 mL ["self","row","stand"] λF M=>by
 refine F.ui M (λds o O Kx h=>CG h) (λtx A fb s H E hr a Kb Z=>⟨_,(ag (qS 2 M.nd<|lZ Z.z v8 hr.le rfl (a2 (fR g8 eY.cl hr.le<|dv 0)<|dv 1))
  (ag (Oq (fE eY.cl eY.oj<|dv 0) (mO (fE eY.cl eY.jD<|dv 0) eS)<|iA false<|a1<|dv 2)
  (ag (Oq (fE eY.cl eY.mW<|dv 0) (fE eY.cl eY.jD<|dv 0)<|iA false<|a1<|dv 1)
  (eX<|DR eY.cl eY.jD ZM eS)))),λds o m O Kx hm hl x h R=>?_⟩)
 obtain⟨k,y,rfl,h⟩:=dJ h;obtain⟨_,c,g,q,r,d,S,e,ra,J,rfl,fO,iu,kk⟩:=h;have j:=ra.gx (m:=.gx a H);obtain⟨S',u,wf⟩:=ra.now;rw[J]at u;cases u;have:=ra.le;have:=ra.len;have Q:pw fe "now" (o.set 0<|.gx a H) (.mr k):=by show(kT _ _ _).map _=_;rw[fN j.ins];rfl
 refine⟨Q,c,g,q,r,d,S,j,J,fP x,⟨_,fP x⟩,S,e,d,rfl,rfl,wf,by lia,fO,?_⟩;unfold uh;cases L:mV S e with
 |some i=>rw[L]at kk;exact(fY R x kk).2
 | none =>
  rw[L]at kk;obtain⟨lk,la,lb⟩:=j.lk;have I:=ra.iu;have p:∀ {C:MS},C[k]?=some (.ins fe nG [.mr c,.mr g,.int (d:Int)])->kT fe C k=some (nG,[.mr c,.mr g,.int (d:Int)]):=λh=>fN h;refine⟨zs,.mr c,by rw[p j.ins];rfl,.int d,by rw[p j.ins];rfl,_,fT j.l1,by lia,by rw[fI];lia,by rw[fI];exact sz (by show _+1<=_;lia),?_⟩;have B:∀ X,((o.set 0<|.gx a H).set c X)[k]?=some (.ins fe nG [.mr c,.mr g,.int (d:Int)]):=λX=>by rw[aK (bB ra.ka)];exact j.ins
  refine⟨zs,.mr g,by rw[p (B _)];rfl,.int d,by rw[p (B _)];rfl,_,fT (by rw[aK ra.ab];exact j.l2),by lia,by rw[fI];lia,by rw[fI];exact sz (by show _+1<=_;lia),?_⟩;have i2:∀ X Y,(((o.set 0<|.gx a H).set c X).set g Y)[k]?=some (.ins fe nG [.mr c,.mr g,.int (d:Int)]):=λX Y=>by rw[aK (bB ra.kb)];exact B X
  refine⟨d,by rw[p (i2 _ _)];rfl,_,_,p<|i2 _ _,rfl,by show 3<1000;decide,.keep ?_⟩;obtain⟨g1,U⟩:=uc ra (m:=.gx a H) (ss':=q.take (d+1)++[m7 S e]) (rs':=r.take d++[e]) (d':=d+1) x;have eq:((((o.set 0<|.gx a H).set c<|.lst<|(q.map<|jL eV).take ((d:Int)+1).toNat++[jL eV (m7 S e)]).set g<|.lst<|(r.map mG).take (d:Int).toNat++[mG e]).set k<|.ins fe nG [.mr c,.mr g,.int ((d:Int)+1)])=jh fe eV (o.set 0<|.gx a H) k c g (q.take (d+1)++[m7 S e]) (r.take d++[e]) (d+1):=by unfold jh;rw[aM,aM,List.map_take,List.map_take,show((d:Int)+1).toNat=d+1 by lia,BA];rfl
  show gK a H m O .fX ((((o.set 0<|.gx a H).set c<|.lst<|(q.map<|jL eV).take ((d:Int)+1).toNat++[jL eV (m7 S e)]).set g<|.lst<|(r.map mG).take (d:Int).toNat++[mG e]).set k<|.ins fe nG [.mr c,.mr g,.int ((d:Int)+1)]);rw[eq];exact⟨U,by rw[g1];exact kk⟩
def zw:o7 P w K mg ah fe "deeds" 1 (pA qE) (jg<|JW fe eV true):=G6 "Room.deeds" 534 mL ["self"] λF a=>by refine lC F a ⟨_,λhr=>(eX<|fm<|jd false (fE eY.cl eY.mW<|dv 0) tQ<|iD<|fE eY.cl eY.jD<|dv 0),λq c r h hm hl=>?_⟩;obtain⟨k,rfl,p,o,g,j,d,ra,kk⟩:=dJ h;refine⟨_,by rw[fN ra.ins];rfl,_,by rw[fN ra.ins];rfl,eT (fT ra.l2) ?_⟩;rw[NL];rw[aF rfl]at kk;exact .keep kk
def zx:o7 P w K mg ah fe "ahead" 1 (pA qF) (jg<|JW fe eV false):=G6 "Room.ahead" 541 mL ["self"] λF a=>by refine lC F a ⟨_,λhr=>(eX<|fm<|jd false (fE eY.cl eY.mW<|dv 0) (iD<|fE eY.cl eY.jD<|dv 0) tQ),λq c r h hm hl=>?_⟩;obtain⟨k,rfl,p,o,g,j,d,ra,kk⟩:=dJ h;refine⟨_,by rw[fN ra.ins];rfl,_,by rw[fN ra.ins];rfl,eT (fT ra.l2) ?_⟩;rw[xH];rw[aD Zu]at kk;exact .keep kk
def tM:o7 P w K mg ah fe "size" 2 (pA sN) (jg<|yT fe eV UE):=G6 "Room.size" 548 mL ["self"] λF p=>by refine lC F p ⟨_,λhr=>(eX<|fm<|fE ai.cl ai.h8<|fR g8 eY.cl hr.le<|dv 0),λr q u h hm hl=>?_⟩;obtain⟨k,rfl,j,g,a,c,d,S,ra,o,kk⟩:=dJ h;exact⟨by show(kT _ _ _).map _=_;rw[fN ra.ins];rfl,j,g,a,c,d,S,ra,o,rfl,_,rfl,.keep kk⟩
def rM:o7 P w K mg ah fe "names" 2 (pA qB) (jg<|yT fe eV JJ):=G6 "Room.names" 555 mL ["self"] λF r=>by refine lC F r ⟨_,λhr=>(eX<|fm<|rB (Ji rfl) (uL (m:=false)) ZO T.list bo<|a1<|fE ai.cl ai.gz<|fR g8 eY.cl hr.le<|dv 0),λx a u h hm hl=>?_⟩;obtain⟨k,rfl,o,j,c,g,d,S,ra,q,kk⟩:=dJ h;refine⟨by show(kT _ _ _).map _=_;rw[fN ra.ins];rfl,o,j,c,g,d,S,ra,q,rfl,_,rfl,eT rfl ?_⟩;unfold JJ at kk;show Fz _ u (.lst<|(S.af.map λp=>fG p.1).map ou) a;rw[aQ];exact .keep kk
def By:kO P w K mg ah fe "bars" 5 (pA sR) (nj<|ur fe eV ub UH):=tY "Room.bars" 562 mL ["self","name"] λF J=>by
 refine F.ui J (λC p M L h=>oA h) (λI A fb s H E hr g O Z=>⟨_,(eX<|fm<|fZ (je Z.z rL ai.cl hr.le (fR g8 eY.cl hr.le<|dv 0)<|a1<|dv 1) eS),λC p m M L hm hl c h B=>?_⟩);obtain⟨k,nm,rfl,h⟩:=dJ h;obtain⟨_,y,u,q,r,d,S,ra,o,kk⟩:=h;have j:=ra.gx (m:=.gx g H);obtain⟨S',a,wf⟩:=ra.now;rw[o]at a;cases a;refine⟨by show(kT _ _ _).map _=_;rw[fN j.ins];rfl,y,u,q,r,d,S,j,o,⟨rfl,rfl⟩,fP c,⟨_,fP c⟩,S,d,rfl,wf,?_⟩;cases e:fc S.af nm with
 |none=>rw[e]at kk;exact(fY B c kk).2
 |some x=>rw[e]at kk;exact eT rfl (.keep<|jW c kk)
def Dh:kO P w K mg ah fe "age" 5 (pA u4) (nj<|ur fe eV ub XF):=tY "Room.age" 569 mL ["self","name"] λF J=>by
 refine F.ui J (λC p M L h=>oA h) (λI A fb s H E hr g O Z=>⟨_,(eX<|fm<|fZ (je Z.z rL ai.cl hr.le (fR g8 eY.cl hr.le<|dv 0)<|a1<|dv 1) eS),λC p m M L hm hl c h B=>?_⟩);obtain⟨k,nm,rfl,h⟩:=dJ h;obtain⟨_,y,u,q,r,d,S,ra,o,kk⟩:=h;have j:=ra.gx (m:=.gx g H);obtain⟨S',a,wf⟩:=ra.now;rw[o]at a;cases a;refine⟨by show(kT _ _ _).map _=_;rw[fN j.ins];rfl,y,u,q,r,d,S,j,o,⟨rfl,rfl⟩,fP c,⟨_,fP c⟩,S,d,rfl,wf,?_⟩;cases e:fc S.af nm with
 |none=>rw[e]at kk;exact(fY B c kk).2
 |some x=>rw[e]at kk;exact eT rfl (.keep<|jW c kk)
def zu:kO P w K mg ah fe "parts" 5 (pA qA) (nj<|ur fe eV ub yN):=tY "Room.parts" 576 mL ["self","name"] λF I=>by
 refine F.ui I (λB j L J h=>oA h) (λC A fb s H E hr c M Z=>⟨_,(eX<|fm<|je Z.z md ai.cl hr.le (fR g8 eY.cl hr.le<|dv 0)<|a1<|dv 1),λB j m L J hm hl a h u=>?_⟩);obtain⟨k,nm,rfl,h⟩:=dJ h;obtain⟨_,r,q,o,p,d,S,ra,y,kk⟩:=h;have g:=ra.gx (m:=.gx c H);refine⟨by show(kT _ _ _).map _=_;rw[fN g.ins];rfl,r,q,o,p,d,S,g,y,⟨rfl,rfl⟩,fP a,⟨_,fP a⟩,S,rfl,?_⟩;unfold yN at kk;cases e:fc S.af nm with
 |none=>rw[e]at kk;exact(fY u a kk).2
 |some x=>rw[e]at kk;exact .keep (jW a kk)
def wN:kO P w K mg ah fe "source" 5 (pA pk) (nj<|AK fe eV ub):=tY "Room.source" 583 mL ["self","name","bar"] λF M=>by
 refine F.ui M (λJ j u O h=>yS h) (λL A fb s H E hr g Q Z=>⟨_,(eX<|fm<|je Z.z oK ai.cl hr.le (fR g8 eY.cl hr.le<|dv 0)<|a2 ZJ<|dv 2),λJ j m u O hm hl c h p=>?_⟩);obtain⟨k,nm,bar,rfl,h⟩:=dJ h;obtain⟨_,I,C,y,B,d,S,ra,r,kk⟩:=h;have o:=ra.gx (m:=.gx g H);obtain⟨S',a,wf⟩:=ra.now;rw[r]at a;cases a;refine⟨by show(kT _ _ _).map _=_;rw[fN o.ins];rfl,I,C,y,B,d,S,o,r,⟨rfl,rfl⟩,fP c,⟨_,fP c⟩,S,rfl,wf.kp,?_⟩;cases e:fc S.af nm with
 |none=>rw[e]at kk;exact(fY p c kk).2
 | some x =>
  rw[e]at kk;have kk:(if 0<=bar/\bar<S.n then u (BM<|gE S.af nm bar) j else _):=kk;show(if 0<=bar/\bar<S.n then _ else _);by_cases q:0<=bar/\bar<S.n
  .rw[aF q]at kk ⊢;exact .keep (jW c kk)
  .rw[aD q]at kk ⊢;exact(fY p c kk).2
def Bx:o7 P w K mg ah fe "cuts" 5 (pA sQ) (jg<|yT fe eV JK):=G6 "Room.cuts" 590 mL ["self","size","cuts","takes"] λF c=>by
 refine lC F c ⟨_,λhr=>(ag (jq (fR kG ai.cl hr.le<|fR g8 eY.cl hr.le<|dv 0)<|nK 3<|hV (qT 1 c.nd)<|hV (qT 2 c.nd)<|hV (qT 3 c.nd) nM)
  (eX<|fm<|dv 2)),λu r x h hm hl=>?_⟩
 obtain⟨k,rfl,q,p,j,o,d,S,ra,g,kk⟩:=dJ h;obtain⟨S',a,wf⟩:=ra.now;rw[g]at a;cases a;exact⟨by show(kT _ _ _).map _=_;rw[fN ra.ins];rfl,q,p,j,o,d,S,ra,g,⟨rfl,rfl⟩,S,d,rfl,wf,rfl,.keep kk⟩
def zt:o7 P w K mg ah fe "takes" 5 (pA qz) (jg<|yT fe eV vC):=G6 "Room.takes" 597 mL ["self","size","cuts","takes"] λF c=>by
 refine lC F c ⟨_,λhr=>(ag (jq (fR kG ai.cl hr.le<|fR g8 eY.cl hr.le<|dv 0)<|nK 3<|hV (qT 1 c.nd)<|hV (qT 2 c.nd)<|hV (qT 3 c.nd) nM)
  (eX<|fm<|dv 3)),λu r x h hm hl=>?_⟩
 obtain⟨k,rfl,q,p,j,o,d,S,ra,g,kk⟩:=dJ h;obtain⟨S',a,wf⟩:=ra.now;rw[g]at a;cases a;exact⟨by show(kT _ _ _).map _=_;rw[fN ra.ins];rfl,q,p,j,o,d,S,ra,g,⟨rfl,rfl⟩,S,d,rfl,wf,rfl,.keep kk⟩
def N8:lN P w K mg ah "_law_names" 2 (pA DL) (jg Nq):=cq 672 mh ["_law_box_here","_law_many","_law_letters","_law_size","_law_place","_law_alike","_law_first","_law_rows","_law_k","_law_row"] λF r=>by
 refine lC F r ⟨_,λhr=>(ag (qS 2 r.nd fJ)
  (ag (qS 3 r.nd<|mO eS<|qC gL hr<|a2 ZM eS)
  (ag (qS 4 r.nd<|qC gL hr<|a2 ZM<|dv 3)
  (ag (qS 5 r.nd<|xG UW uM (qC gL hr<|a2 ZM eS) eS<|ia _)
  (ag (Ma 6 false r.nd (pJ (N:=["_law_k","_law_box_here"]) (js:=[none,some 0]) r<|by decide +kernel) (ir rfl T.range<|a1<|dv 3) ZC ZR λ_ _ _=>(qC gL hr<|a2 ZJ eS))
  (ag (qS 7 r.nd<|iA true gg)
  (ag (lF bF rfl (ir rfl T.range<|a1<|dv 1) (qT 8 r.nd)
  (ag (qS 9 r.nd<|rB qQ (lS (m:=true)) ZO T.list bo<|a1<|dv 6)
  (Fc (gQ (lE<|hG<|dv 5)
  (eX<|Ma 9 true r.nd (pJ (N:=["_law_step","_law_box_here"]) (js:=[none,some 0]) r<|by decide +kernel) (ir rfl T.range<|a1<|mO (mO (dv 4) eS)<|qC gL hr<|a2 ZM<|O5 aar<|dv 4) ZC ZR λ_ _ _=>(qC gL hr<|a2 ZJ eS))
  gu)
  (ag (BV (wF An Tr (mO (fZ (dv 6)<|dv 4)<|wF mulC rS eS<|dv 8) eS) (dv 9)<|dv 4)
  (eX<|gD<|vO bX cC cA oV lB (dv 7)<|a1<|vO cU PySem.F.slot_str_join PySem.F.type_str_join OJ DC fJ<|a1<|tX false (pJ (N:=["_law_one","_law_letters"]) (js:=[none,some 2]) r<|by decide +kernel) (ib<|dv 9) ZC ZR λ_ _ _=>(fZ ZJ<|dv 0))))))
  (eX<|fm<|dv 7)))))))),λds y Kd h hm hl=>?_⟩
 obtain⟨k,many,rfl,hb,h1,h2,kk⟩:=dJ h;have hk:k<y.length:=(jA hb).1;have R:∀ g:MS,(y++g)[k]?=some .box:=λg=>by rw[pF hk];exact hb
 refine⟨hb,by decide,by decide,λv v0 v1=>⟨hb,by lia,by lia,λp p0 p1=>⟨hb,by decide,by decide,λw w0 w1=>?_⟩⟩⟩;refine⟨by lia,by lia,sz (by rw[jt];lia),?_⟩;refine sx D.int (λi=>0<=i/\i<26) trivial (λd hd K' M=>⟨hb,by decide,by decide,λx x0 Z=>M x ⟨x0,Z⟩⟩) λU hfl hf=>?_;rw[jt]at hfl;refine⟨zs,by lia,by lia,?_⟩;refine gR (λds Y H=>∃(i j:Nat) (o:az Str) (g:MS) (u v':aA D),ds=lP i j/\i+j=many.toNat/\o.length=i/\(∀ z∈o,iL z=true)/\Y=[some (.mr k),some (.int many),some (.str<|Str.ofString "abcdefghijklmnopqrstuvwxyz"),some (.int<|1+v),some (.int p),some (.bl<|false != decide (w=0)),some (.lst<|U.map D.int),some (.mr y.length),u,v']/\H=y++.lst (o.map D.str)::g) ⟨0,many.toNat,[],[],none,none,rfl,by lia,rfl,λ_ h=>(nomatch h),rfl,rfl⟩ ?_ ?_
 .rintro d G5 Y H ⟨i,j,o,g,u,v',e,LH,Q,I,rfl,rfl⟩;refine⟨trivial,λnx Er=>?_⟩;cases j with
  |zero=>cases e
  | succ j =>
   rw[gy]at e;cases e;refine⟨λJ L=>∃(E:MS) (l:az Int),J=[some (.mr k),some (.int many),some (.str<|Str.ofString "abcdefghijklmnopqrstuvwxyz"),some (.int<|1+v),some (.int p),some (.bl<|false != decide (w=0)),some (.lst<|U.map D.int),some (.mr y.length),some (.int i),some (.mr (y++.lst (o.map D.str)::E).length)]/\L=(y++.lst (o.map D.str)::E)++[.lst (l.map D.int)]/\p<l.length/\l.length<=8/\∀ x∈l,0<=x/\x<26,?_,?_⟩
   .refine iw (!(false != decide (w=0))) (λK k=>k) (λ_=>?_) (λ_=>⟨g,U,rfl,rfl,by lia,by lia,hf⟩);refine⟨by rw[aS];exact R _,by lia,by lia,λq q0 q1=>⟨by lia,by lia,sz (by rw[jt];lia),?_⟩⟩;refine sx D.int (λi=>0<=i/\i<26) trivial (λd hd K' M=>⟨by rw[aS];exact R _,by decide,by decide,λx x0 Z=>M x ⟨x0,Z⟩⟩) λl B SH=>?_;rw[jt]at B;exact⟨g++[.lst (U.map D.int)],l,by rw[aS];rfl,by simp only[aS,dn,List.nil_append],by lia,by lia,SH⟩
   .rintro J L ⟨E,l,rfl,rfl,l1,l2,l3⟩;obtain⟨n,rfl⟩:∃ n:Nat,p=(n:Int):=⟨p.toNat,by lia⟩;obtain⟨a,ha⟩:∃ a,U[n]?=some a:=⟨_,iO<|by lia⟩;have m26:0<=(a+7*(i:Int))%26/\(a+7*(i:Int))%26<26:=⟨Int.emod_nonneg _<|by decide,Int.emod_lt_of_pos _<|by decide⟩;have Wc:Ay (l.map D.int).length (n:Int)=some n:=by unfold Ay;rw[fI,aF Zs,aF Zs,BA]
    obtain⟨C,B⟩:∃ C,C=l.set n ((a+7*(i:Int))%26):=⟨_,rfl⟩;have ll:C.length=l.length:=by rw[B,ba]
    have l4:∀ x∈C,0<=x/\x<26:=λx O=>by
     rw[B]at O;rcases List.mem_or_eq_of_mem_set O with q|q
     .exact l3 x q
     .rw[q];exact m26
    refine eT (lA ha) ⟨.inl<|by lia,show(0:Int)<26 by decide,?_⟩;refine eT jS<|eT Wc ?_;have es:(y++MO.lst (o.map D.str)::E++[MO.lst (l.map D.int)]).set (y++MO.lst (o.map D.str)::E).length (MO.lst<|(l.map D.int).set n<|.int<|(a+7*(i:Int))%26)=y++MO.lst (o.map D.str)::E++[MO.lst (C.map D.int)]:=by rw[gr,B,List.map_set]
    rw[es];refine⟨mZ (ds:=o.map D.str)<|fT (by rw[aS];exact i0),rfl,eT jS ⟨sz aaH,Be C (c:=λx=>wm x (y++.lst (o.map D.str)::E).length=some (C.map D.int)) jS (λx O K' M=>?_) λcs cl cr=>?_⟩⟩
    .obtain⟨c,e,c1,c2⟩:=R4 (l4 x O).1 (l4 x O).2;exact⟨zs,eT e<|M c ⟨c1,c2⟩⟩
    .refine⟨rfl,cs.map λc=>⟨#[c]⟩,by unfold lv;rw[aQ];rfl,by rw[rQ];lia,?_⟩;rw[pZ];refine eT (fT (ds:=o.map D.str) (by rw[aS];exact i0)) ⟨by rw[fI];exact aR (m:=51) Zs<|sz<|by lia,?_⟩;rw[aS,dn,kB];refine Er _ _ ⟨i+1,j,o++[txt cs],E++[.lst (C.map D.int)],_,_,by rw[ec];rfl,by lia,by rw[i8,Q];rfl,λz hz=>?_,rfl,by rw[aM];rfl⟩;rcases List.mem_append.mp hz with q|q
     .exact I z q
     .rw[List.mem_singleton.mp q];exact IS Zs Zs cr
 .rintro Y H ⟨i,j,o,g,u,v',e,LH,Q,I,rfl,rfl⟩;cases j with
  |succ j=>rw[gy]at e;cases e
  | zero =>refine⟨trivial,Fz.lst aaa i0 (iM λd hd=>by obtain⟨q,_,rfl⟩:=List.mem_map.mp hd;exact trivial) (gM hm) ?_⟩;rw[bp];exact kk o Zs ⟨by lia,by lia,I⟩
def v9:lN P w K mg ah "_law_origin" 1 (pA zR) (jg Nn):=cq 686 mh ["_law_kept","_law_name","_law_bar","_law_copies","_law_word","_law_left","_law_right_here","_law_place"] λF B=>by
 refine lC F B ⟨_,λhr=>(ag (qS 3 B.nd eS)
  (ag (ua bF (yw (fZ (jZ aax ZM ZJ λ_ _=>rfl) eS) fJ)
  (ag (jq (jZ aax ZM ZJ λ_ _=>rfl)<|nK 4<|hV (qT 4 B.nd)<|hV (qT 5 B.nd)<|hV (qT 6 B.nd)<|hV (qT 7 B.nd) nM)
  (ag (qS 1 B.nd<|y3 (G2 aaP<|dv 7) (dv 5)<|dv 6)
  (eX<|qS 3 B.nd<|mO aar eS))))
  (eX<|fm<|gN<|a2 ZJ<|dv 3))),λds Q Kd h hm hl=>?_⟩
 obtain⟨x,nm,bar,rfl,af,y,O,kp,ey,kk⟩:=dJ h;cases x with
 | ki ks ds =>
  cases O;refine⟨λi H g=>∃(z:Str) (y:Pt) (c:Nat) (M L J I:aA D),i=iN af z/\fc af z=some y/\gE af nm bar=((gE af z bar).1,(gE af z bar).2+c)/\H=[some (.ki (af.map λp=>fG p.1)<|af.map λp=>nN p.2),some (.str z),some (.int bar),some (.int (c:Int)),M,L,J,I]/\g=Q,⟨_,nm,y,0,none,none,none,none,rfl,ey,rfl,rfl,rfl⟩,?_⟩;rintro i H g ⟨z,y,c,M,L,J,I,rfl,o,C,rfl,rfl⟩;have E:MP (af.map λp=>fG p.1) (af.map λp=>nN p.2) (.str z)=some (some<|nN y):=by rw[jV fo nN z af rfl,o];rfl
  cases y with
  | fst b a =>refine⟨_,E,zs,.keep ?_⟩;rw[C,qt o,Nat.zero_add]at kk;exact kk
  | jn l r p =>
   obtain⟨⟨U,el⟩,⟨R,Z⟩⟩:=kp.there o;obtain⟨Y,i2⟩:=kp.low z l r p o;have u:=yc kp o bar;refine⟨_,E,⟨_,E,rfl,ji (c:=bar<p) (λq=>?_) λq=>?_⟩⟩
   .rw[aF q]at u;exact⟨iN af l,Y,l,U,c+1,_,_,_,_,rfl,el,by rw[C,u];congr 1;show _+1+c=_;lia,rfl,rfl⟩
   .rw[aD q]at u;exact⟨iN af r,i2,r,R,c+1,_,_,_,_,rfl,Z,by rw[C,u];congr 1;show _+1+c=_;lia,rfl,rfl⟩
 | mr j =>
  have O:tU Q j=some (af.map λp=>fG p.1,af.map λp=>nN p.2):=O;refine⟨λi H g=>∃(z:Str) (y:Pt) (c:Nat) (M L J I:aA D),i=iN af z/\fc af z=some y/\gE af nm bar=((gE af z bar).1,(gE af z bar).2+c)/\H=[some (.mr j),some (.str z),some (.int bar),some (.int (c:Int)),M,L,J,I]/\g=Q,⟨_,nm,y,0,none,none,none,none,rfl,ey,rfl,rfl,rfl⟩,?_⟩;rintro i H g ⟨z,y,c,M,L,J,I,rfl,o,C,rfl,rfl⟩;have E:=(vv (d:=.str z) fo nN z af rfl O).trans (by rw[o];rfl:_=some (some<|nN y));cases y with
  | fst b a =>refine⟨_,E,zs,.keep ?_⟩;rw[C,qt o,Nat.zero_add]at kk;exact kk
  | jn l r p =>
   obtain⟨⟨U,el⟩,⟨R,Z⟩⟩:=kp.there o;obtain⟨Y,i2⟩:=kp.low z l r p o;have u:=yc kp o bar;refine⟨_,E,⟨_,E,rfl,ji (c:=bar<p) (λq=>?_) λq=>?_⟩⟩
   .rw[aF q]at u;exact⟨iN af l,Y,l,U,c+1,_,_,_,_,rfl,el,by rw[C,u];congr 1;show _+1+c=_;lia,rfl,rfl⟩
   .rw[aD q]at u;exact⟨iN af r,i2,r,R,c+1,_,_,_,_,rfl,Z,by rw[C,u];congr 1;show _+1+c=_;lia,rfl,rfl⟩
 |_=>cases O
def Su:lN P w K mg ah "_law_ages" 1 (pA HQ) (jg Rx):=cq 693 mh ["_law_kept","_law_found","_law_name","_law_part"] λF J=>by
 refine lC F J ⟨_,λhr=>(ag (qS 1 J.nd y8)
  (ag (lF bF rfl (Ep<|dv 0) (qT 2 J.nd)
  (ag (qS 3 J.nd<|jZ aax ZM aaP λ_ _=>rfl)
  (eX<|lh aax (y3 (yw (fZ aar eS) fJ) (fZ aar eS)<|mO (kj (Jc rfl) uK ZO T.max b9<|a2 (jZ aax ZJ (fZ aar eS) λ_ _=>rfl)<|jZ aax ZJ (fZ aar eS) λ_ _=>rfl) eS) ZJ<|dv 2)))
  (eX<|fm<|vP<|dv 1))),λZ u Kd h hm hl=>?_⟩
 obtain⟨x,rfl,S,m,rfl,wf,kk⟩:=dJ h;have nd:=wf.kp.nd;have iu:=wf.iu;show wA _ _ _ _ ((S.af.map λp=>fG p.1).map ou) _ _;rw[aQ];refine gR (λZ L B=>∃(pre c:az aak) (O M:aA D),S.af=pre++c/\Z=c.map (λp=>D.str p.1)/\L=[some (pH fG nN S.af),some (.mr u.length),O,M]/\B=u++[A9 fG D.int aaE]) ⟨[],S.af,none,none,rfl,rfl,rfl,rfl⟩ ?_ ?_
 .rintro d G5 L B ⟨pre,c,O,M,hs,e1,rfl,rfl⟩;refine⟨trivial,λnx R=>?_⟩;cases c with
  |nil=>cases e1
  | cons p c =>
   obtain⟨z,y⟩:=p;cases e1;obtain⟨I,ix,lp,hn,E⟩:=Mp (g:=λw=>(gb S.af w).2) nd hs;have eg:MP (S.af.map λp=>fG p.1) (S.af.map λp=>nN p.2) (.str z)=some (some<|nN y):=by rw[jV fo nN z S.af rfl,I];rfl
   refine⟨_,eg,?_⟩;have fin:∀(a:Int) (j:DE),a=(gb S.af z).2->j=[some (pH fG nN S.af),some (.mr u.length),some (.str z),some (nN y)]->∃ H C:az aap,(u++[A9 fG D.int aaE])[u.length]?=some (.gP (H.map Zx) (H.map ZI))/\H.length<sizeLine/\(mC<|.str z).map (λk=>dput H k<|.int a)=some C/\nx j ((u++[A9 fG D.int aaE]).set u.length (.gP (C.map Zx) (C.map ZI))):=λa j ha Q=>by refine rX fo (P:=nx j) gi (by rw[fI];exact aR lp<|sz<|by lia) rfl a rfl ?_;rw[gr,mK hn,Q];refine R _ _ ⟨pre++[(z,y)],c,_,_,by rw[hs,aS];rfl,rfl,rfl,?_⟩;rw[aM,ha];rfl
   cases y with
   |fst b a=>exact fin a _ (by rw[ya I]) rfl
   | jn l r p =>obtain⟨i1,i2⟩:=wf.kp.low z l r p I;have Y:∀ w,iN S.af w<pre.length->OK (u++[A9 fG D.int aaE]) u.length (.str w)=some (some<|.int (gb S.af w).2):=λw hw=>(vv fo D.int w aaE rfl (rq gi)).trans (by rw[E w hw];rfl);exact⟨_,Y l<|by lia,_,Y r<|by lia,fin _ _ (by rw[Dq wf.kp I];rfl) rfl⟩
 .rintro L B ⟨pre,c,O,M,hs,e1,rfl,rfl⟩;cases c with
  |cons p c=>cases e1
  | nil =>rw[bH]at hs;refine⟨trivial,_,_,gi,λo fM U=>?_⟩;rw[gr];refine Fz.ki aaa gi (iM λd hd=>by obtain⟨q,_,rfl⟩:=List.mem_map.mp hd;exact trivial) (gM hm) ?_;rw[bp,U,<- hs];exact kk
def N9:lN P w K mg ah "_law_heard" 2 (pA DM) (jg Rp):=cq 698 mh ["_law_state","_law_name","_law_kept"] λF g=>by
 refine lC F g ⟨_,λhr=>(ag (qS 2 g.nd<|fZ ZM eS)
  (eX<|fm<|vO cU PySem.F.slot_str_join PySem.F.type_str_join OJ DC fJ<|a1<|tX false (pJ (N:=["_law_bar","_law_kept","_law_name"]) (js:=[none,some 2,some 1]) g<|by decide +kernel) (ir rfl T.range<|a1<|fZ ZM eS) ZC ZR λ_ _ _=>(fZ (fZ (jZ aax ZJ (fZ (qC v9 hr<|a3 ZJ aaP<|dv 0) eS) λ_ _=>rfl) eS)<|dv 0))),λI μ J h hm hl=>?_⟩
 obtain⟨x,nm,rfl,S,m,y,rfl,wf,d,kk⟩:=dJ h;have n1:=wf.n1;have n2:=wf.n2;obtain⟨E,_⟩:=wV wf nm y d;have tl:(gb S.af nm).1.length=S.n.toNat:=by lia
 refine⟨rfl,by lia,by lia,sz (by rw[jt];lia),?_⟩;refine iy trivial (λi:Nat=>D.int<|0+(i:Int)) (λi=>some<|D.str ⟨#[(gb S.af nm).1.getD i 0]⟩) (λi o L j=>?_) ?_
 .have o:=List.mem_range.mp o;obtain⟨b,a,c,p,g2,g3⟩:=JE wf i Zs nm y d;refine⟨S.af,y,rfl,wf.kp,d,?_⟩;rw[Int.zero_add];refine⟨_,by rw[jV fo nN _ S.af rfl,p];rfl,?_⟩;have H:=(wf.fs _ b a p).1;refine⟨by rw[Ck];exact sz<|by lia,eT (iS g2) ?_⟩;have e:(gb S.af nm).1.getD i 0=c:=by rw[aP,g3];rfl
  rw[e]at j;exact j
 .rw[<- tl,FO];refine⟨rfl,(gb S.af nm).1.map λc=>⟨#[c]⟩,by unfold lv;rw[aQ];rfl,by rw[rQ];lia,?_⟩;rw[pZ];exact .keep kk
def Fq:lN P w K mg ah "_law_takes" 3 (pA DH) (jg Nh):=cq 703 mh ["_law_state","_law_ages_here"] λF a=>by
 refine lC F a ⟨_,λhr=>(ag (qS 1 a.nd<|qC Su hr<|a1<|fZ ZM eS)
  (eX<|fm<|tX false (pJ (N:=["_law_name","_law_state","_law_ages_here"]) (js:=[none,some 0,some 1]) a<|by decide +kernel) (Ep<|fZ ZM eS) ZC ZR λ_ _ _=>(gN<|a2 (qC N9 hr<|a2 ZJ<|dv 0)<|jZ aax aaP ZM λ_ _=>rfl))),λo d j h hm hl=>?_⟩
 obtain⟨x,rfl,S,m,rfl,wf,kk⟩:=dJ h;have iu:=wf.iu;refine⟨S,m,rfl,wf,sz (by rw[fI,fI];lia),?_⟩;rw[aQ];refine iy trivial (ou ∘ λp:Str×Pt=>fG p.1) (λp=>some<|iI<|gb S.af p.1) (λp c q g=>?_) ?_
 .exact⟨S,m,p.2,rfl,wf,gB wf.kp.nd c,_,by rw[jV fo D.int p.1 _ rfl,K9 wf.kp.nd c];rfl,zs,g⟩
 .rw[show(λp:Str×Pt=>some<|iI<|gb S.af p.1)=some ∘ (λp=>iI<|gb S.af p.1)from rfl,cz];have kk:j (.lst<|(gU S).map iI) d:=kk;unfold gU at kk;rw[aQ]at kk;exact .keep kk
def C9:lN P w K mg ah "_law_open" 1 (pA HJ) (jg Rk):=cq 708 mh ["_law_state"] λF c=>by
 refine lC F c ⟨_,λhr=>(eX<|fm<|tX false (pJ (N:=["_law_place","_law_state"]) (js:=[none,some 0]) c<|by decide +kernel) (oy rfl T.range<|a2 eS<|fZ ZM eS) ZC (λ_ _ _=>(mQ<|qp aax ZM aaj<|by with_unfolding_all rfl)) λ_ _ _=>ZM),λg d j h hm hl=>?_⟩;obtain⟨x,rfl,S,m,rfl,wf,kk⟩:=dJ h;have n1:=wf.n1;have n2:=wf.n2;refine eT rfl ⟨⟨by decide,by decide,by lia,by lia⟩,sz (by rw[jt];lia),?_⟩;rw[DW];refine iy trivial D.int (λp=>if(fc S.gs p).isSome=true then none else some (D.int p)) (λp _ o a=>?_) ?_
 .refine eT rfl ⟨_,jV jw aay p S.gs rfl,?_⟩;cases e:fc S.gs p with
  |none=>rw[e]at a;exact a
  |some x=>rw[e]at a;exact a
 .rw[Ah];exact .keep kk
def Ss:lN P w K mg ah "_law_done" 2 (pA HN) (jg Rt):=cq 715 mh ["_law_state","_law_deed","_law_size","_law_kept","_law_shut","_law_name","_law_word","_law_text","_law_old"] λF Sc=>by
 refine lC F Sc ⟨_,λhr=>(ag (PX (i:=2) (j:=3) (k:=4) Sc.nd rfl rfl rfl Zu Zu Zu rfl rfl rfl (a3 (fZ ZM eS) (rB Kn uN ZO T.dict eP<|a1<|fZ ZM eS)<|rB Kn uN ZO T.dict eP<|a1<|fZ ZM eS))
  (Fc (gQ (yw aaj fJ)
  (eX<|lh aax (gN<|a3 fJ aaj<|fZ ZJ eS) aar<|fZ ZJ eS)
  (eX (gQ (yw aaj fJ)
  (eX<|lh aax (gN<|eW fJ<|eW aaj<|eW aaj<|eW aaj gg) aar<|fZ ZJ eS)
  (eX (gQ (yw aaj fJ)
  (ag (qS 5 Sc.nd<|fZ (qC v9 hr<|a3 aar aaj<|fZ ZJ eS) eS)
  (ag (jq (jZ aax aar (dv 5) λ_ _=>rfl)<|nK 3<|hV (qT 6 Sc.nd)<|hV (qT 7 Sc.nd)<|hV (qT 8 Sc.nd) nM)
  (eX<|lh aax (gN<|a3 (dv 6) (mO (mO (jd false (dv 7) tQ<|iD<|fZ ZJ eS)<|fZ ZJ eS)<|jd false (dv 7) (iD<|mO aaj eS) tQ)<|dv 8) aar<|dv 5)))
  (eX (gQ (yw aaj fJ)
  (eX<|lh aax (gN<|a3 fJ (fZ (jZ aax aar aaj λ_ _=>rfl) eS)<|fZ ZJ eS) aar<|fZ ZJ eS)
  (eX (gQ (yw aaj fJ)
  (eX<|gD<|Kt aar<|fZ ZJ eS)
  (eX (gQ (yw aaj fJ)
  (eX<|lh aax su (dv 4)<|fZ ZJ eS)
  (eX (gQ (Hr aax aaj (dv 4)<|by with_unfolding_all rfl)
  (eX<|gD<|Kt (dv 4)<|fZ ZJ eS)
  gu)))))))))))))
  (eX<|fm<|gN<|eW aaP<|eW (vP<|dv 3)<|eW (vP<|dv 4) gg))),λds μ Kd h hm hl=>?_⟩
 obtain⟨x,y,rfl,S,d,m,rfl,rfl,wf,hm',hr,kk⟩:=dJ h;have iu:=wf.iu;have shl:=wf.shl;have n2:=wf.n2;have e2:(μ++[A9 fG nN S.af]).length=μ.length+1:=by rw[i8];rfl
 show Vr _ _ _ [some (xb S),some (mG d),some (.int S.n),some (.mr μ.length),some (.mr (μ++[A9 fG nN S.af]).length),none,none,none,none] (μ++[A9 fG nN S.af]++[A9 kM aay S.gs]);rw[e2,aS];have I:S.af.length<sizeLine:=aR (m:=21) Zs (sz<|by lia);have J:S.gs.length<sizeLine:=aR (m:=1001) Zs (sz<|by lia);refine⟨λSz H=>∃ Y U R Q,Sz=[some (xb S),some (mG d),some (.int S.n),some (.mr μ.length),some (.mr<|μ.length+1),Y,U,R,Q]/\(m7 S d).n=S.n/\H=μ++[A9 fG nN (m7 S d).af,A9 kM aay (m7 S d).gs],?_,?_⟩
 .cases d with
  | put nm b a =>exact⟨zs,rX fo i0 I rfl (.fst b.cps.toList a) rfl ⟨none,none,none,none,rfl,rfl,kB⟩⟩
  | join nm l r p =>exact⟨zs,rX fo i0 I rfl (.jn l r p) rfl ⟨none,none,none,none,rfl,rfl,kB⟩⟩
  | found nm bar sg =>
   have hr:(if jx S nm=false then some 11 else if 0<=bar/\bar<S.n then(if sg = "o"\/sg = "x" then none else some 0)else some 6)=(none:aA Nat):=hr;by_cases q1:jx S nm=false
   .rw[aF q1]at hr;cases hr
   rw[aD q1]at hr;by_cases hb:0<=bar/\bar<S.n
   .rw[aF hb]at hr;by_cases hs:sg = "o"\/sg = "x"
    .obtain⟨y,ey⟩:=oz q1;obtain⟨b,a,ef⟩:=yd wf.kp bar nm y ey;obtain⟨f1,f2,f3,f4⟩:=wf.fs _ b a ef;obtain⟨o1,L⟩:=BS hs;refine⟨S.af,y,rq i0,wf.kp,ey,_,(vv fo nN (gE S.af nm bar).1 S.af rfl (rq i0)).trans (by rw[ef];rfl:_=some (some<|nN<|.fst b a)),rfl,?_⟩;have J:sg.length=1:=L;have Z:(txt b).length<=sizeLine:=by rw[i9];exact sz Zs
     have c1:=oU b none<|some bar;have c2:=oU b (some<|bar+1) none;have eh:(⟨(ig b none<|some bar).toArray⟩++sg++⟨(ig b (some<|bar+1) none).toArray⟩:Str)=txt (vw b bar sg):=by rw[zb hb.1,sv (show 0<=bar+1 by lia),show(bar+1).toNat=bar.toNat+1 by lia];rw[zh,ng,aS];rfl
     have l1:(⟨(ig b none<|some bar).toArray⟩:Str).length+sg.length<=sizeLine:=by rw[J];show(ig b none<|some bar).length+1<=_;exact sz Zs
     have l2:(⟨(ig b none<|some bar).toArray⟩++sg:Str).length+(⟨(ig b (some<|bar+1) none).toArray⟩:Str).length<=sizeLine:=by rw[zh];show(ig b none (some bar)++sg.cps.toList).length+(ig b (some<|bar+1) none).length<=_;rw[i8,L];exact sz Zs
     refine⟨Z,l1,Z,l2,zs,rX fo i0 I rfl (.fst (vw b bar sg) a) (by show D.tup _=D.tup _;rw[<- eh]) ⟨_,_,_,_,rfl,rfl,?_⟩⟩;rw[kB];show _=μ++[A9 fG nN (yL S.af (gE S.af nm bar).1 bar sg),_];unfold yL;rw[ef];rfl
    .rw[aD hs]at hr;cases hr
   .rw[aD hb]at hr;cases hr
  | rH nm a =>
   have hr:(match fc S.af nm with|none=>some 11|some (.jn _ _ _)=>some 13|some (.fst _ _)=>nH a)=(none:aA Nat):=hr;cases ey:fc S.af nm with
   |none=>rw[ey]at hr;cases hr
   | some y =>
    rw[ey]at hr;cases y with
    |jn _ _ _=>cases hr
    | fst b a0 =>
     refine⟨_,(vv fo nN nm S.af rfl (rq i0)).trans (by rw[ey];rfl:_=some (some<|nN<|.fst b a0)),zs,?_⟩;have ed:m7 S (.rH nm a)={ S with af:=g0 S.af nm aaX}:=by show(match fc S.af nm with|some (.fst b _)=>{ S with af:=g0 S.af nm aaX}|_=>S)=_;rw[ey]
     refine rX fo i0 I rfl aaX rfl ⟨none,none,none,none,rfl,by rw[ed],?_⟩;rw[ed];exact kB
  | drop nm =>
   have hr:aaz=(none:aA Nat):=hr;by_cases q1:jx S nm=false
   .rw[aF q1]at hr;cases hr
   obtain⟨y,ey⟩:=oz q1;exact⟨⟨_,_,i0⟩,pop_at fo i0 rfl ey ⟨none,none,none,none,rfl,rfl,kB⟩⟩
  | gs p =>exact rX jw (f:=λ_:Unit=>D.bl true) wR J rfl () rfl ⟨none,none,none,none,rfl,rfl,ym⟩
  | free p =>
   refine⟨_,vv jw (λ_:Unit=>D.bl true) p S.gs rfl (rq wR),?_⟩;cases ep:fc S.gs p with
   | none =>refine⟨none,none,none,none,rfl,rfl,?_⟩;show _=μ++[A9 fG nN S.af,A9 kM aay (i7 S.gs p)];rw[CU ep];rfl
   | some u =>exact⟨⟨_,_,wR⟩,pop_at jw (f:=λ_:Unit=>D.bl true) wR rfl ep ⟨none,none,none,none,rfl,rfl,ym⟩⟩
 .rintro Sz H ⟨Y,U,R,Q,rfl,en,rfl⟩;refine⟨_,_,i0,λo1 k1 O=>?_⟩;rw[kB];refine⟨_,_,wR,λL k2 M=>?_⟩;rw[ym];refine⟨zs,Fz.O2 (Nb (iM λd hd=>by obtain⟨q,_,rfl⟩:=List.mem_map.mp hd;exact Qf _) (iM λd hd=>by obtain⟨q,_,rfl⟩:=List.mem_map.mp hd;exact trivial)) (gM hm) ?_⟩;rw[bp,O,M,<- en];exact kk
def Ls:lN P w K mg ah "_law_stands" 7 (pA zP) (jg<|Ni fe eV):=cq 752 mh ["_law_room","_law_state","_law_names_here","_law_takes_here","_law_k","_law_part","_law_due","_law_told_here","_law_bar"] λF E=>by
 refine lC F E ⟨_,λhr=>(ag (qS 2 E.nd<|rB (Ji rfl) (uL (m:=false)) ZO T.list bo<|a1<|fZ ZJ eS)
  (ag (gQ (PW.pt<|tP (lE<|hG<|qC k7 hr<|a2 (fR tM eY.cl hr.le<|dv 0)<|fZ ZJ eS)<|nY<|lE<|hG<|qC k7 hr<|a2 (fR rM eY.cl hr.le<|dv 0)<|dv 2)
  (eX<|fm su)
  gu)
  (ag (qS 3 E.nd<|qC Fq hr<|a1<|dv 1)
  (ag (gQ (PW.pt<|tP (lE<|hG<|qC k7 hr<|a2 (fR zt eY.cl hr.le<|dv 0)<|dv 3)<|nY<|lE<|hG<|qC k7 hr<|a2 (fR Bx eY.cl hr.le<|dv 0)<|qC C9 hr<|a1<|dv 1)
  (eX<|fm su)
  gu)
  (ag (lF bF rfl (ir rfl T.range<|a1<|tr T<|dv 2) (qT 4 E.nd)
  (ag (qS 5 E.nd<|jZ aax aaj (fZ aaP<|dv 4) λ_ _=>rfl)
  (ag (qS 6 E.nd<|y3 (yw (fZ (dv 5) eS) fJ) (A6 (dv 5) (iD eS) tQ) tq)
  (ag (qS 7 E.nd<|mH zu eY.cl hr.le ZM<|a1<|fZ aaP<|dv 4)
  (ag (gQ (PW.pt<|tP (PW.pt<|ml (zJ<|dv 6)<|kR<|uI<|dv 7)<|nY<|PW.pt<|ml (uI<|dv 6)<|kR<|lE<|hG<|qC k7 hr<|a2 (dv 7)<|dv 6)
  (eX<|fm su)
  gu)
  (ag (gQ (lE<|hG<|qC k7 hr<|a2 (gN<|a2 (mH By eY.cl hr.le ZM<|a1<|fZ aaP<|dv 4)<|mH Dh eY.cl hr.le ZM<|a1<|fZ aaP<|dv 4)<|fZ aar<|dv 4)
  (eX<|fm su)
  gu)
  (eX (lF bF rfl (ir rfl T.range<|a1<|fZ ZJ eS) (qT 8 E.nd)
  (eX (gQ (lE<|hG<|qC k7 hr<|a2 (mH wN eY.cl hr.le ZM<|a2 (fZ aaP<|dv 4)<|dv 8)<|qC v9 hr<|a3 aaj (fZ aaP<|dv 4)<|dv 8)
  (eX<|fm su)
  gu))))))))))
  (eX<|fm su)))))),λU Z Kd h hm hl=>?_⟩
 obtain⟨k,x,rfl,⟨Q,R⟩,j,g,u,B,d,S,ra,o,rfl,kk⟩:=dJ h;obtain⟨S',O,wf⟩:=ra.now;rw[o]at O;cases O;have iu:=wf.iu;have n1:=wf.n1;have n2:=wf.n2;have eN:(S.af.map λp=>fG p.1).map ou=S.af.map λp=>D.str p.1:=aQ;have ol:(hZ S).length<=40:=by unfold hZ;refine aT (bN _ _) ?_;rw[fI,xr];lia
 have tl:(gU S).length=S.af.length:=by unfold gU;rw[fI]
 have C:∀ nm:Str,nv nm nG [.mr j,.mr g,.int (d:Int)]=none->pw fe nm Z (.mr k):=λnm hn=>by show(kT _ _ _).map _=_;rw[fN ra.ins];exact b8 some hn
 have smN:uP 5 (.lst<|S.af.map λp=>D.str p.1):=pR aaH λd hd=>by obtain⟨q,_,rfl⟩:=List.mem_map.mp hd;exact kS
 have smT:uP 5 (vC S):=PQ Zs;have smC:uP 5 (JK S):=L4 Zs;refine uu (d:=.lst<|S.af.map λp=>D.str p.1) (μ':=Z) (λK k=>by rw[<- eN]at k;exact k) ?_;dsimp only;refine iw false ?_ aaK (λ_=>?_)
 .exact .to (.or (x:=!true) (y:=!true) (.not (x:=true)<|.nW λK k=>⟨C _ rfl,j,g,u,B,d,S,ra,o,_,rfl,rfl,jC,k⟩) λ_=>.not (x:=true)<|.nW λK k=>⟨C _ rfl,j,g,u,B,d,S,ra,o,_,rfl,rfl,smN,k⟩) rfl
 refine j0 ⟨S,d,rfl,wf,?_⟩;dsimp only;refine iw false ?_ aaK (λ_=>?_)
 .exact .to (.or (x:=!true) (y:=!true) (.not (x:=true)<|.nW λK k=>⟨C _ rfl,j,g,u,B,d,S,ra,o,_,rfl,rfl,smT,k⟩) λ_=>.not (x:=true)<|.nW λK k=>⟨C _ rfl,j,g,u,B,d,S,ra,o,S,d,rfl,wf,_,rfl,rfl,smC,k⟩) rfl
 refine j0 ⟨by rw[fI];lia,by rw[fI];lia,?_⟩;rw[fI,BA];refine gR (λU H μ'=>∃(a b:Nat) (v4 v5 v6 v7 L:aA D),U=lP a b/\a+b=S.af.length/\H=[some (.mr k),some (xb S),some (.lst<|S.af.map λp=>D.str p.1),some (vC S),v4,v5,v6,v7,L]/\μ'=Z) ⟨0,S.af.length,none,none,none,none,none,rfl,by lia,rfl,rfl⟩ ?_ ?_
 .rintro d' G5 H μ' ⟨i,b,v4,v5,v6,v7,L,e1,hib,rfl,c⟩;subst c;refine⟨trivial,λnx Er=>?_⟩;cases b with
  |zero=>cases e1
  | succ b =>
   rw[gy]at e1;cases e1;have hi:i<S.af.length:=by lia
   obtain⟨⟨z,y⟩,hz⟩:∃ p,S.af[i]?=some p:=⟨_,iO hi⟩;have e:kP (S.af.map λp=>D.str p.1) (i:Int)=some (.str z):=lA hz;have J:fc S.af z=some y:=gB wf.kp.nd<|lH hz;have eg:MP (S.af.map λp=>fG p.1) (S.af.map λp=>nN p.2) (.str z)=some (some<|nN y):=by rw[jV fo nN z S.af rfl,J];rfl
   have gp:yN S z=mf y:=by unfold yN;rw[J]
   have et:kP ((gU S).map iI) (i:Int)=some (iI<|gb S.af z):=lA (by unfold gU;rw[mD,hz];rfl);refine eT e ⟨_,eg,?_⟩;dsimp only;refine uu (d:=mf y) (μ':=μ') (λK k=>?_) ?_
   .cases y with
    |fst b a=>exact k
    |jn l r p=>exact⟨(show ¬ (HT.iz 4 0 (some 1)=0/\HT.iz 4 4 none=4) by decide),k⟩
   refine⟨C _ rfl,eT e ⟨trivial,⟨Q,R⟩,j,g,u,B,d,S,ra,o,?_⟩⟩;rw[J];dsimp only;rw[gp];refine iw false ?_ aaK (λ_=>?_)
   .cases y with
    |fst b a=>exact .to (.or (x:=true&&false) (y:=false&&false) (.and (x:=true) (y:=false) aaI λ_=>.nW λK k=>k) λ_=>.and (x:=false) (y:=false) aaI λq=>nomatch q) rfl
    |jn l r p=>exact .to (.or (x:=false&&false) (y:=true&&!true) (.and (x:=false) (y:=false) aaI λq=>nomatch q) λ_=>.and (x:=true) (y:=!true) aaI λ_=>.not (x:=true)<|.nW λK k=>⟨_,rfl,rfl,uO (by show 3<=100000;decide) (λd hd=>by simp only[bq,a7,ck]at hd;rcases hd with rfl|rfl|rfl;exact kS;exact kS;exact jC),k⟩) rfl
   refine j0 ?_;dsimp only;refine iw false ?_ aaK (λ_=>?_)
   .refine .to (.not (x:=true)<|.nW λK k=>?_) rfl;refine⟨C _ rfl,eT e ⟨trivial,⟨Q,R⟩,j,g,u,B,d,S,ra,o,?_⟩⟩;rw[J];refine⟨C _ rfl,eT e ⟨trivial,⟨Q,R⟩,j,g,u,B,d,S,ra,o,?_⟩⟩;rw[J];exact⟨zs,eT et ⟨_,rfl,rfl,Oo _,k⟩⟩
   refine j0 ⟨by lia,by lia,?_⟩;refine gR (λU H I=>∃(a b:Nat) (L:aA D),U=lP a b/\a+b=S.n.toNat/\H=[some (.mr k),some (xb S),some (.lst<|S.af.map λp=>D.str p.1),some (vC S),some (.int i),some (nN y),some (mf y),some (mf y),L]/\I=μ') ⟨0,S.n.toNat,_,rfl,by lia,rfl,rfl⟩ ?_ ?_
   .rintro d' G5 H I ⟨a,Y,v8',e1,Xw,rfl,c⟩;subst c;refine⟨trivial,λnx2 M=>?_⟩;cases Y with
    |zero=>cases e1
    | succ Y =>
     rw[gy]at e1;cases e1;refine iw false ?_ aaK (λ_=>?_)
     .refine .to (.not (x:=true)<|.nW λK k=>?_) rfl;refine⟨C _ rfl,eT e ⟨trivial,⟨Q,R⟩,j,g,u,B,d,S,ra,o,?_⟩⟩;rw[J];dsimp only;rw[aF (show(0:Int)<=(a:Int)/\(a:Int)<S.n from⟨by lia,by lia⟩)];exact eT e ⟨S.af,y,rfl,wf.kp,J,_,rfl,rfl,uO (by show 2<=100000;decide) (λd hd=>by simp only[bq,a7,ck]at hd;rcases hd with rfl|rfl;exact kS;exact jC),k⟩
     exact M _ _ ⟨a+1,Y,_,by rw[ec];rfl,by lia,rfl,rfl⟩
   .rintro H I ⟨a,Y,v8',e1,Xw,rfl,c⟩;subst c;exact⟨trivial,Er _ _ ⟨i+1,b,_,_,_,_,_,by rw[ec];rfl,by lia,rfl,rfl⟩⟩
 .rintro H μ' ⟨i,b,v4,v5,v6,v7,L,e1,hib,rfl,c⟩;subst c;exact⟨trivial,.keep kk⟩
def Bv:kO P w K mg ah fe "undo" 2 (pA sL) (nj<|JT fe eV nc):=tY "Room.undo" 520 mL ["self"] λF O=>by
 refine F.ui O (λL q R Q h=>Cz h) (λM A fb s H E hr a Y Z=>⟨_,(ag (gQ (yw (fE eY.cl eY.jD<|dv 0) eS)
  (eX<|iC Z rfl pK aG Zu aG rfl (a1 fJ))
  gu)
  (ag (L9 eY.cl eY.jD ZM eS)
  (eX<|fm<|fZ (fE eY.cl eY.mW<|dv 0)<|fE eY.cl eY.jD<|dv 0))),λL q m R Q hm hl y h C=>?_⟩)
 obtain⟨k,rfl,h⟩:=dJ h;obtain⟨_,j,c,r,p,d,ra,kk⟩:=h;have g:=ra.gx (m:=.gx a H);have o:∀ {x:MS} {n:Int},x[k]?=some (.ins fe nG [.mr j,.mr c,.int n])->kT fe x k=some (nG,[.mr j,.mr c,.int n]):=λh=>fN h;obtain⟨lk,la,U⟩:=g.lk;cases d with
 | zero =>refine⟨.int ((0:Nat):Int),by rw[o g.ins];rfl,?_⟩;exact⟨zs,fY C y kk⟩
 | succ d =>
  have B:=ra.le;have hd:d<p.length:=by lia
  refine⟨.int ((d+1:Nat):Int),by rw[o g.ins];rfl,?_⟩;refine⟨((d+1:Nat):Int),by rw[o g.ins];rfl,_,_,o g.ins,rfl,by show 3<1000;decide,?_⟩;have e1:((q.set 0<|.gx a H).set k<|.ins fe nG [.mr j,.mr c,.int (((d+1:Nat):Int) - 1)])=jh fe eV (q.set 0<|.gx a H) k j c r p d:=by unfold jh;rw[set_same g.l1,set_same g.l2,show((d+1:Nat):Int) - 1=(d:Int) by lia]
  have u:fC fe eV (jh fe eV (q.set 0<|.gx a H) k j c r p d) k j c r p d:=g.put ra.len Zs ra.wf ra.iu;have e0:putN (Str.ofString "done") (D.int<|((d+1:Nat):Int) - 1) nG [D.mr j,D.mr c,D.int ((d+1:Nat):Int)]=(nG,[D.mr j,D.mr c,D.int (((d+1:Nat):Int) - 1)]):=rfl;dsimp only;rw[e0];dsimp only;rw[e1];refine⟨.mr c,by rw[o u.ins];rfl,.int d,by rw[o u.ins];rfl,eT (fT u.l2)<|eT (lA<|iO hd)<|.keep ?_⟩;obtain⟨J,I⟩:=uc ra (m:=.gx a H) (ss':=r) (rs':=p) (d':=d) y;exact⟨I,by rw[J];exact kk _<|iO hd⟩
def Bw:kO P w K mg ah fe "redo" 2 (pA sO) (nj<|JX fe eV nc):=tY "Room.redo" 527 mL ["self"] λF Q=>by
 refine F.ui Q (λM r U R h=>CC h) (λO A fb s H E hr a Kb Z=>⟨_,(ag (gQ (yw (fE eY.cl eY.jD<|dv 0)<|tr T<|fE eY.cl eY.mW<|dv 0)
  (eX<|iC Z rfl pK aG Zu aG rfl (a1 fJ))
  gu)
  (ag (DR eY.cl eY.jD ZM eS)
  (eX<|fm<|fZ (fE eY.cl eY.mW<|dv 0)<|O5 (fE eY.cl eY.jD<|dv 0) eS))),λM r m U R hm hl B h I=>?_⟩)
 obtain⟨k,rfl,h⟩:=dJ h;obtain⟨_,o,c,u,g,d,ra,kk⟩:=h;have j:=ra.gx (m:=.gx a H);have C:=ra.le;have p:∀ {y:MS} {n:Int},y[k]?=some (.ins fe nG [.mr o,.mr c,.int n])->kT fe y k=some (nG,[.mr o,.mr c,.int n]):=λh=>fN h;obtain⟨lk,la,Y⟩:=j.lk;refine iw (false != decide ((d:Int)=((g.map mG).length:Nat))) (.nW λK k=>⟨.int d,by rw[p j.ins];rfl,.mr c,by rw[p j.ins];rfl,eT (fT j.l2) k⟩) (λq=>?_) (λq=>?_)
 .rw[fI]at q;have e:(d:Int)=(g.length:Nat):=by simpa using q
  rw[List.getElem?_eq_none Zs]at kk;exact⟨zs,fY I B kk⟩
 .rw[fI]at q;have hd:d<g.length:=by
   have:¬ (d:Int)=(g.length:Nat):=by simpa using q
   lia
  rw[iO hd]at kk;refine j0 ⟨(d:Int),by rw[p j.ins];rfl,_,_,p j.ins,rfl,by show 3<1000;decide,?_⟩;have e1:((r.set 0<|.gx a H).set k<|.ins fe nG [.mr o,.mr c,.int ((d:Int)+1)])=jh fe eV (r.set 0<|.gx a H) k o c u g (d+1):=by unfold jh;rw[set_same j.l1,set_same j.l2,show((d+1:Nat):Int)=(d:Int)+1 from rfl]
  have x:fC fe eV (jh fe eV (r.set 0<|.gx a H) k o c u g<|d+1) k o c u g (d+1):=j.put ra.len hd ra.wf ra.iu;have e0:putN (Str.ofString "done") (D.int<|(d:Int)+1) nG [D.mr o,D.mr c,D.int (d:Int)]=(nG,[D.mr o,D.mr c,D.int ((d:Int)+1)]):=rfl;dsimp only;rw[e0];dsimp only;rw[e1];refine⟨.mr c,by rw[p x.ins];rfl,.int ((d+1:Nat):Int),by rw[p x.ins];rfl,eT (fT x.l2)<|eT (v:=mG g[d]) ?_<|.keep ?_⟩
  .rw[show((d+1:Nat):Int) - 1=(d:Int) by lia];exact lA (iO hd)
  obtain⟨L,J⟩:=uc ra (m:=.gx a H) (ss':=u) (rs':=g) (d':=d+1) B;exact⟨J,by rw[L];exact kk⟩
def Fs:lN P w K mg ah "_law_right" 9 (pA DJ) (jg<|Nl fe eV):=cq 757 mh ["_law_room","_law_past","_law_later"] λF u=>by
 refine lC F u ⟨_,λhr=>(ag (gQ (lE<|hG<|qC k7 hr<|a2 (fR zw eY.cl hr.le<|dv 0)<|tX false (pJ (N:=["_law_one"]) (js:=[none]) u<|by decide +kernel) (ib<|jd false ZJ (iD eS) tQ) ZC ZR λ_ _ _=>(fZ ZM eS))
  (eX<|fm su)
  gu)
  (ag (gQ (lE<|hG<|qC k7 hr<|a2 (fR zx eY.cl hr.le<|dv 0)<|tX false (pJ (N:=["_law_one"]) (js:=[none]) u<|by decide +kernel) (ib<|U5 aaP<|iD<|pI eS) ZC ZR λ_ _ _=>(fZ ZM eS))
  (eX<|fm su)
  gu)
  (eX<|fm<|qC Ls hr<|a2 ZM<|fZ (fZ ZJ<|pI eS) eS))),λR M U h hm hl=>?_⟩
 obtain⟨k,p,q,rfl,⟨m,I⟩,r,o,g,a,d,J,B,O,ra,pa,la,x,C,kk⟩:=dJ h;have c:=ra.le;have iu:=ra.iu;have H:=pa.now c;have Q:=pa.len c;have ll:=la.len;obtain⟨y,E⟩:=oM J B;refine iw (!true) (.not<|.nW λK k=>⟨gG ra rfl,r,o,g,a,d,ra,eT (fT x) ?_⟩) aaK (λ_=>?_)
 .rw[IF];exact⟨sz aaH,B7 trivial pa (λp L j=>eT rfl j)<|SD ⟨.lst<|(a.take d).map mG,by rw[aF rfl];rfl,rfl,HD (by rw[a9];lia),k⟩⟩
 refine j0 ?_;dsimp only;refine iw (!true) (.not<|.nW λK k=>⟨gG ra rfl,r,o,g,a,d,ra,rfl,eT (fT C) ?_⟩) aaK (λ_=>?_)
 .rw[<- List.map_reverse,List.reverse_reverse];exact eT rfl ⟨sz aaH,Av trivial la (λp L j=>eT rfl j)<|SD ⟨.lst<|(a.drop d).map mG,by rw[aD Zu];rfl,rfl,HD (by rw[bL];lia),k⟩⟩
 exact j0 (eT (fT x)<|eT E ⟨⟨m,I⟩,r,o,g,a,d,_,ra,H,rfl,.keep kk⟩)
def Dg:kO P w K mg ah fe "put" 9 (pA uZ) (nj<|CF fe eV ub 0 4):=tY "Room.put" 464 mL ["self","name","bars","age"] λF R=>by
 refine F.ui R (λO r Y U h=>CD h) (λQ A fb s H E hr a Kb Z=>⟨_,(eX<|gD<|je Z.z tN eY.cl hr.le ZM<|a1<|gN<|eW fJ<|eW ZJ<|eW aaP<|eW aar gg),λO r m Y U hm hl c h I=>?_⟩);unfold CF at h;obtain⟨_,h⟩:=h;split at h
 .rename_i k xs;obtain⟨e,B,y,_,x,u,j,o,d,S,g,ra,M,C,fO,iu,kk⟩:=h;cases e<;>cases B;cases y;have p:=ra.gx (m:=.gx a H);refine⟨gG p rfl,zs,fP c,⟨_,fP c⟩,x,u,j,o,d,S,g,p,M,C,fO,iu,?_⟩;cases q:mV S g with
  |some i=>rw[q]at kk;exact(fY I c kk).2
  | none =>rw[q]at kk;obtain⟨L,J⟩:=uc ra (m:=.gx a H) (ss':=j.take (d+1)++[m7 S g]) (rs':=o.take d++[g]) (d':=d+1) c;exact .keep ⟨J,by rw[L];exact kk⟩
 .cases h
def Lv:lN P w K mg ah "_law_likely" 3 (pA zS) (jg Rr):=cq 720 mh ["_law_box_here","_law_state","_law_pool","_law_names_here","_law_fresh","_law_places","_law_way","_law_first","_law_behind","_law_text","_law_some","_law_other"] λF B=>by
 refine lC F B ⟨_,λhr=>(ag (qS 3 B.nd<|rB (Ji rfl) (uL (m:=false)) ZO T.list bo<|a1<|fZ ZJ eS)
  (ag (Ma 4 false B.nd (pJ (N:=["_law_name","_law_state","_law_names_here"]) (js:=[none,some 1,some 3]) B<|by decide +kernel) (ib<|dv 2) ZC (λ_ _ _=>(mQ<|PW.pt<|ml (qp aax ZM aaj<|by with_unfolding_all rfl)<|kR<|G2 (tr T<|dv 2) eS)) λ_ _ _=>ZM)
  (ag (qS 5 B.nd<|qC C9 hr<|a1<|dv 1)
  (ag (qS 6 B.nd<|qC gL hr<|a2 ZM eS)
  (ag (gQ (PW.pt<|ml (G3 (tr T<|dv 4) eS)<|kR<|PW.pt<|tP (yw (tr T<|dv 3) eS)<|nY<|G2 (dv 6) eS)
  (ag (qS 7 B.nd<|qC gL hr<|a2 ZM<|fZ ZJ eS)
  (ag (qS 8 B.nd<|mO (mO (dv 7) eS)<|qC gL hr<|a2 ZM<|O5 aaj<|dv 7)
  (ag (qS 9 B.nd<|mO (mO (wF mulC rS fJ<|dv 7)<|wF mulC rS fJ<|O5 (dv 8)<|dv 7)<|wF mulC rS fJ<|O5 aaj<|dv 8)
  (eX<|fm<|gN<|eW fJ<|eW (fZ (dv 4)<|qC gL hr<|a2 ZM<|tr T<|dv 4)<|eW (dv 9)<|eW (qC gL hr<|a2 ZM eS) gg))))
  gu)
  (ag (qS 10 B.nd<|fZ aar<|qC gL hr<|a2 ZM<|tr T<|dv 3)
  (ag (gQ (PW.pt<|ml (G2 (dv 6) eS)<|ml (G3 (tr T<|dv 4) eS)<|kR<|G3 (tr T<|dv 5) eS)
  (ag (qS 11 B.nd<|fZ aar<|qC gL hr<|a2 ZM<|tr T<|dv 3)
  (eX<|fm<|gN<|eW fJ<|eW (fZ (dv 4)<|qC gL hr<|a2 ZM<|tr T<|dv 4)<|eW (dv 10)<|eW (dv 11)<|eW (fZ (dv 5)<|qC gL hr<|a2 ZM<|tr T<|dv 5) gg))
  gu)
  (ag (gQ (yw (dv 6) eS)
  (eX<|fm<|gN<|a2 fJ<|fZ aar<|pI eS)
  gu)
  (ag (gQ (PW.pt<|ml (yw (dv 6) eS)<|kR<|yw (fZ (jZ aax aaj (dv 10) λ_ _=>rfl) eS) fJ)
  (eX<|fm<|gN<|a3 fJ (dv 10)<|qC gL hr<|a2 ZM eS)
  gu)
  (ag (gQ (PW.pt<|ml (yw (dv 6) eS)<|kR<|G3 aaj eS)
  (eX<|fm<|gN<|a2 (fZ (iA false<|a2 fJ fJ)<|qC gL hr<|a2 ZM eS)<|mO eS<|qC gL hr<|a2 ZM<|O5 aaj eS)
  gu)
  (eX<|fm<|gN<|eW fJ<|eW (dv 10)<|eW (qC gL hr<|a2 ZM<|fZ ZJ eS)<|eW (fZ fJ<|qC gL hr<|a2 ZM eS) gg))))))))))),λds μ Kd h hm hl=>?_⟩
 obtain⟨k,x,y,rfl,hb,S,m,j,rfl,rfl,wf,O,kk⟩:=dJ h;have iu:=wf.iu;have n1:=wf.n1;have n2:=wf.n2;have R:=O.2.1;have eN:(S.af.map λp=>fG p.1).map ou=S.af.map λp=>D.str p.1:=aQ;have fl:(kU S j).length<=50:=aT (bN _ _) R;have ol:(hZ S).length<=40:=by unfold hZ;refine aT (bN _ _) ?_;rw[fI,xr];lia
 have ll:(El S.af).length<=20:=by unfold El;refine aT (bN _ _) ?_;rw[fI];exact iu
 refine uu (d:=.lst<|S.af.map λp=>D.str p.1) (μ':=μ) (λK k=>by rw[<- eN]at k;exact k) ?_;refine⟨sz aaH,iy trivial D.str (λz=>if(!(fc S.af z).isSome&&decide (S.af.length<20))=true then some (D.str z)else none) (λz J K' I=>?_) ?_⟩
 .refine⟨_,jV fo nN z S.af rfl,?_⟩;cases e:fc S.af z with
  |some y=>rw[e]at I;exact I
  | none =>
   rw[e]at I;refine ji (c:=(((S.af.map λp=>D.str p.1).length:Nat):Int)<20) (λq=>?_) (λq=>?_)
   .rw[fI]at q;rw[aH (show S.af.length<20 by lia)]at I;exact I
   .rw[fI]at q;rw[aO (show ¬ S.af.length<20 by lia)]at I;exact I
 rw[Gq];refine⟨S,m,rfl,wf,hb,by decide,by decide,λu w0 w1=>?_⟩;dsimp only;refine iw (decide ((0:Int)<(((kU S j).map D.str).length:Nat))&&((false != decide ((((S.af.map λp=>D.str p.1).length:Nat):Int)=0))||decide (u<3))) ?_ (λq=>?_) (λq=>?_)
 .exact(.and aaI λ_=>.or aaI λ_=>.nW λK k=>k)
 .have f0:0<(kU S j).length:=by simp only[bM,cu,fI]at q;lia
  refine⟨hb,by lia,by lia,λf f0' f1=>⟨hb,by lia,by lia,λc c0 c1=>?_⟩⟩
  refine⟨120,rfl,by lia,by lia,111,rfl,by lia,by lia,?_,120,rfl,by lia,by lia,?_,?_⟩
  .rw[Ck,Ck,bC,bC];exact sz Zs
  .rw[ng,Ck,Ck,i8,bC,bC,bC];exact sz Zs
  rw[ng,ng]
  have ho:=((OX.rep (n:=f.toNat) (.inr rfl:(120:Nat)=111\/120=120)).app<|OX.rep (n:=(f+1+c - f).toNat) (.inl rfl:(111:Nat)=111\/111=120)).app (OX.rep (n:=(S.n - (f+1+c)).toNat) (.inr rfl:(120:Nat)=111\/120=120))
  have hl:((List.replicate f.toNat 120++List.replicate (f+1+c - f).toNat 111++List.replicate (S.n - (f+1+c)).toNat 120).length:Int)=S.n:=by rw[i8,i8,bC,bC,bC];lia
  refine⟨hb,by rw[fI];lia,by rw[fI];lia,λi C o=>?_⟩
  obtain⟨z,J,e⟩:=oG (g:=D.str) (xs:=kU S j) C (by rw[fI]at o;exact o)
  obtain⟨Q,z2⟩:=xu O J
  exact eT e ⟨hb,by decide,by decide,λa a0 a1=>⟨zs,.keep<|kk (.put z (txt _) a) (D0 Q hl ho a0<|by lia) ⟨by lia,by rw[i9];lia⟩ (List.mem_filter.mp J).1⟩⟩
 have U:0<S.af.length:=by
  rcases Nat.eq_zero_or_pos S.af.length with z|z
  .have:=Gr O<|List.length_eq_zero_iff.mp z;rw[aH (show(0:Int)<(((kU S j).map D.str).length:Nat) by rw[fI];lia),aH (show(((S.af.map λp=>D.str p.1).length:Nat):Int)=0 by rw[fI];lia)]at q;cases q
  .exact z
 refine⟨hb,by rw[fI];lia,by rw[fI];lia,λi C o=>?_⟩;obtain⟨⟨H,L⟩,E,e8⟩:=oG (g:=λp:Str×Pt=>D.str p.1) (xs:=S.af) C (by rw[fI]at o;exact o);refine eT e8 ?_;dsimp only;refine iw (decide (u<5)&&(decide ((0:Int)<(((kU S j).map D.str).length:Nat))&&decide ((0:Int)<(((hZ S).map D.int).length:Nat)))) ?_ (λq=>?_) (λq=>?_)
 .exact(.and aaI λ_=>.and aaI λ_=>.nW λK k=>k)
 .simp only[bM,cu,fI]at q;refine⟨hb,by rw[fI];lia,by rw[fI];lia,λi C o=>?_⟩;obtain⟨p9,Z,e9⟩:=oG (g:=λp:Str×Pt=>D.str p.1) (xs:=S.af) C (by rw[fI]at o;exact o);refine eT e9 ⟨hb,by rw[fI];lia,by rw[fI];lia,λi C o=>?_⟩;obtain⟨z,J,e⟩:=oG (g:=D.str) (xs:=kU S j) C (by rw[fI]at o;exact o);obtain⟨Q,z2⟩:=xu O J;refine eT e ⟨hb,by rw[fI];lia,by rw[fI];lia,λi C o=>?_⟩;obtain⟨R,Y,e10⟩:=oG (g:=D.int) (xs:=hZ S) C (by rw[fI]at o;exact o);exact eT e10 ⟨zs,.keep<|kk (.join z H p9.1 R) (HW Q E Z Y) (show z.length<=1000 by lia) (List.mem_filter.mp J).1⟩
 have a8:fc S.af H=some L:=gB wf.kp.nd E;have eg:MP (S.af.map λp=>fG p.1) (S.af.map λp=>nN p.2) (.str H)=some (some<|nN L):=by rw[jV fo nN H S.af rfl,a8];rfl
 refine j0 ?_;dsimp only;refine iw (false != decide (u=5)) aaI (λq=>?_) (λq=>?_)
 .obtain⟨r,q9,M⟩:∃ r q,S.af=r++[q]:=⟨S.af.dropLast,S.af.getLast<|List.length_pos_iff.mp U,(List.dropLast_concat_getLast _).symm⟩;have e9:kP (S.af.map λp=>D.str p.1) (-1)=some (D.str q9.1):=by rw[M,aM];exact qd _ _
  exact eT e9 ⟨zs,.keep<|kk (.drop q9.1) (HX<|F6 wf.kp M) trivial trivial⟩
 refine j0 ?_;dsimp only;refine iw ((false != decide (u=6))&&OL L) ?_ (λq=>?_) (λq=>?_)
 .exact(.and aaI λ_=>.nW λK k=>by cases L<;>exact⟨_,eg,k⟩)
 .cases L with
  |jn _ _ _=>rw[show OL (.jn _ _ _)=false from rfl,dO]at q;cases q
  | fst b a0 =>refine⟨hb,by decide,by decide,λa a0' a1=>⟨zs,.keep<|kk (.rH H a) ?_ trivial trivial⟩⟩;show(match fc S.af H with|none=>some 11|some (.jn _ _ _)=>some 13|some (.fst _ _)=>nH a)=none;rw[a8];exact Lb a0' Zs
 refine j0 ?_;dsimp only;refine iw ((false != decide (u=7))&&decide (1<S.n)) ?_ (λq=>?_) (λq=>?_)
 .exact(.and aaI λ_=>.nW λK k=>k)
 .simp only[bM,cu]at q;refine⟨zs,hb,by decide,by decide,λt t0 t1=>?_⟩;obtain rfl|rfl:t=0\/t=1:=by lia
  .exact⟨hb,by lia,by lia,λp p0 p1=>⟨zs,.keep<|kk (.free<|1+p) (u9 Zs<|by lia) trivial trivial⟩⟩
  .exact⟨hb,by lia,by lia,λp p0 p1=>⟨zs,.keep<|kk (.gs<|1+p) (u9 Zs<|by lia) trivial trivial⟩⟩
 refine⟨hb,by lia,by lia,λbar b0 b1=>⟨hb,by decide,by decide,λt t0 t1=>⟨by decide,?_⟩⟩⟩;obtain rfl|rfl:t=0\/t=1:=by lia
 .exact⟨zs,.keep<|kk (.found H bar ⟨#[111]⟩) (xh E b0 b1<|.inl rfl) trivial trivial⟩
 .exact⟨zs,.keep<|kk (.found H bar ⟨#[120]⟩) (xh E b0 b1<|.inr rfl) trivial trivial⟩
def Sn:lN P w K mg ah "_law_pair" 3 (pA HI) (jg Rj):=cq 740 mh ["_law_size","_law_cuts","_law_takes_here","_law_border","_law_table","_law_age"] λF r=>by
 refine lC F r ⟨_,λhr=>(ag (qS 3 r.nd<|mO (mO (iA false<|a1 eS)<|dv 1)<|iA false<|a1<|dv 0)
  (ag (qS 4 r.nd<|iA false gg)
  (ag (lF bF rfl (ir rfl T.range<|a1<|mO (kj (MB rfl) t9 ZO T.max b9<|a1<|mO (iA false<|a1 eS)<|tX false (pJ (N:=["_law_text","_law_old"]) (js:=[none,none]) r<|by decide +kernel) (ib<|dv 2) ZD ZR λ_ _ _=>ZJ) eS) (qT 5 r.nd)
  (ag (qS 4 r.nd<|qC Dc hr<|a3 aar (qC VS hr<|a3 aar aaP<|dv 5)<|dv 4)
  (eX (gQ (G3 (fZ (fZ (dv 4) eS)<|pI eS) eS)
  (eX<|fm<|gN<|a2 (dv 5)<|O5 (fZ (fZ (dv 4) eS)<|pI eS) eS)
  gu))))
  (eX<|fm tq)))),λY R Kd h hm hl=>?_⟩
 obtain⟨n,c,y,rfl,g,ts,rfl,Q,S,M,kk⟩:=dJ h;have iu:=S.iu;have ft:=S.takes.iu;have n2:=S.n2;have o:(ae n g).length=g.length+2:=gO n g;have eE:[D.int 0]++g.map D.int++[D.int n]=(ae n g).map D.int:=by unfold ae;simp
 refine uu (d:=.lst<|(ae n g).map D.int) (μ':=R) (λK k=>?_) ?_
 .rw[<- eE]at k;exact⟨zs,eT rfl (eT rfl ⟨sz (by rw[fI];show 1+g.length<=_;lia),zs,eT rfl (eT rfl ⟨sz (by rw[i8,fI];show 1+g.length+1<=_;lia),k⟩)⟩)⟩
 refine⟨zs,zs,eT Q ⟨by rw[fI];exact sz<|by lia,hX (vo Q) (MC λt=>.int t.2) (λd hd K' I=>?_) ?_⟩⟩
 .obtain⟨t,ht,rfl⟩:=List.mem_map.mp hd;exact⟨rfl,I⟩
 rw[yP];refine eT rfl (eT rfl ⟨sz (by rw[fI];show 1+ts.length<=_;lia),0::ts.map ZI,by unfold lv;rw[aJ,aQ];rfl,λe=>(by cases e),λm O B=>?_⟩);have m0:0<=m:=B 0 aE;have m1:m<=60:=by
  rcases List.mem_cons.mp O with rfl|O
  .decide
  .obtain⟨t,ht,rfl⟩:=List.mem_map.mp O;have:=S.takes.ok t ht;lia
 have U:jI (ae n g) ts=none->∃ x,x<=m.toNat+6/\iF (ae n g) ts n x:=λhb=>vn S M hb λt ht=>by have:=B t.2<|jJ _<|List.mem_map.mpr ⟨t,ht,rfl⟩;lia
 refine⟨by lia,by lia,?_⟩;refine gR (λY C μ'=>∃(k c:Nat) (l:az D) (v:aA D),Y=lP (k:Int) c/\(k:Int)+c=m+8/\((l=[]/\k=0)\/(1<=k/\l=ja (ae n g).length (iK (ae n g) ts k)))/\(∀ b,b<k->¬ 0<iK (ae n g) ts (b+1) 0 (g.length+1))/\C=[some (.int n),some (.lst<|g.map D.int),some y,some (.lst<|(ae n g).map D.int),some (.lst l),v]/\μ'=R) ⟨0,(m+8).toNat,[],none,rfl,by lia,.inl ⟨rfl,rfl⟩,λb hb=>absurd hb<|Nat.not_lt_zero _,rfl,rfl⟩ ?_ ?_
 .rintro d G5 C μ' ⟨k,c,l,v,e,L,u,low,rfl,rfl⟩;refine⟨trivial,λnx J=>?_⟩;cases c with
  |zero=>cases e
  | succ c =>
   rw[gy]at e;cases e;refine⟨n,g,ts,rfl,Q,S,ae n g,ip (ae n g) ts k,iK (ae n g) ts k,rfl,rfl,(yB _ _ _).len,λe=>by rw[e]at o;simp at o,by lia,?_,pP _ _ k,?_⟩
   .rcases u with⟨rfl,rfl⟩ | ⟨_,rfl⟩
    .exact .inl ⟨rfl,rfl⟩
    .exact .inr rfl
   have a1:kP (ja (ae n g).length<|iK (ae n g) ts<|k+1) 0=some (.lst<|hI (ae n g).length<|iK (ae n g) ts (k+1) 0):=iS (j:=0) (kH<|by lia);have a2:kP (hI (ae n g).length<|iK (ae n g) ts (k+1) 0) (-1)=some (.int<|iK (ae n g) ts (k+1) 0<|g.length+1):=Fg (by rw[kK,o];exact jr<|by lia);dsimp only;refine iw (decide (0<iK (ae n g) ts (k+1) 0 (g.length+1))) (.nW λK I=>eT a1<|eT a2 I) (λq=>?_) (λq=>?_)
   .have q:=bJ q;have H:iF (ae n g) ts n k:=⟨Ho S q,λb hb hn=>low b hb (by
     have B:=DY S b (oB n g)
     rw[hn]at B
     exact wW S b 0 (g.length+1) 0 n (oB n g) (m6 n g) Zs<|Int.le_of_eq<|a5 B)⟩
    have hb:jI (ae n g) ts=none:=F7 S (a:=k)<|(More.refl S).least H;rw[hb]at kk;obtain⟨x,Z,E⟩:=U hb;have:=H.uniq E;exact eT a1 (eT a2 ⟨zs,.keep<|kk k Zs H⟩)
   .have q:=of_decide_eq_false q;exact j0 (J _ _ ⟨k+1,c,_,_,rfl,by lia,.inr ⟨by lia,rfl⟩,λb hb=>by
     by_cases z:b=k
     .rw[z];exact q
     .exact low b<|by lia,rfl,rfl⟩)
 .rintro C μ' ⟨k,c,l,v,e,L,u,low,rfl,rfl⟩;cases c with
  |succ c=>rw[gy]at e;cases e
  | zero =>
   refine⟨trivial,.keep ?_⟩;cases hb:jI (ae n g) ts with
   |some p=>rw[hb]at kk;exact kk
   | none =>obtain⟨x,Z,E⟩:=U hb;exact absurd (wX S E) (low x<|by lia)
def t4:lN P w K mg ah "least_and_few" 7 (pA nk) (jg<|UT eV):=cq 653 mL ["stand","size","cuts","takes","age"] λF c=>by
 refine lC F c ⟨_,λhr=>(ag (jq (fR kG ai.cl hr.le<|dv 0)<|nK 3<|hV (qT 1 c.nd)<|hV (qT 2 c.nd)<|hV (qT 3 c.nd) nM)
  (ag (qS 4 c.nd<|qC tH hr<|a3 ZJ aaP<|dv 3)
  (ag (gQ (zJ<|dv 4)
  (eX<|fm tq)
  gu)
  (eX<|fm<|gN<|a2 (dv 4)<|qC Lx hr<|eW ZJ<|eW aaP<|eW aar<|eW (dv 4) gg)))),λo j q h hm hl=>?_⟩
 obtain⟨x,rfl,S,m,rfl,wf,kk⟩:=dJ h;obtain⟨d,ol⟩:=uR wf;refine⟨⟨rfl,rfl⟩,S,m,rfl,wf,rfl,hZ S,gU S,rfl,rfl,d,by lia,?_⟩;unfold yG;unfold qO at kk;cases hb:jI (ae S.n<|hZ S) (gU S)with
 |some p=>rw[hb]at kk;exact .keep kk
 | none =>
  rw[hb]at kk;intro a ha la;have kk:=kk a ha la;have g:Gw (jb (ae S.n<|hZ S) (gU S) (a+1) 0<|(hZ S).length+1) (hZ S).length=.int (iK (ae S.n<|hZ S) (gU S) (a+1) 0 ((hZ S).length+1) - 1):=by
   rcases JQ d (a+1)with⟨z,_⟩|⟨_,z⟩
   .have:=wX d la;rw[z]at this;exact absurd this Zu
   .exact z
  refine⟨hZ S,gU S,rfl,rfl,d,by lia,by lia,?_⟩;rw[BA,g];exact⟨zs,.keep kk⟩
def rN:o7 P w K mg ah fe "least" 8 (pA qD) (jg<|JY fe eV λa _=>.int a):=G6 "Room.least" 611 mL ["self","size","cuts","takes"] λF c=>by
 refine lC F c ⟨_,λhr=>(ag (jq (fR kG ai.cl hr.le<|fR g8 eY.cl hr.le<|dv 0)<|nK 3<|hV (qT 1 c.nd)<|hV (qT 2 c.nd)<|hV (qT 3 c.nd) nM)
  (eX<|fm<|qC tH hr<|a3 ZJ aaP<|dv 3)),λy x B h hm hl=>?_⟩
 obtain⟨k,rfl,u,r,j,q,d,S,ra,g,kk⟩:=dJ h;have wf:=ra.wf _ _ g;obtain⟨o,ol⟩:=uR wf;refine⟨by show(kT _ _ _).map _=_;rw[fN ra.ins];rfl,u,r,j,q,d,_,ra,g,⟨rfl,rfl⟩,_,_,rfl,wf,rfl,hZ S,gU S,rfl,rfl,o,by lia,?_⟩;unfold yG;unfold qO at kk;cases hb:jI (ae S.n<|hZ S) (gU S)with
 |some p=>rw[hb]at kk;exact .keep kk
 | none =>rw[hb]at kk;exact λa ha la=>.keep (kk a ha la)
def wh:o7 P w K mg ah fe "few" 8 (pA u3) (jg<|JY fe eV λ_ b=>.int b):=G6 "Room.few" 618 mL ["self","told"] λF g=>by
 refine lC F g ⟨_,λhr=>(ag (qS 1 g.nd<|qC t4 hr<|a1<|fR g8 eY.cl hr.le<|dv 0)
  (eX<|fm<|y3 (zJ<|dv 1) tq<|fZ ZJ eS)),λx u y h hm hl=>?_⟩
 obtain⟨k,rfl,r,q,j,o,d,S,ra,c,kk⟩:=dJ h;have wf:=ra.wf _ _ c;refine⟨by show(kT _ _ _).map _=_;rw[fN ra.ins];rfl,r,q,j,o,d,_,ra,c,S,_,rfl,wf,?_⟩;unfold qO at kk ⊢
 cases hb:jI (ae S.n<|hZ S) (gU S)with
 |some p=>rw[hb]at kk;exact .keep kk
 | none =>rw[hb]at kk;exact λa ha la=>.keep (kk a ha la)
def tL:o7 P w K mg ah fe "twin" 8 (pA sM) (jg<|Rg fe eV):=G6 "Room.twin" 639 mL ["self","room"] λF x=>by
 refine lC F x ⟨_,λhr=>(ag (qS 1 x.nd<|A7 nF hr.le rfl (a1<|fR tM eY.cl hr.le<|dv 0))
  (ag (o9 eY.cl eY.oj (rB qQ (lS (m:=true)) ZO T.list bo<|a1<|fE eY.cl eY.oj<|dv 0)<|dv 1)
  (ag (o9 eY.cl eY.mW (rB qQ (lS (m:=true)) ZO T.list bo<|a1<|fE eY.cl eY.mW<|dv 0)<|dv 1)
  (ag (o9 eY.cl eY.jD (fE eY.cl eY.jD<|dv 0)<|dv 1)
  (eX<|fm<|dv 1))))),λQ a R h hm hl=>?_⟩
 obtain⟨k,rfl,⟨m,u⟩,r,q,c,o,d,ra,kk⟩:=dJ h;obtain⟨S,J,wf⟩:=ra.now;have n1:=wf.n1;have n2:=wf.n2;have I:0<a.length:=(jA u).1;obtain⟨lk,la,O⟩:=ra.lk;have iu:=ra.iu;have len:=ra.len;refine⟨gG ra rfl,r,q,c,o,d,S,ra,J,trivial,⟨m,by rw[pF I];exact u⟩,by lia,gi,?_⟩;rw[aF Zs,gr,aS];have j:=ra.more (g:=[MO.ins fe nG [.mr (a++[MO.ins fe [] []]).length,.mr ((a++[MO.ins fe [] []]).length+1),.int 0]]++[MO.lst [jL eV ⟨S.n,[],[]⟩],MO.lst []]);have L:(a++[MO.ins fe [] []]).length=a.length+1:=by rw[i8];rfl
 rw[L]at j ⊢
 refine⟨rfl,.mr r,by rw[fN j.ins];rfl,eT (fT j.l1) ?_⟩;have e1:∀(A B C E X:MO),((a++([A]++[B,C]))++[E]).set a.length X=a++[X,B,C,E]:=λA B C E X=>by rw[aS];exact kB
 have M:∀(A B C E G X:MO),((a++[A,B,C,E])++[G]).set a.length X=a++[X,B,C,E,G]:=λA B C E G X=>by rw[aS];exact kB
 have H:∀(A B C:MO),(a++([A]++[B,C])).length=a.length+3:=λA B C=>by rw[i8];rfl
 have l4:∀(A B C E:MO),(a++[A,B,C,E]).length=a.length+4:=λA B C E=>by rw[i8];rfl
 refine⟨(nG,[.mr (a.length+1),.mr (a.length+1+1),.int 0]),_,fN (by rw[aS];exact i0),rfl,by show 3<1000;decide,?_⟩;rw[e1,H];have p:=ra.more (g:=[MO.ins fe nG [.mr (a.length+3),.mr (a.length+1+1),.int 0],.lst [jL eV ⟨S.n,[],[]⟩],.lst [],.lst (c.map<|jL eV)]);refine⟨.mr q,by erw [fN p.ins];rfl,eT (fT p.l2) ?_⟩;refine⟨(nG,[.mr (a.length+3),.mr (a.length+1+1),.int 0]),_,fN (by rw[aS];exact i0),rfl,by show 3<1000;decide,?_⟩;rw[M,l4];have y:=ra.more (g:=[MO.ins fe nG [.mr (a.length+3),.mr (a.length+4),.int 0],.lst [jL eV ⟨S.n,[],[]⟩],.lst [],.lst (c.map<|jL eV),.lst (o.map mG)]);refine⟨.int d,by erw [fN y.ins];rfl,(nG,[.mr (a.length+3),.mr (a.length+4),.int 0]),_,fN i0,rfl,by show 3<1000;decide,.keep ?_⟩;rw[kB];exact kk ⟨S.n,[],[]⟩
def Lr:lN P w K mg ah "_law_told" 9 (pA HF) (jg<|Ri fe eV):=cq 771 mh ["_law_room","_law_state","_law_due"] λF y=>by
 refine lC F y ⟨_,λhr=>(ag (qS 2 y.nd<|qC Sn hr<|a3 aaj (qC C9 hr<|a1<|dv 1)<|qC Fq hr<|a1<|dv 1)
  (ag (gQ (zJ<|dv 2)
  (eX<|fm<|EW (O4<|fR rN eY.cl hr.le<|dv 0)<|EV<|O4<|fR wh eY.cl hr.le<|dv 0)
  gu)
  (eX<|fm<|qC k7 hr<|a2 (gN<|a2 (fR rN eY.cl hr.le<|dv 0)<|fR wh eY.cl hr.le<|dv 0)<|dv 2))),λI H J h hm hl=>?_⟩
 obtain⟨k,x,rfl,q,o,g,j,d,S,ra,c,rfl,kk⟩:=dJ h;have wf:=ra.wf _ _ c;obtain⟨B,ol⟩:=uR wf;refine⟨S,_,rfl,wf,S,_,rfl,wf,hZ S,gU S,rfl,rfl,B,by lia,?_⟩;cases hb:jI (ae S.n<|hZ S) (gU S)with
 | some p =>refine⟨gG ra rfl,q,o,g,j,d,S,ra,c,?_⟩;unfold qO;rw[hb];refine⟨gG ra rfl,q,o,g,j,d,S,ra,c,?_⟩;unfold qO;rw[hb];exact .keep kk
 | none =>
  intro a ha la;refine⟨gG ra rfl,q,o,g,j,d,S,ra,c,?_⟩;unfold qO;rw[hb];intro a1 E u;cases la.uniq u;refine⟨gG ra rfl,q,o,g,j,d,S,ra,c,?_⟩;unfold qO;rw[hb];intro a2 C r;cases la.uniq r;refine⟨zs,_,rfl,rfl,uO (by simp only[aY,List.length_nil];lia) λd hd=>?_,.keep kk⟩;simp only[bq,a7,ck]at hd;rcases hd with rfl|rfl
  .exact jC
  .exact jC
def we:lN P w K mg ah "_law_one_turn" 10 (pA uX) (jg<|Rh fe eV):=cq 764 mh ["_law_box_here","_law_room","_law_past","_law_later","_law_pool","_law_way","_law_deed"] λF Sc=>by
 refine lC F Sc ⟨_,λhr=>(ag (qS 5 Sc.nd<|qC gL hr<|a2 ZM eS)
  (eX (gQ (PW.pt<|ml (yw (dv 5) eS)<|kR<|G3 (tr T<|dv 2) eS)
  (ag (gD<|xF Bv eY.cl hr.le<|dv 1)
  (eX<|gD<|vO bX cC cA oV lB aar<|a1<|Ku bX PySem.F.slot_list_pop PySem.F.type_list_pop TQ Hy<|dv 2))
  (eX (gQ (PW.pt<|ml (yw (dv 5) eS)<|kR<|G3 (tr T<|dv 3) eS)
  (ag (gD<|xF Bw eY.cl hr.le<|dv 1)
  (eX<|gD<|vO bX cC cA oV lB aaP<|a1<|Ku bX PySem.F.slot_list_pop PySem.F.type_list_pop TQ Hy<|dv 3))
  (ag (qS 6 Sc.nd<|qC Lv hr<|a3 ZM (fZ (fZ aaP<|pI eS) eS)<|dv 4)
  (ag (gD<|mH tN eY.cl hr.le ZJ<|a1<|dv 6)
  (ag (gD<|vO bX cC cA oV lB aaP<|a1<|gN<|a2 (qC Ss hr<|a2 (fZ (fZ aaP<|pI eS) eS)<|dv 6)<|dv 6)
  (eX<|gD<|Ku bX PySem.F.slot_list_clear PySem.F.type_list_clear RU HB<|dv 3))))))))),λds Y Kd h hm hl=>?_⟩
 obtain⟨b,k,p,q,y,rfl,hb,⟨m0,em⟩,I,H,Z,J,u,E,C,r,d,rfl,hp,⟨ra,pa,la,lp,lq,nm⟩,⟨⟨p1,p2,p3⟩,⟨q1,q2,q3⟩,pq⟩,iu,kk⟩:=dJ h;have M:=ra.le;have L:=ra.len;have pl:=pa.len M;have ll:=la.len;have es:=pa.now M;have np:p<Y.length:=(jA lp).1;have nq:q<Y.length:=(jA lq).1;refine⟨hb,by decide,by decide,λw w0 w1=>?_⟩;have O:∀(g:MS) (U R:az (RS×Dd)) (j:az RS) (o:az Dd) (d':Nat),o.length<=r.length+1->g=jh fe eV Y k I H j o d'->fC fe eV g k I H j o d'->l8 J U j o d'->Later R j o d'->(∀ T∈j,C7 Z T/\T.n=J.n)->Kd .fX ((g.set p<|.lst<|iW J U).set q<|.lst<|R.reverse.map pD):=λg U R j o d' hl a rp pa la nm=>by
  refine kk _ U R j o d' hl ⟨(rp.other p1 p2 p3).other q1 q2 q3,pa,la,?_,?_,nm⟩ (by rw[a];exact K4)
  .rw[aK (bB pq),aV (by rw[a,u7];exact np)]
  .rw[aV (by rw[ba,a,u7];exact nq)]
 dsimp only;refine iw ((false != decide (w=0))&&decide (1<(((iW J u).length:Nat):Int))) (.and aaI λ_=>.nW λK k=>eT (fT lp) k) (λc=>?_) (λ_=>?_)
 .have c2:=bJ (Bool.and_eq_true_iff.mp c).2;rw[r6]at c2;rcases yX u with rfl|⟨u,x,rfl⟩
  .exact absurd c2 Zu
  obtain⟨d,rfl⟩:∃ d',d=d'+1:=⟨d - 1,by rw[i8,aX]at pl;lia⟩;obtain⟨x1,x2⟩:=pa.back M;refine⟨gG ra rfl,trivial,⟨_,em⟩,I,H,C,r,d+1,ra,λe he=>?_⟩;have rp:fC fe eV (jh fe eV Y k I H C r d) k I H C r d:=ra.put L Zs ra.wf ra.iu;obtain⟨g,a⟩:∃ g,g=jh fe eV Y k I H C r d:=⟨_,rfl⟩;rw[<- a]at rp ⊢
  have Q:g[p]?=some (.lst<|iW J<|u++[x]):=by rw[a,jO p1 p2 p3];exact lp
  have vq:g[q]?=some (.lst<|E.reverse.map pD):=by rw[a,jO q1 q2 q3];exact lq
  refine⟨mZ<|fT vq,mZ<|fT Q,eT (fT Q)<|eT (v:=pD x) ?_ ?_⟩
  .rw[my,i8,aX,Nat.add_sub_cancel,lQ aaa,bc];rfl
  rw[my,List.dropLast_concat];have mq:(g.set p<|.lst<|iW J u)[q]?=some (.lst<|E.reverse.map pD):=by rw[aK pq];exact vq
  refine eT (fT mq) ⟨by rw[fI,List.length_reverse];exact aR (m:=1000) Zs<|sz<|by lia,.keep ?_⟩;have fin:=O g u (x::E) C r d Zs a rp (pa.Pl M) (la.Pl x1 x2) nm;rw[dg,aM]at fin;exact fin
 refine iw ((false != decide (w=1))&&decide (0<(((E.reverse.map pD).length:Nat):Int))) (.and aaI λ_=>.nW λK k=>eT (fT lq) k) (λc=>?_) (λ_=>?_)
 .have c2:=bJ (Bool.and_eq_true_iff.mp c).2;rw[fI,List.length_reverse]at c2;cases E with
  |nil=>exact absurd c2 Zu
  | cons x E =>
   obtain⟨x1,x2,la2⟩:=la.Qa;have ql:((x::E).reverse).map pD=E.reverse.map pD++[pD x]:=by rw[dg,aM];rfl
   rw[ql]at lq;have hd:d<r.length:=(jA x2).1;refine⟨gG ra rfl,trivial,⟨_,em⟩,I,H,C,r,d,ra,?_⟩;rw[x2];have rp:fC fe eV (jh fe eV Y k I H C r<|d+1) k I H C r (d+1):=ra.put L hd ra.wf ra.iu;obtain⟨g,a⟩:∃ g,g=jh fe eV Y k I H C r (d+1):=⟨_,rfl⟩;dsimp only;rw[<- a]at rp ⊢
   have Q:g[p]?=some (.lst<|iW J u):=by rw[a,jO p1 p2 p3];exact lp
   have vq:g[q]?=some (.lst<|E.reverse.map pD++[pD x]):=by rw[a,jO q1 q2 q3];exact lq
   refine⟨mZ<|fT Q,mZ<|fT vq,eT (fT vq)<|eT (v:=pD x) ?_ ?_⟩
   .rw[i8,aX,Nat.add_sub_cancel,lQ aaa,bc];rfl
   rw[List.dropLast_concat];have mp:(g.set q<|.lst<|E.reverse.map pD)[p]?=some (.lst<|iW J u):=by rw[aK (bB pq)];exact Q
   refine eT (fT mp) ⟨by rw[r6];exact aR (m:=1000) Zs<|sz<|by lia,.keep ?_⟩;have fin:=O g (u++[x]) E C r (d+1) Zs a rp (pa.Qa x1 x2) la2 nm;rw[my,di _ _ pq]at fin;exact fin
 .obtain⟨S,hS⟩:∃ S,S=GN J u:=⟨_,rfl⟩;obtain⟨y,ey⟩:=oM J u;rw[<- hS]at es ey;have wf:=ra.wf _ S es;refine eT (fT lp) (eT ey ⟨hb,S,_,Z,rfl,rfl,wf,hp,λe B fO hfr=>⟨gG ra rfl,trivial,⟨_,em⟩,I,H,C,r,d,S,e,ra,es,rfl,fO,by lia,?_⟩⟩);rw[B];obtain⟨g3,g4⟩:=ra.UD es B Zs;dsimp only;obtain⟨g,a⟩:∃ g,g=jh fe eV Y k I H (C.take (d+1)++[m7 S e]) (r.take d++[e]) (d+1):=⟨_,rfl⟩;rw[<- a]at g3 ⊢
  have Q:g[p]?=some (.lst<|iW J u):=by rw[a,jO p1 p2 p3];exact lp
  have vq:g[q]?=some (.lst<|E.reverse.map pD):=by rw[a,jO q1 q2 q3];exact lq
  refine⟨mZ<|fT Q,eT (fT Q)<|eT ey ⟨S,e,_,rfl,rfl,wf,by lia,B,zs,eT (fT Q) ⟨by rw[r6];exact aR (m:=1000) Zs<|sz<|by lia,?_⟩⟩⟩;have mq:(g.set p<|.lst<|iW J u++[pD (m7 S e,e)])[q]?=some (.lst<|E.reverse.map pD):=by rw[aK pq];exact vq
  have rl:(r.take d++[e]).length<=d+1:=by rw[i8,a9];show _+1<=_;lia
  have sl:(C.take (d+1)++[m7 S e]).length<=d+1+1:=by rw[i8,a9];show _+1<=_;lia
  have fin:=O g (u++[(m7 S e,e)]) [] _ _ (d+1) Zs a g3 (by rw[hS];exact pa.do M L) (.none sl rl) (λT hT=>by
   rcases List.mem_append.mp hT with q|q
   .exact nm T (bt q)
   .rw[List.mem_singleton.mp q];exact⟨(nm S<|lH es).1.do wf B hfr,by rw[U2];exact(nm S<|lH es).2⟩)
  rw[my]at fin;exact⟨mZ<|fT mq,eT (fT mq)<|.keep fin⟩
def Ob:lN P w K mg ah "_law_begun" 5 (pA DQ) (jg<|Nv fe eV):=cq 679 mh ["_law_box_here","_law_most","_law_size"] λF u=>by
 refine lC F u ⟨_,λhr=>(ag (qS 2 u.nd<|mO eS<|qC gL hr<|a2 ZM<|dv 1)
  (eX<|fm<|gN<|a3 (A7 nF hr.le rfl (a1<|dv 2)) (gN<|a3 aaP rC rC)<|qC N8 hr<|a2 ZM<|fZ (iA false<|a3 eS eS eS)<|qC gL hr<|a2 ZM eS)),λL d B h hm hl=>?_⟩
 obtain⟨k,r,rfl,⟨x,y⟩,hb,hk,J,I,kk⟩:=dJ h;refine⟨hb,by lia,by lia,λn H n1=>?_⟩;have p:d≠[]:=λe=>by rw[e]at hk;exact absurd hk (Nat.not_lt_zero _)
 have q:0<d.length:=List.length_pos_iff.mpr p;refine⟨trivial,⟨x,by rw[pF q];exact y⟩,by lia,gi,?_⟩;rw[aF Zs,gr,aS];have c:∀ g:MS,(d++g)[k]?=some .box:=λg=>by rw[pF hk];exact hb
 refine⟨rfl,zs,zs,c _,by decide,by decide,λv E C=>?_⟩;have fin:∀ a,pT a->a.length<=8->Fz d.length B (.tup [.mr d.length,xb ⟨1+n,[],[]⟩,zM a]) (d++([MO.ins fe nG [.mr (d++[MO.ins fe [] []]).length,.mr ((d++[MO.ins fe [] []]).length+1),.int 0]]++[MO.lst [jL eV ⟨1+n,[],[]⟩],MO.lst []])):=λa j o=>by rw[i8];exact .keep (kk (1+n) a Zs Zs j o)
 obtain rfl|rfl|rfl:v=0\/v=1\/v=2:=by lia
 .exact⟨c _,by decide,by decide,λa o j=>⟨zs,fin a j<|by lia⟩⟩
 .exact⟨c _,by decide,by decide,λa o j=>⟨zs,fin a j<|by lia⟩⟩
 .exact⟨c _,by decide,by decide,λa o j=>⟨zs,fin a j<|by lia⟩⟩
def QF (F:oJ K "law" "law" mu f fd)(Sc:gw ["_law_script","_law_box_here","_law_room","_law_state","_law_pool","_law_past","_law_later","_law_k","_law_other","_law_both","_law_one","_law_third","_law_free"] (pA mu) (fh mu)):ij P w K mg ah wq 13 f fd (pA mu) (Om K):=by
 refine F.ok Sc (λvs H Q E h=>?_) (λtx A fb s H vs Q E hr h=>?_)
 .obtain⟨a,ns,rfl,_⟩:=h;rfl
 .obtain⟨a,ns,rfl,hs,hl,k⟩:=h;refine⟨_,gI (rY (i:=1) Sc.nd rfl (by first | exact Or.inl rfl | exact Or.inr rfl)<|vc VV (hr.mono<|by first | decide | exact aB _ | lia) rfl (fv (kh 0) gJ)) (ag (jq (qC Ob hr<|a2 ZJ eS)<|nK 3<|hV (qT 2 Sc.nd)<|hV (qT 3 Sc.nd)<|hV (qT 4 Sc.nd) nM)
   (ag (qS 5 Sc.nd<|iA true<|a1<|gN<|a2 aar<|gN gg)
   (ag (qS 6 Sc.nd<|iA true gg)
   (ag (lF bF rfl (ir rfl T.range<|a1<|qC gL hr<|a2 ZJ eS) (qT 7 Sc.nd)
   (eX<|gD<|qC we hr<|eW ZJ<|eW aaP<|eW (dv 5)<|eW (dv 6)<|eW (dv 4) gg))
   (ag (qS 8 Sc.nd<|fR tL eY.cl hr.le<|dv 2)
   (ag (qS 9 Sc.nd<|iA false<|a2 (gN<|a3 aaP (dv 5)<|dv 6)<|gN<|a3 (dv 8) (rB qQ (lS (m:=true)) ZO T.list bo<|a1<|dv 5)<|rB qQ (lS (m:=true)) ZO T.list bo<|a1<|dv 6)
   (ag (lF bF rfl (ir rfl T.range<|a1<|qC gL hr<|a2 ZJ eS) (qT 7 Sc.nd)
   (ag (qS 10 Sc.nd<|fZ (dv 9)<|qC gL hr<|a2 ZJ eS)
   (ag (gD<|qC we hr<|eW ZJ<|eW (fZ (dv 10) eS)<|eW (fZ (dv 10) eS)<|eW (fZ (dv 10) eS)<|eW (dv 4) gg)
   (eX (gQ (lE<|hG<|kj (NX rfl) yf ZO T.all dD<|a1<|tX false (pJ (N:=["_law_thing"]) (js:=[none]) Sc<|by decide +kernel) (ib<|dv 9) ZC ZR λ_ _ _=>(qC Fs hr<|a3 (fZ ZM eS) (fZ ZM eS)<|fZ ZM eS))
   (eX<|fm su)
   gu)))))
   (ag (qS 11 Sc.nd<|fR tL eY.cl hr.le<|dv 8)
   (ag (Ma 12 false Sc.nd (pJ (N:=["_law_name","_law_other"]) (js:=[none,some 8]) Sc<|by decide +kernel) (ib<|iA false<|eW fJ<|eW fJ<|eW fJ<|eW fJ<|eW fJ<|eW fJ<|eW fJ<|eW fJ<|eW fJ gg) ZC (λ_ _ _=>(mQ<|lr QH HA ZM (fR rM eY.cl hr.le<|dv 1)<|by with_unfolding_all rfl)) λ_ _ _=>ZM)
   (ag (gD<|mH Dg eY.cl hr.le (dv 8)<|a3 (fZ (dv 12) eS) (wF mulC rS fJ<|fZ aar eS) eS)
   (ag (gQ (PW.pt<|tP (lE<|hG<|RD eY.cl Oc ZO T.isinstance ZO N5<|dv 11)<|nY<|lE<|hG<|qC Fs hr<|a3 (dv 11) (fZ (fZ (dv 9) eS) eS)<|fZ (fZ (dv 9) eS) eS)
   (eX<|fm su)
   gu)
   (eX<|fm<|EW (qC Lr hr<|a2 (dv 11)<|fZ (fZ (fZ (fZ (dv 9) eS) eS)<|pI eS) eS)<|EV<|qC Lr hr<|a2 aaP<|fZ (fZ (dv 5)<|pI eS) eS)))))))))))),?_⟩
  refine⟨ns,hs,λb q H0 B0 hb0 OM S0=>QM (m:=11) B0 ⟨⟨_,rfl⟩,rfl,by decide,by decide,by decide,λn r h1 h2 hp pl=>?_⟩ k⟩;have YM:fC fe eV ([MO.box]++[.ins fe nG [.mr 2,.mr 3,.int 0],.lst [jL eV ⟨n,[],[]⟩],.lst []]) 1 2 3 [⟨n,[],[]⟩] [] 0:=fC.made Zu h1 Zs;obtain⟨U,hR⟩:∃ U:RS,U=⟨n,[],[]⟩:=⟨_,rfl⟩;rw[<- hR]at YM ⊢
  refine⟨rfl,zs,zs,zs,zs,rfl,by decide,by decide,λt t0 t1=>⟨by lia,by lia,?_⟩⟩;refine gR (λds ρ J=>∃(i j:Nat) (ps qs:az (RS×Dd)) (Z:az RS) (R:az Dd) (d:Nat) (v7:aA D),ds=lP i j/\i+j=t.toNat/\R.length<=i/\j6 fe eV r U J 1 2 3 4 5 ps qs Z R d/\J[0]?=some .box/\J.length=6/\ρ=[none,some (.mr 0),some (.mr 1),some (xb U),some (zM r),some (.mr 4),some (.mr 5),v7,none,none,none,none,none]) ⟨0,t.toNat,[],[],[U],[],0,none,rfl,by lia,aB _,⟨(YM.more (g:=[.lst (iW U [])])).more (g:=[.lst []]),.start,⟨rfl,rfl⟩,rfl,rfl,λT hT=>by rw[List.mem_singleton.mp hT];exact⟨by rw[hR];exact λz hz=>(nomatch hz),rfl⟩⟩,rfl,rfl,rfl⟩ ?_ ?_
  .rintro d' G5 ρ J ⟨i,j,ps,qs,Z,R,d,v7,e1,LH,Xk,RL,o,I,rfl⟩;refine⟨trivial,λnx Er=>?_⟩;cases j with
   |zero=>cases e1
   | succ j =>rw[gy]at e1;cases e1;refine⟨o,⟨_,o⟩,2,3,r,U,ps,qs,Z,R,d,rfl,hp,RL,⟨by decide,by decide,by decide⟩,by lia,λM TM TK Tp Tw d2 SH L aw=>?_⟩;exact Er _ _ ⟨i+1,j,TM,TK,Tp,Tw,d2,_,by rw[ec];rfl,by lia,by lia,L,by rw[aw.2 0 Zu Zu Zu Zu Zu];exact o,by rw[aw.1];exact I,rfl⟩
  .rintro ρ J ⟨i,j,ps,qs,Z,R,d,v7,e1,LH,Xk,RL,o,I,rfl⟩;cases j with
   |succ j=>rw[gy]at e1;cases e1
   | zero =>
    refine⟨trivial,gG RL.ra rfl,⟨_,o⟩,2,3,Z,R,d,RL.ra,λS9=>?_⟩;rw[I];refine⟨zs,eT (fT RL.more.lp)<|eT (fT RL.more.more.lq) ⟨zs,zs,?_⟩⟩;have YV:∀ {g:MO} {x y z u:MO},(J++[g,x,y,z,u]).length=11:=by intros;rw[i8,I];rfl
    have l12:∀ {g:MO} {x y z u v:MO},(J++[g,x,y,z,u]++[v]).length=12:=by intros;rw[i8,YV];rfl
    rw[l12,YV];obtain⟨ν,MR⟩:∃ ν,ν=J++[MO.ins fe nG [.mr 9,.mr 10,.int (d:Int)],.lst [jL eV S9],.lst [],.lst (Z.map<|jL eV),.lst (R.map mG)]++[.lst (iW U ps)]++[.lst (qs.reverse.map pD)]:=⟨_,rfl⟩;obtain⟨A1,A2,A3,A4⟩:=RL.two o I MR;rw[<- MR];dsimp only;refine⟨A3,by decide,by decide,λt t0 t1=>⟨by lia,by lia,?_⟩⟩;refine gR (λds ρ J=>∃(i j:Nat) (ps qs:az (RS×Dd)) (Z:az RS) (R:az Dd) (d:Nat) (O Y:az (RS×Dd)) (C:az RS) (B:az Dd) (d':Nat) (v7 v10:aA D),ds=lP i j/\i+j=t.toNat/\R.length<=20+i/\B.length<=20+i/\j6 fe eV r U J 1 2 3 4 5 ps qs Z R d/\j6 fe eV r U J 6 9 10 11 12 O Y C B d'/\J[0]?=some .box/\J.length=13/\ρ=[none,some (.mr 0),some (.mr 1),some (xb U),some (zM r),some (.mr 4),some (.mr 5),v7,some (.mr 6),some (.lst [.tup [.mr 1,.mr 4,.mr 5],.tup [.mr 6,.mr 11,.mr 12]]),v10,none,none]) ⟨0,t.toNat,ps,qs,Z,R,d,ps,qs,Z,R,d,_,none,rfl,by lia,by lia,by lia,A1,A2,A3,A4,rfl⟩ ?_ ?_
    .clear A1 A2 A3 A4 MR RL Xk LH e1;rintro d' G5 ρ J ⟨i,j,ps,qs,Z,R,d,O,Y,C,B,d',v7,v10,e1,LH,hr1,hr2,R1,R2,o,I,rfl⟩;refine⟨trivial,λnx Er=>?_⟩;cases j with
     |zero=>cases e1
     | succ j =>
      rw[gy]at e1;cases e1;refine⟨o,by decide,by decide,λw w0 w1=>?_⟩;have fin:∀(M:MS) (ps qs:az (RS×Dd)) (Z:az RS) (R:az Dd) (d:Nat) (O Y:az (RS×Dd)) (C:az RS) (B:az Dd) (d':Nat) (v10:aA D),R.length<=20+abe->B.length<=20+abe->j6 fe eV r U M 1 2 3 4 5 ps qs Z R d->j6 fe eV r U M 6 9 10 11 12 O Y C B d'->M[0]?=some .box->M.length=13->nx [none,some (.mr 0),some (.mr 1),some (xb U),some (zM r),some (.mr 4),some (.mr 5),some (.int i),some (.mr 6),some (.lst [.tup [.mr 1,.mr 4,.mr 5],.tup [.mr 6,.mr 11,.mr 12]]),v10,none,none] M:=λM ps qs Z R d O Y C B d' v10 a b c e f g=>Er _ _ ⟨i+1,j,ps,qs,Z,R,d,O,Y,C,B,d',_,v10,by rw[ec];rfl,by lia,a,b,c,e,f,g,rfl⟩;obtain rfl|rfl:w=0\/w=1:=by lia
      .refine⟨o,⟨_,o⟩,2,3,r,U,ps,qs,Z,R,d,rfl,hp,R1,⟨by decide,by decide,by decide⟩,by lia,λM TM TK Tp Tw d2 SH L aw=>?_⟩;have R3:=R2.away aw Zu;have b2:M[0]?=some .box:=by rw[aw.2 0 Zu Zu Zu Zu Zu];exact o
       dsimp only;refine iw (!true) (.not<|.nW λK k=>⟨zs,trivial,⟨_,b2⟩,2,3,_,_,_,_,_,_,L.ra,L.pa,L.la,L.lp,L.lq,trivial,⟨_,b2⟩,9,10,_,_,_,_,_,_,R3.ra,R3.pa,R3.la,R3.lp,R3.lq,trivial,[true,true],rfl,k⟩) aaK (λ_=>j0 ?_);exact fin M TM TK Tp Tw d2 O Y C B d' _ Zs Zs L R3 b2 (by rw[aw.1];exact I)
      .refine⟨o,⟨_,o⟩,9,10,r,U,O,Y,C,B,d',rfl,hp,R2,⟨by decide,by decide,by decide⟩,by lia,λM TM TK Tp Tw d2 SH L aw=>?_⟩;have R3:=R1.away aw Zu;have b2:M[0]?=some .box:=by rw[aw.2 0 Zu Zu Zu Zu Zu];exact o
       dsimp only;refine iw (!true) (.not<|.nW λK k=>⟨zs,trivial,⟨_,b2⟩,2,3,_,_,_,_,_,_,R3.ra,R3.pa,R3.la,R3.lp,R3.lq,trivial,⟨_,b2⟩,9,10,_,_,_,_,_,_,L.ra,L.pa,L.la,L.lp,L.lq,trivial,[true,true],rfl,k⟩) aaK (λ_=>j0 ?_);exact fin M ps qs Z R d TM TK Tp Tw d2 _ Zs Zs R3 L b2 (by rw[aw.1];exact I)
    .clear A1 A2 A3 A4 MR RL Xk LH e1;rintro ρ J ⟨i,j,ps,qs,Z,R,d,O,Y,C,B,d',v7,v10,e1,LH,hr1,hr2,R1,R2,o,I,rfl⟩;cases j with
     |succ j=>rw[gy]at e1;cases e1
     | zero =>
      refine⟨trivial,gG R2.ra rfl,⟨_,o⟩,9,10,C,B,d',R2.ra,λS9=>?_⟩;rw[I];have T3:=R2.ra.S2 I (x:=.lst [jL eV S9]) (y:=.lst []);obtain⟨ν,MR⟩:∃ ν,ν=J++[MO.ins fe nG [.mr 16,.mr 17,.int (d':Int)],.lst [jL eV S9],.lst [],.lst (C.map<|jL eV),.lst (B.map mG)]:=⟨_,rfl⟩;have M1:j6 fe eV r U ν 1 2 3 4 5 ps qs Z R d:=by rw[MR];exact R1.more
      have M2:j6 fe eV r U ν 6 9 10 11 12 O Y C B d':=by rw[MR];exact R2.more
      have b0:ν[0]?=some .box:=by rw[MR,pF Zs];exact o
      rw[<- MR]at T3 ⊢
      have es:=M2.pa.now M2.ra.le;obtain⟨S,hS⟩:∃ S,S=GN U O:=⟨_,rfl⟩;rw[<- hS]at es;have wf:=M2.ra.wf _ _ es;obtain⟨YS,nS⟩:=M2.nm S<|lH es;have iu:=JR wf pl YS;have n1:=wf.n1;have n2:=wf.n2;dsimp only;refine⟨zs,SD<|eT rfl ⟨zs,?_⟩⟩;change nB _ _ (pC.map D.str) _ _;refine iy trivial D.str (λz=>if(!decide (z∈S.af.map Zx))=true then some (D.str z)else none) (λz hz K' k'=>?_) ?_
      .refine⟨gG M2.ra rfl,9,10,C,B,d',S,M2.ra,es,rfl,List.all_eq_true.mpr λd hd=>by obtain⟨p,_,rfl⟩:=List.mem_map.mp hd;rfl,?_⟩;rw[IM];by_cases q:z∈S.af.map Zx
       .rw[aH q]at k' ⊢;exact k'
       .rw[aO q]at k' ⊢;exact k'
      rw[IL];obtain⟨z,zs,ez⟩:=List.exists_cons_of_ne_nil<|Gs pl YS;have hz:z∈pC/\z∉S.af.map (·.1):=by
       have:z∈pC.filter λz=>!decide (z∈S.af.map Zx):=by rw[ez];exact aE
       obtain⟨a,b⟩:=List.mem_filter.mp this;exact⟨a,by simpa using b⟩
      rw[ez];refine SD ?_;dsimp only;obtain⟨e,he⟩:∃ e,e=Dd.put z (txt<|List.replicate U.n.toNat 111) 20:=⟨_,rfl⟩;have hre:mV S e=none:=by rw[he];exact Mh hz.1 hz.2 iu (by rw[bC];lia) (OX.rep<|.inl rfl) Zu Zu
      have zl:z.length<=8:=by have:=Eg z hz.1;unfold iL at this;simp only[bM,cu]at this;exact this.1.2
      have fO:Ks e:=by rw[he];exact⟨by lia,by rw[i9,bC];lia⟩
      refine⟨gG M2.ra rfl,eT (show kP (List.map D.str<|z::zs) 0=some (.str z)from iS (j:=0) rfl) ⟨111,rfl,by lia,by lia,trivial,⟨rfl,⟨_,b0⟩⟩,e,by rw[he];rfl,by rw[he];rfl,⟨_,b0⟩,9,10,C,B,d',S,e,M2.ra,es,rfl,fO,by lia,?_⟩⟩;rw[hre];dsimp only;obtain⟨ω,Q6⟩:∃ ω,ω=jh fe eV ν 6 9 10 (C.take (d'+1)++[m7 S e]) (B.take d'++[e]) (d'+1):=⟨_,rfl⟩;have T4:fC fe eV ω 13 16 17 C B d':=by rw[Q6];exact T3.TL Zu
      have T5:fC fe eV ω 1 2 3 Z R d:=by rw[Q6];exact M1.ra.TL Zu
      have w0:ω[0]?=some .box:=by rw[Q6,jO Zu Zu Zu];exact b0
      have w4:ω[4]?=some (.lst<|iW U ps):=by rw[Q6,jO Zu Zu Zu];exact M1.lp
      have YH:ω[11]?=some (.lst<|iW U O):=by rw[Q6,jO Zu Zu Zu];exact M2.lp
      have w12:ω[12]?=some (.lst<|Y.reverse.map pD):=by rw[Q6,jO Zu Zu Zu];exact M2.lq
      rw[<- Q6];refine iw (!true||!true) (.or (.not<|.nW λK k=>⟨⟨_,_,T4.ins⟩,k⟩) λ_=>.not<|.nW λK k=>⟨⟨_,w0⟩,16,17,_,_,_,_,_,_,T4,M2.pa,M2.la,YH,w12,k⟩) aaK (λ_=>j0 ?_);obtain⟨y1,Y7⟩:=oM U O;obtain⟨y2,ey2⟩:=oM U ps;rw[<- hS]at Y7;exact eT (fT YH) (eT Y7 ⟨16,17,C,B,d',S,T4,es,rfl,eT (fT w4)<|eT ey2 ⟨2,3,Z,R,d,_,T5,M1.pa.now M1.ra.le,rfl,rfl⟩⟩)
end
def fin:W.WalkO qq ll (W.XL qq []) hk.says lw.row.toRowW dd [] (λf vs=>PySem.call f vs):=by refine L2.LN (l:=lw) (d:=dd) (n:=63) (k:=13) (x:= "_law_script") (K:=kk) (CX:=λ_=>wq) (sp:=λw=>Om<|kk w.params) rfl Zu rfl ⟨rfl,by decide,by decide⟩ (λw h Y=>W.kIn_of Y) (λw mg fa h X G hfa=>?_) (λ_ _ a ns hl _ hS=>⟨a,ns,rfl,hS,hl,λ_=>rfl⟩) λ_ _ _ _ _ z=>z;cases hfa.symm.trans (W.mg_of X G<|show W.nsIn ZL mainGlobals "law"=sr 776 by kernel_rfl);refine⟨W.fnOf "law" "law" (iR mu) (g9 mu) (fh mu) .none .none .none mh none (.ref 775) .none,λs v=>.of_eq rfl,λah X0 G0=>?_⟩;have e:Ev lw.prog w ZL mg ah:=⟨rfl,X0,G0⟩;exact QF (JL) Ap
end Pf
theorem PySem.Challenge.cw_hissroom_k40_twins_holds : PySem.Challenge.rw_hissroom_k40_twins.Holds :=
 Pf.holds Pf.fin