import PyProof.Rows.All
import Wide.All
import OpenK.AllK
import Wide.FinOn
import Lean
import PyProof.EqAt
import PyProof.EqKinds
import PyProof.TupleCall
import PyProof.NeKinds
import PyProof.ListRange
import PyProof.MaxThree
import PyProof.DictWalks
import PyProof.Rows.SortWalk
import PyProof.Rows.TopTwo
import PyProof.RangeIter
import PyProof.ExcArgsOwn
import PyProof.ExcBaseAll.ValueError
import PyProof.ExcAttrAll.ValueError
import KE.KIsAll
import OpenK.KOwn
import PyProof.StrBlock
import PyProof.DictItems
import PyProof.DictItemsLoops
import PyProof.DictValues
import PySem.Challenge.RW_hissroom_k29_whole_heard_backwards
set_option Elab.async false
set_option linter.all false
set_option maxRecDepth 100000
local macro_rules | `(tactic| omega) => `(tactic| lia)
set_option genSizeOf false
set_option maxHeartbeats 4000000
theorem gxA {α:Type _}{l:List α}{i:Nat}(h:i<l.length):l[i]?=some l[i]:=List.getElem?_eq_getElem h
theorem gxB {α:Type _}{l:List α}{i:Nat}{a:α}(h:l[i]?=some a):∃ h:i<l.length,l[i]=a:=List.getElem?_eq_some_iff.mp h
theorem gxC {α β:Type _}{as:List α}(f:α->β):(as.map f).length=as.length:=List.length_map f
theorem gxD {α:Type _}{l:List α}{i:Nat}{a:α}(e:l[i]?=some a):a∈l:=List.mem_of_getElem? e
theorem gxE {α:Type _}{as bs:List α}:(as++bs).length=as.length+bs.length:=List.length_append
theorem gxF {α:Type _}{l₁ l₂:List α}{i:Nat}(h:i<l₁.length):(l₁++l₂)[i]?=l₁[i]?:=List.getElem?_append_left h
theorem gxG {α:Type _}{l₁ l₂:List α}{i:Nat}(h:l₁.length<=i):(l₁++l₂)[i]?=l₂[i - l₁.length]?:=List.getElem?_append_right h
theorem gxI {α:Type _}{a:α}(b:α){l:List α}(h:a∈l):a∈b::l:=List.mem_cons_of_mem b h
theorem gxJ {n:Nat}:(List.range n).length=n:=List.length_range
theorem gxK (n:Nat):(n:Int).toNat=n:=Int.toNat_natCast n
theorem gxL {h:PySem.Heap}{a:PySem.Addr}{u:PySem.Obj}(v:PySem.Obj)(e:h.get? a=some u):(h.push v).get? a=some u:=PySem.Heap.get?_push_of_some v e
theorem e9 {α β:Type}{M:PySem.Model}{A:PySem.Around}{E:PySem.Value->PySem.Shared->Prop}{s:PySem.Shared}{m:PySem.Sem α}{f:α->PySem.Sem β}{Q:β->PySem.Shared->Prop}(h:PySem.wpAny M A m (fun a s=>PySem.wpAny M A (f a) Q E s) E s):PySem.wpAny M A (m >>= f) Q E s:=PySem.wpAny_bind h
theorem gxN {h:PySem.Heap}{a:PySem.Addr}{o:PySem.Obj}(e:h.get? a=some o):a<h.objs.size:=PySem.Heap.lt_size e
theorem gxH {α β:Type _}{f:α->β}{l:List α}{i:Nat}:(l.map f)[i]?=(l[i]?).map f:=List.getElem?_map ..
abbrev aa:=@PySem.wpAny_pure
abbrev ae:=@Nat.le_refl
abbrev af:=@List.getD_eq_getElem?_getD
abbrev ag:=@List.map_cons
abbrev ah:=@List.size_toArray
abbrev ai:=@Nat.ne_of_lt
abbrev ak:=@PySem.Heap.get?_push_size
abbrev ao:=@List.mem_cons_self
abbrev aq:=@if_neg
abbrev ar:=@PyProof.Rows.boot_list
abbrev au:=@if_pos
abbrev av:=@Bool.false_ne_true
abbrev aw:=@List.not_mem_nil
abbrev aA:=@PySem.wpAny_field
abbrev aB:=@Option.some.inj
abbrev aC:=@Nat.lt_of_lt_of_le
abbrev aD:=@List.getElem?_set_self
abbrev aE:=@decide_eq_true
abbrev aF:=@List.mem_append_right
abbrev aG:=@List.getElem?_set_ne
abbrev aH:=@List.mem_cons
abbrev aI:=@PySem.Heap.get?_update_other
abbrev aJ:=@List.getElem_of_mem
abbrev aK:=@PySem.wpAny_setField_rec
abbrev aL:=@Nat.le_trans
abbrev aM:=@Nat.le_add_right
abbrev aN:=@PySem.F.excBase_ValueError
abbrev aO:=@Nat.sub_self
abbrev aP:=@PySem.wpAny_seqItems
abbrev aQ:=@PySem.W.mg_none_of
abbrev aR:=@List.length_replicate
abbrev aS:=@PySem.Heap.size_push
abbrev aT:=@decide_eq_false
abbrev aU:=@Nat.ne_of_gt
abbrev aV:=@Nat.lt_succ_of_lt
abbrev aW:=@List.mem_of_mem_take
abbrev aX:=@List.length_cons
abbrev aY:=@Ne.symm
abbrev aZ:=@decide_eq_true_eq
abbrev a6:=@List.map_map
abbrev a8:=@List.forIn_cons
abbrev a9:=@Int.le_refl
abbrev ba:=@PySem.wpAny_callSpecial?_slot
abbrev bc:=@PySem.Heap.get?_update_self
abbrev bg:=@PyProof.Rows.callWith_type1
abbrev bh:=@Bool.and_eq_true
abbrev bj:=@List.length_zipWith
abbrev bo:=@List.zipWith_cons_cons
abbrev bp:=@PySem.wpAny_holding
abbrev bq:=@List.getElem?_take_of_lt
abbrev bu:=@List.length_take
abbrev bw:=@List.getElem_mem
abbrev bx:=@List.getElem?_zipWith
abbrev bz:=@or_false
abbrev bA:=@Nat.lt_succ_self
abbrev bB:=@List.length_drop
abbrev bC:=@PySem.F.slot_zip_next
abbrev bD:=@List.take_of_length_le
abbrev bE:=@List.length_singleton
abbrev bF:=@List.getElem?_range
abbrev bG:=@PySem.wpAny_mono
abbrev bH:=@List.drop_eq_getElem_cons
abbrev bI:=@List.set_set
abbrev bJ:=@List.drop_of_length_le
abbrev bL:=@List.length_set
abbrev bM:=@PySem.wpAny_call_entry
abbrev bN:=@List.map_congr_left
abbrev bO:=@Int.toNat_of_nonneg
abbrev bP:=@PySem.W.kia_one
abbrev bQ:=@Nat.lt_irrefl
abbrev bR:=@List.sum_cons
abbrev bS:=@List.cons.injEq
abbrev bT:=@PySem.F.plain_min_loop
abbrev bU:=@of_decide_eq_true
abbrev bV:=@Nat.zero_le
abbrev bW:=@List.take_left
abbrev bX:=@List.mem_range
abbrev bY:=@List.map_append
abbrev bZ:=@List.find?_cons
abbrev b7:=@List.append_nil
abbrev b8:=@Int.le_trans
abbrev b9:=@List.filterMap_cons
abbrev cf:=@PySem.PassesOwn.never
abbrev cg:=@Nat.min_eq_left
abbrev cj:=@congrArg
abbrev ck:=@List.zip_cons_cons
abbrev cm:=@PySem.wpAny_onRaise
abbrev cn:=@List.all_cons
abbrev cq:=@PySem.wpAny_updateSeq_pair
abbrev cu:=@PySem.wpAny_letGo
abbrev cv:=@PySem.wpAny_truthy_bool
abbrev cw:=@List.ext_getElem?
abbrev cx:=@List.append_assoc
abbrev cy:=@PySem.F.args_zip_next_1
abbrev cz:=@List.foldl_cons
abbrev cA:=@List.take_succ_cons
abbrev cC:=@PySem.wpAny_pyIter_zip
abbrev cD:=@PySem.F.entry_zip_next
abbrev cE:=@PySem.wpAny_Call_Name_kw
abbrev cF:=@Nat.lt_of_le_of_lt
abbrev cG:=@List.getElem?_drop
abbrev cH:=@PySem.F.slot_tuple_iterator_next
abbrev cI:=@List.set_append_right
abbrev cJ:=@PySem.wpAny_updateSeq
abbrev cK:=@PySem.wpAny_passesOwn
abbrev cL:=@PySem.wpAny_newObj_type
abbrev cM:=@Int.le_of_lt
abbrev cO:=@PySem.Around.under_plainId
abbrev cP:=@PySem.mem_of_lookup
abbrev cQ:=@List.length_reverse
abbrev cR:=@PySem.wpAny_setField
abbrev cS:=@List.getElem?_cons_succ
abbrev cU:=@Int.eq_ofNat_of_zero_le
abbrev cV:=@PySem.F.plainAttrs_str
abbrev cW:=@PySem.wpAny_attempt
abbrev cY:=@List.any_cons
abbrev cZ:=@List.length_filter_le
abbrev c3:=@PySem.F.slot_enumerate_next
abbrev c4:=@PySem.wpAny_pyIter_list
abbrev c5:=@PySem.wpAny_rule
abbrev c6:=@List.mem_append_left
abbrev c7:=@List.forIn_nil
abbrev c8:=@Nat.lt_trans
abbrev c9:=@List.zipWith_map
abbrev da:=@List.lookup_cons
abbrev dc:=@List.cons_append
abbrev de:=@PySem.Heap.SameBut.update
abbrev df:=@PySem.F.plain_extend_loop
abbrev dg:=@PySem.wpAny_standAt
abbrev dh:=@PySem.wpAny_comprehension_free
abbrev dj:=@PySem.plainId_quiet
abbrev dk:=@PySem.W.mg_of
abbrev dm:=@PySem.pushCells_keeps
abbrev dn:=@PySem.codeAny_builtin
abbrev dq:=@List.of_mem_zip
abbrev dr:=@Bool.eq_iff_iff
abbrev dt:=@PySem.Obj.data_mapFields
abbrev du:=@List.lookup_append
abbrev dw:=@List.filterMap_map
abbrev dz:=@Int.emod_lt_of_pos
abbrev dA:=@Bool.false_eq_true
abbrev dD:=@Array.forIn_toList
abbrev dE:=@List.getElem?_replicate
abbrev dF:=@List.findIdx?_eq_some_iff_getElem
abbrev dG:=@PySem.wpAny_tryCatch
abbrev dH:=@PySem.wpAny_pyIter_enum
abbrev dJ:=@PySem.wpAny_newTuple
abbrev dM:=@PySem.F.entry_min_loop
abbrev dN:=@Option.isSome_map
abbrev dP:=@Nat.lt_trichotomy
abbrev dQ:=@Nat.le_of_lt
abbrev dR:=@List.reverse_replicate
abbrev dU:=@List.reverse_cons
abbrev dW:=@List.range_succ_eq_map
abbrev dX:=@List.nodup_append
abbrev dY:=@List.any_eq_false
abbrev dZ:=@Int.mul_nonneg
abbrev d4:=@Bool.and_false
abbrev d7:=@PySem.F.type_str_join
abbrev eh:=@PySem.F.slot_str_join
abbrev eA:=@PyProof.Rows.boot_min
abbrev eB:=@PyProof.Rows.boot_max
abbrev eE:=@PyProof.Rows.boot_int
abbrev eF:=@PySem.Obj.isFreed_of_fields
abbrev eG:=@List.filterMap_eq_map
abbrev eI:=@PySem.wpAny_isInstance
abbrev eJ:=@Nat.min_eq_right
abbrev eK:=@List.filter_cons
abbrev eL:=@List.all_eq_true
namespace L2
open PySem PySem.Spec PyProof.Rows
abbrev Key:=Sum Int Str
def keyIs:Key->Value->Bool
 | .inl k,v=>Value.isInt k v
 | .inr x,v=>Value.isStrOf x v
def keyH (w:World):Key->Int
 | .inl k=>hashInt k
 | .inr x=>hashStr w x
theorem keyIs_shape:∀ {k:Key} {v:Value},keyIs k v=true->(∃ i t,k=Sum.inl i/\v=Value.int i t)\/(∃ x t,k=Sum.inr x/\v=Value.str x t)
 | .inl i,v,h=>by
  obtain⟨t,e⟩:=Value.isInt_shape (k:=i) (v:=v) h
  exact .inl ⟨i,t,rfl,e⟩
 | .inr x,v,h=>by
  obtain⟨t,e⟩:=Value.isStrOf_shape (x:=x) (v:=v) h
  exact .inr ⟨x,t,rfl,e⟩
theorem keyIs_int (i:Int)(t:Tok):keyIs (.inl i) (.int i t)=true:=by simp[keyIs,Value.isInt]
theorem keyIs_str (x:Str)(t:Tok):keyIs (.inr x) (.str x t)=true:=by simp[keyIs,Value.isStrOf]
theorem key_ll (a b:Int):decide ((Sum.inl a:Key)=Sum.inl b)=(a==b):=by
 by_cases e:a=b
 ·subst e;simp
 ·have h:¬ (Sum.inl a:Key)=Sum.inl b:=fun q=>e (Sum.inl.inj q)
  rw[aT h]
  exact(beq_eq_false_iff_ne.mpr e).symm
theorem key_rr (a b:Str):decide ((Sum.inr a:Key)=Sum.inr b)=decide (a=b):=by
 by_cases e:a=b
 ·subst e;simp
 ·have h:¬ (Sum.inr a:Key)=Sum.inr b:=fun q=>e (Sum.inr.inj q)
  rw[aT h,aT e]
theorem key_lr (a:Int)(b:Str):decide ((Sum.inl a:Key)=Sum.inr b)=false:=aT (fun q=>nomatch q)
theorem key_rl (a:Str)(b:Int):decide ((Sum.inr a:Key)=Sum.inl b)=false:=aT (fun q=>nomatch q)
def mixKind (prog:Program)(w:World):PySem.KeyKind prog w Key where
 is:=keyIs
 hash:=keyH w
 inj:=fun v a b ha hb=>by
  rcases keyIs_shape ha with⟨i,t,rfl,rfl⟩ | ⟨x,t,rfl,rfl⟩
  ·rcases keyIs_shape hb with⟨j,u,rfl,e⟩ | ⟨y,u,rfl,e⟩
   ·injection e with e1 _;rw[e1]
   ·exact nomatch e
  ·rcases keyIs_shape hb with⟨j,u,rfl,e⟩ | ⟨y,u,rfl,e⟩
   ·exact nomatch e
   ·injection e with e1 _;rw[e1]
 byValue:=fun k v h=>by
  rcases keyIs_shape h with⟨i,t,rfl,rfl⟩ | ⟨x,t,rfl,rfl⟩<;> rfl
 pyHash:=fun hv h=>by
  rcases keyIs_shape hv with⟨i,t,rfl,rfl⟩ | ⟨x,t,rfl,rfl⟩
  ·exact wpAny_pyHash_int h
  ·exact wpAny_pyHash_str h
 eqBool:=fun hu hv h=>by
  rcases keyIs_shape hu with⟨i,t,rfl,rfl⟩ | ⟨x,t,rfl,rfl⟩
  ·rcases keyIs_shape hv with⟨j,u,rfl,rfl⟩ | ⟨y,u,rfl,rfl⟩
   ·rw[key_ll]at h;exact wpAny_eqBool_int h
   ·rw[key_lr]at h;exact SeqAt.EqAt.int_str i t y u _ _ _ _ h
  ·rcases keyIs_shape hv with⟨j,u,rfl,rfl⟩ | ⟨y,u,rfl,rfl⟩
   ·rw[key_rl]at h;exact SeqAt.EqAt.str_int x t j u _ _ _ _ h
   ·rw[key_rr]at h;exact wpAny_eqBool_str h
 «strs»:=fun k x t v h=>by
  rcases keyIs_shape h with⟨i,u,rfl,e⟩ | ⟨y,u,rfl,e⟩
  ·exact nomatch e
  ·injection e with e1 _
   subst e1
   cases v <;> rfl
theorem mixKind_int (prog:Program)(w:World)(i:Int)(t:Tok):(mixKind prog w).is (.inl i) (.int i t)=true:=keyIs_int i t
theorem mixKind_str (prog:Program)(w:World)(x:Str)(t:Tok):(mixKind prog w).is (.inr x) (.str x t)=true:=keyIs_str x t
inductive V where
 | non | bl (b:Bool) | int (i:Int) | str (x:Str) | byt (b:Array UInt8) | flt (b:UInt64) | ref (a:Addr) | ty (n:String)
 deriving DecidableEq
def RelV:V->Value->Prop
 | .non,u=>u=Value.none
 | .bl b,u=>u=Value.bool b
 | .int i,u=>∃ t,u=Value.int i t
 | .str x,u=>∃ t,u=Value.str x t
 | .byt b,u=>∃ t,u=Value.bytes b t
 | .flt b,u=>∃ t,u=Value.float b t
 | .ref a,u=>u=Value.ref a
 | .ty n,u=>u=Value.type n
abbrev Vals:List V->List Value->Prop:=Paired RelV
theorem Vals.length {xs:List V}{us:List Value}(r:Vals xs us):xs.length=us.length:=Paired.length r
theorem Vals.get:∀ {xs:List V} {us:List Value} {i:Nat} {x:V},Vals xs us->xs[i]?=some x->∃ u,us[i]?=some u/\RelV x u
 | _,_,_,_,.nil,e=>by simp at e
 | _,_,0,_,.cons r _,e=>by simp at e;subst e;exact⟨_,rfl,r⟩
 | _,_,i+1,x,.cons _ t,e=>by
  obtain⟨u,h1,h2⟩:=Vals.get (i:=i) (x:=x) t (by simpa using e)
  exact⟨u,by simpa using h1,h2⟩
theorem Vals.set {x:V}{u:Value}(r:RelV x u):∀ {xs:List V} {us:List Value} (i:Nat),Vals xs us->Vals (xs.set i x) (us.set i u)
 | _,_,_,.nil=>.nil
 | _,_,0,.cons _ t=>.cons r t
 | _,_,i+1,.cons q t=>.cons q (Vals.set r i t)
theorem Vals.append {xs ys:List V}{us ws:List Value}(h:Vals xs us)(s:Vals ys ws):Vals (xs++ys) (us++ws):=by
 induction h with
 | nil=>exact s
 | cons r t ih=>exact .cons r ih
theorem Vals.take:∀ {xs:List V} {us:List Value} (n:Nat),Vals xs us->Vals (xs.take n) (us.take n)
 | _,_,0,_=>.nil
 | _,_,_+1,.nil=>.nil
 | _,_,n+1,.cons r t=>.cons r (Vals.take n t)
theorem Vals.drop:∀ {xs:List V} {us:List Value} (n:Nat),Vals xs us->Vals (xs.drop n) (us.drop n)
 | _,_,0,r=>r
 | _,_,_+1,.nil=>.nil
 | _,_,n+1,.cons _ t=>Vals.drop n t
theorem Vals.none_of:∀ {xs:List V} {us:List Value} {i:Nat},Vals xs us->xs[i]?=none->us[i]?=none:=fun {xs us i} r e=>by
 have h1:=r.length
 have h2:xs.length<=i:=List.getElem?_eq_none_iff.mp e
 exact List.getElem?_eq_none_iff.mpr (by omega)
def RelO:Option V->Option Value->Prop
 | some v,some u=>RelV v u
 | none,none=>True
 | _,_=>False
def KV {κ:Type}:List (κ×V)->List (κ×Value)->Prop:=Paired fun(p:κ×V) (q:κ×Value)=>p.1=q.1/\RelV p.2 q.2
def kV:Key->V
 | .inl i=>.int i
 | .inr x=>.str x
inductive HO where
 | lst (xs:List V)
 | tup (xs:List V)
 | dK (eW:List (Key×V)) | dT (eW:List (List Key×V))
 | set (S:Int->Bool) (n:Nat)
 | ins (C dx:Addr) (fs:List (Str×V))
 | own (x:Addr)
 | xd (fs:List (Str×V))
 | met (f x:Addr)
 | rng (lo hi:Int)
 | frz (o:Obj) (u:HO)
 | tbl (ps:Array Value)
 | ext (φ:Heap->Prop)
abbrev Hp:=Addr->Option HO
def upd (H:Hp)(a:Addr)(o:HO):Hp:=fun b=>if b=a then some o else H b
theorem fA {H:Hp}{a:Addr}{o:HO}:upd H a o a=some o:=by unfold upd;rw[au rfl]
theorem upd_ne {H:Hp}{a b:Addr}{o:HO}(h:b≠a):upd H a o b=H b:=by unfold upd;rw[aq h]
theorem ne_of {H:Hp}{a b:Addr}{o u:HO}(h:H a=some o)(h':H b=some u)(d:o≠u):a≠b:=by
 intro e;subst e;rw[h]at h';exact d (aB h')
theorem ne_of_none {H:Hp}{a b:Addr}{o:HO}(h:H a=some o)(h':H b=none):a≠b:=by
 intro e;subst e;rw[h]at h';cases h'
section
variable (P:Program)(w:World)
def ObjOk (H:Hp)(h:Heap)(a:Addr):HO->Prop
 | .lst xs=>xs.length<=sizeLine/\∃(fw:List Value) (n:Nat),Vals xs fw/\h.get? a=some { cls:=.type "list",data:=.seq fw.toArray n}
 | .tup xs=>xs.length<=sizeLine/\∃ fw:List Value,Vals xs fw/\IsTup h a fw.toArray
 | .dK eW=>eW.length<=sizeLine/\(a==sysModules)=false/\∃ vs,KV eW vs/\h.DictOf (mixKind P w) a vs
 | .dT eW=>eW.length<=sizeLine/\(a==sysModules)=false/\∃ xs:List (List Key×Addr×Value),
  Paired (fun(p:List Key×V) (q:List Key×Addr×Value)=>p.1=q.1/\H q.2.1=some (.tup (p.1.map kV))/\RelV p.2 q.2.2) eW xs /\
  ∃ o es ep,h.get? a=some o/\o.ExactDict/\o.data=.dict es ep/\es.toList=xs.map (entryOfKey (tupleKind (mixKind P w)))/\(xs.map (·.1)).Nodup
 | .set S n=>h.SetOf (intKind P w) a S n
 | .ins C dx fs=>H dx=some (.own a)/\fs.length<=1000/\dx≠a/\h.get? a=some (PySem.W.instObj C dx) /\
  ∃ mA,h.Ns1 dx mA/\(∀ f,RelO (fs.lookup f) (mA f))/\PySem.Within mA (fs.map (·.1))
 | .own _=>∃ o,h.get? a=some o
 | .xd fs=>∃ mA,h.Ns1 a mA/\∀ f,RelO (fs.lookup f) (mA f)
 | .rng lo hi=>∃ t u v,h.get? a=some { cls:=.type "range",data:=.fields #[.int lo t,.int hi u,.int 1 v]}
 | .frz o u=>h.get? a=some o/\ObjOk H h a u
 | .tbl ps=>h.get? a=some { cls:=.none,data:=.fields ps}
 | .met f x=>h.get? a=some (PySem.W.methodObj (.ref f) (.ref x))
 | .ext φ=>φ h/\(∃ o,h.get? a=some o)/\∀ h1 h2:Heap,φ h1->(∀ o,h1.get? a=some o->h2.get? a=some o)->φ h2
def HOk (H:Hp)(h:Heap):Prop:=∀ a o,H a=some o->ObjOk P w H h a o
end
section
variable {P:Program}{w:World}{H H':Hp}{h h':Heap}{a:Addr}{o:HO}
theorem ObjOk.lt (x:ObjOk P w H h a o):a<h.objs.size:=by
 cases o with
 | lst xs=>obtain⟨_,_,_,_,e⟩:=x;exact gxN e
 | tup xs=>obtain⟨_,_,_,p⟩:=x;exact p.lt
 | dK eW=>obtain⟨_,_,_,_,o,_,_,e,_⟩:=x;exact gxN e
 | dT eW=>obtain⟨_,_,_,_,o,_,_,e,_⟩:=x;exact gxN e
 | set S n=>obtain⟨o,_,_,_,e,_⟩:=x;exact gxN e
 | ins C dx fs=>obtain⟨_,_,_,e,_⟩:=x;exact gxN e
 | own y=>obtain⟨_,e⟩:=x;exact gxN e
 | xd fs=>obtain⟨_,⟨_,_,_,e,_⟩,_⟩:=x;exact gxN e
 | rng lo hi=>obtain⟨_,_,_,e⟩:=x;exact gxN e
 | frz ob u=>obtain⟨e,_⟩:=x;exact gxN e
 | tbl ps=>exact gxN (show h.get? a=some _ from x)
 | met f y=>exact gxN (show h.get? a=some _ from x)
 | ext φ=>obtain⟨_,⟨_,e⟩,_⟩:=x;exact gxN e
theorem Paired.mapP {α β:Type}{F G:α->β->Prop}{l₁:List α}{l₂:List β}(h:Paired F l₁ l₂)(f:∀ a b,F a b->G a b):Paired G l₁ l₂:=by
 induction h with
 | nil=>exact .nil
 | cons r t ih=>exact .cons (f _ _ r) ih
theorem ObjOk.stay (x:ObjOk P w H h a o)(k:∀ b u,(b=a\/H b=some (.own a))->h.get? b=some u->h'.get? b=some u)
 (ho:∀ b,H b=some (.own a)->H' b=some (.own a)) (ht:∀ b xs,H b=some (.tup xs)->H' b=some (.tup xs)):ObjOk P w H' h' a o:=by
 induction o with
 | lst xs=>obtain⟨z,fw,n,r,e⟩:=x;exact⟨z,fw,n,r,k _ _ (.inl rfl) e⟩
 | tup xs=>obtain⟨z,fw,r,ob,e,c⟩:=x;exact⟨z,fw,r,ob,k _ _ (.inl rfl) e,c⟩
 | dK eW=>obtain⟨z,y,vs,r,ob,es,ep,e,c⟩:=x;exact⟨z,y,vs,r,ob,es,ep,k _ _ (.inl rfl) e,c⟩
 | dT eW =>
  obtain⟨z,y,xs,r,ob,es,ep,e,c⟩:=x
  exact⟨z,y,xs,Paired.mapP r fun p q z=>⟨z.1,ht _ _ z.2.1,z.2.2⟩,ob,es,ep,k _ _ (.inl rfl) e,c⟩
 | set S n=>obtain⟨ob,es,ep,t,e,c⟩:=x;exact⟨ob,es,ep,t,k _ _ (.inl rfl) e,c⟩
 | ins C dx fs =>
  obtain⟨d,z,ne,e,mA,⟨od,es,ep,e2,c⟩,r⟩:=x
  exact⟨ho _ d,z,ne,k _ _ (.inl rfl) e,mA,⟨od,es,ep,k _ _ (.inr d) e2,c⟩,r⟩
 | own y=>obtain⟨ob,e⟩:=x;exact⟨ob,k _ _ (.inl rfl) e⟩
 | xd fs=>obtain⟨mA,⟨od,es,ep,e,c⟩,r⟩:=x;exact⟨mA,⟨od,es,ep,k _ _ (.inl rfl) e,c⟩,r⟩
 | rng lo hi=>obtain⟨t,u,v,e⟩:=x;exact⟨t,u,v,k _ _ (.inl rfl) e⟩
 | frz ob u ih=>obtain⟨e,q⟩:=x;exact⟨k _ _ (.inl rfl) e,ih q⟩
 | tbl ps =>
  have e:h.get? a=some { cls:=.none,data:=.fields ps}:=x
  show h'.get? a=some { cls:=.none,data:=.fields ps}
  exact k a _ (.inl rfl) e
 | met f y =>
  have e:h.get? a=some (PySem.W.methodObj (.ref f) (.ref y)):=x
  show h'.get? a=some (PySem.W.methodObj (.ref f) (.ref y))
  exact k a _ (.inl rfl) e
 | ext φ=>obtain⟨p,⟨o,e⟩,st⟩:=x;exact⟨st _ _ p fun o q=>k _ _ (.inl rfl) q,⟨o,k _ _ (.inl rfl) e⟩,st⟩
theorem HOk.lt (x:HOk P w H h)(e:H a=some o):a<h.objs.size:=(x a o e).lt
theorem HOk.fresh (x:HOk P w H h)(e:h.objs.size<=a):H a=none:=by
 cases q:H a with
 | none=>rfl
 | some u=>exact absurd (aC (x.lt q) e) (bQ _)
theorem HOk.kept (x:HOk P w H h)(k:∀ b u,h.get? b=some u->h'.get? b=some u):HOk P w H h':=fun a o e =>
 (x a o e).stay (fun b u _ q=>k b u q) (fun _ q=>q) fun _ _ q=>q
theorem HOk.laid (x:HOk P w H h)(k:∀ b u,h.get? b=some u->h'.get? b=some u)(hp:h.objs.size<=a)(new:ObjOk P w (upd H a o) h' a o):HOk P w (upd H a o) h':=fun b u e=>by
 have hn:=x.fresh hp
 by_cases hb:b=a
 ·subst hb;rw[fA]at e;cases e;exact new
 ·rw[upd_ne hb]at e
  exact(x b u e).stay (fun c v _ q=>k c v q) (fun c q=>by rw[upd_ne (ne_of_none q hn)];exact q) fun c xs q=>by rw[upd_ne (ne_of_none q hn)];exact q
end
def Rd (H:Hp)(a:Addr)(u:HO):Prop:=H a=some u\/∃ o,H a=some (.frz o u)
theorem Rd.ok {P:Program}{w:World}{H:Hp}{h:Heap}{a:Addr}{u:HO}(r:Rd H a u)(x:HOk P w H h):ObjOk P w H h a u:=by
 rcases r with r | ⟨o,r⟩
 ·exact x a u r
 ·obtain⟨_,q⟩:=x a _ r
  exact q
def Mut:Option HO->Prop
 | some (.lst _)=>True
 | some (.dK _)=>True
 | some (.dT _)=>True
 | some (.set _ _)=>True
 | some (.ins _ _ _)=>True
 | some (.ext _)=>True
 | _=>False
section
variable {P:Program}{w:World}{H:Hp}{h h':Heap}{x e:Addr}{o':HO}
theorem HOk.write (ok:HOk P w H h)(mu:Mut (H x))(he:e=x\/H e=some (.own x))(k:∀ b u,b≠e->h.get? b=some u->h'.get? b=some u)(heo:∃ u,h'.get? e=some u)
 (new:ObjOk P w (upd H x o') h' x o'):HOk P w (upd H x o') h':=fun b u q=>by
 have nown:∀ c y,H c=some (.own y)->c≠x:=fun c y r z=>by subst z;rw[r]at mu;exact mu
 have ntup:∀ c xs,H c=some (.tup xs)->c≠x:=fun c xs r z=>by subst z;rw[r]at mu;exact mu
 by_cases hb:b=x
 ·subst hb;rw[fA]at q;cases q;exact new
 ·rw[upd_ne hb]at q
  by_cases hbe:b=e
  ·have q':H b=some (.own x):=by
    rcases he with z | z
    ·exact absurd (hbe.trans z) hb
    ·rw[hbe];exact z
   rw[q]at q';cases q'
   obtain⟨v,hv⟩:=heo
   exact⟨v,by rw[hbe];exact hv⟩
  ·refine(ok b u q).stay (fun c v hc r=>k c v ?_ r) (fun c r=>by rw[upd_ne (nown c b r)];exact r) fun c xs r=>by rw[upd_ne (ntup c xs r)];exact r
   rcases hc with rfl | hc
   ·exact hbe
   ·rintro rfl
    rcases he with z | z
    ·exact nown c b hc z
    ·rw[hc]at z;cases z;exact hb rfl
end
structure Un (fs ex:List Addr)(H H':Hp)(h h':Heap):Prop where
 keep:∀ b o,h.get? b=some o->H b=none->b∉fs->b∉ex->h'.get? b=some o
 slot:∀ b o,h.get? b=some o->H b=none->b∈fs->b∉ex->∃ sl,h'.get? b=some { o with slots:=sl}
 free:∀ b o,h.get? b=some o->H b=none->b∉ex->H' b=none
 there:∀ b o,h.get? b=some o->b∉ex->∃ o',h'.get? b=some o'
 tups:∀ b xs,H b=some (.tup xs)->H' b=some (.tup xs)
 frzs:∀ b o u,H b=some (.frz o u)->H' b=some (.frz o u)
 tbls:∀ b ps,H b=some (.tbl ps)->∃ more,H' b=some (.tbl (ps++more))
section
variable {fs fs' ex ex':List Addr}{H H1 H2:Hp}{h h1 h2 h':Heap}{a x e:Addr}{o:HO}
theorem Un.any (u:Un fs ex H H1 h h1){b:Addr}{ob:Obj}(q:h.get? b=some ob)(n:H b=none)(hx:b∉ex):∃ sl,h1.get? b=some { ob with slots:=sl}:=by
 by_cases hb:b∈fs
 ·exact u.slot b ob q n hb hx
 ·exact⟨ob.slots,u.keep b ob q n hb hx⟩
theorem Un.kept (k:∀ b u,h.get? b=some u->h'.get? b=some u):Un fs ex H H h h' :=
 ⟨fun b ob q _ _ _=>k b ob q,fun b ob q _ _ _=>⟨ob.slots,k b ob q⟩,fun _ _ _ n _=>n,fun b ob q _=>⟨ob,k b ob q⟩,fun _ _ q=>q,fun _ _ _ q=>q,fun _ ps q=>⟨#[],by rw[q];simp⟩⟩
theorem Un.refl:Un fs ex H H h h:=Un.kept fun _ _ q=>q
theorem Un.laid (k:∀ b u,h.get? b=some u->h'.get? b=some u)(hp:h.objs.size<=a)(hn:H a=none):Un fs ex H (upd H a o) h h' where
 keep:=fun b u q _ _ _=>k b u q
 slot:=fun b u q _ _ _=>⟨u.slots,k b u q⟩
 free:=fun b u q n _=>by rw[upd_ne (ai (aC (gxN q) hp))];exact n
 there:=fun b u q _=>⟨u,k b u q⟩
 tups:=fun b xs q=>by rw[upd_ne (ne_of_none q hn)];exact q
 frzs:=fun b u xs q=>by rw[upd_ne (ne_of_none q hn)];exact q
 tbls:=fun b ps q=>⟨#[],by rw[upd_ne (ne_of_none q hn),q];simp⟩
theorem Un.write (mu:Mut (H x))(he:e=x\/H e=some (.own x))(k:∀ b u,b≠e->h.get? b=some u->h'.get? b=some u)(heo:∃ u,h'.get? e=some u):Un fs ex H (upd H x o) h h':=by
 have hx:∀ b,H b=none->b≠x:=fun b n z=>by subst z;rw[n]at mu;exact mu
 have hb:∀ b,H b=none->b≠e:=fun b n z=>by
  subst z
  rcases he with r | r
  ·exact hx b n r
  ·rw[n]at r;cases r
 have hm:∀ b u,H b=some u->¬ Mut (some u)->b≠x:=fun b u q nm z=>by subst z;rw[q]at mu;exact nm mu
 refine⟨fun b u q n _ _=>k b u (hb b n) q,fun b u q n _ _=>⟨u.slots,k b u (hb b n) q⟩,fun b u q n _=>by rw[upd_ne (hx b n)];exact n,fun b u q _=>?_,
  fun b xs q=>by rw[upd_ne (hm b _ q fun z=>z)];exact q,fun b u xs q=>by rw[upd_ne (hm b _ q fun z=>z)];exact q,fun b ps q=>⟨#[],by rw[upd_ne (hm b _ q fun z=>z),q];simp⟩⟩
 by_cases hbe:b=e
 ·subst hbe;exact heo
 ·exact⟨u,k b u hbe q⟩
end
def trk (h:Heap)(H:Hp):List Addr:=(List.range h.objs.size).filter fun a=>(H a).isSome
def hidT (h:Heap)(H:Hp):Heap:=PySem.W.hideAll h (trk h H)
theorem hidT_size (h:Heap)(H:Hp):(hidT h H).objs.size=h.objs.size:=PySem.W.hideAll_size _ _
theorem hidT_get {h:Heap}{H:Hp}{b:Addr}{o:Obj}(e:h.get? b=some o)(n:H b=none):(hidT h H).get? b=some o :=
 PySem.W.hideAll_get _ e fun hm=>by
  have q:(H b).isSome=true:=(List.mem_filter.mp hm).2
  rw[n]at q;simp at q
theorem of_hidT {h:Heap}{H:Hp}{b:Addr}{o:Obj}(e:(hidT h H).get? b=some o):h.get? b=some o/\H b=none:=by
 have e':h.get? b=some o:=PySem.W.of_hideAll (trk h H) e
 refine⟨e',?_⟩
 cases q:H b with
 | none=>rfl
 | some x =>
  have hm:b∈trk h H:=List.mem_filter.mpr ⟨List.mem_range.mpr (gxN e'),by simp[q]⟩
  have z:(hidT h H).get? b=none:=PySem.W.hideAll_none (trk h H) hm
  rw[z]at e;cases e
def allNews (g h:Heap)(L:Addr):List (Addr×Obj):=(List.range h.objs.size).filterMap fun a=>if a=L\/(g.get? a).isSome=true then none else(h.get? a).map fun o=>(a,o)
def rest (g h:Heap)(L d:Addr):List (Addr×Obj):=(allNews g h L).filter fun p=>decide (p.1≠d)
structure Mod (K:PySem.W.Frag)(mg:Str->Option Value)(base:Heap):Prop where
 kin:K.In base
 glob:base.Ns mainGlobals mg
 blt:∃ mb,base.Ns builtinsNs mb/\∀ x:Str,x ≠ "__name__"->mb x=bootBuiltins x
 nolimit:base.NoLimit
structure Cx where
 prog:Program
 w:World
 K:PySem.W.Frag
 mg:Str->Option Value
 base:Heap
 A:Around
 N:List Str
 s₀:Shared
 H₀:Hp
 env:Env
 outer:List Env
 stack:List Env
 ex:List Addr
 fn:Str->Bool
 calm:Bool
 pn:List (Addr×Obj)
 xe:Value->Shared->Prop
def frs (l:List Env):List Addr:=l.filterMap (·.frame)
abbrev Cx.fs (X:Cx):List Addr:=frs X.outer
def Vis (sc:Scope)(x:Str):Prop:=sc.names.lookup x=some .local\/sc.names.lookup x=some .cell\/sc.names.lookup x=some .free
def Loc (sc:Scope)(x:Str):Prop:=sc.names.lookup x=some .local\/sc.names.lookup x=some .cell
def Look (env:Env)(h:Heap)(m:Str->Option Value)(x:Str)(u:Value):Prop :=
 (env.kindOf x=some .local/\m x=some u)\/((env.kindOf x=some .cell\/env.kindOf x=some .free)/\∃ c,env.cells.lookup x=some c/\h.IsCell c (some u))
structure Cx.Ok (X:Cx):Prop where
 mod:Mod X.K X.mg X.base
 kind:X.env.scope.kind=.function
 glob:X.env.globals=mainGlobals
 blt:X.env.builtins=builtinsNs
 above:X.s₀.heap.objs.size<=X.env.locals
 inj:∀ x y c,X.env.cells.lookup x=some c->X.env.cells.lookup y=some c->x=y
 has:∀ x,(X.env.kindOf x=some .cell\/X.env.kindOf x=some .free)->∃ c,X.env.cells.lookup x=some c
 cab:∀ x c,X.fn x=true->X.env.cells.lookup x=some c->X.s₀.heap.objs.size<=c
 hd:X.calm=true->X.A.handled=none
 frames:X.A.frames=some X.stack
 stk:X.stack=X.outer\/(X.stack=X.env::X.outer/\X.env.frame=some X.env.locals)
 exf:∀ b∈X.ex,b≠X.env.locals/\∀ x c,X.env.cells.lookup x=some c->c≠b
 bs:∀ b o,X.base.get? b=some o->X.s₀.heap.get? b=some o/\X.H₀ b=none
 bsz:X.base.objs.size<=X.s₀.heap.objs.size
 noex:∀ b o,X.base.get? b=some o->b∉X.ex
 exfs:∀ b∈X.ex,b∉X.fs
 funs:X.s₀.heap.FunFrames X.base X.outer
 frf:∀ b∈X.fs,X.H₀ b=none
structure Inv (X:Cx)(pins:List (Addr×Obj))(σ:List (Option V))(H:Hp)(s:Shared):Prop where
 ok:X.Ok
 os:s.os=X.s₀.os
 bare:AllBare s.gens
 base:Un X.fs X.ex X.H₀ H X.s₀.heap s.heap
 loc:∃ m,s.heap.Ns X.env.locals m/\∀(i:Nat) (x:Str) (v:V),X.N[i]?=some x->σ[i]?=some (some v)->Vis X.env.scope x->∃ u,RelV v u/\Look X.env s.heap m x u
 cell:∀ x c,X.env.cells.lookup x=some c->∃ v,s.heap.IsCell c v
 free:H X.env.locals=none
 freeC:∀ x c,X.env.cells.lookup x=some c->H c=none
 pin:∀ p∈X.pn++pins,s.heap.get? p.1=some p.2/\H p.1=none/\p.1≠X.env.locals/\p.1∉X.fs/\∀ v,p.2.data≠.cell v
 hok:HOk X.prog X.w H s.heap
 len:σ.length=X.N.length
section
variable {X:Cx}{pins:List (Addr×Obj)}{σ:List (Option V)}{H H':Hp}{s:Shared}{h':Heap}
theorem Cx.Ok.nofr (ok:X.Ok){b:Addr}{o:Obj}(e:X.base.get? b=some o):b∉X.fs:=fun hb=>by
 have:=(ok.funs.mem hb).1
 rw[e]at this;cases this
theorem Inv.bs (I:Inv X pins σ H s):∀ b o,X.base.get? b=some o->s.heap.get? b=some o/\H b=none:=fun b o e =>
 ⟨I.base.keep b o (I.ok.bs b o e).1 (I.ok.bs b o e).2 (I.ok.nofr e) (I.ok.noex b o e),I.base.free b o (I.ok.bs b o e).1 (I.ok.bs b o e).2 (I.ok.noex b o e)⟩
theorem Inv.bk (I:Inv X pins σ H s):∀ b o,X.base.get? b=some o->s.heap.get? b=some o:=fun b o e=>(I.bs b o e).1
theorem Inv.mod (I:Inv X pins σ H s):Mod X.K X.mg X.base:=I.ok.mod
theorem Inv.kIn (I:Inv X pins σ H s):X.K.In s.heap:=I.ok.mod.kin.keeps I.bk
theorem Inv.fr (I:Inv X pins σ H s):∃ m,Fr X.base X.env.locals s.heap m :=
 let ⟨m,hn,_⟩:=I.loc
 ⟨m,hn,I.bk,aL I.ok.bsz I.ok.above⟩
theorem Inv.lt (I:Inv X pins σ H s):X.env.locals<s.heap.objs.size:=let ⟨_,hn,_⟩:=I.loc;hn.lt
theorem Inv.sz (I:Inv X pins σ H s):X.s₀.heap.objs.size<=s.heap.objs.size:=aL I.ok.above (dQ I.lt)
theorem Inv.nofs (I:Inv X pins σ H s){a:Addr}(h:s.heap.objs.size<=a):a∉X.fs:=fun hb=>by
 obtain⟨_,o,ho,_⟩:=I.ok.funs.mem hb
 exact absurd (aC (gxN ho) (aL I.sz h)) (bQ _)
theorem Inv.cne (I:Inv X pins σ H s):∀ x c,X.env.cells.lookup x=some c->c≠X.env.locals:=fun x c e z=>by
 obtain⟨v,o,ho,hd⟩:=I.cell x c e
 obtain⟨m,⟨o',es,ep,ho',hd',_⟩,_⟩:=I.loc
 rw[z,ho']at ho;cases ho;rw[hd']at hd;cases hd
theorem Inv.funs (I:Inv X pins σ H s):s.heap.FunFrames X.base X.outer:=by
 have all:∀(l:List Env),(∀ b∈frs l,b∈X.fs)->X.s₀.heap.FunFrames X.base l->s.heap.FunFrames X.base l:=by
  intro l
  induction l with
  | nil=>intro _ _;trivial
  | cons env r ih =>
   intro hs hl
   obtain⟨hk,⟨L,o,hf,hn,ho,hd⟩,hr⟩:=hl
   have hL:L∈X.fs:=hs L (by unfold frs;rw[b9,hf];exact ao)
   obtain⟨sl,e⟩:=I.base.slot L o ho (I.ok.frf L hL) hL fun z=>I.ok.exfs L z hL
   exact⟨hk,⟨L,_,hf,hn,e,hd⟩,ih (fun b hb=>hs b (by unfold frs;rw[b9,hf];exact gxI _ hb)) hr⟩
 exact all X.outer (fun _ hb=>hb) I.ok.funs
theorem Inv.stack (I:Inv X pins σ H s):s.heap.FunFrames X.base X.stack:=by
 rcases I.ok.stk with e | ⟨e,hf⟩
 ·rw[e];exact I.funs
 ·rw[e]
  obtain⟨m,hn,_⟩:=I.loc
  refine .cons (by rw[I.ok.kind];decide) hf hn ?_ I.funs
  exact Heap.get?_none_of_le (aL I.ok.bsz I.ok.above)
theorem Inv.stkSub (I:Inv X pins σ H s):∀ b∈frs X.stack,b∈X.env.locals::X.fs:=fun b hb=>by
 rcases I.ok.stk with e | ⟨e,hf⟩
 ·rw[e]at hb;exact gxI _ hb
 ·rw[e]at hb
  unfold frs at hb
  rw[b9,hf]at hb
  exact hb
theorem Inv.stkFree (I:Inv X pins σ H s):∀ b∈frs X.stack,H b=none:=fun b hb=>by
 rcases List.mem_cons.mp (I.stkSub b hb)with e | hb
 ·rw[e];exact I.free
 ·obtain⟨_,o,ho,_⟩:=I.ok.funs.mem hb
  exact I.base.free b o ho (I.ok.frf b hb) fun z=>I.ok.exfs b z hb
theorem Inv.step {g':Array GenState}{t':Nat}{d':Drawn}{ch:List Addr}(I:Inv X pins σ H s)
 (hch:∀ b∈ch,(b∈X.ex\/X.s₀.heap.objs.size<=b)/\b≠X.env.locals/\(∀ x c,X.env.cells.lookup x=some c->c≠b)/\∀ p∈X.pn++pins,p.1≠b)
 (keep:∀ b o,b≠X.env.locals->b∉X.fs->b∉ch->s.heap.get? b=some o->H b=none->h'.get? b=some o)
 (slot:∀ b o,b≠X.env.locals->b∈X.fs->b∉ch->s.heap.get? b=some o->H b=none->∃ sl,h'.get? b=some { o with slots:=sl}) (free:∀ b o,b∉ch->s.heap.get? b=some o->H b=none->H' b=none)
 (there:∀ b o,b∉ch->s.heap.get? b=some o->∃ o',h'.get? b=some o')
 (tups:∀ b xs,H b=some (.tup xs)->H' b=some (.tup xs)) (frzs:∀ b o u,H b=some (.frz o u)->H' b=some (.frz o u)) (tbls:∀ b ps,H b=some (.tbl ps)->∃ more,H' b=some (.tbl (ps++more)))
 (ns:∀ m,s.heap.Ns X.env.locals m->h'.Ns X.env.locals m) (hok:HOk X.prog X.w H' h') (hg:AllBare g') :
 Inv X pins σ H' { s with heap:=h',gens:=g',drawn:=d',toks:=t'}:=by
 have neL:∀ b o,X.s₀.heap.get? b=some o->b≠X.env.locals:=fun b o e=>ai (aC (gxN e) I.ok.above)
 have neC:∀ b o,X.s₀.heap.get? b=some o->b∉X.ex->b∉ch:=fun b o e hx hb=>by
  rcases(hch b hb).1 with z | z
  ·exact hx z
  ·exact absurd (aC (gxN e) z) (bQ _)
 have cellK:∀ x c,X.env.cells.lookup x=some c->∀ v,s.heap.IsCell c v->h'.IsCell c v:=fun x c e v ⟨o,ho,hd⟩=>by
  have nch:c∉ch:=fun z=>(hch c z).2.2.1 x c e rfl
  by_cases hc:c∈X.fs
  ·obtain⟨sl,q⟩:=slot c o (I.cne x c e) hc nch ho (I.freeC x c e)
   exact⟨_,q,hd⟩
  ·exact⟨o,keep c o (I.cne x c e) hc nch ho (I.freeC x c e),hd⟩
 refine⟨I.ok,I.os,hg,⟨fun b o e n hb hx=>?_,fun b o e n hb hx=>?_,fun b o e n hx=>?_,fun b o e hx=>?_,fun b xs e=>tups b xs (I.base.tups b xs e),fun b o xs e=>frzs b o xs (I.base.frzs b o xs e),fun b ps e=>?_⟩,?_,fun x c e=>?_,?_,fun x c e=>?_,fun p hp=>?_,hok,I.len⟩
 ·exact keep b o (neL b o e) hb (neC b o e hx) (I.base.keep b o e n hb hx) (I.base.free b o e n hx)
 ·obtain⟨sl,e1⟩:=I.base.slot b o e n hb hx
  obtain⟨sl',e2⟩:=slot b _ (neL b o e) hb (neC b o e hx) e1 (I.base.free b o e n hx)
  exact⟨sl',e2⟩
 ·obtain⟨o',e1⟩:=I.base.there b o e hx
  exact free b o' (neC b o e hx) e1 (I.base.free b o e n hx)
 ·obtain⟨o',e1⟩:=I.base.there b o e hx
  exact there b o' (neC b o e hx) e1
 ·obtain⟨m1,e1⟩:=I.base.tbls b ps e
  obtain⟨m2,e2⟩:=tbls b _ e1
  exact⟨m1++m2,by rw[e2,Array.append_assoc]⟩
 ·obtain⟨m,hn,hl⟩:=I.loc
  refine⟨m,ns m hn,fun i x v e1 e2 e3=>?_⟩
  obtain⟨u,r,l⟩:=hl i x v e1 e2 e3
  refine⟨u,r,?_⟩
  rcases l with l | ⟨k,c,e,z⟩
  ·exact .inl l
  ·exact .inr ⟨k,c,e,cellK x c e _ z⟩
 ·obtain⟨v,z⟩:=I.cell x c e
  exact⟨v,cellK x c e v z⟩
 ·obtain⟨m,⟨o,_,_,ho,_⟩,_⟩:=I.loc
  exact free _ o (fun z=>(hch _ z).2.1 rfl) ho I.free
 ·obtain⟨v,o,ho,hd⟩:=I.cell x c e
  exact free c o (fun z=>(hch c z).2.2.1 x c e rfl) ho (I.freeC x c e)
 ·obtain⟨e,n,ne,nf,d⟩:=I.pin p hp
  have nch:p.1∉ch:=fun z=>(hch p.1 z).2.2.2 p hp rfl
  exact⟨keep p.1 p.2 ne nf nch e n,free p.1 p.2 nch e n,ne,nf,d⟩
theorem Inv.un {t':Nat}(I:Inv X pins σ H s)(u:Un X.fs [] H H' s.heap h')(hok:HOk X.prog X.w H' h'):Inv X pins σ H' { s with heap:=h',toks:=t'}:=by
 obtain⟨m,⟨o,es,ep,ho,r⟩,_⟩:=id I.loc
 obtain⟨sl,hL⟩:=u.any ho I.free (by simp)
 exact I.step (g':=s.gens) (d':=s.drawn) (ch:=[]) (fun _ z=>nomatch z) (fun b o _ hb _ e n=>u.keep b o e n hb (by simp)) (fun b o _ hb _ e n=>u.slot b o e n hb (by simp)) (fun b o _ e n=>u.free b o e n (by simp)) (fun b o _ e=>u.there b o e (by simp)) u.tups u.frzs u.tbls (fun m' hm=>by
  obtain⟨o',es',ep',ho',r'⟩:=hm
  rw[ho]at ho';cases ho'
  exact⟨_,es',ep',hL,r'⟩) hok I.bare
theorem Inv.call {g':Array GenState}{t':Nat}{d':Drawn}{ch:List Addr}(I:Inv X pins σ H s)(u:Un (frs X.stack) ch H H' s.heap h')(hok:HOk X.prog X.w H' h')(hg:AllBare g')
 (hch:∀ b∈ch,(b∈X.ex\/X.s₀.heap.objs.size<=b)/\b≠X.env.locals/\(∀ x c,X.env.cells.lookup x=some c->c≠b)/\∀ p∈X.pn++pins,p.1≠b) :
 Inv X pins σ H' { s with heap:=h',gens:=g',drawn:=d',toks:=t'}:=by
 obtain⟨m,⟨o,es,ep,ho,r⟩,_⟩:=id I.loc
 obtain⟨sl,hL⟩:=u.any ho I.free fun z=>(hch _ z).2.1 rfl
 exact I.step (ch:=ch) hch (fun b o hL hb hc e n=>u.keep b o e n (fun z=>(List.mem_cons.mp (I.stkSub b z)).elim hL hb) hc) (fun b o _ _ hc e n=>u.any e n hc) (fun b o hc e n=>u.free b o e n hc) (fun b o hc e=>u.there b o e hc) u.tups u.frzs u.tbls (fun m' hm=>by
  obtain⟨o',es',ep',ho',r'⟩:=hm
  rw[ho]at ho';cases ho'
  exact⟨_,es',ep',hL,r'⟩) hok hg
theorem Inv.turned {t':Nat}{it:Addr}(I:Inv X pins σ H s)(k:∀ b o,b≠it->s.heap.get? b=some o->h'.get? b=some o)(hn:H it=none)(hL:it≠X.env.locals)
 (h1:it∈X.ex\/X.s₀.heap.objs.size<=it) (h2:∀ x c,X.env.cells.lookup x=some c->c≠it) (h3:∀ p∈X.pn++pins,p.1≠it):Inv X pins σ H { s with heap:=h',toks:=t'}:=by
 have nit:∀ b u,H b=some u->b≠it:=fun b u e z=>by rw[z,hn]at e;cases e
 refine I.step (g':=s.gens) (d':=s.drawn) (ch:=[it]) (fun b hb=>?_) (fun b o _ _ hc e _=>k b o (fun z=>hc (by simp[z])) e) (fun b o _ _ hc e _=>⟨o.slots,k b o (fun z=>hc (by simp[z])) e⟩) (fun _ _ _ _ n=>n)
  (fun b o hc e=>⟨o,k b o (fun z=>hc (by simp[z])) e⟩) (fun _ _ e=>e) (fun _ _ _ e=>e) (fun b ps e=>⟨#[],by rw[e];simp⟩) (fun m hm=>?_) (fun b u e=>?_) I.bare
 ·have e:b=it:=by simpa using hb
  subst e
  exact⟨h1,hL,h2,h3⟩
 ·obtain⟨o,es,ep,ho,r⟩:=hm
  exact⟨o,es,ep,k _ o (aY hL) ho,r⟩
 ·refine(I.hok b u e).stay (fun c v hc q=>k c v ?_ q) (fun _ q=>q) fun _ _ q=>q
  rcases hc with z | z
  ·rw[z];exact nit b u e
  ·exact nit c _ z
theorem Inv.tok (I:Inv X pins σ H s)(t:Nat):Inv X pins σ H { s with toks:=t}:=I.un (h':=s.heap) (t':=t) Un.refl I.hok
theorem Inv.kept {t':Nat}(I:Inv X pins σ H s)(k:∀ b u,s.heap.get? b=some u->h'.get? b=some u):Inv X pins σ H { s with heap:=h',toks:=t'}:=I.un (Un.kept k) (I.hok.kept k)
theorem Inv.laid {a:Addr}{o:HO}{t':Nat}(I:Inv X pins σ H s)(k:∀ b u,s.heap.get? b=some u->h'.get? b=some u)(hp:s.heap.objs.size<=a)(new:ObjOk X.prog X.w (upd H a o) h' a o) :
 Inv X pins σ (upd H a o) { s with heap:=h',toks:=t'}:=I.un (Un.laid k hp (I.hok.fresh hp)) (I.hok.laid k hp new)
theorem Inv.write {x e:Addr}{o:HO}{t':Nat}(I:Inv X pins σ H s)(mu:Mut (H x))(he:e=x\/H e=some (.own x))(k:∀ b u,b≠e->s.heap.get? b=some u->h'.get? b=some u)(heo:∃ u,h'.get? e=some u)
 (new:ObjOk X.prog X.w (upd H x o) h' x o):Inv X pins σ (upd H x o) { s with heap:=h',toks:=t'}:=I.un (Un.write mu he k heo) (I.hok.write mu he k heo new)
theorem Inv.weak {σ':List (Option V)}(I:Inv X pins σ H s)(hl:σ'.length=σ.length)(w:∀(i:Nat) v,σ'[i]?=some (some v)->σ[i]?=some (some v)):Inv X pins σ' H s :=
 ⟨I.ok,I.os,I.bare,I.base,let ⟨m,hn,hl'⟩:=I.loc;⟨m,hn,fun i x v e1 e2 e3=>hl' i x v e1 (w i v e2) e3⟩,I.cell,I.free,I.freeC,I.pin,I.hok,hl.trans I.len⟩
theorem Inv.pins_of {pins':List (Addr×Obj)}(I:Inv X pins σ H s)(h:∀ p∈pins',s.heap.get? p.1=some p.2/\H p.1=none/\p.1≠X.env.locals/\p.1∉X.fs/\∀ v,p.2.data≠.cell v):Inv X pins' σ H s :=
 ⟨I.ok,I.os,I.bare,I.base,I.loc,I.cell,I.free,I.freeC,fun p hp=>(List.mem_append.mp hp).elim (fun z=>I.pin p (c6 _ z)) (h p),I.hok,I.len⟩
theorem nodup_ix {N:List Str}(hN:N.Nodup){i j:Nat}{x:Str}(a:N[i]?=some x)(b:N[j]?=some x):i=j:=by
 obtain⟨h1,e1⟩:=gxB a
 obtain⟨h2,e2⟩:=gxB b
 exact(List.getElem_inj hN).mp (e1.trans e2.symm)
theorem store_ok2 {M:Model}{A:Around}{E:Value->Shared->Prop}{i:Nat}{x:Str}{v:V}{u:Value}{Q:Unit->Shared->Prop}(I:Inv X pins σ H s)(hN:X.N.Nodup)(hi:X.N[i]?=some x)(hx:Loc X.env.scope x)(r:RelV v u)
 (h:∀ s',Inv X pins (σ.set i (some v)) H s'->(∃ a,Heap.SameBut a s.heap s'.heap/\(a=X.env.locals\/X.env.cells.lookup x=some a))->Q () s') (hf:X.fn x=true\/X.env.scope.names.lookup x=some .local:=by first | exact .inl rfl | exact .inr rfl | assumption):wpAny M A (storeName X.env x u) Q E s:=by
 obtain⟨m,hn,hl⟩:=id I.loc
 have hcls:(X.env.scope.kind==.class||(X.env.scope.kind==.module&&X.env.locals != X.env.globals))=false:=by rw[I.ok.kind];rfl
 have hiσ:i<σ.length:=by rw[I.len];exact(gxB hi).1
 have cne:=I.cne
 have tracked:∀ {a:Addr} {h':Heap},(∃ o,s.heap.get? a=some o/\H a=none)->Heap.SameBut a s.heap h'->HOk X.prog X.w H h':=fun {a h'} ha hs b ob e=>by
  obtain⟨_,_,hfree⟩:=ha
  refine(I.hok b ob e).stay (fun c w' hc q=>(hs.2 c ?_).trans q) (fun _ q=>q) fun _ _ q=>q
  rintro rfl
  rcases hc with rfl | hc
  ·rw[hfree]at e;cases e
  ·rw[hfree]at hc;cases hc
 rcases hx with hk | hk
 ·refine wpAny_storeName_local hk hn (fun h' hn' hs=>?_) hcls
  obtain⟨oL,_,_,hoL,_⟩:=id hn
  refine h _ ⟨I.ok,I.os,I.bare,⟨fun b o e n hb hx=>?_,fun b o e n hb hx=>?_,I.base.free,fun b o e hx=>?_,I.base.tups,I.base.frzs,I.base.tbls⟩,⟨_,hn',fun j y v' e1 e2 e3=>?_⟩,fun y c e=>?_,I.free,I.freeC,fun p hp=>?_,tracked ⟨oL,hoL,I.free⟩ hs,by simpa using I.len⟩ ⟨_,hs,.inl rfl⟩
  ·exact(hs.2 b (ai (aC (gxN e) I.ok.above))).trans (I.base.keep b o e n hb hx)
  ·obtain⟨sl,e1⟩:=I.base.slot b o e n hb hx
   exact⟨sl,(hs.2 b (ai (aC (gxN e) I.ok.above))).trans e1⟩
  ·obtain⟨o',e1⟩:=I.base.there b o e hx
   exact⟨o',(hs.2 b (ai (aC (gxN e) I.ok.above))).trans e1⟩
  ·by_cases hj:j=i
   ·subst hj
    rw[hi]at e1;cases e1
    rw[aD hiσ]at e2
    cases e2
    exact⟨u,r,.inl ⟨hk,by simp⟩⟩
   ·rw[aG (aY hj)]at e2
    obtain⟨u',r',q⟩:=hl j y v' e1 e2 e3
    refine⟨u',r',?_⟩
    rcases q with⟨k,e⟩ | ⟨k,c,e,z⟩
    ·refine .inl ⟨k,?_⟩
     have:y≠x:=fun e=>hj (nodup_ix hN e1 (e▸hi))
     simp[this,e]
    ·exact .inr ⟨k,c,e,z.sameBut hs (cne y c e)⟩
  ·obtain⟨w',z⟩:=I.cell y c e
   exact⟨w',z.sameBut hs (cne y c e)⟩
  ·obtain⟨e,n,ne,nf,d⟩:=I.pin p hp
   exact⟨(hs.2 p.1 ne).trans e,n,ne,nf,d⟩
 ·have hfn:X.fn x=true:=by
   rcases hf with z | z
   ·exact z
   ·rw[z]at hk;cases hk
  obtain⟨c,hc⟩:=I.ok.has x (.inl hk)
  obtain⟨w',z⟩:=I.cell x c hc
  refine wpAny_storeName_cell I.ok.kind hk hc z (fun h' hc' hs=>?_)
  obtain⟨oc,hoc,hocd⟩:=id z
  refine h { s with heap:=h'} ⟨I.ok,I.os,I.bare,⟨fun b o e n hb hx=>?_,fun b o e n hb hx=>?_,I.base.free,fun b o e hx=>?_,I.base.tups,I.base.frzs,I.base.tbls⟩,⟨m,hn.sameBut hs (aY (cne x c hc)),fun j y v' e1 e2 e3=>?_⟩,fun y c' e=>?_,I.free,I.freeC,fun p hp=>?_,tracked ⟨oc,hoc,I.freeC x c hc⟩ hs,by simpa using I.len⟩ ⟨c,hs,.inr hc⟩
  ·exact(hs.2 b (ai (aC (gxN e) (I.ok.cab x c hfn hc)))).trans (I.base.keep b o e n hb hx)
  ·obtain⟨sl,e1⟩:=I.base.slot b o e n hb hx
   exact⟨sl,(hs.2 b (ai (aC (gxN e) (I.ok.cab x c hfn hc)))).trans e1⟩
  ·obtain⟨o',e1⟩:=I.base.there b o e hx
   exact⟨o',(hs.2 b (ai (aC (gxN e) (I.ok.cab x c hfn hc)))).trans e1⟩
  ·by_cases hj:j=i
   ·subst hj
    rw[hi]at e1;cases e1
    rw[aD hiσ]at e2
    cases e2
    exact⟨u,r,.inr ⟨.inl hk,c,hc,hc'⟩⟩
   ·rw[aG (aY hj)]at e2
    obtain⟨u',r',q⟩:=hl j y v' e1 e2 e3
    refine⟨u',r',?_⟩
    rcases q with q | ⟨k,c',e,z'⟩
    ·exact .inl q
    ·refine .inr ⟨k,c',e,z'.sameBut hs ?_⟩
     rintro rfl
     exact hj (nodup_ix hN e1 (I.ok.inj _ _ _ e hc▸hi))
  ·by_cases hcc:c'=c
   ·subst hcc;exact⟨_,hc'⟩
   ·obtain⟨w2,z2⟩:=I.cell y c' e
    exact⟨w2,z2.sameBut hs hcc⟩
  ·obtain⟨e,n,ne,nf,d⟩:=I.pin p hp
   refine⟨(hs.2 p.1 ?_).trans e,n,ne,nf,d⟩
   intro q
   rw[q,hoc]at e
   have q':oc=p.2:=aB e
   exact d w' (by rw[<- q'];exact hocd)
theorem store_ok {M:Model}{A:Around}{E:Value->Shared->Prop}{i:Nat}{x:Str}{v:V}{u:Value}{Q:Unit->Shared->Prop}(I:Inv X pins σ H s)(hN:X.N.Nodup)(hi:X.N[i]?=some x)(hx:Loc X.env.scope x)(r:RelV v u)
 (h:∀ s',Inv X pins (σ.set i (some v)) H s'->Q () s') (hf:X.fn x=true\/X.env.scope.names.lookup x=some .local:=by first | exact .inl rfl | exact .inr rfl | assumption):wpAny M A (storeName X.env x u) Q E s :=
 store_ok2 I hN hi hx r (fun s' I' _=>h s' I') hf
theorem Inv.call' {s':Shared}{ch:List Addr}(I:Inv X pins σ H s)(ho:s'.os=s.os)(u:Un (frs X.stack) ch H H' s.heap s'.heap)(hok:HOk X.prog X.w H' s'.heap)(hg:AllBare s'.gens)
 (hch:∀ b∈ch,(b∈X.ex\/X.s₀.heap.objs.size<=b)/\b≠X.env.locals/\(∀ x c,X.env.cells.lookup x=some c->c≠b)/\∀ p∈X.pn++pins,p.1≠b):Inv X pins σ H' s':=by
 obtain⟨h',g',d',t',o'⟩:=s'
 have e:o'=s.os:=ho
 subst e
 exact I.call (g':=g') (t':=t') (d':=d') u hok hg hch
end
abbrev XK:=Value->Option Addr->Hp->Prop
abbrev St:=List (Option V)
abbrev VK:=V->Hp->Prop
abbrev TE:=St->Hp->VK->Prop
abbrev TT:=St->Hp->(Bool->Hp->Prop)->Prop
abbrev TA:=St->Hp->(List V->Hp->Prop)->Prop
structure Ends where
 nx:St->Hp->Prop
 rt:VK
 bk:St->Hp->Prop:=fun _ _=>False
 ct:St->Hp->Prop:=fun _ _=>False
abbrev TS:=Ends->St->Hp->Prop
def EP (X:Cx)(pins:List (Addr×Obj))(σ:St)(Q:VK)(u:Value)(s':Shared):Prop:=∃ v H',Inv X pins σ H' s'/\RelV v u/\Q v H'
def TP (X:Cx)(pins:List (Addr×Obj))(σ:St)(Q:Bool->Hp->Prop)(b:Bool)(s':Shared):Prop:=∃ H',Inv X pins σ H' s'/\Q b H'
def AP (X:Cx)(pins:List (Addr×Obj))(σ:St)(Q:List V->Hp->Prop)(us:List Value)(s':Shared):Prop:=∃ vs H',Inv X pins σ H' s'/\Vals vs us/\Q vs H'
def SP (X:Cx)(pins:List (Addr×Obj))(D:Ends)(f:Flow)(s':Shared):Prop :=
 match f with
 | .next=>∃ σ' H',Inv X pins σ' H' s'/\D.nx σ' H'
 | .brk=>∃ σ' H',Inv X pins σ' H' s'/\D.bk σ' H'
 | .cont=>∃ σ' H',Inv X pins σ' H' s'/\D.ct σ' H'
 | .ret u=>∃ v σ' H',Inv X pins σ' H' s'/\RelV v u/\D.rt v H'
def PE (X:Cx)(e:Expr)(t:TE):Prop :=
 ∀(pins:List (Addr×Obj)) (s:Shared) (σ:St) (H:Hp) (Q:VK),Inv X pins σ H s->t σ H Q->wpAny (model X.prog X.w) X.A (eval e X.env) (EP X pins σ Q) X.xe s
def PT (X:Cx)(e:Expr)(t:TT):Prop :=
 ∀(pins:List (Addr×Obj)) (s:Shared) (σ:St) (H:Hp) (Q:Bool->Hp->Prop),Inv X pins σ H s->t σ H Q->wpAny (model X.prog X.w) X.A (isTrue e X.env (eval e X.env)) (TP X pins σ Q) X.xe s
def PW (X:Cx)(e:Expr)(t:TT):Prop :=
 ∀(whole:Sem Value) (pins:List (Addr×Obj)) (s:Shared) (σ:St) (H:Hp) (Q:Bool->Hp->Prop),Inv X pins σ H s->t σ H Q->wpAny (model X.prog X.w) X.A (isTrue e X.env whole) (TP X pins σ Q) X.xe s
theorem PW.pt {X:Cx}{e:Expr}{t:TT}(h:PW X e t):PT X e t:=h _
def PA (X:Cx)(es:List Expr)(t:TA):Prop :=
 ∀(pos:Pos) (pins:List (Addr×Obj)) (s:Shared) (σ:St) (H:Hp) (Q:List V->Hp->Prop),Inv X pins σ H s->t σ H Q->wpAny (model X.prog X.w) X.A (spliced (backTo pos (starEach es X.env))) (AP X pins σ Q) X.xe s
def PS (X:Cx)(st:Stmt)(t:TS):Prop :=
 ∀(pins:List (Addr×Obj)) (s:Shared) (σ:St) (H:Hp) (D:Ends),Inv X pins σ H s->t D σ H->wpAny (model X.prog X.w) X.A (exec st X.env) (SP X pins D) X.xe s
def PSs (X:Cx)(st:List Stmt)(t:TS):Prop :=
 ∀(pins:List (Addr×Obj)) (s:Shared) (σ:St) (H:Hp) (D:Ends),Inv X pins σ H s->t D σ H->wpAny (model X.prog X.w) X.A (execs st X.env) (SP X pins D) X.xe s
theorem thn {α:Type}{t:Sem α}{Q Q':α->Shared->Prop}{M:Model}{A:Around}{E:Value->Shared->Prop}{s:Shared}(h:wpAny M A t Q E s)(hQ:∀ a s,Q a s->Q' a s):wpAny M A t Q' E s:=bG h hQ fun _ _ x=>x
section
variable {X:Cx}
theorem bin {a b:Expr}{ta tb:TE}(ha:PE X a ta)(hb:PE X b tb){pins:List (Addr×Obj)}{s:Shared}{σ:St}{H:Hp}{R:V->V->Hp->Prop}(I:Inv X pins σ H s)(h:ta σ H fun x H1=>tb σ H1 fun y H2=>R x y H2)
 {α:Type} {Q:α->Shared->Prop} {f:Value->Value->Sem α}
 (hf:∀ v u s2 x y H2,Inv X pins σ H2 s2->RelV x v->RelV y u->R x y H2->wpAny (model X.prog X.w) X.A (f v u) Q X.xe s2) :
 wpAny (model X.prog X.w) X.A (eval a X.env) (fun v s₁=>wpAny (model X.prog X.w) X.A (eval b X.env) (fun u s₂=>wpAny (model X.prog X.w) X.A (f v u) Q X.xe s₂) X.xe s₁) X.xe s:=by
 refine thn (ha pins s σ H _ I h) fun v s1 hq2=>?_
 obtain⟨x,H1,I1,r1,q1⟩:=hq2
 refine thn (hb pins s1 σ H1 _ I1 q1) fun u s2 hq3=>?_
 obtain⟨y,H2,I2,r2,q2⟩:=hq3
 exact hf v u s2 x y H2 I2 r1 r2 q2
def tVar (i:Nat):TE:=fun σ H Q=>∃ v,σ[i]?=some (some v)/\Q v H
def tC (v:V):TE:=fun _ H Q=>Q v H
theorem pe_var {i:Nat}{x:Str}{pos:Pos}(hN:X.N[i]?=some x)(hv:Vis X.env.scope x)(hd:(x==("__debug__" : Str))=false:=by decide)(hcd:(x==("__classdict__" : Str))=false:=by decide):PE X (.Name x pos) (tVar i):=by
 intro pins s σ H Q I h
 obtain⟨v,e,h⟩:=h
 obtain⟨m,hn,hl⟩:=I.loc
 obtain⟨u,r,l⟩:=hl i x v hN e hv
 have fin:EP X pins σ Q u s:=⟨v,H,I,r,h⟩
 rcases l with⟨hk,hm⟩ | ⟨hk,c,hc,hcell⟩
 ·exact wpAny_Name (wpAny_loadName_local I.ok.kind hk hn hm fin) hd
 ·rcases hk with hk | hk
  ·exact wpAny_Name (wpAny_loadName_cell I.ok.kind hk hc hcell fin) hd
  ·exact wpAny_Name (wpAny_loadName_free I.ok.kind hk hc hcell fin hcd) hd
theorem pe_int {i j pos}:PE X (.Constant (.int i) j pos) (tC (.int i)):=fun _ _ _ H _ I h=>wpAny_Constant_int ⟨.int i,H,I.tok _,⟨_,rfl⟩,h⟩
theorem pe_bl {b j pos}:PE X (.Constant (.bool b) j pos) (tC (.bl b)):=fun _ _ _ H _ I h=>Constant_bool ⟨.bl b,H,I,rfl,h⟩
theorem pe_non {j pos}:PE X (.Constant .none j pos) (tC .non):=fun _ _ _ H _ I h=>Constant_none ⟨.non,H,I,rfl,h⟩
theorem pe_str {x j pos}:PE X (.Constant (.str x) j pos) (tC (.str x)):=fun _ _ _ H _ I h=>Calls.Constant_str ⟨.str x,H,I.tok _,⟨_,rfl⟩,h⟩
def Gl (X:Cx)(x:Str):Prop:=X.env.kindOf x=some .globalImplicit
theorem ld_glob {E:Value->Shared->Prop}{pins:List (Addr×Obj)}{s:Shared}{σ:St}{H:Hp}{x:Str}{u:Value}{pos:Pos}{Q:Value->Shared->Prop}(I:Inv X pins σ H s)(hg:Gl X x)(hm:X.mg x=some u)(h:Q u s)
 (hd:(x==("__debug__" : Str))=false:=by decide):wpAny (model X.prog X.w) X.A (eval (.Name x pos) X.env) Q E s :=
 Calls.Name_function_global I.ok.kind hg (Calls.loadGlobal_global (by rw[I.ok.glob];exact I.mod.glob.keeps I.bk) hm h) hd
theorem ld_blt {E:Value->Shared->Prop}{pins:List (Addr×Obj)}{s:Shared}{σ:St}{H:Hp}{x:Str}{u:Value}{pos:Pos}{Q:Value->Shared->Prop}(I:Inv X pins σ H s)(hg:Gl X x)(hm:X.mg x=none)(hv:bootBuiltins x=some u)(h:Q u s)
 (hn:x ≠ "__name__":=by decide) (hd:(x==("__debug__" : Str))=false:=by decide):wpAny (model X.prog X.w) X.A (eval (.Name x pos) X.env) Q E s:=by
 obtain⟨mb,h1,h2⟩:=I.mod.blt
 exact Calls.Name_function_global I.ok.kind hg (Calls.loadGlobal_builtin (by rw[I.ok.glob];exact I.mod.glob.keeps I.bk) hm (by rw[I.ok.blt];exact h1.keeps I.bk) ((h2 x hn).trans hv) h) hd
theorem pe_bltn {x:Str}{v:V}{u:Value}{pos:Pos}(hg:Gl X x)(hm:X.mg x=none)(hv:bootBuiltins x=some u)(r:RelV v u)(hn:x ≠ "__name__":=by decide)(hd:(x==("__debug__" : Str))=false:=by decide):PE X (.Name x pos) (tC v) :=
 fun _ _ _ H _ I h=>ld_blt I hg hm hv ⟨v,H,I,r,h⟩ hn hd
variable {a b:Expr}{ta tb:TE}{pos:Pos}
def PC (X:Cx)(op:CmpOp)(a b:Expr)(t:TE):Prop :=
 ∀(pins:List (Addr×Obj)) (s:Shared) (σ:St) (H:Hp) (Q:VK),Inv X pins σ H s->t σ H Q ->
  wpAny (model X.prog X.w) X.A (eval a X.env) (fun v s₁=>wpAny (model X.prog X.w) X.A (eval b X.env) (fun u s₂=>wpAny (model X.prog X.w) X.A (compareOp op v u) (EP X pins σ Q) X.xe s₂) X.xe s₁) X.xe s
theorem nobehind (b:Expr){op:CmpOp}(h:op≠.In)(h2:op≠.NotIn):behindInMarks op b=false:=by
 have e1:(op==CmpOp.In)=false:=by cases op <;> first | rfl | exact absurd rfl h
 have e2:(op==CmpOp.NotIn)=false:=by cases op <;> first | rfl | exact absurd rfl h2
 cases b <;> simp[behindInMarks,e1,e2]
def tIsN (ta:TE):TE:=fun σ H Q=>ta σ H fun x H1=>Q (.bl (decide (x=.non))) H1
def tNotN (ta:TE):TE:=fun σ H Q=>ta σ H fun x H1=>Q (.bl (!decide (x=.non))) H1
theorem RelV.none_iff {x:V}{v:Value}(r:RelV x v):(v==Value.none)=decide (x=.non):=by
 cases x with
 | non=>cases r;rfl
 | bl _=>cases r;rfl
 | int _=>obtain⟨t,rfl⟩:=r;rfl
 | str _=>obtain⟨t,rfl⟩:=r;rfl
 | byt _=>obtain⟨t,rfl⟩:=r;rfl
 | flt _=>obtain⟨t,rfl⟩:=r;rfl
 | ref _=>cases r;rfl
 | ty _=>cases r;rfl
theorem pc_isN {j pos'}(ha:PE X a ta):PC X .Is a (.Constant .none j pos') (tIsN ta):=by
 intro pins s σ H Q I h
 refine thn (ha pins s σ H _ I h) fun v s1 hq4=>?_
 obtain⟨x,H1,I1,r1,q1⟩:=hq4
 exact Constant_none (is_none_gen ⟨.bl _,H1,I1,by rw[r1.none_iff];rfl,q1⟩)
theorem pc_notN {j pos'}(ha:PE X a ta):PC X .IsNot a (.Constant .none j pos') (tNotN ta):=by
 intro pins s σ H Q I h
 refine thn (ha pins s σ H _ I h) fun v s1 hq5=>?_
 obtain⟨x,H1,I1,r1,q1⟩:=hq5
 exact Constant_none (isnot_none_gen ⟨.bl _,H1,I1,by rw[r1.none_iff];rfl,q1⟩)
def tB (t:TE):TT:=fun σ H Q=>t σ H fun x H1=>∃ c,x=.bl c/\Q c H1
theorem pt_cmp {op:CmpOp}{t:TE}(h:PC X op a b t)(h1:behindInMarks op b=false:=by first | exact nobehind _ (by decide) (by decide) | rfl):PT X (.Compare a [op] [b] pos) (tB t):=by
 intro pins s σ H Q I hw
 refine wpAny_isTrue_Compare1 (thn (h pins s σ H _ I hw) fun v s1 h1=>thn h1 fun u s2 h2=>thn h2 fun c s3 hq6=>?_) h1
 obtain⟨x,H1,I1,r1,q1⟩:=hq6
 obtain⟨d,rfl,q⟩:=q1
 cases r1
 exact cv ⟨H1,I1,q⟩
variable {tA tB':TT}{rest:List Expr}
def tAnd (t u:TT):TT:=fun σ H Q=>t σ H fun c H1=>if c=true then u σ H1 Q else Q false H1
def tOr (t u:TT):TT:=fun σ H Q=>t σ H fun c H1=>if c=true then Q true H1 else u σ H1 Q
def tNot (t:TT):TT:=fun σ H Q=>t σ H fun c H1=>Q (!c) H1
theorem pw_and1 (ha:PT X a tA):PW X (.BoolOp .And [a] pos) tA:=by
 intro wh pins s σ H Q I h
 refine isTrue_and (thn (ha pins s σ H Q I h) fun c s1 e=>?_)
 cases c with
 | true=>exact isTrue_and_nil e
 | false=>exact e
theorem pw_or1 (ha:PT X a tA):PW X (.BoolOp .Or [a] pos) tA:=by
 intro wh pins s σ H Q I h
 refine isTrue_or (thn (ha pins s σ H Q I h) fun c s1 e=>?_)
 cases c with
 | false=>exact isTrue_or_nil e
 | true=>exact e
theorem pw_and (ha:PT X a tA)(hb:PW X (.BoolOp .And (b::rest) pos) tB'):PW X (.BoolOp .And (a::b::rest) pos) (tAnd tA tB'):=by
 intro wh pins s σ H Q I h
 refine isTrue_and (thn (ha pins s σ H _ I h) fun c s1 hq0=>?_)
 obtain⟨H1,I1,q1⟩:=hq0
 cases c with
 | true=>exact hb wh pins s1 σ H1 Q I1 q1
 | false=>exact⟨H1,I1,q1⟩
theorem pw_or (ha:PT X a tA)(hb:PW X (.BoolOp .Or (b::rest) pos) tB'):PW X (.BoolOp .Or (a::b::rest) pos) (tOr tA tB'):=by
 intro wh pins s σ H Q I h
 refine isTrue_or (thn (ha pins s σ H _ I h) fun c s1 hq1=>?_)
 obtain⟨H1,I1,q1⟩:=hq1
 cases c with
 | true=>exact⟨H1,I1,q1⟩
 | false=>exact hb wh pins s1 σ H1 Q I1 q1
theorem pt_not (ha:PT X a tA):PT X (.UnaryOp .Not a pos) (tNot tA):=by
 intro pins s σ H Q I h
 exact isTrue_not (ha pins s σ H (fun c H1=>Q (!c) H1) I h)
theorem pe_one {op}{t:TE}(h:PE X a t):PE X (.BoolOp op [a] pos) t:=fun pins s σ H Q I hw=>BoolOp_one (h pins s σ H Q I hw)
def tIf (t:TT)(ta tb:TE):TE:=fun σ H Q=>t σ H fun c H1=>if c=true then ta σ H1 Q else tb σ H1 Q
theorem pe_ifExp {c:Expr}(hc:PT X c tA)(ha:PE X a ta)(hb:PE X b tb):PE X (.IfExp c a b pos) (tIf tA ta tb):=by
 intro pins s σ H Q I h
 refine wpAny_IfExp (thn (hc pins s σ H _ I h) fun d s1 hq2=>?_)
 obtain⟨H1,I1,q1⟩:=hq2
 cases d with
 | true=>exact ha pins s1 σ H1 Q I1 q1
 | false=>exact hb pins s1 σ H1 Q I1 q1
end
def SqL (K:PySem.W.Frag)(H:Hp)(a:Addr)(xs:List V):Prop :=
 Rd H a (.lst xs) \/
  ∃(o:Obj) (fw:Array Value) (n:Nat),K.lookup a=some o/\o.cls=.type "list"/\o.dict=none/\o.data=.seq fw n/\fw.size<=sizeLine/\Vals xs fw.toList
def SqT (K:PySem.W.Frag)(H:Hp)(a:Addr)(xs:List V):Prop :=
 Rd H a (.tup xs) \/
  ∃(o:Obj) (fw:Array Value) (n:Nat),K.lookup a=some o/\o.cls=.type "tuple"/\o.data=.seq fw n/\fw.size<=sizeLine/\Vals xs fw.toList
def absV:Value->Option V
 | .none=>some .non
 | .bool b=>some (.bl b)
 | .int i _=>some (.int i)
 | .str x _=>some (.str x)
 | .bytes b _=>some (.byt b)
 | .float b _=>some (.flt b)
 | .ref a=>some (.ref a)
 | .type n=>some (.ty n)
 | _=>none
theorem RelV.abs {x:V}{u:Value}(r:RelV x u):absV u=some x:=by
 cases x with
 | non=>cases r;rfl
 | bl _=>cases r;rfl
 | int _=>obtain⟨t,rfl⟩:=r;rfl
 | str _=>obtain⟨t,rfl⟩:=r;rfl
 | byt _=>obtain⟨t,rfl⟩:=r;rfl
 | flt _=>obtain⟨t,rfl⟩:=r;rfl
 | ref _=>cases r;rfl
 | ty _=>cases r;rfl
theorem RelV.inj {x y:V}{u:Value}(r:RelV x u)(q:RelV y u):x=y:=aB (r.abs.symm.trans q.abs)
theorem Vals.inj {xs ys:List V}{us:List Value}(h:Vals xs us)(g:Vals ys us):xs=ys:=by
 induction h generalizing ys with
 | nil=>cases g;rfl
 | cons r t ih =>
  cases g with
  | cons r' t'=>rw[r.inj r',ih t']
section
variable {X:Cx}{pins:List (Addr×Obj)}{σ:St}{H:Hp}{s:Shared}{a:Addr}{xs ys:List V}
theorem SqL.of {K:PySem.W.Frag}(h:H a=some (.lst xs)):SqL K H a xs:=.inl (.inl h)
theorem SqT.of {K:PySem.W.Frag}(h:H a=some (.tup xs)):SqT K H a xs:=.inl (.inl h)
theorem Inv.list (I:Inv X pins σ H s)(h:SqL X.K H a xs):∃ fw:List Value,Vals xs fw/\PlainL s.heap a fw.toArray/\xs.length<=sizeLine:=by
 rcases h with h | ⟨o,fw,n,hk,hc,hd,hs,hz,r⟩
 ·obtain⟨z,fw,n,r,e⟩:=h.ok I.hok
  exact⟨fw,r,⟨_,n,e,rfl,rfl,rfl⟩,z⟩
 ·refine⟨fw.toList,r,⟨o,n,I.kIn a o hk,hc,hd,by simpa using hs⟩,?_⟩
  have e:=r.length
  simp only[Array.length_toList]at e
  omega
theorem Inv.tuple (I:Inv X pins σ H s)(h:SqT X.K H a xs):∃ fw:List Value,Vals xs fw/\IsTup s.heap a fw.toArray/\xs.length<=sizeLine:=by
 rcases h with h | ⟨o,fw,n,hk,hc,hs,hz,r⟩
 ·obtain⟨z,fw,r,p⟩:=h.ok I.hok
  exact⟨fw,r,p,z⟩
 ·refine⟨fw.toList,r,⟨o,I.kIn a o hk,hc,n,by simpa using hs⟩,?_⟩
  have e:=r.length
  simp only[Array.length_toList]at e
  omega
theorem Inv.list_inj (I:Inv X pins σ H s)(h:SqL X.K H a xs)(h':SqL X.K H a ys):xs=ys:=by
 obtain⟨fw,r,⟨o,n,e,_,_,d⟩,_⟩:=I.list h
 obtain⟨its',r',⟨o',n',e',_,_,d'⟩,_⟩:=I.list h'
 rw[e]at e';cases e'
 rw[d]at d'
 injection d' with d1 _
 have:fw=its':=by simpa using cj Array.toList d1
 subst this
 exact r.inj r'
end
abbrev Cx.wish (X:Cx)(E:Value->Shared->Prop):Cx:={ X with xe:=E}
abbrev Cx.nox (X:Cx):Cx:=X.wish fun _ _=>False
theorem Cx.Ok.wish {X:Cx}(ok:X.Ok)(E:Value->Shared->Prop):(X.wish E).Ok :=
 ⟨ok.mod,ok.kind,ok.glob,ok.blt,ok.above,ok.inj,ok.has,ok.cab,ok.hd,ok.frames,ok.stk,ok.exf,ok.bs,ok.bsz,ok.noex,ok.exfs,ok.funs,ok.frf⟩
theorem Cx.Ok.unwish {X:Cx}{E:Value->Shared->Prop}(ok:(X.wish E).Ok):X.Ok :=
 ⟨ok.mod,ok.kind,ok.glob,ok.blt,ok.above,ok.inj,ok.has,ok.cab,ok.hd,ok.frames,ok.stk,ok.exf,ok.bs,ok.bsz,ok.noex,ok.exfs,ok.funs,ok.frf⟩
section
variable {X:Cx}{pins:List (Addr×Obj)}{σ:St}{H:Hp}{s:Shared}{E:Value->Shared->Prop}
theorem Inv.wish (I:Inv X pins σ H s)(E:Value->Shared->Prop):Inv (X.wish E) pins σ H s:=⟨I.ok.wish E,I.os,I.bare,I.base,I.loc,I.cell,I.free,I.freeC,I.pin,I.hok,I.len⟩
theorem Inv.unwish (I:Inv (X.wish E) pins σ H s):Inv X pins σ H s:=⟨I.ok.unwish,I.os,I.bare,I.base,I.loc,I.cell,I.free,I.freeC,I.pin,I.hok,I.len⟩
theorem SP.unwish {D:Ends}{f:Flow}{s':Shared}(h:SP (X.wish E) pins D f s'):SP X pins D f s':=by
 cases f with
 | next=>obtain⟨σ',H',I,q⟩:=h;exact⟨σ',H',I.unwish,q⟩
 | brk=>obtain⟨σ',H',I,q⟩:=h;exact⟨σ',H',I.unwish,q⟩
 | cont=>obtain⟨σ',H',I,q⟩:=h;exact⟨σ',H',I.unwish,q⟩
 | ret u=>obtain⟨v,σ',H',I,r,q⟩:=h;exact⟨v,σ',H',I.unwish,r,q⟩
theorem PSs.nox {st:List Stmt}{t:TS}(h:PSs X.nox st t):PSs X st t:=fun pins s σ H D I hw =>
 bG (h pins s σ H D (I.wish _) hw) (fun _ _ q=>q.unwish) fun _ _ z=>False.elim z
end
section
variable {X:Cx}{st:Stmt}{rest:List Stmt}{t u:TS}{e:Expr}{te:TE}{pos:Pos}
def tNext:TS:=fun D σ H=>D.nx σ H
def tSeq (t u:TS):TS:=fun D σ H=>t { D with nx:=u D} σ H
theorem pss_nil:PSs X [] tNext:=fun _ _ σ H _ I h=>wpAny_execs_nil ⟨σ,H,I,h⟩
theorem pss_cons (h1:PS X st t)(h2:PSs X rest u):PSs X (st::rest) (tSeq t u):=by
 intro pins s σ H D I h
 refine wpAny_execs_cons (thn (h1 pins s σ H { D with nx:=u D} I h) fun f s1 q=>?_)
 cases f with
 | next =>
  obtain⟨σ',H',I',q⟩:=q
  exact h2 pins s1 σ' H' D I' q
 | ret v=>exact q
 | brk=>exact q
 | cont=>exact q
theorem pss_one (h1:PS X st t):PSs X [st] t:=by
 intro pins s σ H D I h
 refine wpAny_execs_cons (thn (h1 pins s σ H D I h) fun f s1 q=>?_)
 cases f with
 | next=>exact wpAny_execs_nil q
 | ret v=>exact q
 | brk=>exact q
 | cont=>exact q
theorem Inv.quiet {pins:List (Addr×Obj)}{σ:St}{H:Hp}{s:Shared}(I:Inv X pins σ H s):interactive X.env=false:=by simp[interactive,I.ok.kind]
def tDrop (te:TE):TS:=fun D σ H=>te σ H fun _ H1=>D.nx σ H1
theorem ps_expr (he:PE X e te)(hs:swapsWith e none pos.line X.env=pure false:=by rfl):PS X (.Expr e pos) (tDrop te):=by
 intro pins s σ H D I h
 exact wpAny_Expr_any (thn (he pins s σ H _ I h) fun v s1 hq3=>by obtain⟨x,H1,I1,r1,q1⟩:=hq3;exact⟨σ,H1,I1,q1⟩) I.quiet hs
def tRet (te:TE):TS:=fun D σ H=>te σ H D.rt
theorem ps_ret (he:PE X e te):PS X (.Return (some e) pos) (tRet te):=by
 intro pins s σ H D I h
 exact wpAny_Return_some (thn (he pins s σ H _ I h) fun v s1 hq4=>by obtain⟨x,H1,I1,r1,q1⟩:=hq4;exact⟨x,σ,H1,I1,r1,q1⟩)
def tIfS (c:TT)(t u:TS):TS:=fun D σ H=>c σ H fun b H1=>if b=true then t D σ H1 else u D σ H1
theorem ps_if {c:Expr}{a b:List Stmt}{tc:TT}(hc:PT X c tc)(ha:PSs X a t)(hb:PSs X b u):PS X (.If c a b pos) (tIfS tc t u):=by
 intro pins s σ H D I h
 refine wpAny_If (thn (hc pins s σ H _ I h) fun d s1 hq5=>?_)
 obtain⟨H1,I1,q1⟩:=hq5
 cases d with
 | true=>exact ha pins s1 σ H1 D I1 q1
 | false=>exact hb pins s1 σ H1 D I1 q1
end
abbrev TG:=V->St->Hp->(St->Hp->Prop)->Prop
abbrev TGs:=List V->St->Hp->(St->Hp->Prop)->Prop
def PG (X:Cx)(target:Expr)(t:TG):Prop :=
 ∀(pins:List (Addr×Obj)) (s:Shared) (σ:St) (H:Hp) (v:V) (u:Value) (Q:St->Hp->Prop),Inv X pins σ H s->RelV v u->t v σ H Q ->
  wpAny (model X.prog X.w) X.A (assign target X.env u) (fun _ s'=>∃ σ' H',Inv X pins σ' H' s'/\Q σ' H') X.xe s
def PGs (X:Cx)(ts:List Expr)(t:TGs):Prop :=
 ∀(pins:List (Addr×Obj)) (s:Shared) (σ:St) (H:Hp) (vs:List V) (us:List Value) (Q:St->Hp->Prop),Inv X pins σ H s->Vals vs us->t vs σ H Q ->
  wpAny (model X.prog X.w) X.A (assignInOrder ((assignEach ts X.env).map (·.2)) us) (fun _ s'=>∃ σ' H',Inv X pins σ' H' s'/\Q σ' H') X.xe s
abbrev TSet:=V->V->V->Hp->(Hp->Prop)->Prop
def PSet (X:Cx)(t:TSet):Prop :=
 ∀(pins:List (Addr×Obj)) (s:Shared) (σ:St) (H:Hp) (o i v:V) (ov iv u:Value) (Q:Hp->Prop),Inv X pins σ H s->RelV o ov->RelV i iv->RelV v u->t o i v H Q ->
  wpAny (model X.prog X.w) X.A (setItem ov iv u) (fun _ s'=>∃ H',Inv X pins σ H' s'/\Q H') X.xe s
abbrev TIp:=V->V->Hp->VK->Prop
def PIp (X:Cx)(op:Operator)(t:TIp):Prop :=
 ∀(pins:List (Addr×Obj)) (s:Shared) (σ:St) (H:Hp) (x y:V) (v u:Value) (Q:VK),Inv X pins σ H s->RelV x v->RelV y u->t x y H Q ->
  wpAny (model X.prog X.w) X.A (inplaceOp op v u) (EP X pins σ Q) X.xe s
section
variable {X:Cx}{pos:Pos}
def gName (i:Nat):TG:=fun v σ H Q=>Q (σ.set i (some v)) H
theorem pg_name {i:Nat}{x:Str}(hN:X.N.Nodup)(hi:X.N[i]?=some x)(hx:Loc X.env.scope x)(hf:X.fn x=true\/X.env.scope.names.lookup x=some .local:=by first | exact .inl rfl | exact .inr rfl | assumption):PG X (.Name x pos) (gName i):=by
 intro pins s σ H v u Q I r h
 exact wpAny_assign_Name (store_ok I hN hi hx r (fun s' I'=>⟨_,H,I',h⟩) hf)
def gNil:TGs:=fun vs σ H Q=>vs=[]/\Q σ H
def gCons (t:TG)(u:TGs):TGs:=fun vs σ H Q=>∃ v r,vs=v::r/\t v σ H fun σ' H'=>u r σ' H' Q
theorem pgs_nil:PGs X [] gNil:=by
 intro pins s σ H vs us Q I r h
 obtain⟨e,h⟩:=h
 subst e
 cases r
 exact assignInOrder_nil ⟨σ,H,I,h⟩
theorem pgs_cons {e:Expr}{es:List Expr}{t:TG}{u:TGs}(h1:PG X e t)(h2:PGs X es u)
 (hs:(assignEach (e::es) X.env).map (·.2)=assign e X.env::(assignEach es X.env).map (·.2):=by rfl):PGs X (e::es) (gCons t u):=by
 intro pins s σ H vs us Q I r h
 obtain⟨v,vr,e1,h⟩:=h
 subst e1
 cases r with
 | cons r rr =>
  rw[hs]
  refine assignInOrder_cons (thn (h1 pins s σ H _ _ _ I r h) fun _ s1 hq6=>?_)
  obtain⟨σ1,H1,I1,q1⟩:=hq6
  exact h2 pins s1 σ1 H1 _ _ Q I1 rr q1
def gTup (K:PySem.W.Frag)(n:Nat)(t:TGs):TG:=fun v σ H Q=>∃ a xs,v=.ref a/\SqT K H a xs/\xs.length=n/\t xs σ H Q
theorem pg_tup {es:List Expr}{k:Nat}{t:TGs}{n:Nat}(hc:X.calm=true)(h:PGs X es t)
 (hn:(assignEach es X.env).length=n:=by rfl) (hst:(assignEach es X.env).findIdx? (·.1)=none:=by rfl):PG X (.Tuple es k pos) (gTup X.K n t):=by
 intro pins s σ H v u Q I r hw
 obtain⟨a,xs,e1,hq,hl,hw⟩:=hw
 subst e1
 cases r
 obtain⟨fw,rv,ht,hz⟩:=I.tuple hq
 refine assign_Tuple_tuple (I.ok.hd hc) ht (by simp[hn,<- hl,rv.length]) hst fun h' hx=>?_
 have I1:Inv X pins σ H { s with heap:=h'}:=I.kept (t':=s.toks) fun b o e=>hx b o (ai (gxN e)) e
 exact h pins _ σ H xs _ Q I1 (by simpa using rv) hw
def gSub (to ti:TE)(t:TSet):TG:=fun v σ H Q=>to σ H fun o H1=>ti σ H1 fun i H2=>t o i v H2 fun H3=>Q σ H3
theorem pg_sub {o i:Expr}{to ti:TE}{t:TSet}(ho:PE X o to)(hi:PE X i ti)(hs:PSet X t)
 (ha:∀ v,assign (.Subscript o i pos) X.env v=(do
   let ov <- holding [v] (eval o X.env)
   let iv <- holding [v,ov] (eval i X.env)
   standAt pos
   holding [v,ov,iv] (setItem ov iv v)
   release [v,ov,iv] []):=by intro _;rfl):PG X (.Subscript o i pos) (gSub to ti t):=by
 intro pins s σ H v u Q I r h
 rw[ha]
 refine e9 (bp (thn (ho pins s σ H _ I h) fun ov s1 hq0=>?_))
 obtain⟨x,H1,I1,r1,q1⟩:=hq0
 refine e9 (bp (thn (hi pins s1 σ H1 _ I1 q1) fun iv s2 hq1=>?_))
 obtain⟨y,H2,I2,r2,q2⟩:=hq1
 refine e9 (dg (e9 (bp (thn (hs pins s2 σ H2 x y v ov iv u _ I2 r1 r2 r q2) fun _ s3 hq2=>?_))))
 obtain⟨H3,I3,q3⟩:=hq2
 exact wpAny_release ⟨σ,H3,I3,q3⟩
def tAsg (te:TE)(g:TG):TS:=fun D σ H=>te σ H fun x H1=>g x σ H1 D.nx
theorem ps_asg {tg e:Expr}{te:TE}{g:TG}(he:PE X e te)(hg:PG X tg g)(hs:swapsWithSole [tg] e pos.line X.env=pure false:=by rfl)(hw:swappedStores [tg] e X.env=pure none:=by rfl)
 (h1:(assignEach [tg] X.env).map (·.2)=[assign tg X.env]:=by rfl):PS X (.Assign [tg] e pos) (tAsg te g):=by
 intro pins s σ H D I h
 refine wpAny_Assign_stores (thn (he pins s σ H _ I h) fun v s1 hq3=>?_) hs hw
 obtain⟨x,H1,I1,r1,q1⟩:=hq3
 rw[h1]
 exact thn (hg pins s1 σ H1 x v _ I1 r1 q1) fun _ s2 q=>q
theorem ps_set {i:Nat}{x:Str}{e:Expr}{te:TE}{pos':Pos}(hN:X.N.Nodup)(hi:X.N[i]?=some x)(hx:Loc X.env.scope x)(he:PE X e te)(hs:swapsWith e (some (.Name x pos')) pos.line X.env=pure false:=by rfl)(hf:X.fn x=true\/X.env.scope.names.lookup x=some .local:=by first | exact .inl rfl | exact .inr rfl | assumption) :
 PS X (.Assign [.Name x pos'] e pos) (tAsg te (gName i)):=by
 intro pins s σ H D I h
 refine wpAny_Assign_Name (thn (he pins s σ H _ I h) fun v s1 hq4=>?_) hs
 obtain⟨y,H1,I1,r1,q1⟩:=hq4
 exact store_ok I1 hN hi hx r1 (fun s2 I2=>⟨_,H1,I2,q1⟩) hf
def tAug (i:Nat)(te:TE)(ti:TIp):TS:=fun D σ H=>∃ x,σ[i]?=some (some x)/\te σ H fun y H1=>ti x y H1 fun z H2=>D.nx (σ.set i (some z)) H2
theorem ps_aug {i:Nat}{x:Str}{e:Expr}{te:TE}{op:Operator}{ti:TIp}{pos':Pos}(hN:X.N.Nodup)(hi:X.N[i]?=some x)(hx:Loc X.env.scope x)(he:PE X e te)(ho:PIp X op ti)(hf:X.fn x=true\/X.env.scope.names.lookup x=some .local:=by first | exact .inl rfl | exact .inr rfl | assumption) :
 PS X (.AugAssign (.Name x pos') op e pos) (tAug i te ti):=by
 intro pins s σ H D I h
 obtain⟨v,e1,h⟩:=h
 obtain⟨m,hn,hl⟩:=I.loc
 have vis:Vis X.env.scope x:=by rcases hx with k | k;exact .inl k;exact .inr (.inl k)
 obtain⟨u,r,l⟩:=hl i x v hi e1 vis
 refine wpAny_AugAssign_Name ?_
 have go:wpAny (model X.prog X.w) X.A (eval e X.env) (fun w s₂=>wpAny (model X.prog X.w) X.A (inplaceOp op u w) (fun r s₃=>wpAny (model X.prog X.w) X.A (storeName X.env x r) (fun _=>SP X pins D .next) X.xe s₃) X.xe s₂) X.xe s:=by
  refine thn (he pins s σ H _ I h) fun w s1 hq5=>?_
  obtain⟨y,H1,I1,r1,q1⟩:=hq5
  refine thn (ho pins s1 σ H1 v y u w _ I1 r r1 q1) fun z s2 hq6=>?_
  obtain⟨zv,H2,I2,r2,q2⟩:=hq6
  exact store_ok I2 hN hi hx r2 (fun s3 I3=>⟨_,H2,I3,q2⟩) hf
 rcases l with⟨hk,hm⟩ | ⟨hk,c,hc,hcell⟩
 ·exact wpAny_loadName_local I.ok.kind hk hn hm go
 ·rcases hk with hk | hk
  ·exact wpAny_loadName_cell I.ok.kind hk hc hcell go
  ·rcases hx with k | k
   ·have:X.env.scope.names.lookup x=some .free:=hk
    rw[k]at this;cases this
   ·have:X.env.scope.names.lookup x=some .free:=hk
    rw[k]at this;cases this
def tAugS (to ti te:TE)(tget:V->V->Hp->VK->Prop)(tip:TIp)(tset:TSet):TS:=fun D σ H=>to σ H fun o H1=>ti σ H1 fun i H2=>tget o i H2 fun x H3=>te σ H3 fun y H4=>tip x y H4 fun z H5=>tset o i z H5 fun H6=>D.nx σ H6
def PGet (X:Cx)(t:V->V->Hp->VK->Prop):Prop :=
 ∀(pins:List (Addr×Obj)) (s:Shared) (σ:St) (H:Hp) (o i:V) (ov iv:Value) (Q:VK),Inv X pins σ H s->RelV o ov->RelV i iv->t o i H Q ->
  wpAny (model X.prog X.w) X.A (getItem ov iv) (EP X pins σ Q) X.xe s
theorem ps_augS {o i e:Expr}{to ti te:TE}{tget:V->V->Hp->VK->Prop}{tip:TIp}{tset:TSet}{op:Operator}{tpos:Pos}(ho:PE X o to)(hi:PE X i ti)(hg:PGet X tget)(he:PE X e te)(hp:PIp X op tip)(hs:PSet X tset)
 (ha:∀ ov iv new,augStore i ov iv new=(do holding [new,ov,iv] (setItem ov iv new);release [new,ov,iv] [];pure .next):=by intros;rfl):PS X (.AugAssign (.Subscript o i tpos) op e pos) (tAugS to ti te tget tip tset):=by
 intro pins s σ H D I h
 refine wpAny_AugAssign_SubscriptAny (thn (ho pins s σ H _ I h) fun ov s1 hq0=>?_) ha
 obtain⟨x1,H1,I1,r1,q1⟩:=hq0
 refine thn (hi pins s1 σ H1 _ I1 q1) fun iv s2 hq1=>?_
 obtain⟨x2,H2,I2,r2,q2⟩:=hq1
 refine thn (hg pins s2 σ H2 x1 x2 ov iv _ I2 r1 r2 q2) fun old s3 hq2=>?_
 obtain⟨x3,H3,I3,r3,q3⟩:=hq2
 refine thn (he pins s3 σ H3 _ I3 q3) fun v s4 hq3=>?_
 obtain⟨x4,H4,I4,r4,q4⟩:=hq3
 refine thn (hp pins s4 σ H4 x3 x4 old v _ I4 r3 r4 q4) fun new s5 hq4=>?_
 obtain⟨x5,H5,I5,r5,q5⟩:=hq4
 exact thn (hs pins s5 σ H5 x1 x2 x5 ov iv new _ I5 r1 r2 r5 q5) fun _ s6 hq5=>by obtain⟨H6,I6,q6⟩:=hq5;exact⟨σ,H6,I6,q6⟩
def ipI (f:Int->Int->Int):TIp:=fun x y H Q=>∃ i j,x=.int i/\y=.int j/\Q (.int (f i j)) H
theorem ip_add:PIp X .Add (ipI fun i j=>i+j):=by
 intro pins s σ H x y v u Q I r1 r2 h
 obtain⟨i,j,e1,e2,q⟩:=h
 subst e1;subst e2
 obtain⟨t,rfl⟩:=r1
 obtain⟨t',rfl⟩:=r2
 exact iadd_int ⟨.int _,H,I.tok _,⟨_,rfl⟩,q⟩
theorem ip_sub:PIp X .Sub (ipI fun i j=>i - j):=by
 intro pins s σ H x y v u Q I r1 r2 h
 obtain⟨i,j,e1,e2,q⟩:=h
 subst e1;subst e2
 obtain⟨t,rfl⟩:=r1
 obtain⟨t',rfl⟩:=r2
 exact isub_int ⟨.int _,H,I.tok _,⟨_,rfl⟩,q⟩
end
section
variable {X:Cx}{pos:Pos}
def tWhile (c:TT)(tb:TS):TS:=fun D σ H=>∃ W:Nat->St->Hp->Prop,(∃ m,W m σ H)/\∀ m σ H,W m σ H ->
 c σ H fun b H1=>if b=true then ∃ N:St->Hp->Prop,(∀ σ' H',N σ' H'->∃ m',m'<m/\W m' σ' H')/\tb { D with nx:=N,ct:=N,bk:=D.nx} σ H1 else D.nx σ H1
theorem ps_while {c:Expr}{body:List Stmt}{tc:TT}{tb:TS}(hp:PassesOwn (model X.prog X.w) X.A X.env X.xe)(hc:PT X c tc)(hb:PSs X body tb):PS X (.While c body [] pos) (tWhile tc tb):=by
 intro pins s σ H D I h
 obtain⟨W,⟨m0,w0⟩,turn⟩:=h
 refine wpAny_While (codeAny_whileLoop (fun n s'=>∃ σ' H',Inv X pins σ' H' s'/\W n σ' H') ?_ m0 ⟨σ,H,I,w0⟩)
 rintro n s1 ⟨σ1,H1,I1,w1⟩
 refine cK hp (thn (hc pins s1 σ1 H1 _ I1 (turn n σ1 H1 w1)) fun b s2 hq6=>?_)
 obtain⟨H2,I2,q2⟩:=hq6
 cases b with
 | true =>
  obtain⟨N,hN,q2⟩:=q2
  rw[au rfl]
  refine cK hp (thn (hb pins s2 σ1 H2 _ I2 q2) fun f s3 q3=>?_)
  cases f with
  | next =>
   obtain⟨σ3,H3,I3,n3⟩:=q3
   obtain⟨m',hm,w3⟩:=hN σ3 H3 n3
   exact⟨m',hm,σ3,H3,I3,w3⟩
  | cont =>
   obtain⟨σ3,H3,I3,n3⟩:=q3
   obtain⟨m',hm,w3⟩:=hN σ3 H3 n3
   exact⟨m',hm,σ3,H3,I3,w3⟩
  | brk=>exact q3
  | ret v=>exact q3
 | false =>
  rw[aq av]
  exact wpAny_execs_nil ⟨σ1,H2,I2,q2⟩
end
structure It where
 go:Nat->Hp->Prop
 yld:Nat->Hp->V->Hp->Prop
 stop:Nat->Hp->Prop
def FpOk (X:Cx)(pins:List (Addr×Obj))(H:Hp)(b:Addr):Prop :=
 H b=none/\b≠X.env.locals/\b∉X.fs/\(b∈X.ex\/X.s₀.heap.objs.size<=b)/\(∀ x c,X.env.cells.lookup x=some c->c≠b)/\∀ p∈X.pn++pins,p.1≠b
theorem Inv.fpOk {X:Cx}{pins:List (Addr×Obj)}{σ:St}{H H':Hp}{s:Shared}{b:Addr}(I:Inv X pins σ H s)(hb:s.heap.objs.size<=b)(hn:H' b=none):FpOk X pins H' b:=by
 refine⟨hn,aU (aC I.lt hb),I.nofs hb,.inr (aL I.sz hb),fun x c e z=>?_,fun p hp z=>?_⟩
 ·obtain⟨v,q⟩:=I.cell x c e
  exact absurd (aC q.lt (by rw[z];exact hb)) (bQ _)
 ·exact absurd (aC (gxN (I.pin p hp).1) (by rw[z];exact hb)) (bQ _)
structure Turn (P:Program)(w:World)(K:PySem.W.Frag)(tg:Expr)(J:It)(fp:List Addr)(it:Addr)(tn:Nat->Heap->Prop)(CM:Cx->Prop:=fun X=>X.calm=true):Prop where
 mem:it∈fp
 obj:∀ i h,tn i h->∀ b∈fp,∃ o,h.get? b=some o/\∀ v,o.data≠.cell v
 keep:∀ i h h',tn i h->(∀ b∈fp,∀ o,h.get? b=some o->h'.get? b=some o)->tn i h'
 item:∀(X:Cx),X.prog=P->X.w=w->X.K=K->CM X->∀(i:Nat) (pins:List (Addr×Obj)) (s:Shared) (σ:St) (H:Hp) (E:Value->Shared->Prop),Inv X pins σ H s->(∀ b∈fp,FpOk X pins H b)->tn i s.heap->J.go i H ->
  wpAny (model P w) X.A (pyNext (.ref it)) (fun r s1=>∃ u,r=some u /\
   wpAny (model P w) X.A (letOwnedTupleGo tg (.ref it) u) (fun _ s2=>∃ x H',Inv X pins σ H' s2/\RelV x u/\J.yld i H x H'/\tn (i+1) s2.heap/\∀ b∈fp,H' b=none) E s1) E s
 done:∀(X:Cx),X.prog=P->X.w=w->X.K=K->CM X->∀(i:Nat) (pins:List (Addr×Obj)) (s:Shared) (σ:St) (H:Hp) (E:Value->Shared->Prop),Inv X pins σ H s->(∀ b∈fp,FpOk X pins H b)->tn i s.heap->J.stop i H ->
  wpAny (model P w) X.A (pyNext (.ref it)) (fun r s1=>r=none/\Inv X pins σ H s1) E s
 self:∀(A:Around) (i:Nat) (s:Shared) (Q:Value->Shared->Prop) (E:Value->Shared->Prop),tn i s.heap->Q (.ref it) s->wpAny (model P w) A (pyIter (.ref it)) Q E s
abbrev TI:=St->Hp->(It->Hp->Prop)->Prop
def PIE (X:Cx)(pins:List (Addr×Obj))(σ:St)(tg:Expr)(R:It->Hp->Prop)(itv:Value)(s2:Shared):Prop :=
 ∃(it:Addr) (fp:List Addr) (tn:Nat->Heap->Prop) (J:It) (H':Hp),itv=.ref it/\Inv X pins σ H' s2/\Turn X.prog X.w X.K tg J fp it tn/\tn 0 s2.heap/\(∀ b∈fp,FpOk X pins H' b)/\R J H'
def PI (X:Cx)(tg iter:Expr)(wi:TI):Prop :=
 ∀(pins:List (Addr×Obj)) (s:Shared) (σ:St) (H:Hp) (R:It->Hp->Prop),Inv X pins σ H s->wi σ H R ->
  wpAny (model X.prog X.w) X.A (eval iter X.env) (fun v s1=>wpAny (model X.prog X.w) X.A (pyIter v) (PIE X pins σ tg R) X.xe s1) X.xe s
theorem go_of {M:Model}{A:Around}{E:Value->Shared->Prop}{s:Shared}{tg:Expr}{it:Addr}{u:Value}{o:Obj}{n:String}{vs:Array Value}{Q:Unit->Shared->Prop}(ho:s.heap.get? it=some o)(hc:o.cls=.type n)(hd:o.data=.fields vs)
 (hn:["enumerate", "zip", "dict_itemiterator", "dict_reverseitemiterator", "odict_iterator", "itertools.zip_longest", "itertools.pairwise"].contains n=false) (hQ:Q () s):wpAny M A (letOwnedTupleGo tg (.ref it) u) Q E s:=by
 unfold letOwnedTupleGo
 cases tg <;> first
  | exact aa hQ
  | (cases u <;> first
      | exact aa hQ
      | (refine e9 (wpAny_load ho ?_)
         rw[hc,hd]
         show wpAny M A (if(["enumerate", "zip", "dict_itemiterator", "dict_reverseitemiterator", "odict_iterator", "itertools.zip_longest", "itertools.pairwise"].contains n&&vs[0]?==some (rawInt _))=true then _ else _) Q E s
         rw[aq (by intro h;rw[hn,Bool.false_and]at h;cases h)]
         exact aa hQ))
def Itl (K:PySem.W.Frag)(a:Addr):It :=
 ⟨fun i H=>∃ xs x,SqL K H a xs/\xs[i]?=some x,fun i H x H'=>H'=H/\∀ xs,SqL K H a xs->xs[i]?=some x,fun i H=>∃ xs,SqL K H a xs/\xs.length<=i⟩
def Itr (lo:Int)(n:Nat):It:=⟨fun i _=>i<n,fun i H x H'=>H'=H/\x=.int (lo+i),fun i _=>n<=i⟩
theorem turn_list {P:Program}{w:World}{K:PySem.W.Frag}{tg:Expr}(a it:Addr):Turn P w K tg (Itl K a) [it] it (fun i h=>h.IsListIter it a i) where
 mem:=by simp
 obj:=fun i h st b hb=>by
  have e:b=it:=by simpa using hb
  subst e
  obtain⟨o,e,c,d⟩:=st
  exact⟨o,e,fun v z=>by rw[d]at z;cases z⟩
 keep:=fun i h h' st k=>st.at fun o e=>k it (by simp) o e
 item:=by
  intro X hP hw hK hc i pins s σ H E I hf st hg
  subst hP hw hK
  obtain⟨xs,x,hq,hx⟩:=hg
  obtain⟨fw,rv,p,hz⟩:=I.list hq
  obtain⟨u,hu,ru⟩:=rv.get hx
  obtain⟨f0,f1,f2,f3,f4,f5⟩:=hf it (by simp)
  refine wpAny_pyNext_list_item st p.isList (x:=u) (by simpa using hu) fun h' st' sb=>?_
  have I1:Inv X pins σ H { s with heap:=h'}:=I.turned (t':=s.toks) (fun b o hb e=>(sb.2 b hb).trans e) f0 f1 f3 f4 f5
  obtain⟨o,e,c,d⟩:=id st'
  exact⟨u,rfl,go_of (s:={ s with heap:=h'}) e c d (by decide) ⟨x,H,I1,ru,⟨rfl,fun ys hy=>by rw[I.list_inj hy hq];exact hx⟩,st',fun b hb=>(hf b hb).1⟩⟩
 done:=by
  intro X hP hw hK hc i pins s σ H E I hf st hg
  subst hP hw hK
  obtain⟨xs,hq,hx⟩:=hg
  obtain⟨fw,rv,p,hz⟩:=I.list hq
  obtain⟨f0,f1,f2,f3,f4,f5⟩:=hf it (by simp)
  have hl:=rv.length
  exact wpAny_pyNext_list_end (I.ok.hd hc) st p.isList (by simp;omega) fun h' eb=>⟨rfl,I.turned (t':=s.toks) (fun b o hb e=>eb b o hb e) f0 f1 f3 f4 f5⟩
 self:=fun _ _ _ _ _ st h=>wpAny_pyIter_listiter st h
theorem turn_range {P:Program}{w:World}{K:PySem.W.Frag}{tg:Expr}(it:Addr)(lo:Int)(n:Nat):Turn P w K tg (Itr lo n) [it] it (fun i h=>IsRangeIter h it (lo+(i:Nat)*1) ((n:Int) - (i:Nat)) 1) where
 mem:=by simp
 obj:=fun i h st b hb=>by
  have e:b=it:=by simpa using hb
  subst e
  exact⟨_,st,fun v z=>by
   have z':Data.fields _=Data.cell v:=z
   cases z'⟩
 keep:=fun i h h' st k=>k it (by simp) _ st
 item:=by
  intro X hP hw hK hc i pins s σ H E I hf st hg
  subst hP hw hK
  obtain⟨f0,f1,f2,f3,f4,f5⟩:=hf it (by simp)
  have W:=Walks.range (prog:=X.prog) (w:=X.w) (I.ok.hd hc) it lo 1 n
  refine W.item i s _ _ hg st fun v h' tk hv st' kk=>?_
  obtain⟨t,rfl⟩:=hv
  have I1:Inv X pins σ H { s with heap:=h',toks:=tk}:=I.turned (fun b o hb e=>kk b o (by simpa using hb) e) f0 f1 f3 f4 f5
  refine⟨_,rfl,go_of (s:={ s with heap:=h',toks:=tk}) (n := "range_iterator") st' rfl rfl (by decide) ⟨.int (lo+i),H,I1,⟨t,?_⟩,⟨rfl,rfl⟩,st',fun b hb=>(hf b hb).1⟩⟩
  rw[Int.mul_one]
 done:=by
  intro X hP hw hK hc i pins s σ H E I hf st hg
  subst hP hw hK
  obtain⟨f0,f1,f2,f3,f4,f5⟩:=hf it (by simp)
  exact wpAny_pyNext_range_end (I.ok.hd hc) st (by have:n<=i:=hg;omega) fun h' eb=>⟨rfl,I.turned (t':=s.toks) (fun b o hb e=>eb b o hb e) f0 f1 f3 f4 f5⟩
 self:=fun _ _ _ _ _ st h=>wpAny_pyIter_rangeiter st h
section
variable {X:Cx}{tg:Expr}
def iList (K:PySem.W.Frag)(tl:TE):TI:=fun σ H R=>tl σ H fun x H1=>∃ a,x=.ref a/\(∃ xs,SqL K H1 a xs)/\R (Itl K a) H1
theorem pi_list {l:Expr}{tl:TE}(hl:PE X l tl):PI X tg l (iList X.K tl):=by
 intro pins s σ H R I h
 refine thn (hl pins s σ H _ I h) fun v s1 hq0=>?_
 obtain⟨x,H1,I1,r1,q1⟩:=hq0
 obtain⟨a,e,⟨xs,hq⟩,q⟩:=q1
 subst e
 cases r1
 obtain⟨fw,rv,p,hz⟩:=I1.list hq
 refine c4 p.isList ?_
 refine⟨s1.heap.objs.size,[s1.heap.objs.size],_,_,H1,rfl,I1.kept (t':=s1.toks) fun b o e=>gxL _ e,turn_list a _,⟨_,ak _ rfl,rfl,rfl⟩,fun b hb=>?_,q⟩
 have e:b=s1.heap.objs.size:=by simpa using hb
 subst e
 exact I1.fpOk (ae _) (I1.hok.fresh (ae _))
theorem range_it {pins:List (Addr×Obj)}{σ:St}{H:Hp}{s:Shared}{R:It->Hp->Prop}{E:Value->Shared->Prop}{lo hi:Int}{t u v:Tok}{tk:Nat}(I:Inv X pins σ H s)(h1:-(2 ^ 62)<=lo)(h2:lo<2 ^ 62)(h3:-(2 ^ 62)<=hi)(h4:hi<2 ^ 62)
 (q:R (Itr lo (hi - lo).toNat) H):wpAny (model X.prog X.w) X.A (pyIter (.ref s.heap.objs.size)) (PIE X pins σ tg R) E { s with heap:=s.heap.push { cls:=.type "range",data:=.fields #[.int lo t,.int hi u,.int 1 v]},toks:=tk}:=by
 refine wpAny_pyIter_range (IsRange.new ..) (small_one h1 h2 h3 h4) ?_
 have I1:Inv X pins σ H { s with heap:=s.heap.push { cls:=.type "range",data:=.fields #[.int lo t,.int hi u,.int 1 v]},toks:=tk}:=I.kept fun b o e=>gxL _ e
 refine⟨(s.heap.push { cls:=.type "range",data:=.fields #[.int lo t,.int hi u,.int 1 v]}).objs.size,[(s.heap.push { cls:=.type "range",data:=.fields #[.int lo t,.int hi u,.int 1 v]}).objs.size],_,_,H,rfl,
  I1.kept (t':=tk) fun b o e=>gxL _ e,turn_range _ lo (hi - lo).toNat,?_,fun b hb=>?_,q⟩
 ·have e1:lo+((0:Nat):Int)*1=lo:=by simp
  have e2:(((hi - lo).toNat:Nat):Int) - ((0:Nat):Int)=Builtin.Range.rangeSize lo hi 1:=by rw[rangeSize_one];split <;> omega
  show IsRangeIter _ _ (lo+((0:Nat):Int)*1) ((((hi - lo).toNat:Nat):Int) - ((0:Nat):Int)) 1
  rw[e1,e2]
  exact ak _ rfl
 ·have e:b=(s.heap.push { cls:=.type "range",data:=.fields #[.int lo t,.int hi u,.int 1 v]}).objs.size:=by simpa using hb
  subst e
  exact I1.fpOk (ae _) (I1.hok.fresh (ae _))
def iRng1 (ta:TA):TI:=fun σ H R=>ta σ H fun vs H1=>∃ j:Int,vs=[.int j] /\ -(2 ^ 62)<=j/\j<2 ^ 62/\R (Itr 0 j.toNat) H1
def iRng2 (ta:TA):TI:=fun σ H R=>ta σ H fun vs H1=>∃ i j:Int,vs=[.int i,.int j]/\(-(2 ^ 62)<=i/\i<2 ^ 62 /\ -(2 ^ 62)<=j/\j<2 ^ 62)/\R (Itr i (j - i).toNat) H1
theorem pi_range1 {a:Expr}{ta:TA}{p pos:Pos}(hg:Gl X "range")(hm:X.mg "range"=none)(ha:PA X [a] ta)(hs:starEach [a] X.env=[(false,eval a X.env)]:=by rfl):PI X tg (.Call (.Name "range" p) [a] [] pos) (iRng1 ta):=by
 intro pins s σ H R I h
 refine Call_ (ld_blt I hg hm boot_range (bg (thn (ha pos pins s σ H _ I h) fun us s1 hq1=>?_) hs rfl))
 obtain⟨vs,H1,I1,r1,q1⟩:=hq1
 obtain⟨j,e,q1,q2,q⟩:=q1
 subst e
 cases r1 with
 | cons r rr =>
  cases rr
  obtain⟨t,rfl⟩:=r
  exact call_range_1 (range_it I1 (by omega) (by omega) q1 q2 (by simpa using q))
theorem pi_range2 {a b:Expr}{ta:TA}{p pos:Pos}(hg:Gl X "range")(hm:X.mg "range"=none)(ha:PA X [a,b] ta)(hs:starEach [a,b] X.env=[(false,eval a X.env),(false,eval b X.env)]:=by rfl)(hs2:starEach [b] X.env=[(false,eval b X.env)]:=by rfl) :
 PI X tg (.Call (.Name "range" p) [a,b] [] pos) (iRng2 ta):=by
 intro pins s σ H R I h
 refine Call_ (ld_blt I hg hm boot_range (bg (thn (ha pos pins s σ H _ I h) fun us s1 hq2=>?_) (by rw[hs,hs2]) (by rw[hs2];rfl)))
 obtain⟨vs,H1,I1,r1,q1⟩:=hq2
 obtain⟨i,j,e,⟨q1,q2,q3,q4⟩,q⟩:=q1
 subst e
 cases r1 with
 | cons r rr =>
  cases rr with
  | cons r' rr =>
   cases rr
   obtain⟨t,rfl⟩:=r
   obtain⟨t',rfl⟩:=r'
   exact call_range_2 (range_it I1 q1 q2 q3 q4 q)
def tFor (wi:TI)(g:TG)(tb:TS):TS:=fun D σ H=>wi σ H fun J H1=>∃ W:Nat->Nat->St->Hp->Prop,(∃ m,W 0 m σ H1)/\∀ i m σ H,W i m σ H ->
 (J.stop i H/\D.nx σ H)\/(J.go i H/\∃ N:St->Hp->Prop,(∀ σ' H',N σ' H'->∃ m',m'<m/\W (i+1) m' σ' H')/\∀ x H',J.yld i H x H'->g x σ H' fun σ2 H2=>tb { D with nx:=N,ct:=N,bk:=D.nx} σ2 H2)
def pinsAt (fp:List Addr)(h:Heap):List (Addr×Obj):=fp.filterMap fun b=>(h.get? b).map fun o=>(b,o)
theorem mem_pinsAt {fp:List Addr}{h:Heap}{b:Addr}{o:Obj}(hb:b∈fp)(e:h.get? b=some o):(b,o)∈pinsAt fp h:=List.mem_filterMap.mpr ⟨b,hb,by rw[e];rfl⟩
theorem of_pinsAt {fp:List Addr}{h:Heap}{p:Addr×Obj}(hp:p∈pinsAt fp h):p.1∈fp/\h.get? p.1=some p.2:=by
 obtain⟨b,hb,e⟩:=List.mem_filterMap.mp hp
 cases q:h.get? b with
 | none=>rw[q]at e;cases e
 | some o =>
  rw[q]at e
  have e':(b,o)=p:=aB e
  subst e'
  exact⟨hb,q⟩
theorem Inv.pinned {pins:List (Addr×Obj)}{σ:St}{H:Hp}{s:Shared}{fp:List Addr}(I:Inv X pins σ H s)(hf:∀ b∈fp,FpOk X pins H b)(ho:∀ b∈fp,∃ o,s.heap.get? b=some o/\∀ v,o.data≠.cell v):Inv X (pins++pinsAt fp s.heap) σ H s :=
 I.pins_of fun p hp=>(List.mem_append.mp hp).elim (fun z=>I.pin p (aF _ z)) fun z=>by
  obtain⟨hb,e⟩:=of_pinsAt z
  obtain⟨f0,f1,f2,_⟩:=hf p.1 hb
  obtain⟨o,e',d⟩:=ho p.1 hb
  rw[e]at e';cases e'
  exact⟨e,f0,f1,f2,d⟩
theorem Inv.unpinned {pins pl:List (Addr×Obj)}{σ:St}{H:Hp}{s:Shared}(I:Inv X (pins++pl) σ H s):Inv X pins σ H s:=I.pins_of fun p hp=>I.pin p (aF _ (c6 _ hp))
theorem ps_for {iter:Expr}{body:List Stmt}{wi:TI}{g:TG}{tb:TS}{pos:Pos}(hp:PassesOwn (model X.prog X.w) X.A X.env X.xe)(hc:X.calm=true)(hi:PI X tg iter wi)(hg:PG X tg g)(hb:PSs X body tb)
 (hs:∀ x,foldedSetIterable iter X.env x=pure x:=by intro _;rfl):PS X (.For tg iter body [] pos) (tFor wi g tb):=by
 intro pins s σ H D I h
 refine wpAny_For (thn (hi pins s σ H _ I h) fun v s1 h1=>thn h1 fun itv s2 h2=>?_) hs
 obtain⟨it,fp,tn,J,H2,e,I2,T,st2,f2,W,⟨m0,w0⟩,turn⟩:=h2
 subst e
 have stat:∀ {H':Hp},(∀ b∈fp,H' b=none)->∀ b∈fp,FpOk X pins H' b:=fun hn b hb=>⟨hn b hb,(f2 b hb).2⟩
 refine codeAny_forLoop_any (fun n s'=>∃ i σ' H',Inv X pins σ' H' s'/\tn i s'.heap/\(∀ b∈fp,H' b=none)/\W i n σ' H') ?_ m0 ⟨0,σ,H2,I2,st2,fun b hb=>(f2 b hb).1,w0⟩
 rintro n s3 ⟨i,σ3,H3,I3,st3,fr3,w3⟩
 rcases turn i n σ3 H3 w3 with⟨stop,qn⟩ | ⟨go,N,hN,step⟩
 ·refine cK hp (thn (T.done X rfl rfl rfl hc i pins s3 σ3 H3 X.xe I3 (stat fr3) st3 stop) fun r s4 hq3=>?_)
  obtain⟨hr,I4⟩:=hq3
  subst hr
  exact wpAny_execs_nil ⟨σ3,H3,I4,qn⟩
 ·refine cK hp (thn (T.item X rfl rfl rfl hc i pins s3 σ3 H3 X.xe I3 (stat fr3) st3 go) fun r s4 hq4=>?_)
  obtain⟨u,hr,h4⟩:=hq4
  subst hr
  refine cK hp (thn h4 fun _ s5 hq5=>?_)
  obtain⟨x,H5,I5,r5,y5,st5,fr5⟩:=hq5
  have I5':=I5.pinned (stat fr5) (T.obj _ _ st5)
  refine cK hp (thn (hg _ s5 σ3 H5 x u _ I5' r5 (step x H5 y5)) fun _ s6 hq6=>?_)
  obtain⟨σ6,H6,I6,q6⟩:=hq6
  refine cK hp (thn (hb _ s6 σ6 H6 _ I6 q6) fun f s7 q7=>?_)
  have again:∀ {σ7:St} {H7:Hp},Inv X (pins++pinsAt fp s5.heap) σ7 H7 s7->N σ7 H7->∃ m,m<n/\∃ i σ' H',Inv X pins σ' H' s7/\tn i s7.heap/\(∀ b∈fp,H' b=none)/\W i m σ' H':=fun {σ7 H7} I7 n7=>by
   obtain⟨m',hm,w7⟩:=hN σ7 H7 n7
   refine⟨m',hm,i+1,σ7,H7,I7.unpinned,T.keep _ _ _ st5 fun b hb o e=>(I7.pin (b,o) (aF _ (aF _ (mem_pinsAt hb e)))).1,fun b hb=>?_,w7⟩
   obtain⟨o,e,d⟩:=T.obj _ _ st5 b hb
   exact(I7.pin (b,o) (aF _ (aF _ (mem_pinsAt hb e)))).2.1
  cases f with
  | next=>obtain⟨σ7,H7,I7,n7⟩:=q7;exact again I7 n7
  | cont=>obtain⟨σ7,H7,I7,n7⟩:=q7;exact again I7 n7
  | brk=>obtain⟨σ7,H7,I7,q7⟩:=q7;exact⟨σ7,H7,I7.unpinned,q7⟩
  | ret v=>obtain⟨x7,σ7,H7,I7,r7,q7⟩:=q7;exact⟨x7,σ7,H7,I7.unpinned,r7,q7⟩
end
abbrev R2:=V->V->Hp->VK->Prop
def OpR (X:Cx)(f:Value->Value->Sem Value)(r:R2):Prop :=
 ∀(pins:List (Addr×Obj)) (s:Shared) (σ:St) (H:Hp) (x y:V) (v u:Value) (Q:VK),Inv X pins σ H s->RelV x v->RelV y u->r x y H Q ->
  wpAny (model X.prog X.w) X.A (f v u) (EP X pins σ Q) X.xe s
def UnR (X:Cx)(f:Value->Sem Value)(r:V->Hp->VK->Prop):Prop :=
 ∀(pins:List (Addr×Obj)) (s:Shared) (σ:St) (H:Hp) (x:V) (v:Value) (Q:VK),Inv X pins σ H s->RelV x v->r x H Q ->
  wpAny (model X.prog X.w) X.A (f v) (EP X pins σ Q) X.xe s
def CallR (X:Cx)(f:Value)(r:List V->Hp->VK->Prop):Prop :=
 ∀(pins:List (Addr×Obj)) (s:Shared) (σ:St) (H:Hp) (xs:List V) (us:List Value) (Q:VK),Inv X pins σ H s->Vals xs us->r xs H Q ->
  wpAny (model X.prog X.w) X.A (call f us) (EP X pins σ Q) X.xe s
def tOp (r:R2)(ta tb:TE):TE:=fun σ H Q=>ta σ H fun x H1=>tb σ H1 fun y H2=>r x y H2 Q
def tUn (r:V->Hp->VK->Prop)(ta:TE):TE:=fun σ H Q=>ta σ H fun x H1=>r x H1 Q
def rI (C:Int->Int->Prop)(g:Int->Int->V):R2:=fun x y H Q=>∃ i j,x=.int i/\y=.int j/\C i j/\Q (g i j) H
def rI0 (g:Int->Int->V):R2:=fun x y H Q=>∃ i j,x=.int i/\y=.int j/\Q (g i j) H
def rU (g:Int->V):V->Hp->VK->Prop:=fun x H Q=>∃ i,x=.int i/\Q (g i) H
section
variable {X:Cx}{a b c:Expr}{ta tb tc:TE}{pos:Pos}
theorem binT (ha:PE X a ta)(hb:PE X b tb){pins:List (Addr×Obj)}{s:Shared}{σ:St}{H:Hp}{R:V->V->Hp->Prop}(I:Inv X pins σ H s)
 (h:ta σ H fun x H1=>tb σ H1 fun y H2=>R x y H2) {Q:Value->Shared->Prop} {f:Value->Value->Sem Value}
 (hf:∀ v u s2 x y H2,Inv X pins σ H2 s2->RelV x v->RelV y u->R x y H2->wpAny (model X.prog X.w) X.A (f v u) Q X.xe s2) :
 wpAny (model X.prog X.w) X.A (eval a X.env) (fun v s₁=>wpAny (model X.prog X.w) X.A (eval b X.env) (fun u s₂=>wpAny (model X.prog X.w) X.A (f v u) Q X.xe s₂) X.xe s₁) X.xe s:=by
 refine thn (ha pins s σ H _ I h) fun v s1 hq0=>?_
 obtain⟨x,H1,I1,r1,q1⟩:=hq0
 refine thn (hb pins s1 σ H1 _ I1 q1) fun u s2 hq1=>?_
 obtain⟨y,H2,I2,r2,q2⟩:=hq1
 exact hf v u s2 x y H2 I2 r1 r2 q2
theorem pe_op {op:Operator}{r:R2}(ho:OpR X (binaryOp op) r)(ha:PE X a ta)(hb:PE X b tb):PE X (.BinOp a op b pos) (tOp r ta tb):=by
 intro pins s σ H Q I h
 exact wpAny_BinOp (binT ha hb I h fun v u s2 x y H2 I2 rx ry q=>ho pins s2 σ H2 x y v u Q I2 rx ry q)
theorem pe_un {op:UnaryOp}{r:V->Hp->VK->Prop}(ho:UnR X (unaryOp op) r)(ha:PE X a ta):PE X (.UnaryOp op a pos) (tUn r ta):=by
 intro pins s σ H Q I h
 exact UnaryOp_ (thn (ha pins s σ H _ I h) fun v s1 hq2=>by obtain⟨x,H1,I1,r1,q1⟩:=hq2;exact ho pins s1 σ H1 x v Q I1 r1 q1)
theorem opI {f:Value->Value->Sem Value}{C:Int->Int->Prop}{g:Int->Int->Int}
 (rule:∀(i j:Int) (t u:Tok) (s:Shared) (Q:Value->Shared->Prop) (E:Value->Shared->Prop),C i j->Q (.int (g i j) s.toks) { s with toks:=s.toks+1}->wpAny (model X.prog X.w) X.A (f (.int i t) (.int j u)) Q E s) :
 OpR X f (rI C fun i j=>.int (g i j)):=by
 intro pins s σ H x y v u Q I rx ry h
 obtain⟨i,j,rfl,rfl,hc,q⟩:=h
 obtain⟨t,rfl⟩:=rx
 obtain⟨t',rfl⟩:=ry
 exact rule i j t t' s _ _ hc ⟨.int (g i j),H,I.tok _,⟨_,rfl⟩,q⟩
theorem opI0 {f:Value->Value->Sem Value}{g:Int->Int->Int}
 (rule:∀(i j:Int) (t u:Tok) (s:Shared) (Q:Value->Shared->Prop) (E:Value->Shared->Prop),Q (.int (g i j) s.toks) { s with toks:=s.toks+1}->wpAny (model X.prog X.w) X.A (f (.int i t) (.int j u)) Q E s) :
 OpR X f (rI0 fun i j=>.int (g i j)):=by
 intro pins s σ H x y v u Q I rx ry h
 obtain⟨i,j,rfl,rfl,q⟩:=h
 obtain⟨t,rfl⟩:=rx
 obtain⟨t',rfl⟩:=ry
 exact rule i j t t' s _ _ ⟨.int (g i j),H,I.tok _,⟨_,rfl⟩,q⟩
theorem opB0 {f:Value->Value->Sem Value}{g:Int->Int->Bool}
 (rule:∀(i j:Int) (t u:Tok) (s:Shared) (Q:Value->Shared->Prop) (E:Value->Shared->Prop),Q (.bool (g i j)) s->wpAny (model X.prog X.w) X.A (f (.int i t) (.int j u)) Q E s) :
 OpR X f (rI0 fun i j=>.bl (g i j)):=by
 intro pins s σ H x y v u Q I rx ry h
 obtain⟨i,j,rfl,rfl,q⟩:=h
 obtain⟨t,rfl⟩:=rx
 obtain⟨t',rfl⟩:=ry
 exact rule i j t t' s _ _ ⟨.bl (g i j),H,I,rfl,q⟩
def CDiv (i j:Int):Prop:=0<j/\j<1073741824
def CPow (i j:Int):Prop:=0<=j/\j<=1000000/\i.natAbs<2 ^ 64
def CMul (i j:Int):Prop:=(-(2 ^ 64)<i/\i<2 ^ 64)\/(-(2 ^ 64)<j/\j<2 ^ 64)
theorem CMul.ok {i j:Int}(h:CMul i j):IntMulOk i j:=by
 rcases h with⟨h1,h2⟩ | ⟨h1,h2⟩
 ·exact .of_left (intBits_le_64 h1 h2)
 ·exact .of_right (intBits_le_64 h1 h2)
theorem op_add:OpR X (binaryOp .Add) (rI0 fun i j=>.int (i+j)):=opI0 fun _ _ _ _ _ _ _ q=>add_int q
theorem op_sub:OpR X (binaryOp .Sub) (rI0 fun i j=>.int (i - j)):=opI0 fun _ _ _ _ _ _ _ q=>sub_int q
theorem op_mul:OpR X (binaryOp .Mult) (rI CMul fun i j=>.int (i*j)):=opI fun _ _ _ _ _ _ _ hc q=>mul_int q hc.ok
theorem op_fdiv:OpR X (binaryOp .FloorDiv) (rI CDiv fun i j=>.int (i / j)):=opI fun i j _ _ _ _ _ hc q=>by
 have h1:(0:Int)<j:=hc.1
 have h2:j<1073741824:=hc.2
 exact floordiv_int (by omega) (by rw[Int.fdiv_eq_ediv_of_nonneg i (by omega)];exact q) (.inl (PyProof.noPylong_small (by omega)))
theorem op_mod:OpR X (binaryOp .Mod) (rI (fun _ j=>0<j) fun i j=>.int (i%j)):=opI fun i j _ _ _ _ _ hc q=>by
 have h1:(0:Int)<j:=hc
 exact mod_int' (by omega) (by rw[Int.fmod_eq_emod_of_nonneg i (by omega)];exact q)
theorem op_pow:OpR X (binaryOp .Pow) (rI CPow fun i j=>.int (i ^ j.toNat)):=opI fun _ _ _ _ _ _ _ hc q=>pow_int_small hc.1 hc.2.1 hc.2.2 q
theorem unI {f:Value->Sem Value}{g:Int->Int}
 (rule:∀(i:Int) (t:Tok) (s:Shared) (Q:Value->Shared->Prop) (E:Value->Shared->Prop),Q (.int (g i) s.toks) { s with toks:=s.toks+1}->wpAny (model X.prog X.w) X.A (f (.int i t)) Q E s) :
 UnR X f (rU fun i=>.int (g i)):=by
 intro pins s σ H x v Q I rx h
 obtain⟨i,rfl,q⟩:=h
 obtain⟨t,rfl⟩:=rx
 exact rule i t s _ _ ⟨.int (g i),H,I.tok _,⟨_,rfl⟩,q⟩
theorem un_neg:UnR X (unaryOp .USub) (rU fun i=>.int (-i)):=unI fun _ _ _ _ _ q=>neg_int q
end
def scal:V->V->Bool
 | .non,.non=>true | .non,.int _=>true | .int _,.non=>true | .non,.bl _=>true | .bl _,.non=>true | .non,.str _=>true | .str _,.non=>true
 | .int _,.int _=>true | .bl _,.bl _=>true | .str _,.str _=>true | .byt _,.byt _=>true
 | .int _,.str _=>true | .str _,.int _=>true | .bl _,.str _=>true | .str _,.bl _=>true
 | _,_=>false
def rEq:R2:=fun x y H Q=>scal x y=true/\Q (.bl (decide (x=y))) H
def rNe:R2:=fun x y H Q=>scal x y=true/\Q (.bl (!decide (x=y))) H
theorem dec_int {i j:Int}:decide (V.int i=V.int j)=(i==j):=by
 rw[dr]
 simp
theorem dec_bl {i j:Bool}:decide (V.bl i=V.bl j)=(i==j):=by
 rw[dr]
 simp
theorem dec_str {i j:Str}:decide (V.str i=V.str j)=(i==j):=by
 rw[dr]
 simp
theorem dec_byt {i j:Array UInt8}:decide (V.byt i=V.byt j)=(i.toList==j.toList):=by
 rw[dr]
 cases i
 cases j
 simp
section
variable {X:Cx}{a b c:Expr}{ta tb tc:TE}{pos:Pos}
theorem fin_bl {pins:List (Addr×Obj)}{σ:St}{H:Hp}{s:Shared}{Q:VK}{k k':Bool}(I:Inv X pins σ H s)(q:Q (.bl k) H)(e:k=k'):EP X pins σ Q (.bool k') s:=by
 subst e
 exact⟨.bl k,H,I,rfl,q⟩
theorem op_eq:OpR X (compareOp .Eq) rEq:=by
 intro pins s σ H x y v u Q I rx ry h
 obtain⟨hs,q⟩:=h
 cases x with
 | non =>
  cases rx
  cases y with
  | non=>cases ry;exact PySem.EqNone.eq_none_none (fin_bl I q (by simp))
  | bl j=>cases ry;exact PySem.EqNone.eq_none_bool (fin_bl I q (by simp))
  | int j=>obtain⟨t',rfl⟩:=ry;exact PySem.EqNone.eq_none_int (fin_bl I q (by simp))
  | str j=>obtain⟨t',rfl⟩:=ry;exact PySem.EqNone.eq_none_str (fin_bl I q (by simp))
  | _=>exact absurd (show false=true from hs) av
 | bl i =>
  cases rx
  cases y with
  | non=>cases ry;exact PySem.EqNone.eq_bool_none (fin_bl I q (by simp))
  | bl j=>cases ry;exact eq_bool (fin_bl I q dec_bl)
  | str j=>obtain⟨t',rfl⟩:=ry;exact PySem.EqMixed.eq_bool_str (fin_bl I q (by simp))
  | _=>exact absurd (show false=true from hs) av
 | int i =>
  obtain⟨t,rfl⟩:=rx
  cases y with
  | non=>cases ry;exact PySem.EqNone.eq_int_none (fin_bl I q (by simp))
  | int j=>obtain⟨t',rfl⟩:=ry;exact eq_int (fin_bl I q dec_int)
  | str j=>obtain⟨t',rfl⟩:=ry;exact PySem.EqMixed.eq_int_str (fin_bl I q (by simp))
  | _=>exact absurd (show false=true from hs) av
 | str i =>
  obtain⟨t,rfl⟩:=rx
  cases y with
  | non=>cases ry;exact PySem.EqNone.eq_str_none (fin_bl I q (by simp))
  | bl j=>cases ry;exact PySem.EqMixed.eq_str_bool (fin_bl I q (by simp))
  | int j=>obtain⟨t',rfl⟩:=ry;exact PySem.EqMixed.eq_str_int (fin_bl I q (by simp))
  | str j=>obtain⟨t',rfl⟩:=ry;exact eq_str (fin_bl I q dec_str)
  | _=>exact absurd (show false=true from hs) av
 | byt i =>
  obtain⟨t,rfl⟩:=rx
  cases y with
  | byt j=>obtain⟨t',rfl⟩:=ry;exact PySem.W.eq_bytes (fin_bl I q dec_byt)
  | _=>exact absurd (show false=true from hs) av
 | _=>cases y <;> exact absurd (show false=true from hs) av
theorem op_ne:OpR X (compareOp .NotEq) rNe:=by
 intro pins s σ H x y v u Q I rx ry h
 obtain⟨hs,q⟩:=h
 cases x with
 | non =>
  cases rx
  cases y with
  | non=>cases ry;exact PySem.EqNone.ne_none_none (fin_bl I q (by simp))
  | bl j=>cases ry;exact PySem.EqNone.ne_none_bool (fin_bl I q (by simp))
  | int j=>obtain⟨t',rfl⟩:=ry;exact PySem.EqNone.ne_none_int (fin_bl I q (by simp))
  | str j=>obtain⟨t',rfl⟩:=ry;exact PySem.EqNone.ne_none_str (fin_bl I q (by simp))
  | _=>exact absurd (show false=true from hs) av
 | bl i =>
  cases rx
  cases y with
  | non=>cases ry;exact PySem.EqNone.ne_bool_none (fin_bl I q (by simp))
  | bl j=>cases ry;exact ne_bool (fin_bl I q (cj not dec_bl))
  | str j=>obtain⟨t',rfl⟩:=ry;exact PySem.EqMixed.ne_bool_str (fin_bl I q (by simp))
  | _=>exact absurd (show false=true from hs) av
 | int i =>
  obtain⟨t,rfl⟩:=rx
  cases y with
  | non=>cases ry;exact PySem.EqNone.ne_int_none (fin_bl I q (by simp))
  | int j=>obtain⟨t',rfl⟩:=ry;exact ne_int (fin_bl I q (cj not dec_int))
  | str j=>obtain⟨t',rfl⟩:=ry;exact PySem.EqMixed.ne_int_str (fin_bl I q (by simp))
  | _=>exact absurd (show false=true from hs) av
 | str i =>
  obtain⟨t,rfl⟩:=rx
  cases y with
  | non=>cases ry;exact PySem.EqNone.ne_str_none (fin_bl I q (by simp))
  | bl j=>cases ry;exact PySem.EqMixed.ne_str_bool (fin_bl I q (by simp))
  | int j=>obtain⟨t',rfl⟩:=ry;exact PySem.EqMixed.ne_str_int (fin_bl I q (by simp))
  | str j=>obtain⟨t',rfl⟩:=ry;exact ne_str (fin_bl I q (cj not dec_str))
  | _=>exact absurd (show false=true from hs) av
 | byt i =>
  obtain⟨t,rfl⟩:=rx
  cases y with
  | byt j=>obtain⟨t',rfl⟩:=ry;exact PySem.W.ne_bytes (fin_bl I q (cj not dec_byt))
  | _=>exact absurd (show false=true from hs) av
 | _=>cases y <;> exact absurd (show false=true from hs) av
theorem op_lt:OpR X (compareOp .Lt) (rI0 fun i j=>.bl (decide (i<j))):=opB0 fun _ _ _ _ _ _ _ q=>lt_int q
theorem op_le:OpR X (compareOp .LtE) (rI0 fun i j=>.bl (decide (i<=j))):=opB0 fun _ _ _ _ _ _ _ q=>le_int q
theorem op_gt:OpR X (compareOp .Gt) (rI0 fun i j=>.bl (decide (j<i))):=opB0 fun _ _ _ _ _ _ _ q=>gt_int q
theorem op_ge:OpR X (compareOp .GtE) (rI0 fun i j=>.bl (decide (j<=i))):=opB0 fun _ _ _ _ _ _ _ q=>ge_int q
theorem op_in_str:OpR X (compareOp .In) (fun x y H Q=>∃ i j,x=.str i/\y=.str j/\Q (.bl (!(Builtin.Str.occurrences j i 0 j.length 1).isEmpty)) H):=by
 intro pins s σ H x y v u Q I rx ry h
 obtain⟨i,j,rfl,rfl,q⟩:=h
 obtain⟨t,rfl⟩:=rx
 obtain⟨t',rfl⟩:=ry
 exact in_str (fin_bl I q rfl)
theorem OpR.or {f:Value->Value->Sem Value}{r r':R2}(h:OpR X f r)(h':OpR X f r'):OpR X f (fun x y H Q=>r x y H Q\/r' x y H Q):=by
 intro pins s σ H x y v u Q I rx ry q
 rcases q with q | q
 ·exact h pins s σ H x y v u Q I rx ry q
 ·exact h' pins s σ H x y v u Q I rx ry q
theorem nomark (b:Expr){op:CmpOp}(h:op≠.In:=by decide)(h2:op≠.NotIn:=by decide):behindInMarks op b=false:=by
 have e1:(op==CmpOp.In)=false:=by cases op <;> first | rfl | exact absurd rfl h
 have e2:(op==CmpOp.NotIn)=false:=by cases op <;> first | rfl | exact absurd rfl h2
 cases b <;> simp[behindInMarks,e1,e2]
theorem pe_cmpR {op:CmpOp}{r:R2}(ho:OpR X (compareOp op) r)(ha:PE X a ta)(hb:PE X b tb)(hm:behindInMarks op b=false):PE X (.Compare a [op] [b] pos) (tOp r ta tb):=by
 intro pins s σ H Q I h
 exact wpAny_Compare1 (binT ha hb I h fun v u s2 x y H2 I2 rx ry q=>ho pins s2 σ H2 x y v u Q I2 rx ry q) hm
theorem line63:(sizeLine:Nat)<2 ^ 63:=by rw[sizeLine_eq];decide
theorem op_add_str:OpR X (binaryOp .Add) (fun x y H Q=>∃ i j,x=.str i/\y=.str j/\i.length+j.length<=sizeLine/\Q (.str (i++j)) H):=by
 intro pins s σ H x y v u Q I rx ry h
 obtain⟨i,j,rfl,rfl,hz,q⟩:=h
 obtain⟨t,rfl⟩:=rx
 obtain⟨t',rfl⟩:=ry
 exact add_str (fun t' tk=>⟨.str (i++j),H,I.tok _,⟨_,rfl⟩,q⟩) hz
theorem vals1 {x:V}{us:List Value}(r:Vals [x] us):∃ u,us=[u]/\RelV x u:=by
 cases r with
 | cons r1 r2=>cases r2;exact⟨_,rfl,r1⟩
theorem vals2 {x y:V}{us:List Value}(r:Vals [x,y] us):∃ u w',us=[u,w']/\RelV x u/\RelV y w':=by
 cases r with
 | cons r1 r2 =>
  cases r2 with
  | cons r3 r4=>cases r4;exact⟨_,_,rfl,r1,r3⟩
theorem call_max2 (hc:X.calm=true):CallR X (.builtin "max") (fun xs H Q=>∃ i j,xs=[.int i,.int j]/\Q (.int (if j>i then j else i)) H):=by
 intro pins s σ H xs us Q I r h
 obtain⟨i,j,rfl,q⟩:=h
 obtain⟨u,w',rfl,⟨t,rfl⟩,⟨t',rfl⟩⟩:=vals2 r
 refine max_two_ints (I.ok.hd hc) fun h' tk k=>⟨_,H,I.kept k,?_,q⟩
 by_cases hj:j>i
 ·rw[au hj,au hj];exact⟨_,rfl⟩
 ·rw[aq hj,aq hj];exact⟨_,rfl⟩
theorem call_int1:CallR X (.type "int") (fun xs H Q=>(∃ i,xs=[.int i]/\Q (.int i) H)\/∃ k,xs=[.bl k]/\Q (.int (if k then 1 else 0)) H):=by
 intro pins s σ H xs us Q I r h
 rcases h with⟨i,rfl,q⟩ | ⟨k,rfl,q⟩
 ·obtain⟨u,rfl,t,rfl⟩:=vals1 r
  exact call_int_int ⟨.int i,H,I,⟨_,rfl⟩,q⟩
 ·obtain⟨u,rfl,r1⟩:=vals1 r
  cases r1
  exact call_int_bool ⟨.int (if k then 1 else 0),H,I.tok _,⟨_,rfl⟩,q⟩
end
structure ObjM (h:Heap)(x dx C:Addr)(mA:Str->Option Value):Prop where
 obj:h.get? x=some (PySem.W.instObj C dx)
 ns:h.Ns1 dx mA
 ne:dx≠x
theorem lookIn_ns {h:Heap}{dx:Addr}{mA:Str->Option Value}(n:h.Ns1 dx mA):∃ od,h.get? dx=some od/\∀ name,PySem.W.lookIn name od=some (mA name):=by
 obtain⟨o,es,ep,ho,hd,hk,_,hm⟩:=n
 refine⟨o,ho,fun name=>?_⟩
 have e:=hm name
 unfold nsFind findBy at e
 rw[<- Array.find?_toList]at e
 unfold PySem.W.lookIn
 rw[hd]
 dsimp only
 split
 ·rename_i y q
  rw[q]at e
  exact cj some e
 ·rename_i q
  rw[q]at e
  have a:es.toList.any (·.refKey)=false:=by
   rw[dY]
   intro y hy
   obtain⟨z,t,hkey⟩:=hk y (Array.mem_toList_iff.mp hy)
   simp[DictEntry.refKey,hkey]
  have a':¬ es.toList.any (·.refKey)=true:=by rw[a];exact av
  rw[aq a']
  exact cj some e
theorem ObjM.look {h:Heap}{x dx C:Addr}{mA:Str->Option Value}(I:ObjM h x dx C mA):∃ od,PySem.W.InstAt h x (PySem.W.instObj C dx) C (some od)/\∀ name,PySem.W.lookIn name od=some (mA name) :=
 let ⟨od,ho,hl⟩:=lookIn_ns I.ns
 ⟨od,⟨I.obj,rfl,rfl,ho⟩,hl⟩
section
variable {prog:Program}{w:World}{A:Around}{E:Value->Shared->Prop}{s:Shared}{K:PySem.W.Frag}{x dx C f:Addr}{mA:Str->Option Value}{name:Str}{v:Value}
theorem get_map {expr:Bool}{Q:Value->Shared->Prop}(X:K.In s.heap)(I:ObjM s.heap x dx C mA)(hg:PySem.W.plainGet K C name=true)(hh:PySem.W.hasDictIn K C=true)
 (ha:PySem.W.findIn K (.ref C) name=some none) (hv:mA name=some v) (hv':PySem.W.handedIn v=true) (h:Q v { s with toks:=s.toks+1}) :
 wpAny (model prog w) A (getAttr (.ref x) name expr) Q E s:=by
 obtain⟨od,J,hl⟩:=I.look
 exact PySem.W.get_value X J (PySem.W.plainGet_of hg).1 (PySem.W.findObj_own hh ha rfl (by rw[hl,hv])) hv' h
theorem get_meth {pl:Sem Bool}{Q:Value×List Value->Shared->Prop}(X:K.In s.heap)(I:ObjM s.heap x dx C mA)(hg:PySem.W.plainGet K C name=true)
 (hf:PySem.W.findIn K (.ref C) name=some (some (.ref f))) (ht:PySem.W.isFn K (.ref f)=true) (hv:mA name=none) (h:Q (.ref f,[.ref x]) s) :
 wpAny (model prog w) A (getMethod (.ref x) name pl) Q E s:=by
 obtain⟨od,J,hl⟩:=I.look
 exact PySem.W.method_fn X J (PySem.W.plainGet_of hg).1 (PySem.W.plainGet_of hg).2 hf (beq_iff_eq.mp ht) (by show(PySem.W.lookIn name od).map (·.isSome)=some false;rw[hl,hv];rfl) h
theorem set_map {ns:List Str}{Q:Unit->Shared->Prop}(X:K.In s.heap)(I:ObjM s.heap x dx C mA)
 (hs:PySem.W.findIn K (.ref C) "__setattr__"=some (some (.builtin "object.__setattr__"))) (hp:PySem.W.plainOver K C=true) (ht:PySem.W.takerIn K C name=some none) (hh:PySem.W.hasDictIn K C=true)
 (hw:PySem.Within mA ns) (hsz:ns.length<=sizeLine)
 (h:∀ h',ObjM h' x dx C (fun y=>if y=name then some v else mA y)->Heap.SameBut dx s.heap h'->Q () { s with heap:=h',toks:=s.toks+2}) :
 wpAny (model prog w) A (setAttr (.ref x) name v) Q E s:=by
 obtain⟨od,J,hl⟩:=I.look
 refine PySem.W.set_plain X J hs (PySem.W.osa_open (s:={ s with toks:=s.toks+1}) (r:=none) X J hp ht fun b=>?_)
 obtain⟨cd,hc,hd'⟩:=PySem.W.any_some hh
 have hx:s.heap.get? x=some ⟨.ref C,some dx,.plain,#[]⟩:=I.obj
 refine e9 (aa (e9 (e9 (wpAny_loadPart hx (e9 (PySem.W.Looks.here (s:={ s with toks:=s.toks+1}) (PySem.W.looks_clsIn X hc) ?_))))))
 rw[hd']
 refine aa (a:=some dx) (e9 (aa (e9 ?_)))
 refine wpAny_nsSet1 (s:={ s with toks:=s.toks+1}) I.ns fun h' hn2 hs2=>?_
 obtain⟨oD,esD,epD,hoD,hdD,hcD⟩:=hn2.count (PySem.Within.cons name v hw)
 refine e9 (wpAny_lookBehind hoD (by rw[hdD];exact pastItsLine_dict (aL hcD (by rw[aX];omega))) ?_)
 exact aa (h _ ⟨(hs2.2 _ (aY I.ne)).trans I.obj,hn2,I.ne⟩ hs2)
theorem make_map {R:Result->Shared->Prop}{vs:List Value}{kw:List (Str×Value)}(X:K.In s.heap)(hm:PySem.W.makesIn K C=true)
 (hi:PySem.W.findIn K (.ref C) "__init__"=some (some (.ref f))) (hf:PySem.W.typeIn K (.ref f)=some (.type "function"))
 (h:codeAny (model prog w) (A.under (.builtin "type.__call__" ⟨.ref C::vs,kw⟩)) (.call (.ref f) ⟨.ref (s.heap.objs.size+1)::vs,kw⟩) (PySem.W.InitBack (s.heap.objs.size+1) R)
   { s with heap:=(s.heap.push PySem.W.emptyDict).push (PySem.W.instObj C s.heap.objs.size)}) :
 codeAny (model prog w) A (.call (.ref C) ⟨vs,kw⟩) R s:=by
 obtain⟨hh,g,d,t,os⟩:=s
 exact PySem.W.make_core (PySem.W.makes_of X hm) (PySem.W.looks_findIn X hi) (fun self=>PySem.W.bind_fn X self hf) (.inl rfl) h
end
def putF (f:Str)(v:V):List (Str×V)->List (Str×V)
 | []=>[(f,v)]
 | (g,x)::r=>if g=f then(g,v)::r else(g,x)::putF f v r
theorem lookup_putF (f g:Str)(v:V):∀ fs:List (Str×V),(putF f v fs).lookup g=if g=f then some v else fs.lookup g
 | []=>by
  show List.lookup g [(f,v)]=_
  by_cases h:g=f
  ·have hb:(g==f)=true:=beq_iff_eq.mpr h
   simp only[List.lookup,hb,au h]
  ·have hb:(g==f)=false:=beq_eq_false_iff_ne.mpr h
   simp only[List.lookup,hb,aq h]
 | (k,x)::r=>by
  have ih:=lookup_putF f g v r
  rw[show putF f v ((k,x)::r)=(if k=f then(k,v)::r else(k,x)::putF f v r)from rfl]
  by_cases hk:k=f
  ·rw[au hk]
   by_cases h:g=k
   ·have hb:(g==k)=true:=beq_iff_eq.mpr h
    simp only[List.lookup,hb,au (h.trans hk)]
   ·have hb:(g==k)=false:=beq_eq_false_iff_ne.mpr h
    simp only[List.lookup,hb,aq (fun e:g=f=>h (e.trans hk.symm))]
  ·rw[aq hk]
   by_cases h:g=k
   ·have hb:(g==k)=true:=beq_iff_eq.mpr h
    simp only[List.lookup,hb,aq (fun e:g=f=>hk (h.symm.trans e))]
   ·have hb:(g==k)=false:=beq_eq_false_iff_ne.mpr h
    simp only[List.lookup,hb]
    exact ih
theorem keys_putF (f:Str)(v:V):∀ fs:List (Str×V),f∈(putF f v fs).map (·.1)/\∀ g,g∈fs.map (·.1)->g∈(putF f v fs).map (·.1)
 | []=>⟨by simp[putF],fun g h=>by simp at h⟩
 | (k,x)::r=>by
  obtain⟨i1,i2⟩:=keys_putF f v r
  rw[show putF f v ((k,x)::r)=(if k=f then(k,v)::r else(k,x)::putF f v r)from rfl]
  by_cases hk:k=f
  ·rw[au hk]
   subst hk
   exact⟨by simp,fun g h=>by simpa using h⟩
  ·rw[aq hk]
   refine⟨?_,fun g h=>?_⟩
   ·rw[ag]
    exact gxI _ i1
   ·rw[ag]at h ⊢
    rcases List.mem_cons.mp h with e | e
    ·exact List.mem_cons.mpr (.inl e)
    ·exact gxI _ (i2 g e)
theorem length_putF (f:Str)(v:V):∀ fs:List (Str×V),(putF f v fs).length<=fs.length+1
 | []=>by simp[putF]
 | (k,x)::r=>by
  have ih:=length_putF f v r
  rw[show putF f v ((k,x)::r)=(if k=f then(k,v)::r else(k,x)::putF f v r)from rfl]
  by_cases hk:k=f
  ·rw[au hk,aX,aX];omega
  ·rw[aq hk,aX,aX];omega
theorem RelO.some_of {v:V}{o:Option Value}(r:RelO (some v) o):∃ u,o=some u/\RelV v u:=by
 cases o with
 | none=>exact(show False from r).elim
 | some u=>exact⟨u,rfl,r⟩
theorem RelO.none_of {o:Option Value}(r:RelO none o):o=none:=by
 cases o with
 | none=>rfl
 | some u=>exact(show False from r).elim
theorem handed_of {v:V}{u:Value}(r:RelV v u):PySem.W.handedIn u=true:=by
 cases v with
 | non=>cases(show u=Value.none from r);rfl
 | bl b=>cases(show u=Value.bool b from r);rfl
 | int i=>obtain⟨t,e⟩:=(show ∃ t,u=Value.int i t from r);cases e;rfl
 | str x=>obtain⟨t,e⟩:=(show ∃ t,u=Value.str x t from r);cases e;rfl
 | byt b=>obtain⟨t,e⟩:=(show ∃ t,u=Value.bytes b t from r);cases e;rfl
 | flt b=>obtain⟨t,e⟩:=(show ∃ t,u=Value.float b t from r);cases e;rfl
 | ref a=>cases(show u=Value.ref a from r);rfl
 | ty n=>cases(show u=Value.type n from r);rfl
section
variable {P:Program}{w:World}{H H':Hp}{h h':Heap}{a C dx:Addr}{fs fs':List (Str×V)}
theorem ins_get (hok:HOk P w H h)(e:H a=some (.ins C dx fs)):∃ mA,ObjM h a dx C mA/\(∀ f,RelO (fs.lookup f) (mA f))/\PySem.Within mA (fs.map (·.1))/\fs.length<=1000/\H dx=some (.own a):=by
 obtain⟨d,z,ne,ob,mA,n,r,q⟩:=(show ObjOk P w H h a (.ins C dx fs)from hok a _ e)
 exact⟨mA,⟨ob,n,ne⟩,r,q,z,d⟩
end
structure Cls (K:PySem.W.Frag)(C:Addr):Prop where
 pg:PySem.W.plainGet K C Str.empty=true
 hd:PySem.W.hasDictIn K C=true
 po:PySem.W.plainOver K C=true
 sa:PySem.W.findIn K (.ref C) "__setattr__"=some (some (.builtin "object.__setattr__"))
theorem Cls.get {K:PySem.W.Frag}{C:Addr}(c:Cls K C)(f:Str):PySem.W.plainGet K C f=true:=c.pg
def NoAttr (K:PySem.W.Frag)(C:Addr)(f:Str):Prop:=PySem.W.findIn K (.ref C) f=some none
theorem NoAttr.taker {K:PySem.W.Frag}{C:Addr}{f:Str}(n:NoAttr K C f):PySem.W.takerIn K C f=some none:=by
 unfold PySem.W.takerIn
 rw[show PySem.W.findIn K (.ref C) f=some none from n]
 rfl
structure Meth (K:PySem.W.Frag)(C:Addr)(m:Str)(f:Addr):Prop where
 at_:PySem.W.findIn K (.ref C) m=some (some (.ref f))
 fn:PySem.W.isFn K (.ref f)=true
 kp:PySem.W.keepIn K (.ref f)=true
section
variable {X:Cx}{pins:List (Addr×Obj)}{σ:St}{H:Hp}{s:Shared}{a C dx:Addr}{fs:List (Str×V)}{f:Str}{v:V}{A:Around}{E:Value->Shared->Prop}
theorem getattr_ok {b:Bool}{Q:Value->Shared->Prop}(I:Inv X pins σ H s)(e:H a=some (.ins C dx fs))(c:Cls X.K C)(n:NoAttr X.K C f)(l:fs.lookup f=some v)
 (h:∀ u s',Inv X pins σ H s'->RelV v u->Q u s'):wpAny (model X.prog X.w) A (getAttr (.ref a) f b) Q E s:=by
 obtain⟨mA,O,r,_,_,_⟩:=ins_get I.hok e
 obtain⟨u,hu,ru⟩:=RelO.some_of (v:=v) (o:=mA f) (by rw[<- l];exact r f)
 exact get_map I.kIn O (c.get f) c.hd n hu (handed_of ru) (h u _ (I.tok _) ru)
theorem getmeth_ok {m:Str}{g:Addr}{pl:Sem Bool}{Q:Value×List Value->Shared->Prop}(I:Inv X pins σ H s)(e:H a=some (.ins C dx fs))(c:Cls X.K C)(k:Meth X.K C m g)(l:fs.lookup m=none)
 (h:Q (.ref g,[.ref a]) s):wpAny (model X.prog X.w) A (getMethod (.ref a) m pl) Q E s:=by
 obtain⟨mA,O,r,_,_,_⟩:=ins_get I.hok e
 have hn:mA m=none:=RelO.none_of (by rw[<- l];exact r m)
 exact get_meth I.kIn O (c.get m) k.at_ k.fn hn h
theorem setattr_ok {y:V}{u:Value}{Q:Unit->Shared->Prop}(I:Inv X pins σ H s)(e:H a=some (.ins C dx fs))(c:Cls X.K C)(n:NoAttr X.K C f)(hl:fs.length<1000)(ry:RelV y u)
 (h:∀ s',Inv X pins σ (upd H a (.ins C dx (putF f y fs))) s'->Q () s'):wpAny (model X.prog X.w) A (setAttr (.ref a) f u) Q E s:=by
 obtain⟨mA,O,r,wi,_,ho⟩:=ins_get I.hok e
 have hz:(fs.map (·.1)).length<=sizeLine:=by rw[gxC,sizeLine_eq];omega
 refine set_map I.kIn O c.sa c.po n.taker c.hd wi hz fun h' O' sb=>h _ ?_
 have hd:∃ o,h'.get? dx=some o:=let ⟨o,_,_,e',_⟩:=O'.ns;⟨o,e'⟩
 refine I.write (x:=a) (e:=dx) (by rw[e];exact True.intro) (.inr ho) (fun b q hb z=>(sb.2 b hb).trans z) hd ?_
 refine⟨by rw[upd_ne O.ne];exact ho,?_,O.ne,O'.obj,_,O'.ns,fun g=>?_,fun g hg=>?_⟩
 ·have:=length_putF f y fs;omega
 ·show RelO ((putF f y fs).lookup g) (if g=f then some u else mA g)
  rw[lookup_putF]
  by_cases q:g=f
  ·rw[au q,au q];exact ry
  ·rw[aq q,aq q];exact r g
 ·by_cases q:g=f
  ·rw[q];exact(keys_putF f y fs).1
  ·refine(keys_putF f y fs).2 g (wi g fun z=>hg ?_)
   show(if g=f then some u else mA g)=none
   rw[aq q];exact z
theorem Inv.made (I:Inv X pins σ H s):Inv X pins σ (upd (upd H s.heap.objs.size (.own (s.heap.objs.size+1))) (s.heap.objs.size+1) (.ins C s.heap.objs.size []))
 { s with heap:=(s.heap.push PySem.W.emptyDict).push (PySem.W.instObj C s.heap.objs.size)}:=by
 have e1:(s.heap.push PySem.W.emptyDict).get? s.heap.objs.size=some PySem.W.emptyDict:=ak s.heap rfl
 have e2:((s.heap.push PySem.W.emptyDict).push (PySem.W.instObj C s.heap.objs.size)).get? (s.heap.objs.size+1)=some (PySem.W.instObj C s.heap.objs.size):=by
  have:=ak (s.heap.push PySem.W.emptyDict) (o:=PySem.W.instObj C s.heap.objs.size) rfl
  rwa [aS]at this
 have e3:(s.heap.push PySem.W.emptyDict).Ns s.heap.objs.size (fun _=>none):=⟨PySem.W.emptyDict,#[],_,e1,rfl,(fun e he=>absurd he (by simp)),fun _=>rfl⟩
 have I1:=I.laid (a:=s.heap.objs.size) (o:=.own (s.heap.objs.size+1)) (h':=s.heap.push PySem.W.emptyDict) (t':=s.toks) (fun b u q=>gxL _ q) (ae _) ⟨_,e1⟩
 refine I1.laid (a:=s.heap.objs.size+1) (o:=.ins C s.heap.objs.size []) (t':=s.toks) (fun b u q=>gxL _ q) (Nat.le_of_eq (aS _ _)) ?_
 have ne:s.heap.objs.size≠s.heap.objs.size+1:=ai (bA _)
 refine⟨by rw[upd_ne ne,fA],bV _,ne,e2,fun _=>none,(Heap.Ns1.of_empty e3).at fun o q=>gxL _ q,fun _=>True.intro,fun y hy=>absurd rfl hy⟩
theorem attr_of {prog:Program}{w:World}{env:Env}{e:Expr}{f:Str}{pos:Pos}{s:Shared}{Q:Value->Shared->Prop}(hb:attributeBase e f env (eval e env)=eval e env)
 (h:wpAny (model prog w) A (eval e env) (fun o s₁=>wpAny (model prog w) A (getAttr o f true) Q E s₁) E s):wpAny (model prog w) A (eval (.Attribute e f pos) env) Q E s :=
 Attribute_any_ h (by rw[arm_eval_Attribute,hb])
end
def tFld (K:PySem.W.Frag)(ta:TE)(f:Str):TE:=fun σ H Q=>ta σ H fun x H1=>∃ a C dx fs v,x=.ref a/\H1 a=some (.ins C dx fs)/\Cls K C/\NoAttr K C f/\fs.lookup f=some v/\Q v H1
def sFld (K:PySem.W.Frag)(ta tv:TE)(f:Str):TS:=fun D σ H=>tv σ H fun y H1=>ta σ H1 fun x H2=>∃ a C dx fs,x=.ref a/\H2 a=some (.ins C dx fs)/\Cls K C/\NoAttr K C f/\fs.length<1000 /\
 D.nx σ (upd H2 a (.ins C dx (putF f y fs)))
section
variable {X:Cx}{o e value:Expr}{f:Str}{pos pos' tpos:Pos}{ta tv:TE}
theorem pe_fld (he:PE X e ta)(hb:attributeBase e f X.env (eval e X.env)=eval e X.env):PE X (.Attribute e f pos) (tFld X.K ta f):=by
 intro pins s σ H Q I h
 refine attr_of hb (thn (he pins s σ H _ I h) fun u s1 hq3=>?_)
 obtain⟨x,H1,I1,rx,a,C,dx,fs,v,ex,ea,c,n,l,q⟩:=hq3
 subst ex
 obtain rfl:u=Value.ref a:=rx
 exact getattr_ok I1 ea c n l fun u' s2 I2 ru=>⟨v,H1,I2,ru,q⟩
theorem ps_fld (ha:PE X o ta)(hv:PE X value tv)(hs:swapsWith value (some (.Attribute o f pos')) pos.line X.env=pure false):PS X (.Assign [.Attribute o f pos'] value pos) (sFld X.K ta tv f):=by
 intro pins s σ H D I h
 refine plainObj_wpAny_Assign_Attribute (thn (hv pins s σ H _ I h) fun u s1 hq4=>?_) hs
 obtain⟨y,H1,I1,ry,q⟩:=hq4
 refine thn (ha pins s1 σ H1 _ I1 q) fun ov s2 hq5=>?_
 obtain⟨x,H2,I2,rx,a,C,dx,fs,ex,ea,c,n,l,q2⟩:=hq5
 subst ex
 obtain rfl:ov=Value.ref a:=rx
 exact setattr_ok I2 ea c n l ry fun s3 I3=>⟨σ,_,I3,q2⟩
theorem methcall_of {pl:Sem Bool}{m:Str}{apos:Pos}{args:List Expr}{pins:List (Addr×Obj)}{s:Shared}{σ:St}{H:Hp}{Q:Value->Shared->Prop}{te:TE}(he:PE X e te)(I:Inv X pins σ H s)
 (h:te σ H fun x H1=>∃ a C dx fs g,x=.ref a/\H1 a=some (.ins C dx fs)/\Cls X.K C/\Meth X.K C m g/\fs.lookup m=none /\
   ∀ s1,Inv X pins σ H1 s1->wpAny (model X.prog X.w) X.A (callWith pos (.ref g) [.ref a] (backTo pos (starEach args X.env)) (backToKw pos (keywordEach [] X.env))) Q X.xe s1)
 (ht:eval (.Call (.Attribute e m apos) args [] pos) X.env=(do
   let ov <- eval e X.env
   standAt apos.atName
   let (f,first) <- holding [ov] (getMethod ov m pl)
   callWith pos f first (backTo pos (starEach args X.env)) (backToKw pos (keywordEach [] X.env)))) :
 wpAny (model X.prog X.w) X.A (eval (.Call (.Attribute e m apos) args [] pos) X.env) Q X.xe s:=by
 refine PySem.W.methodCall_KW (pl:=pl) (thn (he pins s σ H _ I h) fun u s1 hq6=>?_) ht
 obtain⟨x,H1,I1,rx,a,C,dx,fs,g,ex,ea,c,k,l,q⟩:=hq6
 subst ex
 obtain rfl:u=Value.ref a:=rx
 exact getmeth_ok I1 ea c k l (q s1 I1)
end
section
variable {X:Cx}{pins:List (Addr×Obj)}{σ:St}{H:Hp}{s:Shared}{A:Around}{E:Value->Shared->Prop}{Q:Value->Shared->Prop}{c:Value}{b:Bool}
inductive TyOf (K:PySem.W.Frag)(H:Hp):V->Value->Prop where
 | non:TyOf K H .non (.type "NoneType")
 | bl (x:Bool):TyOf K H (.bl x) (.type "bool")
 | int (i:Int):TyOf K H (.int i) (.type "int")
 | str (x:Str):TyOf K H (.str x) (.type "str")
 | flt (x:UInt64):TyOf K H (.flt x) (.type "float")
 | lst {a:Addr} {xs:List V} (e:H a=some (.lst xs)):TyOf K H (.ref a) (.type "list")
 | frz {a:Addr} {o:Obj} {xs:List V} (e:H a=some (.frz o (.lst xs))):TyOf K H (.ref a) (.type "list")
 | tup {a:Addr} {xs:List V} (e:H a=some (.tup xs)):TyOf K H (.ref a) (.type "tuple")
 | dK {a:Addr} {eW:List (Key×V)} (e:H a=some (.dK eW)):TyOf K H (.ref a) (.type "dict")
 | dT {a:Addr} {eW:List (List Key×V)} (e:H a=some (.dT eW)):TyOf K H (.ref a) (.type "dict")
 | ins {a C dx:Addr} {fs:List (Str×V)} (e:H a=some (.ins C dx fs)) (cl:Cls K C) (ha:PySem.W.findIn K (.ref C) "__class__"=some (some (.builtin "object.__class__")))
  (hn:PySem.W.specialIn K (.builtin "object.__class__") "__get__"=some (some (.builtin "getset_descriptor.__get__"))) (htk:PySem.W.takesIn K (.builtin "object.__class__")=some true)
  (hm:PySem.W.mroIn K C (.type "object")=some true):TyOf K H (.ref a) (.ref C)
theorem isinst_ok {x:V}{u t:Value}(I:Inv X pins σ H s)(rx:RelV x u)(ty:TyOf X.K H x t)(e:PySem.W.kitOne X.K t c=some b)(h:∀ tk,Q (.bool b) { s with toks:=tk}) :
 wpAny (model X.prog X.w) A (call (.builtin "isinstance") [u,c]) Q E s:=by
 cases ty with
 | non=>cases(show u=Value.none from rx);exact bP PySem.W.kitx_none I.kIn True.intro e (fun z=>nomatch z) h
 | bl y=>cases(show u=Value.bool y from rx);exact bP PySem.W.kitx_bool I.kIn True.intro e (fun z=>nomatch z) h
 | int i=>obtain⟨t,q⟩:=(show ∃ t,u=Value.int i t from rx);cases q;exact bP PySem.W.kitx_int I.kIn True.intro e (fun z=>nomatch z) h
 | str y=>obtain⟨t,q⟩:=(show ∃ t,u=Value.str y t from rx);cases q;exact bP PySem.W.kitx_str I.kIn True.intro e (fun z=>nomatch z) h
 | flt y=>obtain⟨t,q⟩:=(show ∃ t,u=Value.float y t from rx);cases q;exact bP PySem.W.kitx_float I.kIn True.intro e (fun z=>nomatch z) h
 | @lst a xs ea =>
  cases(show u=Value.ref a from rx)
  obtain⟨_,_,n,_,h1⟩:=(show ObjOk X.prog X.w H s.heap a (.lst xs)from I.hok a _ ea)
  exact bP PySem.W.kitx_list I.kIn ⟨_,h1,rfl⟩ e (fun z=>nomatch z) h
 | @frz a ob xs ea =>
  cases(show u=Value.ref a from rx)
  obtain⟨_,_,_,n,_,h1⟩:=(show ObjOk X.prog X.w H s.heap a (.frz ob (.lst xs))from I.hok a _ ea)
  exact bP PySem.W.kitx_list I.kIn ⟨_,h1,rfl⟩ e (fun z=>nomatch z) h
 | @tup a xs ea =>
  cases(show u=Value.ref a from rx)
  obtain⟨_,_,_,p⟩:=(show ObjOk X.prog X.w H s.heap a (.tup xs)from I.hok a _ ea)
  obtain⟨o,h1,h2,_⟩:=p
  exact bP PySem.W.kitx_tuple I.kIn ⟨o,h1,h2⟩ e (fun z=>nomatch z) h
 | @dK a eW ea =>
  cases(show u=Value.ref a from rx)
  obtain⟨_,_,vs,_,p⟩:=(show ObjOk X.prog X.w H s.heap a (.dK eW)from I.hok a _ ea)
  obtain⟨o,es,ep,h1,h2,_⟩:=p
  exact bP PySem.W.kitx_dict I.kIn ⟨o,h1,h2.1⟩ e (fun z=>nomatch z) h
 | @dT a eW ea =>
  cases(show u=Value.ref a from rx)
  obtain⟨_,_,xs,_,o,es,ep,h1,h2,_⟩:=(show ObjOk X.prog X.w H s.heap a (.dT eW)from I.hok a _ ea)
  exact bP PySem.W.kitx_dict I.kIn ⟨o,h1,h2.1⟩ e (fun z=>nomatch z) h
 | @ins a C dx fs ea cl ha hn htk hm =>
  cases(show u=Value.ref a from rx)
  obtain⟨mA,O,_⟩:=ins_get I.hok ea
  obtain⟨od,J,_⟩:=O.look
  exact bP (PySem.W.kitx_own (cl.get _) cl.hd ha hn htk hm) I.kIn J e (fun z=>nomatch z) h
end
structure Room (k:Nat)(A:Around):Prop where
 hd:A.handled=none
 dp:A.depth+3*k+5<recursionLimit
 un:A.units+16*k+200<cLine
theorem Room.mono {j k:Nat}{A:Around}(r:Room k A)(h:j<=k):Room j A:=⟨r.hd,by have:=r.dp;omega,by have:=r.un;omega⟩
theorem Room.deeper {k:Nat}{A:Around}(r:Room (k+1) A)(env:Env):Room k (A.deeper env) :=
 ⟨r.hd,by have:=r.dp;show A.depth+1+3*k+5<_;omega,by have:=r.un;show A.units+3+16*k+200<_;omega⟩
theorem make_depth {A:Around}{C:Addr}{us:List Value}{kw:List (Str×Value)}:(A.under (.builtin "type.__call__" ⟨.ref C::us,kw⟩)).depth=A.depth+1:=by
 first | rfl | simp[Around.under,Code.weight,Code.isCreation,Code.isGuard,Code.isCaller,Code.frames,Code.isFrame,guardIds]
theorem make_units {A:Around}{C:Addr}{us:List Value}{kw:List (Str×Value)}:(A.under (.builtin "type.__call__" ⟨.ref C::us,kw⟩)).units=A.units+1:=by
 first | rfl | simp[Around.under,Code.cUnits,Code.frames,Code.isFrame]
theorem Room.make {k:Nat}{A:Around}(r:Room (k+1) A)(C:Addr)(us:List Value)(kw:List (Str×Value)):Room k (A.under (.builtin "type.__call__" ⟨.ref C::us,kw⟩)) :=
 ⟨r.hd,by have:=r.dp;rw[make_depth];omega,by have:=r.un;rw[make_units];omega⟩
theorem Room.depth {k:Nat}{A:Around}(r:Room k A):A.depth<recursionLimit:=by have:=r.dp;omega
theorem Room.units {k:Nat}{A:Around}(r:Room k A):A.units+64<cLine:=by have:=r.un;omega
def tNil:TA:=fun _ H Q=>Q [] H
def tCons (ta:TE)(tr:TA):TA:=fun σ H Q=>ta σ H fun x H1=>tr σ H1 fun xs H2=>Q (x::xs) H2
section
variable {X:Cx}{e:Expr}{es:List Expr}{te:TE}{t:TA}{pos:Pos}
theorem pa_nil:PA X [] tNil:=fun _ _ _ _ H Q I h=>Calls.spliced_nil ⟨[],H,I,.nil,h⟩
theorem pa_cons (ha:PE X e te)(hr:PA X es t)(hs:starEach (e::es) X.env=(false,eval e X.env)::starEach es X.env:=by rfl):PA X (e::es) (tCons te t):=by
 intro pos pins s σ H Q I h
 rw[hs]
 show wpAny _ _ (spliced ((false,eval e X.env)::backTo pos (starEach es X.env))) _ _ s
 refine Calls.spliced_cons (thn (ha pins s σ H _ I h) fun u s1 hq0=>?_)
 obtain⟨x,H1,I1,r1,q1⟩:=hq0
 exact thn (hr pos pins s1 σ H1 _ I1 q1) fun us s2 hq1=>by obtain⟨xs,H2,I2,r2,q2⟩:=hq1;exact⟨x::xs,H2,I2,.cons r1 r2,q2⟩
def tTup (t:TA):TE:=fun σ H Q=>t σ H fun xs H1=>xs.length<=sizeLine/\∀ p,H1 p=none->Q (.ref p) (upd H1 p (.tup xs))
def tLst (t:TA):TE:=fun σ H Q=>t σ H fun xs H1=>xs.length<=sizeLine/\∀ p,H1 p=none->Q (.ref p) (upd H1 p (.lst xs))
theorem pe_tup {x1}(h:PA X es t):PE X (.Tuple es x1 pos) (tTup t):=by
 intro pins s σ H Q I hq
 refine wpAny_Tuple_spliced (thn (h pos pins s σ H _ I hq) fun us s1 ⟨xs,H1,I1,r,z,q⟩=>⟨by rw[<- r.length];exact z,?_⟩)
 have hf:H1 s1.heap.objs.size=none:=I1.hok.fresh (ae _)
 refine⟨.ref s1.heap.objs.size,upd H1 s1.heap.objs.size (.tup xs),I1.laid (t':=s1.toks) (fun b u e=>gxL _ e) (ae _) ?_,rfl,q _ hf⟩
 exact⟨z,us,r,⟨_,ak _ rfl,rfl,_,rfl⟩⟩
theorem pe_lst (h:PA X es t):PE X (.List es pos) (tLst t):=by
 intro pins s σ H Q I hq
 refine wpAny_List_spliced (thn (h pos pins s σ H _ I hq) fun us s1 ⟨xs,H1,I1,r,z,q⟩=>⟨by rw[<- r.length];exact z,?_⟩)
 have hf:H1 s1.heap.objs.size=none:=I1.hok.fresh (ae _)
 refine⟨.ref s1.heap.objs.size,upd H1 s1.heap.objs.size (.lst xs),I1.laid (t':=s1.toks) (fun b u e=>gxL _ e) (ae _) ?_,rfl,q _ hf⟩
 exact⟨z,us,0,r,ak _ rfl⟩
end
abbrev Sp:=List V->Hp->VK->XK->Prop
abbrev CXT:=List Env->Hp->Shared->XK->Value->Shared->Prop
structure Env0 (P:Program)(w:World)(K:PySem.W.Frag)(mg:Str->Option Value)(base:Heap)(A:Around)(outer:List Env)(s:Shared)(H:Hp):Prop where
 frames:A.frames=some outer
 mod:Mod K mg base
 bs:∀ b o,base.get? b=some o->s.heap.get? b=some o/\H b=none
 bsz:base.objs.size<=s.heap.objs.size
 funs:s.heap.FunFrames base outer
 frf:∀ b∈frs outer,H b=none
 hok:HOk P w H s.heap
 bare:AllBare s.gens
def CE (outer:List Env)(P:Program)(w:World)(H:Hp)(s:Shared)(Q:VK)(u:Value)(s':Shared):Prop :=
 ∃ v H',s'.os=s.os/\AllBare s'.gens/\Un (frs outer) [] H H' s.heap s'.heap/\HOk P w H' s'.heap/\RelV v u/\Q v H'
def CR (CX:CXT)(outer:List Env)(P:Program)(w:World)(H:Hp)(s:Shared)(Q:VK)(E:XK)(r:Result)(s':Shared):Prop :=
 match r with
 | .ok (.ret u)=>CE outer P w H s Q u s'
 | .ok _=>False
 | .error e=>CX outer H s E e s'
structure FnOk (P:Program)(w:World)(K:PySem.W.Frag)(mg:Str->Option Value)(base:Heap)(CX:CXT)(k:Nat)(f:Addr)(fd:FuncData)(ps:List Str)(sp:Sp):Prop where
 len:∀ vs H Q E,sp vs H Q E->vs.length=ps.length
 run:∀(A:Around) (outer:List Env) (s:Shared) (H:Hp) (args:Args) (us:List Value) (vs:List V) (Q:VK) (E:XK),Room k A->Env0 P w K mg base A outer s H->BindsTo s fd args (ps.zip us)->Vals vs us->sp vs H Q E ->
  codeAny (model P w) A (.call (.ref f) args) (CR CX outer P w H s Q E) s
theorem FnOk.imp {P:Program}{w:World}{K:PySem.W.Frag}{mg:Str->Option Value}{base:Heap}{CX:CXT}{k:Nat}{f:Addr}{fd:FuncData}{ps:List Str}{sp sp':Sp}(F:FnOk P w K mg base CX k f fd ps sp)
 (h:∀ vs H Q E,sp' vs H Q E->sp vs H Q E):FnOk P w K mg base CX k f fd ps sp' :=
 ⟨fun vs H Q E q=>F.len vs H Q E (h _ _ _ _ q),fun A outer s H args us vs Q E hr he hb hv hs=>F.run A outer s H args us vs Q E hr he hb hv (h _ _ _ _ hs)⟩
theorem Env0.make {P:Program}{w:World}{K:PySem.W.Frag}{mg:Str->Option Value}{base:Heap}{A:Around}{outer:List Env}{s:Shared}{H:Hp}(e:Env0 P w K mg base A outer s H)(C:Addr)(us:List Value)(kw:List (Str×Value)) :
 Env0 P w K mg base (A.under (.builtin "type.__call__" ⟨.ref C::us,kw⟩)) outer s H:=⟨by first | exact e.frames | (simpa [Around.under,Code.envs,Code.isFrame,pushEnvs]using e.frames),e.mod,e.bs,e.bsz,e.funs,e.frf,e.hok,e.bare⟩
section
variable {X:Cx}{pins:List (Addr×Obj)}{σ:St}{H:Hp}{s s':Shared}
theorem Inv.env0 (I:Inv X pins σ H s):Env0 X.prog X.w X.K X.mg X.base X.A X.stack s H :=
 ⟨I.ok.frames,I.ok.mod,I.bs,aL I.ok.bsz I.sz,I.stack,I.stkFree,I.hok,I.bare⟩
theorem Inv.after {Q:VK}{u:Value}(I:Inv X pins σ H s)(h:CE X.stack X.prog X.w H s Q u s'):EP X pins σ Q u s':=by
 obtain⟨v,H',os,bare,un,hok,r,q⟩:=h
 obtain⟨hh,g,d,t,os'⟩:=s'
 obtain rfl:os'=s.os:=os
 exact⟨v,H',I.call (h':=hh) (g':=g) (d':=d) (t':=t) (ch:=[]) un hok bare (fun b z=>absurd z (by simp)),r,q⟩
end
def tCall (sp:Sp)(dvs:List V)(E:XK)(t:TA):TE:=fun σ H Q=>t σ H fun vs H1=>sp (vs++dvs) H1 Q E
def tMeth (C:Addr)(m:Str)(sp:Sp)(dvs:List V)(E:XK)(ta:TE)(t:TA):TE:=fun σ H Q=>ta σ H fun x H1=>∃ a dx fs,x=.ref a/\H1 a=some (.ins C dx fs)/\fs.lookup m=none /\
 t σ H1 fun vs H2=>sp (x::(vs++dvs)) H2 Q E
def tMake (C:Addr)(sp:Sp)(dvs:List V)(E:XK)(t:TA):TE:=fun σ H Q=>t σ H fun vs H1=>∀ x dx,H1 x=none->H1 dx=none->dx≠x ->
 sp (.ref x::(vs++dvs)) (upd (upd H1 dx (.own x)) x (.ins C dx [])) (fun v H2=>v=.non/\Q (.ref x) H2) E
def Binds (K:PySem.W.Frag)(fd:FuncData)(ps:List Str)(ds:List Value):Prop :=
 ∀(s:Shared) (us:List Value),K.In s.heap->(us++ds).length=ps.length->BindsTo s fd ⟨us,[]⟩ (ps.zip (us++ds))
theorem Binds.all {K:PySem.W.Frag}{fd:FuncData}{ps:List Str}(h:∀ us:List Value,us.length=ps.length->bindArgs fd ⟨us,[]⟩=pure (ps.zip us)):Binds K fd ps []:=fun s us _ hl=>by
 rw[b7]at hl ⊢
 exact .of_eq (h us hl)
def Passes (CX:CXT)(X:Cx)(E:XK):Prop:=∀(pins:List (Addr×Obj)) (σ:St) (H:Hp) (s:Shared) (e:Value) (s':Shared),Inv X pins σ H s->CX X.stack H s E e s'->X.xe e s'
section
variable {X:Cx}{CX:CXT}{k:Nat}{f C:Addr}{fd:FuncData}{ps:List Str}{sp:Sp}{dvs:List V}{ds:List Value}{E:XK}{x m:Str}{p pos apos:Pos}{e o:Expr}{es:List Expr}{ta:TE}{t:TA}
theorem run_fn {pins:List (Addr×Obj)}{σ:St}{H:Hp}{s:Shared}{Q:VK}{us:List Value}{vs:List V}(F:FnOk X.prog X.w X.K X.mg X.base CX k f fd ps sp)(hr:Room k X.A)(hb:Binds X.K fd ps ds)(hd:Vals dvs ds)(hx:Passes CX X E)
 (I:Inv X pins σ H s) (r:Vals vs us) (h:sp (vs++dvs) H Q E):wpAny (model X.prog X.w) X.A (call (.ref f) us) (EP X pins σ Q) X.xe s:=by
 have r2:Vals (vs++dvs) (us++ds):=r.append hd
 have hl:(us++ds).length=ps.length:=by rw[<- r2.length];exact F.len _ _ _ _ h
 refine wpAny_call (codeAny_mono (F.run X.A X.stack s H ⟨us,[]⟩ (us++ds) (vs++dvs) Q E hr I.env0 (hb s us I.kIn hl) r2 h) fun r s' hq=>?_)
 cases r with
 | error e=>exact hx pins σ H s e s' I hq
 | ok fl =>
  cases fl with
  | ret u=>exact I.after hq
  | next=>exact False.elim hq
  | brk=>exact False.elim hq
  | cont=>exact False.elim hq
theorem pe_call (F:FnOk X.prog X.w X.K X.mg X.base CX k f fd ps sp)(hr:Room k X.A)(hg:Gl X x)(hm:X.mg x=some (.ref f))(hk:PySem.W.keepIn X.K (.ref f)=true)(hb:Binds X.K fd ps ds)(hd:Vals dvs ds)(hx:Passes CX X E)
 (ha:PA X (e::es) t) (hdb:(x==("__debug__" : Str))=false:=by decide) (he:starEach (e::es) X.env=(false,eval e X.env)::starEach es X.env:=by rfl) (hpl:(backTo pos (starEach es X.env)).any (·.1)=false:=by rfl) :
 PE X (.Call (.Name x p) (e::es) [] pos) (tCall sp dvs E t):=by
 intro pins s σ H Q I h
 refine cE (ld_glob I hg hm ?_ hdb)
 refine PySem.W.callWith_K (h₀:=X.base) I.ok.mod.kin hk (thn (ha pos pins s σ H _ I h) fun us s1 hq4=>?_) he hpl
 obtain⟨vs,H1,I1,r,q⟩:=hq4
 refine⟨I1.kIn,?_⟩
 exact run_fn F hr hb hd hx I1 r q
theorem pe_meth {pl:Sem Bool}(he:PE X o ta)(c:Cls X.K C)(hm:Meth X.K C m f)(F:FnOk X.prog X.w X.K X.mg X.base CX k f fd ps sp)(hr:Room k X.A)(hb:Binds X.K fd ps ds)(hd:Vals dvs ds)(hx:Passes CX X E)(ha:PA X (e::es) t)
 (hst:starEach (e::es) X.env=(false,eval e X.env)::starEach es X.env:=by rfl) (hpl:(backTo pos (starEach es X.env)).any (·.1)=false:=by rfl)
 (ht:eval (.Call (.Attribute o m apos) (e::es) [] pos) X.env=(do
   let ov <- eval o X.env
   standAt apos.atName
   let (f,first) <- holding [ov] (getMethod ov m pl)
   callWith pos f first (backTo pos (starEach (e::es) X.env)) (backToKw pos (keywordEach [] X.env))):=by rfl) :
 PE X (.Call (.Attribute o m apos) (e::es) [] pos) (tMeth C m sp dvs E ta t):=by
 intro pins s σ H Q I h
 refine PySem.W.methodCall_KW (pl:=pl) (thn (he pins s σ H _ I h) fun u s1 hq5=>?_) ht
 obtain⟨x,H1,I1,rx,a,dx,fs,ex,ea,l,q⟩:=hq5
 subst ex
 obtain rfl:u=Value.ref a:=rx
 refine getmeth_ok I1 ea c hm l ?_
 refine PySem.W.callWith_K (first:=[.ref a]) (h₀:=X.base) I.ok.mod.kin hm.kp (thn (ha pos pins s1 σ H1 _ I1 q) fun us s2 hq6=>?_) hst hpl
 obtain⟨vs,H2,I2,r,q2⟩:=hq6
 refine⟨I2.kIn,?_⟩
 exact run_fn (us:=.ref a::us) (vs:=.ref a::vs) F hr hb hd hx I2 (.cons rfl r) q2
structure Mk (K:PySem.W.Frag)(C f:Addr):Prop where
 makes:PySem.W.makesIn K C=true
 init:PySem.W.findIn K (.ref C) "__init__"=some (some (.ref f))
 fn:PySem.W.isFn K (.ref f)=true
 kp:PySem.W.keepIn K (.ref C)=true
theorem run_make {pins:List (Addr×Obj)}{σ:St}{H:Hp}{s:Shared}{Q:VK}{us:List Value}{vs:List V}(M:Mk X.K C f)(F:FnOk X.prog X.w X.K X.mg X.base CX k f fd ps sp)(hr:Room (k+1) X.A)(hb:Binds X.K fd ps ds)(hd:Vals dvs ds)
 (hx:Passes CX X E) (I:Inv X pins σ H s) (r:Vals vs us)
 (h:∀ x dx,H x=none->H dx=none->dx≠x->sp (.ref x::(vs++dvs)) (upd (upd H dx (.own x)) x (.ins C dx [])) (fun v H2=>v=.non/\Q (.ref x) H2) E) :
 wpAny (model X.prog X.w) X.A (call (.ref C) us) (EP X pins σ Q) X.xe s:=by
 have hq:=h (s.heap.objs.size+1) s.heap.objs.size (I.hok.fresh (Nat.le_succ _)) (I.hok.fresh (ae _)) (ai (bA _))
 have I2:=Inv.made (C:=C) I
 have r2:Vals (V.ref (s.heap.objs.size+1)::(vs++dvs)) (Value.ref (s.heap.objs.size+1)::(us++ds)):=.cons rfl (r.append hd)
 have hl:(Value.ref (s.heap.objs.size+1)::us++ds).length=ps.length:=by
  have e:=r2.length
  rw[F.len _ _ _ _ hq]at e
  exact e.symm
 refine wpAny_call (make_map (f:=f) I.kIn M.makes M.init (beq_iff_eq.mp M.fn) (codeAny_mono (F.run _ X.stack _ _ ⟨Value.ref (s.heap.objs.size+1)::us,[]⟩ (Value.ref (s.heap.objs.size+1)::(us++ds)) _ _ E (hr.make C us [])
  (I2.env0.make C us []) (hb _ (Value.ref (s.heap.objs.size+1)::us) I2.kIn hl) r2 hq) fun r s' hq'=>?_))
 cases r with
 | error e=>exact hx pins σ _ _ e s' I2 hq'
 | ok fl =>
  cases fl with
  | ret u =>
   obtain⟨v,H',I3,rv,ev,q3⟩:=I2.after hq'
   subst ev
   exact⟨rv,⟨V.ref (s.heap.objs.size+1),H',I3,rfl,q3⟩⟩
  | next=>exact False.elim hq'
  | brk=>exact False.elim hq'
  | cont=>exact False.elim hq'
theorem pe_make (M:Mk X.K C f)(F:FnOk X.prog X.w X.K X.mg X.base CX k f fd ps sp)(hr:Room (k+1) X.A)(hg:Gl X x)(hm:X.mg x=some (.ref C))(hb:Binds X.K fd ps ds)(hd:Vals dvs ds)(hx:Passes CX X E)
 (ha:PA X (e::es) t) (hdb:(x==("__debug__" : Str))=false:=by decide) (he:starEach (e::es) X.env=(false,eval e X.env)::starEach es X.env:=by rfl) (hpl:(backTo pos (starEach es X.env)).any (·.1)=false:=by rfl) :
 PE X (.Call (.Name x p) (e::es) [] pos) (tMake C sp dvs E t):=by
 intro pins s σ H Q I h
 refine cE (ld_glob I hg hm ?_ hdb)
 refine PySem.W.callWith_K (h₀:=X.base) I.ok.mod.kin M.kp (thn (ha pos pins s σ H _ I h) fun us s1 hq0=>?_) he hpl
 obtain⟨vs,H1,I1,r,q⟩:=hq0
 refine⟨I1.kIn,?_⟩
 exact run_make M F hr hb hd hx I1 r q
end
def PK (X:Cx)(kws:List Keyword)(t:TA):Prop :=
 ∀(pos:Pos) (pins:List (Addr×Obj)) (s:Shared) (σ:St) (H:Hp) (Q:List V->Hp->Prop),Inv X pins σ H s->t σ H Q->wpAny (model X.prog X.w) X.A (evalAll ((backToKw pos (keywordEach kws X.env)).map (·.2))) (AP X pins σ Q) X.xe s
section
variable {X:Cx}{CX:CXT}{k:Nat}{f C:Addr}{fd:FuncData}{ps ks:List Str}{sp:Sp}{E:XK}{x m:Str}{p pos apos kpos:Pos}{e o:Expr}{es:List Expr}{kws:List Keyword}{te ta:TE}{t tk:TA}{nm:Option Str}
theorem pk_nil:PK X [] tNil:=fun _ _ _ _ H Q I h=>wpAny_evalAll_nil ⟨[],H,I,.nil,h⟩
theorem pk_cons (ha:PE X e te)(hr:PK X kws t):PK X (⟨nm,e,kpos⟩::kws) (tCons te t):=by
 intro pos pins s σ H Q I h
 show wpAny _ _ (evalAll ((do let v <- eval e X.env;standAt pos;pure v)::(backToKw pos (keywordEach kws X.env)).map (·.2))) _ _ s
 refine wpAny_evalAll_cons (e9 (thn (ha pins s σ H _ I h) fun u s1 hq1=>?_))
 obtain⟨x,H1,I1,r1,q1⟩:=hq1
 refine e9 (dg (aa ?_))
 exact thn (hr pos pins s1 σ H1 _ I1 q1) fun us s2 hq2=>by obtain⟨xs,H2,I2,r2,q2⟩:=hq2;exact⟨x::xs,H2,I2,.cons r1 r2,q2⟩
variable {g:List Value->List Value->List Value}{gV:List V->List V->List V}
end
structure FnScope (N P:List Str)(sc:Scope):Prop where
 kind:sc.kind=.function
 co:sc.isCoroutine=false
 gen:sc.isGenerator=false
 nd:N.Nodup
 pre:N.take P.length=P
 par:∀ x∈P,sc.names.lookup x=some .local\/sc.names.lookup x=some .cell
 nofree:∀ y∈sc.names,y.2≠.free
theorem bindL_out {kindOf:Str->Option NameKind}{x:Str}:∀ {binds:List (Str×Value)} {m:Str->Option Value},(∀ v,(x,v)∉binds)->bindL kindOf binds m x=m x
 | [],_,_=>rfl
 | (n,v)::r,m,h=>by
  unfold bindL
  rw[bindL_out fun w hw=>h w (gxI _ hw)]
  split
  ·have:x≠n:=by rintro rfl;exact h v ao
   simp[this]
  ·rfl
theorem bindC_out {kindOf:Str->Option NameKind}{x:Str}:∀ {binds:List (Str×Value)} {m:Str->Option Value},(∀ v,(x,v)∉binds)->bindC kindOf binds m x=m x
 | [],_,_=>rfl
 | (n,v)::r,m,h=>by
  unfold bindC
  rw[bindC_out fun w hw=>h w (gxI _ hw)]
  split
  ·rfl
  ·have:x≠n:=by rintro rfl;exact h v ao
   simp[this]
theorem bindL_get {kindOf:Str->Option NameKind}{x:Str}{v:Value}:∀ {P:List Str} {vs:List Value} {i:Nat} {m:Str->Option Value},P.Nodup->P[i]?=some x->vs[i]?=some v->kindOf x=some .local ->
 bindL kindOf (P.zip vs) m x=some v
 | [],_,_,_,_,h,_,_=>by simp at h
 | _::_,[],_,_,_,_,h,_=>by simp at h
 | p::P,w::vs,0,m,nd,h1,h2,hk=>by
  simp at h1 h2;subst h1;subst h2
  show bindL kindOf ((p,w)::P.zip vs) m p=_
  unfold bindL
  rw[bindL_out fun v hv=>(List.nodup_cons.mp nd).1 (dq hv).1,au hk]
  simp
 | p::P,w::vs,i+1,m,nd,h1,h2,hk=>by
  show bindL kindOf ((p,w)::P.zip vs) m x=_
  unfold bindL
  exact bindL_get (i:=i) (List.nodup_cons.mp nd).2 (by simpa using h1) (by simpa using h2) hk
theorem bindC_get {kindOf:Str->Option NameKind}{x:Str}{v:Value}:∀ {P:List Str} {vs:List Value} {i:Nat} {m:Str->Option Value},P.Nodup->P[i]?=some x->vs[i]?=some v->kindOf x≠some .local ->
 bindC kindOf (P.zip vs) m x=some v
 | [],_,_,_,_,h,_,_=>by simp at h
 | _::_,[],_,_,_,_,h,_=>by simp at h
 | p::P,w::vs,0,m,nd,h1,h2,hk=>by
  simp at h1 h2;subst h1;subst h2
  show bindC kindOf ((p,w)::P.zip vs) m p=_
  unfold bindC
  rw[bindC_out fun v hv=>(List.nodup_cons.mp nd).1 (dq hv).1,aq hk]
  simp
 | p::P,w::vs,i+1,m,nd,h1,h2,hk=>by
  show bindC kindOf ((p,w)::P.zip vs) m x=_
  unfold bindC
  exact bindC_get (i:=i) (List.nodup_cons.mp nd).2 (by simpa using h1) (by simpa using h2) hk
def start (N:List Str)(vs:List V):St:=vs.map some++List.replicate (N.length - vs.length) none
def cxOf (CX:CXT)(P:Program)(w:World)(K:PySem.W.Frag)(mg:Str->Option Value)(base:Heap)(N:List Str)(qual:Str)(scope:Scope)(f:Addr)(cd:Value)(A:Around)(outer:List Env)(s:Shared)(H:Hp)(E:XK):Cx where
 prog:=P
 w:=w
 K:=K
 mg:=mg
 base:=base
 A:=A.deeper (envOfC qual scope s.heap.objs.size f cd)
 N:=N
 s₀:=s
 H₀:=H
 env:=envOfC qual scope s.heap.objs.size f cd
 outer:=outer
 stack:=envOfC qual scope s.heap.objs.size f cd::outer
 ex:=[]
 calm:=true
 fn:=fun _=>true
 pn:=[]
 xe:=fun e s'=>wpAny (model P w) (A.deeper (envOfC qual scope s.heap.objs.size f cd)) (leaving (envOfC qual scope s.heap.objs.size f cd) e) (fun _ s''=>CX outer H s E e s'') (fun e' s''=>CX outer H s E e' s'') s'
theorem cell_has {sc:Scope}{n:Nat}{x:Str}(h:sc.names.lookup x=some .cell):∃ c,(cellsFrom n sc.names []).lookup x=some c:=by
 have q:=PySem.W.cellsFrom_some sc.names n [] (.inl h)
 exact Option.isSome_iff_exists.mp q
theorem inv_start {CX:CXT}{P:Program}{w:World}{K:PySem.W.Frag}{mg:Str->Option Value}{base:Heap}{N ps:List Str}{qual:Str}{scope:Scope}{f:Addr}{cd:Value}{A:Around}{outer:List Env}{s s1:Shared}{H:Hp}{E:XK}{us:List Value}{vs:List V}
 (S:FnScope N ps scope) (hd:A.handled=none) (e0:Env0 P w K mg base A outer s H) (hl:vs.length=ps.length) (r:Vals vs us)
 (x:InCallC s s.heap.objs.size (bindL (envOfC qual scope s.heap.objs.size f cd).kindOf (ps.zip us) fun _=>none) (cellsFrom (s.heap.objs.size+1) scope.names []) (bindC (envOfC qual scope s.heap.objs.size f cd).kindOf (ps.zip us) fun _=>none) s1) :
 Inv (cxOf CX P w K mg base N qual scope f cd A outer s H E) [] (start N vs) H s1:=by
 have hpl:ps.length<=N.length:=by have:=cj List.length S.pre;rw[bu]at this;omega
 obtain⟨h1,tk,rfl,hk⟩:=x.done
 have noA:∀ b:Addr,b∉(cxOf CX P w K mg base N qual scope f cd A outer s H E).ex:=fun b z=>absurd (show b∈([]:List Addr)from z) (by simp)
 refine⟨⟨e0.mod,S.kind,rfl,rfl,ae _,fun y z c h1 h2=>?_,fun y hy=>?_,fun y c _ h=>?_,fun _=>hd,Around.frames_deeper e0.frames,.inr ⟨rfl,rfl⟩,fun b z=>absurd z (noA b),e0.bs,e0.bsz,fun b _ _=>noA b,fun b z=>absurd z (noA b),e0.funs,e0.frf⟩,
  rfl,e0.bare,Un.kept hk,⟨_,x.toInCall.ns,fun i y v h1 h2 h3=>?_⟩,fun y c h=>⟨_,x.cell y c h⟩,e0.hok.fresh (ae _),fun y c h=>?_,fun p hp=>absurd (show p∈([]:List (Addr×Obj))from hp) (by simp),e0.hok.kept hk,?_⟩
 ·exact name_of_addr x.apart (cP h1) (cP h2)
 ·have hy:scope.names.lookup y=some .cell\/scope.names.lookup y=some .free:=hy
  rcases hy with hy | hy
  ·exact cell_has hy
  ·exact absurd rfl (S.nofree _ (cP hy))
 ·exact dQ (x.above y c (cP h))
 ·have hi:i<vs.length:=by
   unfold start at h2
   by_cases hi:i<vs.length
   ·exact hi
   ·rw[gxG (by simpa using hi)]at h2
    rw[dE]at h2
    split at h2 <;> cases h2
  have ha:vs[i]?=some v:=by
   unfold start at h2
   rw[gxF (by simpa using hi),gxH]at h2
   cases e:vs[i]? with
   | none=>rw[e]at h2;cases h2
   | some a=>rw[e]at h2;cases h2;rfl
  obtain⟨u,hu,rv⟩:=r.get ha
  have hp:ps[i]?=some y:=by
   rw[<- S.pre,bq (by omega)];exact h1
  have ndP:ps.Nodup:=by rw[<- S.pre];exact S.nd.sublist (List.take_sublist _ _)
  refine⟨u,rv,?_⟩
  rcases S.par y (gxD hp)with k | k
  ·exact .inl ⟨k,bindL_get ndP hp hu k⟩
  ·obtain⟨c,e⟩:=cell_has (n:=s.heap.objs.size+1) k
   refine .inr ⟨.inl k,c,e,?_⟩
   have q:=x.cell y c e
   rw[bindC_get ndP hp hu (by show scope.names.lookup y≠_;rw[k];decide)]at q
   exact q
 ·exact e0.hok.fresh (dQ (x.above y c (cP h)))
 ·unfold start
  show _=N.length
  rw[gxE,gxC,aR]
  omega
theorem fn_of {CX:CXT}{P:Program}{w:World}{K:PySem.W.Frag}{mg:Str->Option Value}{base:Heap}{k:Nat}{f:Addr}{name qual:Str}{params:Arguments}{body:List Stmt}{scope:Scope}{dV kV doc pm cdv ct oc:Value}{an od:Option Addr}
 {osl:Array (Option Value)} {N ps:List Str} {sp:Sp} (lk:K.lookup f=some ⟨oc,od,.func (PySem.W.fnOf name qual params body scope dV kV doc pm an cdv ct),osl⟩) (hcd:PySem.W.codeIn K cdv qual=true) (S:FnScope N ps scope)
 (len:∀ vs H Q E,sp vs H Q E->vs.length=ps.length)
 (hbody:∀(A:Around) (outer:List Env) (s:Shared) (H:Hp) (vs:List V) (Q:VK) (E:XK),Room k (A.deeper (envOfC qual scope s.heap.objs.size f cdv))->sp vs H Q E ->
   ∃ t,PSs (cxOf CX P w K mg base N qual scope f cdv A outer s H E) body t/\t { nx:=fun _ H'=>Q .non H',rt:=Q} (start N vs) H) :
 FnOk P w K mg base CX (k+1) f (PySem.W.fnOf name qual params body scope dV kV doc pm an cdv ct) ps sp:=by
 refine⟨len,fun A outer s H args us vs Q E hr e0 hb r hsp=>?_⟩
 have hl:=len _ _ _ _ hsp
 have KX:K.In s.heap:=e0.mod.kin.keeps fun b o e=>(e0.bs b o e).1
 have lim:s.heap.NoLimit:=e0.mod.nolimit.keeps fun b o e=>(e0.bs b o e).1
 have hkind:∀ y∈ps.zip us,scope.names.lookup y.1=some .local\/(scope.names.lookup y.1=some .cell/\((cellsFrom (s.heap.objs.size+1) scope.names []).lookup y.1).isSome=true):=fun⟨n,v⟩ hy=>by
  rcases S.par n (dq hy).1 with q | q
  ·exact .inl q
  ·exact .inr ⟨q,PySem.W.cellsFrom_some _ _ _ (.inl q)⟩
 refine codeAny_call_function hr.depth (KX _ _ lk) rfl S.co S.gen rfl (PySem.W.codeRec_of KX hcd) (hb _ _ _ _ ?_)
 refine wpAny_newFunctionEnv_cells S.kind hkind fun env he s1 x=>?_
 subst he
 refine⟨lim.keeps x.toInCall.keep,codeAny_func ?_⟩
 obtain⟨t,ht,hq⟩:=hbody A outer s H vs Q E (hr.deeper _) hsp
 have I:Inv (cxOf CX P w K mg base N qual scope f cdv A outer s H E) [] (start N vs) H s1:=inv_start S hr.hd e0 hl r x
 refine bG (ht [] s1 (start N vs) H _ I hq) (fun fl s' hs=>?_) fun e s' hs=>hs
 have fin:∀ {σ':St} {H':Hp} {v:V} {u:Value},Inv (cxOf CX P w K mg base N qual scope f cdv A outer s H E) [] σ' H' s'->RelV v u->Q v H'->CE outer P w H s Q u s' :=
  fun {σ' H' v u} J rv q=>⟨v,H',J.os,J.bare,J.base,J.hok,rv,q⟩
 cases fl with
 | ret u =>
  obtain⟨v,σ',H',J,rv,q⟩:=hs
  exact fin J rv q
 | next =>
  obtain⟨σ',H',J,q⟩:=hs
  exact fin (v:=V.non) (u:=Value.none) J rfl q
 | brk =>
  obtain⟨_,_,_,q⟩:=hs
  exact False.elim q
 | cont =>
  obtain⟨_,_,_,q⟩:=hs
  exact False.elim q
section
variable {X:Cx}{x:Str}{p pos:Pos}{e:Expr}{es:List Expr}{t:TA}{id T:String}{r:List V->Hp->VK->Prop}
def tCB (r:List V->Hp->VK->Prop)(t:TA):TE:=fun σ H Q=>t σ H fun vs H1=>r vs H1 Q
theorem pe_callB (hc:CallR X (.builtin id) r)(hg:Gl X x)(hm:X.mg x=none)(hv:bootBuiltins x=some (.builtin id))(ha:PA X (e::es) t)(hn:x ≠ "__name__":=by decide)(hdb:(x==("__debug__" : Str))=false:=by decide)
 (he:starEach (e::es) X.env=(false,eval e X.env)::starEach es X.env:=by rfl) (hpl:(backTo pos (starEach es X.env)).any (·.1)=false:=by rfl):PE X (.Call (.Name x p) (e::es) [] pos) (tCB r t):=by
 intro pins s σ H Q I h
 refine cE (ld_blt I hg hm hv ?_ hn hdb)
 exact PyProof.Rows.callWith_builtin1 (thn (ha pos pins s σ H _ I h) fun us s1 hq3=>by obtain⟨vs,H1,I1,r1,q1⟩:=hq3;exact hc pins s1 σ H1 vs us Q I1 r1 q1) he hpl
theorem pe_callTy (hc:CallR X (.type T) r)(hg:Gl X x)(hm:X.mg x=none)(hv:bootBuiltins x=some (.type T))(ha:PA X (e::es) t)(hn:x ≠ "__name__":=by decide)(hdb:(x==("__debug__" : Str))=false:=by decide)
 (he:starEach (e::es) X.env=(false,eval e X.env)::starEach es X.env:=by rfl) (hpl:(backTo pos (starEach es X.env)).any (·.1)=false:=by rfl):PE X (.Call (.Name x p) (e::es) [] pos) (tCB r t):=by
 intro pins s σ H Q I h
 refine cE (ld_blt I hg hm hv ?_ hn hdb)
 exact bg (thn (ha pos pins s σ H _ I h) fun us s1 hq4=>by obtain⟨vs,H1,I1,r1,q1⟩:=hq4;exact hc pins s1 σ H1 vs us Q I1 r1 q1) he hpl
end
end L2
namespace HT
open PySem PyProof.Rows
section
variable {prog:Program}{w:World}{A:Around}{E:Value->Shared->Prop}{s:Shared}
def sIx (n d:Nat):Option Int->Nat
 | none=>d
 | some v=>if v<0 then(v+(n:Int)).toNat else min v.toNat n
theorem sIx_none (n d:Nat):sIx n d none=d:=rfl
theorem sIx_nat (n d k:Nat):sIx n d (some (k:Int))=min k n:=by
 show(if(k:Int)<0 then((k:Int)+(n:Int)).toNat else min (k:Int).toNat n)=min k n
 rw[aq (by omega),gxK]
theorem sIx_le (n d:Nat)(hd:d<=n)(o:Option Int):sIx n d o<=n:=by
 cases o with
 | none=>exact hd
 | some v =>
  show(if v<0 then(v+(n:Int)).toNat else min v.toNat n)<=n
  by_cases hv:v<0
  ·rw[au hv];omega
  ·rw[aq hv];exact Nat.min_le_right _ _
end
end HT
namespace L2
open PySem PySem.Spec PyProof.Rows
abbrev TO:=St->Hp->(Option Int->Hp->Prop)->Prop
def PO (X:Cx)(e:Option Expr)(t:TO):Prop :=
 ∀(pins:List (Addr×Obj)) (s:Shared) (σ:St) (H:Hp) (Q:Option Int->Hp->Prop),Inv X pins σ H s->t σ H Q ->
  wpAny (model X.prog X.w) X.A (evalPart e X.env) (fun u s'=>∃ o H',Inv X pins σ H' s'/\IsPart u o/\Q o H') X.xe s
def tNoPart:TO:=fun _ H Q=>Q none H
section
variable {X:Cx}{e:Expr}{te:TE}{lo hi:Option Expr}{tl th:TO}{pos p2:Pos}
theorem po_none:PO X none tNoPart:=by
 intro pins s σ H Q I h
 rw[evalPart_none]
 exact aa ⟨none,H,I,.none,h⟩
def SlR (X:Cx)(r:V->Option Int->Option Int->Hp->VK->Prop):Prop :=
 ∀(pins:List (Addr×Obj)) (s:Shared) (σ:St) (H:Hp) (x:V) (v vl vu:Value) (lo hi:Option Int) (sl:Addr) (Q:VK),Inv X pins σ H s->RelV x v->s.heap.IsSliceOf sl vl vu .none->IsPart vl lo->IsPart vu hi->r x lo hi H Q ->
  ∃ T id,typeLookup (.type T) "__getitem__"=pure (some (.builtin id))/\s.TypeIs v T/\wpAny (model X.prog X.w) X.A (getItem v (.ref sl)) (EP X pins σ Q) X.xe s
def tSl (r:V->Option Int->Option Int->Hp->VK->Prop)(te:TE)(tl th:TO):TE:=fun σ H Q=>te σ H fun x H1=>tl σ H1 fun l H2=>th σ H2 fun u H3=>r x l u H3 Q
theorem pe_slice {r:V->Option Int->Option Int->Hp->VK->Prop}(hr:SlR X r)(he:PE X e te)(hl:PO X lo tl)(hu:PO X hi th):PE X (.Subscript e (.Slice lo hi none p2) pos) (tSl r te tl th):=by
 intro pins s σ H Q I h
 refine Subscript_ (thn (he pins s σ H _ I h) fun v s1 hq5=>?_)
 obtain⟨x,H1,I1,r1,q1⟩:=hq5
 refine wpAny_Slice (thn (hl pins s1 σ H1 _ I1 q1) fun vl s2 hq6=>?_)
 obtain⟨l,H2,I2,pl,q2⟩:=hq6
 refine thn (hu pins s2 σ H2 _ I2 q2) fun vu s3 hq0=>?_
 obtain⟨u,H3,I3,pu,q3⟩:=hq0
 rw[evalPart_none]
 refine aa ?_
 have I4:Inv X pins σ H3 { s3 with heap:=s3.heap.push { cls:=.type "slice",data:=.fields #[vl,vu,.none]}}:=I3.kept (t':=s3.toks) fun b ob q=>gxL _ q
 obtain⟨T,id,hT,ht,hg⟩:=hr pins { s3 with heap:=s3.heap.push { cls:=.type "slice",data:=.fields #[vl,vu,.none]}} σ H3 x v vl vu l u s3.heap.objs.size Q I4 r1 (Heap.IsSliceOf.new ..) pl pu q3
 show wpAny (model X.prog X.w) X.A (subscriptTail e (.Slice lo hi none p2) v (.ref s3.heap.objs.size)) (EP X pins σ Q) X.xe { s3 with heap:=s3.heap.push { cls:=.type "slice",data:=.fields #[vl,vu,.none]}}
 exact tail_any (ops:=[.ref s3.heap.objs.size,v]) ht hT hg (by with_unfolding_all rfl)
def cutV (xs:List V)(lo hi:Option Int):List V:=(xs.drop (HT.sIx xs.length 0 lo)).take (HT.sIx xs.length xs.length hi - HT.sIx xs.length 0 lo)
theorem cutV_length (xs:List V)(lo hi:Option Int):(cutV xs lo hi).length<=xs.length:=by
 unfold cutV
 rw[bu,bB]
 omega
end
def ixN (n:Nat)(i:Int):Option Nat:=if 0<=i then(if i<n then some i.toNat else none)else if -(n:Int)<=i then some (i+n).toNat else none
def atI {α:Type}(xs:List α)(i:Int):Option α:=(ixN xs.length i).bind fun j=>xs[j]?
theorem ixN_seq {n:Nat}{i:Int}{j:Nat}(h:ixN n i=some j):seqIndex? i n=some j/\j<n /\ -(n:Int)<=i/\i<n:=by
 unfold ixN at h
 by_cases h0:0<=i
 ·rw[au h0]at h
  by_cases h1:i<n
  ·rw[au h1]at h
   have e:i.toNat=j:=aB h
   exact⟨by rw[seqIndex_of h0 h1,e],by omega,by omega,h1⟩
  ·rw[aq h1]at h;cases h
 ·rw[aq h0]at h
  by_cases h1:-(n:Int)<=i
  ·rw[au h1]at h
   have e:(i+n).toNat=j:=aB h
   exact⟨by rw[seqIndex_neg (by omega) h1,e],by omega,h1,by omega⟩
  ·rw[aq h1]at h;cases h
theorem atI_get {α:Type}{xs:List α}{i:Int}{v:α}(h:atI xs i=some v):∃ j,seqIndex? i xs.length=some j/\xs[j]?=some v/\j<xs.length /\ -(xs.length:Int)<=i/\i<xs.length:=by
 unfold atI at h
 cases e:ixN xs.length i with
 | none=>rw[e]at h;cases h
 | some j =>
  rw[e]at h
  obtain⟨h1,h2,h3,h4⟩:=ixN_seq e
  exact⟨j,h1,h,h2,h3,h4⟩
theorem atI_nat {α:Type}{xs:List α}{j:Nat}{v:α}(h:xs[j]?=some v):atI xs (j:Int)=some v:=by
 have hj:j<xs.length:=(gxB h).1
 have e:ixN xs.length (j:Int)=some j:=by
  unfold ixN
  rw[au (by omega),au (by omega)];simp
 unfold atI;rw[e];exact h
theorem atI_last {α:Type}(xs:List α)(v:α):atI (xs++[v]) (-1)=some v:=by
 have hl:(xs++[v]).length=xs.length+1:=by simp
 have e:ixN (xs++[v]).length (-1)=some xs.length:=by
  unfold ixN
  rw[hl,aq (by decide),au (by omega)]
  congr 1
  omega
 unfold atI
 rw[e]
 show(xs++[v])[xs.length]?=some v
 simp
def PlainIx (b:Expr):Prop:=∀ o i,subscripted b false o i=operate [o,i] (getItem o i)
def IxR (X:Cx)(r:R2):Prop :=
 ∀(value slice:Expr) (pins:List (Addr×Obj)) (s:Shared) (σ:St) (H:Hp) (x y:V) (v u:Value) (Q:VK),Inv X pins σ H s->RelV x v->RelV y u->r x y H Q ->
  subscripted slice false v u=operate [v,u] (getItem v u)->wpAny (model X.prog X.w) X.A (subscriptTail value slice v u) (EP X pins σ Q) X.xe s
def MtR (X:Cx)(id:String)(r:V->List V->Hp->VK->Prop):Prop :=
 ∀(pins:List (Addr×Obj)) (s:Shared) (σ:St) (H:Hp) (x:V) (xs:List V) (v:Value) (us:List Value) (Q:VK),Inv X pins σ H s->RelV x v->Vals xs us->r x xs H Q ->
  wpAny (model X.prog X.w) X.A (call (.builtin id) (v::us)) (EP X pins σ Q) X.xe s
section
variable {X:Cx}{a b:Expr}{ta tb:TE}{pos:Pos}
theorem IxR.or {r r':R2}(h:IxR X r)(h':IxR X r'):IxR X (fun x y H Q=>r x y H Q\/r' x y H Q):=by
 intro value slice pins s σ H x y v u Q I rx ry q hs
 rcases q with q | q
 ·exact h value slice pins s σ H x y v u Q I rx ry q hs
 ·exact h' value slice pins s σ H x y v u Q I rx ry q hs
theorem pe_ix {r:R2}(hr:IxR X r)(ha:PE X a ta)(hb:PE X b tb)(hs:PlainIx b):PE X (.Subscript a b pos) (tOp r ta tb):=by
 intro pins s σ H Q I h
 exact Subscript_ (binT ha hb I h fun v u s2 x y H2 I2 rx ry q=>hr a b pins s2 σ H2 x y v u Q I2 rx ry q (hs _ _))
def rIxL (K:PySem.W.Frag):R2:=fun x y H Q=>∃ p xs i v,x=.ref p/\y=.int i/\SqL K H p xs/\atI xs i=some v/\Q v H
def rIxT (K:PySem.W.Frag):R2:=fun x y H Q=>∃ p xs i v,x=.ref p/\y=.int i/\SqT K H p xs/\atI xs i=some v/\Q v H
def rIxS:R2:=fun x y H Q=>∃ z i c,x=.str z/\y=.int i/\z.length<=sizeLine/\atI z.cps.toList i=some c/\Q (.str ⟨#[c]⟩) H
theorem ix_list:IxR X (rIxL X.K):=by
 intro value slice pins s σ H x y v u Q I rx ry h hs
 obtain⟨p,xs,i,z,rfl,rfl,hq,he,q⟩:=h
 cases rx
 obtain⟨t,rfl⟩:=ry
 obtain⟨fw,r,pl,hz⟩:=I.list hq
 obtain⟨j,h1,h2,h3,h4,h5⟩:=atI_get he
 obtain⟨w,ew,rw'⟩:=r.get h2
 have hl:=r.length
 have hn:=line63
 have fin:EP X pins σ Q w s:=⟨z,H,I,rw',q⟩
 by_cases h0:0<=i
 ·have hj:i.toNat=j:=by
   rw[seqIndex_of h0 h5]at h1
   exact aB h1
  exact item_listR pl.isList h0 (by omega) (by rw[hj];simpa using ew) fin hs
 ·have hj:(i+(fw.toArray.size:Int)).toNat=j:=by
   rw[seqIndex_neg (by omega) h4]at h1
   rw[ah,<- hl]
   exact aB h1
  exact subscriptTail_builtinR (x:=w) pl.isList.typeIs slot_list_getitem.lookup
   (wpAny_getItem_list_neg (Q:=fun r s'=>r=w/\EP X pins σ Q r s') pl.isList (by omega) (by rw[ah]<;> omega) (by omega) (by rw[hj];simpa using ew) ⟨rfl,fin⟩) hs
theorem ix_tup:IxR X (rIxT X.K):=by
 intro value slice pins s σ H x y v u Q I rx ry h hs
 obtain⟨p,xs,i,z,rfl,rfl,hq,he,q⟩:=h
 cases rx
 obtain⟨t,rfl⟩:=ry
 obtain⟨fw,r,pl,hz⟩:=I.tuple hq
 obtain⟨j,h1,h2,h3,h4,h5⟩:=atI_get he
 obtain⟨w,ew,rw'⟩:=r.get h2
 have hl:=r.length
 have hn:=line63
 have fin:EP X pins σ Q w s:=⟨z,H,I,rw',q⟩
 exact subscriptTail_builtinR (x:=w) pl.typeIs slot_tuple_getitem.lookup
  (getItem_tuple (j:=j) (Q:=fun r s'=>r=w/\EP X pins σ Q r s') pl (by omega) (by omega) (by rw[ah,<- hl];exact h1) (by simpa using ew) ⟨rfl,fin⟩) hs
theorem ix_str:IxR X rIxS:=by
 intro value slice pins s σ H x y v u Q I rx ry h hs
 obtain⟨z,i,c,rfl,rfl,hz,he,q⟩:=h
 obtain⟨t,rfl⟩:=rx
 obtain⟨t',rfl⟩:=ry
 obtain⟨j,h1,h2,h3,h4,h5⟩:=atI_get he
 have hl:z.cps.toList.length=z.length:=by simp[Str.length]
 rw[hl]at h1 h4 h5
 have hn:=line63
 exact tail_any (typeIs_str s z t) slot_str_getitem.lookup (getItem_str (c:=c) (by
  have e1:decide (i < -(2 ^ 63:Int))=false:=aT (by omega)
  have e2:decide (i≥2 ^ 63)=false:=aT (by omega)
  rw[e1,e2,Bool.or_false]) (by rw[h1];simpa using h2) ⟨.str ⟨#[c]⟩,H,I.tok _,⟨_,rfl⟩,q⟩) hs
def rIx (K:PySem.W.Frag):R2:=fun x y H Q=>rIxL K x y H Q\/rIxT K x y H Q\/rIxS x y H Q
theorem ix_seq:IxR X (rIx X.K):=ix_list.or (ix_tup.or ix_str)
theorem mapSeq_set (fw:List Value)(n j:Nat)(u:Value):Obj.mapSeq (·.setIfInBounds j u) { cls:=.type "list",data:=.seq fw.toArray n}={ cls:=.type "list",data:=.seq (fw.set j u).toArray n}:=by
 simp[Obj.mapSeq]
theorem Inv.lst {pins:List (Addr×Obj)}{σ:St}{H:Hp}{s:Shared}{p:Addr}{xs:List V}(I:Inv X pins σ H s)(h:H p=some (.lst xs)) :
 ∃(fw:List Value) (n:Nat),Vals xs fw/\s.heap.get? p=some { cls:=.type "list",data:=.seq fw.toArray n}/\xs.length<=sizeLine:=by
 obtain⟨z,fw,n,r,e⟩:=I.hok p _ h
 exact⟨fw,n,r,e,z⟩
theorem Inv.lstUpd {pins:List (Addr×Obj)}{σ:St}{H:Hp}{s:Shared}{p:Addr}{xs ys:List V}{fw its':List Value}{n n':Nat}{f:Obj->Obj}(I:Inv X pins σ H s)(h:H p=some (.lst xs))
 (ho:s.heap.get? p=some { cls:=.type "list",data:=.seq fw.toArray n}) (hf:f { cls:=.type "list",data:=.seq fw.toArray n}={ cls:=.type "list",data:=.seq its'.toArray n'}) (r:Vals ys its') (hz:ys.length<=sizeLine) (t:Nat) :
 Inv X pins σ (upd H p (.lst ys)) { s with heap:=s.heap.update p f,toks:=t}:=by
 have e:(s.heap.update p f).get? p=some { cls:=.type "list",data:=.seq its'.toArray n'}:=by
  rw[bc f ho (by rw[hf]<;> rfl),hf]
 refine I.write (x:=p) (e:=p) (by rw[h];trivial) (.inl rfl) (fun b u hb q=>(aI _ _ (aY hb)).trans q) ⟨_,e⟩ ?_
 exact⟨hz,its',n',r,e⟩
def rSetL:V->V->V->Hp->(Hp->Prop)->Prop:=fun o i v H Q=>∃ p xs k j,o=.ref p/\i=.int k/\H p=some (.lst xs)/\ixN xs.length k=some j/\Q (upd H p (.lst (xs.set j v)))
theorem set_list:PSet X rSetL:=by
 intro pins s σ H o i v ov iv u Q I ro ri rv h
 obtain⟨p,xs,k,j,rfl,rfl,hp,hj,q⟩:=h
 cases ro
 obtain⟨t,rfl⟩:=ri
 obtain⟨fw,n,r,ho,hz⟩:=I.lst hp
 obtain⟨h1,h2,h3,h4⟩:=ixN_seq hj
 have hl:=r.length
 have hn:=line63
 have I':Inv X pins σ (upd H p (.lst (xs.set j v))) { s with heap:=s.heap.update p (Obj.mapSeq (·.setIfInBounds j u))} :=
  I.lstUpd hp ho (mapSeq_set fw n j u) (r.set rv j) (by rw[bL];exact hz) s.toks
 by_cases h0:0<=k
 ·have hk:k.toNat=j:=by
   rw[seqIndex_of h0 h4]at h1
   exact aB h1
  exact PySem.W.ki_setAt ho h0 (by omega) (by rw[ah,<- hl];exact h4) (by rw[hk];exact⟨_,I',q⟩)
 ·have hk:(k+(fw.toArray.size:Int)).toNat=j:=by
   rw[seqIndex_neg (by omega) h3]at h1
   rw[ah,<- hl]
   exact aB h1
  exact PySem.W.ki_setBack ho (by omega) (by rw[ah,<- hl];exact h3) (by omega) (by rw[hk];exact⟨_,I',q⟩)
theorem slice_bounds (lo hi:Option Int)(n:Nat):(sliceBounds lo hi none n).1=((HT.sIx n 0 lo:Nat):Int)/\(sliceBounds lo hi none n).2.1=((HT.sIx n n hi:Nat):Int)/\(sliceBounds lo hi none n).2.2=1:=by
 refine⟨?_,?_,rfl⟩
 ·cases lo with
  | none=>simp[sliceBounds,HT.sIx]
  | some i =>
   simp only[sliceBounds,HT.sIx,Option.getD_none,show(1:Int)>0 by decide,if_true]
   by_cases h:i<0
   ·simp only[h,if_true]<;> omega
   ·simp only[h,if_false]<;> omega
 ·cases hi with
  | none=>simp[sliceBounds,HT.sIx]
  | some i =>
   simp only[sliceBounds,HT.sIx,Option.getD_none,show(1:Int)>0 by decide,if_true]
   by_cases h:i<0
   ·simp only[h,if_true]<;> omega
   ·simp only[h,if_false]<;> omega
theorem slicePick_cut (fw:List Value)(lo hi:Option Int):slicePick fw.toArray lo hi none=((fw.drop (HT.sIx fw.length 0 lo)).take (HT.sIx fw.length fw.length hi - HT.sIx fw.length 0 lo)).toArray:=by
 obtain⟨h1,h2,h3⟩:=slice_bounds lo hi fw.toArray.size
 unfold slicePick
 rw[h1,h2,h3]
 simp only[sliceRange_one,pick_run,ah]<;> rfl
def rSlL (K:PySem.W.Frag):V->Option Int->Option Int->Hp->VK->Prop:=fun x lo hi H Q=>∃ a xs,x=.ref a/\SqL K H a xs/\∀ p,H p=none->Q (.ref p) (upd H p (.lst (cutV xs lo hi)))
theorem sl_list:SlR X (rSlL X.K):=by
 intro pins s σ H x v vl vu lo hi sl Q I rx hs pl pu h
 obtain⟨a,xs,rfl,hx,q⟩:=h
 cases rx
 obtain⟨fw,r,ht,hz⟩:=I.list hx
 have hlen:=r.length
 refine⟨"list",_,slot_list_getitem.lookup,ht.isList.typeIs,?_⟩
 refine wpAny_getItem_list_slice ht.isList hs pl pu .none (by simp) ?_ (by rw[ah]<;> omega)
 rw[slicePick_cut,<- hlen]
 refine⟨.ref s.heap.objs.size,_,I.laid (t':=s.toks) (o:=.lst (cutV xs lo hi)) (fun b ob q=>gxL _ q) (ae _) ?_,rfl,q _ (I.hok.fresh (ae _))⟩
 exact⟨aL (cutV_length xs lo hi) hz,_,0,(r.drop (HT.sIx xs.length 0 lo)).take (HT.sIx xs.length xs.length hi - HT.sIx xs.length 0 lo),ak _ rfl⟩
def flatV:V->Bool
 | .non=>true
 | .bl _=>true
 | .int _=>true
 | .str _=>true
 | _=>false
def eqV:V->V->Bool
 | .non,.non=>true
 | .bl a,.bl b=>a==b
 | .bl a,.int b=>(if a then 1 else 0)==b
 | .int a,.bl b=>a==(if b then 1 else 0)
 | .int a,.int b=>a==b
 | .str a,.str b=>a==b
 | _,_=>false
theorem eqAt_V {A:Around}{s:Shared}{y x:V}{u v:Value}(ry:RelV y u)(rx:RelV x v)(fy:flatV y=true)(fx:flatV x=true):SeqAt.EqAt A s u v (eqV y x):=by
 cases y with
 | non =>
  cases ry
  cases x with
  | non=>cases rx;exact SeqAt.EqAt.same _
  | bl b=>cases rx;exact SeqAt.EqAt.none_bool b
  | int b=>obtain⟨t,rfl⟩:=rx;exact SeqAt.EqAt.none_int b t
  | str b=>obtain⟨t,rfl⟩:=rx;exact SeqAt.EqAt.none_str b t
  | _=>exact absurd (show false=true from fx) av
 | bl a =>
  cases ry
  cases x with
  | non=>cases rx;exact SeqAt.EqAt.bool_none a
  | bl b=>cases rx;exact SeqAt.EqAt.bool_bool a b
  | int b=>obtain⟨t,rfl⟩:=rx;exact SeqAt.EqAt.bool_int a b t
  | str b=>obtain⟨t,rfl⟩:=rx;exact SeqAt.EqAt.bool_str a b t
  | _=>exact absurd (show false=true from fx) av
 | int a =>
  obtain⟨t',rfl⟩:=ry
  cases x with
  | non=>cases rx;exact SeqAt.EqAt.int_none a t'
  | bl b=>cases rx;exact SeqAt.EqAt.int_bool a t' b
  | int b=>obtain⟨t,rfl⟩:=rx;exact SeqAt.EqAt.int_int a t' b t
  | str b=>obtain⟨t,rfl⟩:=rx;exact SeqAt.EqAt.int_str a t' b t
  | _=>exact absurd (show false=true from fx) av
 | str a =>
  obtain⟨t',rfl⟩:=ry
  cases x with
  | non=>cases rx;exact SeqAt.EqAt.str_none a t'
  | bl b=>cases rx;exact SeqAt.EqAt.str_bool a t' b
  | int b=>obtain⟨t,rfl⟩:=rx;exact SeqAt.EqAt.str_int a t' b t
  | str b=>obtain⟨t,rfl⟩:=rx;exact SeqAt.EqAt.str_str a t' b t
  | _=>exact absurd (show false=true from fx) av
 | _=>exact absurd (show false=true from fy) av
def eqU (x:V)(u:Value):Bool:=match u with
 | .none=>eqV .non x
 | .bool b=>eqV (.bl b) x
 | .int i _=>eqV (.int i) x
 | .str z _=>eqV (.str z) x
 | _=>false
theorem eqU_of {x y:V}{u:Value}(r:RelV y u)(f:flatV y=true):eqU x u=eqV y x:=by
 cases y with
 | non=>cases r;rfl
 | bl b=>cases r;rfl
 | int i=>obtain⟨t,rfl⟩:=r;rfl
 | str z=>obtain⟨t,rfl⟩:=r;rfl
 | _=>exact absurd (show false=true from f) av
theorem any_eqU {x:V}:∀ {xs:List V} {us:List Value},Vals xs us->xs.all flatV=true->us.any (eqU x)=xs.any fun y=>eqV y x
 | _,_,.nil,_=>rfl
 | y::xs,u::us,.cons r t,f=>by
  rw[cn,bh]at f
  rw[cY,cY,eqU_of r f.1,any_eqU t f.2]
theorem mem_eqAt {A:Around}{s:Shared}{x:V}{v:Value}(rx:RelV x v)(fx:flatV x=true):∀ {xs:List V} {us:List Value},Vals xs us->xs.all flatV=true->∀ u∈us,SeqAt.EqAt A s u v (eqU x u)
 | _,_,.nil,_=>fun u hu=>by cases hu
 | y::xs,u::us,.cons r t,f=>fun u' hu=>by
  rw[cn,bh]at f
  rcases List.mem_cons.mp hu with rfl | hu
  ·rw[eqU_of r f.1];exact eqAt_V r rx f.1 fx
  ·exact mem_eqAt rx fx t f.2 u' hu
def inV (x:V)(xs:List V):Bool:=xs.any fun y=>eqV y x
def rIn (K:PySem.W.Frag)(neg:Bool):R2:=fun x y H Q=>∃ p xs,y=.ref p/\(SqL K H p xs\/SqT K H p xs)/\flatV x=true/\xs.all flatV=true/\Q (.bl (if neg then !inV x xs else inV x xs)) H
theorem op_in_seq:OpR X (compareOp .In) (rIn X.K false):=by
 intro pins s σ H x y v u Q I rx ry h
 obtain⟨p,xs,rfl,hq,fx,fs,q⟩:=h
 cases ry
 rcases hq with hq | hq
 ·obtain⟨fw,r,pl,hz⟩:=I.list hq
  refine SeqAt.in_listAt (eqU x) pl.isList (fun w hw=>mem_eqAt rx fx r fs w (by simpa using hw)) ⟨.bl _,H,I,rfl,?_⟩
  rw[show fw.toArray.any (eqU x)=fw.any (eqU x) by simp,any_eqU r fs]
  exact q
 ·obtain⟨fw,r,pl,hz⟩:=I.tuple hq
  refine SeqAt.in_tupleAt (eqU x) pl (fun w hw=>mem_eqAt rx fx r fs w (by simpa using hw)) ⟨.bl _,H,I,rfl,?_⟩
  rw[show fw.toArray.any (eqU x)=fw.any (eqU x) by simp,any_eqU r fs]
  exact q
theorem op_notIn_seq:OpR X (compareOp .NotIn) (rIn X.K true):=by
 intro pins s σ H x y v u Q I rx ry h
 obtain⟨p,xs,rfl,hq,fx,fs,q⟩:=h
 cases ry
 rcases hq with hq | hq
 ·obtain⟨fw,r,pl,hz⟩:=I.list hq
  refine SeqAt.notIn_listAt (eqU x) pl.isList (fun w hw=>mem_eqAt rx fx r fs w (by simpa using hw)) ⟨.bl _,H,I,rfl,?_⟩
  rw[show fw.toArray.any (eqU x)=fw.any (eqU x) by simp,any_eqU r fs]
  exact q
 ·obtain⟨fw,r,pl,hz⟩:=I.tuple hq
  refine SeqAt.notIn_tupleAt (eqU x) pl (fun w hw=>mem_eqAt rx fx r fs w (by simpa using hw)) ⟨.bl _,H,I,rfl,?_⟩
  rw[show fw.toArray.any (eqU x)=fw.any (eqU x) by simp,any_eqU r fs]
  exact q
theorem op_notIn_str:OpR X (compareOp .NotIn) (fun x y H Q=>∃ i j,x=.str i/\y=.str j/\Q (.bl (!(!(Builtin.Str.occurrences j i 0 j.length 1).isEmpty))) H):=by
 intro pins s σ H x y v u Q I rx ry h
 obtain⟨i,j,rfl,rfl,q⟩:=h
 obtain⟨t,rfl⟩:=rx
 obtain⟨t',rfl⟩:=ry
 exact notIn_str ⟨.bl _,H,I,rfl,q⟩
theorem call_len_seq:CallR X (.builtin "len") (fun xs H Q=>∃ p ys,xs=[.ref p]/\(SqL X.K H p ys\/SqT X.K H p ys)/\Q (.int ys.length) H):=by
 intro pins s σ H xs us Q I r h
 obtain⟨p,ys,rfl,hq,q⟩:=h
 obtain⟨u,rfl,rx⟩:=vals1 r
 cases rx
 have hn:=line63
 rcases hq with hq | hq
 ·obtain⟨fw,r',pl,hz⟩:=I.list hq
  have hlen:=r'.length
  exact Calls.call_len_list pl.isList (by simp only[ah]<;> omega) ⟨.int ys.length,H,I.tok _,⟨s.toks+1,by rw[ah,hlen]⟩,q⟩
 ·obtain⟨fw,r',pl,hz⟩:=I.tuple hq
  have hlen:=r'.length
  exact len_tuple pl (by simp only[ah]<;> omega) ⟨.int ys.length,H,I.tok _,⟨s.toks+1,by rw[ah,hlen]⟩,q⟩
theorem call_len_str:CallR X (.builtin "len") (fun xs H Q=>∃ z,xs=[.str z]/\z.length<=sizeLine/\Q (.int z.length) H):=by
 intro pins s σ H xs us Q I r h
 obtain⟨z,rfl,hz,q⟩:=h
 obtain⟨u,rfl,t,rfl⟩:=vals1 r
 have hn:=line63
 exact len_str (by omega) ⟨.int z.length,H,I.tok _,⟨_,rfl⟩,q⟩
theorem CallR.or {f:Value}{r r':List V->Hp->VK->Prop}(h:CallR X f r)(h':CallR X f r'):CallR X f (fun xs H Q=>r xs H Q\/r' xs H Q):=by
 intro pins s σ H xs us Q I rs q
 rcases q with q | q
 ·exact h pins s σ H xs us Q I rs q
 ·exact h' pins s σ H xs us Q I rs q
theorem call_list_of:CallR X (.type "list") (fun xs H Q=>∃ p ys,xs=[.ref p]/\(SqL X.K H p ys\/SqT X.K H p ys)/\∀ l,H l=none->Q (.ref l) (upd H l (.lst ys))):=by
 intro pins s σ H xs us Q I r h
 obtain⟨p,ys,rfl,hq,q⟩:=h
 obtain⟨u,rfl,rx⟩:=vals1 r
 cases rx
 have fin:∀(fw:List Value),Vals ys fw->ys.length<=sizeLine->∀(h':Heap) (c':Nat),(∀ b o',s.heap.get? b=some o'->h'.get? b=some o') ->
  h'.get? s.heap.objs.size=some { cls:=.type "list",dict:=none,data:=.seq fw.toArray c',slots:=#[]}->EP X pins σ Q (.ref s.heap.objs.size) { s with heap:=h'}:=fun fw r' hz h' c' kp e =>
  ⟨.ref s.heap.objs.size,_,I.laid (t':=s.toks) kp (ae _) (show ObjOk X.prog X.w _ h' _ (.lst ys)from⟨hz,fw,c',r',e⟩),rfl,q _ (I.hok.fresh (ae _))⟩
 rcases hq with hq | hq
 ·obtain⟨fw,r',pl,hz⟩:=I.list hq
  have hlen:=r'.length
  obtain⟨o,ho,hc,n,hd⟩:=pl.isList
  exact call_list_seq p (.inl rfl) ho hc hd (fun h' c' kp e=>fin fw r' hz h' c' kp e) (by simp only[ah]<;> omega)
 ·obtain⟨fw,r',pl,hz⟩:=I.tuple hq
  have hlen:=r'.length
  obtain⟨o,ho,hc,n,hd⟩:=pl
  exact call_list_seq p (.inr rfl) ho hc hd (fun h' c' kp e=>fin fw r' hz h' c' kp e) (by simp only[ah]<;> omega)
def tyV (K:PySem.W.Frag)(T:String)(x:V)(H:Hp):Prop:=match x with
 | .str _=>T = "str"
 | .int _=>T = "int"
 | .ref p=>(T = "list"/\∃ xs,SqL K H p xs)\/(T = "tuple"/\∃ o,K.lookup p=some o/\o.cls=.type "tuple"/\o.dict=none) \/
  (T = "dict"/\((∃ eW,H p=some (.dK eW))\/∃ eW,H p=some (.dT eW)))\/(T = "set"/\∃ S n,H p=some (.set S n))
 | _=>False
theorem tyV_is {pins:List (Addr×Obj)}{σ:St}{H:Hp}{s:Shared}{T:String}{x:V}{v:Value}(I:Inv X pins σ H s)(r:RelV x v)(ty:tyV X.K T x H) :
 s.TypeIs v T/\∀ a,v=.ref a->∃ ob,s.heap.get? a=some ob/\ob.dict=none:=by
 cases x with
 | str z =>
  obtain⟨t,rfl⟩:=r
  cases(show T = "str" from ty)
  exact⟨typeIs_str s z t,fun _ e=>nomatch e⟩
 | int i =>
  obtain⟨t,rfl⟩:=r
  cases(show T = "int" from ty)
  exact⟨typeIs_int s i t,fun _ e=>nomatch e⟩
 | ref p =>
  cases r
  rcases ty with⟨rfl,xs,hq⟩ | ⟨rfl,o,hk,hc,hd⟩ | ⟨rfl,hk⟩ | ⟨rfl,S,n,hk⟩
  ·obtain⟨fw,_,pl,_⟩:=I.list hq
   refine⟨pl.isList.typeIs,fun a e=>?_⟩
   cases e
   obtain⟨o,n,e,c,hd,_⟩:=pl
   exact⟨o,e,hd⟩
  ·refine⟨⟨o,I.kIn p o hk,hc⟩,fun a e=>?_⟩
   cases e
   exact⟨o,I.kIn _ o hk,hd⟩
  ·have z:∃ o,s.heap.get? p=some o/\o.ExactDict:=by
    rcases hk with⟨eW,hk⟩ | ⟨eW,hk⟩
    ·obtain⟨_,_,_,_,o,_,_,e,ex,_⟩:=I.hok p _ hk
     exact⟨o,e,ex⟩
    ·obtain⟨_,_,_,_,o,_,_,e,ex,_⟩:=I.hok p _ hk
     exact⟨o,e,ex⟩
   obtain⟨o,e,ex⟩:=z
   refine⟨⟨o,e,ex.1⟩,fun a e2=>?_⟩
   cases e2
   exact⟨o,e,ex.2.1⟩
  ·obtain⟨o,_,_,_,e,ex,_⟩:=I.hok p _ hk
   refine⟨⟨o,e,ex.1⟩,fun a e2=>?_⟩
   cases e2
   exact⟨o,e,ex.2.1⟩
 | _=>exact False.elim ty
def tBM (K:PySem.W.Frag)(T:String)(r:V->List V->Hp->VK->Prop)(to:TE)(t:TA):TE:=fun σ H Q=>to σ H fun x H1=>tyV K T x H1/\t σ H1 fun xs H2=>r x xs H2 Q
variable {o e:Expr}{es:List Expr}{to:TE}{t:TA}{name:Str}{apos cpos:Pos}{T id:String}{r:V->List V->Hp->VK->Prop}
theorem pe_bm (pa:PlainAttrs T)(slot:Slot T name id)(hty:typeOf (.builtin id)=pure (.type "method_descriptor"))(hm:MtR X id r)(ho:PE X o to)(ha:PA X (e::es) t)
 (hbase:attributeBase o name X.env (eval o X.env)=eval o X.env:=by rfl)
 (hfew:((backTo cpos (starEach (e::es) X.env)).all (fun x=>!x.1)&&(backToKw cpos (keywordEach [] X.env)).all (fun x=>x.1.isSome)
   && decide ((e::es).length+([]:List Keyword).length+(if([]:List Keyword).isEmpty then 0 else 1)<30))=true:=by rfl)
 (hline:(apos.endLine==cpos.line)=true:=by rfl) (hs:starEach (e::es) X.env=(false,eval e X.env)::starEach es X.env:=by rfl) (hplain:(backTo cpos (starEach es X.env)).any (·.1)=false:=by rfl) :
 PE X (.Call (.Attribute o name apos) (e::es) [] cpos) (tBM X.K T r to t):=by
 intro pins s σ H Q I h
 refine wpAny_Call_method_late hbase hfew hline rfl (thn (ho pins s σ H _ I h) fun v s1 hq1=>?_)
 obtain⟨x,H1,I1,r1,ty,q1⟩:=hq1
 obtain⟨h1,h2⟩:=tyV_is I1 r1 ty
 refine⟨T,id,pa,slot,hty,h1,h2,?_⟩
 have hA:=ha cpos pins s1 σ H1 _ I1 q1
 rw[hs]at hA ⊢
 refine Calls.callWith_builtin (by show(false||(backTo cpos (starEach es X.env)).any (·.1))=false;rw[hplain]<;> rfl) (Calls.evalArgs_plain ?_)
 exact thn hA fun us s2 hq2=>by obtain⟨vs,H2,I2,r2,q2⟩:=hq2;exact hm pins s2 σ H2 x vs v us Q I2 r1 r2 q2
end
def MtM (X:Cx)(id:String)(r:V->List V->Hp->VK->Prop):Prop :=
 ∀(pins:List (Addr×Obj)) (s:Shared) (σ:St) (H:Hp) (x:V) (xs:List V) (v:Value) (us:List Value) (Q:VK),Inv X pins σ H s->RelV x v->Vals xs us->r x xs H Q ->
  wpAny (model X.prog X.w) X.A (call (.builtin id) (v::us)) (EP X pins σ Q) X.xe s
theorem Vals.one {x:V}{us:List Value}(h:Vals [x] us):∃ u,us=[u]/\RelV x u:=by
 cases h with
 | cons r t=>cases t;exact⟨_,rfl,r⟩
theorem Vals.two {x y:V}{us:List Value}(h:Vals [x,y] us):∃ u v,us=[u,v]/\RelV x u/\RelV y v:=by
 cases h with
 | cons r t=>obtain⟨v,rfl,q⟩:=Vals.one t;exact⟨_,v,rfl,r,q⟩
theorem Vals.reverse {xs:List V}{us:List Value}(h:Vals xs us):Vals xs.reverse us.reverse:=by
 induction h with
 | nil=>exact .nil
 | cons r t ih=>rw[dU,dU];exact Vals.append ih (.cons r .nil)
section
variable {X:Cx}{pins:List (Addr×Obj)}{σ:St}{H:Hp}{s:Shared}{l b:Addr}{xs ys zs:List V}
theorem Inv.lset {fw its':List Value}{n:Nat}{f:Array Value->Array Value}{t':Nat}(I:Inv X pins σ H s)(hH:H l=some (.lst xs))
 (e:s.heap.get? l=some { cls:=.type "list",data:=.seq fw.toArray n}) (hf:f fw.toArray=its'.toArray) (hv:Vals ys its') (hz:ys.length<=sizeLine) :
 Inv X pins σ (upd H l (.lst ys)) { s with heap:=s.heap.update l (Obj.mapSeq f),toks:=t'}:=by
 have q:=PySem.IsL.update e f
 rw[hf]at q
 refine I.write (x:=l) (e:=l) (by rw[hH];exact trivial) (.inl rfl) (fun b' u hb hu=>(aI s.heap (Obj.mapSeq f) (aY hb)).trans hu) ⟨_,q⟩ ?_
 exact⟨hz,its',_,hv,q⟩
theorem Inv.lnew {fw:List Value}{t':Nat}(I:Inv X pins σ H s)(hv:Vals ys fw)(hz:ys.length<=sizeLine) :
 Inv X pins σ (upd H s.heap.objs.size (.lst ys)) { s with heap:=s.heap.push { cls:=.type "list",data:=.seq fw.toArray},toks:=t'} :=
 I.laid (fun _ _ q=>gxL _ q) (ae _) ⟨hz,fw,0,hv,ak _ rfl⟩
theorem Inv.fresh (I:Inv X pins σ H s):H s.heap.objs.size=none:=I.hok.fresh (ae _)
theorem Inv.lstM (I:Inv X pins σ H s)(hH:H l=some (.lst xs)):xs.length<=sizeLine/\∃(fw:List Value) (n:Nat),Vals xs fw/\xs.length=fw.length/\s.heap.get? l=some { cls:=.type "list",data:=.seq fw.toArray n}:=by
 obtain⟨z,fw,n,r,e⟩:=I.hok l _ hH
 exact⟨z,fw,n,r,r.length,e⟩
theorem notLongL {n:Nat}(h:n<=sizeLine):Builtin.List.listTooLong n=false:=by
 unfold Builtin.List.listTooLong
 exact aT (by omega)
end
section
variable {X:Cx}
def rAppend:V->List V->Hp->VK->Prop:=fun x vs H Q=>∃ l xs y,x=.ref l/\vs=[y]/\H l=some (.lst xs)/\xs.length<sizeLine/\Q .non (upd H l (.lst (xs++[y])))
theorem mt_append:MtM X "list.append" rAppend:=by
 intro pins s σ H x vs v us Q I rx rv h
 obtain⟨l,xs,y,rfl,rfl,hH,hz,q⟩:=h
 cases rx
 obtain⟨u,rfl,ru⟩:=rv.one
 obtain⟨z,fw,n,r,hl,e⟩:=I.lstM hH
 refine call_meets F.slot_list_append ⟨_,e,rfl⟩ F.entry_list_append (F.args_list_append_2 _ _) (PySem.list_append l fw.toArray n u (by rw[ah];omega)) ⟨e,?_⟩
 refine⟨.non,_,I.lset (its':=fw++[u]) hH e (by simp) (r.append (.cons ru .nil)) ?_,rfl,q⟩
 rw[gxE,bE]
 omega
def rExtend:V->List V->Hp->VK->Prop:=fun x vs H Q=>∃ l b xs zs,x=.ref l/\vs=[.ref b]/\H l=some (.lst xs)/\H b=some (.lst zs)/\xs.length+zs.length<=sizeLine/\Q .non (upd H l (.lst (xs++zs)))
theorem mt_extend:MtM X "list.extend" rExtend:=by
 intro pins s σ H x vs v us Q I rx rv h
 obtain⟨l,b,xs,zs,rfl,rfl,hH,hB,hz,q⟩:=h
 cases rx
 obtain⟨u,rfl,ru⟩:=rv.one
 cases ru
 obtain⟨z,fw,n,r,hl,e⟩:=I.lstM hH
 obtain⟨z2,its2,n2,r2,hl2,e2⟩:=I.lstM hB
 have hsz:fw.toArray.size+its2.toArray.size<=sizeLine:=by rw[ah,ah];omega
 have hlong:¬ (!fw.toArray.isEmpty&&Builtin.List.listTooLong (fw.toArray.size+its2.toArray.size))=true:=by
  rw[notLongL hsz,d4]
  exact av
 refine call_meets F.slot_list_extend ⟨_,e,rfl⟩ F.entry_list_extend (F.args_list_extend_2 _ _)
  (AutoSeq1.list_extend_list_list_0 l fw.toArray n b its2.toArray n2 hlong (by rw[ah];omega) (by omega)) ⟨e,e2,?_⟩
 refine⟨.non,_,I.lset (its':=fw++its2) hH e (by simp) (r.append r2) ?_,rfl,q⟩
 rw[gxE]
 omega
def rCat:R2:=fun x y H Q=>∃ l b xs zs,x=.ref l/\y=.ref b/\H l=some (.lst xs)/\H b=some (.lst zs)/\xs.length+zs.length<=sizeLine/\∀ p,H p=none->Q (.ref p) (upd H p (.lst (xs++zs)))
theorem op_cat:OpR X (binaryOp .Add) rCat:=by
 intro pins s σ H x y v u Q I rx ry h
 obtain⟨l,b,xs,zs,rfl,rfl,hH,hB,hz,q⟩:=h
 cases rx
 cases ry
 obtain⟨z,fw,n,r,hl,e⟩:=I.lstM hH
 obtain⟨z2,its2,n2,r2,hl2,e2⟩:=I.lstM hB
 refine PySem.P.add_list e e2 ?_ (by rw[ah,ah];omega)
 have ea:fw.toArray++its2.toArray=(fw++its2).toArray:=by simp
 rw[ea]
 exact⟨.ref _,_,I.lnew (t':=s.toks) (r.append r2) (by rw[gxE];omega),rfl,q _ I.fresh⟩
end
end L2
namespace Att
open PySem PySem.W PySem.Calls PyProof.Rows
theorem ints_of_wellAll {P:Params}{h:Heap}:∀(ns:List Int) (vs:List Value),WellAll P h vs (ns.map WData.int)->IntsAre vs ns:=by
 intro ns
 induction ns with
 | nil =>
  intro vs w
  rw[List.map_nil]at w
  cases w
  exact .nil
 | cons n ns ih =>
  intro vs w
  rw[ag]at w
  cases w with
  | cons a b =>
   cases a
   exact .cons _ _ (ih _ b)
theorem script_of {l:OpenLaw}{n:Nat}(hn:l.most=some n){P:Params}{h:Heap}{args:List WData}{vals:List Value}
 (hpre:l.row.toRowW.claim.pre args=true) (hwl:WellAll P h vals args) :
 ∃ a vs ns,vals=[Value.ref a]/\args=[WData.list (ns.map WData.int)]/\h.get? a=some { cls:=.type "list",data:=.seq vs.toArray}/\IntsAre vs ns/\ns.length<=n:=by
 have hsh:WShape.hasAll [] args [.list .int]=true:=(pre_splitW hpre).1
 have hc:l.pre.holds [] { args:=args}=true:=(pre_splitW hpre).2
 obtain⟨d,r,rfl,h1,h2⟩:=hasAllW_cons hsh
 obtain rfl:=hasAllW_nil h2
 obtain⟨xs,rfl,h3⟩:=hasW_list h1
 obtain⟨ns,rfl⟩:=items_int h3
 have hlen:ns.length<=n:=by
  unfold OpenLaw.pre at hc
  have h4:(WTm.not (.lt (.lit (.int (n:Int))) (.len (.arg 0)))).holds [] { args:=[.list (ns.map .int)]}=true:=by
   have h4:=(holds_andW hc).1
   rw[hn]at h4
   exact h4
  have h5:=condW_of h4 (w_not (w_lt w_lit (w_len_list (w_arg rfl))))
  rw[gxC]at h5
  refine Nat.le_of_not_lt fun q=>?_
  have q':(n:Int)<((ns.length:Nat):Int):=by omega
  first
   | (rw[aE q']at h5;exact absurd h5 (by decide))
   | (simp at h5;omega)
 cases hwl with
 | cons w1 w2 =>
  cases w2
  cases w1 with
  | list ho hall=>exact⟨_,_,ns,rfl,rfl,ho,ints_of_wellAll ns _ hall,hlen⟩
theorem post_true (l:OpenLaw)(args:List WData):l.row.toRowW.claim.post args (.bool true) args=true :=
 postW_of (r:=l.row.toRowW) (X:=(true==true))
  (show WShape.has [] (.bool true) .bool=true by first | rfl | decide | simp[WShape.has,WShape.arms,WShape.armsAll])
  (show(WTm.eq .res (.lit (.bool true))).value [] { args:=args,res:=some (.bool true),after:=args}=some (.bool (true==true))from w_eq_bool (w_res rfl) w_lit) rfl
theorem attach_call {l:OpenLaw}{n:Nat}{q:Program}{loose:List Str}{XP:(Str->Option Value)->Heap->Prop}{YP:World->Heap->Prop}{d:DefRec}
 (hn:l.most=some n) (hdf:d.params.defaults=[])
 (call:∀(w:World) (s₀ s₁:Shared) (mg mb:Str->Option Value) (fa:Addr) (o:Obj) (pm cd doc:Value) (a:Addr) (vs:List Value) (ns:List Int),
   Ground q loose [] XP w s₀ mg mb s₁.heap->YP w s₁.heap ->
   s₁.heap.get? fa=some o->o.data=.func (docDef d.name d.params d.body d.scope pm cd doc)->s₁.heap.CodeRec cd d.name->mg d.name=some (.ref fa) ->
   s₁.heap.get? a=some { cls:=.type "list",data:=.seq vs.toArray}->IntsAre vs ns->ns.length<=n->s₁.gens=#[] ->
   codeAny (model l.prog w) callerA (.call (.ref fa) ⟨[.ref a],[]⟩) (fun r s'=>r=.ok (.ret (.bool true))/\OldK s₁.heap s'.heap/\s'.os=s₁.os/\AllBare s'.gens) s₁) :
 WalkO q loose XP YP l.row.toRowW d [] (fun f vs=>PySem.call f vs):=by
 intro w s₀ s₁ mg mb G Y fa o pm cd doc dV kV ho hd hcd hD hmg hg args vals as hpre hlay hrd hwl hlo
 obtain rfl:dV=.none:=Dflts.none hD hdf
 obtain rfl:kV=.none:=Dflts.noKw hD
 obtain⟨a,vs,ns,rfl,rfl,hobj,hints,hlen⟩:=script_of hn hpre hwl
 refine enter_call (codeAny_mono (call w s₀ s₁ mg mb fa o pm cd doc a vs ns G Y ho (fd_plain hd) hcd hmg hobj hints hlen hg) fun r s' hq=>?_)
 obtain⟨rfl,h2,h3,h4⟩:=hq
 exact⟨.inl ⟨.bool true,.bool true,[],rfl,fun _=>rfl,.bool true,post_true l _,fun _=>⟨List.Pairwise.nil,fun _ hm=>(nomatch hm)⟩⟩,h2,h3,h4⟩
end Att
namespace L2
open PySem PySem.Spec PyProof.Rows
theorem vals_ints {vs:List Value}{ns:List Int}(h:IntsAre vs ns):Vals (ns.map V.int) vs:=by
 induction h with
 | nil=>exact .nil
 | cons n t h ih=>exact .cons ⟨t,rfl⟩ ih
def Only (H:Hp):Prop:=∀ b,H b=none\/∃ o xs,H b=some (.frz o (.lst xs))
theorem law_call {P:Program}{w:World}{K:PySem.W.Frag}{mg mb:Str->Option Value}{CX:CXT}{k:Nat}{fa a:Addr}{fd:FuncData}{x:Str}{sp:Sp}{s₁:Shared}{vs:List Value}{ns:List Int}
 (KX:K.In s₁.heap) (hns:s₁.heap.Ns mainGlobals mg) (hb:s₁.heap.Ns builtinsNs mb) (hbb:∀ x:Str,x ≠ "__name__"->mb x=bootBuiltins x) (hlim:s₁.heap.NoLimit) (hg:s₁.gens=#[])
 (ha:s₁.heap.get? a=some { cls:=.type "list",data:=.seq vs.toArray}) (hi:IntsAre vs ns) (hl:ns.length<=sizeLine) (hr:Room k callerA)
 (F:∀ base:Heap,K.In base->base.Ns mainGlobals mg->FnOk P w K mg base CX k fa fd [x] sp) (hbind:∀(s:Shared) (u:Value),BindsTo s fd ⟨[u],[]⟩ [(x,u)])
 (hsp:∀ H:Hp,Only H->SqL K H a (ns.map V.int)->sp [.ref a] H (fun v _=>v=.bl true) fun _ _ _=>False)
 (hCX:∀ H e s',CX [] H s₁ (fun _ _ _=>False) e s'->False) :
 codeAny (model P w) callerA (.call (.ref fa) ⟨[.ref a],[]⟩) (fun r s'=>r=.ok (.ret (.bool true))/\OldK s₁.heap s'.heap/\s'.os=s₁.os/\AllBare s'.gens) s₁:=by
 have rv:=vals_ints hi
 have lenV:=hi.length
 have core:∀ H:Hp,Only H->SqL K H a (ns.map V.int)->HOk P w H s₁.heap->(∀ b,H b≠none->b=a)->(H a≠none->K.lookup a=none) ->
  codeAny (model P w) callerA (.call (.ref fa) ⟨[.ref a],[]⟩) (fun r s'=>r=.ok (.ret (.bool true))/\OldK s₁.heap s'.heap/\s'.os=s₁.os/\AllBare s'.gens) s₁:=by
  intro H hO hS hok hA hK
  have base_of:∀ {b:Addr} {o:Obj},s₁.heap.get? b=some o->H b=none->(hidT s₁.heap H).get? b=some o:=fun e n=>hidT_get e n
  have noA:∀ {b:Addr} {o:Obj} {es:Array DictEntry} {ep:Nat},s₁.heap.get? b=some o->o.data=.dict es ep->H b=none:=fun {b o es ep} e d=>by
   cases q:H b with
   | none=>rfl
   | some u =>
    have e':b=a:=hA b (by rw[q];simp)
    subst e'
    rw[ha]at e;cases e
    have d':Data.seq vs.toArray _=Data.dict es ep:=d
    cases d'
  have nsK:∀ {b:Addr} {m:Str->Option Value},s₁.heap.Ns b m->(hidT s₁.heap H).Ns b m:=fun {b m} hq3=>by obtain⟨o,es,ep,e,d,r⟩:=hq3;exact⟨o,es,ep,base_of e (noA e d),d,r⟩
  have hKb:K.In (hidT s₁.heap H):=fun b o e=>base_of (KX b o e) (by
   cases q:H b with
   | none=>rfl
   | some u =>
    have e':b=a:=hA b (by rw[q];simp)
    subst e'
    rw[hK (by rw[q];simp)]at e;cases e)
  have hM:Mod K mg (hidT s₁.heap H):=⟨hKb,nsK hns,⟨mb,nsK hb,hbb⟩,let ⟨mc,h1,h2⟩:=hlim;⟨mc,nsK h1,h2⟩⟩
  have e0:Env0 P w K mg (hidT s₁.heap H) callerA [] s₁ H:=⟨rfl,hM,fun b o e=>of_hidT e,Nat.le_of_eq (hidT_size _ _),trivial,fun b hb=>absurd (show b∈([]:List Addr)from hb) (by simp),hok,.of_eq hg⟩
  refine codeAny_mono ((F _ hKb (nsK hns)).run callerA [] s₁ H ⟨[.ref a],[]⟩ [.ref a] [.ref a] _ _ hr e0 (hbind s₁ (.ref a)) (.cons rfl .nil) (hsp H hO hS)) fun r s' h=>?_
  cases r with
  | error e=>exact(hCX H e s' h).elim
  | ok fl =>
   cases fl with
   | next=>exact False.elim h
   | brk=>exact False.elim h
   | cont=>exact False.elim h
   | ret u =>
    obtain⟨v,H',os,bare,un,hok',r',q⟩:=h
    have q':v=.bl true:=q
    subst q'
    obtain rfl:u=Value.bool true:=r'
    refine⟨rfl,OldK.of_keep fun b o e=>?_,os,bare⟩
    cases q:H b with
    | none=>exact un.keep b o e q (by intro z;exact absurd (show b∈([]:List Addr)from z) (by simp)) (by simp)
    | some u =>
     rcases hO b with z | ⟨ob,xs,z⟩
     ·rw[q]at z;cases z
     ·have z2:=un.frzs b ob _ z
      obtain⟨e1,_⟩:=hok b _ z
      obtain⟨e2,_⟩:=hok' b _ z2
      rw[e]at e1;cases e1
      exact e2
 cases hk:K.lookup a with
 | some o =>
  have e:=KX a o hk
  rw[ha]at e
  cases e
  refine core (fun _=>none) (fun _=>.inl rfl) (.inr ⟨_,vs.toArray,_,hk,rfl,rfl,rfl,by rw[ah,lenV];exact hl,by simpa using rv⟩) (fun b u z=>by have z':(none:Option HO)=some u:=z;cases z') (fun b z=>absurd rfl z) fun z=>absurd rfl z
 | none =>
  refine core (fun b=>if b=a then some (.frz { cls:=.type "list",data:=.seq vs.toArray} (.lst (ns.map V.int)))else none) (fun b=>?_) (.inl (.inr ⟨{ cls:=.type "list",data:=.seq vs.toArray},au rfl⟩)) (fun b u z=>?_) (fun b z=>?_) fun _=>hk
  ·by_cases hb:b=a
   ·exact .inr ⟨_,_,au hb⟩
   ·exact .inl (aq hb)
  ·by_cases hb:b=a
   ·have z':=(au hb).symm.trans z
    cases z'
    subst hb
    exact⟨ha,by rw[gxC];exact hl,vs,_,rv,ha⟩
   ·have z':=(aq hb).symm.trans z
    cases z'
  ·by_cases hb:b=a
   ·exact hb
   ·exact absurd (aq hb) z
theorem walk_of {l:PySem.W.OpenLaw}{n k:Nat}{q:Program}{loose:List Str}{XP:(Str->Option Value)->Heap->Prop}{YP:World->Heap->Prop}{d:DefRec}{K:Params->PySem.W.Frag}{CX:World->CXT}{sp:World->Sp}{x:Str}
 (hn:l.most=some n) (hn2:n<=sizeLine) (hdf:d.params.defaults=[]) (hr:Room k callerA)
 (hY:∀(w:World) (h:Heap),YP w h->(K w.params).In h)
 (F:∀(w:World) (mg:Str->Option Value) (fa:Addr) (h:Heap),(K w.params).In h->h.Ns mainGlobals mg->mg d.name=some (.ref fa) ->
   ∃ fd:FuncData,(∀(s:Shared) (u:Value),BindsTo s fd ⟨[u],[]⟩ [(x,u)]) /\
    ∀ base:Heap,(K w.params).In base->base.Ns mainGlobals mg->FnOk l.prog w (K w.params) mg base (CX w) k fa fd [x] (sp w))
 (hsp:∀(w:World) (H:Hp) (a:Addr) (ns:List Int),ns.length<=n->Only H->SqL (K w.params) H a (ns.map V.int)->sp w [.ref a] H (fun v _=>v=.bl true) fun _ _ _=>False)
 (hCX:∀(w:World) (H:Hp) (s:Shared) (e:Value) (s':Shared),CX w [] H s (fun _ _ _=>False) e s'->False) :
 PySem.W.WalkO q loose XP YP l.row.toRowW d [] (fun f vs=>PySem.call f vs):=by
 refine Att.attach_call hn hdf fun w s₀ s₁ mg mb fa o pm cd doc a vs ns G Y ho hd hcd hmg hobj hints hlen hg=>?_
 have KX:=hY w _ Y
 obtain⟨fd,hb,hF⟩:=F w mg fa _ KX G.T.g hmg
 exact law_call KX G.T.g G.T.b G.T.builtins G.T.nolimit hg hobj hints (aL hlen hn2) hr hF hb (fun H hO hS=>hsp w H a ns hlen hO hS) fun H e s'=>hCX w H s₁ e s'
def defArgs (s:Stmt):Arguments:=match s with
 | .FunctionDef _ a _ _ _ _ _ _ _ _=>a
 | _=>{ posonlyargs:=[],args:=[],vararg:=none,kwonlyargs:=[],kw_defaults:=[],kwarg:=none,defaults:=[]}
def defBody (s:Stmt):List Stmt:=match s with
 | .FunctionDef _ _ b _ _ _ _ _ _ _=>b
 | _=>[]
def eV (s:Stmt):Scope:=match s with
 | .FunctionDef _ _ _ _ _ _ sc _ _ _=>sc
 | _=>{ kind:=.function,names:=[],isGenerator:=false,isCoroutine:=false}
abbrev CX0:CXT:=fun _ _ _ _ _ _=>False
abbrev E0:XK:=fun _ _ _=>False
theorem pass0 {X:Cx}:Passes CX0 X E0:=fun _ _ _ _ _ _ _ h=>h.elim
structure Fun (K:PySem.W.Frag)(x qual:Str)(st:Stmt)(f:Addr)(fd:FuncData):Prop where
 ex:∃(oc:Value) (od:Option Addr) (kV doc pm:Value) (an:Option Addr) (cdv ct:Value) (osl:Array (Option Value)),
  fd=PySem.W.fnOf x qual (defArgs st) (defBody st) (eV st) .none kV doc pm an cdv ct/\K.lookup f=some ⟨oc,od,.func fd,osl⟩/\PySem.W.codeIn K cdv qual=true
 kp:PySem.W.keepIn K (.ref f)=true
section
variable {P:Program}{w:World}{K:PySem.W.Frag}{mg:Str->Option Value}{base:Heap}
theorem Fun.ok {x qual:Str}{st:Stmt}{f:Addr}{fd:FuncData}{N ps:List Str}{k:Nat}{sp:Sp}(F:Fun K x qual st f fd)(S:FnScope N ps (eV st))(len:∀ vs H Q E,sp vs H Q E->vs.length=ps.length)
 (hbody:∀(cdv:Value) (A:Around) (outer:List Env) (s:Shared) (H:Hp) (vs:List V) (Q:VK) (E:XK),Room k (A.deeper (envOfC qual (eV st) s.heap.objs.size f cdv))->sp vs H Q E ->
   ∃ t,PSs (cxOf CX0 P w K mg base N qual (eV st) f cdv A outer s H E).nox (defBody st) t/\t { nx:=fun _ H'=>Q .non H',rt:=Q} (start N vs) H):FnOk P w K mg base CX0 (k+1) f fd ps sp:=by
 obtain⟨oc,od,kV,doc,pm,an,cdv,ct,osl,rfl,lk,hcd⟩:=F.ex
 refine fn_of lk hcd S len fun A outer s H vs Q E hr hsp=>?_
 obtain⟨t,h,q⟩:=hbody cdv A outer s H vs Q E hr hsp
 exact⟨t,h.nox,q⟩
theorem Fun.binds {x qual:Str}{st:Stmt}{f:Addr}{fd:FuncData}{ps:List Str}(F:Fun K x qual st f fd)
 (h:∀(kV doc pm:Value) (an:Option Addr) (cdv ct:Value) (us:List Value),us.length=ps.length->bindArgs (PySem.W.fnOf x qual (defArgs st) (defBody st) (eV st) .none kV doc pm an cdv ct) ⟨us,[]⟩=pure (ps.zip us)):Binds K fd ps []:=by
 obtain⟨oc,od,kV,doc,pm,an,cdv,ct,osl,rfl,lk,hcd⟩:=F.ex
 exact .all (h kV doc pm an cdv ct)
theorem fun_mk {x qual:Str}{st:Stmt}{f:Addr}{oc:Value}{od an:Option Addr}{osl:Array (Option Value)}{kV doc pm cdv ct:Value}(l:K.lookup f=some ⟨oc,od,.func (PySem.W.fnOf x qual (defArgs st) (defBody st) (eV st) .none kV doc pm an cdv ct),osl⟩)
 (c:PySem.W.codeIn K cdv qual=true) (k:PySem.W.keepIn K (.ref f)=true):Fun K x qual st f (PySem.W.fnOf x qual (defArgs st) (defBody st) (eV st) .none kV doc pm an cdv ct):=⟨⟨oc,od,kV,doc,pm,an,cdv,ct,osl,rfl,l,c⟩,k⟩
end
theorem hu_of {A:Around}{k:Nat}(hr:Room k A):A.units+1<cLine:=cF (Nat.add_le_add_left (by decide:1<=64) _) hr.units
theorem iteF {A B:Prop}(h:B):if false=true then A else B:=by
 rw[aq av]
 exact h
theorem iteT {A B:Prop}(h:A):if true=true then A else B:=by
 rw[au rfl]
 exact h
def Same (H H':Hp):Prop:=∀ b o,H b=some o->H' b=some o
theorem Same.refl (H:Hp):Same H H:=fun _ _ h=>h
theorem Same.trans {H H1 H2:Hp}(a:Same H H1)(b:Same H1 H2):Same H H2:=fun c o h=>b c o (a c o h)
theorem Same.free {H H':Hp}(e:Same H H'){l:Addr}(h:H' l=Option.none):H l=Option.none:=by
 cases q:H l with
 | none=>rfl
 | some o =>
  rw[e l o q]at h
  cases h
end L2
namespace L2
open PySem PySem.W PyProof.Rows
noncomputable abbrev twRun:=Fast.tw14082659384304107361
noncomputable abbrev twTab:=Fast.tw14364793385576792824
noncomputable abbrev twSeen:=Fast.tw4187177175401517315
noncomputable abbrev S00 (w:World)(os:OsState):Shared:=⟨boot_heap w.params,#[],boot_drawn,boot_toks,os⟩
theorem boot_size (P:Params):((boot_heap P).isNs mainGlobals,(boot_heap P).objs.size,(boot_heap P).nsMap mainGlobals "__annotations__")=(true,11,some (.ref 6)):=by kernel_rfl
theorem left_of {p q:Program}{loose:List Str}{Xt:Shared->Bool}{α:Type}{Yf:Shared->α}{Ya:World->α}{N M:Nat}
 (e:opening p=plainProg p.main.scope.names) (hN:Nat.ble 600 N=true) (f:∀ s,fenceModules? p s=some s) (le:Nat.ble M N=true)
 (h:∀(w:World) (os:OsState),(twRun twTab p w 11 (some (.ref 6)) M (S00 w os) (topStub p)).map (fun s =>
   (staticsOk (importedModules p.main.body) (boot_heap w.params) s.heap&&namesBound p s.heap&&gensDone s&&laidKept (boot_heap w.params) s.heap,twSeen q loose (importedModules p.main.body) Xt true s,Yf s))=some (true,openGood q loose,Ya w)) :
 LeftO p q loose Xt Yf Ya N:=fun w=>by
 obtain⟨⟨h0,gs,d,k,os⟩,e1,e2⟩:=Option.map_eq_some_iff.mp (boot_open e hN f w)
 obtain⟨rfl,rfl,rfl,rfl⟩:h0=boot_heap w.params/\gs=#[]/\d=boot_drawn/\k=boot_toks:=by simpa using e2
 have b:=boot_size w.params
 simp only[Prod.mk.injEq]at b
 obtain⟨s1,r,e3⟩:=Option.map_eq_some_iff.mp (h w os)
 simp only[Prod.mk.injEq]at e3
 have r':topRun treeTable p w 11 (some (.ref 6)) M (S00 w os) (topStub p)=some s1:=by
  rw[show topRun=twRun from Fast.te14082659384304107361,show treeTable=twTab from Fast.te14364793385576792824];exact r
 have r2:=topRun_mono (N - M) _ _ _ _ r'
 rw[show M+(N - M)=N by have:=Nat.le_of_ble_eq_true le;omega]at r2
 have t:topFrom treeTable p w N ⟨boot_heap w.params,#[],boot_drawn,boot_toks,os⟩=some s1:=by
  unfold topFrom
  dsimp only
  rw[b.1,b.2.1,b.2.2,r2]
  show(match staticsOk (importedModules p.main.body) (boot_heap w.params) s1.heap&&namesBound p s1.heap&&gensDone s1&&laidKept (boot_heap w.params) s1.heap with | true=>_ | false=>_)=_
  rw[e3.1]
 unfold openEnds
 rw[e1]
 show(topFrom treeTable p w N _).map _=_
 rw[t]
 refine cj some (Prod.ext ?_ e3.2.2)
 rw[<- e3.2.1]
 exact congrFun (congrFun (congrFun (congrFun (congrFun (congrFun Fast.te4187177175401517315 q) loose) (importedModules p.main.body)) Xt) true) s1
def enP (P:Params)(x:Str)(t:Nat)(v:Value):DictEntry:=⟨PyData.keyHash P x,.str x t,v⟩
def mainO (P:Params)(nm:Str)(t:Nat)(es:List (Str×Nat×Value)):Obj:=⟨.type "dict",none,.dict ((([("__name__",165,.str nm t),("__doc__",166,.none),("__package__",167,.none),("__loader__",168,.builtin "__main__.__loader__#opaque"),("__spec__",169,.none),("__annotations__",170,.ref 6),("__builtins__",171,.ref 4),("__file__",173,.str "/claim/cut.py" 172),("__cached__",174,.none)]:List (Str×Nat×Value))++es).map fun e=>enP P e.1 e.2.1 e.2.2).toArray (es.length+9),#[]⟩
abbrev sS (x:String):Str:=Str.ofString x
abbrev me (x:String)(t:Nat)(v:Value):Str×Nat×Value:=(Str.ofString x,t,v)
abbrev ko (a:Addr)(o:Obj):Addr×Obj:=(a,o)
abbrev sr (a:Addr):Option (Option Value):=some (some (.ref a))
abbrev sn:Option (Option Value):=some none
def fnQ (x q:Str)(s:Stmt)(pm:Value)(c:Addr):Obj:=⟨.type "function",none,.func (fnOf x q (defArgs s) (defBody s) (eV s) .none .none .none pm none (.ref c) .none),#[]⟩
def coQ (x q:Str)(t l a r1 r2:Nat)(v1 v2:Value)(r3 t2:Nat):Obj:=⟨.type "code",none,.fields #[.str x t,.str q (t+1),.str "/claim/cut.py" (t+2),.int l 0,.int a 0,.int 0 0,.int 0 0,.int 3 0,.ref r1,.bool true,.int 181 0,.ref r2,.none,v1,v2,.ref r3,.int t2 0,.int l 0,.str "/claim/cut.py" (t2+1)],#[]⟩
theorem fun_of {K:Frag}{x q:Str}{s:Stmt}{f c:Addr}{pm:Value}(l:K.lookup f=some (fnQ x q s pm c):=by kernel_rfl)(c':codeIn K (.ref c) q=true:=by kernel_rfl)(k:keepIn K (.ref f)=true:=by kernel_rfl):Fun K x q s f (fnOf x q (defArgs s) (defBody s) (eV s) .none .none .none pm none (.ref c) .none):=fun_mk l c' k
theorem bn1 {α:Type}{P:List α->Prop}(h:∀ a,P [a])(us:List α)(e:us.length=1):P us:=by
 obtain⟨a,rfl⟩:=List.length_eq_one_iff.mp e
 exact h a
theorem bnS {α:Type}{P:List α->Prop}{n:Nat}(h:∀ a us,us.length=n->P (a::us))(us:List α)(e:us.length=n+1):P us:=by
 cases us with
 | nil=>cases e
 | cons a us=>exact h a us (Nat.succ.inj e)
def clsBody (s:Stmt):List Stmt:=match s with
 | .ClassDef _ _ _ b _ _ _ _ _ _ _=>b
 | _=>[]
def defPos (s:Stmt):Pos:=match s with
 | .FunctionDef _ _ _ _ _ _ _ _ _ p=>p
 | _=>⟨0,0,0,0⟩
end L2
namespace L2
open PySem PySem.Spec PyProof.Rows
def closOf (cells:List (Str×Addr)):List (Str×NameKind)->List (Str×Addr)->List (Str×Addr)
 | [],acc=>acc
 | (n,k)::r,acc=>if k==.free then closOf cells r ((n,(cells.lookup n).getD 0)::acc)else closOf cells r acc
theorem closOf_run {env:Env}(f:Str×NameKind->List (Str×Addr)->Sem (ForInStep (List (Str×Addr))))
 (hf:∀ n k cs,f (n,k) cs=if k==.free then(do let a <- cellOf env n;pure (.yield ((n,a)::cs)))else pure (.yield cs)) :
 ∀(names:List (Str×NameKind)) (acc:List (Str×Addr)),(∀ y∈names,y.2=.free->∃ c,env.cells.lookup y.1=some c) ->
  forIn names acc f=pure (closOf env.cells names acc)
 | [],acc,_=>by rw[c7];rfl
 | (n,k)::r,acc,h=>by
  rw[a8,hf]
  unfold closOf
  have hr:∀ y∈r,y.2=.free->∃ c,env.cells.lookup y.1=some c:=fun y hy=>h y (gxI _ hy)
  by_cases hk:(k==NameKind.free)=true
  ·rw[au hk,au hk]
   obtain⟨c,hc⟩:=h (n,k) ao (by simpa using hk)
   have hc':env.cells.lookup n=some c:=hc
   have e:cellOf env n=pure c:=by unfold cellOf;rw[hc']
   rw[e,hc',pure_bind,pure_bind]
   exact closOf_run f hf r _ hr
  ·rw[aq hk,aq hk,pure_bind]
   exact closOf_run f hf r _ hr
theorem closureFor_eq {scope:Scope}{env:Env}(h:∀ y∈scope.names,y.2=.free->∃ c,env.cells.lookup y.1=some c):closureFor scope env=pure (closOf env.cells scope.names []):=by
 simp only[closureFor]
 rw[closOf_run (env:=env) _ (fun n k cs=>by
  by_cases hk:(k==NameKind.free)=true
  ·simp only[hk,if_true]
  ·simp only[Bool.not_eq_true]at hk;simp only[hk,dA,if_false]) scope.names [] h]
 rfl
theorem closOf_mem {cells:List (Str×Addr)}:∀ {names:List (Str×NameKind)} {acc:List (Str×Addr)},(∀ y∈names,y.2=.free->∃ c,cells.lookup y.1=some c) ->
 ∀ n c,(n,c)∈closOf cells names acc->(n,c)∈acc\/cells.lookup n=some c
 | [],acc,_,n,c,h=>.inl h
 | (m,k)::r,acc,hf,n,c,h=>by
  unfold closOf at h
  have hr:∀ y∈r,y.2=.free->∃ c,cells.lookup y.1=some c:=fun y hy=>hf y (gxI _ hy)
  split at h
  ·rename_i hk
   rcases closOf_mem hr n c h with h | h
   ·rcases List.mem_cons.mp h with e | h
    ·cases e
     obtain⟨c,hc⟩:=hf (m,k) ao (by simpa using hk)
     have hc':cells.lookup m=some c:=hc
     exact .inr (by rw[hc'];rfl)
    ·exact .inl h
   ·exact .inr h
  ·exact closOf_mem hr n c h
theorem closOf_acc {cells:List (Str×Addr)}:∀(names:List (Str×NameKind)) (acc:List (Str×Addr)) (n:Str),(acc.lookup n).isSome=true->((closOf cells names acc).lookup n).isSome=true
 | [],acc,n,h=>h
 | (m,k)::r,acc,n,h=>by
  unfold closOf
  split
  ·refine closOf_acc r _ n ?_
   rw[da]
   cases n==m
   ·exact h
   ·rfl
  ·exact closOf_acc r _ n h
theorem closOf_has {cells:List (Str×Addr)}:∀(names:List (Str×NameKind)) (acc:List (Str×Addr)) (n:Str),(n,NameKind.free)∈names->((closOf cells names acc).lookup n).isSome=true
 | (m,k)::r,acc,n,h=>by
  unfold closOf
  rcases List.mem_cons.mp h with e | h
  ·cases e
   refine closOf_acc r _ m ?_
   simp
  ·split
   ·exact closOf_has r _ n h
   ·exact closOf_has r _ n h
theorem cellsFrom_app:∀(names:List (Str×NameKind)) (n:Nat) (a b:List (Str×Addr)),cellsFrom n names (a++b)=cellsFrom n names a++b
 | [],_,_,_=>rfl
 | (m,k)::r,n,a,b=>by
  unfold cellsFrom
  split
  ·exact cellsFrom_app r (n+1) ((m,n)::a) b
  ·exact cellsFrom_app r n a b
theorem newEnv_comp {M:Model}{A:Around}{E:Value->Shared->Prop}{s:Shared}{scope:Scope}{cl:List (Str×Addr)}{env:Env}{Q:Env->Shared->Prop}
 (h:Q (newEnv scope s.heap.objs.size env.globals (cellsFrom (s.heap.objs.size+1) scope.names cl) env.qual none .none (some env) builtinsNs) { s with heap:=pushCells (s.heap.push { cls:=.type "dict",data:=.dict #[]}) scope.names}) :
 wpAny M A (newFunctionEnv scope env.globals cl [] env.qual none .none (some env)) Q E s:=by
 simp only[newFunctionEnv,Option.isSome_some,if_true]
 refine e9 (wpAny_alloc ?_)
 refine e9 (wpAny_layCells _ (fun name kind cells=>by cases hkc:kind==NameKind.cell <;> simp[hkc]) _ _ _ _ ?_)
 rw[show({ s with heap:=s.heap.push { cls:=.type "dict",data:=.dict #[]}}:Shared).heap.objs.size=s.heap.objs.size+1 from aS ..]
 rw[c7]
 exact e9 (aa (aa h))
def startC (js:List (Option Nat))(σ:St):St:=js.map fun o=>o.bind fun j=>(σ[j]?).join
def compChk (XN:List Str)(xsc:Scope)(N:List Str)(js:List (Option Nat))(sc:Scope):Bool :=
 (sc.kind==.function)&&(sc.names.all fun y=>(y.2 != .local)||(sc.names.lookup y.1==some .local)) &&
 (sc.names.all fun y=>(y.2 != .free)||(xsc.names.lookup y.1==some .cell)||(xsc.names.lookup y.1==some .free)) &&
 (js.length==N.length)&&decide N.Nodup &&
 ((N.zip js).all fun p=>match p.2 with
   | none=>true
   | some j=>XN[j]?==some p.1&&sc.names.contains (p.1,NameKind.free)&&sc.names.lookup p.1==some .free&&!(sc.names.contains (p.1,NameKind.cell)))
structure CompOk (X:Cx)(N:List Str)(js:List (Option Nat))(sc:Scope):Prop where
 kind:sc.kind=.function
 loc:∀ y∈sc.names,y.2=.local->sc.names.lookup y.1=some .local
 free:∀ y∈sc.names,y.2=.free->X.env.kindOf y.1=some .cell\/X.env.kindOf y.1=some .free
 len:js.length=N.length
 nd:N.Nodup
 slot:∀(i:Nat) (x:Str) (j:Nat),N[i]?=some x->js[i]?=some (some j)->X.N[j]?=some x/\(x,NameKind.free)∈sc.names/\sc.names.lookup x=some .free/\(x,NameKind.cell)∉sc.names
theorem compOk {X:Cx}{XN:List Str}{xsc:Scope}{N:List Str}{js:List (Option Nat)}{sc:Scope}(h:compChk XN xsc N js sc=true)(hN:X.N=XN:=by rfl)(hs:X.env.scope=xsc:=by rfl):CompOk X N js sc:=by
 subst hN;subst hs
 unfold compChk at h
 simp only[bh,eL,Bool.or_eq_true,bne_iff_ne,beq_iff_eq,aZ]at h
 obtain⟨⟨⟨⟨⟨h1,h2⟩,h3⟩,h4⟩,h5⟩,h6⟩:=h
 refine⟨h1,fun y hy e=>(h2 y hy).resolve_left fun z=>z e,fun y hy e=>?_,h4,h5,fun i x j e1 e2=>?_⟩
 ·rcases h3 y hy with(z | z) | z
  ·exact absurd e z
  ·exact .inl z
  ·exact .inr z
 ·have hm:(x,some j)∈N.zip js:=List.mem_iff_getElem?.mpr ⟨i,by rw[List.getElem?_zip_eq_some];exact⟨e1,e2⟩⟩
  have q:=h6 _ hm
  simp only[bh,beq_iff_eq,List.contains_iff_mem,Bool.not_eq_true',List.contains_eq_mem,aZ,decide_eq_false_iff_not]at q
  exact⟨q.1.1.1,q.1.1.2,q.1.2,q.2⟩
theorem cellsFrom_mem:∀(names:List (Str×NameKind)) (n:Nat) (acc:List (Str×Addr)) (x:Str) (c:Addr),(x,c)∈cellsFrom n names acc->(x,NameKind.cell)∈names\/(x,c)∈acc
 | [],_,_,_,_,h=>.inr h
 | (m,k)::r,n,acc,x,c,h=>by
  unfold cellsFrom at h
  split at h
  ·rename_i hk
   rcases cellsFrom_mem r _ _ x c h with h | h
   ·exact .inl (gxI _ h)
   ·rcases List.mem_cons.mp h with e | h
    ·cases e
     have hk':k=NameKind.cell:=by simpa using hk
     exact .inl (by rw[hk'];exact ao)
    ·exact .inr h
  ·rcases cellsFrom_mem r _ _ x c h with h | h
   ·exact .inl (gxI _ h)
   ·exact .inr h
theorem lookup_mapk {α β:Type}(g:Str->α->β):∀(l:List (Str×α)) (x:Str),(l.map fun p=>(p.1,g p.1 p.2)).lookup x=(l.lookup x).map (g x)
 | [],_=>rfl
 | (n,k)::r,x=>by
  rw[ag,da,da]
  cases hb:x==n with
  | true=>rw[beq_iff_eq.mp hb];rfl
  | false=>exact lookup_mapk g r x
def relK (env:Env)(x:Str)(k:NameKind):NameKind:=if(k==.free&&env.scope.kind==.function&&env.kindOf x==some .cell)then .cell else k
theorem lookup_relabel {sc:Scope}{env:Env}{x:Str}:(relabel sc env).names.lookup x=(sc.names.lookup x).map (relK env x):=by
 rw[<- lookup_mapk]
 unfold relabel
 congr 1
 refine bN fun p _=>?_
 obtain⟨n,k⟩:=p
 show(if _ then _ else _)=(n,relK env n k)
 unfold relK
 split <;> rfl
theorem relK_vis {env:Env}{x:Str}{k:NameKind}(h:relK env x k=.cell\/relK env x k=.free):k=.cell\/k=.free:=by
 unfold relK at h
 split at h
 ·rename_i q
  simp only[bh,beq_iff_eq]at q
  exact .inr q.1.1
 ·exact h
theorem relK_free {env:Env}{x:Str}:relK env x .free=.cell\/relK env x .free=.free:=by
 unfold relK
 split
 ·exact .inl rfl
 ·exact .inr rfl
def envC (sc:Scope)(C:Addr)(env:Env):Env where
 scope:=relabel sc env
 locals:=C
 globals:=env.globals
 cells:=cellsFrom (C+1) sc.names (closOf env.cells sc.names [])
 qual:=env.qual
 func:=none
 code:=env.code
 frame:=env.frame
 builtins:=env.builtins
def cxC (X:Cx)(N:List Str)(sc:Scope)(fp:List Addr)(s:Shared)(H:Hp):Cx where
 prog:=X.prog
 w:=X.w
 K:=X.K
 mg:=X.mg
 base:=X.base
 A:=X.A
 N:=N
 s₀:=s
 H₀:=H
 env:=envC sc (s.heap.objs.size+1) X.env
 outer:=X.stack
 stack:=X.stack
 ex:=fp
 fn:=fun x=>sc.names.lookup x==some .cell
 calm:=X.calm
 pn:=[]
 xe:=fun _ _=>False
def heapC (sc:Scope)(h:Heap):Heap:=pushCells ((h.push { cls:=.type "list",dict:=none,data:=.seq ([]:List Value).toArray}).push { cls:=.type "dict",data:=.dict #[]}) sc.names
theorem heapC_keeps {sc:Scope}{h:Heap}:∀ b o,h.get? b=some o->(heapC sc h).get? b=some o:=fun b o e=>dm _ _ b o (gxL _ (gxL _ e))
theorem heapC_acc {sc:Scope}{h:Heap}:(heapC sc h).get? h.objs.size=some { cls:=.type "list",dict:=none,data:=.seq ([]:List Value).toArray} :=
 dm _ _ _ _ (gxL _ (ak _ rfl))
theorem getStart {js:List (Option Nat)}{σ:St}{i:Nat}{v:V}(h:(startC js σ)[i]?=some (some v)):∃ j,js[i]?=some (some j)/\σ[j]?=some (some v):=by
 unfold startC at h
 rw[gxH]at h
 cases e:js[i]? with
 | none=>rw[e]at h;cases h
 | some o =>
  rw[e]at h
  cases o with
  | none=>cases h
  | some j =>
   refine⟨j,rfl,?_⟩
   have h':(σ[j]?).join=some v:=aB h
   cases q:σ[j]? with
   | none=>rw[q]at h';cases h'
   | some z=>rw[q]at h';have:z=some v:=h';rw[this]
section
variable {X:Cx}{pins:List (Addr×Obj)}{σ:St}{H:Hp}{s:Shared}{N:List Str}{js:List (Option Nat)}{sc:Scope}{fp:List Addr}
theorem inv_comp (I:Inv X pins σ H s)(hc:CompOk X N js sc)(hf:∀ b∈fp,FpOk X pins H b)(ho:∀ b∈fp,∃ o,s.heap.get? b=some o)(tk:Nat) :
 Inv (cxC X N sc fp s H) [] (startC js σ) H { s with heap:=heapC sc s.heap,toks:=tk}:=by
 have hC:(s.heap.push { cls:=.type "list",dict:=none,data:=.seq ([]:List Value).toArray}).objs.size=s.heap.objs.size+1:=aS ..
 have freeX:∀ y∈sc.names,y.2=.free->∃ c,X.env.cells.lookup y.1=some c:=fun y hy e=>I.ok.has y.1 (hc.free y hy e)
 have ok:=cellsFrom_ok sc.names ((s.heap.push { cls:=.type "list",dict:=none,data:=.seq ([]:List Value).toArray}).push { cls:=.type "dict",data:=.dict #[]}) (s.heap.objs.size+1+1) [] ⟨fun _ _ hm=>(nomatch hm),List.Pairwise.nil⟩
  (by rw[aS,hC];exact ae _)
 rw[aS,hC]at ok
 have eC:(envC sc (s.heap.objs.size+1) X.env).cells=cellsFrom (s.heap.objs.size+1+1) sc.names []++closOf X.env.cells sc.names []:=cellsFrom_app sc.names _ [] _
 have lk:∀ x c,(envC sc (s.heap.objs.size+1) X.env).cells.lookup x=some c->(x,c)∈cellsFrom (s.heap.objs.size+1+1) sc.names []\/X.env.cells.lookup x=some c:=fun x c e=>by
  rw[eC]at e
  rcases List.mem_append.mp (mem_of_lookup e)with h | h
  ·exact .inl h
  ·rcases closOf_mem freeX x c h with h | h
   ·cases h
   ·exact .inr h
 have big:∀(x:Str) (c:Nat),(x,c)∈cellsFrom (s.heap.objs.size+1+1) sc.names []->s.heap.objs.size+1+1<=c:=fun x c h=>(ok.empty x c h).2
 have small:∀(x:Str) (c:Nat),X.env.cells.lookup x=some c->c<s.heap.objs.size:=fun x c h=>let ⟨_,q⟩:=I.cell x c h;q.lt
 have has:∀ x,((envC sc (s.heap.objs.size+1) X.env).kindOf x=some .cell\/(envC sc (s.heap.objs.size+1) X.env).kindOf x=some .free)->∃ c,(envC sc (s.heap.objs.size+1) X.env).cells.lookup x=some c:=fun x h=>by
  have h':(relabel sc X.env).names.lookup x=some .cell\/(relabel sc X.env).names.lookup x=some .free:=h
  rw[lookup_relabel]at h'
  rw[eC,du]
  cases q:sc.names.lookup x with
  | none=>rw[q]at h';rcases h' with h' | h' <;> cases h'
  | some k =>
   rw[q]at h'
   have hk:=relK_vis (env:=X.env) (x:=x) (k:=k) (h'.elim (fun z=>.inl (aB z)) fun z=>.inr (aB z))
   rcases hk with rfl | rfl
   ·obtain⟨c,hc'⟩:=cell_has (n:=s.heap.objs.size+1+1) q
    exact⟨c,by rw[hc'];rfl⟩
   ·have z:=closOf_has (cells:=X.env.cells) sc.names [] x (mem_of_lookup q)
    obtain⟨c,hc'⟩:=Option.isSome_iff_exists.mp z
    cases q2:(cellsFrom (s.heap.objs.size+1+1) sc.names []).lookup x with
    | none=>exact⟨c,by rw[hc'];rfl⟩
    | some d=>exact⟨d,rfl⟩
 have okY:(cxC X N sc fp s H).Ok:=by
  refine⟨I.ok.mod,hc.kind,I.ok.glob,I.ok.blt,Nat.le_succ _,fun x y c h1 h2=>?_,has,fun x c hx h=>?_,I.ok.hd,I.ok.frames,.inl rfl,fun b hb=>⟨?_,fun x c h=>?_⟩,I.bs,aL I.ok.bsz I.sz,fun b o e hb=>?_,fun b hb hs=>?_,I.stack,I.stkFree⟩
  ·rcases lk x c h1 with g1 | g1 <;> rcases lk y c h2 with g2 | g2
   ·exact name_of_addr ok.apart g1 g2
   ·exact absurd (aC (small _ _ g2) (aL (aM _ 2) (big _ _ g1))) (bQ _)
   ·exact absurd (aC (small _ _ g1) (aL (aM _ 2) (big _ _ g2))) (bQ _)
   ·exact I.ok.inj x y c g1 g2
  ·have hx':sc.names.lookup x=some .cell:=by simpa [cxC]using hx
   have h':(envC sc (s.heap.objs.size+1) X.env).cells.lookup x=some c:=h
   rw[eC,du]at h'
   obtain⟨c2,hc'⟩:=cell_has (n:=s.heap.objs.size+1+1) hx'
   rw[hc']at h'
   have e:c2=c:=aB h'
   subst e
   exact aL (aM _ 2) (big _ _ (mem_of_lookup hc'))
  ·obtain⟨o,e⟩:=ho b hb
   exact ai (aV (gxN e))
  ·obtain⟨o,e⟩:=ho b hb
   have l:=gxN e
   rcases lk x c h with g | g
   ·exact aU (aC l (aL (aM _ 2) (big _ _ g)))
   ·exact(hf b hb).2.2.2.2.1 x c g
  ·rcases(hf b hb).2.2.2.1 with z | z
   ·exact I.ok.noex b o e z
   ·exact absurd (aC (gxN e) (aL I.ok.bsz z)) (bQ _)
  ·rcases List.mem_cons.mp (I.stkSub b hs)with z | z
   ·exact(hf b hb).2.1 z
   ·exact(hf b hb).2.2.1 z
 have keepH:∀ b u,s.heap.get? b=some u->(heapC sc s.heap).get? b=some u:=heapC_keeps
 have nsC:(heapC sc s.heap).Ns (s.heap.objs.size+1) fun _=>none:=by
  have q:=(Heap.Ns.new (s.heap.push { cls:=.type "list",dict:=none,data:=.seq ([]:List Value).toArray}) (.type "dict")).keeps (dm sc.names _)
  rw[hC]at q
  exact q
 refine⟨okY,rfl,I.bare,Un.kept keepH,⟨_,nsC,fun i x v e1 e2 e3=>?_⟩,fun x c h=>?_,I.hok.fresh (Nat.le_succ _),fun x c h=>?_,fun p hp=>absurd (show p∈([]:List (Addr×Obj))from hp) (by simp),I.hok.kept keepH,?_⟩
 ·obtain⟨j,hj,hv⟩:=getStart e2
  obtain⟨g1,g2,g3,g4⟩:=hc.slot i x j e1 hj
  have kx:=hc.free _ g2 rfl
  obtain⟨m,hn,hl⟩:=I.loc
  obtain⟨u,r,l⟩:=hl j x v g1 hv (.inr kx)
  refine⟨u,r,?_⟩
  rcases l with⟨z,_⟩ | ⟨_,c,hcc,hcell⟩
  ·have z':X.env.kindOf x=some .local:=z
   rcases kx with k | k <;> (have k':X.env.kindOf x=_:=k;rw[z']at k';cases k')
  ·have kY:(envC sc (s.heap.objs.size+1) X.env).kindOf x=some .cell\/(envC sc (s.heap.objs.size+1) X.env).kindOf x=some .free:=by
    show(relabel sc X.env).names.lookup x=some .cell\/(relabel sc X.env).names.lookup x=some .free
    rw[lookup_relabel,g3]
    rcases relK_free (env:=X.env) (x:=x)with q | q
    ·exact .inl (show some (relK X.env x .free)=_ by rw[q])
    ·exact .inr (show some (relK X.env x .free)=_ by rw[q])
   obtain⟨c',h'⟩:=has x kY
   refine .inr ⟨kY,c',h',?_⟩
   rcases lk x c' h' with g | g
   ·rcases cellsFrom_mem _ _ _ _ _ g with z | z
    ·exact absurd z g4
    ·cases z
   ·rw[hcc]at g;cases g
    exact hcell.keeps keepH
 ·rcases lk x c h with g | g
  ·exact⟨_,(ok.empty x c g).1⟩
  ·obtain⟨v,q⟩:=I.cell x c g
   exact⟨v,q.keeps keepH⟩
 ·rcases lk x c h with g | g
  ·exact I.hok.fresh (aL (aM _ 2) (big _ _ g))
  ·exact I.freeC x c g
 ·show(startC js σ).length=N.length
  unfold startC
  rw[gxC];exact hc.len
end
section
variable {X:Cx}{pins:List (Addr×Obj)}{σ:St}{H:Hp}{s:Shared}
theorem Inv.adopt {D:Addr}{ys:List V}{fw:List Value}{n:Nat}(I:Inv X pins σ H s)(hn:H D=none)(hL:D≠X.env.locals)(h1:X.s₀.heap.objs.size<=D)(h2:∀ x c,X.env.cells.lookup x=some c->c≠D)(h3:∀ p∈X.pn++pins,p.1≠D)
 (e:s.heap.get? D=some { cls:=.type "list",data:=.seq fw.toArray n}) (r:Vals ys fw) (hz:ys.length<=sizeLine):Inv X pins σ (upd H D (.lst ys)) s:=by
 have ne:∀ b,b∉[D]->b≠D:=fun b h z=>h (by simp[z])
 refine I.step (g':=s.gens) (d':=s.drawn) (t':=s.toks) (h':=s.heap) (ch:=[D]) (fun b hb=>?_) (fun b o _ _ _ q _=>q) (fun b o _ _ _ q _=>⟨o.slots,q⟩) (fun b o hb q z=>by rw[upd_ne (ne b hb)];exact z) (fun b o _ q=>⟨o,q⟩)
  (fun b xs q=>by rw[upd_ne (ne_of_none q hn)];exact q) (fun b o u q=>by rw[upd_ne (ne_of_none q hn)];exact q) (fun b ps q=>⟨#[],by rw[upd_ne (ne_of_none q hn),q];simp⟩) (fun m q=>q) (fun b u q=>?_) I.bare
 ·have z:b=D:=by simpa using hb
  subst z
  exact⟨.inr h1,hL,h2,h3⟩
 ·by_cases hb:b=D
  ·subst hb;rw[fA]at q;cases q
   exact⟨hz,fw,n,r,e⟩
  ·rw[upd_ne hb]at q
   exact(I.hok b u q).stay (fun c v _ z=>z) (fun c z=>by rw[upd_ne (ne_of_none z hn)];exact z) fun c xs z=>by rw[upd_ne (ne_of_none z hn)];exact z
def PTs (X:Cx)(ifs:List Expr)(t:TT):Prop :=
 ∀(pins:List (Addr×Obj)) (s:Shared) (σ:St) (H:Hp) (Q:Bool->Hp->Prop),Inv X pins σ H s->t σ H Q ->
  wpAny (model X.prog X.w) X.A (forIn ifs true fun c r=>if r=true then do let ok <- isTrue c X.env (eval c X.env);pure (ForInStep.yield ok)else pure (ForInStep.yield r)) (TP X pins σ Q) X.xe s
def tYes:TT:=fun _ H Q=>Q true H
theorem pts_nil:PTs X [] tYes:=fun _ _ _ H _ I h=>wpAny_tests_nil ⟨H,I,h⟩
theorem pts_one {c:Expr}{t:TT}(h:PT X c t):PTs X [c] t:=fun pins s σ H Q I q=>wpAny_tests_one (h pins s σ H Q I q)
def Ext (σ σ':St):Prop:=σ.length=σ'.length/\∀(i:Nat) v,σ[i]?=some (some v)->σ'[i]?=some (some v)
def wComp (js:List (Option Nat))(g:TG)(tt:TT)(te:TE)(J:It)(σ:St)(H1:Hp)(fin:List V->Hp->Prop):Prop :=
 ∃ W:Nat->Nat->List V->Hp->Prop,(∃ m,W 0 m [] H1)/\∀ i m ys H,W i m ys H ->
  (J.stop i H/\fin ys H)\/(J.go i H/\∀ x H',J.yld i H x H'->g x (startC js σ) H' fun σ2 H2=>Ext (startC js σ) σ2/\tt σ2 H2 fun b H3 =>
    if b=true then te σ2 H3 fun y H4=>ys.length<sizeLine/\∃ m',m'<m/\W (i+1) m' (ys++[y]) H4 else ∃ m',m'<m/\W (i+1) m' ys H3)
theorem compLoop_any {prog:Program}{w:World}{A:Around}{R:Result->Shared->Prop}{s:Shared}{elt target iter:Expr}{ifs:List Expr}{scope:Scope}{pos:Pos}{it acc:Value}{env:Env}(I:Nat->Shared->Prop)
 (turn:∀ n s,I n s->wpAny (model prog w) A (pyNext it) (fun r s₁=>match r with
   | none=>R (.ok .next) s₁
   | some v=>wpAny (model prog w) A (letOwnedTupleGo target it v) (fun _ s₁'=>wpAny (model prog w) A (assign target env v) (fun _ s₂ =>
    wpAny (model prog w) A (forIn ifs true fun c r=>if r=true then do let ok <- isTrue c env (eval c env);pure (ForInStep.yield ok)else pure (ForInStep.yield r)) (fun ok s₃ =>
     if ok=true then wpAny (model prog w) A (eval elt env) (fun x s₄ =>
      wpAny (model prog w) A (call (.builtin "list.append") [acc,x]) (fun _ s₅=>∃ m,m<n/\I m s₅) (fun _ _=>False) s₄) (fun _ _=>False) s₃
     else ∃ m,m<n/\I m s₃) (fun _ _=>False) s₂) (fun _ _=>False) s₁') (fun _ _=>False) s₁) (fun _ _=>False) s)
 (n:Nat) (h:I n s) :
 codeAny (model prog w) A (.compLoop (.ListComp elt [⟨target,iter,ifs,0⟩] scope pos) 0 it acc env) R s:=by
 refine codeAny_loop rfl I (fun n s hI=>?_) n h
 show wpAny _ A ((compTurn (.ListComp elt [⟨target,iter,ifs,0⟩] scope pos) 0 it acc env).onRaise (fun x=>do noteFrame x env;theTreesLotGoes x)) _ _ s
 refine wpAny_noted ?_
 rw[compTurn_list]
 refine e9 (dg (e9 (bG (turn n s hI) (fun r s₁ h₁=>?_) fun _ _ h'=>h'.elim)))
 cases r with
 | none=>exact aa h₁
 | some v =>
  refine e9 (bG h₁ (fun _ s₁' h₁'=>?_) fun _ _ h'=>h'.elim)
  refine e9 (bG h₁' (fun _ s₂ h₂=>e9 (bG h₂ (fun ok s₃ h₃=>?_) fun _ _ h'=>h'.elim)) fun _ _ h'=>h'.elim)
  cases ok with
  | false=>exact aa ⟨rfl,h₃⟩
  | true =>
   exact e9 (e9 (bG h₃ (fun x s₄ h₄=>e9 (bG h₄ (fun _ s₅ h₅=>aa (aa ⟨rfl,h₅⟩)) fun _ _ h'=>h'.elim)) fun _ _ h'=>h'.elim))
variable {N:List Str}{js:List (Option Nat)}{sc:Scope}{fp:List Addr}{tg elt iter:Expr}{ifs:List Expr}{g:TG}{tt:TT}{te:TE}
def lobj (fw:List Value)(n:Nat):Obj:={ cls:=.type "list",data:=.seq fw.toArray n}
theorem comp_block {J:It}{it:Addr}{tn:Nat->Heap->Prop}{pos:Pos}{R:Result->Shared->Prop}{fin:List V->Hp->Prop}{tk:Nat}(I:Inv X pins σ H s)(hc:CompOk X N js sc){CM:Cx->Prop}(calm:CM (cxC X N sc fp s H))
 (T:Turn X.prog X.w X.K tg J fp it tn CM) (st:tn 0 s.heap) (hf:∀ b∈fp,FpOk X pins H b)
 (hg:PG (cxC X N sc fp s H) tg g) (ht:PTs (cxC X N sc fp s H) ifs tt) (he:PE (cxC X N sc fp s H) elt te) (q:wComp js g tt te J σ H fin)
 (hR:∀ s' H' ys m,Inv X pins σ (upd H' s.heap.objs.size (.lst ys)) s'->H' s.heap.objs.size=none->fin ys H'->s'.heap.Ns (s.heap.objs.size+1) m->H' (s.heap.objs.size+1)=none->R (.ok .next) s') :
 codeAny (model X.prog X.w) X.A (.compStart (.ListComp elt [⟨tg,iter,ifs,0⟩] sc pos) 0 (.ref it) (.ref s.heap.objs.size) (envC sc (s.heap.objs.size+1) X.env)) R { s with heap:=heapC sc s.heap,toks:=tk}:=by
 have hob:∀ b∈fp,∃ o,s.heap.get? b=some o:=fun b hb=>let ⟨o,e,_⟩:=T.obj 0 s.heap st b hb;⟨o,e⟩
 have I0:=inv_comp I hc hf hob tk
 have okY:=I0.ok
 obtain⟨W,⟨m0,w0⟩,turn⟩:=q
 have small:∀ b∈fp,b≠s.heap.objs.size:=fun b hb=>let ⟨o,e⟩:=hob b hb;ai (gxN e)
 have stat:∀ {fw:List Value} {k:Nat} {H':Hp},(∀ b∈fp,H' b=none)->∀ b∈fp,FpOk (cxC X N sc fp s H) [(s.heap.objs.size,lobj fw k)] H' b:=fun {fw k H'} hn b hb =>
  ⟨hn b hb,(okY.exf b hb).1,okY.exfs b hb,.inl hb,(okY.exf b hb).2,fun p hp=>by
   have e:p=(s.heap.objs.size,lobj fw k):=by simpa [cxC]using hp
   rw[e];exact(small b hb).symm⟩
 have st0:tn 0 (heapC sc s.heap):=T.keep 0 _ _ st fun b _ o e=>heapC_keeps b o e
 have I1:Inv (cxC X N sc fp s H) [(s.heap.objs.size,lobj [] 0)] (startC js σ) H { s with heap:=heapC sc s.heap,toks:=tk}:=I0.pins_of fun p hp=>by
  have e:p=(s.heap.objs.size,lobj [] 0):=by simpa using hp
  subst e
  refine⟨heapC_acc,I.hok.fresh (ae _),ai (bA _),fun z=>?_,fun v z=>by cases z⟩
  obtain⟨_,o,ho,_⟩:=okY.funs.mem z
  exact bQ _ (gxN ho)
 have loop:codeAny (model X.prog X.w) X.A (.compLoop (.ListComp elt [⟨tg,iter,ifs,0⟩] sc pos) 0 (.ref it) (.ref s.heap.objs.size) (envC sc (s.heap.objs.size+1) X.env)) R { s with heap:=heapC sc s.heap,toks:=tk}:=by
  refine compLoop_any (fun n s'=>∃ i ys fw k H',Inv (cxC X N sc fp s H) [(s.heap.objs.size,lobj fw k)] (startC js σ) H' s'/\tn i s'.heap/\(∀ b∈fp,H' b=none)/\Vals ys fw/\ys.length<=sizeLine/\W i n ys H') ?_ m0
   ⟨0,[],[],0,H,I1,st0,fun b hb=>(hf b hb).1,.nil,bV _,w0⟩
  rintro n s3 ⟨i,ys,fw,k,H3,I3,st3,fr3,rv,hz,w3⟩
  have len:=rv.length
  rcases turn i n ys H3 w3 with⟨stop,qf⟩ | ⟨go,step⟩
  ·refine thn (T.done (cxC X N sc fp s H) rfl rfl rfl calm i _ s3 _ H3 _ I3 (stat fr3) st3 stop) fun r s4 hq4=>?_
   obtain⟨hr,I4⟩:=hq4
   subst hr
   show R (.ok .next) s4
   have hD:=I4.pin (s.heap.objs.size,lobj fw k) (aF _ ao)
   obtain⟨m,hns,_⟩:=I4.loc
   have IX:Inv X pins σ H3 s4:=I.call' (ch:=fp) I4.os I4.base I4.hok I4.bare fun b hb=>by
    obtain⟨f0,f1,f2,f3,f4,f5⟩:=hf b hb
    exact⟨f3,f1,f4,f5⟩
   have neD:∀(b:Addr) (o:Obj),s.heap.get? b=some o->b≠s.heap.objs.size:=fun b o e=>ai (gxN e)
   refine hR s4 H3 ys m (IX.adopt hD.2.1 (aU I.lt) I.sz (fun x c e=>?_) (fun p hp=>neD _ _ (I.pin p hp).1) hD.1 rv hz) hD.2.1 qf hns I4.free
   obtain⟨v,q⟩:=I.cell x c e
   exact ai q.lt
  ·refine thn (T.item (cxC X N sc fp s H) rfl rfl rfl calm i _ s3 _ H3 _ I3 (stat fr3) st3 go) fun r s4 hq5=>?_
   obtain⟨u,hr,h4⟩:=hq5
   subst hr
   refine thn h4 fun _ s5 hq6=>?_
   obtain⟨x,H5,I5,r5,y5,st5,fr5⟩:=hq6
   have I5':=I5.pinned (stat fr5) (T.obj _ _ st5)
   refine thn (hg _ s5 _ H5 x u _ I5' r5 (step x H5 y5)) fun _ s6 ⟨σ6,H6,I6,⟨ext6,q6⟩⟩=>?_
   refine thn (ht _ s6 σ6 H6 _ I6 q6) fun b s7 hq0=>?_
   obtain⟨H7,I7,q7⟩:=hq0
   have back:∀ {s':Shared} {H':Hp},Inv (cxC X N sc fp s H) ([(s.heap.objs.size,lobj fw k)]++pinsAt fp s5.heap) σ6 H' s'->tn (i+1) s'.heap/\(∀ b∈fp,H' b=none)/\Inv (cxC X N sc fp s H) [(s.heap.objs.size,lobj fw k)] (startC js σ) H' s':=fun {s' H'} I'=>by
    refine⟨T.keep _ _ _ st5 fun b hb o e=>(I'.pin (b,o) (aF _ (aF _ (mem_pinsAt hb e)))).1,fun b hb=>?_,(I'.weak ext6.1 ext6.2).unpinned⟩
    obtain⟨o,e,d⟩:=T.obj _ _ st5 b hb
    exact(I'.pin (b,o) (aF _ (aF _ (mem_pinsAt hb e)))).2.1
   cases b with
   | false =>
    rw[aq av]at q7 ⊢
    obtain⟨m',hm,w7⟩:=q7
    obtain⟨t7,f7,I7'⟩:=back I7
    exact⟨m',hm,i+1,ys,fw,k,H7,I7',t7,f7,rv,hz,w7⟩
   | true =>
    rw[au rfl]at q7 ⊢
    refine thn (he _ s7 σ6 H7 _ I7 q7) fun y s8 hq1=>?_
    obtain⟨yv,H8,I8,ry,hlt,m',hm,w8⟩:=hq1
    obtain⟨t8,f8,I8'⟩:=back I8
    have hD:=I8'.pin (s.heap.objs.size,lobj fw k) (aF _ ao)
    have eD:s8.heap.get? s.heap.objs.size=some { cls:=.type "list",data:=.seq fw.toArray k}:=hD.1
    refine call_meets F.slot_list_append ⟨_,eD,rfl⟩ F.entry_list_append (F.args_list_append_2 _ _) (PySem.list_append s.heap.objs.size fw.toArray k y (by rw[ah];omega)) ⟨eD,?_⟩
    have q:=PySem.IsL.update eD (·.push y)
    have epush:fw.toArray.push y=(fw++[y]).toArray:=by simp
    have keep:∀(b:Addr) (o:Obj),b≠s.heap.objs.size->s8.heap.get? b=some o->(s8.heap.update s.heap.objs.size (Obj.mapSeq (·.push y))).get? b=some o:=fun b o hb e=>(aI s8.heap (Obj.mapSeq (·.push y)) (aY hb)).trans e
    have cellD:∀ x c,(cxC X N sc fp s H).env.cells.lookup x=some c->c≠s.heap.objs.size:=fun x c e z=>by
     obtain⟨v,o,ho,hd⟩:=I8'.cell x c e
     rw[z,eD]at ho;cases ho
     cases hd
    have I9:Inv (cxC X N sc fp s H) [] (startC js σ) H8 { s8 with heap:=s8.heap.update s.heap.objs.size (Obj.mapSeq (·.push y))} :=
     (I8'.pins_of (pins':=[]) fun p hp=>absurd hp (by simp)).turned (t':=s8.toks) keep hD.2.1 hD.2.2.1 (.inr (ae _)) cellD (fun p hp=>absurd (show p∈([]:List (Addr×Obj))from hp) (by simp))
    rw[epush]at q
    obtain⟨k',q'⟩:∃ k',(s8.heap.update s.heap.objs.size (Obj.mapSeq (·.push y))).get? s.heap.objs.size=some (lobj (fw++[y]) k'):=⟨_,q⟩
    refine⟨m',hm,i+1,ys++[yv],fw++[y],k',H8,I9.pins_of fun p hp=>?_,T.keep _ _ _ t8 fun b hb o e=>keep b o (small b hb) e,f8,rv.append (.cons ry .nil),by rw[gxE,bE];omega,w8⟩
    have e:p=(s.heap.objs.size,lobj (fw++[y]) k'):=by simpa using hp
    subst e
    exact⟨q',hD.2.1,hD.2.2.1,hD.2.2.2.1,fun v z=>by cases z⟩
 exact codeAny_compStart_list loop (T.self _ 0 _ _ _ st0 loop)
def tComp (wi:TI)(js:List (Option Nat))(g:TG)(tt:TT)(te:TE):TE:=fun σ H Q=>wi σ H fun J H1=>wComp js g tt te J σ H1 fun ys H'=>∀ D,H' D=none->Q (.ref D) (upd H' D (.lst ys))
theorem pe_comp {wi:TI}{pos:Pos}(hc:CompOk X N js sc)(calm:X.calm=true)(hi:PI X tg iter wi)(hg:∀ fp s H,PG (cxC X N sc fp s H) tg g)(ht:∀ fp s H,PTs (cxC X N sc fp s H) ifs tt)(he:∀ fp s H,PE (cxC X N sc fp s H) elt te)
 (hs:∀ x,foldedSetIterable iter X.env x=pure x:=by intro _;rfl):PE X (.ListComp elt [⟨tg,iter,ifs,0⟩] sc pos) (tComp wi js g tt te):=by
 intro pins s σ H Q I h
 rw[eval_ListComp]
 refine dh (use:=none) rfl hs (closureFor_eq fun y hy e=>I.ok.has y.1 (hc.free y hy e)) hc.kind hc.loc (thn (hi pins s σ H _ I h) fun v s1 h1=>thn h1 fun itv s2 h2=>?_)
 obtain⟨it,fp,tn,J,H2,e,I2,T,st2,f2,q⟩:=h2
 subst e
 refine cL (newEnv_comp ?_)
 have hC:(s2.heap.push { cls:=.type "list",dict:=none,data:=.seq ([]:List Value).toArray}).objs.size=s2.heap.objs.size+1:=aS ..
 simp only[hC]
 refine comp_block (tk:=s2.toks) I2 hc calm T st2 f2 (hg fp s2 H2) (ht fp s2 H2) (he fp s2 H2) q fun s' H' ys m IX nD qf nC hn=>?_
 refine⟨m,nC,fun h' sb=>?_⟩
 have neC:∀(b:Addr) (o:Obj),s2.heap.get? b=some o->b≠s2.heap.objs.size+1:=fun b o e=>ai (aV (gxN e))
 have IY:Inv X pins σ (upd H' s2.heap.objs.size (.lst ys)) { s' with heap:=h'}:=IX.turned (t':=s'.toks) (it:=s2.heap.objs.size+1) (fun b o hb e=>(sb.2 b hb).trans e) (by rw[upd_ne (aU (bA _))];exact hn)
  (aU (aV I2.lt)) (.inr (Nat.le_succ_of_le I2.sz)) (fun x c e=>let ⟨v,z⟩:=I2.cell x c e;ai (aV z.lt)) (fun p hp=>neC _ _ (I2.pin p hp).1)
 exact⟨.ref _,_,IY,rfl,qf _ nD⟩
theorem ps_setComp {wi:TI}{pos pos' spos:Pos}{i:Nat}{x:Str}(hc:CompOk X N js sc)(calm:X.calm=true)(hN:X.N.Nodup)(hx':X.N[i]?=some x)(hx:Loc X.env.scope x)(hi:PI X tg iter wi)(hg:∀ fp s H,PG (cxC X N sc fp s H) tg g)
 (ht:∀ fp s H,PTs (cxC X N sc fp s H) ifs tt) (he:∀ fp s H,PE (cxC X N sc fp s H) elt te) (hsw:swapsWith (.ListComp elt [⟨tg,iter,ifs,0⟩] sc pos) (some (.Name x pos')) spos.line X.env=pure true:=by rfl)
 (hs:∀ x,foldedSetIterable iter X.env x=pure x:=by intro _;rfl) (hf:X.fn x=true\/X.env.scope.names.lookup x=some .local:=by first | exact .inl rfl | exact .inr rfl | assumption) :
 PS X (.Assign [.Name x pos'] (.ListComp elt [⟨tg,iter,ifs,0⟩] sc pos) spos) (tAsg (tComp wi js g tt te) (gName i)):=by
 intro pins s σ H D I h
 rw[exec_Assign_Name_used _ _ _ _ hsw]
 refine e9 (dg (e9 ?_))
 show wpAny _ X.A (do let _ <- comprehension (.ListComp elt [⟨tg,iter,ifs,0⟩] sc pos) sc X.env _ (newList []) false (eval iter X.env) (some (assign (.Name x pos') X.env))) _ _ s
 refine e9 (bG (dh (use:=some (assign (.Name x pos') X.env)) (Q:=fun _ s'=>SP X pins D .next s') rfl hs (closureFor_eq fun y hy e=>I.ok.has y.1 (hc.free y hy e)) hc.kind hc.loc
  (thn (hi pins s σ H _ I h) fun v s1 h1=>thn h1 fun itv s2 h2=>?_)) (fun _ s' hq=>aa (aa hq)) fun _ _ e=>e)
 obtain⟨it,fp,tn,J,H2,e,I2,T,st2,f2,q⟩:=h2
 subst e
 refine cL (newEnv_comp ?_)
 have hC:(s2.heap.push { cls:=.type "list",dict:=none,data:=.seq ([]:List Value).toArray}).objs.size=s2.heap.objs.size+1:=aS ..
 simp only[hC]
 refine comp_block (tk:=s2.toks) I2 hc calm T st2 f2 (hg fp s2 H2) (ht fp s2 H2) (he fp s2 H2) q fun s' H' ys m IX nD qf nC hn=>?_
 have neC:∀(b:Addr) (o:Obj),s2.heap.get? b=some o->b≠s2.heap.objs.size+1:=fun b o e=>ai (aV (gxN e))
 have hnC:upd H' s2.heap.objs.size (.lst ys) (s2.heap.objs.size+1)=none:=by rw[upd_ne (aU (bA _))];exact hn
 show wpAny _ X.A (assign (.Name x pos') X.env (.ref s2.heap.objs.size)) _ _ s'
 refine wpAny_assign_Name (store_ok2 (v:=.ref s2.heap.objs.size) IX hN hx' hx rfl (fun s'' IZ ch=>?_) hf)
 obtain⟨a,sba,ha⟩:=ch
 have hac:s2.heap.objs.size+1≠a:=by
  rcases ha with z | z
  ·rw[z];exact aU (aV I2.lt)
  ·obtain⟨v,z⟩:=I2.cell x a z
   exact aU (aV z.lt)
 refine⟨m,nC.sameBut sba hac,fun h' sb=>?_⟩
 have IY:Inv X pins (σ.set i (some (.ref s2.heap.objs.size))) (upd H' s2.heap.objs.size (.lst ys)) { s'' with heap:=h'}:=IZ.turned (t':=s''.toks) (it:=s2.heap.objs.size+1) (fun b o hb e=>(sb.2 b hb).trans e) hnC
  (aU (aV I2.lt)) (.inr (Nat.le_succ_of_le I2.sz)) (fun x c e=>let ⟨v,z⟩:=I2.cell x c e;ai (aV z.lt)) (fun p hp=>neC _ _ (I2.pin p hp).1)
 exact⟨_,_,IY,qf _ nD⟩
end
open Builtin Builtin.Str
def cutL {α:Type}(xs:List α)(lo hi:Option Int):List α:=(xs.drop (HT.sIx xs.length 0 lo)).take (HT.sIx xs.length xs.length hi - HT.sIx xs.length 0 lo)
theorem clip_lo (n:Nat)(lo:Option Int):(match lo with | none=>(0:Int) | some i=>max 0 (min (if i<0 then i+(n:Int)else i) (n:Int)))=((HT.sIx n 0 lo:Nat):Int):=by
 cases lo with
 | none=>rfl
 | some i=>unfold HT.sIx;dsimp only;split <;> omega
theorem clip_hi (n:Nat)(hi:Option Int):(match hi with | none=>(n:Int) | some i=>max 0 (min (if i<0 then i+(n:Int)else i) (n:Int)))=((HT.sIx n n hi:Nat):Int):=by
 cases hi with
 | none=>rfl
 | some i=>unfold HT.sIx;dsimp only;split <;> omega
theorem sliceIx_eq (lo hi:Option Int)(n:Nat):strSliceIndices lo hi 1 n=sliceRange ((HT.sIx n 0 lo:Nat):Int) ((HT.sIx n n hi:Nat):Int) 1:=by
 rw[<- clip_lo,<- clip_hi]
 unfold strSliceIndices
 cases lo <;> cases hi <;> rfl
theorem sliced_eq (x:Str)(lo hi:Option Int):(strSliceIndices lo hi 1 x.length).filterMap (x.cps[·]?)=cutL x.cps.toList lo hi:=by
 have hl:x.cps.toList.length=x.length:=by simp[Str.length]
 unfold cutL
 rw[hl]
 have ha:=HT.sIx_le x.length 0 (bV _) lo
 have hb:=HT.sIx_le x.length x.length (ae _) hi
 by_cases hab:HT.sIx x.length 0 lo<=HT.sIx x.length x.length hi
 ·rw[<- StrLaws.sliced_plain x hab hb,sliceIx_eq,sliceIx_eq]
  congr 2
  ·rw[HT.sIx_nat,cg ha]
  ·rw[HT.sIx_nat,cg hb]
 ·rw[sliceIx_eq]
  have e:HT.sIx x.length x.length hi - HT.sIx x.length 0 lo=0:=by omega
  rw[e,List.take_zero]
  unfold sliceRange
  have h1:¬ (((HT.sIx x.length 0 lo:Nat):Int)<((HT.sIx x.length x.length hi:Nat):Int)):=by omega
  simp[h1]
theorem cutL_len {α:Type}(xs:List α)(lo hi:Option Int):(cutL xs lo hi).length<=xs.length:=by
 unfold cutL
 rw[bu,bB]
 omega
section
variable {X:Cx}
def rSlS:V->Option Int->Option Int->Hp->VK->Prop:=fun x lo hi H Q=>∃ z:Str,x=.str z/\z.length<=sizeLine/\Q (.str ⟨(cutL z.cps.toList lo hi).toArray⟩) H
theorem sl_str:SlR X rSlS:=by
 intro pins s σ H x v vl vu lo hi sl Q I rx hs pl pu h
 obtain⟨z,rfl,hz,q⟩:=h
 obtain⟨t,rfl⟩:=rx
 refine⟨"str",_,F.slot_str_getitem.lookup,typeIs_str _ _ _,?_⟩
 obtain⟨l,el⟩:∃ l:Option (Int×Tok),vl=partValue l/\l.map (·.1)=lo:=by
  cases pl with
  | none=>exact⟨none,rfl,rfl⟩
  | int i t=>exact⟨some (i,t),rfl,rfl⟩
 obtain⟨u,eu⟩:∃ u:Option (Int×Tok),vu=partValue u/\u.map (·.1)=hi:=by
  cases pu with
  | none=>exact⟨none,rfl,rfl⟩
  | int i t=>exact⟨some (i,t),rfl,rfl⟩
 obtain⟨rfl,el⟩:=el
 obtain⟨rfl,eu⟩:=eu
 refine wpAny_getItem_str_slice (l:=l) (u:=u) (st:=none) hs rfl ?_
 unfold sliceMade
 have e:slicePicked z l u none=strSliceIndices lo hi 1 z.length:=by unfold slicePicked;rw[el,eu];rfl
 rw[e,sliced_eq]
 by_cases hc:(((none:Option (Int×Tok)).map (·.1)).getD 1==1&&(strSliceIndices lo hi 1 z.length).length==z.length)=true
 ·rw[au hc]
  refine⟨.str z,H,I,⟨_,rfl⟩,?_⟩
  have hc':(strSliceIndices lo hi 1 z.length).length=z.length:=by simpa using hc
  have hl:z.cps.toList.length=z.length:=by simp[Str.length]
  have h3:cutL z.cps.toList lo hi=z.cps.toList:=by
   rw[sliceIx_eq]at hc'
   unfold sliceRange at hc'
   have ha:=HT.sIx_le z.length 0 (bV _) lo
   have hb:=HT.sIx_le z.length z.length (ae _) hi
   rw[gxC,gxJ]at hc'
   unfold cutL
   rw[hl]
   by_cases hlt:((HT.sIx z.length 0 lo:Nat):Int)<((HT.sIx z.length z.length hi:Nat):Int)
   ·simp[hlt]at hc'
    have a0:HT.sIx z.length 0 lo=0:=by omega
    have b0:HT.sIx z.length z.length hi=z.length:=by omega
    rw[a0,b0,List.drop_zero,Nat.sub_zero,<- hl,List.take_length]
   ·simp[hlt]at hc'
    have z0:z.cps.toList=[]:=List.length_eq_zero_iff.mp (by omega)
    rw[z0];simp
  have e2:(⟨(cutL z.cps.toList lo hi).toArray⟩:Str)=z:=by rw[h3]
  rw[e2]at q
  exact q
 ·rw[aq hc]
  refine⟨?_,.str _,H,I.tok _,⟨_,rfl⟩,q⟩
  have hl:z.cps.toList.length=z.length:=by simp[Str.length]
  have:=cutL_len z.cps.toList lo hi
  show(cutL z.cps.toList lo hi).toArray.size<=sizeLine
  rw[ah]
  omega
theorem vals_strs:∀ {ys:List Str} {us:List Value},Vals (ys.map V.str) us->StrsAre us ys
 | [],_,h=>by cases h;exact .nil
 | y::r,_,h=>by
  cases h with
  | cons a b=>obtain⟨t,rfl⟩:=a;exact .cons _ _ (vals_strs b)
theorem glued_empty:∀(ys:List Str) (acc:Array Nat),ys.foldl (fun acc p=>acc++(#[]:Array Nat)++p.cps) acc=acc++(ys.map (·.cps.toList)).flatten.toArray
 | [],acc=>by simp
 | y::r,acc=>by
  rw[cz,glued_empty r,ag,List.flatten_cons]
  apply Array.toList_inj.mp
  simp
theorem join_empty (z:Str)(hz:z.cps=#[])(ys:List Str):Txt.join z ys=⟨(ys.map (·.cps.toList)).flatten.toArray⟩:=by
 unfold Txt.join glued
 rw[hz]
 congr 1
 cases ys with
 | nil=>rfl
 | cons y r =>
  show List.foldl _ y.cps r=_
  rw[glued_empty,ag,List.flatten_cons]
  apply Array.toList_inj.mp
  simp
def rJoin (K:PySem.W.Frag):V->List V->Hp->VK->Prop:=fun x vs H Q=>∃(z:Str) (l:Addr) (ys:List Str),x=.str z/\z.cps=#[]/\vs=[.ref l]/\SqL K H l (ys.map V.str)/\(ys.map (·.length)).sum<=16777216/\Q (.str ⟨(ys.map (·.cps.toList)).flatten.toArray⟩) H
theorem mt_join:MtR X "str.join" (rJoin X.K):=by
 intro pins s σ H x vs v us Q I rx rv h
 obtain⟨z,l,ys,rfl,hz,rfl,hl,hs,q⟩:=h
 obtain⟨t,rfl⟩:=rx
 obtain⟨u,rfl,ru⟩:=rv.one
 cases ru
 obtain⟨fw,r,p,_⟩:=I.list hl
 have zl:z.length=0:=by unfold Str.length;rw[hz];rfl
 refine join_list p.isList (ys:=ys) (by simpa using vals_strs r) (by rw[zl];omega) fun t' k=>?_
 rw[join_empty z hz]
 exact⟨.str _,H,I.tok _,⟨_,rfl⟩,q⟩
theorem rep_one (c:Nat):∀(n:Nat) (acc:Array Nat),(List.replicate n #[c]).foldl (·++·) acc=acc++(List.replicate n c).toArray
 | 0,acc=>by simp
 | n+1,acc=>by
  rw[List.replicate_succ,cz,rep_one c n,List.replicate_succ]
  apply Array.toList_inj.mp
  simp
theorem mul_one (c:Nat)(n:Int):Txt.mul ⟨#[c]⟩ n=⟨(List.replicate n.toNat c).toArray⟩:=by
 unfold Txt.mul
 by_cases h1:n<1
 ·rw[au h1]
  have e:n.toNat=0:=by omega
  rw[e];rfl
 ·rw[aq h1]
  by_cases h2:(n==1||(⟨#[c]⟩:Str).length==0)=true
  ·rw[au h2]
   have e:n=1:=by simpa [Str.length]using h2
   rw[e];rfl
  ·rw[aq h2]
   congr 1
   have:=rep_one c n.toNat #[]
   rw[this]
   apply Array.toList_inj.mp
   simp
theorem op_mul_str:OpR X (binaryOp .Mult) (fun x y H Q=>∃(c:Nat) (n:Int),x=.str ⟨#[c]⟩/\y=.int n /\ -1000000<=n/\n<=1000000/\Q (.str ⟨(List.replicate n.toNat c).toArray⟩) H):=by
 intro pins s σ H x y v u Q I rx ry h
 obtain⟨c,n,rfl,rfl,h1,h2,q⟩:=h
 obtain⟨t,rfl⟩:=rx
 obtain⟨t',rfl⟩:=ry
 refine SB.mul ⟨?_,fun hn _=>?_,fun hn _=>?_⟩ fun t' k=>?_
 ·rw[aT (by omega),aT (by omega)];rfl
 ·have e:((⟨#[c]⟩:Str).length:Int)=1:=rfl
  rw[e]
  have:(1:Int)<=(2 ^ 63 - 1) / n:=(Int.le_ediv_iff_mul_le (by omega)).mpr (by omega)
  omega
 ·have e:(⟨#[c]⟩:Str).length=1:=rfl
  rw[e]
  unfold tooLong sizeLine
  rw[aT (by omega)]
 ·rw[mul_one]
  exact⟨.str _,H,I.tok _,⟨_,rfl⟩,q⟩
theorem call_isi:CallR X (.builtin "isinstance") (fun vs H Q=>∃ x T t b,vs=[x,.ty T]/\TyOf X.K H x t/\PySem.W.kitOne X.K t (.type T)=some b/\Q (.bl b) H):=by
 intro pins s σ H vs us Q I rv h
 obtain⟨x,T,t,b,rfl,ty,e,q⟩:=h
 obtain⟨u,w',rfl,r1,r2⟩:=vals2 rv
 cases r2
 exact isinst_ok I r1 ty e fun tk=>⟨.bl b,H,I.tok tk,rfl,q⟩
end
end L2
namespace L2
open PySem PySem.Spec PyProof.Rows
open Builtin Builtin.Str
section
variable {X:Cx}
theorem OpR.imp {f:Value->Value->Sem Value}{r r':R2}(h:OpR X f r)(hi:∀ x y H Q,r' x y H Q->r x y H Q):OpR X f r':=fun pins s σ H x y v u Q I r1 r2 q=>h pins s σ H x y v u Q I r1 r2 (hi x y H Q q)
theorem PE.imp {e:Expr}{t t':TE}(h:PE X e t)(hi:∀ σ H Q,t' σ H Q->t σ H Q):PE X e t':=fun pins s σ H Q I q=>h pins s σ H Q I (hi σ H Q q)
theorem PT.imp {e:Expr}{t t':TT}(h:PT X e t)(hi:∀ σ H Q,t' σ H Q->t σ H Q):PT X e t':=fun pins s σ H Q I q=>h pins s σ H Q I (hi σ H Q q)
theorem PG.imp {e:Expr}{t t':TG}(h:PG X e t)(hi:∀ v σ H Q,t' v σ H Q->t v σ H Q):PG X e t':=fun pins s σ H v u Q I r q=>h pins s σ H v u Q I r (hi v σ H Q q)
theorem PGs.imp {e:List Expr}{t t':TGs}(h:PGs X e t)(hi:∀ v σ H Q,t' v σ H Q->t v σ H Q):PGs X e t':=fun pins s σ H v u Q I r q=>h pins s σ H v u Q I r (hi v σ H Q q)
theorem PS.imp {e:Stmt}{t t':TS}(h:PS X e t)(hi:∀ D σ H,t' D σ H->t D σ H):PS X e t':=fun pins s σ H D I q=>h pins s σ H D I (hi D σ H q)
theorem CallR.imp {f:Value}{r r':List V->Hp->VK->Prop}(h:CallR X f r)(hi:∀ vs H Q,r' vs H Q->r vs H Q):CallR X f r':=fun pins s σ H vs us Q I rv q=>h pins s σ H vs us Q I rv (hi vs H Q q)
theorem MtR.imp {id:String}{r r':V->List V->Hp->VK->Prop}(h:MtR X id r)(hi:∀ x vs H Q,r' x vs H Q->r x vs H Q):MtR X id r':=fun pins s σ H x vs v us Q I r1 rv q=>h pins s σ H x vs v us Q I r1 rv (hi x vs H Q q)
def cVar (i:Nat):TE:=fun σ H Q=>match σ[i]? with | some (some v)=>Q v H | _=>False
theorem pvC (i:Nat){x:Str}{pos:Pos}(hN:X.N[i]?=some x:=by rfl)(hv:Vis X.env.scope x:=by first | exact Or.inl rfl | exact Or.inr (Or.inl rfl) | exact Or.inr (Or.inr rfl))(hd:(x==("__debug__" : Str))=false:=by decide)
 (hcd:(x==("__classdict__" : Str))=false:=by decide):PE X (.Name x pos) (cVar i):=(pe_var (i:=i) hN hv hd hcd).imp fun σ H Q q=>by
 unfold cVar at q
 split at q
 ·rename_i v e;exact⟨v,e,q⟩
 ·exact q.elim
def rAddC:R2:=fun x y H Q=>match x,y with
 | .int i,.int j=>Q (.int (i+j)) H
 | .str i,.str j=>i.length+j.length<=sizeLine/\Q (.str (i++j)) H
 | .ref l,.ref b=>∃ xs zs,H l=some (.lst xs)/\H b=some (.lst zs)/\xs.length+zs.length<=sizeLine/\∀ p,H p=none->Q (.ref p) (upd H p (.lst (xs++zs)))
 | _,_=>False
theorem addC:OpR X (binaryOp .Add) rAddC:=(op_add.or (op_add_str.or op_cat)).imp fun x y H Q q=>by
 unfold rAddC at q
 split at q
 ·exact .inl ⟨_,_,rfl,rfl,q⟩
 ·exact .inr (.inl ⟨_,_,rfl,rfl,q.1,q.2⟩)
 ·obtain⟨xs,zs,a,b,c,d⟩:=q;exact .inr (.inr ⟨_,_,xs,zs,rfl,rfl,a,b,c,d⟩)
 ·exact q.elim
def rI2 (C:Int->Int->Prop)(g:Int->Int->V):R2:=fun x y H Q=>match x,y with
 | .int i,.int j=>C i j/\Q (g i j) H
 | _,_=>False
def rI2' (g:Int->Int->V):R2:=fun x y H Q=>match x,y with
 | .int i,.int j=>Q (g i j) H
 | _,_=>False
theorem OpR.i2 {f:Value->Value->Sem Value}{C:Int->Int->Prop}{g:Int->Int->V}(h:OpR X f (rI C g)):OpR X f (rI2 C g):=h.imp fun x y H Q q=>by
 unfold rI2 at q
 split at q
 ·exact⟨_,_,rfl,rfl,q.1,q.2⟩
 ·exact q.elim
theorem OpR.i2' {f:Value->Value->Sem Value}{g:Int->Int->V}(h:OpR X f (rI0 g)):OpR X f (rI2' g):=h.imp fun x y H Q q=>by
 unfold rI2' at q
 split at q
 ·exact⟨_,_,rfl,rfl,q⟩
 ·exact q.elim
theorem subC:OpR X (binaryOp .Sub) (rI2' fun i j=>.int (i - j)):=op_sub.i2'
def rMulC:R2:=fun x y H Q=>match x,y with
 | .int i,.int j=>CMul i j/\Q (.int (i*j)) H
 | .str z,.int n=>∃ c:Nat,z=⟨#[c]⟩ /\ -1000000<=n/\n<=1000000/\Q (.str ⟨(List.replicate n.toNat c).toArray⟩) H
 | _,_=>False
theorem mulC:OpR X (binaryOp .Mult) rMulC:=(op_mul.or op_mul_str).imp fun x y H Q q=>by
 unfold rMulC at q
 split at q
 ·exact .inl ⟨_,_,rfl,rfl,q.1,q.2⟩
 ·obtain⟨c,rfl,a,b,d⟩:=q;exact .inr ⟨c,_,rfl,rfl,a,b,d⟩
 ·exact q.elim
theorem divC:OpR X (binaryOp .FloorDiv) (rI2 CDiv fun i j=>.int (i / j)):=op_fdiv.i2
theorem modC:OpR X (binaryOp .Mod) (rI2 (fun _ j=>0<j) fun i j=>.int (i%j)):=op_mod.i2
theorem powC:OpR X (binaryOp .Pow) (rI2 CPow fun i j=>.int (i ^ j.toNat)):=op_pow.i2
theorem ltC:OpR X (compareOp .Lt) (rI2' fun i j=>.bl (decide (i<j))):=op_lt.i2'
theorem leC:OpR X (compareOp .LtE) (rI2' fun i j=>.bl (decide (i<=j))):=op_le.i2'
theorem gtC:OpR X (compareOp .Gt) (rI2' fun i j=>.bl (decide (j<i))):=op_gt.i2'
theorem geC:OpR X (compareOp .GtE) (rI2' fun i j=>.bl (decide (j<=i))):=op_ge.i2'
def rEqC (neg:Bool):R2:=fun x y H Q=>match x,y with
 | .int i,.int j=>Q (.bl (neg != decide (i=j))) H
 | .str i,.str j=>Q (.bl (neg != decide (i=j))) H
 | .bl i,.bl j=>Q (.bl (neg != decide (i=j))) H
 | _,_=>False
theorem dec_congr {p q:Prop}[Decidable p][Decidable q](h:p↔q):decide p=decide q:=by
 by_cases hp:p
 ·rw[aE hp,aE (h.mp hp)]
 ·rw[aT hp,aT fun z=>hp (h.mpr z)]
theorem dI {i j:Int}:decide (V.int i=V.int j)=decide (i=j):=dec_congr (by simp)
theorem dS {i j:Str}:decide (V.str i=V.str j)=decide (i=j):=dec_congr (by simp)
theorem dB {i j:Bool}:decide (V.bl i=V.bl j)=decide (i=j):=dec_congr (by simp)
theorem eqC:OpR X (compareOp .Eq) (rEqC false):=op_eq.imp fun x y H Q q=>by
 unfold rEqC at q
 split at q
 ·exact⟨rfl,by rw[dI];simpa using q⟩
 ·exact⟨rfl,by rw[dS];simpa using q⟩
 ·exact⟨rfl,by rw[dB];simpa using q⟩
 ·exact q.elim
theorem neC:OpR X (compareOp .NotEq) (rEqC true):=op_ne.imp fun x y H Q q=>by
 unfold rEqC at q
 split at q
 ·exact⟨rfl,by rw[dI];simpa using q⟩
 ·exact⟨rfl,by rw[dS];simpa using q⟩
 ·exact⟨rfl,by rw[dB];simpa using q⟩
 ·exact q.elim
def cT (t:TE):TT:=fun σ H Q=>t σ H fun x H1=>match x with | .bl c=>Q c H1 | _=>False
end
def bK (Q:Bool->Hp->Prop):VK:=fun x H1=>match x with | .bl c=>Q c H1 | _=>False
section
variable {X:Cx}{a b e:Expr}{t ta tb:TE}{pos:Pos}
def cB (t:TE):TT:=fun σ H Q=>t σ H (bK Q)
theorem pt_cmpC {op:CmpOp}{r:R2}(ho:OpR X (compareOp op) r)(ha:PE X a ta)(hb:PE X b tb)(hm:behindInMarks op b=false):PT X (.Compare a [op] [b] pos) (cB (tOp r ta tb)):=by
 intro pins s σ H Q I h
 have hE:=pe_cmpR (pos:=pos) ho ha hb hm
 refine wpAny_isTrue_Compare1 ?_ hm
 refine binT ha hb I h fun v u s2 x y H2 I2 rx ry q=>?_
 refine thn (ho _ s2 σ H2 x y v u _ I2 rx ry q) fun c s3 hq2=>?_
 obtain⟨z,H3,I3,r3,q3⟩:=hq2
 cases z with
 | bl d=>cases r3;exact cv ⟨H3,I3,q3⟩
 | _=>exact(show False from q3).elim
theorem pt_valC (h:PE X e t)(he:∀ whole,isTrue e X.env whole=(do let v <- whole;standAt e.pos;holding [v] (truthy v)):=by intro _;rfl):PT X e (cB t):=by
 intro pins s σ H Q I hw
 refine isTrue_plain (thn (h pins s σ H _ I hw) fun v s1 hq3=>?_) (he _)
 obtain⟨x,H1,I1,r1,q1⟩:=hq3
 cases x with
 | bl d=>cases r1;exact cv ⟨H1,I1,q1⟩
 | _=>exact(show False from q1).elim
def cAnd (ta tb:TE):TE:=fun σ H Q=>ta σ H fun x H1=>match x with | .bl c=>if c=true then tb σ H1 Q else Q (.bl false) H1 | _=>False
def cNot (ta:TE):TE:=fun σ H Q=>ta σ H fun x H1=>match x with | .bl c=>Q (.bl (!c)) H1 | _=>False
theorem pe_andC {rest:List Expr}(ha:PE X a ta)(hb:PE X (.BoolOp .And (b::rest) pos) tb):PE X (.BoolOp .And (a::b::rest) pos) (cAnd ta tb):=by
 intro pins s σ H Q I h
 refine BoolOp_and (thn (ha pins s σ H _ I h) fun v s1 hq4=>?_)
 obtain⟨x,H1,I1,r1,q1⟩:=hq4
 cases x with
 | bl c =>
  cases r1
  refine cv ?_
  cases c with
  | true=>exact hb pins s1 σ H1 Q I1 q1
  | false=>exact⟨.bl false,H1,I1,rfl,q1⟩
 | _=>exact(show False from q1).elim
theorem pe_notC (ha:PE X a ta):PE X (.UnaryOp .Not a pos) (cNot ta):=by
 intro pins s σ H Q I h
 refine UnaryOp_ (thn (ha pins s σ H _ I h) fun v s1 hq5=>?_)
 obtain⟨x,H1,I1,r1,q1⟩:=hq5
 cases x with
 | bl c=>cases r1;exact not_of (cv ⟨.bl (!c),H1,I1,rfl,q1⟩)
 | _=>exact(show False from q1).elim
def opt {α:Type}(o:Option α)(k:α->Prop):Prop:=match o with | some v=>k v | none=>False
theorem opt_ex {α:Type}{o:Option α}{k:α->Prop}(h:opt o k):∃ v,o=some v/\k v:=by
 cases o with
 | none=>exact h.elim
 | some v=>exact⟨v,rfl,h⟩
def rIxC:R2:=fun x y H Q=>match x,y with
 | .ref p,.int i=>∃ xs,(H p=some (.lst xs)\/H p=some (.tup xs))/\opt (atI xs i) fun v=>Q v H
 | .str z,.int i=>z.length<=sizeLine/\opt (atI z.cps.toList i) fun c=>Q (.str ⟨#[c]⟩) H
 | _,_=>False
theorem IxR.imp {r r':R2}(h:IxR X r)(hi:∀ x y H Q,r' x y H Q->r x y H Q):IxR X r':=fun value slice pins s σ H x y v u Q I r1 r2 q=>h value slice pins s σ H x y v u Q I r1 r2 (hi x y H Q q)
theorem ixC:IxR X rIxC:=ix_seq.imp fun x y H Q q=>by
 unfold rIxC at q
 split at q
 ·obtain⟨xs,h,q⟩:=q
  obtain⟨v,e,q⟩:=opt_ex q
  rcases h with h | h
  ·exact .inl ⟨_,xs,_,v,rfl,rfl,SqL.of h,e,q⟩
  ·exact .inr (.inl ⟨_,xs,_,v,rfl,rfl,SqT.of h,e,q⟩)
 ·obtain⟨hz,q⟩:=q
  obtain⟨v,e,q⟩:=opt_ex q
  exact .inr (.inr ⟨_,_,v,rfl,rfl,hz,e,q⟩)
 ·exact q.elim
def rSlC:V->Option Int->Option Int->Hp->VK->Prop:=fun x lo hi H Q=>match x with
 | .ref p=>∃ xs,H p=some (.lst xs)/\∀ l,H l=none->Q (.ref l) (upd H l (.lst (cutV xs lo hi)))
 | .str z=>z.length<=sizeLine/\Q (.str ⟨(cutL z.cps.toList lo hi).toArray⟩) H
 | _=>False
theorem slC:SlR X rSlC:=by
 intro pins s σ H x v vl vu lo hi sl Q I rx hs pl pu h
 unfold rSlC at h
 split at h
 ·obtain⟨xs,h1,h2⟩:=h
  exact sl_list pins s σ H _ v vl vu lo hi sl Q I rx hs pl pu ⟨_,xs,rfl,SqL.of h1,h2⟩
 ·exact sl_str pins s σ H _ v vl vu lo hi sl Q I rx hs pl pu ⟨_,rfl,h.1,h.2⟩
 ·exact h.elim
def cNo:TO:=fun _ H Q=>Q none H
def cPart (t:TE):TO:=fun σ H Q=>t σ H fun x H1=>match x with | .int i=>Q (some i) H1 | _=>False
theorem po_noC:PO X none cNo:=po_none
theorem po_someC {te:TE}(h:PE X e te):PO X (some e) (cPart te):=by
 intro pins s σ H Q I hw
 rw[evalPart_some]
 refine thn (h pins s σ H _ I hw) fun u s1 hq6=>?_
 obtain⟨x,H1,I1,r1,q1⟩:=hq6
 cases x with
 | int i=>obtain⟨t,rfl⟩:=r1;exact⟨some i,H1,I1,.int i t,q1⟩
 | _=>exact(show False from q1).elim
def rLenC:List V->Hp->VK->Prop:=fun vs H Q=>match vs with
 | [.ref p]=>∃ xs,(H p=some (.lst xs)\/H p=some (.tup xs))/\Q (.int xs.length) H
 | [.str z]=>z.length<=sizeLine/\Q (.int z.length) H
 | _=>False
theorem lenC:CallR X (.builtin "len") rLenC:=(call_len_seq.or call_len_str).imp fun vs H Q q=>by
 unfold rLenC at q
 split at q
 ·obtain⟨xs,h,q⟩:=q
  rcases h with h | h
  ·exact .inl ⟨_,xs,rfl,.inl (SqL.of h),q⟩
  ·exact .inl ⟨_,xs,rfl,.inr (SqT.of h),q⟩
 ·exact .inr ⟨_,rfl,q.1,q.2⟩
 ·exact q.elim
def rSetC:TSet:=fun o i v H Q=>match o,i with
 | .ref p,.int k=>∃ xs,H p=some (.lst xs)/\opt (ixN xs.length k) fun j=>Q (upd H p (.lst (xs.set j v)))
 | _,_=>False
theorem setC:PSet X rSetC:=by
 intro pins s σ H o i v ov iv u Q I ro ri rv h
 unfold rSetC at h
 split at h
 ·obtain⟨xs,hx,q⟩:=h
  obtain⟨j,e,q⟩:=opt_ex q
  exact set_list pins s σ H _ _ v ov iv u Q I ro ri rv ⟨_,xs,_,j,rfl,rfl,hx,e,q⟩
 ·exact h.elim
def rGetC:V->V->Hp->VK->Prop:=fun o i H Q=>match o,i with
 | .ref p,.int k=>∃ xs,H p=some (.lst xs)/\0<=k/\opt (xs[k.toNat]?) fun v=>Q v H
 | _,_=>False
theorem getC:PGet X rGetC:=by
 intro pins s σ H o i ov iv Q I ro ri h
 unfold rGetC at h
 split at h
 ·obtain⟨xs,hx,h0,q⟩:=h
  obtain⟨v,e,q⟩:=opt_ex q
  cases ro
  obtain⟨t,rfl⟩:=ri
  obtain⟨z,fw,n,r,hl,ho⟩:=I.lstM hx
  obtain⟨w,ew,rw'⟩:=r.get e
  have hlt:=(gxB e).1
  have hn:=line63
  exact wpAny_getItem_list (x:=w) (⟨_,ho,rfl,n,rfl⟩:s.heap.IsList _ fw.toArray) h0 (by omega) (by simpa using ew) ⟨v,H,I,rw',q⟩
 ·exact h.elim
def ipC (f:Int->Int->Int):TIp:=fun x y H Q=>match x,y with | .int i,.int j=>Q (.int (f i j)) H | _,_=>False
theorem ip_addC:PIp X .Add (ipC fun i j=>i+j):=by
 intro pins s σ H x y v u Q I r1 r2 h
 unfold ipC at h
 split at h
 ·exact ip_add pins s σ H _ _ v u Q I r1 r2 ⟨_,_,rfl,rfl,h⟩
 ·exact h.elim
def cTup (n:Nat)(t:TGs):TG:=fun v σ H Q=>match v with | .ref a=>∃ xs,H a=some (.tup xs)/\xs.length=n/\t xs σ H Q | _=>False
def cCons (t:TG)(u:TGs):TGs:=fun vs σ H Q=>match vs with | v::r=>t v σ H fun σ' H'=>u r σ' H' Q | []=>False
def cNil:TGs:=fun vs σ H Q=>match vs with | []=>Q σ H | _=>False
theorem pg_tupC {es:List Expr}{k:Nat}{t:TGs}{n:Nat}(hc:X.calm=true)(h:PGs X es t)(hn:(assignEach es X.env).length=n:=by rfl)(hst:(assignEach es X.env).findIdx? (·.1)=none:=by rfl):PG X (.Tuple es k pos) (cTup n t) :=
 (pg_tup (pos:=pos) (k:=k) hc h hn hst).imp fun v σ H Q q=>by
  unfold cTup at q
  split at q
  ·obtain⟨xs,a,b,c⟩:=q;exact⟨_,xs,rfl,SqT.of a,b,c⟩
  ·exact q.elim
theorem eT {es:List Expr}{t:TG}{u:TGs}(h1:PG X e t)(h2:PGs X es u)(hs:(assignEach (e::es) X.env).map (·.2)=assign e X.env::(assignEach es X.env).map (·.2):=by rfl):PGs X (e::es) (cCons t u) :=
 (pgs_cons h1 h2 hs).imp fun v σ H Q q=>by
  unfold cCons at q
  split at q
  ·exact⟨_,_,rfl,q⟩
  ·exact q.elim
theorem pgs_nilC:PGs X [] cNil:=pgs_nil.imp fun v σ H Q q=>by
 unfold cNil at q
 split at q
 ·exact⟨rfl,q⟩
 ·exact q.elim
def rJoinC:V->List V->Hp->VK->Prop:=fun x vs H Q=>match x,vs with
 | .str z,[.ref l]=>z.cps=#[]/\∃ ys:List Str,H l=some (.lst (ys.map V.str))/\(ys.map (·.length)).sum<=16777216/\Q (.str ⟨(ys.map (·.cps.toList)).flatten.toArray⟩) H
 | _,_=>False
theorem joinC:MtR X "str.join" rJoinC:=mt_join.imp fun x vs H Q q=>by
 unfold rJoinC at q
 split at q
 ·obtain⟨a,ys,b,c,d⟩:=q;exact⟨_,_,ys,rfl,a,rfl,SqL.of b,c,d⟩
 ·exact q.elim
def rIsiC (K:PySem.W.Frag):List V->Hp->VK->Prop:=fun vs H Q=>match vs with
 | [x,.ty T]=>∃ t b,TyOf K H x t/\PySem.W.kitOne K t (.type T)=some b/\Q (.bl b) H
 | _=>False
theorem isiC:CallR X (.builtin "isinstance") (rIsiC X.K):=call_isi.imp fun vs H Q q=>by
 unfold rIsiC at q
 split at q
 ·obtain⟨t,b,h1,h2,h3⟩:=q;exact⟨_,_,t,b,rfl,h1,h2,h3⟩
 ·exact q.elim
def rListC (K:PySem.W.Frag):List V->Hp->VK->Prop:=fun vs H Q=>match vs with
 | [.ref p]=>∃ ys,SqL K H p ys/\∀ l,H l=none->Q (.ref l) (upd H l (.lst ys))
 | _=>False
theorem listC:CallR X (.type "list") (rListC X.K):=call_list_of.imp fun vs H Q q=>by
 unfold rListC at q
 split at q
 ·obtain⟨ys,h1,h2⟩:=q;exact⟨_,ys,rfl,.inl h1,h2⟩
 ·exact q.elim
def rMaxC:List V->Hp->VK->Prop:=fun vs H Q=>∃ i j,vs=[.int i,.int j]/\Q (.int (max i j)) H
theorem maxC (hc:X.calm=true):CallR X (.builtin "max") rMaxC:=(call_max2 hc).imp fun vs H Q q=>by
 obtain⟨i,j,rfl,q⟩:=q
 refine⟨_,_,rfl,?_⟩
 have e:(if j>i then j else i)=max i j:=by split <;> omega
 rw[e];exact q
end
theorem iteD {c A B:Prop}[Decidable c](h1:c->A)(h2:¬ c->B):if decide c=true then A else B:=by
 by_cases h:c
 ·rw[au (aE h)];exact h1 h
 ·rw[aq (by simp[h])];exact h2 h
theorem iteDn {c A B:Prop}[Decidable c](h1:¬ c->A)(h2:c->B):if(true != decide c)=true then A else B:=by
 by_cases h:c
 ·rw[aq (by simp[h])];exact h2 h
 ·rw[au (by simp[h])];exact h1 h
theorem iteDf {c A B:Prop}[Decidable c](h1:c->A)(h2:¬ c->B):if(false != decide c)=true then A else B:=by
 by_cases h:c
 ·rw[au (by simp[h])];exact h1 h
 ·rw[aq (by simp[h])];exact h2 h
theorem iteB {b:Bool}{A B:Prop}(h1:b=true->A)(h2:b=false->B):if b=true then A else B:=by
 cases b with
 | true=>exact h1 rfl
 | false=>exact h2 rfl
end L2
namespace L2
open PySem PySem.Spec PyProof.Rows
structure Cal (P:Program)(w:World)(K:PySem.W.Frag)(mg:Str->Option Value)(base:Heap)(x:Str)(k:Nat)(ps:List Str)(sp:Sp):Prop where
 ex:∃ f fd,FnOk P w K mg base CX0 k f fd ps sp/\mg x=some (.ref f)/\PySem.W.keepIn K (.ref f)=true/\Binds K fd ps []
theorem pe_callC {X:Cx}{x:Str}{p pos:Pos}{e:Expr}{es:List Expr}{t:TA}{k:Nat}{ps:List Str}{sp:Sp}(C:Cal X.prog X.w X.K X.mg X.base x k ps sp)(hr:Room k X.A)(hg:Gl X x)(ha:PA X (e::es) t)
 (hdb:(x==("__debug__" : Str))=false:=by decide) (he:starEach (e::es) X.env=(false,eval e X.env)::starEach es X.env:=by rfl) (hpl:(backTo pos (starEach es X.env)).any (·.1)=false:=by rfl) :
 PE X (.Call (.Name x p) (e::es) [] pos) (tCall sp [] E0 t):=by
 obtain⟨f,fd,F,hm,hk,hb⟩:=C.ex
 exact pe_call F hr hg hm hk hb .nil pass0 ha hdb he hpl
def tCut (t u:TS):TS:=fun D σ H=>∃ M:St->Hp->Prop,t { D with nx:=M} σ H/\∀ σ' H',M σ' H'->u D σ' H'
theorem pss_cut {X:Cx}{st:Stmt}{rest:List Stmt}{t u:TS}(h1:PS X st t)(h2:PSs X rest u):PSs X (st::rest) (tCut t u):=by
 intro pins s σ H D I h
 obtain⟨M,a,b⟩:=h
 refine wpAny_execs_cons (thn (h1 pins s σ H { D with nx:=M} I a) fun f s1 q=>?_)
 cases f with
 | next =>
  obtain⟨σ',H',I',q⟩:=q
  exact h2 pins s1 σ' H' D I' (b σ' H' q)
 | ret v=>exact q
 | brk=>exact q
 | cont=>exact q
theorem fj {α:Type}{o:Option α}{k:α->Prop}{v:α}(e:o=some v)(h:k v):opt o k:=by rw[e];exact h
def OB (b:Addr)(H H':Hp):Prop:=∀ c,c≠b->H' c=H c
theorem OB.refl {b:Addr}{H:Hp}:OB b H H:=fun _ _=>rfl
theorem OB.upd {b:Addr}{H H':Hp}{o:HO}(h:OB b H H'):OB b H (L2.upd H' b o):=fun c n=>by rw[upd_ne n];exact h c n
theorem pM:(0:Int)<2147483647:=by decide
theorem pN:(0:Int)<1000000007:=by decide
def OX (l:List Nat):Prop:=∀ c∈l,c=111\/c=120
theorem OX.of {l:List Nat}(h:l.all (fun c=>c==111||c==120)=true):OX l:=fun c hc=>by
 have:=List.all_eq_true.mp h c hc
 simpa using this
theorem OX.app {a b:List Nat}(ha:OX a)(hb:OX b):OX (a++b):=fun c h=>(List.mem_append.mp h).elim (ha c) (hb c)
theorem OX.one {c:Nat}(h:c=111\/c=120):OX [c]:=fun d hd=>by rw[List.mem_singleton.mp hd];exact h
theorem OX.rep {c n:Nat}(h:c=111\/c=120):OX (List.replicate n c):=fun d hd=>by rw[(List.mem_replicate.mp hd).2];exact h
theorem atI_in {l:List Nat}{v:Int}(h0:0<=v)(h1:v<l.length):∃ c,atI l v=some c/\c∈l:=by
 have hlt:v.toNat<l.length:=by omega
 refine⟨l[v.toNat],?_,bw _⟩
 have q:=atI_nat (xs:=l) (j:=v.toNat) (v:=l[v.toNat]) (gxA hlt)
 rwa [bO h0]at q
theorem app_str (a b:List Nat):((⟨a.toArray⟩:Str)++(⟨b.toArray⟩:Str))=⟨(a++b).toArray⟩:=by
 show(⟨a.toArray++b.toArray⟩:Str)=_
 congr 1
 simp
theorem lenS (a:List Nat):(⟨a.toArray⟩:Str).length=a.length:=by simp[Str.length]
theorem flat_signs:∀ l:List Nat,((l.map fun c=>(⟨#[c]⟩:Str)).map (·.cps.toList)).flatten=l
 | []=>rfl
 | c::r=>by rw[ag,ag,List.flatten_cons,flat_signs r];rfl
theorem sum_signs:∀ l:List Nat,((l.map fun c=>(⟨#[c]⟩:Str)).map (·.length)).sum=l.length
 | []=>rfl
 | c::r=>by
  rw[ag,ag,bR,sum_signs r]
  show 1+r.length=r.length+1
  omega
def spLaw (K:PySem.W.Frag):Sp:=fun vs H Q _=>∃(a:Addr) (ns:List Int),vs=[.ref a]/\SqL K H a (ns.map V.int)/\ns.length<=63/\∀ H',Q (.bl true) H'
theorem lenA (z:Str):z.length=z.cps.toList.length:=by simp[Str.length]
theorem fne (b:Bool):(false != b)=b:=by cases b <;> rfl
theorem tne (b:Bool):(true != b)=!b:=by cases b <;> rfl
theorem kit_same (K:PySem.W.Frag)(T:String):PySem.W.kitOne K (.type T) (.type T)=some true:=by unfold PySem.W.kitOne;simp
def ItOf (c:Bool)(h:Heap)(it a:Addr)(k:Nat):Prop:=if c=true then h.IsTupleIter it a k else h.IsListIter it a k
def SqOf (c:Bool)(h:Heap)(a:Addr)(fw:Array Value):Prop:=if c=true then h.IsTuple a fw else h.IsList a fw
theorem ItOf.extBut {c:Bool}{h h':Heap}{it a b:Addr}{k:Nat}(x:ItOf c h it a k)(hs:Heap.ExtBut b h h')(hab:it≠b):ItOf c h' it a k:=by
 cases c with
 | true=>exact Heap.IsTupleIter.extBut x hs hab
 | false=>exact Heap.IsListIter.extBut x hs hab
theorem SqOf.extBut {c:Bool}{h h':Heap}{a b:Addr}{fw:Array Value}(x:SqOf c h a fw)(hs:Heap.ExtBut b h h')(hab:a≠b):SqOf c h' a fw:=by
 cases c with
 | true=>exact Heap.IsTuple.extBut x hs hab
 | false=>exact Heap.IsList.extBut x hs hab
theorem SqOf.lt {c:Bool}{h:Heap}{a:Addr}{fw:Array Value}(x:SqOf c h a fw):a≠h.objs.size:=by
 cases c with
 | true=>obtain⟨o,e,_⟩:=x;exact ai (gxN e)
 | false=>obtain⟨o,e,_⟩:=x;exact ai (gxN e)
theorem ItOf.ex {c:Bool}{h:Heap}{it a:Addr}{k:Nat}(x:ItOf c h it a k):∃ o,h.get? it=some o:=by
 cases c with
 | true=>obtain⟨o,e,_⟩:=x;exact⟨o,e⟩
 | false=>obtain⟨o,e,_⟩:=x;exact⟨o,e⟩
theorem ItOf.data {c:Bool}{h:Heap}{it a:Addr}{k:Nat}(x:ItOf c h it a k):∃ o,h.get? it=some o/\∀ v,o.data≠.cell v:=by
 cases c with
 | true=>obtain⟨o,e,_,d⟩:=x;exact⟨o,e,fun v z=>by rw[d]at z;cases z⟩
 | false=>obtain⟨o,e,_,d⟩:=x;exact⟨o,e,fun v z=>by rw[d]at z;cases z⟩
theorem ItOf.at {c:Bool}{h h':Heap}{it a:Addr}{k:Nat}(x:ItOf c h it a k)(e:∀ o,h.get? it=some o->h'.get? it=some o):ItOf c h' it a k:=by
 cases c with
 | true=>obtain⟨o,q,r⟩:=x;exact⟨o,e o q,r⟩
 | false=>obtain⟨o,q,r⟩:=x;exact⟨o,e o q,r⟩
section
variable {prog:Program}{w:World}{A:Around}{E:Value->Shared->Prop}{s:Shared}
theorem nextT_item {it t:Addr}{i:Nat}{items}{x:Value}{Q:Value->Shared->Prop}(hit:s.heap.IsTupleIter it t i)(ht:s.heap.IsTuple t items)(hx:items[i]?=some x)
 (hQ:∀ h',h'.IsTupleIter it t (i+1)->Heap.SameBut it s.heap h'->Q x { s with heap:=h'}):wpAny (model prog w) A (Builtin.SmallTypes.nextOf (.ref it)) Q E s:=by
 obtain⟨o,ho,hc,hd⟩:=id hit
 obtain⟨ol,hol,_,nl,hdl⟩:=ht
 unfold Builtin.SmallTypes.nextOf
 refine e9 (ba (name:=Str.ofString "__next__") hit.typeIs cH (bM cH hit.typeIs F.entry_tuple_iterator_next ?_ (F.args_tuple_iterator_next_1 _)))
 show wpAny _ _ (field (.ref it) 0 >>= _) _ _ s
 refine e9 (aA ho hd (x:=.ref t) rfl ?_)
 show wpAny _ _ (if(Value.ref t==Value.none)=true then _ else _) _ _ s
 rw[aq (show ¬ ((Value.ref t==Value.none)=true)from av)]
 show wpAny _ _ (field (.ref it) 1 >>= _) _ _ s
 refine e9 (aA ho hd (x:=.int i 0) rfl ?_)
 show wpAny _ _ (seqItems? (.ref t) >>= _) _ _ s
 refine e9 (aP hol hdl ?_)
 simp only[gxK,hx]
 refine e9 (cR ho hd (by simp) (aa ⟨x,rfl,aa (hQ _ ?_ (de ..))⟩))
 exact⟨_,bc _ ho (eF (dt hd _)),(Obj.cls_mapFields ..).trans hc,by rw[dt hd];simp[rawInt]⟩
theorem nextT_end {it t:Addr}{i:Nat}{items}{Q:Value->Shared->Prop}(hh:A.handled=none)(hit:s.heap.IsTupleIter it t i)(ht:s.heap.IsTuple t items)(hx:items[i]?=none)
 (hE:∀ h' e,Heap.ExtBut it s.heap h'->(∃ o,h'.get? e=some o/\o.cls=.type "StopIteration")->E (.ref e) { s with heap:=h'}):wpAny (model prog w) A (Builtin.SmallTypes.nextOf (.ref it)) Q E s:=by
 obtain⟨o,ho,hc,hd⟩:=id hit
 obtain⟨ol,hol,_,nl,hdl⟩:=ht
 unfold Builtin.SmallTypes.nextOf
 refine e9 (ba (name:=Str.ofString "__next__") hit.typeIs cH (bM cH hit.typeIs F.entry_tuple_iterator_next ?_ (F.args_tuple_iterator_next_1 _)))
 show wpAny _ _ (field (.ref it) 0 >>= _) _ _ s
 refine e9 (aA ho hd (x:=.ref t) rfl ?_)
 show wpAny _ _ (if(Value.ref t==Value.none)=true then _ else _) _ _ s
 rw[aq (show ¬ ((Value.ref t==Value.none)=true)from av)]
 show wpAny _ _ (field (.ref it) 1 >>= _) _ _ s
 refine e9 (aA ho hd (x:=.int i 0) rfl ?_)
 show wpAny _ _ (seqItems? (.ref t) >>= _) _ _ s
 refine e9 (aP hol hdl ?_)
 simp only[gxK,hx]
 refine e9 (c5 (e9 (cR ho hd (by simp) ?_)))
 show wpAny _ _ (newExc (.type "StopIteration") [] >>= _) _ _ _
 refine e9 ?_
 simp only[newExc,newTuple]
 refine e9 (cL ?_ (by size_fits))
 refine e9 (m:=firstArgMember _ _) (wpAny_of_eq (a:=Value.none) (by first | rfl | (simp only[firstArgMember];rfl)) ?_)
 refine cL ?_ (by size_fits)
 simp only[raiseNew]
 refine e9 (wpAny_handled ?_)
 first | rw[show A.in1.handled=none from hh] | rw[hh]
 refine e9 (aa (wpAny_throw ?_))
 exact hE _ _ (((de ..).extBut.push _).push _) ⟨_,ak _ rfl,rfl⟩
theorem nextG_item {c:Bool}{it l:Addr}{i:Nat}{items:Array Value}{x:Value}{Q:Value->Shared->Prop}(hit:ItOf c s.heap it l i)(hl:SqOf c s.heap l items)(hx:items[i]?=some x)
 (hQ:∀ h',ItOf c h' it l (i+1)->Heap.SameBut it s.heap h'->Q x { s with heap:=h'}):wpAny (model prog w) A (Builtin.SmallTypes.nextOf (.ref it)) Q E s:=by
 cases c with
 | true=>exact nextT_item hit hl hx hQ
 | false=>exact wpAny_nextOf_list_item hit hl hx hQ
theorem nextG_end {c:Bool}{it l:Addr}{i:Nat}{items:Array Value}{Q:Value->Shared->Prop}(hh:A.handled=none)(hit:ItOf c s.heap it l i)(hl:SqOf c s.heap l items)(hx:items[i]?=none)
 (hE:∀ h' e,Heap.ExtBut it s.heap h'->(∃ o,h'.get? e=some o/\o.cls=.type "StopIteration")->E (.ref e) { s with heap:=h'}):wpAny (model prog w) A (Builtin.SmallTypes.nextOf (.ref it)) Q E s:=by
 cases c with
 | true=>exact nextT_end hh hit hl hx hE
 | false=>exact wpAny_nextOf_list_end hh hit hl hx hE
structure ZS (c:Bool)(z TI TO i1 i2 l1 l2:Addr)(f a b:Value)(k1 k2:Nat)(xs ys:Array Value)(h:Heap):Prop where
 z:IsZip h z TI TO f
 ti:IsPair h TI (.ref i1) (.ref i2)
 to:IsPair h TO a b
 n1:ItOf c h i1 l1 k1
 n2:ItOf c h i2 l2 k2
 q1:SqOf c h l1 xs
 q2:SqOf c h l2 ys
def ZK (z TO i1 i2:Addr)(h h':Heap):Prop:=∀ d o,d≠z->d≠TO->d≠i1->d≠i2->h.get? d=some o->h'.get? d=some o
theorem ZK.trans {z TO i1 i2:Addr}{h h1 h2:Heap}(a:ZK z TO i1 i2 h h1)(b:ZK z TO i1 i2 h1 h2):ZK z TO i1 i2 h h2:=fun d o q1 q2 q3 q4 e=>b d o q1 q2 q3 q4 (a d o q1 q2 q3 q4 e)
section
variable {c:Bool}{z TI TO i1 i2 l1 l2:Addr}{f f' a b x y:Value}{k1 k2:Nat}{xs ys:Array Value}{h h':Heap}
theorem ZS.mz (S:ZS c z TI TO i1 i2 l1 l2 f a b k1 k2 xs ys h)(D:ZipApart z TI TO i1 i2 l1 l2)(e:IsZip h' z TI TO f')(k:Heap.ExtBut z h h'):ZS c z TI TO i1 i2 l1 l2 f' a b k1 k2 xs ys h' :=
 ⟨e,k _ _ D.TIz S.ti,k _ _ D.TOz S.to,S.n1.extBut k D.i1z,S.n2.extBut k D.i2z,S.q1.extBut k D.l1z,S.q2.extBut k D.l2z⟩
theorem ZS.m1 {j:Nat}(S:ZS c z TI TO i1 i2 l1 l2 f a b k1 k2 xs ys h)(D:ZipApart z TI TO i1 i2 l1 l2)(e:ItOf c h' i1 l1 j)(k:Heap.ExtBut i1 h h'):ZS c z TI TO i1 i2 l1 l2 f a b j k2 xs ys h' :=
 ⟨k _ _ D.i1z.symm S.z,k _ _ D.TIi1 S.ti,k _ _ D.TOi1 S.to,e,S.n2.extBut k D.i12.symm,S.q1.extBut k D.l1i1,S.q2.extBut k D.l2i1⟩
theorem ZS.m2 {j:Nat}(S:ZS c z TI TO i1 i2 l1 l2 f a b k1 k2 xs ys h)(D:ZipApart z TI TO i1 i2 l1 l2)(e:ItOf c h' i2 l2 j)(k:Heap.ExtBut i2 h h'):ZS c z TI TO i1 i2 l1 l2 f a b k1 j xs ys h' :=
 ⟨k _ _ D.i2z.symm S.z,k _ _ D.TIi2 S.ti,k _ _ D.TOi2 S.to,S.n1.extBut k D.i12,e,S.q1.extBut k D.l1i2,S.q2.extBut k D.l2i2⟩
theorem ZS.mo (S:ZS c z TI TO i1 i2 l1 l2 f a b k1 k2 xs ys h)(D:ZipApart z TI TO i1 i2 l1 l2)(e:IsPair h' TO x y)(k:Heap.ExtBut TO h h'):ZS c z TI TO i1 i2 l1 l2 f x y k1 k2 xs ys h' :=
 ⟨k _ _ D.TOz.symm S.z,k _ _ D.TITO S.ti,e,S.n1.extBut k D.TOi1.symm,S.n2.extBut k D.TOi2.symm,S.q1.extBut k D.l1TO,S.q2.extBut k D.l2TO⟩
theorem ZS.push (S:ZS c z TI TO i1 i2 l1 l2 f a b k1 k2 xs ys h)(o:Obj):ZS c z TI TO i1 i2 l1 l2 f a b k1 k2 xs ys (h.push o) :=
 ⟨gxL _ S.z,gxL _ S.ti,gxL _ S.to,S.n1.at fun _ e=>gxL _ e,S.n2.at fun _ e=>gxL _ e,
  S.q1.extBut (b:=h.objs.size) (fun _ _ _ e=>gxL _ e) (S.q1.lt),S.q2.extBut (b:=h.objs.size) (fun _ _ _ e=>gxL _ e) (S.q2.lt)⟩
theorem zk_z (k:Heap.ExtBut z h h'):ZK z TO i1 i2 h h':=fun d o q _ _ _ e=>k d o q e
theorem zk_o (k:Heap.ExtBut TO h h'):ZK z TO i1 i2 h h':=fun d o _ q _ _ e=>k d o q e
theorem zk_1 (k:Heap.ExtBut i1 h h'):ZK z TO i1 i2 h h':=fun d o _ _ q _ e=>k d o q e
theorem zk_2 (k:Heap.ExtBut i2 h h'):ZK z TO i1 i2 h h':=fun d o _ _ _ q e=>k d o q e
end
section
variable {c:Bool}{z TI TO i1 i2 l1 l2:Addr}{k1 k2:Nat}{xs ys:Array Value}{x y a b:Value}
theorem zip_turn {Q:Value->Shared->Prop}(D:ZipApart z TI TO i1 i2 l1 l2)(S:ZS c z TI TO i1 i2 l1 l2 .none a b k1 k2 xs ys s.heap)(hx:xs[k1]?=some x)(hy:ys[k2]?=some y)
 (hQ:∀ h',ZS c z TI TO i1 i2 l1 l2 (rawInt s.heap.objs.size) x y (k1+1) (k2+1) xs ys h'->IsPair h' s.heap.objs.size x y->ZK z TO i1 i2 s.heap h'->Q (.ref s.heap.objs.size) { s with heap:=h'}) :
 wpAny (model prog w) A (Builtin.«zip.__next__» ⟨[.ref z],[]⟩) (fun fin s'=>∃ v,fin=.done (.ret v)/\Q v s') E s:=by
 refine e9 (aa (e9 (aA S.z rfl (x:=.bool false) rfl (e9 (aA S.z rfl (x:=.ref TI) rfl (e9 (aP S.ti rfl ?_)))))))
 refine e9 (m:=Builtin.SmallTypes.ownedTupleIsFree (.ref z)) (e9 (aA S.z rfl (x:=.none) rfl (aa ?_)))
 refine e9 (c5 (e9 (aA S.z rfl (x:=.ref TO) rfl (e9 (aK S.z (by simp) fun g1 e1 t1=>?_)))))
 have S1:=S.mz D (f':=.ellipsis) e1 t1.extBut
 refine e9 ?_
 rw[show(#[Value.ref i1,Value.ref i2]:Array Value).toList.zipIdx=[(.ref i1,0),(.ref i2,1)]from rfl,a8]
 refine e9 (e9 (cm (e9 (nextG_item S1.n1 S1.q1 hx fun g2 e2 t2=>aa ?_))))
 have S2:=S1.m1 D e2 t2.extBut
 refine e9 (aP S2.to rfl (e9 (cq S2.to fun g3 e3 t3=>e9 (cu (aa ?_)))))
 have S3:=S2.mo D (x:=x) (y:=b) e3 t3.extBut
 dsimp only
 rw[a8]
 refine e9 (e9 (cm (e9 (nextG_item S3.n2 S3.q2 hy fun g4 e4 t4=>aa ?_))))
 have S4:=S3.m2 D e4 t4.extBut
 refine e9 (aP S4.to rfl (e9 (cq S4.to fun g5 e5 t5=>e9 (cu (aa ?_)))))
 have S5:=S4.mo D (x:=x) (y:=y) e5 t5.extBut
 dsimp only
 rw[c7]
 have sz:g5.objs.size=s.heap.objs.size:=t5.1.trans (t4.1.trans (t3.1.trans (t2.1.trans t1.1)))
 refine aa (e9 (aP S5.to rfl (e9 (dJ ?_))))
 have S6:=S5.push { cls:=.type "tuple",data:=.seq #[x,y]}
 refine e9 (m:=Builtin.SmallTypes.ownedTupleHandOut (.ref z) (.ref g5.objs.size)) (e9 (aK S6.z (by simp) fun g7 e7 t7=>?_))
 have S7:=S6.mz D (f':=rawInt g5.objs.size) e7 t7.extBut
 refine aK S7.z (by simp) fun g8 e8 t8=>?_
 have S8:=S7.mz D (f':=rawInt g5.objs.size) e8 t8.extBut
 have zlt:g5.objs.size≠z:=aU (gxN S5.z)
 have hT:IsPair g8 g5.objs.size x y:=t8.extBut _ _ zlt (t7.extBut _ _ zlt (ak _ rfl))
 have kk:ZK z TO i1 i2 s.heap g8:=((((((zk_z t1.extBut).trans (zk_1 t2.extBut)).trans (zk_o t3.extBut)).trans (zk_2 t4.extBut)).trans (zk_o t5.extBut)).trans (fun d o _ _ _ _ e=>gxL _ e)).trans ((zk_z t7.extBut).trans (zk_z t8.extBut))
 rw[sz]at S8 hT
 refine aa ⟨_,rfl,?_⟩
 show Q (.ref g5.objs.size) _
 rw[sz]
 exact hQ g8 S8 hT kk
theorem zip_over {Q:Fin->Shared->Prop}(hh:A.handled=none)(D:ZipApart z TI TO i1 i2 l1 l2)(S:ZS c z TI TO i1 i2 l1 l2 .none a b k1 k2 xs ys s.heap)(hx:xs[k1]?=none)
 (hE:∀ h' e,ZK z TO i1 i2 s.heap h'->(∃ o,h'.get? e=some o/\o.cls=.type "StopIteration")->E (.ref e) { s with heap:=h'}) :
 wpAny (model prog w) A (Builtin.«zip.__next__» ⟨[.ref z],[]⟩) Q E s:=by
 refine e9 (aa (e9 (aA S.z rfl (x:=.bool false) rfl (e9 (aA S.z rfl (x:=.ref TI) rfl (e9 (aP S.ti rfl ?_)))))))
 refine e9 (m:=Builtin.SmallTypes.ownedTupleIsFree (.ref z)) (e9 (aA S.z rfl (x:=.none) rfl (aa ?_)))
 refine e9 (c5 (e9 (aA S.z rfl (x:=.ref TO) rfl (e9 (aK S.z (by simp) fun g1 e1 t1=>?_)))))
 have S1:=S.mz D (f':=.ellipsis) e1 t1.extBut
 refine e9 ?_
 rw[show(#[Value.ref i1,Value.ref i2]:Array Value).toList.zipIdx=[(.ref i1,0),(.ref i2,1)]from rfl,a8]
 refine e9 (e9 (cm (e9 (nextG_end hh S1.n1 S1.q1 hx fun g2 e t2 he=>?_))))
 obtain⟨oe,hoe,hce⟩:=he
 have hz2:IsZip g2 z TI TO .ellipsis:=t2 _ _ D.i1z.symm S1.z
 have hez:e≠z:=fun q=>by subst q;rw[hz2]at hoe;cases hoe;simp at hce
 exact aK hz2 (by simp) fun g3 _ t3=>hE g3 e (((zk_z t1.extBut).trans (zk_1 t2)).trans (zk_z t3.extBut)) ⟨oe,t3.extBut _ _ hez hoe,hce⟩
theorem zip_item {Q:Option Value->Shared->Prop}(D:ZipApart z TI TO i1 i2 l1 l2)(S:ZS c z TI TO i1 i2 l1 l2 .none a b k1 k2 xs ys s.heap)(hx:xs[k1]?=some x)(hy:ys[k2]?=some y)
 (hQ:∀ h',ZS c z TI TO i1 i2 l1 l2 (rawInt s.heap.objs.size) x y (k1+1) (k2+1) xs ys h'->IsPair h' s.heap.objs.size x y->ZK z TO i1 i2 s.heap h'->Q (some (.ref s.heap.objs.size)) { s with heap:=h'}) :
 wpAny (model prog w) A (pyNext (.ref z)) Q E s:=by
 have ty:s.TypeIs (.ref z) "zip":=⟨_,S.z,rfl⟩
 unfold pyNext
 exact e9 (cW (ba (name:=Str.ofString "__next__") ty bC (bM bC ty cD (zip_turn D S hx hy fun h' a1 a2 a3=>aa (hQ h' a1 a2 a3)) (cy _))))
theorem zip_end {Q:Option Value->Shared->Prop}(hh:A.handled=none)(D:ZipApart z TI TO i1 i2 l1 l2)(S:ZS c z TI TO i1 i2 l1 l2 .none a b k1 k2 xs ys s.heap)(hx:xs[k1]?=none)
 (hQ:∀ h',ZK z TO i1 i2 s.heap h'->Q none { s with heap:=h'}):wpAny (model prog w) A (pyNext (.ref z)) Q E s:=by
 have ty:s.TypeIs (.ref z) "zip":=⟨_,S.z,rfl⟩
 unfold pyNext
 refine e9 (cW (ba (name:=Str.ofString "__next__") ty bC (bM bC ty cD (zip_over hh D S hx fun h' e hk he=>?_) (cy _))))
 obtain⟨o,ho,hc⟩:=he
 exact e9 (eI (T := "StopIteration") (b:=true) ⟨o,ho,hc⟩ isSubtype_stop (aa (hQ _ hk)))
end
end
def SqC (c:Bool)(H:Hp)(a:Addr)(xs:List V):Prop:=if c=true then H a=some (.tup xs)else H a=some (.lst xs)
theorem SqC.inj {c:Bool}{H:Hp}{a:Addr}{xs ys:List V}(h:SqC c H a xs)(h':SqC c H a ys):xs=ys:=by
 cases c with
 | true=>have h1:H a=some (.tup xs):=h;have h2:H a=some (.tup ys):=h';rw[h1]at h2;cases h2;rfl
 | false=>have h1:H a=some (.lst xs):=h;have h2:H a=some (.lst ys):=h';rw[h1]at h2;cases h2;rfl
theorem SqC.ex {c:Bool}{H:Hp}{a:Addr}{xs:List V}(h:SqC c H a xs):∃ o,H a=some o:=by
 cases c with
 | true=>exact⟨_,h⟩
 | false=>exact⟨_,h⟩
theorem SqC.val {X:Cx}{pins:List (Addr×Obj)}{σ:St}{H:Hp}{s:Shared}{c:Bool}{a:Addr}{xs:List V}(I:Inv X pins σ H s)(h:SqC c H a xs):∃ fw:List Value,Vals xs fw/\SqOf c s.heap a fw.toArray:=by
 cases c with
 | true =>
  obtain⟨_,fw,r,p⟩:=(show ObjOk X.prog X.w H s.heap a (.tup xs)from I.hok a _ h)
  exact⟨fw,r,p⟩
 | false =>
  obtain⟨_,fw,n,r,_,e⟩:=I.lstM h
  exact⟨fw,r,⟨_,e,rfl,n,rfl⟩⟩
def Itz (c:Bool)(a1 a2:Addr):It :=
 ⟨fun i H=>∃ xs ys x y,SqC c H a1 xs/\SqC c H a2 ys/\xs[i]?=some x/\ys[i]?=some y,
  fun i H v H'=>∃ T x y,v=.ref T/\H T=none/\H'=upd H T (.tup [x,y])/\(∀ xs,SqC c H a1 xs->xs[i]?=some x)/\(∀ ys,SqC c H a2 ys->ys[i]?=some y),
  fun i H=>∃ xs ys,SqC c H a1 xs/\SqC c H a2 ys/\xs.length<=i⟩
section
variable {X:Cx}{pins:List (Addr×Obj)}{σ:St}{H:Hp}{s:Shared}
theorem Inv.turnT {ch:List Addr}{h'':Heap}{x y:V}{u v:Value}(I:Inv X pins σ H s)(fr:∀ b∈ch,FpOk X pins H b)(kp':∀ b o,b∉ch->s.heap.get? b=some o->h''.get? b=some o)(hT':IsPair h'' s.heap.objs.size u v)(ru:RelV x u)(rv:RelV y v) :
 Inv X pins σ (upd H s.heap.objs.size (.tup [x,y])) { s with heap:=h''}:=by
 have hn:H s.heap.objs.size=none:=I.hok.fresh (ae _)
 refine I.step (g':=s.gens) (d':=s.drawn) (t':=s.toks) (h':=h'') (ch:=ch) (fun b hb=>?_) (fun b o _ _ hb e _=>kp' b o hb e) (fun b o _ _ hb e _=>⟨o.slots,kp' b o hb e⟩)
  (fun b o hb e n=>by rw[upd_ne (ai (gxN e))];exact n) (fun b o hb e=>⟨o,kp' b o hb e⟩)
  (fun b zs e=>by rw[upd_ne (ne_of_none e hn)];exact e) (fun b o u e=>by rw[upd_ne (ne_of_none e hn)];exact e) (fun b ps e=>⟨#[],by rw[upd_ne (ne_of_none e hn),e];simp⟩) (fun m hm=>?_) (fun b o e=>?_) I.bare
 ·obtain⟨f0,f1,f2,f3,f4,f5⟩:=fr b hb
  exact⟨f3,f1,f4,f5⟩
 ·obtain⟨o,es,ep,ho,rr⟩:=hm
  exact⟨o,es,ep,kp' _ o (fun q=>(fr _ q).2.1 rfl) ho,rr⟩
 ·by_cases hb:b=s.heap.objs.size
  ·subst hb;rw[fA]at e;cases e
   exact⟨by show 2<=sizeLine;decide,[u,v],.cons ru (.cons rv .nil),⟨_,hT',rfl,0,rfl⟩⟩
  ·rw[upd_ne hb]at e
   refine(I.hok b o e).stay (fun d v' hd q=>kp' d v' (fun hm=>?_) q) (fun d q=>by rw[upd_ne (ne_of_none q hn)];exact q) fun d zs q=>by rw[upd_ne (ne_of_none q hn)];exact q
   have nn:=(fr d hm).1
   rcases hd with rfl | hd
   ·rw[nn]at e;cases e
   ·rw[nn]at hd;cases hd
theorem Inv.turnK {ch:List Addr}{h'':Heap}(I:Inv X pins σ H s)(fr:∀ b∈ch,FpOk X pins H b)(kp':∀ b o,b∉ch->s.heap.get? b=some o->h''.get? b=some o):Inv X pins σ H { s with heap:=h''}:=by
 refine I.step (g':=s.gens) (d':=s.drawn) (t':=s.toks) (h':=h'') (ch:=ch) (fun b hb=>?_) (fun b o _ _ hb e _=>kp' b o hb e) (fun b o _ _ hb e _=>⟨o.slots,kp' b o hb e⟩)
  (fun b o hb e n=>n) (fun b o hb e=>⟨o,kp' b o hb e⟩) (fun b zs e=>e) (fun b o u e=>e) (fun b ps e=>⟨#[],by rw[e];simp⟩) (fun m hm=>?_) (fun b o e=>?_) I.bare
 ·obtain⟨f0,f1,f2,f3,f4,f5⟩:=fr b hb
  exact⟨f3,f1,f4,f5⟩
 ·obtain⟨o,es,ep,ho,rr⟩:=hm
  exact⟨o,es,ep,kp' _ o (fun q=>(fr _ q).2.1 rfl) ho,rr⟩
 ·refine(I.hok b o e).stay (fun d v' hd q=>kp' d v' (fun hm=>?_) q) (fun d q=>q) fun d zs q=>q
  have nn:=(fr d hm).1
  rcases hd with rfl | hd
  ·rw[nn]at e;cases e
  ·rw[nn]at hd;cases hd
end
theorem turn_zip {P:Program}{w:World}{K:PySem.W.Frag}{elts:List Expr}{kk:Nat}{tpos:Pos}{c:Bool}{z TI TO i1 i2 l1 l2:Addr}(D:ZipApart z TI TO i1 i2 l1 l2) :
 Turn P w K (.Tuple elts kk tpos) (Itz c l1 l2) [z,TI,TO,i1,i2] z (fun i h=>IsZip h z TI TO .none/\IsPair h TI (.ref i1) (.ref i2)/\(∃ a b,IsPair h TO a b)/\ItOf c h i1 l1 i/\ItOf c h i2 l2 i) where
 mem:=by simp
 obj:=fun i h st b hb=>by
  obtain⟨hz,hTI,⟨a,b',hTO⟩,h1,h2⟩:=st
  simp only[aH,aw,bz]at hb
  rcases hb with rfl | rfl | rfl | rfl | rfl
  ·exact⟨_,hz,fun v q=>by cases q⟩
  ·exact⟨_,hTI,fun v q=>by cases q⟩
  ·exact⟨_,hTO,fun v q=>by cases q⟩
  ·exact h1.data
  ·exact h2.data
 keep:=fun i h h' st k=>by
  obtain⟨hz,hTI,⟨a,b',hTO⟩,h1,h2⟩:=st
  exact⟨k z (by simp) _ hz,k TI (by simp) _ hTI,⟨a,b',k TO (by simp) _ hTO⟩,h1.at fun o e=>k i1 (by simp) o e,h2.at fun o e=>k i2 (by simp) o e⟩
 item:=by
  intro X hP hw hK hc i pins s σ H E I hf st hg
  subst hP hw hK
  obtain⟨hz,hTI,⟨a,b',hTO⟩,h1,h2⟩:=st
  obtain⟨xs,ys,x,y,q1,q2,ex,ey⟩:=hg
  obtain⟨us,r1,p1⟩:=q1.val I
  obtain⟨ws,r2,p2⟩:=q2.val I
  obtain⟨u,eu,ru⟩:=r1.get ex
  obtain⟨v,ev,rv⟩:=r2.get ey
  refine zip_item D ⟨hz,hTI,hTO,h1,h2,p1,p2⟩ (by simpa using eu) (by simpa using ev) fun h' S' hT hk=>?_
  refine⟨_,rfl,wpAny_letOwnedTupleGo_zip S'.z fun h'' e'' t''=>?_⟩
  have S'':=S'.mz D (f':=.none) e'' t''.extBut
  have Tz:s.heap.objs.size≠z:=aU (gxN hz)
  have hT':IsPair h'' s.heap.objs.size u v:=t''.extBut _ _ Tz hT
  have kp:ZK z TO i1 i2 s.heap h'':=hk.trans (zk_z t''.extBut)
  have hn:H s.heap.objs.size=none:=I.hok.fresh (ae _)
  have fr:∀ b∈[z,TO,i1,i2],FpOk X pins H b:=fun b hb=>hf b (by
   simp only[aH,aw,bz]at hb ⊢
   rcases hb with q | q | q | q <;> simp[q])
  have kp':∀ b o,b∉[z,TO,i1,i2]->s.heap.get? b=some o->h''.get? b=some o:=fun b o hb e=>kp b o (fun q=>hb (by simp[q])) (fun q=>hb (by simp[q])) (fun q=>hb (by simp[q])) (fun q=>hb (by simp[q])) e
  have I1:Inv X pins σ (upd H s.heap.objs.size (.tup [x,y])) { s with heap:=h''}:=I.turnT fr kp' hT' ru rv
  refine⟨.ref s.heap.objs.size,_,I1,rfl,⟨_,x,y,rfl,hn,rfl,fun zs q=>by rw[q.inj q1];exact ex,fun zs q=>by rw[q.inj q2];exact ey⟩,⟨S''.z,S''.ti,⟨_,_,S''.to⟩,S''.n1,S''.n2⟩,fun b hb=>?_⟩
  obtain⟨o,e,_⟩:∃ o,s.heap.get? b=some o/\True:=by
   simp only[aH,aw,bz]at hb
   rcases hb with rfl | rfl | rfl | rfl | rfl
   ·exact⟨_,hz,trivial⟩
   ·exact⟨_,hTI,trivial⟩
   ·exact⟨_,hTO,trivial⟩
   ·obtain⟨o,e⟩:=h1.ex;exact⟨o,e,trivial⟩
   ·obtain⟨o,e⟩:=h2.ex;exact⟨o,e,trivial⟩
  rw[upd_ne (ai (gxN e))]
  exact(hf b hb).1
 done:=by
  intro X hP hw hK hc i pins s σ H E I hf st hg
  subst hP hw hK
  obtain⟨hz,hTI,⟨a,b',hTO⟩,h1,h2⟩:=st
  obtain⟨xs,ys,q1,q2,hx⟩:=hg
  obtain⟨us,r1,p1⟩:=q1.val I
  obtain⟨ws,r2,p2⟩:=q2.val I
  have hl:=r1.length
  refine zip_end (I.ok.hd hc) D ⟨hz,hTI,hTO,h1,h2,p1,p2⟩ (by simp;omega) fun h' hk=>⟨rfl,?_⟩
  have fr:∀ b∈[z,TO,i1,i2],FpOk X pins H b:=fun b hb=>hf b (by
   simp only[aH,aw,bz]at hb ⊢
   rcases hb with q | q | q | q <;> simp[q])
  have kp':∀ b o,b∉[z,TO,i1,i2]->s.heap.get? b=some o->h'.get? b=some o:=fun b o hb e=>hk b o (fun q=>hb (by simp[q])) (fun q=>hb (by simp[q])) (fun q=>hb (by simp[q])) (fun q=>hb (by simp[q])) e
  exact I.turnK fr kp'
 self:=fun _ _ _ _ _ st h=>cC st.1 h
def tIt (a:Addr):Obj:={ cls:=.type "tuple_iterator",data:=.fields #[.ref a,.int 0 0]}
def zH (l1 l2:Addr)(h:Heap):Heap :=
 ((((h.push (tIt l1)).push (tIt l2)).push { cls:=.type "tuple",data:=.seq #[.ref h.objs.size,.ref (h.push (tIt l1)).objs.size]}).push { cls:=.type "tuple",data:=.seq #[.none,.none]}).push
  { cls:=.type "zip",data:=.fields #[.none,.bool false,.bool false,.ref ((h.push (tIt l1)).push (tIt l2)).objs.size,.ref (((h.push (tIt l1)).push (tIt l2)).push { cls:=.type "tuple",data:=.seq #[.ref h.objs.size,.ref (h.push (tIt l1)).objs.size]}).objs.size]}
theorem zip_newT (l1 l2:Addr)(xs ys:Array Value):Meets (Builtin.«zip.__new__» ⟨[.type "zip",.ref l1,.ref l2],[]⟩) (fun _ R s=>s.heap.IsTuple l1 xs/\s.heap.IsTuple l2 ys /\
 R (.ok (.ret (.ref (s.heap.objs.size+4)))) { s with heap:=zH l1 l2 s.heap}) :=
 .of_wp fun prog w A R s h=>by
  obtain⟨hp,g,d,tk,os⟩:=s;obtain⟨hl1,hl2,h⟩:=h
  have hsub:=sub_zip
  have t1:Heap.IsTuple (Shared.heap ⟨hp,g,d,tk,os⟩) l1 xs:=hl1
  have t2:Heap.IsTuple (Shared.heap ⟨hp.push { cls:=.type "tuple_iterator",data:=.fields #[.ref l1,.int 0 0]},g,d,tk,os⟩) l2 ys:=Heap.IsTuple.push hl2 _
  wp_walk using wpAny_pyIter_tuple t1,wpAny_pyIter_tuple t2
  refine⟨_,rfl,?_⟩
  have e:hp.objs.size+4=((((hp.push (tIt l1)).push (tIt l2)).push { cls:=.type "tuple",data:=.seq #[.ref hp.objs.size,.ref (hp.push (tIt l1)).objs.size]}).push { cls:=.type "tuple",data:=.seq #[.none,.none]}).objs.size:=by
   simp only[aS]
  have h':R (.ok (.ret (.ref (hp.objs.size+4)))) _:=h
  rw[e]at h'
  exact h'
theorem zip_made {prog:Program}{w:World}{A:Around}{E:Value->Shared->Prop}{s:Shared}{c:Bool}{l1 l2:Addr}{xs ys:Array Value}{Q:Value->Shared->Prop}(p1:SqOf c s.heap l1 xs)(p2:SqOf c s.heap l2 ys)
 (h:∀ h',IsZip h' (s.heap.objs.size+4) (s.heap.objs.size+2) (s.heap.objs.size+3) .none->IsPair h' (s.heap.objs.size+2) (.ref s.heap.objs.size) (.ref (s.heap.objs.size+1))->IsPair h' (s.heap.objs.size+3) .none .none ->
   ItOf c h' s.heap.objs.size l1 0->ItOf c h' (s.heap.objs.size+1) l2 0->(∀ b o,s.heap.get? b=some o->h'.get? b=some o)->Q (.ref (s.heap.objs.size+4)) { s with heap:=h'}) :
 wpAny (model prog w) A (call (.type "zip") [.ref l1,.ref l2]) Q E s:=by
 cases c with
 | false=>exact call_zip_2 p1 p2 fun h' a1 a2 a3 a4 a5 _ a7=>h h' a1 a2 a3 a4 a5 a7
 | true =>
  refine callType_new F.called_zip (by decide) (F.typeCall_zip_2 _ _) (F.newCall_zip_2 _ _) (fun obj=>F.args_object_init_3 obj _ _) F.entry_zip_new (zip_newT l1 l2 xs ys) ⟨p1,p2,?_⟩
  have z1:(s.heap.push (tIt l1)).objs.size=s.heap.objs.size+1:=aS ..
  have z2:((s.heap.push (tIt l1)).push (tIt l2)).objs.size=s.heap.objs.size+2:=by rw[aS,z1]
  have z3:(((s.heap.push (tIt l1)).push (tIt l2)).push { cls:=.type "tuple",data:=.seq #[.ref s.heap.objs.size,.ref (s.heap.push (tIt l1)).objs.size]}).objs.size=s.heap.objs.size+3:=by rw[aS,z2]
  have z4:((((s.heap.push (tIt l1)).push (tIt l2)).push { cls:=.type "tuple",data:=.seq #[.ref s.heap.objs.size,.ref (s.heap.push (tIt l1)).objs.size]}).push { cls:=.type "tuple",data:=.seq #[.none,.none]}).objs.size=s.heap.objs.size+4:=by rw[aS,z3]
  have g0:(zH l1 l2 s.heap).get? s.heap.objs.size=some (tIt l1):=gxL _ (gxL _ (gxL _ (gxL _ (ak _ rfl))))
  have g1:(zH l1 l2 s.heap).get? (s.heap.push (tIt l1)).objs.size=some (tIt l2):=gxL _ (gxL _ (gxL _ (ak _ rfl)))
  have g2:(zH l1 l2 s.heap).get? ((s.heap.push (tIt l1)).push (tIt l2)).objs.size=some _:=gxL _ (gxL _ (ak _ rfl))
  have g3:(zH l1 l2 s.heap).get? (((s.heap.push (tIt l1)).push (tIt l2)).push { cls:=.type "tuple",data:=.seq #[.ref s.heap.objs.size,.ref (s.heap.push (tIt l1)).objs.size]}).objs.size=some _:=gxL _ (ak _ rfl)
  have g4:(zH l1 l2 s.heap).get? ((((s.heap.push (tIt l1)).push (tIt l2)).push { cls:=.type "tuple",data:=.seq #[.ref s.heap.objs.size,.ref (s.heap.push (tIt l1)).objs.size]}).push { cls:=.type "tuple",data:=.seq #[.none,.none]}).objs.size=some _:=ak _ rfl
  rw[z1]at g1
  rw[z2,z1]at g2
  rw[z3]at g3
  rw[z4,z2,z3]at g4
  exact⟨⟨_,g4,rfl⟩,h _ g4 g2 g3 ⟨_,g0,rfl,rfl⟩ ⟨_,g1,rfl,rfl⟩ fun b o e=>gxL _ (gxL _ (gxL _ (gxL _ (gxL _ e))))⟩
section
variable {X:Cx}
def iZip (ta:TA):TI:=fun σ H R=>ta σ H fun vs H1=>match vs with
 | [.ref a,.ref b]=>∃(c:Bool) (xs ys:List V),SqC c H1 a xs/\SqC c H1 b ys/\R (Itz c a b) H1
 | _=>False
def rAllC (g:List Bool->Bool):List V->Hp->VK->Prop:=fun vs H Q=>match vs with
 | [.ref p]=>∃ bs:List Bool,H p=some (.lst (bs.map V.bl))/\Q (.bl (g bs)) H
 | _=>False
theorem range_all (bs:List Bool):(List.range bs.length).all (fun i=>bs.getD i true)=bs.all id:=by
 rw[dr,eL,eL]
 constructor
 ·intro h b hb
  obtain⟨i,hi,e⟩:=aJ hb
  have:=h i (by simpa using hi)
  rw[af,gxA hi,e]at this
  exact this
 ·intro h i hi
  have hi':i<bs.length:=by simpa using hi
  rw[af,gxA hi']
  exact h _ (bw _)
theorem allC (hc:X.calm=true):CallR X (.builtin "all") (rAllC fun bs=>bs.all id):=by
 intro pins s σ H vs us Q I rv h
 unfold rAllC at h
 split at h
 ·rename_i p
  obtain⟨bs,hp,q⟩:=h
  obtain⟨u,rfl,ru⟩:=rv.one
  cases ru
  obtain⟨z,fw,n,r,hl,e⟩:=I.lstM hp
  have isl:s.heap.IsList p fw.toArray:=⟨_,e,rfl,n,rfl⟩
  have lt:p≠s.heap.objs.size:=ai (gxN e)
  refine call_all_walk (c4 isl ⟨_,_,_,_,_,_,fun i=>bs.getD i true,rfl,Walks.list (A:=X.A.in1) (I.ok.hd hc) s.heap.objs.size p lt fw.toArray,⟨⟨_,ak _ rfl,rfl,rfl⟩,isl.push _⟩,?_,fun h' tk kp=>?_⟩)
  ·intro i v s' Q' E' hv hq
   have hv':fw[i]?=some v:=by simpa using hv
   have hb:∃ b,bs[i]?=some b/\v=.bool b:=by
    cases eb:(bs.map V.bl)[i]? with
    | none=>have:=r.none_of eb;rw[hv']at this;cases this
    | some y =>
     obtain⟨u,hu,ry⟩:=r.get eb
     rw[hv']at hu;cases hu
     rw[gxH]at eb
     cases e2:bs[i]? with
     | none=>rw[e2]at eb;cases eb
     | some b=>rw[e2]at eb;cases eb;exact⟨b,rfl,ry⟩
   obtain⟨b,eb,rfl⟩:=hb
   have e3:bs.getD i true=b:=by rw[af,eb];rfl
   have hq':Q' (bs.getD i true) s':=hq
   rw[e3]at hq'
   exact cv hq'
  ·have I2:Inv X pins σ H { s with heap:=h',toks:=tk}:=I.kept fun b o e'=>kp b o (by simpa using ai (gxN e')) (gxL _ e')
   have len:fw.toArray.size=bs.length:=by rw[ah,<- hl,gxC]
   rw[len,range_all]
   exact⟨.bl _,H,I2,rfl,q⟩
 ·exact h.elim
end
inductive DV where
 | non | bl (b:Bool) | int (i:Int) | str (z:Str) | lst (ds:List DV) | tup (ds:List DV)
mutual
def dep:DV->Nat
 | .lst ds=>depL ds+1
 | .tup ds=>depL ds+1
 | _=>0
def depL:List DV->Nat
 | []=>0
 | d::ds=>max (dep d) (depL ds)
end
mutual
def Is (H:Hp):DV->V->Prop
 | .non,v=>v=.non
 | .bl b,v=>v=.bl b
 | .int i,v=>v=.int i
 | .str z,v=>v=.str z
 | .lst ds,v=>∃ p vs,v=.ref p/\H p=some (.lst vs)/\IsAll H ds vs
 | .tup ds,v=>∃ p vs,v=.ref p/\H p=some (.tup vs)/\IsAll H ds vs
def IsAll (H:Hp):List DV->List V->Prop
 | [],vs=>vs=[]
 | d::ds,vs=>∃ v r,vs=v::r/\Is H d v/\IsAll H ds r
end
theorem Same.upd {H:Hp}{p:Addr}{o:HO}(h:H p=none):Same H (L2.upd H p o):=fun b u e=>by rw[upd_ne (ne_of_none e h)];exact e
theorem cutL_to {α:Type}{l:List α}{n:Int}(h:0<=n):cutL l none (some n)=l.take n.toNat:=by
 obtain⟨m,rfl⟩:∃ m:Nat,n=(m:Int):=⟨n.toNat,by omega⟩
 unfold cutL
 rw[HT.sIx_nat,HT.sIx_none,List.drop_zero,Nat.sub_zero,gxK]
 by_cases hm:m<=l.length
 ·rw[cg hm]
 ·rw[eJ (by omega),List.take_length,bD (by omega)]
theorem cutL_from {α:Type}{l:List α}{n:Int}(h:0<=n):cutL l (some n) none=l.drop n.toNat:=by
 obtain⟨m,rfl⟩:∃ m:Nat,n=(m:Int):=⟨n.toNat,by omega⟩
 unfold cutL
 rw[HT.sIx_nat,HT.sIx_none,gxK]
 by_cases hm:m<=l.length
 ·rw[cg hm,bD (by rw[bB];omega)]
 ·rw[eJ (by omega),bJ (ae _),bJ (by omega),List.take_nil]
end L2
namespace L2
open PySem PySem.Spec PyProof.Rows
section
variable {X:Cx}
def rAppendC:V->List V->Hp->VK->Prop:=fun x vs H Q=>∃ l y xs,x=.ref l/\vs=[y]/\H l=some (.lst xs)/\xs.length<sizeLine/\Q .non (upd H l (.lst (xs++[y])))
theorem appendC:MtR X "list.append" rAppendC:=MtR.imp mt_append fun x vs H Q q=>by
 obtain⟨l,y,xs,rfl,rfl,a,b,c⟩:=q
 exact⟨_,xs,_,rfl,rfl,a,b,c⟩
end
def rr (l:List Nat):Nat->Nat×List (Nat×Nat)
 | 0=>(0,[])
 | i+1=>if l[i]?=some 120 then(i+1,if(rr l i).1<i then(rr l i).2++[((rr l i).1,i)]else(rr l i).2)else rr l i
theorem best_is (ns:List Int):∀ k,k<ns.length->argBest (fun i j=>decide (ns.getD j 0<ns.getD i 0)) k<=k/\∀ j,j<=k->ns.getD j 0<=ns.getD (argBest (fun i j=>decide (ns.getD j 0<ns.getD i 0)) k) 0
 | 0,_=>⟨ae _,fun j hj=>by rw[show j=0 by omega];exact a9 _⟩
 | k+1,h=>by
  obtain⟨h1,h2⟩:=best_is ns k (by omega)
  unfold argBest
  by_cases hb:ns.getD (argBest (fun i j=>decide (ns.getD j 0<ns.getD i 0)) k) 0<ns.getD (k+1) 0
  ·rw[au (aE hb)]
   refine⟨ae _,fun j hj=>?_⟩
   by_cases e:j=k+1
   ·rw[e];exact a9 _
   ·exact b8 (h2 j (by omega)) (cM hb)
  ·rw[aq (by simp only[aZ];exact hb)]
   refine⟨by omega,fun j hj=>?_⟩
   by_cases e:j=k+1
   ·rw[e];omega
   ·exact h2 j (by omega)
section
variable {X:Cx}
def rMaxL:List V->Hp->VK->Prop:=fun vs H Q=>match vs with
 | [.ref p]=>∃ ns:List Int,H p=some (.lst (ns.map V.int))/\ns≠[]/\∀ m,m∈ns->(∀ x∈ns,x<=m)->Q (.int m) H
 | _=>False
theorem maxL (hc:X.calm=true):CallR X (.builtin "max") rMaxL:=by
 intro pins s σ H vs us Q I rv h
 unfold rMaxL at h
 split at h
 ·rename_i p
  obtain⟨ns,hp,hne,q⟩:=h
  obtain⟨u,rfl,ru⟩:=rv.one
  cases ru
  obtain⟨z,fw,n,r,hl,e⟩:=I.lstM hp
  have isl:s.heap.IsList p fw.toArray:=⟨_,e,rfl,n,rfl⟩
  have lt:p≠s.heap.objs.size:=ai (gxN e)
  have len:fw.toArray.size=ns.length:=by rw[ah,<- hl,gxC]
  have pos:0<ns.length:=List.length_pos_iff.mpr hne
  have val:∀ i v,fw.toArray[i]?=some v->∃ t,i<ns.length/\v=.int (ns.getD i 0) t:=fun i v hv=>by
   have hv':fw[i]?=some v:=by simpa using hv
   cases eb:(ns.map V.int)[i]? with
   | none=>have:=r.none_of eb;rw[hv']at this;cases this
   | some y =>
    obtain⟨u,hu,ry⟩:=r.get eb
    rw[hv']at hu;cases hu
    rw[gxH]at eb
    cases e2:ns[i]? with
    | none=>rw[e2]at eb;cases eb
    | some b =>
     rw[e2]at eb;cases eb
     obtain⟨t,rfl⟩:=ry
     exact⟨t,(gxB e2).1,by rw[af,e2];rfl⟩
  refine call_max_walk (c4 isl ⟨_,_,_,_,_,_,fun i j=>decide (ns.getD j 0<ns.getD i 0),rfl,Walks.list (A:=X.A.in1) (I.ok.hd hc) s.heap.objs.size p lt fw.toArray,⟨⟨_,ak _ rfl,rfl,rfl⟩,isl.push _⟩,?_,by rw[len];exact pos,?_,fun v h' tk hv kp=>?_⟩)
  ·intro b hb
   simp only[aH,aw,bz]at hb
   show b<(s.heap.push _).objs.size
   rw[aS]
   rcases hb with rfl | rfl
   ·exact bA _
   ·exact aV (gxN e)
  ·intro i j vi vj s' Q' E' hi hj hq
   obtain⟨t,_,rfl⟩:=val i vi hi
   obtain⟨t',_,rfl⟩:=val j vj hj
   exact gt_int hq
  ·have I2:Inv X pins σ H { s with heap:=h',toks:=tk}:=I.kept fun b o e'=>kp b o (by simpa using ai (gxN e')) (gxL _ e')
   rw[len]at hv
   obtain⟨t,hlt,rfl⟩:=val _ v hv
   obtain⟨b1,b2⟩:=best_is ns (ns.length - 1) (by omega)
   refine⟨.int _,H,I2,⟨t,rfl⟩,q _ ?_ fun x hx=>?_⟩
   ·rw[af,gxA hlt];exact bw _
   ·obtain⟨j,hj,ej⟩:=aJ hx
    have:=b2 j (by omega)
    rw[af,gxA hj,ej]at this
    exact this
 ·exact h.elim
def findN (l:List Nat)(c i:Nat):Int->Prop:=fun r=>(r = -1/\∀ v,i<=v->l[v]?≠some c)\/∃ k:Nat,r=(k:Int)/\i<=k/\l[k]?=some c/\∀ v,i<=v->v<k->l[v]?≠some c
def rFindC:V->List V->Hp->VK->Prop:=fun x vs H Q=>∃(z:Str) (c:Nat) (i:Int),x=.str z/\vs=[.str ⟨#[c]⟩,.int i]/\0<=i/\i<=z.length/\∀ r,findN z.cps.toList c i.toNat r->Q (.int r) H
theorem findC:MtR X "str.find" rFindC:=by
 intro pins s σ H x vs v us Q I rx rv h
 ·obtain⟨z,c,i,rfl,rfl,h0,h1,q⟩:=h
  obtain⟨t,rfl⟩:=rx
  obtain⟨u1,u2,rfl,r1,r2⟩:=rv.two
  obtain⟨t1,rfl⟩:=r1
  obtain⟨t2,rfl⟩:=r2
  refine SC.find3 ⟨.int _,H,I.tok _,⟨_,rfl⟩,q _ ?_⟩
  have fi:fromIndex z.length i=i.toNat:=by unfold fromIndex;omega
  have gd:∀ v,z.cps.getD v 0≠c\/¬ v<z.length->z.cps.toList[v]?≠some c:=fun v hv e=>by
   have hlt:v<z.cps.toList.length:=(gxB e).1
   have hlt':v<z.length:=by rw[lenA];exact hlt
   rcases hv with hv | hv
   ·exact hv (by rw[gxA hlt]at e;injection e with e;rw[<- e];simp[Array.getD,show v<z.cps.size by simpa using hlt])
   ·exact hv hlt'
  rcases StrLaws.find3_spec z c i with⟨e,hn⟩ | ⟨k,e,k1,k2,k3,k4⟩
  ·refine .inl ⟨e,fun v hv=>gd v ?_⟩
   by_cases hl:v<z.length
   ·exact .inl (hn v (by omega) hl)
   ·exact .inr hl
  ·refine .inr ⟨k,e,by omega,?_,fun v h1 h2=>gd v (.inl (k4 v (by omega) h2))⟩
   have hlt:k<z.cps.toList.length:=by rw[<- lenA];exact k2
   rw[gxA hlt,<- k3]
   simp[Array.getD,show k<z.cps.size by simpa using hlt]
end
def ClT (l:List Nat)(e t:Nat):Prop:=e<=t/\t<=l.length/\(∀ v,e<=v->v<t->l[v]?=some 111)/\(t=l.length\/l[t]?=some 120)
theorem ClT.uniq {l:List Nat}{e t u:Nat}(a:ClT l e t)(b:ClT l e u):t=u:=by
 obtain⟨a1,a2,a3,a4⟩:=a
 obtain⟨b1,b2,b3,b4⟩:=b
 rcases dP t u with h | h | h
 ·rcases a4 with q | q
  ·omega
  ·have:=b3 t a1 h;rw[q]at this;cases this
 ·exact h
 ·rcases b4 with q | q
  ·omega
  ·have:=a3 u b1 h;rw[q]at this;cases this
theorem ox_at {l:List Nat}(ho:OX l){v:Nat}(h:v<l.length)(n:l[v]?≠some 120):l[v]?=some 111:=by
 have e:l[v]?=some l[v]:=gxA h
 rcases ho _ (bw h)with q | q
 ·rw[e,q]
 ·exact absurd (by rw[e,q]) n
theorem findN.cl {l:List Nat}{e:Nat}{r:Int}(ho:OX l)(he:e<=l.length)(h:findN l 120 e r):(r<0->ClT l e l.length)/\(¬ r<0->ClT l e r.toNat/\r=(r.toNat:Int)):=by
 rcases h with⟨rfl,hn⟩ | ⟨k,rfl,h1,h2,h3⟩
 ·exact⟨fun _=>⟨he,ae _,fun v a b=>ox_at ho b (hn v a),.inl rfl⟩,fun q=>absurd (by decide) q⟩
 ·have hk:k<l.length:=(gxB h2).1
  exact⟨fun q=>absurd q (by omega),fun _=>⟨⟨by omega,by omega,fun v a b=>ox_at ho (by omega) (h3 v a (by omega)),.inr (by rw[gxK];exact h2)⟩,by rw[gxK]⟩⟩
def Far (es:List Int)(l:List Nat)(e:Int)(m:Int):Prop:=∃ t,ClT l e.toNat t/\m∈es/\m<=(t:Int)/\∀ x∈es,x<=(t:Int)->x<=m
theorem Far.uniq {es:List Int}{l:List Nat}{e m k:Int}(a:Far es l e m)(b:Far es l e k):m=k:=by
 obtain⟨t,a1,a2,a3,a4⟩:=a
 obtain⟨u,b1,b2,b3,b4⟩:=b
 cases a1.uniq b1
 exact Int.le_antisymm (b4 m a2 a3) (a4 k b2 b3)
def eM (n:Int)(cs:List Int):List Int:=0::cs++[n]
inductive D where
 | non | bl (b:Bool) | int (i:Int) | str (z:Str) | lst (ds:List D) | tup (ds:List D) | dic (ks:List Key) (ds:List D) | mr (k:Nat) | obj (C:Addr) (ns:List Str) (ds:List D) | fdc (ks:List Key) (ds:List D) | fn (a:Addr)
inductive MO where
 | box | lst (ds:List D) | dic (ks:List Key) (ds:List D) | fdic (o:Obj) (eW:List (Key×V)) (ds:List D) | ins (C:Addr) (ns:List Str) (ds:List D) | dtu (ks:List (List Key)) (ds:List D) | gx (φ:List Addr) (H:Hp) | exc (c:Value)
abbrev MS:=List MO
def lvM (μ:MS)(k:Nat):Option (List D):=match μ[k]? with | some (.lst ds)=>some ds | _=>none
theorem lvM_eq {μ:MS}{k:Nat}{ds:List D}(h:lvM μ k=some ds):μ[k]?=some (.lst ds):=by
 unfold lvM at h
 split at h
 ·cases h;assumption
 ·cases h
theorem lvM_of {μ:MS}{k:Nat}{ds:List D}(h:μ[k]?=some (.lst ds)):lvM μ k=some ds:=by unfold lvM;rw[h]
theorem lvM_set {μ:MS}{k:Nat}{ds:List D}(h:k<μ.length):lvM (μ.set k (.lst ds)) k=some ds:=lvM_of (aD h)
theorem lvM_new {μ:MS}{ds:List D}:lvM (μ++[.lst ds]) μ.length=some ds:=lvM_of (by rw[gxG (ae _),aO];rfl)
theorem lvM_old {μ:MS}{m:MO}{k:Nat}{ds:List D}(h:lvM μ k=some ds):lvM (μ++[m]) k=some ds:=lvM_of (by rw[gxF (gxB (lvM_eq h)).1];exact lvM_eq h)
abbrev DE:=List (Option D)
mutual
def DIs (φ:List Addr)(H:Hp):D->V->Prop
 | .non,v=>v=.non
 | .bl b,v=>v=.bl b
 | .int i,v=>v=.int i
 | .str z,v=>v=.str z
 | .lst ds,v=>∃ p vs,v=.ref p/\p∉φ/\H p=some (.lst vs)/\fc φ H ds vs
 | .tup ds,v=>∃ p vs,v=.ref p/\p∉φ/\H p=some (.tup vs)/\fc φ H ds vs
 | .dic ks ds,v=>∃ p eW vs,v=.ref p/\p∉φ/\H p=some (.dK eW)/\eW.map (·.1)=ks/\vs=eW.map (·.2)/\fc φ H ds vs
 | .mr k,v=>∃ p,φ[k]?=some p/\v=.ref p
 | .obj C ns ds,v=>∃ p dx fs vs,v=.ref p/\p∉φ/\H p=some (.ins C dx fs)/\fs.map (·.1)=ns/\vs=fs.map (·.2)/\fc φ H ds vs
 | .fdc ks ds,v=>∃ p o eW vs,v=.ref p/\p∉φ/\H p=some (.frz o (.dK eW))/\eW.map (·.1)=ks/\vs=eW.map (·.2)/\fc φ H ds vs
 | .fn a,v=>v=.ref a
def fc (φ:List Addr)(H:Hp):List D->List V->Prop
 | [],vs=>vs=[]
 | d::ds,vs=>∃ v r,vs=v::r/\DIs φ H d v/\fc φ H ds r
end
structure Fr (φ:List Addr)(H:Hp)(φ':List Addr)(H':Hp):Prop where
 ext:∃ ψ,φ'=φ++ψ/\∀ c∈ψ,H c=none
 keep:∀ c o,c∉φ->H c=some o->H' c=some o
 dom:∀ c,H' c=none->H c=none
theorem Fr.refl (φ:List Addr)(H:Hp):Fr φ H φ H:=⟨⟨[],by simp,fun _ h=>nomatch h⟩,fun _ _ _ h=>h,fun _ h=>h⟩
theorem Fr.trans {φ φ1 φ2:List Addr}{H H1 H2:Hp}(a:Fr φ H φ1 H1)(b:Fr φ1 H1 φ2 H2):Fr φ H φ2 H2:=by
 obtain⟨⟨ψ,rfl,hψ⟩,k1,d1⟩:=a
 obtain⟨⟨χ,rfl,hχ⟩,k2,d2⟩:=b
 refine⟨⟨ψ++χ,by simp,fun c hc=>?_⟩,fun c o hc e=>k2 c o (fun h=>?_) (k1 c o hc e),fun c h=>d1 c (d2 c h)⟩
 ·rcases List.mem_append.mp hc with h | h
  ·exact hψ c h
  ·exact d1 c (hχ c h)
 ·rcases List.mem_append.mp h with h | h
  ·exact hc h
  ·rw[hψ c h]at e;cases e
theorem Fr.same {φ:List Addr}{H H':Hp}(h:Same H H'):Fr φ H φ H':=⟨⟨[],by simp,fun _ h=>nomatch h⟩,fun c o _ e=>h c o e,fun c e=>h.free e⟩
theorem Fr.new {φ:List Addr}{H:Hp}{p:Addr}{o:HO}(h:H p=none):Fr φ H φ (upd H p o):=.same (Same.upd h)
theorem Fr.put {φ:List Addr}{H:Hp}{p:Addr}{o:HO}(h:p∈φ):Fr φ H φ (upd H p o) :=
 ⟨⟨[],by simp,fun _ h=>nomatch h⟩,fun c u hc e=>by rw[upd_ne (show c≠p from fun z=>hc (by rw[z];exact h))];exact e,fun c e=>by
  unfold upd at e
  split at e
  ·cases e
  ·exact e⟩
theorem Fr.snoc {φ:List Addr}{H:Hp}{p:Addr}(h:H p=none):Fr φ H (φ++[p]) H:=⟨⟨[p],rfl,fun c hc=>by rw[List.mem_singleton.mp hc];exact h⟩,fun _ _ _ e=>e,fun _ e=>e⟩
theorem Fr.notin {φ φ':List Addr}{H H':Hp}(f:Fr φ H φ' H'){p:Addr}{o:HO}(h:p∉φ)(e:H p=some o):p∉φ':=by
 obtain⟨⟨ψ,rfl,hψ⟩,_,_⟩:=f
 intro hc
 rcases List.mem_append.mp hc with q | q
 ·exact h q
 ·rw[hψ p q]at e;cases e
theorem Fr.get {φ φ':List Addr}{H H':Hp}(f:Fr φ H φ' H'){k:Nat}{p:Addr}(h:φ[k]?=some p):φ'[k]?=some p:=by
 obtain⟨⟨ψ,rfl,hψ⟩,_,_⟩:=f
 rw[gxF (gxB h).1];exact h
mutual
theorem DIs.mono {φ φ':List Addr}{H H':Hp}(f:Fr φ H φ' H'):∀ {d:D} {v:V},DIs φ H d v->DIs φ' H' d v
 | .non,_,h=>h
 | .bl _,_,h=>h
 | .int _,_,h=>h
 | .str _,_,h=>h
 | .lst _,_,h=>by obtain⟨p,vs,e,n,hp,q⟩:=h;exact⟨p,vs,e,f.notin n hp,f.keep _ _ n hp,fc.mono f q⟩
 | .tup _,_,h=>by obtain⟨p,vs,e,n,hp,q⟩:=h;exact⟨p,vs,e,f.notin n hp,f.keep _ _ n hp,fc.mono f q⟩
 | .dic _ _,_,h=>by obtain⟨p,eW,vs,e,n,hp,q1,q2,q⟩:=h;exact⟨p,eW,vs,e,f.notin n hp,f.keep _ _ n hp,q1,q2,fc.mono f q⟩
 | .mr _,_,h=>by obtain⟨p,e,q⟩:=h;exact⟨p,f.get e,q⟩
 | .obj _ _ _,_,h=>by obtain⟨p,dx,fs,vs,e,n,hp,q1,q2,q⟩:=h;exact⟨p,dx,fs,vs,e,f.notin n hp,f.keep _ _ n hp,q1,q2,fc.mono f q⟩
 | .fdc _ _,_,h=>by obtain⟨p,dx,fs,vs,e,n,hp,q1,q2,q⟩:=h;exact⟨p,dx,fs,vs,e,f.notin n hp,f.keep _ _ n hp,q1,q2,fc.mono f q⟩
 | .fn _,_,h=>h
theorem fc.mono {φ φ':List Addr}{H H':Hp}(f:Fr φ H φ' H'):∀ {ds:List D} {vs:List V},fc φ H ds vs->fc φ' H' ds vs
 | [],_,h=>h
 | _::_,_,h=>by obtain⟨v,r,e,h1,h2⟩:=h;exact⟨v,r,e,DIs.mono f h1,fc.mono f h2⟩
end
theorem fc.len {φ:List Addr}{H:Hp}:∀ {ds:List D} {vs:List V},fc φ H ds vs->vs.length=ds.length
 | [],_,h=>by rw[show _=[]from h];rfl
 | d::ds,_,h=>by obtain⟨v,r,rfl,_,h2⟩:=h;rw[aX,aX,fc.len h2]
theorem fc.get {φ:List Addr}{H:Hp}:∀ {ds:List D} {vs:List V} {i:Nat} {d:D},fc φ H ds vs->ds[i]?=some d->∃ v,vs[i]?=some v/\DIs φ H d v
 | [],_,i,d,h,e=>by simp at e
 | d::ds,_,0,d',h,e=>by obtain⟨v',r,rfl,h1,h2⟩:=h;simp at e;subst e;exact⟨v',rfl,h1⟩
 | d::ds,_,i+1,d',h,e=>by
  obtain⟨v',r,rfl,h1,h2⟩:=h
  obtain⟨v,e1,e2⟩:=fc.get (i:=i) h2 (by simpa using e)
  exact⟨v,by simpa using e1,e2⟩
theorem fc.getV {φ:List Addr}{H:Hp}{ds:List D}{vs:List V}{i:Nat}{v:V}(h:fc φ H ds vs)(e:vs[i]?=some v):∃ d,ds[i]?=some d/\DIs φ H d v:=by
 have hl:=h.len
 have hi:=(gxB e).1
 obtain⟨u,e1,e2⟩:=h.get (d:=ds[i]'(by omega)) (gxA (by omega))
 rw[e]at e1;cases e1
 exact⟨_,gxA (by omega),e2⟩
theorem fc.app {φ:List Addr}{H:Hp}:∀ {ds es:List D} {vs us:List V},fc φ H ds vs->fc φ H es us->fc φ H (ds++es) (vs++us)
 | [],_,_,_,h,g=>by rw[show _=[]from h];exact g
 | d::ds,es,_,us,h,g=>by obtain⟨v,r,rfl,h1,h2⟩:=h;exact⟨v,r++us,rfl,h1,h2.app g⟩
theorem fc.take {φ:List Addr}{H:Hp}:∀ {ds:List D} {vs:List V} (n:Nat),fc φ H ds vs->fc φ H (ds.take n) (vs.take n)
 | _,_,0,_=>rfl
 | [],_,n+1,h=>by rw[show _=[]from h];rfl
 | d::ds,_,n+1,h=>by obtain⟨v,r,rfl,h1,h2⟩:=h;exact⟨v,r.take n,rfl,h1,h2.take n⟩
theorem fc.drop {φ:List Addr}{H:Hp}:∀ {ds:List D} {vs:List V} (n:Nat),fc φ H ds vs->fc φ H (ds.drop n) (vs.drop n)
 | _,_,0,h=>h
 | [],_,n+1,h=>by rw[show _=[]from h];rfl
 | d::ds,_,n+1,h=>by obtain⟨v,r,rfl,h1,h2⟩:=h;exact h2.drop n
theorem fc.set {φ:List Addr}{H:Hp}{d:D}{v:V}(hd:DIs φ H d v):∀ {ds:List D} {vs:List V} (n:Nat),fc φ H ds vs->fc φ H (ds.set n d) (vs.set n v)
 | [],_,n,h=>by rw[show _=[]from h];cases n <;> rfl
 | e::ds,_,0,h=>by obtain⟨w,r,rfl,h1,h2⟩:=h;exact⟨v,r,rfl,hd,h2⟩
 | e::ds,_,n+1,h=>by obtain⟨w,r,rfl,h1,h2⟩:=h;exact⟨w,r.set n v,rfl,h1,h2.set hd n⟩
theorem fc.rev {φ:List Addr}{H:Hp}:∀ {ds:List D} {vs:List V},fc φ H ds vs->fc φ H ds.reverse vs.reverse
 | [],_,h=>by rw[show _=[]from h];rfl
 | d::ds,_,h=>by
  obtain⟨v,r,rfl,h1,h2⟩:=h
  rw[dU,dU]
  exact h2.rev.app ⟨v,[],rfl,h1,rfl⟩
theorem fc.ints {φ:List Addr}{H:Hp}:∀ {ns:List Int} {vs:List V},fc φ H (ns.map D.int) vs->vs=ns.map V.int
 | [],_,h=>h
 | n::ns,_,h=>by obtain⟨v,r,rfl,h1,h2⟩:=h;rw[show v=.int n from h1,fc.ints h2];rfl
theorem fc.bls {φ:List Addr}{H:Hp}:∀ {ns:List Bool} {vs:List V},fc φ H (ns.map D.bl) vs->vs=ns.map V.bl
 | [],_,h=>h
 | n::ns,_,h=>by obtain⟨v,r,rfl,h1,h2⟩:=h;rw[show v=.bl n from h1,fc.bls h2];rfl
theorem fc.strs {φ:List Addr}{H:Hp}:∀ {ns:List Str} {vs:List V},fc φ H (ns.map D.str) vs->vs=ns.map V.str
 | [],_,h=>h
 | n::ns,_,h=>by obtain⟨v,r,rfl,h1,h2⟩:=h;rw[show v=.str n from h1,fc.strs h2];rfl
def BxF (φ:List Addr)(H:Hp)(b:Addr):Prop:=∃(q:Addr) (ns:List Int) (i r z:Int),H b=some (.lst [.ref q,.int i,.int r,.int z])/\H q=some (.lst (ns.map V.int))/\q∉φ/\0<=i/\0<=z/\z<2147483647
def ExcIs (p:Addr)(c:Value)(h:Heap):Prop:=∃ oe vs,h.get? p=some oe/\oe.cls=c/\oe.dict=none/\oe.data=.fields vs/\vs[2]?=some .none
def MoIs (φ:List Addr)(H:Hp):MO->Addr->Prop
 | .box,p=>BxF φ H p
 | .lst ds,p=>∃ vs,H p=some (.lst vs)/\fc φ H ds vs
 | .dic ks ds,p=>∃ eW vs,H p=some (.dK eW)/\eW.map (·.1)=ks/\vs=eW.map (·.2)/\fc φ H ds vs
 | .fdic o eW ds,p=>H p=some (.frz o (.dK eW))/\fc φ H ds (eW.map (·.2))
 | .ins C ns ds,p=>∃ dx fs,H p=some (.ins C dx fs)/\fs.map (·.1)=ns/\fc φ H ds (fs.map (·.2))
 | .dtu ks ds,p=>∃ eW,H p=some (.dT eW)/\eW.map (·.1)=ks/\fc φ H ds (eW.map (·.2))
 | .gx φ0 H0,p=>Fr φ0 H0 φ H/\H p=H0 p/\(∃ o,H p=some o)/\∀ zs,H p≠some (.tup zs)
 | .exc c,p=>H p=some (.ext (ExcIs p c))
structure MSis (φ:List Addr)(H:Hp)(μ:MS):Prop where
 nd:φ.Nodup
 len:φ.length=μ.length
 at_:∀(k:Nat) (m:MO),μ[k]?=some m->∃ p,φ[k]?=some p/\MoIs φ H m p
theorem MoIs.mono {φ φ':List Addr}{H H':Hp}(f:Fr φ H φ' H'){m:MO}{p:Addr}(s:∀ o,H p=some o->H' p=some o)(h:MoIs φ H m p):MoIs φ' H' m p:=by
 cases m with
 | box=>obtain⟨q,ns,i,r,z,h1,h2,h3,h4⟩:=h;exact⟨q,ns,i,r,z,s _ h1,f.keep _ _ h3 h2,f.notin h3 h2,h4⟩
 | lst ds=>obtain⟨vs,h1,h2⟩:=h;exact⟨vs,s _ h1,h2.mono f⟩
 | dic ks ds=>obtain⟨eW,vs,h1,h2,h3,h4⟩:=h;exact⟨eW,vs,s _ h1,h2,h3,h4.mono f⟩
 | fdic o eW ds=>exact⟨s _ h.1,h.2.mono f⟩
 | ins C ns ds=>obtain⟨dx,fs,h1,h2,h3⟩:=h;exact⟨dx,fs,s _ h1,h2,h3.mono f⟩
 | dtu ks ds=>obtain⟨eW,h1,h2,h3⟩:=h;exact⟨eW,s _ h1,h2,h3.mono f⟩
 | gx φ0 H0=>obtain⟨h1,h2,⟨o,h3⟩,h4⟩:=h;exact⟨h1.trans f,(s _ h3).trans (h3.symm.trans h2),⟨o,s _ h3⟩,fun zs e=>h4 zs (h3.trans ((s _ h3).symm.trans e))⟩
 | exc c=>exact s _ h
theorem MoIs.ex {φ:List Addr}{H:Hp}{m:MO}{p:Addr}(h:MoIs φ H m p):∃ o,H p=some o:=by
 cases m with
 | box=>obtain⟨q,ns,i,r,z,h1,_⟩:=h;exact⟨_,h1⟩
 | lst ds=>obtain⟨vs,h1,_⟩:=h;exact⟨_,h1⟩
 | dic ks ds=>obtain⟨eW,vs,h1,_⟩:=h;exact⟨_,h1⟩
 | fdic o eW ds=>exact⟨_,h.1⟩
 | ins C ns ds=>obtain⟨dx,fs,h1,_⟩:=h;exact⟨_,h1⟩
 | dtu ks ds=>obtain⟨eW,h1,_⟩:=h;exact⟨_,h1⟩
 | gx φ0 H0=>exact h.2.2.1
 | exc c=>exact⟨_,h⟩
theorem MSis.same {φ:List Addr}{H H':Hp}{μ:MS}(h:MSis φ H μ)(s:Same H H'):MSis φ H' μ :=
 ⟨h.nd,h.len,fun k m e=>let ⟨p,e1,e2⟩:=h.at_ k m e;⟨p,e1,e2.mono (.same s) fun o q=>s _ _ q⟩⟩
theorem MSis.mem {φ:List Addr}{H:Hp}{μ:MS}(h:MSis φ H μ){p:Addr}(hp:p∈φ):∃ o,H p=some o:=by
 obtain⟨k,hk,e⟩:=aJ hp
 obtain⟨q,e1,e2⟩:=h.at_ k (μ[k]'(by have:=h.len;omega)) (gxA _)
 rw[gxA hk,e]at e1
 cases e1
 exact e2.ex
theorem MSis.fresh {φ:List Addr}{H:Hp}{μ:MS}(h:MSis φ H μ){p:Addr}(hp:H p=none):p∉φ:=fun q=>by
 obtain⟨o,e⟩:=h.mem q
 rw[hp]at e;cases e
theorem MSis.snoc {φ:List Addr}{H:Hp}{μ:MS}{m:MO}{p:Addr}{o:HO}(h:MSis φ H μ)(hp:H p=none)(hm:MoIs (φ++[p]) (upd H p o) m p):MSis (φ++[p]) (upd H p o) (μ++[m])/\Fr φ H (φ++[p]) (upd H p o):=by
 have f1:Fr φ H (φ++[p]) H:=.snoc hp
 have f:Fr φ H (φ++[p]) (upd H p o):=⟨f1.ext,fun c u hc e=>Same.upd hp _ _ e,fun c e=>(Same.upd hp).free e⟩
 refine⟨⟨?_,by rw[gxE,gxE,h.len];rfl,fun k n e=>?_⟩,f⟩
 ·rw[dX]
  exact⟨h.nd,by simp,fun a ha b hb=>by rw[List.mem_singleton.mp hb];intro z;exact h.fresh hp (by rw[<- z];exact ha)⟩
 ·by_cases hk:k<μ.length
  ·rw[gxF hk]at e
   obtain⟨q,e1,e2⟩:=h.at_ k n e
   exact⟨q,f.get e1,e2.mono f fun u eu=>Same.upd hp _ _ eu⟩
  ·have hk':k=μ.length:=by
    have:=(gxB e).1
    rw[gxE,bE]at this
    omega
   subst hk'
   rw[gxG (ae _),aO]at e
   cases e
   exact⟨p,by rw[gxG (by rw[h.len];exact ae _),h.len,aO];rfl,hm⟩
theorem MSis.put {φ:List Addr}{H:Hp}{μ:MS}{m:MO}{p:Addr}{o:HO}{k:Nat}(h:MSis φ H μ)(hk:φ[k]?=some p)(hm:MoIs φ (upd H p o) m p):MSis φ (upd H p o) (μ.set k m):=by
 have hp:p∈φ:=gxD hk
 have f:Fr φ H φ (upd H p o):=.put hp
 refine⟨h.nd,by rw[bL];exact h.len,fun j n e=>?_⟩
 by_cases hj:k=j
 ·subst hj
  have hl:k<μ.length:=by have:=(gxB hk).1;have:=h.len;omega
  rw[aD hl]at e
  cases e
  exact⟨p,hk,hm⟩
 ·rw[aG hj]at e
  obtain⟨q,e1,e2⟩:=h.at_ j n e
  refine⟨q,e1,e2.mono f fun u eu=>?_⟩
  rw[upd_ne]
  ·exact eu
  ·intro z
   subst z
   have a1:=gxB hk
   have a2:=gxB e1
   obtain⟨i1,r1⟩:=a1
   obtain⟨i2,r2⟩:=a2
   rcases Nat.lt_or_gt_of_ne hj with z | z
   ·exact List.pairwise_iff_getElem.mp h.nd k j i1 i2 z (r1.trans r2.symm)
   ·exact List.pairwise_iff_getElem.mp h.nd j k i2 i1 z (r2.trans r1.symm)
def DEnv (φ:List Addr)(H:Hp)(ρ:DE)(σ:St):Prop:=ρ.length=σ.length/\∀(i:Nat) (d:D),ρ[i]?=some (some d)->∃ v,σ[i]?=some (some v)/\DIs φ H d v
theorem DEnv.mono {φ φ':List Addr}{H H':Hp}{ρ:DE}{σ:St}(f:Fr φ H φ' H')(h:DEnv φ H ρ σ):DEnv φ' H' ρ σ:=⟨h.1,fun i d e=>let ⟨v,a,b⟩:=h.2 i d e;⟨v,a,b.mono f⟩⟩
theorem DEnv.set {φ:List Addr}{H:Hp}{ρ:DE}{σ:St}{d:D}{v:V}(h:DEnv φ H ρ σ)(hd:DIs φ H d v)(i:Nat):DEnv φ H (ρ.set i (some d)) (σ.set i (some v)):=by
 refine⟨by rw[bL,bL];exact h.1,fun j e hj=>?_⟩
 by_cases hij:i=j
 ·subst hij
  have hl:i<ρ.length:=by have:=(gxB hj).1;rwa [bL]at this
  rw[aD hl]at hj
  cases hj
  exact⟨v,aD (by rw[<- h.1];exact hl),hd⟩
 ·rw[aG hij]at hj
  obtain⟨u,a,b⟩:=h.2 j e hj
  exact⟨u,by rw[aG hij];exact a,b⟩
def lv (μ:MS):D->Option (List D)
 | .lst ds=>some ds
 | .mr k=>lvM μ k
 | _=>none
def lc:D->List D->MS->Prop
 | .mr k,ds=>fun μ=>lvM μ k=some ds
 | _,_=>fun _=>True
theorem lv_is {φ:List Addr}{H:Hp}{μ:MS}{d:D}{v:V}{ds:List D}(M:MSis φ H μ)(i:DIs φ H d v)(h:lv μ d=some ds):∃ p vs,v=.ref p/\H p=some (.lst vs)/\fc φ H ds vs:=by
 cases d with
 | lst es=>cases h;obtain⟨p,vs,rfl,_,hp,ha⟩:=i;exact⟨p,vs,rfl,hp,ha⟩
 | mr k =>
  obtain⟨p,hp,rfl⟩:=i
  have e:=lvM_eq (show lvM μ k=some ds from h)
  obtain⟨q,e1,vs,hv,ha⟩:=M.at_ k _ e
  rw[hp]at e1;cases e1
  exact⟨p,vs,rfl,hv,ha⟩
 | _=>cases h
theorem lv_stay {φ φ':List Addr}{H H':Hp}{μ μ':MS}{d:D}{p:Addr}{ds:List D}(M:MSis φ H μ)(i:DIs φ H d (.ref p))(h:lv μ d=some ds)(f:Fr φ H φ' H')(M':MSis φ' H' μ')(c:lc d ds μ'):∃ vs,H' p=some (.lst vs)/\fc φ' H' ds vs:=by
 cases d with
 | lst es=>cases h;obtain⟨p',vs,e,n,hp,ha⟩:=i;cases e;exact⟨vs,f.keep _ _ n hp,ha.mono f⟩
 | mr k =>
  obtain⟨p',hp,e⟩:=i
  cases e
  obtain⟨q,e1,vs,hv,ha⟩:=M'.at_ k _ (lvM_eq c)
  rw[f.get hp]at e1;cases e1
  exact⟨vs,hv,ha⟩
 | _=>cases h
theorem lc_of {μ:MS}{d:D}{ds:List D}(h:lv μ d=some ds):lc d ds μ:=by
 cases d <;> first | trivial | exact h
abbrev DK:=D->MS->Prop
abbrev De:=DE->MS->DK->Prop
abbrev DA:=DE->MS->(List D->MS->Prop)->Prop
abbrev Dt:=DE->MS->(Bool->MS->Prop)->Prop
def Lif (φ:List Addr)(H:Hp)(K:DK)(Q:VK):Prop:=∀ d μ' φ' v H',K d μ'->Fr φ H φ' H'->MSis φ' H' μ'->DIs φ' H' d v->Q v H'
theorem Lif.mono {φ φ1:List Addr}{H H1:Hp}{K:DK}{Q:VK}(h:Lif φ H K Q)(f:Fr φ H φ1 H1):Lif φ1 H1 K Q:=fun d μ' φ' v H' k g m i=>h d μ' φ' v H' k (f.trans g) m i
def tD (w:De):TE:=fun σ H Q=>∃ φ ρ μ K,DEnv φ H ρ σ/\MSis φ H μ/\w ρ μ K/\Lif φ H K Q
def tDA (w:DA):TA:=fun σ H Q=>∃ φ ρ μ K,DEnv φ H ρ σ/\MSis φ H μ/\w ρ μ K/\∀ ds μ' φ' vs H',K ds μ'->Fr φ H φ' H'->MSis φ' H' μ'->fc φ' H' ds vs->Q vs H'
def tDT (w:Dt):TT:=fun σ H Q=>∃ φ ρ μ K,DEnv φ H ρ σ/\MSis φ H μ/\w ρ μ K/\∀ b μ' φ' H',K b μ'->Fr φ H φ' H'->MSis φ' H' μ'->Q b H'
section
variable {X:Cx}{a b e:Expr}{pos:Pos}
abbrev PD (X:Cx)(e:Expr)(w:De):Prop:=PE X e (tD w)
def dVar (i:Nat):De:=fun ρ μ K=>match ρ[i]? with | some (some d)=>K d μ | _=>False
def dC (d:D):De:=fun _ μ K=>K d μ
theorem dv (i:Nat){x:Str}{pos:Pos}(hN:X.N[i]?=some x:=by rfl)(hv:Vis X.env.scope x:=by first | exact Or.inl rfl | exact Or.inr (Or.inl rfl) | exact Or.inr (Or.inr rfl))(hd:(x==("__debug__" : Str))=false:=by decide)
 (hcd:(x==("__classdict__" : Str))=false:=by decide):PD X (.Name x pos) (dVar i):=(pe_var (i:=i) hN hv hd hcd).imp fun σ H Q q=>by
 obtain⟨φ,ρ,μ,K,E,M,w,L⟩:=q
 unfold dVar at w
 split at w
 ·rename_i d hd
  obtain⟨v,e,r⟩:=E.2 i d hd
  exact⟨v,e,L d μ φ v H w (.refl _ _) M r⟩
 ·exact w.elim
theorem d_int {i j pos}:PD X (.Constant (.int i) j pos) (dC (.int i)):=pe_int.imp fun σ H Q hq0=>by obtain⟨φ,ρ,μ,K,E,M,w,L⟩:=hq0;exact L _ _ φ _ H w (.refl _ _) M rfl
theorem d_bl {b j pos}:PD X (.Constant (.bool b) j pos) (dC (.bl b)):=pe_bl.imp fun σ H Q hq1=>by obtain⟨φ,ρ,μ,K,E,M,w,L⟩:=hq1;exact L _ _ φ _ H w (.refl _ _) M rfl
theorem d_non {j pos}:PD X (.Constant .none j pos) (dC .non):=pe_non.imp fun σ H Q hq2=>by obtain⟨φ,ρ,μ,K,E,M,w,L⟩:=hq2;exact L _ _ φ _ H w (.refl _ _) M rfl
theorem d_str {x j pos}:PD X (.Constant (.str x) j pos) (dC (.str x)):=pe_str.imp fun σ H Q hq3=>by obtain⟨φ,ρ,μ,K,E,M,w,L⟩:=hq3;exact L _ _ φ _ H w (.refl _ _) M rfl
abbrev DOp:=D->D->MS->DK->Prop
def dOp (ro:DOp)(wa wb:De):De:=fun ρ μ K=>wa ρ μ fun x fB=>wb ρ fB fun y μ2=>ro x y μ2 K
def SoOp (r:R2)(ro:DOp):Prop:=∀ φ H x y dx dy μ K Q,MSis φ H μ->DIs φ H dx x->DIs φ H dy y->ro dx dy μ K->Lif φ H K Q->r x y H Q
theorem tD_op {r:R2}{ro:DOp}{wa wb:De}(so:SoOp r ro){σ:St}{H:Hp}{Q:VK}(h:tD (dOp ro wa wb) σ H Q):tOp r (tD wa) (tD wb) σ H Q:=by
 obtain⟨φ,ρ,μ,K,E,M,w,L⟩:=h
 refine⟨φ,ρ,μ,_,E,M,w,fun d1 fB φ1 v1 H1 k1 f1 M1 i1=>?_⟩
 refine⟨φ1,ρ,fB,_,E.mono f1,M1,k1,fun d2 μ2 φ2 v2 H2 k2 f2 M2 i2=>?_⟩
 exact so φ2 H2 v1 v2 d1 d2 μ2 K Q M2 (i1.mono f2) i2 k2 (L.mono (f1.trans f2))
theorem d_op {op:Operator}{r:R2}{ro:DOp}{wa wb:De}(h:OpR X (binaryOp op) r)(so:SoOp r ro)(ha:PD X a wa)(hb:PD X b wb):PD X (.BinOp a op b pos) (dOp ro wa wb):=(pe_op h ha hb).imp fun σ H Q q=>tD_op so q
theorem d_cmp {op:CmpOp}{r:R2}{ro:DOp}{wa wb:De}(h:OpR X (compareOp op) r)(so:SoOp r ro)(ha:PD X a wa)(hb:PD X b wb)(hm:behindInMarks op b=false):PD X (.Compare a [op] [b] pos) (dOp ro wa wb):=(pe_cmpR h ha hb hm).imp fun σ H Q q=>tD_op so q
theorem d_ix {r:R2}{ro:DOp}{wa wb:De}(h:IxR X r)(so:SoOp r ro)(ha:PD X a wa)(hb:PD X b wb)(hs:PlainIx b):PD X (.Subscript a b pos) (dOp ro wa wb):=(pe_ix h ha hb hs).imp fun σ H Q q=>tD_op so q
def dTst (w:De):Dt:=fun ρ μ K=>w ρ μ fun d μ'=>match d with | .bl b=>K b μ' | _=>False
theorem tD_bool {w:De}{σ:St}{H:Hp}{Q:Bool->Hp->Prop}(h:tDT (dTst w) σ H Q):cB (tD w) σ H Q:=by
 obtain⟨φ,ρ,μ,K,E,M,k,L⟩:=h
 refine⟨φ,ρ,μ,_,E,M,k,fun d μ' φ' v H' k' f M' i=>?_⟩
 cases d with
 | bl b=>cases(show v=_ from i);exact L b μ' φ' H' k' f M'
 | _=>exact k'.elim
theorem d_testV {w:De}(h:PD X e w)(he:∀ whole,isTrue e X.env whole=(do let v <- whole;standAt e.pos;holding [v] (truthy v)):=by intro _;rfl):PT X e (tDT (dTst w)):=(pt_valC h he).imp fun σ H Q q=>tD_bool q
theorem d_testC {op:CmpOp}{r:R2}{ro:DOp}{wa wb:De}(h:OpR X (compareOp op) r)(so:SoOp r ro)(ha:PD X a wa)(hb:PD X b wb)(hm:behindInMarks op b=false):PT X (.Compare a [op] [b] pos) (tDT (dTst (dOp ro wa wb))) :=
 (pt_cmpC h ha hb hm).imp fun σ H Q q=>by
  obtain⟨φ,ρ,μ,K,E,M,k,L⟩:=q
  refine tD_op so ⟨φ,ρ,μ,_,E,M,k,fun d μ' φ' v H' k' f M' i=>?_⟩
  cases d with
  | bl b=>cases(show v=_ from i);exact L b μ' φ' H' k' f M'
  | _=>exact k'.elim
def dIsN (neg:Bool)(w:De):De:=fun ρ μ K=>w ρ μ fun d μ'=>match d with | .non=>K (.bl (!neg)) μ' | _=>K (.bl neg) μ'
theorem isN_of {φ:List Addr}{H:Hp}{d:D}{v:V}(i:DIs φ H d v):decide (v=V.non)=(match d with | .non=>true | _=>false):=by
 cases d with
 | non=>cases(show v=_ from i);rfl
 | bl _=>cases(show v=_ from i);rfl
 | int _=>cases(show v=_ from i);rfl
 | str _=>cases(show v=_ from i);rfl
 | lst _=>obtain⟨p,vs,rfl,_⟩:=i;rfl
 | tup _=>obtain⟨p,vs,rfl,_⟩:=i;rfl
 | dic _ _=>obtain⟨p,eW,vs,rfl,_⟩:=i;rfl
 | mr _=>obtain⟨p,_,rfl⟩:=i;rfl
 | obj _ _ _=>obtain⟨p,dx,fs,vs,rfl,_⟩:=i;rfl
 | fdc _ _=>obtain⟨p,dx,fs,vs,rfl,_⟩:=i;rfl
 | fn _=>cases(show v=_ from i);rfl
theorem tD_isN {w:De}{σ:St}{H:Hp}{Q:VK}(h:tD (dIsN false w) σ H Q):tIsN (tD w) σ H Q:=by
 obtain⟨φ,ρ,μ,K,E,M,k,L⟩:=h
 refine⟨φ,ρ,μ,_,E,M,k,fun d μ' φ' v H' k' f M' i=>?_⟩
 show Q (.bl _) H'
 rw[isN_of i]
 cases d <;> exact L _ μ' φ' _ H' k' f M' rfl
theorem tD_notN {w:De}{σ:St}{H:Hp}{Q:VK}(h:tD (dIsN true w) σ H Q):tNotN (tD w) σ H Q:=by
 obtain⟨φ,ρ,μ,K,E,M,k,L⟩:=h
 refine⟨φ,ρ,μ,_,E,M,k,fun d μ' φ' v H' k' f M' i=>?_⟩
 show Q (.bl _) H'
 rw[isN_of i]
 cases d <;> exact L _ μ' φ' _ H' k' f M' rfl
end
end L2
namespace L2
open PySem PySem.Spec PyProof.Rows
section
variable {X:Cx}{a b e:Expr}{es:List Expr}{pos:Pos}
theorem PA.imp {es:List Expr}{t t':TA}(h:PA X es t)(hi:∀ σ H Q,t' σ H Q->t σ H Q):PA X es t':=fun pos pins s σ H Q I q=>h pos pins s σ H Q I (hi σ H Q q)
theorem PSs.imp {st:List Stmt}{t t':TS}(h:PSs X st t)(hi:∀ D σ H,t' D σ H->t D σ H):PSs X st t':=fun pins s σ H D I q=>h pins s σ H D I (hi D σ H q)
def dNil:DA:=fun _ μ K=>K [] μ
def dCons (wa:De)(wr:DA):DA:=fun ρ μ K=>wa ρ μ fun x fB=>wr ρ fB fun xs μ2=>K (x::xs) μ2
abbrev PDA (X:Cx)(es:List Expr)(w:DA):Prop:=PA X es (tDA w)
theorem da_nil:PDA X [] dNil:=pa_nil.imp fun σ H Q hq4=>by obtain⟨φ,ρ,μ,K,E,M,w,L⟩:=hq4;exact L [] μ φ [] H w (.refl _ _) M rfl
theorem fb {wa:De}{wr:DA}(ha:PD X e wa)(hr:PDA X es wr)(hs:starEach (e::es) X.env=(false,eval e X.env)::starEach es X.env:=by rfl):PDA X (e::es) (dCons wa wr):=(pa_cons ha hr hs).imp fun σ H Q q=>by
 obtain⟨φ,ρ,μ,K,E,M,w,L⟩:=q
 refine⟨φ,ρ,μ,_,E,M,w,fun d1 fB φ1 v1 H1 k1 f1 M1 i1=>?_⟩
 refine⟨φ1,ρ,fB,_,E.mono f1,M1,k1,fun ds μ2 φ2 vs H2 k2 f2 M2 i2=>?_⟩
 exact L _ μ2 φ2 _ H2 k2 (f1.trans f2) M2 ⟨v1,vs,rfl,i1.mono f2,i2⟩
theorem al_lst {φ:List Addr}{H:Hp}{μ:MS}{K:DK}{Q:VK}{ds:List D}{vs:List V}{p:Addr}(L:Lif φ H K Q)(M:MSis φ H μ)(h:fc φ H ds vs)(k:K (.lst ds) μ)(hp:H p=none):Q (.ref p) (upd H p (.lst vs)) :=
 L _ μ φ _ _ k (.new hp) (M.same (Same.upd hp)) ⟨p,vs,rfl,M.fresh hp,fA,h.mono (.new hp)⟩
theorem al_tup {φ:List Addr}{H:Hp}{μ:MS}{K:DK}{Q:VK}{ds:List D}{vs:List V}{p:Addr}(L:Lif φ H K Q)(M:MSis φ H μ)(h:fc φ H ds vs)(k:K (.tup ds) μ)(hp:H p=none):Q (.ref p) (upd H p (.tup vs)) :=
 L _ μ φ _ _ k (.new hp) (M.same (Same.upd hp)) ⟨p,vs,rfl,M.fresh hp,fA,h.mono (.new hp)⟩
theorem al_mr {φ:List Addr}{H:Hp}{μ:MS}{K:DK}{Q:VK}{ds:List D}{vs:List V}{p:Addr}(L:Lif φ H K Q)(M:MSis φ H μ)(h:fc φ H ds vs)(k:K (.mr μ.length) (μ++[.lst ds]))(hp:H p=none):Q (.ref p) (upd H p (.lst vs)):=by
 have f:Fr φ H (φ++[p]) (upd H p (.lst vs)):=⟨(Fr.snoc (φ:=φ) hp).ext,fun c u _ e=>Same.upd hp _ _ e,fun c e=>(Same.upd hp).free e⟩
 obtain⟨M',_⟩:=M.snoc (m:=.lst ds) (o:=.lst vs) hp ⟨vs,fA,h.mono f⟩
 exact L _ _ _ _ _ k f M' ⟨p,by rw[gxG (by rw[M.len];exact ae _),M.len,aO];rfl,rfl⟩
def nL (m:Bool)(ds:List D)(μ:MS)(K:DK):Prop:=match m with | false=>K (.lst ds) μ | true=>K (.mr μ.length) (μ++[.lst ds])
theorem al_n {m:Bool}{φ:List Addr}{H:Hp}{μ:MS}{K:DK}{Q:VK}{ds:List D}{vs:List V}{p:Addr}(L:Lif φ H K Q)(M:MSis φ H μ)(h:fc φ H ds vs)(k:nL m ds μ K)(hp:H p=none):Q (.ref p) (upd H p (.lst vs)):=by
 cases m with
 | false=>exact al_lst L M h k hp
 | true=>exact al_mr L M h k hp
def dLst (m:Bool)(w:DA):De:=fun ρ μ K=>w ρ μ fun ds fB=>ds.length<=sizeLine/\nL m ds fB K
def dTup (w:DA):De:=fun ρ μ K=>w ρ μ fun ds fB=>ds.length<=sizeLine/\K (.tup ds) fB
theorem d_lst {w:DA}(m:Bool)(h:PDA X es w):PD X (.List es pos) (dLst m w):=(pe_lst h).imp fun σ H Q ⟨φ,ρ,μ,K,E,M,w,L⟩ =>
 ⟨φ,ρ,μ,_,E,M,w,fun ds fB φ1 vs H1 k1 f1 M1 i1=>⟨by rw[i1.len];exact k1.1,fun p hp=>al_n (L.mono f1) M1 i1 k1.2 hp⟩⟩
theorem d_tup {w:DA}{x1}(h:PDA X es w):PD X (.Tuple es x1 pos) (dTup w):=(pe_tup h).imp fun σ H Q ⟨φ,ρ,μ,K,E,M,w,L⟩ =>
 ⟨φ,ρ,μ,_,E,M,w,fun ds fB φ1 vs H1 k1 f1 M1 i1=>⟨by rw[i1.len];exact k1.1,fun p hp=>al_tup (L.mono f1) M1 i1 k1.2 hp⟩⟩
abbrev DSp:=List D->MS->DK->Prop
def spD (f:DSp):Sp:=fun vs H Q _=>∃ φ ds μ K,fc φ H ds vs/\MSis φ H μ/\f ds μ K/\Lif φ H K Q
def dCall (f:DSp)(w:DA):De:=fun ρ μ K=>w ρ μ fun ds fB=>f ds fB K
theorem d_call {f:DSp}{w:DA}{x:Str}{p:Pos}{k:Nat}{ps:List Str}(C:Cal X.prog X.w X.K X.mg X.base x k ps (spD f))(hr:Room k X.A)(hg:Gl X x)(ha:PDA X (e::es) w)
 (hdb:(x==("__debug__" : Str))=false:=by decide) (he:starEach (e::es) X.env=(false,eval e X.env)::starEach es X.env:=by rfl) (hpl:(backTo pos (starEach es X.env)).any (·.1)=false:=by rfl) :
 PD X (.Call (.Name x p) (e::es) [] pos) (dCall f w):=(pe_callC C hr hg ha hdb he hpl).imp fun σ H Q ⟨φ,ρ,μ,K,E,M,w,L⟩ =>
 ⟨φ,ρ,μ,_,E,M,w,fun ds fB φ1 vs H1 k1 f1 M1 i1=>by show spD f (vs++[]) H1 Q E0;rw[b7];exact⟨φ1,ds,fB,K,i1,M1,k1,L.mono f1⟩⟩
def SoCall (r:List V->Hp->VK->Prop)(f:DSp):Prop:=∀ φ H vs ds μ K Q,MSis φ H μ->fc φ H ds vs->f ds μ K->Lif φ H K Q->r vs H Q
theorem tD_cb {r:List V->Hp->VK->Prop}{f:DSp}{w:DA}(so:SoCall r f){σ:St}{H:Hp}{Q:VK}(h:tD (dCall f w) σ H Q):tCB r (tDA w) σ H Q:=by
 obtain⟨φ,ρ,μ,K,E,M,w,L⟩:=h
 exact⟨φ,ρ,μ,_,E,M,w,fun ds fB φ1 vs H1 k1 f1 M1 i1=>so φ1 H1 vs ds fB K Q M1 i1 k1 (L.mono f1)⟩
theorem d_blt {r:List V->Hp->VK->Prop}{f:DSp}{w:DA}{id:String}{x:Str}{p:Pos}(hc:CallR X (.builtin id) r)(so:SoCall r f)(hg:Gl X x)(hm:X.mg x=none)(hv:bootBuiltins x=some (.builtin id))(ha:PDA X (e::es) w)(hn:x ≠ "__name__":=by decide)(hdb:(x==("__debug__" : Str))=false:=by decide)
 (he:starEach (e::es) X.env=(false,eval e X.env)::starEach es X.env:=by rfl) (hpl:(backTo pos (starEach es X.env)).any (·.1)=false:=by rfl):PD X (.Call (.Name x p) (e::es) [] pos) (dCall f w) :=
 (pe_callB hc hg hm hv ha hn hdb he hpl).imp fun σ H Q q=>tD_cb so q
theorem d_ty {r:List V->Hp->VK->Prop}{f:DSp}{w:DA}{T:String}{x:Str}{p:Pos}(hc:CallR X (.type T) r)(so:SoCall r f)(hg:Gl X x)(hm:X.mg x=none)(hv:bootBuiltins x=some (.type T))(ha:PDA X (e::es) w)(hn:x ≠ "__name__":=by decide)(hdb:(x==("__debug__" : Str))=false:=by decide)
 (he:starEach (e::es) X.env=(false,eval e X.env)::starEach es X.env:=by rfl) (hpl:(backTo pos (starEach es X.env)).any (·.1)=false:=by rfl):PD X (.Call (.Name x p) (e::es) [] pos) (dCall f w) :=
 (pe_callTy hc hg hm hv ha hn hdb he hpl).imp fun σ H Q q=>tD_cb so q
abbrev DMt:=D->List D->MS->DK->Prop
def SoMt (K:PySem.W.Frag)(T:String)(r:V->List V->Hp->VK->Prop)(f:DMt):Prop:=∀ φ H x vs d ds μ K' Q,MSis φ H μ->DIs φ H d x->fc φ H ds vs->f d ds μ K'->Lif φ H K' Q->r x vs H Q
def TyD (T:String)(μ:MS):D->Prop
 | .str _=>T = "str"
 | .lst _=>T = "list"
 | .dic _ _=>T = "dict"
 | .mr k=>match μ[k]? with | some (.lst _)=>T = "list" | some (.dic _ _)=>T = "dict" | _=>False
 | _=>False
theorem TyD.is {Kf:PySem.W.Frag}{T:String}{φ:List Addr}{H:Hp}{μ:MS}{d:D}{v:V}(M:MSis φ H μ)(i:DIs φ H d v)(h:TyD T μ d):tyV Kf T v H:=by
 cases d with
 | str z=>cases(show v=_ from i);exact h
 | lst ds=>obtain⟨p,vs,rfl,_,hp,_⟩:=i;exact .inl ⟨h,vs,SqL.of hp⟩
 | dic ks ds=>obtain⟨p,eW,vs,rfl,_,hp,_⟩:=i;exact .inr (.inr (.inl ⟨h,.inl ⟨eW,hp⟩⟩))
 | mr k =>
  obtain⟨p,hp,rfl⟩:=i
  unfold TyD at h
  dsimp only at h
  cases e:μ[k]? with
  | none=>rw[e]at h;exact h.elim
  | some m =>
   obtain⟨q,e1,e2⟩:=M.at_ k m e
   rw[hp]at e1;cases e1
   rw[e]at h
   cases m with
   | box=>exact h.elim
   | lst ds=>obtain⟨vs,hv,_⟩:=e2;exact .inl ⟨h,vs,SqL.of hv⟩
   | dic ks ds=>obtain⟨eW,vs,hv,_⟩:=e2;exact .inr (.inr (.inl ⟨h,.inl ⟨eW,hv⟩⟩))
   | _=>exact h.elim
 | _=>exact(show False from h).elim
def dMt (T:String)(f:DMt)(wo:De)(w:DA):De:=fun ρ μ K=>wo ρ μ fun x fB=>TyD T fB x/\w ρ fB fun ds μ2=>f x ds μ2 K
theorem d_mt {o:Expr}{name:Str}{apos cpos:Pos}{T id:String}{r:V->List V->Hp->VK->Prop}{f:DMt}{wo:De}{w:DA}(pa:PlainAttrs T)(slot:Slot T name id)(hty:typeOf (.builtin id)=pure (.type "method_descriptor"))(hm:MtR X id r)(so:SoMt X.K T r f)(ho:PD X o wo)(ha:PDA X (e::es) w)
 (hbase:attributeBase o name X.env (eval o X.env)=eval o X.env:=by rfl)
 (hfew:((backTo cpos (starEach (e::es) X.env)).all (fun x=>!x.1)&&(backToKw cpos (keywordEach [] X.env)).all (fun x=>x.1.isSome)
   && decide ((e::es).length+([]:List Keyword).length+(if([]:List Keyword).isEmpty then 0 else 1)<30))=true:=by rfl)
 (hline:(apos.endLine==cpos.line)=true:=by rfl) (hs:starEach (e::es) X.env=(false,eval e X.env)::starEach es X.env:=by rfl) (hplain:(backTo cpos (starEach es X.env)).any (·.1)=false:=by rfl) :
 PD X (.Call (.Attribute o name apos) (e::es) [] cpos) (dMt T f wo w):=(pe_bm pa slot hty hm ho ha hbase hfew hline hs hplain).imp fun σ H Q q=>by
 obtain⟨φ,ρ,μ,K,E,M,w,L⟩:=q
 refine⟨φ,ρ,μ,_,E,M,w,fun d1 fB φ1 v1 H1 k1 f1 M1 i1=>⟨TyD.is M1 i1 k1.1,?_⟩⟩
 exact⟨φ1,ρ,fB,_,E.mono f1,M1,k1.2,fun ds μ2 φ2 vs H2 k2 f2 M2 i2=>so φ2 H2 v1 vs d1 ds μ2 K Q M2 (i1.mono f2) i2 k2 (L.mono (f1.trans f2))⟩
def dAnd (wa wb:De):De:=fun ρ μ K=>wa ρ μ fun x fB=>match x with | .bl c=>if c=true then wb ρ fB K else K (.bl false) fB | _=>False
def dNot (wa:De):De:=fun ρ μ K=>wa ρ μ fun x fB=>match x with | .bl c=>K (.bl (!c)) fB | _=>False
theorem d_and {rest:List Expr}{wa wb:De}(ha:PD X a wa)(hb:PD X (.BoolOp .And (b::rest) pos) wb):PD X (.BoolOp .And (a::b::rest) pos) (dAnd wa wb):=(pe_andC ha hb).imp fun σ H Q q=>by
 obtain⟨φ,ρ,μ,K,E,M,w,L⟩:=q
 refine⟨φ,ρ,μ,_,E,M,w,fun d1 fB φ1 v1 H1 k1 f1 M1 i1=>?_⟩
 cases d1 with
 | bl c =>
  cases(show v1=_ from i1)
  cases c with
  | true=>exact⟨φ1,ρ,fB,_,E.mono f1,M1,k1,L.mono f1⟩
  | false=>exact L _ fB φ1 _ H1 k1 f1 M1 rfl
 | _=>exact k1.elim
theorem d_one {op}{w:De}(h:PD X a w):PD X (.BoolOp op [a] pos) w:=pe_one h
theorem d_not {wa:De}(ha:PD X a wa):PD X (.UnaryOp .Not a pos) (dNot wa):=(pe_notC ha).imp fun σ H Q q=>by
 obtain⟨φ,ρ,μ,K,E,M,w,L⟩:=q
 refine⟨φ,ρ,μ,_,E,M,w,fun d1 fB φ1 v1 H1 k1 f1 M1 i1=>?_⟩
 cases d1 with
 | bl c=>cases(show v1=_ from i1);exact L _ fB φ1 _ H1 k1 f1 M1 rfl
 | _=>exact k1.elim
def dNeg (wa:De):De:=fun ρ μ K=>wa ρ μ fun x fB=>match x with | .int i=>K (.int (-i)) fB | _=>False
theorem d_neg {wa:De}(ha:PD X a wa):PD X (.UnaryOp .USub a pos) (dNeg wa):=(pe_un un_neg ha).imp fun σ H Q q=>by
 obtain⟨φ,ρ,μ,K,E,M,w,L⟩:=q
 refine⟨φ,ρ,μ,_,E,M,w,fun d1 fB φ1 v1 H1 k1 f1 M1 i1=>?_⟩
 cases d1 with
 | int c=>cases(show v1=_ from i1);exact⟨c,rfl,L _ fB φ1 _ H1 k1 f1 M1 rfl⟩
 | _=>exact k1.elim
def dtAnd (t u:Dt):Dt:=fun ρ μ K=>t ρ μ fun c fB=>if c=true then u ρ fB K else K false fB
def dtOr (t u:Dt):Dt:=fun ρ μ K=>t ρ μ fun c fB=>if c=true then K true fB else u ρ fB K
def dtNot (t:Dt):Dt:=fun ρ μ K=>t ρ μ fun c fB=>K (!c) fB
abbrev PDT (X:Cx)(e:Expr)(w:Dt):Prop:=PT X e (tDT w)
theorem tDT_and {t u:Dt}{σ:St}{H:Hp}{Q:Bool->Hp->Prop}(h:tDT (dtAnd t u) σ H Q):tAnd (tDT t) (tDT u) σ H Q:=by
 obtain⟨φ,ρ,μ,K,E,M,w,L⟩:=h
 refine⟨φ,ρ,μ,_,E,M,w,fun b fB φ1 H1 k1 f1 M1=>?_⟩
 cases b with
 | true=>exact⟨φ1,ρ,fB,_,E.mono f1,M1,k1,fun b μ2 φ2 H2 k2 f2 M2=>L b μ2 φ2 H2 k2 (f1.trans f2) M2⟩
 | false=>exact L _ fB φ1 H1 k1 f1 M1
theorem tDT_or {t u:Dt}{σ:St}{H:Hp}{Q:Bool->Hp->Prop}(h:tDT (dtOr t u) σ H Q):tOr (tDT t) (tDT u) σ H Q:=by
 obtain⟨φ,ρ,μ,K,E,M,w,L⟩:=h
 refine⟨φ,ρ,μ,_,E,M,w,fun b fB φ1 H1 k1 f1 M1=>?_⟩
 cases b with
 | false=>exact⟨φ1,ρ,fB,_,E.mono f1,M1,k1,fun b μ2 φ2 H2 k2 f2 M2=>L b μ2 φ2 H2 k2 (f1.trans f2) M2⟩
 | true=>exact L _ fB φ1 H1 k1 f1 M1
abbrev PDW (X:Cx)(e:Expr)(w:Dt):Prop:=PW X e (tDT w)
theorem PW.imp {e:Expr}{t t':TT}(h:PW X e t)(hi:∀ σ H Q,t' σ H Q->t σ H Q):PW X e t':=fun wh pins s σ H Q I q=>h wh pins s σ H Q I (hi σ H Q q)
theorem t_and1 {t:Dt}(h:PDT X a t):PDW X (.BoolOp .And [a] pos) t:=pw_and1 h
theorem t_or1 {t:Dt}(h:PDT X a t):PDW X (.BoolOp .Or [a] pos) t:=pw_or1 h
theorem t_and {rest:List Expr}{t u:Dt}(ha:PDT X a t)(hb:PDW X (.BoolOp .And (b::rest) pos) u):PDW X (.BoolOp .And (a::b::rest) pos) (dtAnd t u):=(pw_and ha hb).imp fun σ H Q q=>tDT_and q
theorem t_or {rest:List Expr}{t u:Dt}(ha:PDT X a t)(hb:PDW X (.BoolOp .Or (b::rest) pos) u):PDW X (.BoolOp .Or (a::b::rest) pos) (dtOr t u):=(pw_or ha hb).imp fun σ H Q q=>tDT_or q
theorem t_not {t:Dt}(h:PDT X a t):PDT X (.UnaryOp .Not a pos) (dtNot t):=(pt_not h).imp fun σ H Q q=>by
 obtain⟨φ,ρ,μ,K,E,M,w,L⟩:=q
 exact⟨φ,ρ,μ,_,E,M,w,fun b fB φ1 H1 k1 f1 M1=>L _ fB φ1 H1 k1 f1 M1⟩
def dIf (t:Dt)(wa wb:De):De:=fun ρ μ K=>t ρ μ fun c fB=>if c=true then wa ρ fB K else wb ρ fB K
theorem d_if {c:Expr}{t:Dt}{wa wb:De}(hc:PDT X c t)(ha:PD X a wa)(hb:PD X b wb):PD X (.IfExp c a b pos) (dIf t wa wb):=(pe_ifExp hc ha hb).imp fun σ H Q q=>by
 obtain⟨φ,ρ,μ,K,E,M,w,L⟩:=q
 refine⟨φ,ρ,μ,_,E,M,w,fun b fB φ1 H1 k1 f1 M1=>?_⟩
 cases b with
 | true=>exact⟨φ1,ρ,fB,_,E.mono f1,M1,k1,L.mono f1⟩
 | false=>exact⟨φ1,ρ,fB,_,E.mono f1,M1,k1,L.mono f1⟩
theorem tB_of {w:De}{t:TE}{σ:St}{H:Hp}{Q:Bool->Hp->Prop}(hi:∀ Q,tD w σ H Q->t σ H Q)(h:tDT (dTst w) σ H Q):tB t σ H Q:=by
 obtain⟨φ,ρ,μ,K,E,M,k,L⟩:=h
 refine hi _ ⟨φ,ρ,μ,_,E,M,k,fun d μ' φ' v H' k' f M' i=>?_⟩
 cases d with
 | bl b=>cases(show v=_ from i);exact⟨b,rfl,L b μ' φ' H' k' f M'⟩
 | _=>exact k'.elim
theorem t_isN {j pos'}{w:De}(h:PD X a w):PDT X (.Compare a [.Is] [.Constant .none j pos'] pos) (dTst (dIsN false w)):=(pt_cmp (pc_isN h)).imp fun σ H Q q=>tB_of (fun Q q=>tD_isN q) q
theorem t_notN {j pos'}{w:De}(h:PD X a w):PDT X (.Compare a [.IsNot] [.Constant .none j pos'] pos) (dTst (dIsN true w)):=(pt_cmp (pc_notN h)).imp fun σ H Q q=>tB_of (fun Q q=>tD_notN q) q
end
structure DN where
 nx:DE->MS->Prop
 rt:DK
 bk:DE->MS->Prop:=fun _ _=>False
 ct:DE->MS->Prop:=fun _ _=>False
abbrev Ds:=DN->DE->MS->Prop
def LiS (φ:List Addr)(H:Hp)(k:DE->MS->Prop)(q:St->Hp->Prop):Prop:=∀ ρ' μ' φ' σ' H',k ρ' μ'->Fr φ H φ' H'->DEnv φ' H' ρ' σ'->MSis φ' H' μ'->q σ' H'
theorem LiS.mono {φ φ1:List Addr}{H H1:Hp}{k:DE->MS->Prop}{q:St->Hp->Prop}(h:LiS φ H k q)(f:Fr φ H φ1 H1):LiS φ1 H1 k q:=fun ρ' μ' φ' σ' H' a b c d=>h ρ' μ' φ' σ' H' a (f.trans b) c d
structure LiN (φ:List Addr)(H:Hp)(N:DN)(E:Ends):Prop where
 nx:LiS φ H N.nx E.nx
 rt:Lif φ H N.rt E.rt
 bk:LiS φ H N.bk E.bk
 ct:LiS φ H N.ct E.ct
theorem LiN.mono {φ φ1:List Addr}{H H1:Hp}{N:DN}{E:Ends}(h:LiN φ H N E)(f:Fr φ H φ1 H1):LiN φ1 H1 N E:=⟨h.nx.mono f,h.rt.mono f,h.bk.mono f,h.ct.mono f⟩
def tDS (w:Ds):TS:=fun E σ H=>∃ φ ρ μ N,DEnv φ H ρ σ/\MSis φ H μ/\w N ρ μ/\LiN φ H N E
abbrev PDS (X:Cx)(st:Stmt)(w:Ds):Prop:=PS X st (tDS w)
abbrev PDB (X:Cx)(st:List Stmt)(w:Ds):Prop:=PSs X st (tDS w)
section
variable {X:Cx}{a b e:Expr}{es:List Expr}{pos:Pos}{st:Stmt}{rest:List Stmt}
def dNx:Ds:=fun N ρ μ=>N.nx ρ μ
def dSeq (t u:Ds):Ds:=fun N ρ μ=>t { N with nx:=fun ρ' μ'=>u N ρ' μ'} ρ μ
def dCut (t u:Ds):Ds:=fun N ρ μ=>∃ M:DE->MS->Prop,t { N with nx:=M} ρ μ/\∀ ρ' μ',M ρ' μ'->u N ρ' μ'
theorem b_nil:PDB X [] dNx:=pss_nil.imp fun E σ H hq5=>by obtain⟨φ,ρ,μ,N,A,M,w,L⟩:=hq5;exact L.nx ρ μ φ σ H w (.refl _ _) A M
theorem eS {t u:Ds}(h1:PDS X st t)(h2:PDB X rest u):PDB X (st::rest) (dSeq t u):=(pss_cons h1 h2).imp fun E σ H ⟨φ,ρ,μ,N,A,M,w,L⟩ =>
 ⟨φ,ρ,μ,_,A,M,w,⟨fun ρ' μ' φ' σ' H' k f A' M'=>⟨φ',ρ',μ',N,A',M',k,L.mono f⟩,L.rt,L.bk,L.ct⟩⟩
theorem b_cut {t u:Ds}(h1:PDS X st t)(h2:PDB X rest u):PDB X (st::rest) (dCut t u):=(pss_cons h1 h2).imp fun E σ H ⟨φ,ρ,μ,N,A,M,⟨P,w1,w2⟩,L⟩ =>
 ⟨φ,ρ,μ,_,A,M,w1,⟨fun ρ' μ' φ' σ' H' k f A' M'=>⟨φ',ρ',μ',N,A',M',w2 ρ' μ' k,L.mono f⟩,L.rt,L.bk,L.ct⟩⟩
theorem b_one {t:Ds}(h:PDS X st t):PDB X [st] t:=pss_one h
def dExpr (w:De):Ds:=fun N ρ μ=>w ρ μ fun _ μ'=>N.nx ρ μ'
theorem s_expr {w:De}(h:PD X e w)(hs:swapsWith e none pos.line X.env=pure false:=by rfl):PDS X (.Expr e pos) (dExpr w):=(ps_expr h hs).imp fun E σ H hq6=>by obtain⟨φ,ρ,μ,N,A,M,w,L⟩:=hq6;exact⟨φ,ρ,μ,_,A,M,w,fun d fB φ1 v1 H1 k1 f1 M1 i1=>L.nx ρ fB φ1 σ H1 k1 f1 (A.mono f1) M1⟩
def dRet (w:De):Ds:=fun N ρ μ=>w ρ μ N.rt
theorem s_ret {w:De}(h:PD X e w):PDS X (.Return (some e) pos) (dRet w):=(ps_ret h).imp fun E σ H hq0=>by obtain⟨φ,ρ,μ,N,A,M,w,L⟩:=hq0;exact⟨φ,ρ,μ,_,A,M,w,L.rt⟩
def dIfS (c:Dt)(t u:Ds):Ds:=fun N ρ μ=>c ρ μ fun b fB=>if b=true then t N ρ fB else u N ρ fB
theorem s_if {c:Expr}{body orelse:List Stmt}{t:Dt}{u v:Ds}(hc:PDT X c t)(h1:PDB X body u)(h2:PDB X orelse v):PDS X (.If c body orelse pos) (dIfS t u v):=(ps_if hc h1 h2).imp fun E σ H ⟨φ,ρ,μ,N,A,M,w,L⟩ =>
 ⟨φ,ρ,μ,_,A,M,w,fun b fB φ1 H1 k1 f1 M1=>by
  cases b with
  | true=>exact⟨φ1,ρ,fB,N,A.mono f1,M1,k1,L.mono f1⟩
  | false=>exact⟨φ1,ρ,fB,N,A.mono f1,M1,k1,L.mono f1⟩⟩
def dSet (i:Nat)(w:De):Ds:=fun N ρ μ=>w ρ μ fun d μ'=>N.nx (ρ.set i (some d)) μ'
theorem s_set {i:Nat}{x:Str}{w:De}{pos':Pos}(hN:X.N.Nodup)(hi:X.N[i]?=some x)(hx:Loc X.env.scope x)(he:PD X e w)(hf:X.fn x=true\/X.env.scope.names.lookup x=some .local:=by first | exact .inl rfl | exact .inr rfl | assumption)
 (hsw:swapsWith e (some (.Name x pos')) pos.line X.env=pure false:=by rfl):PDS X (.Assign [.Name x pos'] e pos) (dSet i w):=(ps_set (pos:=pos) (pos':=pos') hN hi hx he hsw hf).imp fun E σ H ⟨φ,ρ,μ,N,A,M,w,L⟩ =>
 ⟨φ,ρ,μ,_,A,M,w,fun d fB φ1 v1 H1 k1 f1 M1 i1=>L.nx _ fB φ1 _ H1 k1 f1 ((A.mono f1).set i1 i) M1⟩
abbrev DG:=D->DE->MS->(DE->MS->Prop)->Prop
abbrev DGs:=List D->DE->MS->(DE->MS->Prop)->Prop
def SoG (g:TG)(w:DG)(S:List Nat):Prop:=∀ φ H ρ σ μ d v K,DEnv φ H ρ σ->MSis φ H μ->DIs φ H d v->w d ρ μ K->g v σ H fun σ2 H2=>H2=H/\σ2.length=σ.length/\(∀ i,i∉S->σ2[i]?=σ[i]?)/\∃ ρ2,DEnv φ H ρ2 σ2/\K ρ2 μ
def SoGs (g:TGs)(w:DGs)(S:List Nat):Prop:=∀ φ H ρ σ μ ds vs K,DEnv φ H ρ σ->MSis φ H μ->fc φ H ds vs->w ds ρ μ K->g vs σ H fun σ2 H2=>H2=H/\σ2.length=σ.length/\(∀ i,i∉S->σ2[i]?=σ[i]?)/\∃ ρ2,DEnv φ H ρ2 σ2/\K ρ2 μ
def MonoG (g:TG):Prop:=∀ v σ H Q Q',(∀ σ' H',Q σ' H'->Q' σ' H')->g v σ H Q->g v σ H Q'
def MonoGs (g:TGs):Prop:=∀ v σ H Q Q',(∀ σ' H',Q σ' H'->Q' σ' H')->g v σ H Q->g v σ H Q'
def dgName (i:Nat):DG:=fun d ρ μ K=>K (ρ.set i (some d)) μ
def dgTup (n:Nat)(t:DGs):DG:=fun d ρ μ K=>match d with | .tup ds=>ds.length=n/\t ds ρ μ K | _=>False
def dgCons (t:DG)(u:DGs):DGs:=fun ds ρ μ K=>match ds with | d::r=>t d ρ μ fun ρ' μ'=>u r ρ' μ' K | []=>False
def dgNil:DGs:=fun ds ρ μ K=>match ds with | []=>K ρ μ | _=>False
theorem fg (i:Nat):SoG (gName i) (dgName i) [i]:=fun φ H ρ σ μ d v K E M h w=>⟨rfl,bL,fun j hj=>aG (fun z=>hj (by simp[z])),_,E.set h i,w⟩
theorem eO (i:Nat):MonoG (gName i):=fun v σ H Q Q' h q=>h _ _ q
theorem so_nil:SoGs cNil dgNil []:=fun φ H ρ σ μ ds vs K E M h w=>by
 cases ds with
 | nil=>cases(show vs=[]from h);exact⟨rfl,rfl,fun _ _=>rfl,ρ,E,w⟩
 | cons d r=>exact w.elim
theorem eY:MonoGs cNil:=fun v σ H Q Q' h q=>by
 cases v with
 | nil=>exact h _ _ q
 | cons x r=>exact q
theorem eR {g:TG}{u:TGs}(h1:MonoG g)(h2:MonoGs u):MonoGs (cCons g u):=fun v σ H Q Q' h q=>by
 cases v with
 | nil=>exact q
 | cons x r=>exact h1 _ _ _ _ _ (fun σ' H' q'=>h2 _ _ _ _ _ h q') q
theorem mo_tup {n:Nat}{u:TGs}(h2:MonoGs u):MonoG (cTup n u):=fun v σ H Q Q' h q=>by
 cases v with
 | ref a=>obtain⟨xs,e,l,q⟩:=q;exact⟨xs,e,l,h2 _ _ _ _ _ h q⟩
 | _=>exact q
theorem fh {g:TG}{u:TGs}{w:DG}{y:DGs}{S T:List Nat}(h1:SoG g w S)(m1:MonoG g)(h2:SoGs u y T)(m2:MonoGs u):SoGs (cCons g u) (dgCons w y) (S++T):=fun φ H ρ σ μ ds vs K E M h k=>by
 cases ds with
 | nil=>exact k.elim
 | cons d r =>
  obtain⟨v,vr,rfl,hd,hr⟩:=h
  refine m1 _ _ _ _ _ (fun σ1 H1 hq1=>?_) (h1 φ H ρ σ μ d v _ E M hd k)
  obtain⟨e1,l1,n1,ρ1,E1,k1⟩:=hq1
  subst e1
  refine m2 _ _ _ _ _ (fun σ2 H2 hq2=>?_) (h2 φ H1 ρ1 σ1 μ r vr K E1 M hr k1)
  obtain⟨e2,l2,n2,ρ2,E2,k2⟩:=hq2
  refine⟨e2,l2.trans l1,fun i hi=>?_,ρ2,E2,k2⟩
  rw[n2 i (fun z=>hi (aF _ z)),n1 i (fun z=>hi (c6 _ z))]
theorem so_tup {n:Nat}{u:TGs}{y:DGs}{S:List Nat}(h2:SoGs u y S):SoG (cTup n u) (dgTup n y) S:=fun φ H ρ σ μ d v K E M h k=>by
 cases d with
 | tup ds =>
  obtain⟨p,vs,rfl,hn,hp,ha⟩:=h
  exact⟨vs,hp,by rw[ha.len];exact k.1,h2 φ H ρ σ μ ds vs K E M ha k.2⟩
 | _=>exact k.elim
structure Tg (X:Cx)(tg:Expr)(g:TG)(w:DG)(S:List Nat):Prop where
 pg:PG X tg g
 so:SoG g w S
 mo:MonoG g
def dAsg (w:De)(g:DG):Ds:=fun N ρ μ=>w ρ μ fun d fB=>g d ρ fB N.nx
theorem s_asg {tg:Expr}{w:De}{g:TG}{y:DG}{S:List Nat}(he:PD X e w)(hg:Tg X tg g y S)(hs:swapsWithSole [tg] e pos.line X.env=pure false:=by rfl)(hw:swappedStores [tg] e X.env=pure none:=by rfl)
 (h1:(assignEach [tg] X.env).map (·.2)=[assign tg X.env]:=by rfl):PDS X (.Assign [tg] e pos) (dAsg w y):=(ps_asg he hg.pg hs hw h1).imp fun E σ H ⟨φ,ρ,μ,N,A,M,w,L⟩ =>
 ⟨φ,ρ,μ,_,A,M,w,fun d fB φ1 v1 H1 k1 f1 M1 i1=>hg.mo _ _ _ _ _ (fun σ2 H2 ⟨e2,_,_,ρ2,E2,k2⟩=>by subst e2;exact L.nx ρ2 fB φ1 σ2 _ k2 f1 E2 M1) (hg.so φ1 H1 ρ σ fB d v1 _ (A.mono f1) M1 i1 k1)⟩
def SoSet (t:TSet)(w:D->D->D->MS->(MS->Prop)->Prop):Prop:=∀ φ H o i v dO di d μ K Q,MSis φ H μ->DIs φ H dO o->DIs φ H di i->DIs φ H d v->w dO di d μ K->(∀ μ' H',K μ'->Fr φ H φ H'->MSis φ H' μ'->Q H')->t o i v H Q
def dsetL:D->D->D->MS->(MS->Prop)->Prop:=fun o i d μ K=>match o,i with
 | .mr k,.int j=>opt (lvM μ k) fun ds=>opt (ixN ds.length j) fun n=>K (μ.set k (.lst (ds.set n d)))
 | _,_=>False
theorem so_set:SoSet rSetC dsetL:=fun φ H o i v dO di d μ K Q M hO hi hd w q=>by
 unfold dsetL at w
 split at w
 ·rename_i k j
  obtain⟨ds,em,w⟩:=opt_ex w
  have em:=lvM_eq em
  obtain⟨p,hp,rfl⟩:=hO
  cases(show i=_ from hi)
  obtain⟨p',e1,vs,hv,ha⟩:=M.at_ k _ em
  rw[hp]at e1;cases e1
  obtain⟨n,en,w⟩:=opt_ex w
  refine⟨vs,hv,fj (v:=n) (by rw[ha.len];exact en) ?_⟩
  have f:Fr φ H φ (upd H p (.lst (vs.set n v))):=.put (gxD hp)
  exact q _ _ w f (M.put hp ⟨_,fA,(ha.set hd n).mono f⟩)
 ·exact w.elim
def dAsgS (w wo wi:De):Ds:=fun N ρ μ=>w ρ μ fun d fB=>wo ρ fB fun o μ2=>wi ρ μ2 fun i μ3=>dsetL o i d μ3 fun μ4=>N.nx ρ μ4
theorem s_asgS {o i:Expr}{w wo wi:De}{pos':Pos}(he:PD X e w)(ho:PD X o wo)(hi:PD X i wi)
 (ha:∀ v,assign (.Subscript o i pos') X.env v=(do
   let ov <- holding [v] (eval o X.env)
   let iv <- holding [v,ov] (eval i X.env)
   standAt pos'
   holding [v,ov,iv] (setItem ov iv v)
   release [v,ov,iv] []):=by intro _;rfl) (hs:swapsWithSole [.Subscript o i pos'] e pos.line X.env=pure false:=by rfl) (hw:swappedStores [.Subscript o i pos'] e X.env=pure none:=by rfl)
 (h1:(assignEach [.Subscript o i pos'] X.env).map (·.2)=[assign (.Subscript o i pos') X.env]:=by rfl):PDS X (.Assign [.Subscript o i pos'] e pos) (dAsgS w wo wi):=(ps_asg he (pg_sub ho hi setC ha) hs hw h1).imp fun E σ H hq=>by
 obtain⟨φ,ρ,μ,N,A,M,w,L⟩:=hq
 refine⟨φ,ρ,μ,_,A,M,w,fun d fB φ1 v1 H1 k1 f1 M1 i1=>?_⟩
 refine⟨φ1,ρ,fB,_,A.mono f1,M1,k1,fun d2 μ2 φ2 v2 H2 k2 f2 M2 i2=>?_⟩
 refine⟨φ2,ρ,μ2,_,A.mono (f1.trans f2),M2,k2,fun d3 μ3 φ3 v3 H3 k3 f3 M3 i3=>?_⟩
 exact so_set φ3 H3 _ _ _ d2 d3 d μ3 _ _ M3 (i2.mono f3) i3 (i1.mono (f2.trans f3)) k3 fun μ' H' k4 f4 M4=>L.nx ρ μ' φ3 σ H' k4 ((f1.trans (f2.trans f3)).trans f4) (A.mono ((f1.trans (f2.trans f3)).trans f4)) M4
def SoIp (t:TIp)(ro:DOp):Prop:=∀ φ H x y dx dy μ K Q,MSis φ H μ->DIs φ H dx x->DIs φ H dy y->ro dx dy μ K->Lif φ H K Q->t x y H Q
def dAug (i:Nat)(w:De)(ro:DOp):Ds:=fun N ρ μ=>match ρ[i]? with | some (some x)=>w ρ μ fun y fB=>ro x y fB fun z μ2=>N.nx (ρ.set i (some z)) μ2 | _=>False
theorem s_aug {i:Nat}{x:Str}{w:De}{op:Operator}{ti:TIp}{ro:DOp}{pos':Pos}(hN:X.N.Nodup)(hi:X.N[i]?=some x)(hx:Loc X.env.scope x)(he:PD X e w)(ho:PIp X op ti)(so:SoIp ti ro)(hf:X.fn x=true\/X.env.scope.names.lookup x=some .local:=by first | exact .inl rfl | exact .inr rfl | assumption) :
 PDS X (.AugAssign (.Name x pos') op e pos) (dAug i w ro):=(ps_aug (pos:=pos) (pos':=pos') hN hi hx he ho hf).imp fun E σ H hq=>by
 obtain⟨φ,ρ,μ,N,A,M,w,L⟩:=hq
 unfold dAug at w
 split at w
 ·rename_i d hd
  obtain⟨v,hv,hdv⟩:=A.2 i d hd
  refine⟨v,hv,φ,ρ,μ,_,A,M,w,fun d1 fB φ1 v1 H1 k1 f1 M1 i1=>?_⟩
  exact so φ1 H1 _ _ d d1 fB _ _ M1 (hdv.mono f1) i1 k1 fun d2 μ2 φ2 v2 H2 k2 f2 M2 i2=>L.nx _ μ2 φ2 _ H2 k2 (f1.trans f2) ((A.mono (f1.trans f2)).set i2 i) M2
 ·exact w.elim
def dWhile (c:Dt)(b:Ds):Ds:=fun N ρ μ=>∃ W:Nat->DE->MS->Prop,(∃ m,W m ρ μ)/\∀ m ρ μ,W m ρ μ ->
 c ρ μ fun t fB=>if t=true then b { N with nx:=fun ρ' μ'=>∃ m',m'<m/\W m' ρ' μ',ct:=fun ρ' μ'=>∃ m',m'<m/\W m' ρ' μ',bk:=N.nx} ρ fB else N.nx ρ fB
theorem s_while {c:Expr}{body:List Stmt}{t:Dt}{u:Ds}(hp:PassesOwn (model X.prog X.w) X.A X.env X.xe)(hc:PDT X c t)(hb:PDB X body u):PDS X (.While c body [] pos) (dWhile t u):=(ps_while hp hc hb).imp fun E σ H ⟨φ,ρ,μ,N,A,M,⟨W,⟨m0,w0⟩,turn⟩,L⟩=>by
 refine⟨fun m σ' H'=>∃ φ' ρ' μ',Fr φ H φ' H'/\DEnv φ' H' ρ' σ'/\MSis φ' H' μ'/\W m ρ' μ',⟨m0,φ,ρ,μ,.refl _ _,A,M,w0⟩,?_⟩
 rintro m σ' H' ⟨φ',ρ',μ',f',A',M',w'⟩
 refine⟨φ',ρ',μ',_,A',M',turn m ρ' μ' w',fun b fB φ1 H1 k1 f1 M1=>?_⟩
 cases b with
 | true =>
  refine⟨fun σ2 H2=>∃ m',m'<m/\∃ φ2 ρ2 μ2,Fr φ H φ2 H2/\DEnv φ2 H2 ρ2 σ2/\MSis φ2 H2 μ2/\W m' ρ2 μ2,fun σ2 H2 q=>q,φ1,ρ',fB,_,A'.mono f1,M1,k1,?_⟩
  have nx:LiS φ1 H1 (fun ρ' μ'=>∃ m',m'<m/\W m' ρ' μ') fun σ2 H2=>∃ m',m'<m/\∃ φ2 ρ2 μ2,Fr φ H φ2 H2/\DEnv φ2 H2 ρ2 σ2/\MSis φ2 H2 μ2/\W m' ρ2 μ2:=fun ρ2 μ2 φ2 σ2 H2 ⟨m',hm,w2⟩ f2 A2 M2=>⟨m',hm,φ2,ρ2,μ2,(f'.trans f1).trans f2,A2,M2,w2⟩
  exact⟨nx,L.rt.mono (f'.trans f1),L.nx.mono (f'.trans f1),nx⟩
 | false=>exact L.nx ρ' fB φ1 σ' H1 k1 (f'.trans f1) (A'.mono f1) M1
def Wk (J:It)(φ:List Addr)(H:Hp)(ds:List D)(c:MS->Prop):Prop:=∀ φ' H' μ',Fr φ H φ' H'->MSis φ' H' μ'->c μ'->∀ i,
 (∀ d,ds[i]?=some d->J.go i H'/\∀ x H'',J.yld i H' x H''->Fr φ' H' φ' H''/\MSis φ' H'' μ'/\DIs φ' H'' d x)/\(i=ds.length->J.stop i H')
abbrev DI:=DE->MS->(List D->(MS->Prop)->MS->Prop)->Prop
def tDI (w:DI):TI:=fun σ H R=>∃ φ ρ μ K,DEnv φ H ρ σ/\MSis φ H μ/\w ρ μ K/\∀ ds c μ' φ' J H',K ds c μ'->Fr φ H φ' H'->MSis φ' H' μ'->Wk J φ' H' ds c->R J H'
abbrev PDI (X:Cx)(tg iter:Expr)(w:DI):Prop:=PI X tg iter (tDI w)
theorem PI.imp {tg iter:Expr}{t t':TI}(h:PI X tg iter t)(hi:∀ σ H Q,t' σ H Q->t σ H Q):PI X tg iter t':=fun pins s σ H Q I q=>h pins s σ H Q I (hi σ H Q q)
def forW (g:DG)(b:Ds)(N:DN)(c:MS->Prop):List D->DE->MS->Prop
 | [],ρ,μ=>c μ/\N.nx ρ μ
 | d::ds,ρ,μ=>c μ/\g d ρ μ fun ρ2 μ2=>b { N with nx:=fun ρ' μ'=>forW g b N c ds ρ' μ',ct:=fun ρ' μ'=>forW g b N c ds ρ' μ',bk:=N.nx} ρ2 μ2
def dFor (wi:DI)(g:DG)(b:Ds):Ds:=fun N ρ μ=>wi ρ μ fun ds c fB=>forW g b N c ds ρ fB
theorem s_for {tg iter:Expr}{body:List Stmt}{wi:DI}{g:TG}{y:DG}{S:List Nat}{u:Ds}(hp:PassesOwn (model X.prog X.w) X.A X.env X.xe)(hc:X.calm=true)(hi:PDI X tg iter wi)(hg:Tg X tg g y S)(hb:PDB X body u)
 (hs:∀ x,foldedSetIterable iter X.env x=pure x:=by intro _;rfl):PDS X (.For tg iter body [] pos) (dFor wi y u):=(ps_for hp hc hi hg.pg hb hs).imp fun E σ H hq=>by
 obtain⟨φ,ρ,μ,N,A,M,w,L⟩:=hq
 refine⟨φ,ρ,μ,_,A,M,w,fun ds c fB φ1 J H1 k1 f1 M1 wk=>?_⟩
 refine⟨fun i m σ' H'=>m=ds.length - i/\i<=ds.length/\∃ φ' ρ' μ',Fr φ1 H1 φ' H'/\DEnv φ' H' ρ' σ'/\MSis φ' H' μ'/\forW y u N c (ds.drop i) ρ' μ',⟨ds.length,rfl,bV _,φ1,ρ,fB,.refl _ _,A.mono f1,M1,k1⟩,?_⟩
 rintro i m σ' H' ⟨rfl,hi,φ',ρ',μ',f',A',M',w'⟩
 by_cases hlt:i<ds.length
 ·rw[bH hlt]at w'
  obtain⟨c',w'⟩:=w'
  obtain⟨go,yld⟩:=(wk φ' H' μ' f' M' c' i).1 ds[i] (gxA hlt)
  refine .inr ⟨go,fun σ2 H2=>∃ φ2 ρ2 μ2,Fr φ1 H1 φ2 H2/\DEnv φ2 H2 ρ2 σ2/\MSis φ2 H2 μ2/\forW y u N c (ds.drop (i+1)) ρ2 μ2,fun σ2 H2 q=>⟨ds.length - (i+1),by omega,rfl,hlt,q⟩,fun x H2 hy=>?_⟩
  obtain⟨f2,M2,i2⟩:=yld x H2 hy
  refine hg.mo _ _ _ _ _ (fun σ3 H3 hq0=>?_) (hg.so φ' H2 ρ' σ' μ' _ x _ (A'.mono f2) M2 i2 w')
  obtain⟨e3,_,_,ρ3,E3,k3⟩:=hq0
  subst e3
  refine⟨φ',ρ3,μ',_,E3,M2,k3,?_⟩
  have nx:LiS φ' H3 (fun ρ' μ'=>forW y u N c (ds.drop (i+1)) ρ' μ') fun σ2 H2=>∃ φ2 ρ2 μ2,Fr φ1 H1 φ2 H2/\DEnv φ2 H2 ρ2 σ2/\MSis φ2 H2 μ2/\forW y u N c (ds.drop (i+1)) ρ2 μ2:=fun ρ2 μ2 φ2 σ2 H2 w2 g2 A2 N2=>⟨φ2,ρ2,μ2,(f'.trans f2).trans g2,A2,N2,w2⟩
  have ff:=f1.trans (f'.trans f2)
  exact⟨nx,L.rt.mono ff,L.nx.mono ff,nx⟩
 ·have e:i=ds.length:=by omega
  subst e
  rw[List.drop_length]at w'
  exact .inl ⟨(wk φ' H' μ' f' M' w'.1 _).2 rfl,L.nx ρ' μ' φ' σ' H' w'.2 (f1.trans f') A' M'⟩
end
def startD (js:List (Option Nat))(ρ:DE):DE:=js.map fun o=>o.bind fun j=>(ρ[j]?).join
theorem DEnv.startC {φ:List Addr}{H:Hp}{ρ:DE}{σ:St}(h:DEnv φ H ρ σ)(js:List (Option Nat)):DEnv φ H (startD js ρ) (startC js σ):=by
 refine⟨by unfold startD L2.startC;rw[gxC,gxC],fun i d e=>?_⟩
 unfold startD at e
 rw[gxH]at e
 unfold L2.startC
 rw[gxH]
 cases q:js[i]? with
 | none=>rw[q]at e;cases e
 | some o =>
  rw[q]at e
  cases o with
  | none=>cases e
  | some j =>
   have e':(ρ[j]?).join=some d:=aB e
   have e2:ρ[j]?=some (some d):=by
    cases z:ρ[j]? with
    | none=>rw[z]at e';cases e'
    | some y=>rw[z]at e';have:y=some d:=e';rw[this]
   obtain⟨v,hv,hd⟩:=h.2 j d e2
   refine⟨v,?_,hd⟩
   show some ((σ[j]?).join)=_
   rw[hv];rfl
def dItem (ρ:DE)(y:DG)(t:Dt)(w:De)(d:D)(μ:MS)(K:Option D->MS->Prop):Prop:=y d ρ μ fun ρ2 μ2=>t ρ2 μ2 fun b μ3=>if b=true then w ρ2 μ3 (fun z μ4=>K (some z) μ4)else K none μ3
def compW (it:D->MS->(Option D->MS->Prop)->Prop)(c:MS->Prop):List D->MS->(List D->MS->Prop)->Prop
 | [],μ,K=>c μ/\K [] μ
 | d::ds,μ,K=>c μ/\it d μ fun o fB=>compW it c ds fB fun ys μ2=>K (o.toList++ys) μ2
def ownJs (S:List Nat)(js:List (Option Nat)):Bool:=S.all fun i=>js[i]?==some none
theorem ext_of {js:List (Option Nat)}{σ σ2:St}{S:List Nat}(ho:ownJs S js=true)(hl:σ2.length=(startC js σ).length)(hn:∀ i,i∉S->σ2[i]?=(startC js σ)[i]?):Ext (startC js σ) σ2:=by
 refine⟨hl.symm,fun i v e=>?_⟩
 by_cases hi:i∈S
 ·have q:=List.all_eq_true.mp ho i hi
  have q':js[i]?=some none:=by simpa using q
  obtain⟨j,e1,_⟩:=getStart e
  rw[q']at e1;cases e1
 ·rw[hn i hi];exact e
def dComp (m:Bool)(wi:DI)(js:List (Option Nat))(y:DG)(t:Dt)(w:De):De:=fun ρ μ K=>wi ρ μ fun ds c fB=>ds.length<=sizeLine/\compW (dItem (startD js ρ) y t w) c ds fB fun ys μ2=>nL m ys μ2 K
theorem tD_comp {m:Bool}{wi:DI}{js:List (Option Nat)}{g:TG}{y:DG}{S:List Nat}{t:Dt}{w:De}(so:SoG g y S)(mo:MonoG g)(ho:ownJs S js=true){σ:St}{H:Hp}{Q:VK}(h:tD (dComp m wi js y t w) σ H Q):tComp (tDI wi) js g (tDT t) (tD w) σ H Q:=by
 obtain⟨φ,ρ,μ,K,A,M,k,L⟩:=h
 refine⟨φ,ρ,μ,_,A,M,k,fun ds c fB φ1 J H1 k1 f1 M1 wk=>?_⟩
 obtain⟨hz,k1⟩:=k1
 refine⟨fun i n ys H'=>n=ds.length - i/\i<=ds.length/\ys.length<=i/\∃ φ' zs μ',Fr φ1 H1 φ' H'/\fc φ' H' zs ys/\MSis φ' H' μ'/\compW (dItem (startD js ρ) y t w) c (ds.drop i) μ' fun r μ2=>nL m (zs++r) μ2 K,
  ⟨ds.length,rfl,bV _,bV _,φ1,[],fB,.refl _ _,rfl,M1,k1⟩,?_⟩
 rintro i n ys H' ⟨rfl,hi,hy,φ',zs,μ',f',Z',M',w'⟩
 by_cases hlt:i<ds.length
 ·rw[bH hlt]at w'
  obtain⟨c',w'⟩:=w'
  obtain⟨go,yld⟩:=(wk φ' H' μ' f' M' c' i).1 ds[i] (gxA hlt)
  refine .inr ⟨go,fun x H2 hy2=>?_⟩
  obtain⟨f2,M2,i2⟩:=yld x H2 hy2
  have E2:DEnv φ' H2 (startD js ρ) (startC js σ):=((A.mono (f1.trans (f'.trans f2))).startC js)
  refine mo _ _ _ _ _ (fun σ3 H3 hq1=>?_) (so φ' H2 _ _ μ' _ x _ E2 M2 i2 w')
  obtain⟨e3,l3,n3,ρ3,E3,k3⟩:=hq1
  refine⟨ext_of ho l3 n3,?_⟩
  subst e3
  refine⟨φ',ρ3,μ',_,E3,M2,k3,fun b μ4 φ4 H4 k4 f4 M4=>?_⟩
  have ff:=f'.trans (f2.trans f4)
  cases b with
  | true =>
   refine⟨φ4,ρ3,μ4,_,E3.mono f4,M4,k4,fun d5 μ5 φ5 v5 H5 k5 f5 M5 i5=>⟨by omega,ds.length - (i+1),by omega,rfl,hlt,by rw[gxE,bE];omega,φ5,zs++[d5],μ5,ff.trans f5,(Z'.mono (f2.trans (f4.trans f5))).app ⟨v5,[],rfl,i5,rfl⟩,M5,?_⟩⟩
   have e:(fun r μ2=>nL m (zs++[d5]++r) μ2 K)=fun r μ2=>nL m (zs++((some d5).toList++r)) μ2 K:=by funext r μ2;rw[cx];rfl
   rw[e]
   exact k5
  | false =>
   exact⟨ds.length - (i+1),by omega,rfl,hlt,by omega,φ4,zs,μ4,ff,Z'.mono (f2.trans f4),M4,k4⟩
 ·have e:i=ds.length:=by omega
  subst e
  rw[List.drop_length]at w'
  refine .inl ⟨(wk φ' H' μ' f' M' w'.1 _).2 rfl,fun p hp=>?_⟩
  have q:nL m (zs++[]) μ' K:=w'.2
  rw[b7]at q
  exact al_n (L.mono (f1.trans f')) M' Z' q hp
section
variable {X:Cx}{a b e:Expr}{es:List Expr}{pos:Pos}
variable {N:List Str}{js:List (Option Nat)}{sc:Scope}{tg elt iter:Expr}{ifs:List Expr}{g:TG}{y:DG}{S:List Nat}{t:Dt}{w:De}
abbrev PDTs (X:Cx)(ifs:List Expr)(t:Dt):Prop:=PTs X ifs (tDT t)
theorem PTs.imp {ifs:List Expr}{t t':TT}(h:PTs X ifs t)(hi:∀ σ H Q,t' σ H Q->t σ H Q):PTs X ifs t':=fun pins s σ H Q I q=>h pins s σ H Q I (hi σ H Q q)
def dYes:Dt:=fun _ μ K=>K true μ
theorem ts_nil:PDTs X [] dYes:=pts_nil.imp fun σ H Q hq2=>by obtain⟨φ,ρ,μ,K,A,M,k,L⟩:=hq2;exact L true μ φ H k (.refl _ _) M
theorem ts_one {c:Expr}(h:PDT X c t):PDTs X [c] t:=pts_one h
theorem d_comp (m:Bool){wi:DI}(hc:CompOk X N js sc)(calm:X.calm=true)(so:SoG g y S)(mo:MonoG g)(ho:ownJs S js=true)(hi:PDI X tg iter wi)(hg:∀ fp s H,PG (cxC X N sc fp s H) tg g)(ht:∀ fp s H,PDTs (cxC X N sc fp s H) ifs t)(he:∀ fp s H,PD (cxC X N sc fp s H) elt w)
 (hs:∀ x,foldedSetIterable iter X.env x=pure x:=by intro _;rfl):PD X (.ListComp elt [⟨tg,iter,ifs,0⟩] sc pos) (dComp m wi js y t w):=(pe_comp hc calm hi hg ht he hs).imp fun σ H Q q=>tD_comp so mo ho q
theorem s_setComp (m:Bool){wi:DI}{pos' spos:Pos}{i:Nat}{x:Str}(hc:CompOk X N js sc)(calm:X.calm=true)(so:SoG g y S)(mo:MonoG g)(ho:ownJs S js=true)(hN:X.N.Nodup)(hx':X.N[i]?=some x)(hx:Loc X.env.scope x)(hi:PDI X tg iter wi)(hg:∀ fp s H,PG (cxC X N sc fp s H) tg g)
 (ht:∀ fp s H,PDTs (cxC X N sc fp s H) ifs t) (he:∀ fp s H,PD (cxC X N sc fp s H) elt w) (hsw:swapsWith (.ListComp elt [⟨tg,iter,ifs,0⟩] sc pos) (some (.Name x pos')) spos.line X.env=pure true:=by rfl)
 (hs:∀ x,foldedSetIterable iter X.env x=pure x:=by intro _;rfl) (hf:X.fn x=true\/X.env.scope.names.lookup x=some .local:=by first | exact .inl rfl | exact .inr rfl | assumption) :
 PDS X (.Assign [.Name x pos'] (.ListComp elt [⟨tg,iter,ifs,0⟩] sc pos) spos) (dSet i (dComp m wi js y t w)):=(ps_setComp hc calm hN hx' hx hi hg ht he hsw hs hf).imp fun E σ H ⟨φ,ρ,μ,N,A,M,w,L⟩ =>
 tD_comp so mo ho ⟨φ,ρ,μ,_,A,M,w,fun d fB φ1 v1 H1 k1 f1 M1 i1=>L.nx _ fB φ1 _ H1 k1 f1 ((A.mono f1).set i1 i) M1⟩
def dItL (w:De):DI:=fun ρ μ K=>w ρ μ fun d fB=>opt (lv fB d) fun ds=>K ds (lc d ds) fB
theorem wk_list {Kf:PySem.W.Frag}{p:Addr}{φ:List Addr}{H:Hp}{ds:List D}{c:MS->Prop}(h:∀ φ' H' μ',Fr φ H φ' H'->MSis φ' H' μ'->c μ'->∃ vs,H' p=some (.lst vs)/\fc φ' H' ds vs):Wk (Itl Kf p) φ H ds c:=fun φ' H' μ' f M c' i=>by
 obtain⟨vs,hp,ha⟩:=h φ' H' μ' f M c'
 refine⟨fun d hd=>?_,fun hi=>⟨vs,SqL.of hp,by rw[ha.len,hi];exact ae _⟩⟩
 obtain⟨v,hv,hi⟩:=ha.get hd
 refine⟨⟨vs,v,SqL.of hp,hv⟩,fun x H'' hy=>?_⟩
 obtain⟨rfl,hy⟩:=hy
 have e:=hy vs (SqL.of hp)
 rw[hv]at e;cases e
 exact⟨.refl _ _,M,hi⟩
theorem i_list {w:De}(h:PD X a w):PDI X tg a (dItL w):=(pi_list h).imp fun σ H Q hq=>by
 obtain⟨φ,ρ,μ,K,A,M,k,L⟩:=hq
 refine⟨φ,ρ,μ,_,A,M,k,fun d fB φ1 v1 H1 k1 f1 M1 i1=>?_⟩
 obtain⟨ds,el,k1⟩:=opt_ex k1
 obtain⟨p,vs,rfl,hp,ha⟩:=lv_is M1 i1 el
 exact⟨p,rfl,⟨vs,SqL.of hp⟩,L ds _ fB φ1 _ H1 k1 f1 M1 (wk_list fun φ' H' μ' f M c=>lv_stay M1 i1 el f M c)⟩
def rngD (lo:Int)(n:Nat):List D:=(List.range n).map fun i=>D.int (lo+(i:Nat))
theorem wk_range {lo:Int}{n:Nat}{φ:List Addr}{H:Hp}:Wk (Itr lo n) φ H (rngD lo n) fun _=>True:=fun φ' H' μ' f M _ i=>by
 have hl:(rngD lo n).length=n:=by unfold rngD;rw[gxC,gxJ]
 refine⟨fun d hd=>?_,fun hi=>by rw[hl]at hi;exact Nat.le_of_eq hi.symm⟩
 have hi:i<n:=by have:=(gxB hd).1;omega
 refine⟨hi,fun x H'' hy=>?_⟩
 obtain⟨rfl,rfl⟩:=hy
 refine⟨.refl _ _,M,?_⟩
 unfold rngD at hd
 rw[gxH,bF hi]at hd
 cases hd
 rfl
def dItR1 (w:DA):DI:=fun ρ μ K=>w ρ μ fun ds fB=>match ds with
 | [.int j] => -(2 ^ 62)<=j/\j<2 ^ 62/\K (rngD 0 j.toNat) (fun _=>True) fB
 | _=>False
def dItR2 (w:DA):DI:=fun ρ μ K=>w ρ μ fun ds fB=>match ds with
 | [.int i,.int j]=>(-(2 ^ 62)<=i/\i<2 ^ 62 /\ -(2 ^ 62)<=j/\j<2 ^ 62)/\K (rngD i (j - i).toNat) (fun _=>True) fB
 | _=>False
theorem i_range1 {w:DA}{p:Pos}(hg:Gl X "range")(hm:X.mg "range"=none)(ha:PDA X [a] w)(hs:starEach [a] X.env=[(false,eval a X.env)]:=by rfl):PDI X tg (.Call (.Name "range" p) [a] [] pos) (dItR1 w):=(pi_range1 hg hm ha hs).imp fun σ H Q hq=>by
 obtain⟨φ,ρ,μ,K,A,M,k,L⟩:=hq
 refine⟨φ,ρ,μ,_,A,M,k,fun ds fB φ1 vs H1 k1 f1 M1 i1=>?_⟩
 split at k1
 ·obtain⟨v,r,rfl,h1,h2⟩:=i1
  cases(show v=_ from h1);cases(show r=[]from h2)
  exact⟨_,rfl,k1.1,k1.2.1,L _ _ fB φ1 _ H1 k1.2.2 f1 M1 wk_range⟩
 ·exact k1.elim
theorem i_range2 {w:DA}{p:Pos}(hg:Gl X "range")(hm:X.mg "range"=none)(ha:PDA X [a,b] w)(hs:starEach [a,b] X.env=[(false,eval a X.env),(false,eval b X.env)]:=by rfl)(hs2:starEach [b] X.env=[(false,eval b X.env)]:=by rfl):PDI X tg (.Call (.Name "range" p) [a,b] [] pos) (dItR2 w):=(pi_range2 hg hm ha hs hs2).imp fun σ H Q hq=>by
 obtain⟨φ,ρ,μ,K,A,M,k,L⟩:=hq
 refine⟨φ,ρ,μ,_,A,M,k,fun ds fB φ1 vs H1 k1 f1 M1 i1=>?_⟩
 split at k1
 ·obtain⟨v,r,rfl,h1,u,r',rfl,h2,h3⟩:=i1
  cases(show v=_ from h1);cases(show u=_ from h2);cases(show r'=[]from h3)
  exact⟨_,_,rfl,k1.1,L _ _ fB φ1 _ H1 k1.2 f1 M1 wk_range⟩
 ·exact k1.elim
end
mutual
def mrB (n:Nat):D->Prop
 | .lst ds=>mrL n ds
 | .tup ds=>mrL n ds
 | .dic _ ds=>mrL n ds
 | .mr k=>k<n
 | .obj _ _ ds=>mrL n ds
 | .fdc _ ds=>mrL n ds
 | _=>True
def mrL (n:Nat):List D->Prop
 | []=>True
 | d::ds=>mrB n d/\mrL n ds
end
def moB (n:Nat):MO->Prop
 | .box=>True
 | .lst ds=>mrL n ds
 | .dic _ ds=>mrL n ds
 | .fdic _ _ ds=>mrL n ds
 | .ins _ _ ds=>mrL n ds
 | .dtu _ ds=>mrL n ds
 | .gx φ0 _=>φ0.length<=n
 | .exc _=>True
theorem Fr.takeN {φ0 φ:List Addr}{H0 H:Hp}{n:Nat}(f:Fr φ0 H0 φ H)(h:φ0.length<=n):Fr φ0 H0 (φ.take n) H:=by
 obtain⟨⟨ψ,rfl,hψ⟩,k,d⟩:=f
 exact⟨⟨ψ.take (n - φ0.length),by rw[List.take_append,bD h],fun c hc=>hψ c (aW hc)⟩,k,d⟩
theorem Fr.late {φ0 φ:List Addr}{H0 H:Hp}{j:Nat}{p:Addr}(f:Fr φ0 H0 φ H)(h:φ0.length<=j)(hp:φ[j]?=some p):H0 p=none:=by
 obtain⟨⟨ψ,rfl,hψ⟩,k,d⟩:=f
 rw[gxG h]at hp
 exact hψ p (gxD hp)
theorem Fr.takeP {φ0 φ:List Addr}{H0 H:Hp}{n:Nat}{p:Addr}(f:Fr φ0 H0 φ H)(h:φ0.length<=n)(hp:H0 p=none):Fr φ0 H0 (φ.take n++[p]) H:=by
 obtain⟨⟨ψ,e,hψ⟩,k,d⟩:=f.takeN h
 exact⟨⟨ψ++[p],by rw[e,cx],fun c hc=>by rcases List.mem_append.mp hc with z | z;exact hψ c z;rw[List.mem_singleton.mp z];exact hp⟩,k,d⟩
mutual
theorem DIs.cutT {n:Nat}{φ:List Addr}{H:Hp}:∀ {d:D} {v:V},mrB n d->DIs φ H d v->DIs (φ.take n) H d v
 | .non,_,_,h=>h
 | .bl _,_,_,h=>h
 | .int _,_,_,h=>h
 | .str _,_,_,h=>h
 | .lst _,_,m,h=>by obtain⟨p,vs,e,nn,hp,q⟩:=h;exact⟨p,vs,e,fun z=>nn (aW z),hp,fc.cutT m q⟩
 | .tup _,_,m,h=>by obtain⟨p,vs,e,nn,hp,q⟩:=h;exact⟨p,vs,e,fun z=>nn (aW z),hp,fc.cutT m q⟩
 | .dic _ _,_,m,h=>by obtain⟨p,eW,vs,e,nn,hp,q1,q2,q⟩:=h;exact⟨p,eW,vs,e,fun z=>nn (aW z),hp,q1,q2,fc.cutT m q⟩
 | .mr k,_,m,h=>by obtain⟨p,e,q⟩:=h;exact⟨p,by rw[bq m];exact e,q⟩
 | .obj _ _ _,_,m,h=>by obtain⟨p,dx,fs,vs,e,nn,hp,q1,q2,q⟩:=h;exact⟨p,dx,fs,vs,e,fun z=>nn (aW z),hp,q1,q2,fc.cutT m q⟩
 | .fdc _ _,_,m,h=>by obtain⟨p,dx,fs,vs,e,nn,hp,q1,q2,q⟩:=h;exact⟨p,dx,fs,vs,e,fun z=>nn (aW z),hp,q1,q2,fc.cutT m q⟩
 | .fn _,_,_,h=>h
theorem fc.cutT {n:Nat}{φ:List Addr}{H:Hp}:∀ {ds:List D} {vs:List V},mrL n ds->fc φ H ds vs->fc (φ.take n) H ds vs
 | [],_,_,h=>h
 | _::_,_,m,h=>by obtain⟨v,r,e,h1,h2⟩:=h;exact⟨v,r,e,DIs.cutT m.1 h1,fc.cutT m.2 h2⟩
end
theorem MSis.cutT {n:Nat}{φ:List Addr}{H:Hp}{μ:MS}(h:MSis φ H μ)(hm:∀(k:Nat) (m:MO),k<n->μ[k]?=some m->moB n m):MSis (φ.take n) H (μ.take n):=by
 refine⟨h.nd.sublist (List.take_sublist _ _),by rw[bu,bu,h.len],fun k m e=>?_⟩
 have hk:k<n:=by have:=(gxB e).1;rw[bu]at this;omega
 rw[bq hk]at e
 obtain⟨p,e1,e2⟩:=h.at_ k m e
 refine⟨p,by rw[bq hk];exact e1,?_⟩
 have hb:=hm k m hk e
 cases m with
 | box=>obtain⟨q,ns,i,r,z,h1,h2,h3,h4⟩:=e2;exact⟨q,ns,i,r,z,h1,h2,fun z=>h3 (aW z),h4⟩
 | lst ds=>obtain⟨vs,h1,h2⟩:=e2;exact⟨vs,h1,h2.cutT hb⟩
 | dic ks ds=>obtain⟨eW,vs,h1,h2,h3,h4⟩:=e2;exact⟨eW,vs,h1,h2,h3,h4.cutT hb⟩
 | fdic o eW ds=>exact⟨e2.1,e2.2.cutT hb⟩
 | ins C ns ds=>obtain⟨dx,fs,h1,h2,h3⟩:=e2;exact⟨dx,fs,h1,h2,h3.cutT hb⟩
 | dtu ks ds=>obtain⟨eW,h1,h2,h3⟩:=e2;exact⟨eW,h1,h2,h3.cutT hb⟩
 | gx φ0 H0=>exact⟨e2.1.takeN hb,e2.2⟩
 | exc c=>exact e2
mutual
theorem DIs.bound {φ:List Addr}{H:Hp}:∀ {d:D} {v:V},DIs φ H d v->mrB φ.length d
 | .non,_,_=>True.intro
 | .bl _,_,_=>True.intro
 | .int _,_,_=>True.intro
 | .str _,_,_=>True.intro
 | .lst _,_,h=>by obtain⟨p,vs,e,nn,hp,q⟩:=h;exact fc.bound q
 | .tup _,_,h=>by obtain⟨p,vs,e,nn,hp,q⟩:=h;exact fc.bound q
 | .dic _ _,_,h=>by obtain⟨p,eW,vs,e,nn,hp,q1,q2,q⟩:=h;exact fc.bound q
 | .mr k,_,h=>by obtain⟨p,e,q⟩:=h;exact(gxB e).1
 | .obj _ _ _,_,h=>by obtain⟨p,dx,fs,vs,e,nn,hp,q1,q2,q⟩:=h;exact fc.bound q
 | .fdc _ _,_,h=>by obtain⟨p,dx,fs,vs,e,nn,hp,q1,q2,q⟩:=h;exact fc.bound q
 | .fn _,_,_=>True.intro
theorem fc.bound {φ:List Addr}{H:Hp}:∀ {ds:List D} {vs:List V},fc φ H ds vs->mrL φ.length ds
 | [],_,_=>True.intro
 | _::_,_,h=>by obtain⟨v,r,e,h1,h2⟩:=h;exact⟨DIs.bound h1,fc.bound h2⟩
end
theorem MSis.bound {φ:List Addr}{H:Hp}{μ:MS}(h:MSis φ H μ):∀(k:Nat) (m:MO),μ[k]?=some m->moB μ.length m:=fun k m e=>by
 obtain⟨p,e1,e2⟩:=h.at_ k m e
 rw[<- h.len]
 cases m with
 | box=>exact True.intro
 | lst ds=>obtain⟨vs,h1,h2⟩:=e2;exact h2.bound
 | dic ks ds=>obtain⟨eW,vs,h1,h2,h3,h4⟩:=e2;exact h4.bound
 | fdic o eW ds=>exact e2.2.bound
 | ins C ns ds=>obtain⟨dx,fs,h1,h2,h3⟩:=e2;exact h3.bound
 | dtu ks ds=>obtain⟨eW,h1,h2,h3⟩:=e2;exact h3.bound
 | gx φ0 H0=>obtain⟨⟨ψ,e,_⟩,_⟩:=e2.1;show φ0.length<=φ.length;rw[e,gxE];omega
 | exc c=>exact True.intro
theorem notin_addP {n:Nat}{φ':List Addr}{p q:Addr}(hp:p∈φ')(h:q∉φ'):q∉φ'.take n++[p]:=fun z=>by
 rcases List.mem_append.mp z with z | z
 ·exact h (aW z)
 ·exact h (by rw[List.mem_singleton.mp z];exact hp)
mutual
theorem DIs.addP {n:Nat}{φ':List Addr}{H:Hp}{p:Addr}(hp:p∈φ'):∀ {d:D} {v:V},mrB n d->DIs φ' H d v->DIs (φ'.take n++[p]) H d v
 | .non,_,_,h=>h
 | .bl _,_,_,h=>h
 | .int _,_,_,h=>h
 | .str _,_,_,h=>h
 | .lst _,_,m,h=>by obtain⟨q,vs,e,nn,hq,z⟩:=h;exact⟨q,vs,e,notin_addP hp nn,hq,fc.addP' hp m z⟩
 | .tup _,_,m,h=>by obtain⟨q,vs,e,nn,hq,z⟩:=h;exact⟨q,vs,e,notin_addP hp nn,hq,fc.addP' hp m z⟩
 | .dic _ _,_,m,h=>by obtain⟨q,eW,vs,e,nn,hq,q1,q2,z⟩:=h;exact⟨q,eW,vs,e,notin_addP hp nn,hq,q1,q2,fc.addP' hp m z⟩
 | .mr k,_,m,h=>by
  obtain⟨q,e,z⟩:=h
  have hk:k<(φ'.take n).length:=by rw[bu];have:=(gxB e).1;have m':k<n:=m;omega
  exact⟨q,by rw[gxF hk,bq m];exact e,z⟩
 | .obj _ _ _,_,m,h=>by obtain⟨q,dx,fs,vs,e,nn,hq,q1,q2,z⟩:=h;exact⟨q,dx,fs,vs,e,notin_addP hp nn,hq,q1,q2,fc.addP' hp m z⟩
 | .fdc _ _,_,m,h=>by obtain⟨q,dx,fs,vs,e,nn,hq,q1,q2,z⟩:=h;exact⟨q,dx,fs,vs,e,notin_addP hp nn,hq,q1,q2,fc.addP' hp m z⟩
 | .fn _,_,_,h=>h
theorem fc.addP' {n:Nat}{φ':List Addr}{H:Hp}{p:Addr}(hp:p∈φ'):∀ {ds:List D} {vs:List V},mrL n ds->fc φ' H ds vs->fc (φ'.take n++[p]) H ds vs
 | [],_,_,h=>h
 | _::_,_,m,h=>by obtain⟨v,r,e,h1,h2⟩:=h;exact⟨v,r,e,DIs.addP hp m.1 h1,fc.addP' hp m.2 h2⟩
end
def All2 (R:D->D->Prop)(ds es:List D):Prop:=ds.length=es.length/\∀(i:Nat) (a b:D),ds[i]?=some a->es[i]?=some b->R a b
def FrzR (n:Nat)(μ:MS):Nat->D->D->Prop
 | 0,d,d'=>d'=d/\mrB n d
 | k+1,d,d'=>(d'=d/\mrB n d)\/(∃ j ds es,d=.mr j/\n<=j/\μ[j]?=some (.lst ds)/\d'=.lst es/\All2 (FrzR n μ k) ds es)\/(∃ ds es,d=.lst ds/\d'=.lst es/\All2 (FrzR n μ k) ds es)\/(∃ ds es,d=.tup ds/\d'=.tup es/\All2 (FrzR n μ k) ds es)\/(∃ j ks ds es,d=.mr j/\n<=j/\μ[j]?=some (.dic ks ds)/\d'=.dic ks es/\All2 (FrzR n μ k) ds es)
theorem fc.ofGet {φ:List Addr}{H:Hp}:∀ {ds:List D} {vs:List V},ds.length=vs.length->(∀(i:Nat) (d:D) (v:V),ds[i]?=some d->vs[i]?=some v->DIs φ H d v)->fc φ H ds vs
 | [],vs,hl,_=>by cases vs with
  | nil=>rfl
  | cons v r=>simp at hl
 | d::ds,vs,hl,h=>by cases vs with
  | nil=>simp at hl
  | cons v r=>exact⟨v,r,rfl,h 0 d v rfl rfl,fc.ofGet (by simpa using hl) fun i a b e1 e2=>h (i+1) a b (by simpa using e1) (by simpa using e2)⟩
theorem FrzR.is {n:Nat}{φ:List Addr}{H:Hp}{μ:MS}(M:MSis φ H μ)(nin:∀ {j:Nat} {p:Addr},n<=j->φ[j]?=some p->p∉φ.take n):∀ {k:Nat} {d d':D} {v:V},FrzR n μ k d d'->DIs φ H d v->DIs (φ.take n) H d' v:=by
 intro k
 induction k with
 | zero=>intro d d' v h i;obtain⟨rfl,hb⟩:=h;exact i.cutT hb
 | succ k ih =>
  have all:∀ {ds es:List D} {vs:List V},All2 (FrzR n μ k) ds es->fc φ H ds vs->fc (φ.take n) H es vs:=fun {ds es vs} ha hd =>
   fc.ofGet (by rw[hd.len,ha.1]) fun i b v e1 e2=>by
    obtain⟨a,e3,hv⟩:=hd.getV e2
    exact ih (ha.2 i a b e3 e1) hv
  intro d d' v h i
  rcases h with⟨rfl,hb⟩ | ⟨j,ds,es,rfl,hj,e,rfl,ha⟩ | ⟨ds,es,rfl,rfl,ha⟩ | ⟨ds,es,rfl,rfl,ha⟩ | ⟨j,ks,ds,es,rfl,hj,e,rfl,ha⟩
  ·exact i.cutT hb
  ·obtain⟨p,hp,rfl⟩:=i
   obtain⟨p',e1,vs,hv,hd⟩:=M.at_ j _ e
   rw[hp]at e1;cases e1
   exact⟨p,vs,rfl,nin hj hp,hv,all ha hd⟩
  ·obtain⟨p,vs,rfl,hn,hp,hd⟩:=i
   exact⟨p,vs,rfl,fun z=>hn (aW z),hp,all ha hd⟩
  ·obtain⟨p,vs,rfl,hn,hp,hd⟩:=i
   exact⟨p,vs,rfl,fun z=>hn (aW z),hp,all ha hd⟩
  ·obtain⟨p,hp,rfl⟩:=i
   obtain⟨p',e1,eW,vs,hv,h1,h2,hd⟩:=M.at_ j _ e
   rw[hp]at e1;cases e1
   exact⟨p,eW,vs,rfl,nin hj hp,hv,h1,h2,all ha hd⟩
def FrzQ (n:Nat)(μ:MS):Nat->D->D->Prop
 | 0,d,d'=>d'=d/\mrB n d
 | k+1,d,d'=>(d'=d/\mrB n d)\/(∃ j ds es,d=.mr j/\n<=j/\μ[j]?=some (.lst ds)/\d'=.lst es/\All2 (FrzQ n μ k) ds es)\/(∃ ds es,d=.lst ds/\d'=.lst es/\All2 (FrzQ n μ k) ds es)\/(∃ ds es,d=.tup ds/\d'=.tup es/\All2 (FrzQ n μ k) ds es)\/(∃ j o eW ds es,d=.mr j/\n<=j/\μ[j]?=some (.fdic o eW ds)/\d'=.fdc (eW.map (·.1)) es/\All2 (FrzQ n μ k) ds es)\/(∃ j C ns ds es,d=.mr j/\n<=j/\μ[j]?=some (.ins C ns ds)/\d'=.obj C ns es/\All2 (FrzQ n μ k) ds es)
theorem FrzQ.is {n:Nat}{φ:List Addr}{H:Hp}{μ:MS}(M:MSis φ H μ)(nin:∀ {j:Nat} {p:Addr},n<=j->φ[j]?=some p->p∉φ.take n):∀ {k:Nat} {d d':D} {v:V},FrzQ n μ k d d'->DIs φ H d v->DIs (φ.take n) H d' v:=by
 intro k
 induction k with
 | zero=>intro d d' v h i;obtain⟨rfl,hb⟩:=h;exact i.cutT hb
 | succ k ih =>
  have all:∀ {ds es:List D} {vs:List V},All2 (FrzQ n μ k) ds es->fc φ H ds vs->fc (φ.take n) H es vs:=fun {ds es vs} ha hd =>
   fc.ofGet (by rw[hd.len,ha.1]) fun i b v e1 e2=>by
    obtain⟨a,e3,hv⟩:=hd.getV e2
    exact ih (ha.2 i a b e3 e1) hv
  intro d d' v h i
  rcases h with⟨rfl,hb⟩ | ⟨j,ds,es,rfl,hj,e,rfl,ha⟩ | ⟨ds,es,rfl,rfl,ha⟩ | ⟨ds,es,rfl,rfl,ha⟩ | ⟨j,o,eW,ds,es,rfl,hj,e,rfl,ha⟩ | ⟨j,C,ns,ds,es,rfl,hj,e,rfl,ha⟩
  ·exact i.cutT hb
  ·obtain⟨p,hp,rfl⟩:=i
   obtain⟨p',e1,vs,hv,hd⟩:=M.at_ j _ e
   rw[hp]at e1;cases e1
   exact⟨p,vs,rfl,nin hj hp,hv,all ha hd⟩
  ·obtain⟨p,vs,rfl,hn,hp,hd⟩:=i
   exact⟨p,vs,rfl,fun z=>hn (aW z),hp,all ha hd⟩
  ·obtain⟨p,vs,rfl,hn,hp,hd⟩:=i
   exact⟨p,vs,rfl,fun z=>hn (aW z),hp,all ha hd⟩
  ·obtain⟨p,hp,rfl⟩:=i
   obtain⟨p',e1,hv,hd⟩:=M.at_ j _ e
   rw[hp]at e1;cases e1
   exact⟨p,o,eW,_,rfl,nin hj hp,hv,rfl,rfl,all ha hd⟩
  ·obtain⟨p,hp,rfl⟩:=i
   obtain⟨p',e1,dx,fs,hv,h1,hd⟩:=M.at_ j _ e
   rw[hp]at e1;cases e1
   exact⟨p,dx,fs,_,rfl,nin hj hp,hv,h1,rfl,all ha hd⟩
inductive Fz (n:Nat)(K:DK):DK where
 | keep {d μ} (k:K d μ):Fz n K d μ
 | drop {d μ} (hd:mrB n d) (hm:∀(j:Nat) (m:MO),j<n->μ[j]?=some m->moB n m) (k:K d (μ.take n)):Fz n K d μ
 | lst {j ds μ} (hj:n<=j) (e:μ[j]?=some (.lst ds)) (hd:mrL n ds) (hm:∀(j:Nat) (m:MO),j<n->μ[j]?=some m->moB n m) (k:K (.lst ds) (μ.take n)):Fz n K (.mr j) μ
 | one {j ds μ} (hj:n<=j) (e:μ[j]?=some (.lst ds)) (hd:mrL n ds) (hm:∀(j:Nat) (m:MO),j<n->μ[j]?=some m->moB n m) (k:K (.mr n) (μ.take n++[.lst ds])):Fz n K (.mr j) μ
 | deep {f d d' μ} (e:FrzR n μ f d d') (hm:∀(j:Nat) (m:MO),j<n->μ[j]?=some m->moB n m) (k:K d' (μ.take n)):Fz n K d μ
 | dic {j ks ds μ} (hj:n<=j) (e:μ[j]?=some (.dic ks ds)) (hd:mrL n ds) (hm:∀(j:Nat) (m:MO),j<n->μ[j]?=some m->moB n m) (k:K (.dic ks ds) (μ.take n)):Fz n K (.mr j) μ
 | obj {j C ns ds μ} (hj:n<=j) (e:μ[j]?=some (.ins C ns ds)) (hd:mrL n ds) (hm:∀(j:Nat) (m:MO),j<n->μ[j]?=some m->moB n m) (k:K (.obj C ns ds) (μ.take n)):Fz n K (.mr j) μ
 | fdc {j o eW ds μ} (hj:n<=j) (e:μ[j]?=some (.fdic o eW ds)) (hd:mrL n ds) (hm:∀(j:Nat) (m:MO),j<n->μ[j]?=some m->moB n m) (k:K (.fdc (eW.map (·.1)) ds) (μ.take n)):Fz n K (.mr j) μ
 | deepQ {f d d' μ} (e:FrzQ n μ f d d') (hm:∀(j:Nat) (m:MO),j<n->μ[j]?=some m->moB n m) (k:K d' (μ.take n)):Fz n K d μ
theorem Lif.fz {φ:List Addr}{H:Hp}{μ:MS}{K:DK}{Q:VK}(M:MSis φ H μ)(L:Lif φ H K Q):Lif φ H (Fz μ.length K) Q:=fun d μ' φ' v H' k f M' i=>by
 have eφ:φ'.take μ.length=φ:=by
  obtain⟨⟨ψ,rfl,_⟩,_,_⟩:=f
  rw[<- M.len,bW]
 have f0:Fr φ H (φ'.take μ.length) H':=by
  rw[eφ]
  exact⟨⟨[],by simp,fun _ h=>nomatch h⟩,f.keep,f.dom⟩
 have nin:∀ {j:Nat} {p:Addr},μ.length<=j->φ'[j]?=some p->p∉φ'.take μ.length:=fun {j p} hj e hp=>by
  obtain⟨i,hi,ei⟩:=aJ hp
  rw[bu]at hi
  rw[List.getElem_take]at ei
  obtain⟨hj',ej⟩:=gxB e
  exact List.pairwise_iff_getElem.mp M'.nd i j (by omega) hj' (by omega) (ei.trans ej.symm)
 cases k with
 | keep k=>exact L d μ' φ' v H' k f M' i
 | drop hd hm k=>exact L d _ _ v H' k f0 (M'.cutT hm) (i.cutT hd)
 | @lst j ds _ hj e hd hm k =>
  obtain⟨p,hp,rfl⟩:=i
  obtain⟨p',e1,vs,hv,ha⟩:=M'.at_ j _ e
  rw[hp]at e1;cases e1
  exact L _ _ _ _ H' k f0 (M'.cutT hm) ⟨p,vs,rfl,nin hj hp,hv,ha.cutT hd⟩
 | @one j ds _ hj e hd hm k =>
  obtain⟨p,hp,rfl⟩:=i
  obtain⟨p',e1,vs,hv,ha⟩:=M'.at_ j _ e
  rw[hp]at e1;cases e1
  have M0:=M'.cutT hm
  have hpn:p∉φ:=by have:=nin hj hp;rwa [eφ]at this
  have hH:H p=none:=by
   obtain⟨⟨ψ,rfl,hψ⟩,_,_⟩:=f
   refine hψ p ?_
   have q:=gxD hp
   rcases List.mem_append.mp q with q | q
   ·exact absurd q hpn
   ·exact q
  have M1:MSis (φ'.take μ.length) H' (μ'.take μ.length):=M0
  rw[eφ]at M1
  have f1:Fr φ H (φ++[p]) H':=⟨⟨[p],rfl,fun c hc=>by rw[List.mem_singleton.mp hc];exact hH⟩,f.keep,f.dom⟩
  have len:(μ'.take μ.length).length=μ.length:=by rw[<- M1.len,M.len]
  have pin:p∈φ':=gxD hp
  have hdv:fc (φ++[p]) H' ds vs:=by
   have q:=fc.addP' pin hd ha
   rwa [eφ]at q
  have M2:MSis (φ++[p]) H' (μ'.take μ.length++[.lst ds]):=by
   refine⟨?_,by rw[gxE,gxE,M1.len];rfl,fun k m ek=>?_⟩
   ·rw[dX]
    exact⟨M.nd,by simp,fun a ha b hb=>by rw[List.mem_singleton.mp hb];intro z;exact hpn (by rw[<- z];exact ha)⟩
   ·by_cases hk:k<μ.length
    ·rw[gxF (by rw[len];exact hk)]at ek
     rw[bq hk]at ek
     obtain⟨q,e1,e2⟩:=M'.at_ k m ek
     have e1':φ[k]?=some q:=by rw[<- eφ,bq hk];exact e1
     refine⟨q,by rw[gxF (by rw[M.len];exact hk)];exact e1',?_⟩
     have hb:=hm k m hk ek
     cases m with
     | box =>
      obtain⟨b,ns,i,r,z,h1,h2,h3,h4⟩:=e2
      exact⟨b,ns,i,r,z,h1,h2,by have:=notin_addP (n:=μ.length) pin h3;rwa [eφ]at this,h4⟩
     | lst es=>obtain⟨us,h1,h2⟩:=e2;exact⟨us,h1,by have:=fc.addP' pin hb h2;rwa [eφ]at this⟩
     | dic ks es=>obtain⟨eW,us,h1,h2,h3,h4⟩:=e2;exact⟨eW,us,h1,h2,h3,by have:=fc.addP' pin hb h4;rwa [eφ]at this⟩
     | fdic o eW es=>exact⟨e2.1,by have:=fc.addP' pin hb e2.2;rwa [eφ]at this⟩
     | ins C ns es=>obtain⟨dx,fs,h1,h2,h3⟩:=e2;exact⟨dx,fs,h1,h2,by have:=fc.addP' pin hb h3;rwa [eφ]at this⟩
     | dtu ks es=>obtain⟨eW,h1,h2,h3⟩:=e2;exact⟨eW,h1,h2,by have:=fc.addP' pin hb h3;rwa [eφ]at this⟩
     | gx φ0 H0=>exact⟨by have:=e2.1.takeP (n:=μ.length) hb (p:=p) (e2.1.late (aL hb hj) hp);rwa [eφ]at this,e2.2⟩
     | exc c=>exact e2
    ·have hk':k=μ.length:=by
      have:=(gxB ek).1
      rw[gxE,bE,len]at this
      omega
     subst hk'
     rw[gxG (by rw[len];exact ae _),len,aO]at ek
     cases ek
     exact⟨p,by rw[gxG (by rw[M.len];exact ae _),M.len,aO];rfl,vs,hv,hdv⟩
  exact L _ _ _ _ H' k f1 M2 ⟨p,by rw[gxG (by rw[M.len];exact ae _),M.len,aO];rfl,rfl⟩
 | @deep f' d d' _ e hm k=>exact L _ _ _ _ H' k f0 (M'.cutT hm) (e.is M' nin i)
 | @dic j ks ds _ hj e hd hm k =>
  obtain⟨p,hp,rfl⟩:=i
  obtain⟨p',e1,eW,vs,hv,h1,h2,ha⟩:=M'.at_ j _ e
  rw[hp]at e1;cases e1
  exact L _ _ _ _ H' k f0 (M'.cutT hm) ⟨p,eW,vs,rfl,nin hj hp,hv,h1,h2,ha.cutT hd⟩
 | @obj j C ns ds _ hj e hd hm k =>
  obtain⟨p,hp,rfl⟩:=i
  obtain⟨p',e1,dx,fs,h1,h2,h3⟩:=M'.at_ j _ e
  rw[hp]at e1;cases e1
  exact L _ _ _ _ H' k f0 (M'.cutT hm) ⟨p,dx,fs,_,rfl,nin hj hp,h1,h2,rfl,h3.cutT hd⟩
 | @fdc j o eW ds _ hj e hd hm k =>
  obtain⟨p,hp,rfl⟩:=i
  obtain⟨p',e1,h1,h3⟩:=M'.at_ j _ e
  rw[hp]at e1;cases e1
  exact L _ _ _ _ H' k f0 (M'.cutT hm) ⟨p,o,eW,_,rfl,nin hj hp,h1,rfl,rfl,h3.cutT hd⟩
 | @deepQ f' d d' _ e hm k=>exact L _ _ _ _ H' k f0 (M'.cutT hm) (e.is M' nin i)
def retN (n:Nat)(K:DK):DN:={ nx:=fun _ μ'=>Fz n K .non μ',rt:=fun d μ'=>Fz n K d μ'}
def startE (N:List Str)(ds:List D):DE:=ds.map some++List.replicate (N.length - ds.length) none
theorem DEnv.start {φ:List Addr}{H:Hp}{N:List Str}{ds:List D}{vs:List V}(h:fc φ H ds vs):DEnv φ H (startE N ds) (start N vs):=by
 have hl:=h.len
 unfold startE L2.start
 refine⟨by simp[hl],fun i d e=>?_⟩
 by_cases hi:i<ds.length
 ·rw[gxF (by rw[gxC];exact hi),gxH]at e
  have e':ds[i]?=some d:=by
   cases q:ds[i]? with
   | none=>rw[q]at e;cases e
   | some z=>rw[q]at e;cases e;rfl
  obtain⟨v,hv,hd⟩:=h.get e'
  exact⟨v,by rw[gxF (by rw[gxC];omega),gxH,hv];rfl,hd⟩
 ·rw[gxG (by rw[gxC];omega)]at e
  have:=gxD e
  have:=List.eq_of_mem_replicate this
  cases this
section
variable {P:Program}{w:World}{K:PySem.W.Frag}{mg:Str->Option Value}{base:Heap}
theorem Fun.okD {x qual:Str}{st:Stmt}{f:Addr}{fd:FuncData}{N ps:List Str}{k:Nat}{fs:DSp}(F:Fun K x qual st f fd)(S:FnScope N ps (eV st))(len:∀ ds μ Kd,fs ds μ Kd->ds.length=ps.length)
 (hbody:∀(cdv:Value) (A:Around) (outer:List Env) (s:Shared) (H:Hp) (E:XK),Room k (A.deeper (envOfC qual (eV st) s.heap.objs.size f cdv)) ->
   ∃ W,PDB (cxOf CX0 P w K mg base N qual (eV st) f cdv A outer s H E).nox (defBody st) W/\∀ ds μ Kd,(∀(j:Nat) (m:MO),μ[j]?=some m->moB μ.length m)->mrL μ.length ds->fs ds μ Kd->W (retN μ.length Kd) (startE N ds) μ):FnOk P w K mg base CX0 (k+1) f fd ps (spD fs):=by
 refine F.ok S (fun vs H Q E h=>?_) (fun cdv A outer s H vs Q E hr h=>?_)
 ·obtain⟨φ,ds,μ,Kd,ha,M,hf,L⟩:=h
  rw[ha.len];exact len ds μ Kd hf
 ·obtain⟨φ,ds,μ,Kd,ha,M,hf,L⟩:=h
  obtain⟨W,hW,q⟩:=hbody cdv A outer s H E hr
  refine⟨_,hW,φ,startE N ds,μ,retN μ.length Kd,.start ha,M,q ds μ Kd M.bound (by rw[<- M.len];exact ha.bound) hf,⟨fun ρ' μ' φ' σ' H' k' f' A' M'=>?_,L.fz M,fun _ _ _ _ _ k' _ _ _=>k'.elim,fun _ _ _ _ _ k' _ _ _=>k'.elim⟩⟩
  exact L.fz M .non μ' φ' .non H' k' f' M' rfl
end
end L2
namespace L2
open PySem PySem.Spec PyProof.Rows
section
variable {prog:Program}{w:World}{A:Around}{E:Value->Shared->Prop}{s:Shared}
variable {c:Bool}{z TI TO i1 i2 l1 l2:Addr}{k1 k2:Nat}{xs ys:Array Value}{x y a b:Value}
theorem wpAny_alive {a:Addr}{Q:Option Obj->Shared->Prop}(h:Q (s.heap.get? a) s):wpAny (model prog w) A (loadIfAlive a) Q E s:=fun Γ p _=>by
 show Sem.wp _ Γ (.loadIfAlive a .pure) _ _ p s
 rw[Sem.wp_loadIfAlive];exact h
theorem zip_over2 {Q:Fin->Shared->Prop}(hh:A.handled=none)(D:ZipApart z TI TO i1 i2 l1 l2)(S:ZS c z TI TO i1 i2 l1 l2 .none a b k1 k2 xs ys s.heap)(hx:xs[k1]?=some x)(hy:ys[k2]?=none)
 (hE:∀ h' e,ZK z TO i1 i2 s.heap h'->(∃ o,h'.get? e=some o/\o.cls=.type "StopIteration")->E (.ref e) { s with heap:=h'}) :
 wpAny (model prog w) A (Builtin.«zip.__next__» ⟨[.ref z],[]⟩) Q E s:=by
 refine e9 (aa (e9 (aA S.z rfl (x:=.bool false) rfl (e9 (aA S.z rfl (x:=.ref TI) rfl (e9 (aP S.ti rfl ?_)))))))
 refine e9 (m:=Builtin.SmallTypes.ownedTupleIsFree (.ref z)) (e9 (aA S.z rfl (x:=.none) rfl (aa ?_)))
 refine e9 (c5 (e9 (aA S.z rfl (x:=.ref TO) rfl (e9 (aK S.z (by simp) fun g1 e1 t1=>?_)))))
 have S1:=S.mz D (f':=.ellipsis) e1 t1.extBut
 refine e9 ?_
 rw[show(#[Value.ref i1,Value.ref i2]:Array Value).toList.zipIdx=[(.ref i1,0),(.ref i2,1)]from rfl,a8]
 refine e9 (e9 (cm (e9 (nextG_item S1.n1 S1.q1 hx fun g2 e2 t2=>aa ?_))))
 have S2:=S1.m1 D e2 t2.extBut
 refine e9 (aP S2.to rfl (e9 (cq S2.to fun g3 e3 t3=>e9 (cu (aa ?_)))))
 have S3:=S2.mo D (x:=x) (y:=b) e3 t3.extBut
 dsimp only
 rw[a8]
 refine e9 (e9 (cm (e9 (nextG_end hh S3.n2 S3.q2 hy fun g4 e t4 he=>?_))))
 obtain⟨oe,hoe,hce⟩:=he
 have hz2:IsZip g4 z TI TO .ellipsis:=t4 _ _ D.i2z.symm S3.z
 have hez:e≠z:=fun q=>by subst q;rw[hz2]at hoe;cases hoe;simp at hce
 exact aK hz2 (by simp) fun g5 _ t5=>hE g5 e ((((((zk_z t1.extBut).trans (zk_1 t2.extBut)).trans (zk_o t3.extBut)).trans (zk_2 t4))).trans (zk_z t5.extBut)) ⟨oe,t5.extBut _ _ hez hoe,hce⟩
theorem zip_end2 {Q:Option Value->Shared->Prop}(hh:A.handled=none)(D:ZipApart z TI TO i1 i2 l1 l2)(S:ZS c z TI TO i1 i2 l1 l2 .none a b k1 k2 xs ys s.heap)(hx:xs[k1]?=none\/ys[k2]?=none)
 (hQ:∀ h',ZK z TO i1 i2 s.heap h'->Q none { s with heap:=h'}):wpAny (model prog w) A (pyNext (.ref z)) Q E s:=by
 cases e1:xs[k1]? with
 | none=>exact zip_end hh D S e1 hQ
 | some x =>
  have hy:ys[k2]?=none:=by
   rcases hx with q | q
   ·rw[e1]at q;cases q
   ·exact q
  have ty:s.TypeIs (.ref z) "zip":=⟨_,S.z,rfl⟩
  unfold pyNext
  refine e9 (cW (ba (name:=Str.ofString "__next__") ty bC (bM bC ty cD (zip_over2 hh D S e1 hy fun h' e hk he=>?_) (cy _))))
  obtain⟨o,ho,hc⟩:=he
  exact e9 (eI (T := "StopIteration") (b:=true) ⟨o,ho,hc⟩ isSubtype_stop (aa (hQ _ hk)))
def IsZipB (h:Heap)(z TI TO:Addr)(T0:Addr)(bb:Bool):Prop:=h.get? z=some { cls:=.type "zip",data:=.fields #[rawInt T0,.bool bb,.bool false,.ref TI,.ref TO]}
structure ZB (c:Bool)(z TI TO i1 i2 l1 l2 T0:Addr)(k1 k2:Nat)(xs ys:Array Value)(h:Heap):Prop where
 az:T0≠z/\T0≠i1/\T0≠i2
 z:∃ bb,IsZipB h z TI TO T0 bb
 ti:IsPair h TI (.ref i1) (.ref i2)
 n1:ItOf c h i1 l1 k1
 n2:ItOf c h i2 l2 k2
 q1:SqOf c h l1 xs
 q2:SqOf c h l2 ys
 al:∃ o,h.get? T0=some o
 to:∃ o,h.get? TO=some o
theorem zb_turn {Q:Value->Shared->Prop}{T0:Addr}(D:ZipApart z TI TO i1 i2 l1 l2)(S:ZB c z TI TO i1 i2 l1 l2 T0 k1 k2 xs ys s.heap)(hx:xs[k1]?=some x)(hy:ys[k2]?=some y)
 (hQ:∀ h',ZB c z TI TO i1 i2 l1 l2 T0 (k1+1) (k2+1) xs ys h'->IsPair h' s.heap.objs.size x y->ZK z TO i1 i2 s.heap h'->Q (.ref s.heap.objs.size) { s with heap:=h'}) :
 wpAny (model prog w) A (Builtin.«zip.__next__» ⟨[.ref z],[]⟩) (fun fin s'=>∃ v,fin=.done (.ret v)/\Q v s') E s:=by
 obtain⟨bb,hz⟩:=S.z
 obtain⟨oT,hT0⟩:=S.al
 refine e9 (aa (e9 (aA hz rfl (x:=.bool false) rfl (e9 (aA hz rfl (x:=.ref TI) rfl (e9 (aP S.ti rfl ?_)))))))
 refine e9 (m:=Builtin.SmallTypes.ownedTupleIsFree (.ref z)) (e9 (aA hz rfl (x:=rawInt T0) rfl ?_))
 show wpAny _ _ (loadIfAlive T0 >>= _) _ _ s
 refine e9 (wpAny_alive ?_)
 rw[hT0]
 show wpAny _ _ (field (.ref z) 1 >>= _) _ _ s
 refine e9 (aA hz rfl (x:=.bool bb) rfl ?_)
 have go:∃ g1:Heap,IsZipB g1 z TI TO T0 true/\Heap.SameBut z s.heap g1/\∀(Q':Bool->Shared->Prop),Q' false { s with heap:=g1}->wpAny (model prog w) A (if(Value.bool bb != Value.bool true)=true then(setField (Value.ref z) 1 (Value.bool true) >>= fun _=>pure false)else pure false) Q' E s:=by
  cases bb with
  | true=>exact⟨s.heap,hz,⟨rfl,fun _ _=>rfl⟩,fun Q' q=>aa q⟩
  | false=>exact⟨s.heap.update z (Obj.mapFields (·.setIfInBounds 1 (.bool true))),bc _ hz rfl,de ..,fun Q' q=>e9 (cR hz rfl (by simp) (aa q))⟩
 obtain⟨g1,z1,t1,run⟩:=go
 refine run _ ?_
 have n1:=S.n1.extBut t1.extBut D.i1z
 have n2:=S.n2.extBut t1.extBut D.i2z
 have q1:=S.q1.extBut t1.extBut D.l1z
 have q2:=S.q2.extBut t1.extBut D.l2z
 show wpAny _ _ (forIn (#[Value.ref i1,Value.ref i2]:Array Value) (none,#[]) _ >>= _) _ _ _
 rw[<- dD]
 refine e9 ?_
 rw[show(#[Value.ref i1,Value.ref i2]:Array Value).toList=[.ref i1,.ref i2]from rfl,a8]
 refine e9 (e9 (bp (e9 (nextG_item (s:={ s with heap:=g1}) n1 q1 hx fun g2 e2 t2=>aa (aa ?_)))))
 dsimp only
 rw[a8]
 have n2':=n2.extBut t2.extBut D.i12.symm
 have q2':=q2.extBut t2.extBut D.l2i1
 refine e9 (e9 (bp (e9 (nextG_item (s:={ s with heap:=g2}) n2' q2' hy fun g3 e3 t3=>aa (aa ?_)))))
 dsimp only
 rw[c7]
 refine aa (e9 (dJ (aa ⟨_,rfl,?_⟩) (by show 2<=sizeLine;decide)))
 have sz:g3.objs.size=s.heap.objs.size:=t3.1.trans (t2.1.trans t1.1)
 show Q (.ref g3.objs.size) _
 have kk:ZK z TO i1 i2 s.heap (g3.push { cls:=.type "tuple",data:=.seq #[x,y]}):=(((zk_z t1.extBut).trans (zk_1 t2.extBut)).trans (zk_2 t3.extBut)).trans fun d o _ _ _ _ e=>gxL _ e
 have hT:IsPair (g3.push { cls:=.type "tuple",data:=.seq #[x,y]}) g3.objs.size x y:=ak _ rfl
 rw[sz]at hT ⊢
 have pu:∀ {d:Addr} {o:Obj},g3.get? d=some o->(g3.push { cls:=.type "tuple",data:=.seq #[x,y]}).get? d=some o:=fun e=>gxL _ e
 refine hQ _ ⟨S.az,⟨true,pu (t3.extBut _ _ D.i2z.symm (t2.extBut _ _ D.i1z.symm z1))⟩,pu (t3.extBut _ _ D.TIi2 (t2.extBut _ _ D.TIi1 (t1.extBut _ _ D.TIz S.ti))),(e2.extBut t3.extBut D.i12).at fun _ e=>pu e,e3.at fun _ e=>pu e,
  (((q1.extBut t2.extBut D.l1i1).extBut t3.extBut D.l1i2)).extBut (b:=g3.objs.size) (fun _ _ _ e=>pu e) (((q1.extBut t2.extBut D.l1i1).extBut t3.extBut D.l1i2).lt),((q2'.extBut t3.extBut D.l2i2)).extBut (b:=g3.objs.size) (fun _ _ _ e=>pu e) ((q2'.extBut t3.extBut D.l2i2).lt),⟨oT,pu (t3.extBut _ _ S.az.2.2 (t2.extBut _ _ S.az.2.1 (t1.extBut _ _ S.az.1 hT0)))⟩,(let ⟨o,e⟩:=S.to;⟨o,pu (t3.extBut _ _ D.TOi2 (t2.extBut _ _ D.TOi1 (t1.extBut _ _ D.TOz e)))⟩)⟩ hT kk
theorem zb_over {Q:Fin->Shared->Prop}{T0:Addr}(hh:A.handled=none)(D:ZipApart z TI TO i1 i2 l1 l2)(S:ZB c z TI TO i1 i2 l1 l2 T0 k1 k2 xs ys s.heap)(hx:xs[k1]?=none\/ys[k2]?=none)
 (hE:∀ h' e,ZK z TO i1 i2 s.heap h'->(∃ o,h'.get? e=some o/\o.cls=.type "StopIteration")->E (.ref e) { s with heap:=h'}) :
 wpAny (model prog w) A (Builtin.«zip.__next__» ⟨[.ref z],[]⟩) Q E s:=by
 obtain⟨bb,hz⟩:=S.z
 obtain⟨oT,hT0⟩:=S.al
 refine e9 (aa (e9 (aA hz rfl (x:=.bool false) rfl (e9 (aA hz rfl (x:=.ref TI) rfl (e9 (aP S.ti rfl ?_)))))))
 refine e9 (m:=Builtin.SmallTypes.ownedTupleIsFree (.ref z)) (e9 (aA hz rfl (x:=rawInt T0) rfl ?_))
 show wpAny _ _ (loadIfAlive T0 >>= _) _ _ s
 refine e9 (wpAny_alive ?_)
 rw[hT0]
 show wpAny _ _ (field (.ref z) 1 >>= _) _ _ s
 refine e9 (aA hz rfl (x:=.bool bb) rfl ?_)
 have go:∃ g1:Heap,IsZipB g1 z TI TO T0 true/\Heap.SameBut z s.heap g1/\∀(Q':Bool->Shared->Prop),Q' false { s with heap:=g1}->wpAny (model prog w) A (if(Value.bool bb != Value.bool true)=true then(setField (Value.ref z) 1 (Value.bool true) >>= fun _=>pure false)else pure false) Q' E s:=by
  cases bb with
  | true=>exact⟨s.heap,hz,⟨rfl,fun _ _=>rfl⟩,fun Q' q=>aa q⟩
  | false=>exact⟨s.heap.update z (Obj.mapFields (·.setIfInBounds 1 (.bool true))),bc _ hz rfl,de ..,fun Q' q=>e9 (cR hz rfl (by simp) (aa q))⟩
 obtain⟨g1,z1,t1,run⟩:=go
 refine run _ ?_
 have n1:=S.n1.extBut t1.extBut D.i1z
 have n2:=S.n2.extBut t1.extBut D.i2z
 have q1:=S.q1.extBut t1.extBut D.l1z
 have q2:=S.q2.extBut t1.extBut D.l2z
 show wpAny _ _ (forIn (#[Value.ref i1,Value.ref i2]:Array Value) (none,#[]) _ >>= _) _ _ _
 rw[<- dD]
 refine e9 ?_
 rw[show(#[Value.ref i1,Value.ref i2]:Array Value).toList=[.ref i1,.ref i2]from rfl,a8]
 cases ex:xs[k1]? with
 | none=>exact e9 (e9 (bp (e9 (nextG_end (s:={ s with heap:=g1}) hh n1 q1 ex fun g2 e t2 he=>hE g2 e ((zk_z t1.extBut).trans (zk_1 t2)) he))))
 | some x =>
  have hy:ys[k2]?=none:=by
   rcases hx with q | q
   ·rw[ex]at q;cases q
   ·exact q
  refine e9 (e9 (bp (e9 (nextG_item (s:={ s with heap:=g1}) n1 q1 ex fun g2 e2 t2=>aa (aa ?_)))))
  dsimp only
  rw[a8]
  have n2':=n2.extBut t2.extBut D.i12.symm
  have q2':=q2.extBut t2.extBut D.l2i1
  exact e9 (e9 (bp (e9 (nextG_end (s:={ s with heap:=g2}) hh n2' q2' hy fun g3 e t3 he=>hE g3 e (((zk_z t1.extBut).trans (zk_1 t2.extBut)).trans (zk_2 t3)) he))))
theorem zb_item {Q:Option Value->Shared->Prop}{T0:Addr}(D:ZipApart z TI TO i1 i2 l1 l2)(S:ZB c z TI TO i1 i2 l1 l2 T0 k1 k2 xs ys s.heap)(hx:xs[k1]?=some x)(hy:ys[k2]?=some y)
 (hQ:∀ h',ZB c z TI TO i1 i2 l1 l2 T0 (k1+1) (k2+1) xs ys h'->IsPair h' s.heap.objs.size x y->ZK z TO i1 i2 s.heap h'->Q (some (.ref s.heap.objs.size)) { s with heap:=h'}) :
 wpAny (model prog w) A (pyNext (.ref z)) Q E s:=by
 have ty:s.TypeIs (.ref z) "zip":=let ⟨_,q⟩:=S.z;⟨_,q,rfl⟩
 unfold pyNext
 exact e9 (cW (ba (name:=Str.ofString "__next__") ty bC (bM bC ty cD (zb_turn D S hx hy fun h' a1 a2 a3=>aa (hQ h' a1 a2 a3)) (cy _))))
theorem zb_end {Q:Option Value->Shared->Prop}{T0:Addr}(hh:A.handled=none)(D:ZipApart z TI TO i1 i2 l1 l2)(S:ZB c z TI TO i1 i2 l1 l2 T0 k1 k2 xs ys s.heap)(hx:xs[k1]?=none\/ys[k2]?=none)
 (hQ:∀ h',ZK z TO i1 i2 s.heap h'->Q none { s with heap:=h'}):wpAny (model prog w) A (pyNext (.ref z)) Q E s:=by
 have ty:s.TypeIs (.ref z) "zip":=let ⟨_,q⟩:=S.z;⟨_,q,rfl⟩
 unfold pyNext
 refine e9 (cW (ba (name:=Str.ofString "__next__") ty bC (bM bC ty cD (zb_over hh D S hx fun h' e hk he=>?_) (cy _))))
 obtain⟨o,ho,hc⟩:=he
 exact e9 (eI (T := "StopIteration") (b:=true) ⟨o,ho,hc⟩ isSubtype_stop (aa (hQ _ hk)))
end
def Itz2 (c:Bool)(a1 a2:Addr):It:={ Itz c a1 a2 with stop:=fun i H=>∃ xs ys,SqC c H a1 xs/\SqC c H a2 ys/\(xs.length<=i\/ys.length<=i)}
theorem turn_zip2 {P:Program}{w:World}{K:PySem.W.Frag}{elts:List Expr}{kk:Nat}{tpos:Pos}{c:Bool}{z TI TO i1 i2 l1 l2:Addr}(D:ZipApart z TI TO i1 i2 l1 l2) :
 Turn P w K (.Tuple elts kk tpos) (Itz2 c l1 l2) [z,TI,TO,i1,i2] z (fun i h=>IsZip h z TI TO .none/\IsPair h TI (.ref i1) (.ref i2)/\(∃ a b,IsPair h TO a b)/\ItOf c h i1 l1 i/\ItOf c h i2 l2 i) where
 mem:=(turn_zip (P:=P) (w:=w) (K:=K) (elts:=elts) (kk:=kk) (tpos:=tpos) (c:=c) D).mem
 obj:=(turn_zip (P:=P) (w:=w) (K:=K) (elts:=elts) (kk:=kk) (tpos:=tpos) (c:=c) D).obj
 keep:=(turn_zip (P:=P) (w:=w) (K:=K) (elts:=elts) (kk:=kk) (tpos:=tpos) (c:=c) D).keep
 item:=(turn_zip (P:=P) (w:=w) (K:=K) (elts:=elts) (kk:=kk) (tpos:=tpos) (c:=c) D).item
 self:=(turn_zip (P:=P) (w:=w) (K:=K) (elts:=elts) (kk:=kk) (tpos:=tpos) (c:=c) D).self
 done:=by
  intro X hP hw hK hc i pins s σ H E I hf st hg
  subst hP hw hK
  obtain⟨hz,hTI,⟨a,b',hTO⟩,h1,h2⟩:=st
  obtain⟨xs,ys,q1,q2,hx⟩:=hg
  obtain⟨us,r1,p1⟩:=q1.val I
  obtain⟨ws,r2,p2⟩:=q2.val I
  have hl:=r1.length
  have hl2:=r2.length
  refine zip_end2 (I.ok.hd hc) D ⟨hz,hTI,hTO,h1,h2,p1,p2⟩ (by simp;omega) fun h' hk=>⟨rfl,?_⟩
  exact I.turnK (ch:=[z,TO,i1,i2]) (fun b hb=>hf b (by
   simp only[aH,aw,bz]at hb ⊢
   rcases hb with q | q | q | q <;> simp[q])) fun b o hb e=>hk b o (fun q=>hb (by simp[q])) (fun q=>hb (by simp[q])) (fun q=>hb (by simp[q])) (fun q=>hb (by simp[q])) e
def iZip2 (ta:TA):TI:=fun σ H R=>ta σ H fun vs H1=>match vs with
 | [.ref a,.ref b]=>∃(c:Bool) (xs ys:List V),SqC c H1 a xs/\SqC c H1 b ys/\R (Itz2 c a b) H1
 | _=>False
theorem pi_zip2 {X:Cx}{elts:List Expr}{kk:Nat}{tpos:Pos}{a b:Expr}{ta:TA}{p pos:Pos}(hg:Gl X "zip")(hm:X.mg "zip"=none)(ha:PA X [a,b] ta)(hs:starEach [a,b] X.env=[(false,eval a X.env),(false,eval b X.env)]:=by rfl)(hs2:starEach [b] X.env=[(false,eval b X.env)]:=by rfl) :
 PI X (.Tuple elts kk tpos) (.Call (.Name "zip" p) [a,b] [] pos) (iZip2 ta):=by
 intro pins s σ H R I h
 refine Call_ (ld_blt I hg hm boot_zip (bg (thn (ha pos pins s σ H _ I h) fun us s1 hq6=>?_) (by rw[hs,hs2]) (by rw[hs2];rfl)))
 obtain⟨vs,H1,I1,r1,q1⟩:=hq6
 try dsimp only at q1
 split at q1
 ·rename_i l1 l2
  obtain⟨c,xs,ys,q1,q2,q⟩:=q1
  obtain⟨u1,u2,rfl,e1,e2⟩:=r1.two
  cases e1;cases e2
  obtain⟨us,r1,p1⟩:=q1.val I1
  obtain⟨ws,r2,p2⟩:=q2.val I1
  have lt:∀ {l:Addr} {o:HO},H1 l=some o->l<s1.heap.objs.size:=fun e=>I1.hok.lt e
  obtain⟨o1,w1⟩:=q1.ex
  obtain⟨o2,w2⟩:=q2.ex
  refine zip_made p1 p2 fun h' hz hTI hTO n1 n2 kp=>cC hz ?_
  have I2:Inv X pins σ H1 { s1 with heap:=h'}:=I1.kept (t':=s1.toks) kp
  refine⟨s1.heap.objs.size+4,_,_,_,H1,rfl,I2,turn_zip2 (c:=c) (zipApart_new (lt w1) (lt w2)),⟨hz,hTI,⟨_,_,hTO⟩,n1,n2⟩,fun b hb=>?_,q⟩
  have hb':s1.heap.objs.size<=b:=by
   simp only[aH,aw,bz]at hb
   rcases hb with e | e | e | e | e <;> subst e
   ·exact aM ..
   ·exact aM ..
   ·exact aM ..
   ·exact ae _
   ·exact aM ..
  exact I1.fpOk hb' (I1.hok.fresh hb')
 ·exact q1.elim
theorem zip_no_len:typeLookup (.type "zip") "__len__"=pure none:=by rw[typeLookup_type,builtinLookup_eq_fast];kernel_rfl
theorem zip_no_hint:typeLookup (.type "zip") "__length_hint__"=pure none:=by rw[typeLookup_type,builtinLookup_eq_fast];kernel_rfl
def ZAt (z TI TO i1 i2 l1 l2:Addr)(i:Nat)(xs ys:Array Value)(h:Heap):Prop :=
 (i=0/\∃ a b,ZS false z TI TO i1 i2 l1 l2 .none a b 0 0 xs ys h)\/∃ T0,ZB false z TI TO i1 i2 l1 l2 T0 i i xs ys h
theorem ZAt.next {P:Program}{w:World}{A:Around}{s:Shared}{E:Value->Shared->Prop}{z TI TO i1 i2 l1 l2:Addr}{i:Nat}{xs ys:Array Value}{x y:Value}{Q:Option Value->Shared->Prop}(Z:ZAt z TI TO i1 i2 l1 l2 i xs ys s.heap)(D:ZipApart z TI TO i1 i2 l1 l2)(hx:xs[i]?=some x)(hy:ys[i]?=some y)
 (hQ:∀ h',ZAt z TI TO i1 i2 l1 l2 (i+1) xs ys h'->IsPair h' s.heap.objs.size x y->ZK z TO i1 i2 s.heap h'->Q (some (.ref s.heap.objs.size)) { s with heap:=h'}):wpAny (model P w) A (pyNext (.ref z)) Q E s:=by
 rcases Z with⟨rfl,a,b,S⟩ | ⟨T0,S⟩
 ·refine zip_item D S hx hy fun h' S' hT kk=>hQ h' (.inr ⟨s.heap.objs.size,⟨?_,?_,?_⟩,⟨false,S'.z⟩,S'.ti,S'.n1,S'.n2,S'.q1,S'.q2,⟨_,hT⟩,⟨_,S'.to⟩⟩) hT kk
  ·exact aU (gxN S.z)
  ·obtain⟨o,e⟩:=S.n1.ex;exact aU (gxN e)
  ·obtain⟨o,e⟩:=S.n2.ex;exact aU (gxN e)
 ·exact zb_item D S hx hy fun h' S' hT kk=>hQ h' (.inr ⟨T0,S'⟩) hT kk
theorem ZAt.over {P:Program}{w:World}{A:Around}{s:Shared}{E:Value->Shared->Prop}{z TI TO i1 i2 l1 l2:Addr}{i:Nat}{xs ys:Array Value}{Q:Option Value->Shared->Prop}(hh:A.handled=none)(Z:ZAt z TI TO i1 i2 l1 l2 i xs ys s.heap)(D:ZipApart z TI TO i1 i2 l1 l2)(hx:xs[i]?=none\/ys[i]?=none)
 (hQ:∀ h',ZK z TO i1 i2 s.heap h'->Q none { s with heap:=h'}):wpAny (model P w) A (pyNext (.ref z)) Q E s:=by
 rcases Z with⟨rfl,a,b,S⟩ | ⟨T0,S⟩
 ·exact zip_end2 hh D S hx hQ
 ·exact zb_end hh D S hx hQ
theorem ZAt.but {z TI TO i1 i2 l1 l2 S:Addr}{i:Nat}{xs ys:Array Value}{h h':Heap}(Z:ZAt z TI TO i1 i2 l1 l2 i xs ys h)(e:Heap.ExtBut S h h')(n:S∉[z,TI,TO,i1,i2,l1,l2])(nT:∀ o,h.get? S=some o->o.cls=.type "list")(nT':∃ o,h'.get? S=some o):ZAt z TI TO i1 i2 l1 l2 i xs ys h':=by
 simp only[aH,aw,bz,not_or]at n
 obtain⟨n1,n2,n3,n4,n5,n6,n7⟩:=n
 rcases Z with⟨rfl,a,b,Sz⟩ | ⟨T0,Sz⟩
 ·exact .inl ⟨rfl,a,b,e _ _ (aY n1) Sz.z,e _ _ (aY n2) Sz.ti,e _ _ (aY n3) Sz.to,Sz.n1.extBut e (aY n4),Sz.n2.extBut e (aY n5),Sz.q1.extBut e (aY n6),Sz.q2.extBut e (aY n7)⟩
 ·obtain⟨bb,hz⟩:=Sz.z
  refine .inr ⟨T0,Sz.az,⟨bb,e _ _ (aY n1) hz⟩,e _ _ (aY n2) Sz.ti,Sz.n1.extBut e (aY n4),Sz.n2.extBut e (aY n5),Sz.q1.extBut e (aY n6),Sz.q2.extBut e (aY n7),?_,(let ⟨o,q⟩:=Sz.to;⟨o,e _ _ (aY n3) q⟩)⟩
  obtain⟨o,ho⟩:=Sz.al
  by_cases hT:T0=S
  ·subst hT;exact nT'
  ·exact⟨o,e _ _ hT ho⟩
section
variable {X:Cx}{pins:List (Addr×Obj)}{σ:St}
def PrsAt (H:Hp)(xs ys:List V)(us:List V):Prop:=∀(i:Nat) (u:V),us[i]?=some u->∃ T x y,u=V.ref T/\H T=some (.tup [x,y])/\xs[i]?=some x/\ys[i]?=some y
theorem PrsAt.same {H H':Hp}{xs ys us:List V}(h:PrsAt H xs ys us)(s:Same H H'):PrsAt H' xs ys us:=fun i u e=>let ⟨T,x,y,a,b,c⟩:=h i u e;⟨T,x,y,a,s _ _ b,c⟩
theorem zip_fill {A:Around}{R:Result->Shared->Prop}{z TI TO i1 i2 l1 l2 S:Addr}{H0:Hp}{xs ys:List V}{xv yv:List Value}{res:Value}(hh:A.handled=none)(D:ZipApart z TI TO i1 i2 l1 l2)(rx:Vals xs xv)(ry:Vals ys yv)(hz1:xs.length<=sizeLine)
 (nS:S∉[z,TI,TO,i1,i2,l1,l2])
 (hR:∀ s' H' us fw c,Inv X pins σ H' s'->Same H0 H'->H' S=none->s'.heap.get? S=some (lobj fw c)->Vals us fw->us.length=min xs.length ys.length->PrsAt H' xs ys us->R (.ok (.ret res)) s') :
 ∀(k i:Nat) (s:Shared) (H:Hp) (us:List V) (fw:List Value) (c:Nat),min xs.length ys.length - i=k->i<=min xs.length ys.length->us.length=i->Inv X pins σ H s->Same H0 H->(∀ b∈[z,TO,i1,i2,S],FpOk X pins H b)->s.heap.get? S=some (lobj fw c)->Vals us fw->PrsAt H xs ys us ->
  ZAt z TI TO i1 i2 l1 l2 i xv.toArray yv.toArray s.heap->codeAny (model X.prog X.w) A (.builtin "list.extend.loop" ⟨[.ref S,.ref z,res],[]⟩) R s:=by
 have lx:=rx.length
 have ly:=ry.length
 have nS':S≠z/\S≠TO/\S≠i1/\S≠i2:=by
  simp only[aH,aw,bz,not_or]at nS
  exact⟨nS.1,nS.2.2.1,nS.2.2.2.1,nS.2.2.2.2.1⟩
 have zk:∀ {h h':Heap},ZK z TO i1 i2 h h'->∀ b o,b∉[z,TO,i1,i2]->h.get? b=some o->h'.get? b=some o:=fun kk b o hb e=>kk b o (fun q=>hb (by simp[q])) (fun q=>hb (by simp[q])) (fun q=>hb (by simp[q])) (fun q=>hb (by simp[q])) e
 have sub:∀ b∈[z,TO,i1,i2],b∈[z,TO,i1,i2,S]:=fun b hb=>by
  simp only[aH,aw,bz]at hb ⊢
  rcases hb with q | q | q | q <;> simp[q]
 have SnI:S∉[z,TO,i1,i2]:=by
  simp only[aH,aw,bz,not_or]
  exact⟨nS'.1,nS'.2.1,nS'.2.2.1,nS'.2.2.2⟩
 intro k
 induction k with
 | zero =>
  intro i s H us fw c hk hi hu I hS fp gS rv pr Z
  have ei:i=min xs.length ys.length:=by omega
  refine dn F.entry_extend_loop ?_
  rw[cO df _]
  show wpAny _ A.in1 (pyNext (.ref z) >>= _) _ _ s
  refine e9 (Z.over (A:=A.in1) hh D (by simp;omega) fun h' kk=>?_)
  have I':=I.turnK (ch:=[z,TO,i1,i2]) (fun b hb=>fp b (sub b hb)) (zk kk)
  exact aa (hR _ H us fw c I' hS (fp S (by simp)).1 (zk kk _ _ SnI gS) rv (hu.trans ei) pr)
 | succ k ih =>
  intro i s H us fw c hk hi hu I hS fp gS rv pr Z
  have hlt:i<min xs.length ys.length:=by omega
  obtain⟨x,ex⟩:∃ x,xs[i]?=some x:=⟨xs[i]'(by omega),gxA _⟩
  obtain⟨y,ey⟩:∃ y,ys[i]?=some y:=⟨ys[i]'(by omega),gxA _⟩
  obtain⟨u,eu,ru⟩:=rx.get ex
  obtain⟨v,ev,rv'⟩:=ry.get ey
  have lu:=rv.length
  refine dn F.entry_extend_loop ?_
  rw[cO df _]
  show wpAny _ A.in1 (pyNext (.ref z) >>= _) _ _ s
  refine e9 (Z.next (A:=A.in1) D (by simpa using eu) (by simpa using ev) fun h' Z' hT kk=>?_)
  have I':=I.turnT (ch:=[z,TO,i1,i2]) (fun b hb=>fp b (sub b hb)) (zk kk) hT ru rv'
  have hn:H s.heap.objs.size=none:=I.hok.fresh (ae _)
  have S1:Same H (upd H s.heap.objs.size (.tup [x,y])):=Same.upd hn
  have neT:∀ b∈[z,TO,i1,i2,S],b≠s.heap.objs.size:=fun b hb q=>by
   have nl:S<s.heap.objs.size:=gxN gS
   have nz:z<s.heap.objs.size:=by
    rcases Z with⟨_,a,b,Sz⟩ | ⟨T0,Sz⟩
    ·exact gxN Sz.z
    ·obtain⟨_,hz⟩:=Sz.z;exact gxN hz
   have n1:i1<s.heap.objs.size:=by
    rcases Z with⟨_,a,b,Sz⟩ | ⟨T0,Sz⟩
    ·obtain⟨o,e⟩:=Sz.n1.ex;exact gxN e
    ·obtain⟨o,e⟩:=Sz.n1.ex;exact gxN e
   have n2:i2<s.heap.objs.size:=by
    rcases Z with⟨_,a,b,Sz⟩ | ⟨T0,Sz⟩
    ·obtain⟨o,e⟩:=Sz.n2.ex;exact gxN e
    ·obtain⟨o,e⟩:=Sz.n2.ex;exact gxN e
   have n3:TO<s.heap.objs.size:=by
    rcases Z with⟨_,a,b,Sz⟩ | ⟨T0,Sz⟩
    ·exact gxN Sz.to
    ·obtain⟨o,e⟩:=Sz.to;exact gxN e
   simp only[aH,aw,bz]at hb
   rcases hb with e | e | e | e | e
   ·exact ai nz (e.symm.trans q)
   ·exact ai n3 (e.symm.trans q)
   ·exact ai n1 (e.symm.trans q)
   ·exact ai n2 (e.symm.trans q)
   ·exact ai nl (e.symm.trans q)
  have gS':=zk kk _ _ SnI gS
  have fp':∀ b∈[z,TO,i1,i2,S],FpOk X pins (upd H s.heap.objs.size (.tup [x,y])) b:=fun b hb=>⟨by rw[upd_ne (neT b hb)];exact(fp b hb).1,(fp b hb).2⟩
  show wpAny _ A.in1 (updateSeq S (·.push (Value.ref s.heap.objs.size)) >>= _) _ _ _
  refine e9 (cJ gS' rfl (aa ⟨dj df _,?_⟩) (by rw[ah];omega) (by show(fw.toArray.push _).size<=sizeLine+1;rw[Array.size_push,ah];omega))
  have but:Heap.ExtBut S h' (h'.update S (Obj.mapSeq (·.push (Value.ref s.heap.objs.size)))):=fun b o hb e=>(aI _ _ (aY hb)).trans e
  have gS2:=bc (Obj.mapSeq (·.push (Value.ref s.heap.objs.size))) gS' rfl
  have I2:=I'.turnK (ch:=[S]) (h'':=h'.update S (Obj.mapSeq (·.push (Value.ref s.heap.objs.size)))) (fun b hb=>by rw[List.mem_singleton.mp hb];exact fp' S (by simp)) fun b o hb e=>but b o (fun q=>hb (by simp[q])) e
  have e2:fw.toArray.push (Value.ref s.heap.objs.size)=(fw++[Value.ref s.heap.objs.size]).toArray:=by simp
  obtain⟨c',gS3⟩:∃ c',(h'.update S (Obj.mapSeq (·.push (Value.ref s.heap.objs.size)))).get? S=some (lobj (fw++[Value.ref s.heap.objs.size]) c'):=by
   have q:=PySem.IsL.update gS' (·.push (Value.ref s.heap.objs.size))
   rw[e2]at q
   exact⟨_,q⟩
  refine ih (i+1) _ _ (us++[.ref s.heap.objs.size]) _ c' (by omega) hlt (by rw[gxE,bE,hu]) I2 (hS.trans S1) fp' gS3 (rv.append (.cons (show RelV (V.ref s.heap.objs.size) _ from rfl) .nil)) ?_ (Z'.but but nS (fun o e=>?_) ⟨_,gS3⟩)
  ·intro j u' ej
   by_cases hj:j<us.length
   ·rw[gxF hj]at ej
    exact pr.same S1 j u' ej
   ·rw[gxG (by omega)]at ej
    have hj0:j - us.length=0:=by
     have:=(gxB ej).1
     rw[bE]at this;omega
    rw[hj0]at ej
    cases ej
    have:j=i:=by omega
    subst this
    exact⟨_,x,y,rfl,fA,ex,ey⟩
  ·rw[gS']at e;cases e;rfl
theorem list_zip {H:Hp}{s:Shared}{a b:Addr}{xs ys:List V}{Q:VK}(I:Inv X pins σ H s)(calm:X.calm=true)(ha:H a=some (.lst xs))(hb:H b=some (.lst ys))
 (hQ:∀ l us H',H l=none->Same H H'->H' l=some (.lst us)->us.length=min xs.length ys.length->PrsAt H' xs ys us->Q (.ref l) H') :
 wpAny (model X.prog X.w) X.A (call (.type "zip") [.ref a,.ref b]) (fun v s1=>wpAny (model X.prog X.w) X.A (call (.type "list") [v]) (EP X pins σ Q) X.xe s1) X.xe s:=by
 obtain⟨z1,xv,n1,rx,lx,ea⟩:=I.lstM ha
 obtain⟨z2,yv,n2,ry,ly,eb⟩:=I.lstM hb
 have p1:SqOf false s.heap a xv.toArray:=⟨_,ea,rfl,n1,rfl⟩
 have p2:SqOf false s.heap b yv.toArray:=⟨_,eb,rfl,n2,rfl⟩
 have la:(a:Nat)<s.heap.objs.size:=gxN ea
 have lb:(b:Nat)<s.heap.objs.size:=gxN eb
 refine zip_made p1 p2 fun h' hz hTI hTO i1 i2 kp=>?_
 have I1:Inv X pins σ H { s with heap:=h'}:=I.kept (t':=s.toks) kp
 have D:ZipApart (s.heap.objs.size+4) (s.heap.objs.size+2) (s.heap.objs.size+3) s.heap.objs.size (s.heap.objs.size+1) a b:=zipApart_new la lb
 refine callType_codes (Q₁:=fun obj s₁=>obj=.ref h'.objs.size/\s₁={ s with heap:=h'.push { cls:=.type "list",data:=.seq #[]}}) F.called_list (F.typeCall_list_1 _) F.entry_list_init (code_list_new _ ⟨rfl,rfl⟩) fun obj s₁ h₁=>?_
 obtain⟨rfl,rfl⟩:=h₁
 have hS:(h'.push { cls:=.type "list",data:=.seq #[]}).get? h'.objs.size=some (lobj [] 0):=ak _ rfl
 refine⟨⟨_,hS,rfl⟩,F.args_list_init_2 _ _,?_⟩
 have I2:Inv X pins σ H { s with heap:=h'.push { cls:=.type "list",data:=.seq #[]}}:=I1.kept (t':=s.toks) fun _ _ e=>gxL _ e
 have sz:s.heap.objs.size+4<h'.objs.size:=gxN hz
 have fpn:∀ c,s.heap.objs.size<=c->FpOk X pins H c:=fun c hc=>I.fpOk hc (I.hok.fresh hc)
 show wpAny _ X.A.in1.in1 (do let old <- Builtin.List.listItems (.ref h'.objs.size);Builtin.List.listUpdate (.ref h'.objs.size) (fun _=>#[]);letGo old.toList.reverse;Builtin.List.listExtendWith (.ref h'.objs.size) (.ref (s.heap.objs.size+4)) .none) _ _ _
 refine e9 ?_
 unfold Builtin.List.listItems
 refine e9 (aP hS rfl (aa ?_))
 show wpAny _ X.A.in1.in1 (updateSeq h'.objs.size (fun _=>#[]) >>= fun _=>letGo (#[]:Array Value).toList.reverse >>= fun _=>Builtin.List.listExtendWith (.ref h'.objs.size) (.ref (s.heap.objs.size+4)) .none) _ _ _
 refine e9 (cJ hS rfl ?_)
 refine e9 (cu ?_)
 have fill:∀(g:Heap) (tk c:Nat),(∀ d o,d≠h'.objs.size->(h'.push { cls:=.type "list",data:=.seq #[]}).get? d=some o->g.get? d=some o)->g.get? h'.objs.size=some (lobj [] c) ->
  codeAny (model X.prog X.w) X.A.in1 (.builtin "list.extend.loop" ⟨[.ref h'.objs.size,.ref (s.heap.objs.size+4),.none],[]⟩) (wants (fun r s₂=>r=.none/\EP X pins σ Q (.ref h'.objs.size) s₂) X.xe) { s with heap:=g,toks:=tk}:=fun g tk c kg gS=>by
  have kg':∀ d o,h'.get? d=some o->g.get? d=some o:=fun d o e=>kg d o (ai (gxN e)) (gxL _ e)
  have I3:Inv X pins σ H { s with heap:=g,toks:=tk}:=I1.kept (t':=tk) kg'
  have nS:h'.objs.size∉[s.heap.objs.size+4,s.heap.objs.size+2,s.heap.objs.size+3,s.heap.objs.size,s.heap.objs.size+1,a,b]:=by
   simp only[aH,aw,bz,not_or]
   have sz':(s.heap.objs.size:Nat)+4<h'.objs.size:=sz
   refine⟨?_,?_,?_,?_,?_,aU (c8 la (by omega)),aU (c8 lb (by omega))⟩<;> (intro q;omega)
  refine zip_fill (A:=X.A.in1) (I.ok.hd calm) D rx ry z1 nS (H0:=H) ?_ _ 0 _ H [] [] c rfl (bV _) rfl I3 (Same.refl _) ?_ gS .nil (fun i u e=>by simp at e) (.inl ⟨rfl,.none,.none,kg' _ _ hz,kg' _ _ hTI,kg' _ _ hTO,i1.at fun _ e=>kg' _ _ e,i2.at fun _ e=>kg' _ _ e,⟨_,kg' _ _ (kp _ _ ea),rfl,n1,rfl⟩,⟨_,kg' _ _ (kp _ _ eb),rfl,n2,rfl⟩⟩)
  ·intro s' H' us fw c' I' S' nS' gS' rv lu pr
   refine⟨rfl,?_⟩
   have hfp:=fpn h'.objs.size (by omega)
   have I4:=I'.adopt (ys:=us) nS' hfp.2.1 (by have:=I.sz;omega) hfp.2.2.2.2.1 hfp.2.2.2.2.2 gS' rv (by omega)
   exact⟨.ref h'.objs.size,_,I4,rfl,hQ _ us _ (I.hok.fresh (by omega)) (S'.trans (Same.upd nS')) fA lu (pr.same (Same.upd nS'))⟩
  ·intro d hd
   simp only[aH,aw,bz]at hd
   refine fpn d ?_
   rcases hd with e | e | e | e | e <;> subst e <;> omega
 have hS₂:=bc (Obj.mapSeq (fun _=>(#[]:Array Value))) hS rfl
 have oth:∀(d:Addr) (o:Obj),d≠h'.objs.size->(h'.push { cls:=.type "list",data:=.seq #[]}).get? d=some o->((h'.push { cls:=.type "list",data:=.seq #[]}).update h'.objs.size (Obj.mapSeq (fun _=>(#[]:Array Value)))).get? d=some o :=
  fun d o hd e=>(aI _ _ (aY hd)).trans e
 have hz2:=oth _ _ (ai sz) (gxL { cls:=.type "list",data:=.seq #[]} hz)
 have tyz:Shared.TypeIs { s with heap:=(h'.push { cls:=.type "list",data:=.seq #[]}).update h'.objs.size (Obj.mapSeq (fun _=>(#[]:Array Value)))} (.ref (s.heap.objs.size+4)) "zip":=⟨_,hz2,rfl⟩
 unfold Builtin.List.listExtendWith
 refine e9 (wpAny_typeOf tyz ?_)
 have e1:Builtin.List.listSameRef (.ref h'.objs.size) (.ref (s.heap.objs.size+4))=false:=by
  simp only[Builtin.List.listSameRef]
  exact beq_false_of_ne (aU sz)
 have e2:(Value.type "zip"==Value.type "list")=false:=by decide
 have e3:(Value.type "zip"==Value.type "tuple")=false:=by decide
 simp only[e1,e2,e3,Bool.or_false,dA,if_false]
 refine e9 (cC hz2 ?_)
 refine e9 (bp ?_)
 unfold Builtin.List.listLengthHint
 refine e9 (wpAny_specialOf tyz zip_no_len ?_)
 show wpAny _ _ (specialOf (Value.ref (s.heap.objs.size+4)) (Str.ofString "__length_hint__") >>= _) _ _ _
 refine e9 (wpAny_specialOf tyz zip_no_hint ?_)
 refine aa ?_
 show wpAny _ _ (rule "list.extend.makes-room" >>= fun _=>Builtin.List.listTouch (.ref h'.objs.size) >>= fun _ =>
  again (.builtin "list.extend.loop" ⟨[.ref h'.objs.size,.ref (s.heap.objs.size+4),.none],[]⟩)) _ _ _
 refine e9 (c5 ?_)
 refine e9 ?_
 show wpAny _ _ (updateSeq h'.objs.size (·.push .none) >>= fun _=>updateSeq h'.objs.size (·.pop)) _ _ _
 refine e9 (cJ hS₂ rfl ?_)
 have hS₃:=bc (Obj.mapSeq (·.push Value.none)) hS₂ rfl
 refine cJ (hz:=by seq_fits) hS₃ rfl ?_
 have hS₄:=bc (Obj.mapSeq (·.pop)) hS₃ rfl
 refine aa ⟨dj df _,fill _ s.toks _ (fun d o hd e=>?_) hS₄⟩
 exact(aI _ _ (aY hd)).trans ((aI _ _ (aY hd)).trans (oth d o hd e))
end
def Ite (l:Addr):It :=
 ⟨fun i H=>∃ xs x,H l=some (.lst xs)/\xs[i]?=some x,
  fun i H v H'=>∃ T x,v=.ref T/\H T=none/\H'=upd H T (.tup [.int i,x])/\∀ xs,H l=some (.lst xs)->xs[i]?=some x,
  fun i H=>∃ xs,H l=some (.lst xs)/\i=xs.length⟩
theorem turn_enumL {P:Program}{w:World}{K:PySem.W.Frag}{elts:List Expr}{kk:Nat}{tpos:Pos}{e it l:Addr}(hei:e≠it)(hle:l≠e)(hli:l≠it) :
 Turn P w K (.Tuple elts kk tpos) (Ite l) [e,it] e (fun i h=>(∃ old,IsEnum h e it i old)/\h.IsListIter it l i) where
 mem:=by simp
 obj:=fun i h st b hb=>by
  obtain⟨⟨old,he⟩,o,ho,hc,hd⟩:=st
  simp only[aH,aw,bz]at hb
  rcases hb with rfl | rfl
  ·exact⟨_,he,fun v q=>by cases q⟩
  ·exact⟨o,ho,fun v q=>by rw[hd]at q;cases q⟩
 keep:=fun i h h' st k=>by
  obtain⟨⟨old,he⟩,o,ho,r⟩:=st
  exact⟨⟨old,k e (by simp) _ he⟩,o,k it (by simp) _ ho,r⟩
 item:=by
  intro X hP hw hK hc i pins s σ H E I hf st hg
  subst hP hw hK
  obtain⟨⟨old,he⟩,hit⟩:=st
  obtain⟨xs,x,hl,ex⟩:=hg
  obtain⟨_,fw,n,r,_,ho⟩:=I.lstM hl
  have isl:s.heap.IsList l fw.toArray:=⟨_,ho,rfl,n,rfl⟩
  obtain⟨u,eu,ru⟩:=r.get ex
  have hlt:i<fw.toArray.size:=by rw[ah];exact(gxB eu).1
  have D:=Draws.list (prog:=X.prog) (w:=X.w) (A:=X.A.in1) (I.ok.hd hc) it l hli fw.toArray
  refine wpAny_pyNext_enum_itemD D he ⟨hit,isl⟩ hlt hei (by simp[hei,aY hle]) fun y h1 tk hPy ho1 hst1 hT hsz hk=>?_
  have hy:y=u:=by
   have q:fw[i]?=some y:=by simpa using hPy
   rw[eu]at q;exact(aB q).symm
  subst hy
  refine⟨_,rfl,wpAny_letOwnedTupleGo_enum ho1 fun h2 he2 hs2=>?_⟩
  have fr:∀ b∈[e,it],FpOk X pins H b:=hf
  have lte:e<s.heap.objs.size:=gxN he
  have ne1:s.heap.objs.size≠e:=aU lte
  have hT2:IsPair h2 s.heap.objs.size (.int i tk) y:=(hs2.2 _ ne1).trans hT
  have kp:∀ b o,b∉[e,it]->s.heap.get? b=some o->h2.get? b=some o:=fun b o hb q=>by
   have b1:b≠e:=fun z=>hb (by simp[z])
   have b2:b≠it:=fun z=>hb (by simp[z])
   exact(hs2.2 b b1).trans (hk b o b1 b2 q)
  have hn:H s.heap.objs.size=none:=I.hok.fresh (ae _)
  have I1:=(I.turnT (ch:=[e,it]) (h'':=h2) (x:=.int i) (y:=x) fr kp hT2 ⟨tk,rfl⟩ ru).tok (tk+1)
  refine⟨.ref s.heap.objs.size,_,I1,rfl,⟨_,x,rfl,hn,rfl,fun zs q=>by rw[hl]at q;cases q;exact ex⟩,⟨⟨_,by simpa using he2⟩,hst1.1.at fun o q=>(hs2.2 it (aY hei)).trans q⟩,fun b hb=>?_⟩
  have lti:it<s.heap.objs.size:=by obtain⟨o,q,_⟩:=hit;exact gxN q
  rw[upd_ne]
  ·exact(hf b hb).1
  ·simp only[aH,aw,bz]at hb
   rcases hb with rfl | rfl
   ·exact ai lte
   ·exact ai lti
 done:=by
  intro X hP hw hK hc i pins s σ H E I hf st hg
  subst hP hw hK
  obtain⟨⟨old,he⟩,hit⟩:=st
  obtain⟨xs,hl,ei⟩:=hg
  obtain⟨_,fw,n,r,ll,ho⟩:=I.lstM hl
  have isl:s.heap.IsList l fw.toArray:=⟨_,ho,rfl,n,rfl⟩
  have D:=Draws.list (prog:=X.prog) (w:=X.w) (A:=X.A.in1) (I.ok.hd hc) it l hli fw.toArray
  have en:i=fw.toArray.size:=by rw[ah,ei];exact ll
  refine wpAny_pyNext_enum_endD D he (by rw[<- en];exact⟨hit,isl⟩) fun h' hx=>⟨rfl,?_⟩
  exact I.turnK (ch:=[e,it]) (fun b hb=>hf b hb) fun b o hb q=>hx b o (fun z=>hb (by simp[z])) q
 self:=fun _ _ _ _ _ st h=>let ⟨⟨_,e⟩,_⟩:=st;dH e h
section
variable {X:Cx}{a b e:Expr}{es:List Expr}{pos:Pos}
def iEnumL (ta:TA):TI:=fun σ H R=>ta σ H fun vs H1=>match vs with
 | [.ref l]=>∃ xs,H1 l=some (.lst xs)/\R (Ite l) H1
 | _=>False
theorem pi_enumL {elts:List Expr}{kk:Nat}{tpos:Pos}{ta:TA}{p:Pos}(hg:Gl X "enumerate")(hm:X.mg "enumerate"=none)(ha:PA X [a] ta)(hs:starEach [a] X.env=[(false,eval a X.env)]:=by rfl) :
 PI X (.Tuple elts kk tpos) (.Call (.Name "enumerate" p) [a] [] pos) (iEnumL ta):=by
 intro pins s σ H R I h
 refine Call_ (ld_blt I hg hm (show bootBuiltins "enumerate"=some (.type "enumerate") by decide +kernel) (bg (thn (ha pos pins s σ H _ I h) fun us s1 hq0=>?_) hs rfl))
 obtain⟨vs,H1,I1,r1,q1⟩:=hq0
 try dsimp only at q1
 split at q1
 ·rename_i l
  obtain⟨xs,hl,q⟩:=q1
  obtain⟨u,rfl,ru⟩:=r1.one
  cases ru
  obtain⟨_,fw,n,r,ll,ho⟩:=I1.lstM hl
  have lt:l<s1.heap.objs.size:=gxN ho
  refine call_enumerate_list (l:=l) (items:=fw.toArray) ⟨_,ho,rfl,n,rfl⟩ fun h' he hi hsz kp=>dH he ?_
  have I2:Inv X pins σ H1 { s1 with heap:=h'}:=I1.kept (t':=s1.toks) kp
  refine⟨s1.heap.objs.size+1,_,_,_,H1,rfl,I2,turn_enumL (aU (bA _)) (ai (aV lt)) (ai lt),⟨⟨_,he⟩,hi⟩,fun b hb=>?_,q⟩
  have hb':s1.heap.objs.size<=b:=by
   simp only[aH,aw,bz]at hb
   rcases hb with e | e <;> subst e
   ·exact Nat.le_succ _
   ·exact ae _
  exact I1.fpOk hb' (I1.hok.fresh hb')
 ·exact q1.elim
def dItZ (w:DA):DI:=fun ρ μ K=>w ρ μ fun ds fB=>match ds with
 | [x,y]=>opt (lv fB x) fun xs=>opt (lv fB y) fun ys=>K (List.zipWith (fun a b=>D.tup [a,b]) xs ys) (fun μ'=>lc x xs μ'/\lc y ys μ') fB
 | _=>False
theorem i_zip {elts:List Expr}{kk:Nat}{tpos:Pos}{w:DA}{p:Pos}(hg:Gl X "zip")(hm:X.mg "zip"=none)(ha:PDA X [a,b] w)(hs:starEach [a,b] X.env=[(false,eval a X.env),(false,eval b X.env)]:=by rfl)(hs2:starEach [b] X.env=[(false,eval b X.env)]:=by rfl) :
 PDI X (.Tuple elts kk tpos) (.Call (.Name "zip" p) [a,b] [] pos) (dItZ w):=(pi_zip2 hg hm ha hs hs2).imp fun σ H Q hq=>by
 obtain⟨φ,ρ,μ,K,A,M,k,L⟩:=hq
 refine⟨φ,ρ,μ,_,A,M,k,fun ds fB φ1 vs H1 k1 f1 M1 i1=>?_⟩
 split at k1
 ·rename_i x y
  obtain⟨xs,ex,k1⟩:=opt_ex k1
  obtain⟨ys,ey,k1⟩:=opt_ex k1
  ·obtain⟨v,r,rfl,h1,u,r',rfl,h2,h3⟩:=i1
   cases(show r'=[]from h3)
   obtain⟨p1,vx,rfl,hp1,ax⟩:=lv_is M1 h1 ex
   obtain⟨p2,vy,rfl,hp2,ay⟩:=lv_is M1 h2 ey
   refine⟨false,vx,vy,hp1,hp2,L _ _ fB φ1 _ H1 k1 f1 M1 fun φ' H' μ' f M' c i=>?_⟩
   obtain⟨vx,hx,ax⟩:=lv_stay M1 h1 ex f M' c.1
   obtain⟨vy,hy,ay⟩:=lv_stay M1 h2 ey f M' c.2
   have lx:=ax.len
   have ly:=ay.len
   refine⟨fun d hd=>?_,fun hi=>⟨vx,vy,hx,hy,by rw[bj]at hi;omega⟩⟩
   rw[bx]at hd
   cases e1:xs[i]? with
   | none=>rw[e1]at hd;cases hd
   | some dx =>
    cases e2:ys[i]? with
    | none=>rw[e1,e2]at hd;cases hd
    | some dy =>
     rw[e1,e2]at hd
     cases hd
     obtain⟨v1,g1,j1⟩:=ax.get e1
     obtain⟨v2,g2,j2⟩:=ay.get e2
     refine⟨⟨vx,vy,v1,v2,hx,hy,g1,g2⟩,fun z H'' hy'=>?_⟩
     obtain⟨T,x',y',rfl,hT,rfl,q1,q2⟩:=hy'
     have c1:=q1 vx hx
     have c2:=q2 vy hy
     rw[g1]at c1;cases c1
     rw[g2]at c2;cases c2
     have fn:=Fr.new (φ:=φ') (o:=.tup [v1,v2]) hT
     exact⟨fn,M'.same (Same.upd hT),T,_,rfl,M'.fresh hT,fA,v1,_,rfl,j1.mono fn,v2,_,rfl,j2.mono fn,rfl⟩
 ·exact k1.elim
def enumD (ds:List D):List D:=List.zipWith (fun i d=>D.tup [.int (i:Nat),d]) (List.range ds.length) ds
theorem enumD_get {ds:List D}{i:Nat}{d:D}(h:(enumD ds)[i]?=some d):∃ x,ds[i]?=some x/\d=.tup [.int i,x]:=by
 unfold enumD at h
 rw[bx]at h
 cases e:ds[i]? with
 | none=>rw[e]at h;cases q:(List.range ds.length)[i]? <;> (rw[q]at h;cases h)
 | some x =>
  have hi:=(gxB e).1
  rw[e,bF hi]at h
  cases h
  exact⟨x,rfl,rfl⟩
theorem enumD_len (ds:List D):(enumD ds).length=ds.length:=by unfold enumD;rw[bj,gxJ,Nat.min_self]
def dItE (w:DA):DI:=fun ρ μ K=>w ρ μ fun ds fB=>match ds with
 | [x]=>opt (lv fB x) fun xs=>K (enumD xs) (fun μ'=>lc x xs μ') fB
 | _=>False
theorem i_enumL {elts:List Expr}{kk:Nat}{tpos:Pos}{w:DA}{p:Pos}(hg:Gl X "enumerate")(hm:X.mg "enumerate"=none)(ha:PDA X [a] w)(hs:starEach [a] X.env=[(false,eval a X.env)]:=by rfl) :
 PDI X (.Tuple elts kk tpos) (.Call (.Name "enumerate" p) [a] [] pos) (dItE w):=(pi_enumL hg hm ha hs).imp fun σ H Q hq=>by
 obtain⟨φ,ρ,μ,K,A,M,k,L⟩:=hq
 refine⟨φ,ρ,μ,_,A,M,k,fun ds fB φ1 vs H1 k1 f1 M1 i1=>?_⟩
 split at k1
 ·rename_i x
  obtain⟨xs,ex,k1⟩:=opt_ex k1
  ·obtain⟨v,r,rfl,h1,h3⟩:=i1
   cases(show r=[]from h3)
   obtain⟨p1,vx,rfl,hp1,ax⟩:=lv_is M1 h1 ex
   refine⟨vx,hp1,L _ _ fB φ1 _ H1 k1 f1 M1 fun φ' H' μ' f M' c i=>?_⟩
   obtain⟨vx,hx,ax⟩:=lv_stay M1 h1 ex f M' c
   have lx:=ax.len
   refine⟨fun d hd=>?_,fun hi=>⟨vx,hx,by rw[enumD_len]at hi;omega⟩⟩
   obtain⟨dx,e1,rfl⟩:=enumD_get hd
   obtain⟨v1,g1,j1⟩:=ax.get e1
   refine⟨⟨vx,v1,hx,g1⟩,fun z H'' hy'=>?_⟩
   obtain⟨T,x',rfl,hT,rfl,q1⟩:=hy'
   have c1:=q1 vx hx
   rw[g1]at c1;cases c1
   have fn:=Fr.new (φ:=φ') (o:=.tup [.int i,v1]) hT
   exact⟨fn,M'.same (Same.upd hT),T,_,rfl,M'.fresh hT,fA,.int i,_,rfl,rfl,v1,_,rfl,j1.mono fn,rfl⟩
 ·exact k1.elim
def dLZ (m:Bool)(w:DA):De:=fun ρ μ K=>w ρ μ fun ds fB=>match ds with
 | [x,y]=>opt (lv fB x) fun xs=>opt (lv fB y) fun ys=>nL m (List.zipWith (fun a b=>D.tup [a,b]) xs ys) fB K
 | _=>False
theorem prs_all {φ:List Addr}{H:Hp}{xs ys:List D}{vx vy us:List V}(ax:fc φ H xs vx)(ay:fc φ H ys vy)(hu:us.length=min vx.length vy.length)(nφ:∀(T:Addr) (zs:List V),H T=some (.tup zs)->T∉φ)(h:PrsAt H vx vy us):fc φ H (List.zipWith (fun a b=>D.tup [a,b]) xs ys) us:=by
 have key:∀(ds:List D) (us:List V),ds.length=us.length->(∀(i:Nat) (d:D) (u:V),ds[i]?=some d->us[i]?=some u->DIs φ H d u)->fc φ H ds us:=by
  intro ds
  induction ds with
  | nil=>intro us hl _;cases us with
   | nil=>rfl
   | cons _ _=>simp at hl
  | cons d ds ih =>
   intro us hl hh
   cases us with
   | nil=>simp at hl
   | cons u us=>exact⟨u,us,rfl,hh 0 d u rfl rfl,ih us (by simpa using hl) fun i d' u' e1 e2=>hh (i+1) d' u' (by simpa using e1) (by simpa using e2)⟩
 refine key _ _ (by rw[bj,hu,ax.len,ay.len]) fun i d u e1 e2=>?_
 obtain⟨T,x,y,rfl,hT,hx,hy⟩:=h i u e2
 obtain⟨dx,ex,ix⟩:=ax.getV hx
 obtain⟨dy,ey,iy⟩:=ay.getV hy
 rw[bx,ex,ey]at e1
 cases e1
 exact⟨T,_,rfl,nφ T _ hT,hT,x,_,rfl,ix,y,_,rfl,iy,rfl⟩
theorem d_listZip (m:Bool){w:DA}{p p2 pos2:Pos}(calm:X.calm=true)(hg:Gl X "list")(hm:X.mg "list"=none)(hg2:Gl X "zip")(hm2:X.mg "zip"=none)(ha:PDA X [a,b] w)(hs:starEach [a,b] X.env=[(false,eval a X.env),(false,eval b X.env)]:=by rfl)(hs2:starEach [b] X.env=[(false,eval b X.env)]:=by rfl)
 (hs3:starEach [.Call (.Name "zip" p2) [a,b] [] pos2] X.env=[(false,eval (.Call (.Name "zip" p2) [a,b] [] pos2) X.env)]:=by rfl) :
 PD X (.Call (.Name "list" p) [.Call (.Name "zip" p2) [a,b] [] pos2] [] pos) (dLZ m w):=by
 intro pins s σ H Q I h
 refine cE (ld_blt I hg hm boot_list ?_)
 obtain⟨φ,ρ,μ,K,A,M,k,L⟩:=h
 refine bg ?_ hs3 rfl
 rw[hs3]
 show wpAny _ _ (spliced ((false,eval (.Call (.Name "zip" p2) [a,b] [] pos2) X.env)::backTo pos [])) _ _ s
 refine Calls.spliced_cons ?_
 have hq:tDA w σ H (fun vs H1=>match vs with | [.ref a,.ref b]=>∃(xs ys:List V),H1 a=some (.lst xs)/\H1 b=some (.lst ys)/\∀ l us H',H1 l=none->Same H1 H'->H' l=some (.lst us)->us.length=min xs.length ys.length->PrsAt H' xs ys us->Q (.ref l) H' | _=>False):=by
  refine⟨φ,ρ,μ,_,A,M,k,fun ds fB φ1 vs H1 k1 f1 M1 i1=>?_⟩
  split at k1
  ·rename_i x y
   obtain⟨xs,ex,k1⟩:=opt_ex k1
   obtain⟨ys,ey,k1⟩:=opt_ex k1
   ·obtain⟨v,r,rfl,h1,u,r',rfl,h2,h3⟩:=i1
    cases(show r'=[]from h3)
    obtain⟨p1,vx,rfl,hp1,ax⟩:=lv_is M1 h1 ex
    obtain⟨p2,vy,rfl,hp2,ay⟩:=lv_is M1 h2 ey
    refine⟨vx,vy,hp1,hp2,fun l us H' hl S' hu len pr=>?_⟩
    have hl':l∉φ1:=M1.fresh hl
    have M2:=M1.same S'
    have f2:Fr φ1 H1 φ1 H':=.same S'
    have nt:∀(T:Addr) (zs:List V),H' T=some (.tup zs)->T∉φ1:=fun T zs e hT=>by
     obtain⟨j,hj,ej⟩:=aJ hT
     obtain⟨q,e1,e2⟩:=M2.at_ j (fB[j]'(by have:=M2.len;omega)) (gxA _)
     rw[gxA hj,ej]at e1
     cases e1
     revert e2
     cases fB[j]'(by have:=M2.len;omega)with
     | box=>rintro⟨q,ns,i,r,z,h1,_⟩;rw[e]at h1;cases h1
     | lst ds=>rintro⟨vs,h1,_⟩;rw[e]at h1;cases h1
     | dic ks ds=>rintro⟨eW,vs,h1,_⟩;rw[e]at h1;cases h1
     | fdic o eW ds=>rintro⟨h1,_⟩;rw[e]at h1;cases h1
     | ins C ns ds=>rintro⟨dx,fs,h1,_⟩;rw[e]at h1;cases h1
     | dtu ks ds=>rintro⟨eW,h1,_⟩;rw[e]at h1;cases h1
     | gx φ0 H0=>rintro⟨_,_,_,h4⟩;exact absurd e (h4 _)
     | exc c=>intro h1;rw[show _=_ from h1]at e;cases e
    have al:=prs_all (ax.mono f2) (ay.mono f2) len nt pr
    cases m with
    | false=>exact L _ fB φ1 _ H' k1 (f1.trans f2) M2 ⟨l,us,rfl,hl',hu,al⟩
    | true =>
     have f3:Fr φ1 H1 (φ1++[l]) H':=⟨(Fr.snoc (φ:=φ1) hl).ext,fun c o _ e=>S' c o e,fun c e=>S'.free e⟩
     have M3:MSis (φ1++[l]) H' (fB++[.lst (List.zipWith (fun a b=>D.tup [a,b]) xs ys)]):=by
      have nt':∀(T:Addr) (zs:List V),H' T=some (.tup zs)->T∉φ1++[l]:=fun T zs e hT=>by
       rcases List.mem_append.mp hT with q | q
       ·exact nt T zs e q
       ·rw[List.mem_singleton.mp q,hu]at e;cases e
      have al':=prs_all (ax.mono f3) (ay.mono f3) len nt' pr
      refine⟨?_,by rw[gxE,gxE,M1.len];rfl,fun k n e=>?_⟩
      ·rw[dX]
       exact⟨M1.nd,by simp,fun a ha b hb=>by rw[List.mem_singleton.mp hb];intro z;exact hl' (by rw[<- z];exact ha)⟩
      ·by_cases hk:k<fB.length
       ·rw[gxF hk]at e
        obtain⟨q,e1,e2⟩:=M1.at_ k n e
        exact⟨q,f3.get e1,e2.mono f3 fun u eu=>S' _ _ eu⟩
       ·have hk':k=fB.length:=by
         have:=(gxB e).1
         rw[gxE,bE]at this
         omega
        subst hk'
        rw[gxG (ae _),aO]at e
        cases e
        exact⟨l,by rw[gxG (by rw[M1.len];exact ae _),M1.len,aO];rfl,us,hu,al'⟩
     exact L _ _ (φ1++[l]) _ H' k1 (f1.trans f3) M3 ⟨l,by rw[gxG (by rw[M1.len];exact ae _),M1.len,aO];rfl,rfl⟩
  ·exact k1.elim
 refine Call_ (ld_blt I hg2 hm2 boot_zip (bg (thn (ha pos2 pins s σ H _ I hq) fun us s1 hq3=>?_) (by rw[hs,hs2]) (by rw[hs2];rfl)))
 obtain⟨vs,H1,I1,r1,q1⟩:=hq3
 try dsimp only at q1
 split at q1
 ·rename_i l1 l2
  obtain⟨xs,ys,h1,h2,q⟩:=q1
  obtain⟨u1,u2,rfl,e1,e2⟩:=r1.two
  cases e1;cases e2
  exact thn (list_zip I1 calm h1 h2 q) fun v s2 hv=>Calls.spliced_nil hv
 ·exact q1.elim
end
theorem Lif.val {φ:List Addr}{H:Hp}{μ:MS}{K:DK}{Q:VK}{d:D}{v:V}(L:Lif φ H K Q)(M:MSis φ H μ)(k:K d μ)(i:DIs φ H d v):Q v H:=L d μ φ v H k (.refl _ _) M i
def dAdd (m:Bool):DOp:=fun x y μ K=>match x,y with
 | .int i,.int j=>K (.int (i+j)) μ
 | .str i,.str j=>i.length+j.length<=sizeLine/\K (.str (i++j)) μ
 | x,y=>opt (lv μ x) fun xs=>opt (lv μ y) fun ys=>xs.length+ys.length<=sizeLine/\nL m (xs++ys) μ K
theorem so_add {m:Bool}:SoOp rAddC (dAdd m):=fun φ H x y dx dy μ K Q M hx hy k L=>by
 unfold dAdd at k
 split at k
 ·cases(show x=_ from hx);cases(show y=_ from hy);exact L.val M k rfl
 ·cases(show x=_ from hx);cases(show y=_ from hy);exact⟨k.1,L.val M k.2 rfl⟩
 ·obtain⟨xs,ex,k⟩:=opt_ex k
  obtain⟨ys,ey,k⟩:=opt_ex k
  obtain⟨p,vx,rfl,hp,ax⟩:=lv_is M hx ex
  obtain⟨q,vy,rfl,hq,ay⟩:=lv_is M hy ey
  exact⟨vx,vy,hp,hq,by rw[ax.len,ay.len];exact k.1,fun l hl=>al_n L M (ax.app ay) k.2 hl⟩
def dI2 (C:Int->Int->Prop)(g:Int->Int->D):DOp:=fun x y μ K=>match x,y with
 | .int i,.int j=>C i j/\K (g i j) μ
 | _,_=>False
def dI2' (g:Int->Int->D):DOp:=fun x y μ K=>match x,y with
 | .int i,.int j=>K (g i j) μ
 | _,_=>False
theorem so_i2 {C:Int->Int->Prop}{g:Int->Int->Int}:SoOp (rI2 C fun i j=>.int (g i j)) (dI2 C fun i j=>.int (g i j)):=fun φ H x y dx dy μ K Q M hx hy k L=>by
 unfold dI2 at k
 split at k
 ·cases(show x=_ from hx);cases(show y=_ from hy);exact⟨k.1,L.val M k.2 rfl⟩
 ·exact k.elim
theorem so_i2' {g:Int->Int->Int}:SoOp (rI2' fun i j=>.int (g i j)) (dI2' fun i j=>.int (g i j)):=fun φ H x y dx dy μ K Q M hx hy k L=>by
 unfold dI2' at k
 split at k
 ·cases(show x=_ from hx);cases(show y=_ from hy);exact L.val M k rfl
 ·exact k.elim
theorem so_b2' {g:Int->Int->Bool}:SoOp (rI2' fun i j=>.bl (g i j)) (dI2' fun i j=>.bl (g i j)):=fun φ H x y dx dy μ K Q M hx hy k L=>by
 unfold dI2' at k
 split at k
 ·cases(show x=_ from hx);cases(show y=_ from hy);exact L.val M k rfl
 ·exact k.elim
def dMul:DOp:=fun x y μ K=>match x,y with
 | .int i,.int j=>CMul i j/\K (.int (i*j)) μ
 | .str z,.int n=>∃ c:Nat,z=⟨#[c]⟩ /\ -1000000<=n/\n<=1000000/\K (.str ⟨(List.replicate n.toNat c).toArray⟩) μ
 | _,_=>False
theorem so_mul:SoOp rMulC dMul:=fun φ H x y dx dy μ K Q M hx hy k L=>by
 unfold dMul at k
 split at k
 ·cases(show x=_ from hx);cases(show y=_ from hy);exact⟨k.1,L.val M k.2 rfl⟩
 ·cases(show x=_ from hx);cases(show y=_ from hy)
  obtain⟨c,rfl,h1,h2,k⟩:=k
  exact⟨c,rfl,h1,h2,L.val M k rfl⟩
 ·exact k.elim
def dEqS (neg:Bool):DOp:=fun x y μ K=>match x,y with
 | .int i,.int j=>K (.bl (neg != decide (i=j))) μ
 | .str i,.str j=>K (.bl (neg != decide (i=j))) μ
 | .bl i,.bl j=>K (.bl (neg != decide (i=j))) μ
 | _,_=>False
theorem so_eqS {neg:Bool}:SoOp (rEqC neg) (dEqS neg):=fun φ H x y dx dy μ K Q M hx hy k L=>by
 unfold dEqS at k
 split at k
 ·cases(show x=_ from hx);cases(show y=_ from hy);exact L.val M k rfl
 ·cases(show x=_ from hx);cases(show y=_ from hy);exact L.val M k rfl
 ·cases(show x=_ from hx);cases(show y=_ from hy);exact L.val M k rfl
 ·exact k.elim
def dIx:DOp:=fun x y μ K=>match x,y with
 | .str z,.int i=>z.length<=sizeLine/\opt (atI z.cps.toList i) fun c=>K (.str ⟨#[c]⟩) μ
 | .tup ds,.int i=>opt (atI ds i) fun d=>K d μ
 | x,.int i=>opt (lv μ x) fun ds=>opt (atI ds i) fun d=>K d μ
 | _,_=>False
theorem fc.atI {φ:List Addr}{H:Hp}{ds:List D}{vs:List V}{i:Int}{d:D}(h:fc φ H ds vs)(e:atI ds i=some d):∃ v,atI vs i=some v/\DIs φ H d v:=by
 unfold L2.atI at e ⊢
 rw[h.len]
 cases q:ixN ds.length i with
 | none=>rw[q]at e;cases e
 | some j=>rw[q]at e;exact h.get e
theorem so_ix:SoOp rIxC dIx:=fun φ H x y dx dy μ K Q M hx hy k L=>by
 unfold dIx at k
 split at k
 ·cases(show x=_ from hx);cases(show y=_ from hy)
  obtain⟨c,e,k'⟩:=opt_ex k.2
  exact⟨k.1,fj e (L.val M k' rfl)⟩
 ·cases(show y=_ from hy)
  obtain⟨d,e,k⟩:=opt_ex k
  obtain⟨p,vs,rfl,_,hp,ha⟩:=hx
  obtain⟨v,ev,iv⟩:=ha.atI e
  exact⟨vs,.inr hp,fj ev (L.val M k iv)⟩
 ·cases(show y=_ from hy)
  obtain⟨ds,el,k⟩:=opt_ex k
  obtain⟨d,e,k⟩:=opt_ex k
  obtain⟨p,vs,rfl,hp,ha⟩:=lv_is M hx el
  obtain⟨v,ev,iv⟩:=ha.atI e
  exact⟨vs,.inl hp,fj ev (L.val M k iv)⟩
 ·exact k.elim
abbrev DO:=DE->MS->(Option Int->MS->Prop)->Prop
def tDO (w:DO):TO:=fun σ H Q=>∃ φ ρ μ K,DEnv φ H ρ σ/\MSis φ H μ/\w ρ μ K/\∀ o μ' φ' H',K o μ'->Fr φ H φ' H'->MSis φ' H' μ'->Q o H'
def dNo:DO:=fun _ μ K=>K none μ
def dPart (w:De):DO:=fun ρ μ K=>w ρ μ fun d fB=>match d with | .int i=>K (some i) fB | _=>False
def cutD (ds:List D)(lo hi:Option Int):List D:=(ds.drop (HT.sIx ds.length 0 lo)).take (HT.sIx ds.length ds.length hi - HT.sIx ds.length 0 lo)
def dSlc (m:Bool)(w:De)(l h:DO):De:=fun ρ μ K=>w ρ μ fun x fB=>l ρ fB fun lo μ2=>h ρ μ2 fun hi μ3=>match x with
 | .str z=>z.length<=sizeLine/\K (.str ⟨(cutL z.cps.toList lo hi).toArray⟩) μ3
 | x=>opt (lv μ3 x) fun ds=>nL m (cutD ds lo hi) μ3 K
section
variable {X:Cx}{a b e:Expr}{es:List Expr}{pos:Pos}
theorem PO.imp {e:Option Expr}{t t':TO}(h:PO X e t)(hi:∀ σ H Q,t' σ H Q->t σ H Q):PO X e t':=fun pins s σ H Q I q=>h pins s σ H Q I (hi σ H Q q)
theorem o_no:PO X none (tDO dNo):=po_noC.imp fun σ H Q hq4=>by obtain⟨φ,ρ,μ,K,A,M,k,L⟩:=hq4;exact L none μ φ H k (.refl _ _) M
theorem o_some {w:De}(h:PD X e w):PO X (some e) (tDO (dPart w)):=(po_someC h).imp fun σ H Q ⟨φ,ρ,μ,K,A,M,k,L⟩ =>
 ⟨φ,ρ,μ,_,A,M,k,fun d fB φ1 v1 H1 k1 f1 M1 i1=>by
  cases d with
  | int i=>cases(show v1=_ from i1);exact L _ fB φ1 H1 k1 f1 M1
  | _=>exact k1.elim⟩
theorem fc.cut {φ:List Addr}{H:Hp}{ds:List D}{vs:List V}(h:fc φ H ds vs)(lo hi:Option Int):fc φ H (cutD ds lo hi) (cutV vs lo hi):=by
 unfold cutD cutV
 rw[h.len]
 exact(h.drop _).take _
theorem d_slice (m:Bool){lo hi:Option Expr}{w:De}{l h:DO}{p:Pos}(ha:PD X a w)(hl:PO X lo (tDO l))(hh:PO X hi (tDO h)):PD X (.Subscript a (.Slice lo hi none p) pos) (dSlc m w l h):=(pe_slice slC ha hl hh).imp fun σ H Q hq=>by
 obtain⟨φ,ρ,μ,K,A,M,k,L⟩:=hq
 refine⟨φ,ρ,μ,_,A,M,k,fun d fB φ1 v1 H1 k1 f1 M1 i1=>?_⟩
 refine⟨φ1,ρ,fB,_,A.mono f1,M1,k1,fun lo μ2 φ2 H2 k2 f2 M2=>?_⟩
 refine⟨φ2,ρ,μ2,_,A.mono (f1.trans f2),M2,k2,fun hi μ3 φ3 H3 k3 f3 M3=>?_⟩
 have i3:=i1.mono (f2.trans f3)
 have L3:=L.mono (f1.trans (f2.trans f3))
 split at k3
 ·cases(show v1=_ from i3);exact⟨k3.1,L3.val M3 k3.2 rfl⟩
 ·obtain⟨ds,el,k⟩:=opt_ex k3
  obtain⟨p,vs,rfl,hp,ha⟩:=lv_is M3 i3 el
  exact⟨vs,hp,fun l hl=>al_n L3 M3 (ha.cut lo hi) k hl⟩
end
def fLen:DSp:=fun ds μ K=>match ds with
 | [.str z]=>z.length<=sizeLine/\K (.int z.length) μ
 | [.tup xs]=>K (.int xs.length) μ
 | [x]=>opt (lv μ x) fun xs=>K (.int xs.length) μ
 | _=>False
theorem so_len:SoCall rLenC fLen:=fun φ H vs ds μ K Q M h k L=>by
 unfold fLen at k
 split at k
 ·obtain⟨v,r,rfl,h1,h2⟩:=h;cases(show r=[]from h2);cases(show v=_ from h1);exact⟨k.1,L.val M k.2 rfl⟩
 ·obtain⟨v,r,rfl,h1,h2⟩:=h;cases(show r=[]from h2)
  obtain⟨p,vs,rfl,_,hp,ha⟩:=h1
  exact⟨vs,.inr hp,by rw[ha.len];exact L.val M k rfl⟩
 ·obtain⟨v,r,rfl,h1,h2⟩:=h;cases(show r=[]from h2)
  obtain⟨xs,el,k⟩:=opt_ex k
  obtain⟨p,vs,rfl,hp,ha⟩:=lv_is M h1 el
  exact⟨vs,.inl hp,by rw[ha.len];exact L.val M k rfl⟩
 ·exact k.elim
def fMax:DSp:=fun ds μ K=>match ds with | [.int i,.int j]=>K (.int (max i j)) μ | _=>False
theorem so_max:SoCall rMaxC fMax:=fun φ H vs ds μ K Q M h k L=>by
 unfold fMax at k
 split at k
 ·obtain⟨v,r,rfl,h1,u,r',rfl,h2,h3⟩:=h;cases(show r'=[]from h3);cases(show v=_ from h1);cases(show u=_ from h2);exact⟨_,_,rfl,L.val M k rfl⟩
 ·exact k.elim
def fMaxL:DSp:=fun ds μ K=>match ds with
 | [x]=>∃ ns:List Int,lv μ x=some (ns.map D.int)/\ns≠[]/\∀ m,m∈ns->(∀ y∈ns,y<=m)->K (.int m) μ
 | _=>False
theorem so_maxL:SoCall rMaxL fMaxL:=fun φ H vs ds μ K Q M h k L=>by
 unfold fMaxL at k
 split at k
 ·obtain⟨v,r,rfl,h1,h2⟩:=h;cases(show r=[]from h2)
  obtain⟨ns,el,hn,k⟩:=k
  obtain⟨p,vs,rfl,hp,ha⟩:=lv_is M h1 el
  exact⟨ns,by rw[hp,ha.ints],hn,fun m a b=>L.val M (k m a b) rfl⟩
 ·exact k.elim
def fAll (g:List Bool->Bool):DSp:=fun ds μ K=>match ds with
 | [x]=>∃ bs:List Bool,lv μ x=some (bs.map D.bl)/\K (.bl (g bs)) μ
 | _=>False
theorem so_all {g:List Bool->Bool}:SoCall (rAllC g) (fAll g):=fun φ H vs ds μ K Q M h k L=>by
 unfold fAll at k
 split at k
 ·obtain⟨v,r,rfl,h1,h2⟩:=h;cases(show r=[]from h2)
  obtain⟨bs,el,k⟩:=k
  obtain⟨p,vs,rfl,hp,ha⟩:=lv_is M h1 el
  exact⟨bs,by rw[hp,ha.bls],L.val M k rfl⟩
 ·exact k.elim
def fList (m:Bool):DSp:=fun ds μ K=>match ds with
 | [x]=>opt (lv μ x) fun xs=>nL m xs μ K
 | _=>False
theorem so_list {Kf:PySem.W.Frag}{m:Bool}:SoCall (rListC Kf) (fList m):=fun φ H vs ds μ K Q M h k L=>by
 unfold fList at k
 split at k
 ·obtain⟨v,r,rfl,h1,h2⟩:=h;cases(show r=[]from h2)
  obtain⟨xs,el,k⟩:=opt_ex k
  obtain⟨p,vs,rfl,hp,ha⟩:=lv_is M h1 el
  exact⟨vs,SqL.of hp,fun l hl=>al_n L M ha k hl⟩
 ·exact k.elim
def fJoin:DMt:=fun d ds μ K=>match d,ds with
 | .str z,[x]=>z.cps=#[]/\∃ ys:List Str,lv μ x=some (ys.map D.str)/\(ys.map (·.length)).sum<=16777216/\K (.str ⟨(ys.map (·.cps.toList)).flatten.toArray⟩) μ
 | _,_=>False
theorem so_join {Kf:PySem.W.Frag}:SoMt Kf "str" rJoinC fJoin:=fun φ H x vs d ds μ K Q M hx h k L=>by
 unfold fJoin at k
 split at k
 ·cases(show x=_ from hx)
  obtain⟨v,r,rfl,h1,h2⟩:=h;cases(show r=[]from h2)
  obtain⟨hz,ys,el,hs,k⟩:=k
  obtain⟨p,vs,rfl,hp,ha⟩:=lv_is M h1 el
  exact⟨hz,ys,by rw[hp,ha.strs],hs,L.val M k rfl⟩
 ·exact k.elim
def fFind:DMt:=fun d ds μ K=>match d,ds with
 | .str z,[.str y,.int i]=>∃ c:Nat,y=⟨#[c]⟩/\0<=i/\i<=z.length/\∀ r,findN z.cps.toList c i.toNat r->K (.int r) μ
 | _,_=>False
theorem so_find {Kf:PySem.W.Frag}:SoMt Kf "str" rFindC fFind:=fun φ H x vs d ds μ K Q M hx h k L=>by
 unfold fFind at k
 split at k
 ·cases(show x=_ from hx)
  obtain⟨v,r,rfl,h1,u,r',rfl,h2,h3⟩:=h;cases(show r'=[]from h3);cases(show v=_ from h1);cases(show u=_ from h2)
  obtain⟨c,rfl,h0,h1,k⟩:=k
  exact⟨_,c,_,rfl,rfl,h0,h1,fun r hr=>L.val M (k r hr) rfl⟩
 ·exact k.elim
theorem mr_at {φ:List Addr}{H:Hp}{μ:MS}{k:Nat}{x:V}{ds:List D}(M:MSis φ H μ)(hx:DIs φ H (.mr k) x)(e:μ[k]?=some (.lst ds)):∃ p vs,x=.ref p/\φ[k]?=some p/\H p=some (.lst vs)/\fc φ H ds vs:=by
 obtain⟨p,hp,rfl⟩:=hx
 obtain⟨q,e1,vs,hv,ha⟩:=M.at_ k _ e
 rw[hp]at e1;cases e1
 exact⟨p,vs,rfl,hp,hv,ha⟩
theorem mr_put {φ:List Addr}{H:Hp}{μ:MS}{K:DK}{Q:VK}{k:Nat}{p:Addr}{ds:List D}{vs:List V}{d:D}{v:V}(L:Lif φ H K Q)(M:MSis φ H μ)(hp:φ[k]?=some p)(ha:fc φ H ds vs)(hd:DIs φ H d v)(kk:K d (μ.set k (.lst ds))):Q v (upd H p (.lst vs)):=by
 have f:Fr φ H φ (upd H p (.lst vs)):=.put (gxD hp)
 exact L d _ φ v _ kk f (M.put hp ⟨_,fA,ha.mono f⟩) (hd.mono f)
def fAppend:DMt:=fun d ds μ K=>match d,ds with
 | .mr k,[y]=>opt (lvM μ k) fun xs=>xs.length<sizeLine/\K .non (μ.set k (.lst (xs++[y])))
 | _,_=>False
theorem so_append {Kf:PySem.W.Frag}:SoMt Kf "list" rAppendC fAppend:=fun φ H x vs d ds μ K Q M hx h k L=>by
 unfold fAppend at k
 split at k
 ·obtain⟨xs,em,k⟩:=opt_ex k
  ·obtain⟨p,us,rfl,hp,hv,ha⟩:=mr_at M hx (lvM_eq em)
   obtain⟨v,r,rfl,h1,h2⟩:=h;cases(show r=[]from h2)
   exact⟨_,_,us,rfl,rfl,hv,by rw[ha.len];exact k.1,mr_put (d:=.non) (v:=.non) L M hp (ha.app (show fc φ H [_] [v]from⟨v,[],rfl,h1,rfl⟩)) rfl k.2⟩
 ·exact k.elim
theorem so_ipI {f:Int->Int->Int}:SoIp (ipC f) (dI2' fun i j=>.int (f i j)):=fun φ H x y dx dy μ K Q M hx hy k L=>by
 unfold dI2' at k
 split at k
 ·cases(show x=_ from hx);cases(show y=_ from hy);exact L.val M k rfl
 ·exact k.elim
mutual
def deq:D->D->Bool
 | .non,.non=>true
 | .bl a,.bl b=>a==b
 | .bl a,.int b=>(if a then 1 else 0)==b
 | .int a,.bl b=>a==(if b then 1 else 0)
 | .int a,.int b=>a==b
 | .str a,.str b=>a==b
 | .lst xs,.lst ys=>deqL xs ys
 | .tup xs,.tup ys=>deqL xs ys
 | _,_=>false
def deqL:List D->List D->Bool
 | [],[]=>true
 | x::xs,y::ys=>deq x y&&deqL xs ys
 | _,_=>false
end
mutual
def puD:Nat->D->Prop
 | n+1,.lst ds=>puL n ds
 | n+1,.tup ds=>puL n ds
 | 0,.lst _=>False
 | 0,.tup _=>False
 | _,.dic _ _=>False
 | _,.mr _=>False
 | _,.obj _ _ _=>False
 | _,.fdc _ _=>False
 | _,.fn _=>False
 | _,_=>True
def puL:Nat->List D->Prop
 | _,[]=>True
 | n,d::ds=>puD n d/\puL n ds
end
theorem puL_get {n:Nat}:∀ {ds:List D} {i:Nat} {d:D},puL n ds->ds[i]?=some d->puD n d
 | [],_,_,_,e=>by simp at e
 | d::ds,0,d',h,e=>by simp at e;subst e;unfold puL at h;exact h.1
 | d::ds,i+1,d',h,e=>by unfold puL at h;exact puL_get (i:=i) h.2 (by simpa using e)
mutual
theorem deq_same {φ:List Addr}{H:Hp}:∀ {n:Nat} {d e:D} {v:V},puD n d->puD n e->DIs φ H d v->DIs φ H e v->deq d e=true:=fun {n d e v} pd pe hd he=>by
 cases d with
 | non=>cases(show v=_ from hd);cases e with
  | non=>rfl
  | lst _=>obtain⟨_,_,q,_⟩:=he;cases q
  | tup _=>obtain⟨_,_,q,_⟩:=he;cases q
  | dic _ _=>obtain⟨_,_,_,q,_⟩:=he;cases q
  | mr _=>obtain⟨_,_,q⟩:=he;cases q
  | obj _ _ _=>obtain⟨_,_,_,_,q,_⟩:=he;cases q
  | fdc _ _=>obtain⟨_,_,_,_,q,_⟩:=he;cases q
  | _=>cases(show _=_ from he)
 | bl b=>cases(show v=_ from hd);cases e with
  | bl c=>cases(show _=_ from he);simp[deq]
  | lst _=>obtain⟨_,_,q,_⟩:=he;cases q
  | tup _=>obtain⟨_,_,q,_⟩:=he;cases q
  | dic _ _=>obtain⟨_,_,_,q,_⟩:=he;cases q
  | mr _=>obtain⟨_,_,q⟩:=he;cases q
  | obj _ _ _=>obtain⟨_,_,_,_,q,_⟩:=he;cases q
  | fdc _ _=>obtain⟨_,_,_,_,q,_⟩:=he;cases q
  | _=>cases(show _=_ from he)
 | int b=>cases(show v=_ from hd);cases e with
  | int c=>cases(show _=_ from he);simp[deq]
  | lst _=>obtain⟨_,_,q,_⟩:=he;cases q
  | tup _=>obtain⟨_,_,q,_⟩:=he;cases q
  | dic _ _=>obtain⟨_,_,_,q,_⟩:=he;cases q
  | mr _=>obtain⟨_,_,q⟩:=he;cases q
  | obj _ _ _=>obtain⟨_,_,_,_,q,_⟩:=he;cases q
  | fdc _ _=>obtain⟨_,_,_,_,q,_⟩:=he;cases q
  | _=>cases(show _=_ from he)
 | str b=>cases(show v=_ from hd);cases e with
  | str c=>cases(show _=_ from he);simp[deq]
  | lst _=>obtain⟨_,_,q,_⟩:=he;cases q
  | tup _=>obtain⟨_,_,q,_⟩:=he;cases q
  | dic _ _=>obtain⟨_,_,_,q,_⟩:=he;cases q
  | mr _=>obtain⟨_,_,q⟩:=he;cases q
  | obj _ _ _=>obtain⟨_,_,_,_,q,_⟩:=he;cases q
  | fdc _ _=>obtain⟨_,_,_,_,q,_⟩:=he;cases q
  | _=>cases(show _=_ from he)
 | lst ds =>
  obtain⟨p,vs,rfl,_,hp,ha⟩:=hd
  cases n with
  | zero=>exact absurd pd (by unfold puD;exact id)
  | succ n =>
   cases e with
   | lst es =>
    obtain⟨p',vs',q,_,hp',ha'⟩:=he;cases q
    rw[hp]at hp';cases hp'
    unfold puD at pd pe
    unfold deq
    exact deqL_same pd pe ha ha'
   | tup es=>obtain⟨p',vs',q,_,hp',ha'⟩:=he;cases q;rw[hp]at hp';cases hp'
   | dic _ _=>exact absurd pe (by unfold puD;exact id)
   | mr _=>exact absurd pe (by unfold puD;exact id)
   | obj _ _ _=>exact absurd pe (by unfold puD;exact id)
   | fdc _ _=>exact absurd pe (by unfold puD;exact id)
   | fn _=>exact absurd pe (by unfold puD;exact id)
   | _=>cases(show _=_ from he)
 | tup ds =>
  obtain⟨p,vs,rfl,_,hp,ha⟩:=hd
  cases n with
  | zero=>exact absurd pd (by unfold puD;exact id)
  | succ n =>
   cases e with
   | tup es =>
    obtain⟨p',vs',q,_,hp',ha'⟩:=he;cases q
    rw[hp]at hp';cases hp'
    unfold puD at pd pe
    unfold deq
    exact deqL_same pd pe ha ha'
   | lst es=>obtain⟨p',vs',q,_,hp',ha'⟩:=he;cases q;rw[hp]at hp';cases hp'
   | dic _ _=>exact absurd pe (by unfold puD;exact id)
   | mr _=>exact absurd pe (by unfold puD;exact id)
   | obj _ _ _=>exact absurd pe (by unfold puD;exact id)
   | fdc _ _=>exact absurd pe (by unfold puD;exact id)
   | fn _=>exact absurd pe (by unfold puD;exact id)
   | _=>cases(show _=_ from he)
 | dic _ _=>exact absurd pd (by cases n <;> (unfold puD;exact id))
 | mr _=>exact absurd pd (by cases n <;> (unfold puD;exact id))
 | obj _ _ _=>exact absurd pd (by cases n <;> (unfold puD;exact id))
 | fdc _ _=>exact absurd pd (by cases n <;> (unfold puD;exact id))
 | fn _=>exact absurd pd (by cases n <;> (unfold puD;exact id))
theorem deqL_same {φ:List Addr}{H:Hp}:∀ {n:Nat} {ds es:List D} {vs:List V},puL n ds->puL n es->fc φ H ds vs->fc φ H es vs->deqL ds es=true:=fun {n ds es vs} pd pe hd he=>by
 cases ds with
 | nil =>
  cases(show vs=[]from hd)
  cases es with
  | nil=>unfold deqL;rfl
  | cons e es=>obtain⟨_,_,q,_⟩:=he;cases q
 | cons d ds =>
  obtain⟨v,r,rfl,h1,h2⟩:=hd
  cases es with
  | nil=>cases(show _=_ from he)
  | cons e es =>
   obtain⟨v',r',q,h3,h4⟩:=he
   cases q
   unfold puL at pd pe
   unfold deqL
   rw[deq_same pd.1 pe.1 h1 h3,deqL_same pd.2 pe.2 h2 h4]
   rfl
end
theorem deqL_len:∀ {ds es:List D},ds.length≠es.length->deqL ds es=false
 | [],[],h=>absurd rfl h
 | [],_::_,_=>by unfold deqL;rfl
 | _::_,[],_=>by unfold deqL;rfl
 | d::ds,e::es,h=>by unfold deqL;rw[deqL_len (ds:=ds) (es:=es) (by simpa using h),d4]
def atEq (ds es:List D)(j:Nat):Bool:=match ds[j]?,es[j]? with | some a,some b=>deq a b | _,_=>true
theorem range_succ_all (n:Nat)(f:Nat->Bool):(List.range (n+1)).all f=(f 0&&(List.range n).all fun j=>f (j+1)):=by
 rw[dW,cn,List.all_map];rfl
theorem deqL_range:∀(ds es:List D),ds.length=es.length->(List.range ds.length).all (atEq ds es)=deqL ds es
 | [],[],_=>by unfold deqL;rfl
 | [],_::_,h=>by simp at h
 | _::_,[],h=>by simp at h
 | d::ds,e::es,h=>by
  rw[aX,range_succ_all]
  unfold deqL
  have ih:=deqL_range ds es (by simpa using h)
  have e1:(fun j=>atEq (d::ds) (e::es) (j+1))=atEq ds es:=by funext j;unfold atEq;simp
  rw[e1,ih]
  rfl
section
variable {X:Cx}{pins:List (Addr×Obj)}{σ:St}{H:Hp}{s:Shared}{φ:List Addr}
theorem val_at {xs:List V}{us:List Value}(r:Vals xs us){j:Nat}(h1:j<us.toArray.size):∃ x,xs[j]?=some x/\RelV x us.toArray[j]:=by
 have hj:j<us.length:=by rwa [ah]at h1
 have hx:j<xs.length:=by rw[r.length];exact hj
 obtain⟨u,eu,ru⟩:=r.get (gxA hx)
 refine⟨_,gxA hx,?_⟩
 have:us.toArray[j]=u:=by have:=gxB eu;simpa using this.2
 rw[this];exact ru
theorem seq_of (I:Inv X pins σ H s){d:D}{x:V}{u:Value}{n:Nat}(pd:puD n d)(hd:DIs φ H d x)(ru:RelV x u):(∀ p,u≠.ref p)\/∃ p fw ds vs,u=.ref p/\Vals vs fw/\fc φ H ds vs/\∃ m,n=m+1/\puL m ds/\((d=.lst ds/\s.heap.IsList p fw.toArray)\/(d=.tup ds/\s.heap.IsTuple p fw.toArray)):=by
 cases d with
 | non=>cases(show x=_ from hd);cases ru;exact .inl fun p q=>by cases q
 | bl b=>cases(show x=_ from hd);cases ru;exact .inl fun p q=>by cases q
 | int b=>cases(show x=_ from hd);obtain⟨t,rfl⟩:=ru;exact .inl fun p q=>by cases q
 | str b=>cases(show x=_ from hd);obtain⟨t,rfl⟩:=ru;exact .inl fun p q=>by cases q
 | lst ds =>
  obtain⟨p,vs,rfl,_,hp,ha⟩:=hd
  cases ru
  obtain⟨_,fw,k,r,_,ho⟩:=I.lstM hp
  cases n with
  | zero=>exact absurd pd (by unfold puD;exact id)
  | succ n=>exact .inr ⟨p,fw,ds,vs,rfl,r,ha,n,rfl,(by unfold puD at pd;exact pd),.inl ⟨rfl,⟨_,ho,rfl,k,rfl⟩⟩⟩
 | tup ds =>
  obtain⟨p,vs,rfl,_,hp,ha⟩:=hd
  cases ru
  obtain⟨_,fw,r,ho⟩:=(show ObjOk X.prog X.w H s.heap p (.tup vs)from I.hok p _ hp)
  cases n with
  | zero=>exact absurd pd (by unfold puD;exact id)
  | succ n=>exact .inr ⟨p,fw,ds,vs,rfl,r,ha,n,rfl,(by unfold puD at pd;exact pd),.inr ⟨rfl,ho⟩⟩
 | dic _ _=>exact absurd pd (by cases n <;> (unfold puD;exact id))
 | mr _=>exact absurd pd (by cases n <;> (unfold puD;exact id))
 | obj _ _ _=>exact absurd pd (by cases n <;> (unfold puD;exact id))
 | fdc _ _=>exact absurd pd (by cases n <;> (unfold puD;exact id))
 | fn _=>exact absurd pd (by cases n <;> (unfold puD;exact id))
theorem flat_of {n:Nat}{d:D}{x:V}(pd:puD n d)(hd:DIs φ H d x)(fx:flatV x=true):(d=.non/\x=.non)\/(∃ b,d=.bl b/\x=.bl b)\/(∃ b,d=.int b/\x=.int b)\/∃ b,d=.str b/\x=.str b:=by
 cases d with
 | non=>exact .inl ⟨rfl,hd⟩
 | bl b=>exact .inr (.inl ⟨b,rfl,hd⟩)
 | int b=>exact .inr (.inr (.inl ⟨b,rfl,hd⟩))
 | str b=>exact .inr (.inr (.inr ⟨b,rfl,hd⟩))
 | lst ds=>obtain⟨p,vs,rfl,_⟩:=hd;cases fx
 | tup ds=>obtain⟨p,vs,rfl,_⟩:=hd;cases fx
 | dic _ _=>exact absurd pd (by cases n <;> (unfold puD;exact id))
 | mr _=>exact absurd pd (by cases n <;> (unfold puD;exact id))
 | obj _ _ _=>exact absurd pd (by cases n <;> (unfold puD;exact id))
 | fdc _ _=>exact absurd pd (by cases n <;> (unfold puD;exact id))
 | fn _=>exact absurd pd (by cases n <;> (unfold puD;exact id))
theorem rc_seq (I:Inv X pins σ H s)(n:Nat)(A:Around)(ds es:List D)(vs ws:List V)(fw jts:List Value)(p q:Addr)(hu:A.units<cLine)
 (ih:∀(d e:D) (x y:V) (u v:Value),puD n d->puD n e->DIs φ H d x->DIs φ H e y->RelV x u->RelV y v->SeqAt.EqAt A.in1 s u v (deq d e)) (pd:puL n ds) (pe:puL n es) (hd:fc φ H ds vs) (he:fc φ H es ws) (rv:Vals vs fw) (rw':Vals ws jts) :
 (s.heap.IsList p fw.toArray->s.heap.IsList q jts.toArray->SeqAt.RcAt A s (.ref p) (.ref q) (deqL ds es))/\(s.heap.IsTuple p fw.toArray->s.heap.IsTuple q jts.toArray->SeqAt.RcAt A s (.ref p) (.ref q) (deqL ds es)):=by
 have l1:fw.toArray.size=ds.length:=by rw[ah,<- rv.length,hd.len]
 have l2:jts.toArray.size=es.length:=by rw[ah,<- rw'.length,he.len]
 have el:∀ j (h1:j<fw.toArray.size) (h2:j<jts.toArray.size),SeqAt.EqAt A.in1 s fw.toArray[j] jts.toArray[j] (atEq ds es j):=fun j h1 h2=>by
  obtain⟨x,ex,rx⟩:=val_at rv h1
  obtain⟨y,ey,ry⟩:=val_at rw' h2
  obtain⟨d,ed,id'⟩:=hd.getV ex
  obtain⟨e,ee,ie⟩:=he.getV ey
  have q:atEq ds es j=deq d e:=by unfold atEq;rw[ed,ee]
  rw[q]
  exact ih d e x y _ _ (puL_get pd ed) (puL_get pe ee) id' ie rx ry
 constructor
 ·intro hl hq
  by_cases hlen:ds.length=es.length
  ·have:=SeqAt.RcAt.lists hl hq (by rw[l1,l2,hlen]) hu el
   rw[l1,deqL_range ds es hlen]at this
   exact this
  ·rw[deqL_len hlen]
   exact SeqAt.RcAt.lists_lengths hl hq (by rw[l1,l2];simpa using hlen) hu
 ·intro hl hq
  have:=SeqAt.RcAt.tuples hl hq hu el
  rw[l1,l2]at this
  by_cases hlen:ds.length=es.length
  ·rw[<- hlen,Nat.min_self,deqL_range ds es hlen]at this
   simpa using this
  ·rw[deqL_len hlen]
   have e0:(ds.length==es.length)=false:=by simpa using hlen
   rw[e0,d4]at this
   exact this
theorem eqAt_D (I:Inv X pins σ H s):∀(n:Nat) (A:Around) (d e:D) (x y:V) (u v:Value),A.units+n<cLine->puD n d->puD n e->DIs φ H d x->DIs φ H e y->RelV x u->RelV y v->SeqAt.EqAt A s u v (deq d e):=by
 intro n
 induction n with
 | zero =>
  intro A d e x y u v hu pd pe hd he ru rv
  have fl:∀ {d:D} {x:V},puD 0 d->DIs φ H d x->flatV x=true:=fun {d x} pd hd=>by
   cases d with
   | non=>cases(show x=_ from hd);rfl
   | bl b=>cases(show x=_ from hd);rfl
   | int b=>cases(show x=_ from hd);rfl
   | str b=>cases(show x=_ from hd);rfl
   | _=>exact absurd pd (by unfold puD;exact id)
  have q:=eqAt_V (A:=A) (s:=s) ru rv (fl pd hd) (fl pe he)
  have eq:eqV x y=deq d e:=by
   cases d <;> first
    | exact absurd pd (by unfold puD;exact id)
    | (cases(show x=_ from hd)
       cases e <;> first
        | exact absurd pe (by unfold puD;exact id)
        | (cases(show y=_ from he);unfold eqV deq;rfl))
  rw[eq]at q
  exact q
 | succ n ih =>
  intro A d e x y u v hu pd pe hd he ru rv
  have hu0:A.units<cLine:=by omega
  have hu1:A.in1.units+n<cLine:=by show A.units+1+n<cLine;omega
  rcases seq_of I pd hd ru with fd | ⟨p,fw,ds,vs,rfl,r1,a1,m1,e1,p1,k1⟩
  ·rcases seq_of I pe he rv with fe | ⟨q,jts,es,ws,rfl,r2,a2,m2,e2,p2,k2⟩
   ·have fl:∀ {d:D} {x:V} {u:Value},puD (n+1) d->DIs φ H d x->RelV x u->(∀ p,u≠.ref p)->flatV x=true:=fun {d x u} pd hd ru fu=>by
     cases d with
     | non=>cases(show x=_ from hd);rfl
     | bl b=>cases(show x=_ from hd);rfl
     | int b=>cases(show x=_ from hd);rfl
     | str b=>cases(show x=_ from hd);rfl
     | lst ds=>obtain⟨p,vs,rfl,_⟩:=hd;cases ru;exact absurd rfl (fu p)
     | tup ds=>obtain⟨p,vs,rfl,_⟩:=hd;cases ru;exact absurd rfl (fu p)
     | _=>exact absurd pd (by unfold puD;exact id)
    have fx:=fl pd hd ru fd
    have fy:=fl pe he rv fe
    have q:=eqAt_V (A:=A) (s:=s) ru rv fx fy
    have eq:eqV x y=deq d e:=by
     rcases flat_of pd hd fx with⟨rfl,rfl⟩ | ⟨b,rfl,rfl⟩ | ⟨b,rfl,rfl⟩ | ⟨b,rfl,rfl⟩<;>
     rcases flat_of pe he fy with⟨rfl,rfl⟩ | ⟨c,rfl,rfl⟩ | ⟨c,rfl,rfl⟩ | ⟨c,rfl,rfl⟩<;> (unfold eqV deq;rfl)
    rw[eq]at q
    exact q
   ·rcases k2 with⟨rfl,hl⟩ | ⟨rfl,hl⟩
    ·cases d with
     | non=>cases(show x=_ from hd);cases ru;exact SeqAt.EqAt.none_list hl hu0
     | bl b=>cases(show x=_ from hd);cases ru;exact SeqAt.EqAt.bool_list b hl hu0
     | int b=>cases(show x=_ from hd);obtain⟨t,rfl⟩:=ru;exact SeqAt.EqAt.int_list b t hl hu0
     | str b=>cases(show x=_ from hd);obtain⟨t,rfl⟩:=ru;exact SeqAt.EqAt.str_list b t hl hu0
     | lst _=>obtain⟨_,_,rfl,_⟩:=hd;cases ru;exact absurd rfl (fd _)
     | tup _=>obtain⟨_,_,rfl,_⟩:=hd;cases ru;exact absurd rfl (fd _)
     | _=>exact absurd pd (by unfold puD;exact id)
    ·cases d with
     | non=>cases(show x=_ from hd);cases ru;exact SeqAt.EqAt.none_tuple hl hu0
     | bl b=>cases(show x=_ from hd);cases ru;exact SeqAt.EqAt.bool_tuple b hl hu0
     | int b=>cases(show x=_ from hd);obtain⟨t,rfl⟩:=ru;exact SeqAt.EqAt.int_tuple b t hl hu0
     | str b=>cases(show x=_ from hd);obtain⟨t,rfl⟩:=ru;exact SeqAt.EqAt.str_tuple b t hl hu0
     | lst _=>obtain⟨_,_,rfl,_⟩:=hd;cases ru;exact absurd rfl (fd _)
     | tup _=>obtain⟨_,_,rfl,_⟩:=hd;cases ru;exact absurd rfl (fd _)
     | _=>exact absurd pd (by unfold puD;exact id)
  ·rcases seq_of I pe he rv with fe | ⟨q,jts,es,ws,rfl,r2,a2,m2,e2,p2,k2⟩
   ·rcases k1 with⟨rfl,hl⟩ | ⟨rfl,hl⟩
    ·cases e with
     | non=>cases(show y=_ from he);cases rv;exact SeqAt.EqAt.list_none hl hu0
     | bl b=>cases(show y=_ from he);cases rv;exact SeqAt.EqAt.list_bool b hl hu0
     | int b=>cases(show y=_ from he);obtain⟨t,rfl⟩:=rv;exact SeqAt.EqAt.list_int b t hl hu0
     | str b=>cases(show y=_ from he);obtain⟨t,rfl⟩:=rv;exact SeqAt.EqAt.list_str b t hl hu0
     | lst _=>obtain⟨_,_,rfl,_⟩:=he;cases rv;exact absurd rfl (fe _)
     | tup _=>obtain⟨_,_,rfl,_⟩:=he;cases rv;exact absurd rfl (fe _)
     | _=>exact absurd pe (by unfold puD;exact id)
    ·cases e with
     | non=>cases(show y=_ from he);cases rv;exact SeqAt.EqAt.tuple_none hl hu0
     | bl b=>cases(show y=_ from he);cases rv;exact SeqAt.EqAt.tuple_bool b hl hu0
     | int b=>cases(show y=_ from he);obtain⟨t,rfl⟩:=rv;exact SeqAt.EqAt.tuple_int b t hl hu0
     | str b=>cases(show y=_ from he);obtain⟨t,rfl⟩:=rv;exact SeqAt.EqAt.tuple_str b t hl hu0
     | lst _=>obtain⟨_,_,rfl,_⟩:=he;cases rv;exact absurd rfl (fe _)
     | tup _=>obtain⟨_,_,rfl,_⟩:=he;cases rv;exact absurd rfl (fe _)
     | _=>exact absurd pe (by unfold puD;exact id)
   ·cases e1;cases e2
    have rc:=rc_seq I n A ds es vs ws fw jts p q hu0 (fun d e x y u v a b c d' e' f'=>ih A.in1 d e x y u v hu1 a b c d' e' f') p1 p2 a1 a2 r1 r2
    by_cases hpq:p=q
    ·subst hpq
     have hv:x=y:=ru.inj rv
     subst hv
     rw[deq_same pd pe hd he]
     exact SeqAt.EqAt.same _
    ·rcases k1 with⟨rfl,hl⟩ | ⟨rfl,hl⟩<;> rcases k2 with⟨rfl,hl2⟩ | ⟨rfl,hl2⟩
     ·unfold deq;exact .of_refs hpq (rc.1 hl hl2)
     ·unfold deq;exact SeqAt.EqAt.list_tuple hl hl2 hu0
     ·unfold deq;exact SeqAt.EqAt.tuple_list hl hl2 hu0
     ·unfold deq;exact .of_refs hpq (rc.2 hl hl2)
end
end L2
namespace L2
open PySem PySem.Spec PyProof.Rows
section
variable {X:Cx}
def sqs:D->D->Option (List D×List D)
 | .lst xs,.lst ys=>some (xs,ys)
 | .tup xs,.tup ys=>some (xs,ys)
 | _,_=>none
def rDeq (n:Nat)(neg:Bool):R2:=fun x y H Q=>∃ φ d e,puD n d/\puD n e/\DIs φ H d x/\DIs φ H e y/\(sqs d e).isSome=true/\Q (.bl (neg != deq d e)) H
theorem two_seq {pins:List (Addr×Obj)}{s:Shared}{σ:St}{H:Hp}{φ:List Addr}{n:Nat}{d e:D}{x y:V}{u v:Value}(I:Inv X pins σ H s)(pd:puD n d)(pe:puD n e)(hd:DIs φ H d x)(he:DIs φ H e y)(rx:RelV x u)(ry:RelV y v)(hs:(sqs d e).isSome=true) :
 ∃ p q fw jts ds es vs ws m,u=.ref p/\v=.ref q/\n=m+1/\Vals vs fw/\Vals ws jts/\fc φ H ds vs/\fc φ H es ws/\puL m ds/\puL m es/\((d=.lst ds/\e=.lst es/\s.heap.IsList p fw.toArray/\s.heap.IsList q jts.toArray)\/(d=.tup ds/\e=.tup es/\s.heap.IsTuple p fw.toArray/\s.heap.IsTuple q jts.toArray)):=by
 rcases seq_of I pd hd rx with fd | ⟨p,fw,ds,vs,rfl,r1,a1,m1,e1,p1,k1⟩
 ·cases d with
  | lst _=>obtain⟨_,_,rfl,_⟩:=hd;cases rx;exact absurd rfl (fd _)
  | tup _=>obtain⟨_,_,rfl,_⟩:=hd;cases rx;exact absurd rfl (fd _)
  | _=>cases hs
 ·rcases seq_of I pe he ry with fe | ⟨q',jts,es,ws,rfl,r2,a2,m2,e2,p2,k2⟩
  ·cases e with
   | lst _=>obtain⟨_,_,rfl,_⟩:=he;cases ry;exact absurd rfl (fe _)
   | tup _=>obtain⟨_,_,rfl,_⟩:=he;cases ry;exact absurd rfl (fe _)
   | _=>cases d <;> cases hs
  ·subst e1
   cases e2
   refine⟨p,q',fw,jts,ds,es,vs,ws,m1,rfl,rfl,rfl,r1,r2,a1,a2,p1,p2,?_⟩
   rcases k1 with⟨rfl,hl⟩ | ⟨rfl,hl⟩<;> rcases k2 with⟨rfl,hl2⟩ | ⟨rfl,hl2⟩
   ·exact .inl ⟨rfl,rfl,hl,hl2⟩
   ·cases hs
   ·cases hs
   ·exact .inr ⟨rfl,rfl,hl,hl2⟩
theorem eqDeep {n:Nat}(hu:X.A.units+n<cLine):OpR X (compareOp .Eq) (rDeq n false):=by
 intro pins s σ H x y u v Q I rx ry h
 obtain⟨φ,d,e,pd,pe,hd,he,hs,q⟩:=h
 obtain⟨p,q',fw,jts,ds,es,vs,ws,m1,rfl,rfl,rfl,r1,r2,a1,a2,p1,p2,kk⟩:=two_seq I pd pe hd he rx ry hs
 have rc:=rc_seq I m1 X.A ds es vs ws fw jts p q' (by omega) (fun d e x y u v a b c d' e' f'=>eqAt_D I m1 X.A.in1 d e x y u v (by show X.A.units+1+m1<cLine;omega) a b c d' e' f') p1 p2 a1 a2 r1 r2
 rcases kk with⟨rfl,rfl,hl,hl2⟩ | ⟨rfl,rfl,hl,hl2⟩
 ·unfold deq at q;exact rc.1 hl hl2 X.prog X.w X.xe _ ⟨.bl _,H,I,rfl,by rw[fne]at q;exact q⟩
 ·unfold deq at q;exact rc.2 hl hl2 X.prog X.w X.xe _ ⟨.bl _,H,I,rfl,by rw[fne]at q;exact q⟩
theorem neDeep {n:Nat}(hu:X.A.units+n<cLine):OpR X (compareOp .NotEq) (rDeq n true):=by
 intro pins s σ H x y u v Q I rx ry h
 obtain⟨φ,d,e,pd,pe,hd,he,hs,q⟩:=h
 obtain⟨p,q',fw,jts,ds,es,vs,ws,m1,rfl,rfl,rfl,r1,r2,a1,a2,p1,p2,kk⟩:=two_seq I pd pe hd he rx ry hs
 have l1:fw.toArray.size=ds.length:=by rw[ah,<- r1.length,a1.len]
 have l2:jts.toArray.size=es.length:=by rw[ah,<- r2.length,a2.len]
 have el:∀ j (h1:j<fw.toArray.size) (h2:j<jts.toArray.size),SeqAt.EqAt X.A.in1 s fw.toArray[j] jts.toArray[j] (atEq ds es j):=fun j h1 h2=>by
  obtain⟨x,ex,rx⟩:=val_at r1 h1
  obtain⟨y,ey,ry⟩:=val_at r2 h2
  obtain⟨d,ed,id'⟩:=a1.getV ex
  obtain⟨e,ee,ie⟩:=a2.getV ey
  have q:atEq ds es j=deq d e:=by unfold atEq;rw[ed,ee]
  rw[q]
  exact eqAt_D I m1 X.A.in1 d e x y _ _ (by show X.A.units+1+m1<cLine;omega) (puL_get p1 ed) (puL_get p2 ee) id' ie rx ry
 have fin:Q (.bl (!deqL ds es)) H->EP X pins σ Q (.bool (!deqL ds es)) s:=fun q=>⟨.bl _,H,I,rfl,q⟩
 rcases kk with⟨rfl,rfl,hl,hl2⟩ | ⟨rfl,rfl,hl,hl2⟩
 ·unfold deq at q
  rw[tne]at q
  by_cases hlen:ds.length=es.length
  ·have:=SeqAt.RcNeAt.lists hl hl2 (by rw[l1,l2,hlen]) (by omega) el
   rw[l1,deqL_range ds es hlen]at this
   exact this X.prog X.w X.xe _ (fin q)
  ·have t:=fin q
   rw[deqL_len hlen]at t
   exact SeqAt.RcNeAt.lists_lengths hl hl2 (by rw[l1,l2];simpa using hlen) (by omega) X.prog X.w X.xe _ t
 ·unfold deq at q
  rw[tne]at q
  have this:=SeqAt.RcNeAt.tuples hl hl2 (by omega) el
  rw[l1,l2]at this
  by_cases hlen:ds.length=es.length
  ·rw[<- hlen,Nat.min_self,deqL_range ds es hlen]at this
   exact this X.prog X.w X.xe _ (by simpa using fin q)
  ·have t:=fin q
   rw[deqL_len hlen]at t
   have e0:(ds.length==es.length)=false:=by simpa using hlen
   rw[e0,d4]at this
   exact this X.prog X.w X.xe _ t
def dEqD (n:Nat)(neg:Bool):DOp:=fun x y μ K=>puD n x/\puD n y/\(sqs x y).isSome=true/\K (.bl (neg != deq x y)) μ
theorem so_eqD {n:Nat}{neg:Bool}:SoOp (rDeq n neg) (dEqD n neg):=fun φ H x y dx dy μ K Q M hx hy k L=>⟨φ,dx,dy,k.1,k.2.1,hx,hy,k.2.2.1,L.val M k.2.2.2 rfl⟩
end
def fltD:D->Bool
 | .non=>true
 | .bl _=>true
 | .int _=>true
 | .str _=>true
 | _=>false
section
variable {X:Cx}
def rInC (neg:Bool):R2:=fun x y H Q=>match x,y with
 | .str z,.str t=>∃ c:Nat,z=⟨#[c]⟩/\Q (.bl (neg != decide (c∈t.cps.toList))) H
 | x,.ref p=>∃ xs,(H p=some (.lst xs)\/H p=some (.tup xs))/\flatV x=true/\xs.all flatV=true/\Q (.bl (neg != inV x xs)) H
 | _,_=>False
theorem inC:OpR X (compareOp .In) (rInC false):=(op_in_str.or op_in_seq).imp fun x y H Q q=>by
 unfold rInC at q
 split at q
 ·obtain⟨c,rfl,q⟩:=q
  exact .inl ⟨_,_,rfl,rfl,by rw[StrLaws.found_one];rw[fne]at q;exact q⟩
 ·obtain⟨xs,h,h1,h2,q⟩:=q
  rw[fne]at q
  rcases h with h | h
  ·exact .inr ⟨_,xs,rfl,.inl (SqL.of h),h1,h2,q⟩
  ·exact .inr ⟨_,xs,rfl,.inr (SqT.of h),h1,h2,q⟩
 ·exact q.elim
theorem notInC:OpR X (compareOp .NotIn) (rInC true):=(op_notIn_str.or op_notIn_seq).imp fun x y H Q q=>by
 unfold rInC at q
 split at q
 ·obtain⟨c,rfl,q⟩:=q
  exact .inl ⟨_,_,rfl,rfl,by rw[StrLaws.found_one];rw[tne]at q;exact q⟩
 ·obtain⟨xs,h,h1,h2,q⟩:=q
  rw[tne]at q
  rcases h with h | h
  ·exact .inr ⟨_,xs,rfl,.inl (SqL.of h),h1,h2,q⟩
  ·exact .inr ⟨_,xs,rfl,.inr (SqT.of h),h1,h2,q⟩
 ·exact q.elim
end
def dIn (neg:Bool):DOp:=fun x y μ K=>match x,y with
 | .str z,.str t=>∃ c:Nat,z=⟨#[c]⟩/\K (.bl (neg != decide (c∈t.cps.toList))) μ
 | x,y=>opt (lv μ y) fun ds=>fltD x=true/\ds.all fltD=true/\K (.bl (neg != ds.any fun d=>deq d x)) μ
theorem flt_is {φ:List Addr}{H:Hp}{d:D}{v:V}(i:DIs φ H d v)(h:fltD d=true):flatV v=true:=by
 cases d <;> first | exact(Bool.noConfusion (show false=true from h)) | (cases(show v=_ from i);rfl)
theorem flt_eq {φ:List Addr}{H:Hp}{d e:D}{v u:V}(i:DIs φ H d v)(j:DIs φ H e u)(h:fltD d=true)(h':fltD e=true):eqV v u=deq d e:=by
 cases d <;> first
  | exact(Bool.noConfusion (show false=true from h))
  | (cases(show v=_ from i)
     cases e <;> first
      | exact(Bool.noConfusion (show false=true from h'))
      | (cases(show u=_ from j);unfold eqV deq;rfl))
theorem flt_all {φ:List Addr}{H:Hp}{x:D}{v:V}(i:DIs φ H x v)(hx:fltD x=true):∀ {ds:List D} {vs:List V},fc φ H ds vs->ds.all fltD=true->vs.all flatV=true/\inV v vs=ds.any fun d=>deq d x
 | [],_,h,_=>by cases(show _=[]from h);exact⟨rfl,rfl⟩
 | d::ds,_,h,f=>by
  obtain⟨u,r,rfl,h1,h2⟩:=h
  rw[cn,bh]at f
  obtain⟨a,b⟩:=flt_all i hx h2 f.2
  unfold inV at b ⊢
  rw[cn,cY,cY,a,b,flt_is h1 f.1,flt_eq h1 i f.1 hx]
  exact⟨rfl,rfl⟩
theorem so_in {neg:Bool}:SoOp (rInC neg) (dIn neg):=fun φ H x y dx dy μ K Q M hx hy k L=>by
 unfold dIn at k
 split at k
 ·cases(show x=_ from hx);cases(show y=_ from hy)
  obtain⟨c,rfl,k⟩:=k
  exact⟨c,rfl,L.val M k rfl⟩
 ·obtain⟨ds,el,f1,f2,k⟩:=opt_ex k
  obtain⟨p,vs,rfl,hp,ha⟩:=lv_is M hy el
  obtain⟨a,b⟩:=flt_all hx f1 ha f2
  have fx:=flt_is hx f1
  have key:∃ xs,(H p=some (.lst xs)\/H p=some (.tup xs))/\flatV x=true/\xs.all flatV=true/\Q (.bl (neg != inV x xs)) H:=⟨vs,.inl hp,fx,a,by rw[b];exact L.val M k rfl⟩
  unfold rInC
  cases x <;> exact key
def tyN:D->MS->Option String
 | .non,_=>some "NoneType"
 | .bl _,_=>some "bool"
 | .int _,_=>some "int"
 | .str _,_=>some "str"
 | .lst _,_=>some "list"
 | .tup _,_=>some "tuple"
 | .dic _ _,_=>some "dict"
 | .mr k,μ=>match μ[k]? with | some (.lst _)=>some "list" | some (.dic _ _)=>some "dict" | _=>none
 | .obj _ _ _,_=>none
 | .fdc _ _,_=>none
 | .fn _,_=>none
def isiT (t T:String):Bool:=t==T||(t == "bool"&&T == "int")
def dIsi (T:String)(w:De):De:=fun ρ μ K=>w ρ μ fun d fB=>opt (tyN d fB) fun t=>K (.bl (isiT t T)) fB
theorem kit_ok (K:PySem.W.Frag){t T:String}(ht:t∈["NoneType", "bool", "int", "str", "list", "tuple", "dict"])(hT:T∈["bool", "int", "str", "list", "tuple", "dict"]):PySem.W.kitOne K (.type t) (.type T)=some (isiT t T):=by
 simp only[aH,aw,bz]at ht hT
 rcases ht with rfl | rfl | rfl | rfl | rfl | rfl | rfl <;> rcases hT with rfl | rfl | rfl | rfl | rfl | rfl <;> first | rfl | exact kit_same K _
theorem tyN_is {φ:List Addr}{H:Hp}{μ:MS}{Kf:PySem.W.Frag}{d:D}{v:V}{t:String}(M:MSis φ H μ)(i:DIs φ H d v)(e:tyN d μ=some t):TyOf Kf H v (.type t)/\t∈["NoneType", "bool", "int", "str", "list", "tuple", "dict"]:=by
 cases d with
 | non=>cases e;cases(show v=_ from i);exact⟨.non,by simp⟩
 | bl b=>cases e;cases(show v=_ from i);exact⟨.bl b,by simp⟩
 | int b=>cases e;cases(show v=_ from i);exact⟨.int b,by simp⟩
 | str b=>cases e;cases(show v=_ from i);exact⟨.str b,by simp⟩
 | lst ds=>cases e;obtain⟨p,vs,rfl,_,hp,_⟩:=i;exact⟨.lst hp,by simp⟩
 | tup ds=>cases e;obtain⟨p,vs,rfl,_,hp,_⟩:=i;exact⟨.tup hp,by simp⟩
 | dic ks ds=>cases e;obtain⟨p,eW,vs,rfl,_,hp,_⟩:=i;exact⟨.dK hp,by simp⟩
 | obj _ _ _=>cases e
 | fdc _ _=>cases e
 | fn _=>cases e
 | mr k =>
  unfold tyN at e
  dsimp only at e
  obtain⟨p,hp,rfl⟩:=i
  cases em:μ[k]? with
  | none=>rw[em]at e;cases e
  | some m =>
   rw[em]at e
   obtain⟨q,e1,e2⟩:=M.at_ k m em
   rw[hp]at e1;cases e1
   cases m with
   | box=>cases e
   | lst ds=>cases e;obtain⟨vs,hv,_⟩:=e2;exact⟨.lst hv,by simp⟩
   | dic ks ds=>cases e;obtain⟨eW,vs,hv,_⟩:=e2;exact⟨.dK hv,by simp⟩
   | _=>cases e
theorem d_isi {X:Cx}{a:Expr}{w:De}{T:String}{x:Str}{p p2 pos:Pos}(hT:T∈["bool", "int", "str", "list", "tuple", "dict"])(hg:Gl X "isinstance")(hm:X.mg "isinstance"=none)(hg2:Gl X x)(hm2:X.mg x=none)(hv:bootBuiltins x=some (.type T))(ha:PD X a w)(hn:x ≠ "__name__":=by decide)(hd:(x==("__debug__" : Str))=false:=by decide)
 (hs:starEach [a,.Name x p2] X.env=(false,eval a X.env)::starEach [.Name x p2] X.env:=by rfl) (hs2:starEach [.Name x p2] X.env=(false,eval (.Name x p2) X.env)::starEach [] X.env:=by rfl) (hpl:(backTo pos (starEach [.Name x p2] X.env)).any (·.1)=false:=by rfl) :
 PD X (.Call (.Name "isinstance" p) [a,.Name x p2] [] pos) (dIsi T w) :=
 (pe_callB isiC hg hm boot_isinstance (pa_cons ha (pa_cons (pe_bltn (v:=.ty T) hg2 hm2 hv rfl hn hd) pa_nil hs2) hs) (by decide) (by decide) hs hpl).imp fun σ H Q hq=>by
  obtain⟨φ,ρ,μ,K,A,M,k,L⟩:=hq
  refine⟨φ,ρ,μ,_,A,M,k,fun d fB φ1 v1 H1 k1 f1 M1 i1=>?_⟩
  obtain⟨t,et,k1⟩:=opt_ex k1
  obtain⟨h1,h2⟩:=tyN_is M1 i1 et
  exact⟨.type t,isiT t T,h1,kit_ok X.K h2 hT,L _ fB φ1 _ H1 k1 f1 M1 rfl⟩
def BxQ (H:Hp)(b q:Addr):Prop:=∃(ns:List Int) (i r z:Int),H b=some (.lst [.ref q,.int i,.int r,.int z])/\H q=some (.lst (ns.map V.int))/\q≠b/\0<=i/\0<=z/\z<2147483647
def spTakeQ:Sp:=fun vs H Q _=>match vs with
 | [.ref b,.int n]=>∃ q,BxQ H b q/\0<n/\n<1073741824/\∀ v H',0<=v->v<n->BxQ H' b q->OB b H H'->Q (.int v) H'
 | _=>False
theorem spTakeQ_inv {vs:List V}{H:Hp}{Q:VK}{E:XK}(h:spTakeQ vs H Q E):∃ b n q,vs=[.ref b,.int n]/\BxQ H b q/\0<n/\n<1073741824/\∀ v H',0<=v->v<n->BxQ H' b q->OB b H H'->Q (.int v) H':=by
 unfold spTakeQ at h
 split at h
 ·obtain⟨q,h⟩:=h;exact⟨_,_,q,rfl,h⟩
 ·exact h.elim
def fTake:DSp:=fun ds μ K=>match ds with
 | [.mr k,.int n]=>μ[k]?=some .box/\0<n/\n<1073741824/\∀ v,0<=v->v<n->K (.int v) μ
 | _=>False
theorem take_imp {vs:List V}{H:Hp}{Q:VK}{E:XK}(h:spD fTake vs H Q E):spTakeQ vs H Q E:=by
 obtain⟨φ,ds,μ,K,ha,M,k,L⟩:=h
 unfold fTake at k
 split at k
 ·rename_i kk n
  obtain⟨v,r,rfl,h1,u,r',rfl,h2,h3⟩:=ha
  cases(show r'=[]from h3);cases(show u=_ from h2)
  obtain⟨b,hb,rfl⟩:=h1
  obtain⟨em,hn,hn2,k⟩:=k
  obtain⟨b',e1,q,ns,i,r,z,g1,g2,g3,g4,g5,g6⟩:=M.at_ kk _ em
  rw[hb]at e1;cases e1
  have bin:b∈φ:=gxD hb
  have qb:q≠b:=fun e=>g3 (by rw[e];exact bin)
  refine⟨q,⟨ns,i,r,z,g1,g2,qb,g4,g5,g6⟩,hn,hn2,fun v H' v0 v1 B' ob=>?_⟩
  obtain⟨ns',i',r',z',b1,b2,b3,b4,b5,b6⟩:=B'
  have f:Fr φ H φ H':=⟨⟨[],by simp,fun _ h=>nomatch h⟩,fun c o hc e=>(ob c (fun e'=>hc (by rw[e'];exact bin))).trans e,fun c e=>by
   by_cases hc:c=b
   ·rw[hc,b1]at e;cases e
   ·rw[<- ob c hc];exact e⟩
  refine L _ μ φ _ H' (k v v0 v1) f ⟨M.nd,M.len,fun j m ej=>?_⟩ rfl
  by_cases hj:j=kk
  ·subst hj
   rw[em]at ej;cases ej
   exact⟨b,hb,q,ns',i',r',z',b1,b2,g3,b4,b5,b6⟩
  ·obtain⟨p,e1,e2⟩:=M.at_ j m ej
   refine⟨p,e1,e2.mono f fun o eo=>?_⟩
   have pb:p≠b:=fun e=>by
    subst e
    obtain⟨i1,r1⟩:=gxB hb
    obtain⟨i2,r2⟩:=gxB e1
    rcases Nat.lt_or_gt_of_ne hj with z | z
    ·exact List.pairwise_iff_getElem.mp M.nd j kk i2 i1 z (r2.trans r1.symm)
    ·exact List.pairwise_iff_getElem.mp M.nd kk j i1 i2 z (r1.trans r2.symm)
   rw[ob p pb];exact eo
 ·exact k.elim
def spBoxQ (K:PySem.W.Frag):Sp:=fun vs H Q _=>match vs with
 | [.ref a]=>∃ ns:List Int,SqL K H a (ns.map V.int)/\∀ b q H',BxQ H' b q->H b=none->H q=none->Same H H'->Q (.ref b) H'
 | _=>False
theorem box_start {H:Hp}{b q:Addr}(h:BxQ H b q):MSis [b] H [.box]:=by
 obtain⟨ns,i,r,z,h1,h2,h3,h4,h5,h6⟩:=h
 refine⟨by simp,rfl,fun k m e=>?_⟩
 cases k with
 | zero=>cases e;exact⟨b,rfl,q,ns,i,r,z,h1,h2,by simpa using h3,h4,h5,h6⟩
 | succ k=>simp at e
mutual
def smD:Nat->D->Prop
 | n+1,.lst ds=>ds.length<=100000/\smL n ds
 | n+1,.tup ds=>ds.length<=100000/\smL n ds
 | 0,.lst _=>False
 | 0,.tup _=>False
 | _,.dic _ _=>False
 | _,.mr _=>False
 | _,.obj _ _ _=>False
 | _,.fdc _ _=>False
 | _,.fn _=>False
 | _,_=>True
def smL:Nat->List D->Prop
 | _,[]=>True
 | n,d::ds=>smD n d/\smL n ds
end
theorem smL_all {n:Nat}:∀ {ds:List D},(∀ d∈ds,smD n d)->smL n ds
 | [],_=>by unfold smL;trivial
 | d::ds,h=>by unfold smL;exact⟨h d ao,smL_all fun x hx=>h x (gxI _ hx)⟩
theorem sm_lst {n:Nat}{ds:List D}(hl:ds.length<=100000)(h:∀ d∈ds,smD n d):smD (n+1) (.lst ds):=by unfold smD;exact⟨hl,smL_all h⟩
theorem sm_tup {n:Nat}{ds:List D}(hl:ds.length<=100000)(h:∀ d∈ds,smD n d):smD (n+1) (.tup ds):=by unfold smD;exact⟨hl,smL_all h⟩
theorem sm_int {n:Nat}{i:Int}:smD n (.int i):=by cases n <;> (unfold smD;trivial)
mutual
theorem sm_pu:∀ {n:Nat} {d:D},smD n d->puD n d:=fun {n d} h=>by
 cases d with
 | lst ds =>
  cases n with
  | zero=>exact absurd h (by unfold smD;exact id)
  | succ n=>unfold smD at h;unfold puD;exact sm_puL h.2
 | tup ds =>
  cases n with
  | zero=>exact absurd h (by unfold smD;exact id)
  | succ n=>unfold smD at h;unfold puD;exact sm_puL h.2
 | dic _ _=>exact absurd h (by cases n <;> (unfold smD;exact id))
 | mr _=>exact absurd h (by cases n <;> (unfold smD;exact id))
 | obj _ _ _=>exact absurd h (by cases n <;> (unfold smD;exact id))
 | fdc _ _=>exact absurd h (by cases n <;> (unfold smD;exact id))
 | fn _=>exact absurd h (by cases n <;> (unfold smD;exact id))
 | _=>cases n <;> (unfold puD;trivial)
theorem sm_puL:∀ {n:Nat} {ds:List D},smL n ds->puL n ds:=fun {n ds} h=>by
 cases ds with
 | nil=>unfold puL;trivial
 | cons d ds=>unfold smL at h;unfold puL;exact⟨sm_pu h.1,sm_puL h.2⟩
end
theorem compW_map {it:D->MS->(Option D->MS->Prop)->Prop}{c:MS->Prop}{μ:MS}(hc:c μ)(f:D->Option D):∀ {ds:List D} {K:List D->MS->Prop},(∀ d∈ds,∀(K':Option D->MS->Prop),K' (f d) μ->it d μ K')->K (ds.filterMap f) μ->compW it c ds μ K
 | [],K,_,k=>⟨hc,k⟩
 | d::ds,K,h,k=>⟨hc,h d ao _ (compW_map hc f (fun x hx=>h x (gxI _ hx)) (by
  cases e:f d with
  | none=>rw[List.filterMap_cons_none e]at k;exact k
  | some y=>rw[List.filterMap_cons_some e]at k;exact k))⟩
theorem forW_inv {g:DG}{b:Ds}{N:DN}{c:MS->Prop}(Pv:List D->DE->MS->Prop):∀ {ds:List D} {ρ:DE} {μ:MS},Pv ds ρ μ->(∀ d ds' ρ μ,Pv (d::ds') ρ μ->c μ/\∀(nx:DE->MS->Prop),(∀ ρ' μ',Pv ds' ρ' μ'->nx ρ' μ')->g d ρ μ fun ρ2 μ2=>b { N with nx:=nx,ct:=nx,bk:=N.nx} ρ2 μ2)->(∀ ρ μ,Pv [] ρ μ->c μ/\N.nx ρ μ)->forW g b N c ds ρ μ
 | [],ρ,μ,h,hs,hd=>hd ρ μ h
 | d::ds,ρ,μ,h,hs,hd=>by
  obtain⟨c',st⟩:=hs d ds ρ μ h
  exact⟨c',st _ fun ρ' μ' h'=>forW_inv Pv h' hs hd⟩
end L2
namespace L2
open PySem PySem.Spec PyProof.Rows
structure Bi2 (mg:Str->Option Value):Prop where
 len:mg "len"=none
 range:mg "range"=none
 list:mg "list"=none
 isinstance:mg "isinstance"=none
 max:mg "max"=none
 min:mg "min"=none
 bool:mg "bool"=none
 tuple:mg "tuple"=none
 str:mg "str"=none
 int:mg "int"=none
 all:mg "all"=none
 any:mg "any"=none
 zip:mg "zip"=none
 enumerate:mg "enumerate"=none
 reversed:mg "reversed"=none
 dict:mg "dict"=none
 sorted:mg "sorted"=none
abbrev txt (l:List Nat):Str:=⟨l.toArray⟩
def fBars:DSp:=fun ds μ K=>match ds with
 | [.mr k,.int n]=>μ[k]?=some .box/\1<=n/\n<=1000/\∀ l:List Nat,l.length=n.toNat->OX l->K (.str (txt l)) μ
 | _=>False
structure Cuts (n:Int)(cs:List Int):Prop where
 inn:∀ c∈cs,1<=c/\c<n
 up:cs.Pairwise (·<·)
def fCuts:DSp:=fun ds μ K=>match ds with
 | [.mr k,.int n]=>μ[k]?=some .box/\1<=n/\n<=1000/\∀ cs:List Int,cs.length<=n.toNat->Cuts n cs->K (.lst (cs.map D.int)) μ
 | _=>False
def txD (l:List Nat):D:=.str (txt l)
def Good (n:Int)(ls:List (List Nat)):Prop:=∀ l∈ls,(l.length:Int)=n/\OX l
def fPatched:DSp:=fun ds μ K=>match ds with
 | [.mr k,.int n,.lst cs,.mr t]=>μ[k]?=some .box/\k≠t/\1<=n/\n<=1000/\∃(cs':List Int) (ls:List (List Nat)),cs=cs'.map D.int/\cs'.length<=1000/\Cuts n cs'/\μ[t]?=some (.lst (ls.map txD))/\ls≠[]/\ls.length<=100/\Good n ls /\
  ∀ ls':List (List Nat),ls'.length=ls.length->Good n ls'->K (.mr t) (μ.set t (.lst (ls'.map txD)))
 | _=>False
abbrev Tk:=List Nat×Int
def tkD (t:Tk):D:=.tup [.str (txt t.1),.int t.2]
structure Takes (n:Int)(ts:List Tk):Prop where
 few:ts.length<=20
 ok:∀ t∈ts,(t.1.length:Int)=n/\OX t.1/\0<=t.2/\t.2<=60
def fShelf:DSp:=fun ds μ K=>match ds with
 | [.mr k,.int m]=>μ[k]?=some .box/\1<=m/\m<=100/\∀(n:Int) (cs:List Int) (ts:List Tk),1<=n->n<=m->cs.length<=n.toNat->Cuts n cs->Takes n ts->K (.tup [.int n,.lst (cs.map D.int),.lst (ts.map tkD)]) μ
 | _=>False
def fEnds:DSp:=fun ds μ K=>match ds with
 | [.int n,x]=>∃ cs:List Int,lv μ x=some (cs.map D.int)/\cs.length<=1000/\K (.lst ((eM n cs).map D.int)) μ
 | _=>False
theorem fk (n:Int)(cs:List Int):(eM n cs).length=cs.length+2:=by unfold eM;simp
theorem ends_map (n:Int)(cs:List Int):[D.int 0]++cs.map D.int++[D.int n]=(eM n cs).map D.int:=by unfold eM;simp
theorem sz {n:Nat}(h:n<=100000):n<=sizeLine:=aL h (by decide)
theorem szS {n:Nat}(h:n<=100000):n<sizeLine:=cF h (by decide)
def prs (es:List Int):List (Int×Int):=es.zip es.tail
def prD (p:Int×Int):D:=.tup [.int p.1,.int p.2]
def fPieces:DSp:=fun ds μ K=>match ds with
 | [.int n,x]=>∃ cs:List Int,lv μ x=some (cs.map D.int)/\cs.length<=1000/\K (.lst ((prs (eM n cs)).map prD)) μ
 | _=>False
def cutN (l:List Nat)(a b:Int):List Nat:=cutL l (some a) (some b)
def bad (ts:List Tk)(p:Int×Int):Bool:=ts.all fun t=>decide (120∈cutN t.1 p.1 p.2)
def barOf (es:List Int)(ts:List Tk):Option (Int×Int):=(prs es).find? (bad ts)
def optPr:Option (Int×Int)->D
 | some p=>prD p
 | none=>.non
def fBarOf:DSp:=fun ds μ K=>match ds with
 | [.int n,x,y]=>∃(cs:List Int) (ts:List Tk),lv μ x=some (cs.map D.int)/\lv μ y=some (ts.map tkD)/\cs.length<=1000/\Takes n ts/\n<=1000/\K (optPr (barOf (eM n cs) ts)) μ
 | _=>False
theorem compW_sub {it:D->MS->(Option D->MS->Prop)->Prop}{c:MS->Prop}{μ:MS}(hc:c μ):∀ {ds:List D} {K:List D->MS->Prop},(∀ d∈ds,∀(K':Option D->MS->Prop),K' (some d) μ->K' none μ->it d μ K')->(∀ zs,zs.Sublist ds->K zs μ)->compW it c ds μ K
 | [],K,_,k=>⟨hc,k [] (.slnil)⟩
 | d::ds,K,h,k=>⟨hc,h d ao _ (compW_sub hc (fun x hx=>h x (gxI _ hx)) fun zs hz=>k _ (hz.cons₂ d)) (compW_sub hc (fun x hx=>h x (gxI _ hx)) fun zs hz=>k _ (hz.cons d))⟩
theorem compW_any {α:Type}(g:α->D)(P:α->Prop){it:D->MS->(Option D->MS->Prop)->Prop}{c:MS->Prop}{μ:MS}(hc:c μ):∀ {ds:List D} {K:List D->MS->Prop},(∀ d∈ds,∀(K':Option D->MS->Prop),(∀ a,P a->K' (some (g a)) μ)->it d μ K')->(∀ as:List α,as.length=ds.length->(∀ a∈as,P a)->K (as.map g) μ)->compW it c ds μ K
 | [],K,_,k=>⟨hc,k [] rfl fun _ h=>nomatch h⟩
 | d::ds,K,h,k=>⟨hc,h d ao _ fun a ha=>compW_any g P hc (fun x hx=>h x (gxI _ hx)) fun as hl hp=>k (a::as) (by rw[aX,aX,hl]) fun x hx=>by
  rcases List.mem_cons.mp hx with e | e
  ·rw[e];exact ha
  ·exact hp x e⟩
theorem rngD_eq (lo:Int)(n:Nat):rngD lo n=((List.range n).map fun i=>lo+(i:Nat)).map D.int:=by unfold rngD;rw[a6];rfl
theorem rngD_len (lo:Int)(n:Nat):(rngD lo n).length=n:=by unfold rngD;rw[gxC,gxJ]
theorem rngD_mem {lo:Int}{n:Nat}{d:D}(h:d∈rngD lo n):∃ i:Nat,i<n/\d=.int (lo+i):=by
 unfold rngD at h
 obtain⟨i,hi,rfl⟩:=List.mem_map.mp h
 exact⟨i,by simpa using hi,rfl⟩
theorem rng_up (lo:Int)(n:Nat):((List.range n).map fun i=>lo+(i:Nat)).Pairwise (·<·):=by
 rw[List.pairwise_map]
 exact List.Pairwise.imp (fun h=>by omega) List.pairwise_lt_range
theorem rng_cuts {n:Int}{cs:List Int}(h1:1<=n)(h:cs.Sublist ((List.range (n - 1).toNat).map fun i=>1+((i:Nat):Int))):cs.length<=n.toNat/\Cuts n cs:=by
 refine⟨?_,fun c hc=>?_,(rng_up 1 _).sublist h⟩
 ·have:=h.length_le
  rw[gxC,gxJ]at this
  omega
 ·obtain⟨i,hi,rfl⟩:=List.mem_map.mp (h.subset hc)
  rw[bX]at hi
  omega
theorem sub_map {α:Type}{g:α->D}{zs:List D}{as:List α}(h:zs.Sublist (as.map g)):∃ bs:List α,bs.Sublist as/\zs=bs.map g:=by
 obtain⟨bs,hb,e⟩:=List.sublist_map_iff.mp h
 exact⟨bs,hb,e⟩
theorem ends_up {n:Int}{cs:List Int}(h1:1<=n)(h:Cuts n cs):(eM n cs).Pairwise (·<·):=by
 unfold eM
 rw[dc,List.pairwise_cons]
 refine⟨fun x hx=>?_,?_⟩
 ·rcases List.mem_append.mp hx with q | q
  ·have:=h.inn x q;omega
  ·rw[List.mem_singleton.mp q];omega
 ·rw[List.pairwise_append]
  exact⟨h.up,List.pairwise_singleton _ _,fun x hx y hy=>by rw[List.mem_singleton.mp hy];exact(h.inn x hx).2⟩
theorem ends_in {n:Int}{cs:List Int}(h1:1<=n)(h:Cuts n cs){x:Int}(hx:x∈eM n cs):0<=x/\x<=n:=by
 unfold eM at hx
 rw[dc]at hx
 rcases List.mem_cons.mp hx with q | q
 ·omega
 ·rcases List.mem_append.mp q with q | q
  ·have:=h.inn x q;omega
  ·rw[List.mem_singleton.mp q];omega
theorem up_get {es:List Int}(h:es.Pairwise (·<·)){i j:Nat}{a b:Int}(hi:es[i]?=some a)(hj:es[j]?=some b)(hij:i<j):a<b:=by
 obtain⟨h1,r1⟩:=gxB hi
 obtain⟨h2,r2⟩:=gxB hj
 have:=List.pairwise_iff_getElem.mp h i j h1 h2 hij
 rw[r1,r2]at this
 exact this
theorem atI_map {α β:Type}{g:α->β}{xs:List α}{i:Nat}{a:α}(h:xs[i]?=some a):atI (xs.map g) (i:Int)=some (g a):=atI_nat (by rw[gxH,h];rfl)
theorem txt_len (l:List Nat):(txt l).length=l.length:=lenS l
theorem txt_list (l:List Nat):(txt l).cps.toList=l:=by simp
theorem cutL_le {α:Type}(l:List α)(lo hi:Option Int):(cutL l lo hi).length<=l.length:=cutL_len l lo hi
theorem mrL_all {n:Nat}:∀ {ds:List D},(∀ d∈ds,mrB n d)->mrL n ds
 | [],_=>True.intro
 | d::ds,h=>⟨h d ao,mrL_all fun x hx=>h x (gxI _ hx)⟩
theorem mrL_ints {n:Nat}(ns:List Int):mrL n (ns.map D.int):=mrL_all fun d hd=>by obtain⟨i,_,rfl⟩:=List.mem_map.mp hd;exact True.intro
theorem mrL_tk {n:Nat}(ts:List Tk):mrL n (ts.map tkD):=mrL_all fun d hd=>by obtain⟨i,_,rfl⟩:=List.mem_map.mp hd;exact⟨True.intro,True.intro,True.intro⟩
theorem set_self {μ:MS}{t:Nat}{m:MO}(h:μ[t]?=some m):μ.set t m=μ:=by
 refine cw fun i=>?_
 by_cases e:t=i
 ·subst e
  rw[aD (gxB h).1,h]
 ·rw[aG e]
theorem set_end {μ:MS}{x y:MO}:(μ++[x]).set μ.length y=μ++[y]:=by
 rw[cI _ _ (ae _),aO];rfl
theorem zip_tk:∀(ls:List (List Nat)) (as:List Int),List.zipWith (fun a b=>D.tup [a,b]) (ls.map txD) (as.map D.int)=(ls.zip as).map tkD
 | [],_=>by simp
 | _::_,[]=>by simp
 | l::ls,a::as=>by
  rw[ag,ag,bo,zip_tk ls as,ck,ag]
  rfl
theorem old_at {μ:MS}{n:Nat}{x:MO}(hm:∀(j:Nat) (m:MO),μ[j]?=some m->moB μ.length m):∀(j:Nat) (m:MO),j<μ.length->(μ++[x])[j]?=some m->moB μ.length m:=fun j m hj e=>by
 rw[gxF hj]at e;exact hm j m e
theorem take_end {μ:MS}{x:MO}:(μ++[x]).take μ.length=μ:=bW
theorem ages4 {v:Int}(h0:0<=v)(h1:v<4):∃ m,atI [D.int 1,D.int 4,D.int 9,D.int 55] v=some (.int m)/\1<=m/\m<=55:=by
 obtain⟨j,rfl⟩:∃ j:Nat,v=(j:Int):=⟨v.toNat,by omega⟩
 have hj:j<4:=by omega
 match j,hj with
 | 0,_=>exact⟨1,rfl,by decide,by decide⟩
 | 1,_=>exact⟨4,rfl,by decide,by decide⟩
 | 2,_=>exact⟨9,rfl,by decide,by decide⟩
 | 3,_=>exact⟨55,rfl,by decide,by decide⟩
theorem dIx_lv {μ:MS}{x:D}{xs:List D}{i:Int}{d:D}{K:DK}(e:lv μ x=some xs)(h:atI xs i=some d)(k:K d μ):dIx x (.int i) μ K:=by
 cases x with
 | lst ds=>cases e;exact fj h k
 | mr j=>exact fj e (fj h k)
 | _=>cases e
theorem cutN_nat (l:List Nat)(i j:Nat):cutN l i j=(l.drop i).take (j - i):=by
 unfold cutN cutL
 rw[HT.sIx_nat,HT.sIx_nat]
 rcases Nat.le_total i l.length with q | q
 ·rw[cg q]
  rcases Nat.le_total j l.length with z | z
  ·rw[cg z]
  ·rw[eJ z,bD (by rw[bB];exact ae _),bD (by rw[bB];exact Nat.sub_le_sub_right z i)]
 ·rw[eJ q,bJ (ae _),bJ q,List.take_nil,List.take_nil]
theorem prs_get {es:List Int}{i:Nat}:(prs es)[i]?=(match es[i]?,es[i+1]? with | some a,some b=>some (a,b) | _,_=>none):=by
 unfold prs
 rw[List.zip,bx,List.getElem?_tail]
 cases es[i]? <;> cases es[i+1]? <;> rfl
theorem un_of {k n:Nat}{A:Around}(hr:Room k A)(hn:n<=64):A.units+n<cLine:=by have:=hr.units;omega
theorem law_env {m:Nat}{b:Addr}{H:Hp}{x:Option V}:DEnv [b] H (none::some (.mr 0)::List.replicate m none) (x::some (.ref b)::List.replicate m none):=by
 refine⟨by simp,fun i d e=>?_⟩
 cases i with
 | zero=>cases e
 | succ i =>
  cases i with
  | zero=>cases e;exact⟨_,rfl,b,rfl,rfl⟩
  | succ i =>
   have:=List.eq_of_mem_replicate (gxD (show(List.replicate m (none:Option D))[i]?=some (some d)from e))
   cases this
def lawN:DN:={ nx:=fun _ _=>False,rt:=fun d _=>d=.bl true}
theorem law_go {m:Nat}{b q a:Addr}{H:Hp}{Q:VK}{W:Ds}(B:BxQ H b q)(w:W lawN (none::some (.mr 0)::List.replicate m none) [.box])(k:∀ H',Q (.bl true) H'):tDS W { nx:=fun _ H'=>Q .non H',rt:=Q} (some (.ref a)::some (.ref b)::List.replicate m none) H :=
 ⟨[b],_,[.box],lawN,law_env,box_start B,w,⟨fun _ _ _ _ _ z=>z.elim,fun d μ' φ' v H' kd _ _ i=>by cases(show d=.bl true from kd);cases(show v=_ from i);exact k H',fun _ _ _ _ _ z=>z.elim,fun _ _ _ _ _ z=>z.elim⟩⟩
section
variable {κ:Type}[DecidableEq κ]
def valV (eW:List (κ×V))(k:κ):Option V:=(eW.find? fun kv=>decide (kv.1=k)).map (·.2)
def putK (eW:List (κ×V))(k:κ)(v:V):List (κ×V) :=
 if(eW.any fun kv=>decide (kv.1=k))=true then eW.map (fun kv=>if kv.1=k then(kv.1,v)else kv)else eW++[(k,v)]
theorem valV_pos {p:κ×V}{r:List (κ×V)}{k:κ}(e:p.1=k):valV (p::r) k=some p.2:=by simp[valV,bZ,e]
theorem valV_neg {p:κ×V}{r:List (κ×V)}{k:κ}(e:¬ p.1=k):valV (p::r) k=valV r k:=by simp[valV,bZ,e]
theorem valV_any (k:κ):∀ eW:List (κ×V),(eW.any fun kv=>decide (kv.1=k))=(valV eW k).isSome
 | []=>rfl
 | p::r=>by
  rw[cY]
  by_cases e:p.1=k
  ·simp only[valV_pos e,aE e,Bool.true_or,Option.isSome_some]
  ·rw[valV_neg e,aT e,Bool.false_or];exact valV_any k r
theorem length_putK (eW:List (κ×V))(k:κ)(v:V):(putK eW k v).length<=eW.length+1:=by
 unfold putK
 split
 ·rw[gxC];omega
 ·rw[gxE,aX,List.length_nil];omega
theorem RelO.isSome_eq {o:Option V}{u:Option Value}(r:RelO o u):o.isSome=u.isSome:=by
 cases o with
 | none=>cases u with
  | none=>rfl
  | some _=>exact(show False from r).elim
 | some _=>cases u with
  | none=>exact(show False from r).elim
  | some _=>rfl
theorem KV.val {eW:List (κ×V)}{vs:List (κ×Value)}(r:KV eW vs)(k:κ):RelO (valV eW k) (valueAt vs k):=by
 unfold KV at r
 induction r with
 | nil=>exact True.intro
 | @cons p q ps qs h t ih =>
  obtain⟨h1,h2⟩:=h
  by_cases e:p.1=k
  ·have e':q.1=k:=h1.symm.trans e
   have b:valueAt (q::qs) k=some q.2:=by simp[valueAt,bZ,e']
   rw[valV_pos e,b];exact h2
  ·have e':¬ q.1=k:=fun z=>e (h1.trans z)
   have b:valueAt (q::qs) k=valueAt qs k:=by simp[valueAt,bZ,e']
   rw[valV_neg e,b];exact ih
theorem KV.any {eW:List (κ×V)}{vs:List (κ×Value)}(r:KV eW vs)(k:κ):(eW.any fun kv=>decide (kv.1=k))=vs.any fun kv=>decide (kv.1=k):=by
 unfold KV at r
 induction r with
 | nil=>rfl
 | cons h t ih=>rw[cY,cY,ih,h.1]
theorem KV.repl {eW:List (κ×V)}{vs:List (κ×Value)}(r:KV eW vs)(k:κ){y:V}{u:Value}(ry:RelV y u) :
 KV (eW.map fun kv=>if kv.1=k then(kv.1,y)else kv) (vs.map fun kv=>if kv.1=k then(kv.1,u)else kv):=by
 unfold KV at r ⊢
 induction r with
 | nil=>exact .nil
 | @cons p q ps qs h t ih =>
  rw[ag,ag]
  refine .cons ?_ ih
  obtain⟨h1,h2⟩:=h
  by_cases e:p.1=k
  ·rw[au e,au (h1.symm.trans e)];exact⟨h1,ry⟩
  ·rw[aq e,aq (fun z=>e (h1.trans z))];exact⟨h1,h2⟩
theorem KV.put {eW:List (κ×V)}{vs:List (κ×Value)}(r:KV eW vs)(k:κ){y:V}{u:Value}(ry:RelV y u):KV (putK eW k y) (stored vs k u):=by
 unfold putK stored
 rw[r.any k]
 by_cases e:(vs.any fun kv=>decide (kv.1=k))=true
 ·rw[au e,au e];exact r.repl k ry
 ·rw[aq e,aq e];exact Paired.snoc r ⟨rfl,ry⟩
theorem KV.length {eW:List (κ×V)}{vs:List (κ×Value)}(r:KV eW vs):eW.length=vs.length:=Paired.length r
end
theorem kV_is {P:Program}{w:World}{k:Key}{u:Value}(r:RelV (kV k) u):(mixKind P w).is k u=true:=by
 cases k with
 | inl i=>obtain⟨t,e⟩:=(show ∃ t,u=Value.int i t from r);subst e;exact mixKind_int P w i t
 | inr x=>obtain⟨t,e⟩:=(show ∃ t,u=Value.str x t from r);subst e;exact mixKind_str P w x t
theorem items_are {P:Program}{w:World}:∀ {ks:List Key} {us:List Value},Vals (ks.map kV) us->ItemsAre (mixKind P w) ks us
 | [],_,r=>by rw[List.map_nil]at r;cases r;exact .nil
 | k::ks,_,r=>by
  rw[ag]at r
  cases r with
  | cons h t=>exact .cons (kV_is h) (items_are t)
abbrev KT (H:Hp):List (List Key×V)->List (List Key×Addr×Value)->Prop:=Paired fun p q=>p.1=q.1/\H q.2.1=some (.tup (p.1.map kV))/\RelV p.2 q.2.2
theorem KT.val {H:Hp}{eW:List (List Key×V)}{xs:List (List Key×Addr×Value)}(r:KT H eW xs)(k:List Key):RelO (valV eW k) ((atKey xs k).map (·.2)):=by
 induction r with
 | nil=>exact True.intro
 | @cons p q ps qs h t ih =>
  obtain⟨h1,_,h2⟩:=h
  by_cases e:p.1=k
  ·have e':q.1=k:=h1.symm.trans e
   have b:atKey (q::qs) k=some q.2:=by simp[atKey,bZ,e']
   rw[valV_pos e,b];exact h2
  ·have e':¬ q.1=k:=fun z=>e (h1.trans z)
   have b:atKey (q::qs) k=atKey qs k:=by simp[atKey,bZ,e']
   rw[valV_neg e,b];exact ih
theorem KT.repl {H:Hp}{eW:List (List Key×V)}{xs:List (List Key×Addr×Value)}(r:KT H eW xs)(k:List Key){y:V}{u:Value}(ry:RelV y u) :
 KT H (eW.map fun kv=>if kv.1=k then(kv.1,y)else kv) (xs.map (putAt k u)):=by
 induction r with
 | nil=>exact .nil
 | @cons p q ps qs h t ih =>
  rw[ag,ag]
  refine .cons ?_ ih
  obtain⟨h1,h2,h3⟩:=h
  unfold putAt
  by_cases e:p.1=k
  ·rw[au e,au (h1.symm.trans e)];exact⟨h1,h2,ry⟩
  ·rw[aq e,aq (fun z=>e (h1.trans z))];exact⟨h1,h2,h3⟩
theorem KT.put {H:Hp}{eW:List (List Key×V)}{xs:List (List Key×Addr×Value)}(r:KT H eW xs)(k:List Key){b:Addr}{y:V}{u:Value}(hb:H b=some (.tup (k.map kV)))(ry:RelV y u) :
 KT H (putK eW k y) (storedH xs k b u):=by
 have e:(eW.any fun kv=>decide (kv.1=k))=(atKey xs k).isSome:=by
  rw[valV_any,(r.val k).isSome_eq,dN]
 unfold putK storedH
 rw[e]
 by_cases q:(atKey xs k).isSome=true
 ·rw[au q,au q];exact r.repl k ry
 ·rw[aq q,aq q];exact Paired.snoc r ⟨rfl,hb,ry⟩
theorem KT.keeps {H H':Hp}{eW:List (List Key×V)}{xs:List (List Key×Addr×Value)}(r:KT H eW xs)(ht:∀ b ys,H b=some (.tup ys)->H' b=some (.tup ys)):KT H' eW xs :=
 Paired.mapP r fun _ _ z=>⟨z.1,ht _ _ z.2.1,z.2.2⟩
section
variable {P:Program}{w:World}{H:Hp}{h:Heap}{a:Addr}
theorem rd_of {u:HO}(ok:HOk P w H h)(e:Rd H a u):ObjOk P w H h a u:=e.ok ok
theorem dk_rd {eW:List (Key×V)}(ok:HOk P w H h)(e:Rd H a (.dK eW)):eW.length<=sizeLine/\(a==sysModules)=false/\∃ vs,KV eW vs/\h.DictOf (mixKind P w) a vs :=
 show ObjOk P w H h a (.dK eW)from rd_of ok e
theorem dk_of {eW:List (Key×V)}(ok:HOk P w H h)(e:H a=some (.dK eW)):eW.length<=sizeLine/\(a==sysModules)=false/\∃ vs,KV eW vs/\h.DictOf (mixKind P w) a vs:=dk_rd ok (.inl e)
theorem key_of {ks:List Key}(ok:HOk P w H h)(e:H a=some (.tup (ks.map kV))):(tupleKind (mixKind P w)).is h ks a:=by
 obtain⟨_,fw,r,o,h1,h2,n,h3⟩:=(show ObjOk P w H h a (.tup (ks.map kV))from ok a _ e)
 exact⟨o,fw.toArray,n,h1,h2,h3,by simpa using items_are r⟩
theorem dt_rd {eW:List (List Key×V)}(ok:HOk P w H h)(e:Rd H a (.dT eW)):eW.length<=sizeLine/\(a==sysModules)=false /\
 ∃ xs,KT H eW xs/\h.DictOfH (tupleKind (mixKind P w)) a xs:=by
 obtain⟨z,y,xs,r,o,es,ep,h1,h2,h3,h4,h5⟩:=(show ObjOk P w H h a (.dT eW)from rd_of ok e)
 refine⟨z,y,xs,r,o,es,ep,h1,h2,h3,h4,fun x hx=>?_,h5⟩
 have all:∀ {l:List (List Key×V)} {m:List (List Key×Addr×Value)},KT H l m->∀ x∈m,(tupleKind (mixKind P w)).is h x.1 x.2.1:=by
  intro l m q
  induction q with
  | nil=>intro x hx;exact nomatch hx
  | @cons p q ps qs hq t ih =>
   intro x hx
   rcases List.mem_cons.mp hx with e | hx
   ·subst e
    exact key_of ok (by rw[<- hq.1];exact hq.2.1)
   ·exact ih x hx
 exact all r x hx
theorem dt_of {eW:List (List Key×V)}(ok:HOk P w H h)(e:H a=some (.dT eW)):eW.length<=sizeLine/\(a==sysModules)=false /\
 ∃ xs,KT H eW xs/\h.DictOfH (tupleKind (mixKind P w)) a xs:=dt_rd ok (.inl e)
end
def DGet (H:Hp)(a:Addr)(y:V)(r:Option V):Prop :=
 (∃ eW k,Rd H a (.dK eW)/\y=kV k/\r=valV eW k)\/∃ eW k b,Rd H a (.dT eW)/\y=.ref b/\H b=some (.tup (k.map kV))/\r=valV eW k
def DPut (H:Hp)(a:Addr)(y v:V)(H':Hp):Prop :=
 (∃ eW k,H a=some (.dK eW)/\y=kV k/\eW.length<sizeLine/\H'=upd H a (.dK (putK eW k v))) \/
 ∃ eW k b,H a=some (.dT eW)/\y=.ref b/\H b=some (.tup (k.map kV))/\eW.length<sizeLine/\H'=upd H a (.dT (putK eW k v))
theorem DGet.t {H:Hp}{a b:Addr}{eW:List (List Key×V)}{k:List Key}(e:H a=some (.dT eW))(eb:H b=some (.tup (k.map kV))):DGet H a (.ref b) (valV eW k):=.inr ⟨eW,k,b,.inl e,rfl,eb,rfl⟩
theorem DPut.k {H:Hp}{a:Addr}{eW:List (Key×V)}{k:Key}{v:V}(e:H a=some (.dK eW))(hl:eW.length<sizeLine):DPut H a (kV k) v (upd H a (.dK (putK eW k v))):=.inl ⟨eW,k,e,rfl,hl,rfl⟩
theorem DPut.t {H:Hp}{a b:Addr}{eW:List (List Key×V)}{k:List Key}{v:V}(e:H a=some (.dT eW))(eb:H b=some (.tup (k.map kV)))(hl:eW.length<sizeLine) :
 DPut H a (.ref b) v (upd H a (.dT (putK eW k v))):=.inr ⟨eW,k,b,e,rfl,eb,hl,rfl⟩
section
variable {X:Cx}{pins:List (Addr×Obj)}{σ:St}{H:Hp}{s:Shared}{a:Addr}{y v:V}{u r:Value}{o:Option V}{A:Around}{E:Value->Shared->Prop}
theorem Inv.big (I:Inv X pins σ H s):sysModules<s.heap.objs.size:=by
 have h:mainGlobals<s.heap.objs.size:=(I.mod.glob.keeps I.bk).lt
 exact c8 (by decide) h
theorem d_getItem {Q:Value->Shared->Prop}(hu:A.units+1<cLine)(I:Inv X pins σ H s)(g:DGet H a y (some v))(ry:RelV y u)(h:∀ w' s',Inv X pins σ H s'->RelV v w'->Q w' s') :
 wpAny (model X.prog X.w) A (getItem (.ref a) u) Q E s:=by
 rcases g with⟨eW,k,e,ey,l⟩ | ⟨eW,k,b,e,ey,eb,l⟩
 ·subst ey
  obtain⟨z,hd,vs,rel,dd⟩:=dk_rd I.hok e
  obtain⟨w',hw,rw'⟩:=RelO.some_of (v:=v) (o:=valueAt vs k) (by rw[l];exact rel.val k)
  exact wpAny_getItem_of (kV_is ry) dd.mapOf hw (h w' _ (I.tok _) rw')
 ·subst ey
  cases(show u=Value.ref b from ry)
  obtain⟨z,hd,xs,rel,dd⟩:=dt_rd I.hok e
  obtain⟨w',hw,rw'⟩:=RelO.some_of (v:=v) (o:=(atKey xs k).map (·.2)) (by rw[l];exact rel.val k)
  obtain⟨p,hp,hp2⟩:=Option.map_eq_some_iff.mp hw
  refine wpAny_getItem_heap (tupleKind_room_in1 hu) (key_of I.hok eb) dd hp ?_
  rw[hp2]
  exact h w' _ (I.tok _) rw'
theorem d_notIn {Q:Value->Shared->Prop}(hu:A.units+1<cLine)(I:Inv X pins σ H s)(g:DGet H a y o)(ry:RelV y u)(h:∀ s',Inv X pins σ H s'->Q (.bool (!o.isSome)) s') :
 wpAny (model X.prog X.w) A (compareOp .NotIn u (.ref a)) Q E s:=by
 rcases g with⟨eW,k,e,ey,l⟩ | ⟨eW,k,b,e,ey,eb,l⟩
 ·subst ey
  obtain⟨z,hd,vs,rel,dd⟩:=dk_rd I.hok e
  refine wpAny_notIn_of (kV_is ry) hd dd.mapOf ?_
  rw[<- (rel.val k).isSome_eq,<- l]
  exact h _ (I.tok _)
 ·subst ey
  cases(show u=Value.ref b from ry)
  obtain⟨z,hd,xs,rel,dd⟩:=dt_rd I.hok e
  refine wpAny_notIn_heap (tupleKind_room_in1 hu) (key_of I.hok eb) hd dd ?_
  have q:=(rel.val k).isSome_eq
  rw[dN]at q
  rw[<- q,<- l]
  exact h _ (I.tok _)
theorem d_write {h':Heap}{t':Nat}{ob:HO}(I:Inv X pins σ H s)(mu:Mut (H a))(hs:Heap.SameBut a s.heap h')(he:∃ q,h'.get? a=some q)(new:ObjOk X.prog X.w (upd H a ob) h' a ob) :
 Inv X pins σ (upd H a ob) { s with heap:=h',toks:=t'} :=
 I.write (x:=a) (e:=a) mu (.inl rfl) (fun b q hb z=>(hs.2 b hb).trans z) he new
theorem dk_new {P:Program}{w:World}{H':Hp}{h':Heap}{eW:List (Key×V)}{vs:List (Key×Value)}(z:eW.length<=sizeLine)(hd:(a==sysModules)=false)(rel:KV eW vs)(dd:h'.DictOf (mixKind P w) a vs) :
 ObjOk P w H' h' a (.dK eW):=⟨z,hd,vs,rel,dd⟩
theorem d_setItem {H':Hp}{Q:Unit->Shared->Prop}(hu:A.units+1<cLine)(I:Inv X pins σ H s)(g:DPut H a y v H')(ry:RelV y u)(rv:RelV v r)(h:∀ s',Inv X pins σ H' s'->Q () s') :
 wpAny (model X.prog X.w) A (setItem (.ref a) u r) Q E s:=by
 rcases g with⟨eW,k,e,ey,l,eH⟩ | ⟨eW,k,b,e,ey,eb,l,eH⟩
 ·subst ey eH
  obtain⟨z,hd,vs,rel,dd⟩:=dk_of I.hok e
  have hz:vs.length<=sizeLine:=by rw[<- rel.length];exact z
  have hl:(putK eW k v).length<=sizeLine:=by have:=length_putK eW k v;omega
  refine wpAny_setItem_pairs (hsz:=hz) (kV_is ry) dd fun h' dd' hs=>h _ ?_
  have he:∃ q,h'.get? a=some q:=let ⟨q,_,_,hq,_⟩:=dd';⟨q,hq⟩
  exact d_write I (by rw[e];exact True.intro) hs he (dk_new hl hd (rel.put k rv) dd')
 ·subst ey eH
  cases(show u=Value.ref b from ry)
  obtain⟨z,hd,xs,rel,dd⟩:=dt_of I.hok e
  have hz:xs.length<=sizeLine:=by rw[<- Paired.length rel];exact z
  have hl:(putK eW k v).length<=sizeLine:=by have:=length_putK eW k v;omega
  refine wpAny_setItem_heap (hsz:=hz) (tupleKind_room_in1 hu) (key_of I.hok eb) dd fun h' dd' hs=>h _ ?_
  obtain⟨q,es,ep,hq,h2,h3,h4,_,h5⟩:=dd'
  refine d_write I (by rw[e];exact True.intro) hs ⟨q,hq⟩ ⟨hl,hd,_,(rel.put k eb rv).keeps fun c ys ec=>?_,q,es,ep,hq,h2,h3,h4,h5⟩
  rw[upd_ne (ne_of ec e (fun z=>nomatch z))]
  exact ec
end
section
variable {X:Cx}{pins:List (Addr×Obj)}{σ:St}{H:Hp}{s:Shared}{a:Addr}{eW:List (Key×V)}{k:Key}{u:Value}{A:Around}{E:Value->Shared->Prop}
theorem d_len {Q:Value->Shared->Prop}(I:Inv X pins σ H s)(e:Rd H a (.dK eW))(h:∀ t s',Inv X pins σ H s'->Q (.int eW.length t) s'):wpAny (model X.prog X.w) A (call (.builtin "len") [.ref a]) Q E s:=by
 obtain⟨z,hd,vs,rel,dd⟩:=dk_rd I.hok e
 refine call_len_dict hd dd (by rw[<- rel.length];rw[sizeLine_eq]at z;omega) ?_
 rw[<- rel.length]
 exact h _ _ (I.tok _)
end
def NoSl (i:Expr):Prop:=∀ ov iv,subscripted i false ov iv=operate [ov,iv] (getItem ov iv)
theorem subD_of {prog:Program}{w:World}{A:Around}{E:Value->Shared->Prop}{s:Shared}{env:Env}{value slice:Expr}{pos:Pos}{T id:String}{Q:Value->Shared->Prop}
 (hl:typeLookup (.type T) "__getitem__"=pure (some (.builtin id))) (hs:NoSl slice)
 (h:wpAny (model prog w) A (eval value env) (fun o s₁=>wpAny (model prog w) A (eval slice env) (fun i s₂=>s₂.TypeIs o T/\wpAny (model prog w) A (getItem o i) Q E s₂) E s₁) E s) :
 wpAny (model prog w) A (eval (.Subscript value slice pos) env) Q E s:=by
 refine Subscript_ (bG h (fun o s₁ h₁=>bG h₁ (fun i s₂ h₂=>?_) fun _ _ x=>x) fun _ _ x=>x)
 obtain⟨hT,h₂⟩:=h₂
 unfold subscriptTail
 refine e9 ?_
 rw[getitemInPython_of_ne hT.not_modules]
 refine e9 (wpAny_specialOf hT hl ?_)
 have fin:wpAny (model prog w) A (subscripted slice false o i) (fun r s₃=>wpAny (model prog w) A (letTemporaryGo value o r >>= fun _=>pure r) Q E s₃) E s₂:=by
  rw[hs o i]
  exact wpAny_operating (bG h₂ (fun r s₃ h₃=>e9 (wpAny_letTemporaryGo (aa h₃))) fun _ _ x=>x)
 first
  | exact aa (e9 fin)
  | exact e9 (aa (e9 fin))
  | exact e9 fin
theorem dict_typeIs {X:Cx}{pins:List (Addr×Obj)}{σ:St}{H:Hp}{s:Shared}{a:Addr}{y:V}{o:Option V}(I:Inv X pins σ H s)(g:DGet H a y o):s.TypeIs (.ref a) "dict":=by
 rcases g with⟨eW,k,e,_,_⟩ | ⟨eW,k,b,e,_,_,_⟩
 ·obtain⟨_,_,vs,_,dd⟩:=dk_rd I.hok e
  exact dd.typeIs
 ·obtain⟨_,_,xs,_,dd⟩:=dt_rd I.hok e
  exact dd.typeIs
def tDGet (td ty:TE):TE:=fun σ H Q=>td σ H fun x H1=>ty σ H1 fun y H2=>∃ a v,x=.ref a/\DGet H2 a y (some v)/\Q v H2
def tDNotIn (ty td:TE):TE:=fun σ H Q=>ty σ H fun y H1=>td σ H1 fun x H2=>∃ a o,x=.ref a/\DGet H2 a y o/\Q (.bl (!o.isSome)) H2
def sDPut (td ty tv:TE):TS:=fun D σ H=>tv σ H fun v H1=>td σ H1 fun x H2=>ty σ H2 fun y H3=>∃ a H4,x=.ref a/\DPut H3 a y v H4/\D.nx σ H4
section
variable {X:Cx}{o i e value:Expr}{pos pos' tpos:Pos}{td ty tv:TE}
theorem pe_dget (hu:X.A.units+1<cLine)(ho:PE X o td)(hi:PE X i ty)(hs:NoSl i):PE X (.Subscript o i pos) (tDGet td ty):=by
 intro pins s σ H Q I h
 refine subD_of PySem.F.slot_dict_getitem.lookup hs (thn (ho pins s σ H _ I h) fun u s1 hq0=>?_)
 obtain⟨x,H1,I1,rx,q1⟩:=hq0
 refine thn (hi pins s1 σ H1 _ I1 q1) fun iv s2 hq1=>?_
 obtain⟨y,H2,I2,ry,a,v,ex,g,q2⟩:=hq1
 subst ex
 obtain rfl:u=Value.ref a:=rx
 exact⟨dict_typeIs I2 g,d_getItem hu I2 g ry fun w' s3 I3 rw'=>⟨v,H2,I3,rw',q2⟩⟩
theorem pc_dnotin (hu:X.A.units+1<cLine)(hi:PE X i ty)(ho:PE X o td):PC X .NotIn i o (tDNotIn ty td):=by
 intro pins s σ H Q I h
 refine thn (hi pins s σ H _ I h) fun iv s1 hq2=>?_
 obtain⟨y,H1,I1,ry,q1⟩:=hq2
 refine thn (ho pins s1 σ H1 _ I1 q1) fun u s2 hq3=>?_
 obtain⟨x,H2,I2,rx,a,ov,ex,g,q2⟩:=hq3
 subst ex
 obtain rfl:u=Value.ref a:=rx
 exact d_notIn hu I2 g ry fun s3 I3=>⟨.bl (!ov.isSome),H2,I3,rfl,q2⟩
theorem ps_dput (hu:X.A.units+1<cLine)(ho:PE X o td)(hi:PE X i ty)(hv:PE X value tv)(hs:swapsWith value (some (.Subscript o i pos')) pos.line X.env=pure false) :
 PS X (.Assign [.Subscript o i pos'] value pos) (sDPut td ty tv):=by
 intro pins s σ H D I h
 refine wpAny_Assign_Subscript (thn (hv pins s σ H _ I h) fun r s1 hq4=>?_) hs
 obtain⟨v,H1,I1,rv,q1⟩:=hq4
 refine thn (ho pins s1 σ H1 _ I1 q1) fun u s2 hq5=>?_
 obtain⟨x,H2,I2,rx,q2⟩:=hq5
 refine thn (hi pins s2 σ H2 _ I2 q2) fun iv s3 hq6=>?_
 obtain⟨y,H3,I3,ry,a,H4,ex,g,q3⟩:=hq6
 subst ex
 obtain rfl:u=Value.ref a:=rx
 exact d_setItem hu I3 g ry rv fun s4 I4=>⟨σ,H4,I4,q3⟩
end
theorem dk_empty {P:Program}{w:World}{H:Hp}(h:Heap)(hb:sysModules<h.objs.size):ObjOk P w H (h.push { cls:=.type "dict",data:=.dict #[]}) h.objs.size (.dK []) :=
 ⟨bV _,beq_eq_false_iff_ne.mpr (aY (ai hb)),[],.nil,Heap.DictOf.new h⟩
theorem dt_empty {P:Program}{w:World}{H:Hp}(h:Heap)(hb:sysModules<h.objs.size):ObjOk P w H (h.push { cls:=.type "dict",data:=.dict #[]}) h.objs.size (.dT []) :=
 ⟨bV _,beq_eq_false_iff_ne.mpr (aY (ai hb)),[],.nil,_,#[],0,ak _ rfl,⟨rfl,rfl,rfl⟩,rfl,rfl,List.nodup_nil⟩
def tDNewK:TE:=fun _ H Q=>∀ p,H p=none->Q (.ref p) (upd H p (.dK []))
def tDNewT:TE:=fun _ H Q=>∀ p,H p=none->Q (.ref p) (upd H p (.dT []))
section
variable {X:Cx}{pos:Pos}
theorem pe_dnewK:PE X (.Dict [] [] pos) tDNewK:=fun pins s σ H Q I h =>
 wpAny_Dict_empty ⟨.ref s.heap.objs.size,_,I.laid (a:=s.heap.objs.size) (o:=.dK []) (t':=s.toks) (fun _ _ q=>gxL _ q) (ae _) (dk_empty s.heap I.big),rfl,h _ (I.hok.fresh (ae _))⟩
theorem pe_dnewT:PE X (.Dict [] [] pos) tDNewT:=fun pins s σ H Q I h =>
 wpAny_Dict_empty ⟨.ref s.heap.objs.size,_,I.laid (a:=s.heap.objs.size) (o:=.dT []) (t':=s.toks) (fun _ _ q=>gxL _ q) (ae _) (dt_empty s.heap I.big),rfl,h _ (I.hok.fresh (ae _))⟩
end
structure M1 (X:Cx)(o:Expr)(m:Str)(apos:Pos)(e:Expr)(cpos:Pos):Prop where
 base:attributeBase o m X.env (eval o X.env)=eval o X.env
 few:((backTo cpos (starEach [e] X.env)).all (fun x=>!x.1)&&(backToKw cpos (keywordEach [] X.env)).all (fun x=>x.1.isSome)
  && decide (([e]:List Expr).length+([]:List Keyword).length+(if([]:List Keyword).isEmpty then 0 else 1)<30))=true
 line:(apos.endLine==cpos.line)=true
 trees:backTo cpos (starEach [e] X.env)=[(false,eval e X.env)]
structure M2 (X:Cx)(o:Expr)(m:Str)(apos:Pos)(e f:Expr)(cpos:Pos):Prop where
 base:attributeBase o m X.env (eval o X.env)=eval o X.env
 few:((backTo cpos (starEach [e,f] X.env)).all (fun x=>!x.1)&&(backToKw cpos (keywordEach [] X.env)).all (fun x=>x.1.isSome)
  && decide (([e,f]:List Expr).length+([]:List Keyword).length+(if([]:List Keyword).isEmpty then 0 else 1)<30))=true
 line:(apos.endLine==cpos.line)=true
 trees:backTo cpos (starEach [e,f] X.env)=[(false,eval e X.env),(false,eval f X.env)]
def cxE (X:Cx)(N:List Str)(sc:Scope)(fp:List Addr)(s:Shared)(H:Hp):Cx where
 prog:=X.prog
 w:=X.w
 K:=X.K
 mg:=X.mg
 base:=X.base
 A:=X.A
 N:=N
 s₀:=s
 H₀:=H
 env:=envC sc s.heap.objs.size X.env
 outer:=X.stack
 stack:=X.stack
 ex:=fp
 fn:=fun x=>sc.names.lookup x==some .cell
 calm:=X.calm
 pn:=[]
 xe:=fun _ _=>False
def heapE (sc:Scope)(h:Heap):Heap:=pushCells (h.push { cls:=.type "dict",data:=.dict #[]}) sc.names
theorem heapE_keeps {sc:Scope}{h:Heap}:∀ b o,h.get? b=some o->(heapE sc h).get? b=some o:=fun b o e=>dm _ _ b o (gxL _ e)
section
variable {X:Cx}{pins:List (Addr×Obj)}{σ:St}{H:Hp}{s:Shared}{N:List Str}{js:List (Option Nat)}{sc:Scope}{fp:List Addr}
theorem inv_compE (I:Inv X pins σ H s)(hc:CompOk X N js sc)(hf:∀ b∈fp,FpOk X pins H b)(ho:∀ b∈fp,∃ o,s.heap.get? b=some o)(tk:Nat) :
 Inv (cxE X N sc fp s H) [] (startC js σ) H { s with heap:=heapE sc s.heap,toks:=tk}:=by
 have freeX:∀ y∈sc.names,y.2=.free->∃ c,X.env.cells.lookup y.1=some c:=fun y hy e=>I.ok.has y.1 (hc.free y hy e)
 have ok:=cellsFrom_ok sc.names (s.heap.push { cls:=.type "dict",data:=.dict #[]}) (s.heap.objs.size+1) [] ⟨fun _ _ hm=>(nomatch hm),List.Pairwise.nil⟩
  (by rw[aS];exact ae _)
 rw[aS]at ok
 have eC:(envC sc s.heap.objs.size X.env).cells=cellsFrom (s.heap.objs.size+1) sc.names []++closOf X.env.cells sc.names []:=cellsFrom_app sc.names _ [] _
 have lk:∀ x c,(envC sc s.heap.objs.size X.env).cells.lookup x=some c->(x,c)∈cellsFrom (s.heap.objs.size+1) sc.names []\/X.env.cells.lookup x=some c:=fun x c e=>by
  rw[eC]at e
  rcases List.mem_append.mp (mem_of_lookup e)with h | h
  ·exact .inl h
  ·rcases closOf_mem freeX x c h with h | h
   ·cases h
   ·exact .inr h
 have big:∀(x:Str) (c:Nat),(x,c)∈cellsFrom (s.heap.objs.size+1) sc.names []->s.heap.objs.size+1<=c:=fun x c h=>(ok.empty x c h).2
 have small:∀(x:Str) (c:Nat),X.env.cells.lookup x=some c->c<s.heap.objs.size:=fun x c h=>let ⟨_,q⟩:=I.cell x c h;q.lt
 have has:∀ x,((envC sc s.heap.objs.size X.env).kindOf x=some .cell\/(envC sc s.heap.objs.size X.env).kindOf x=some .free)->∃ c,(envC sc s.heap.objs.size X.env).cells.lookup x=some c:=fun x h=>by
  have h':(relabel sc X.env).names.lookup x=some .cell\/(relabel sc X.env).names.lookup x=some .free:=h
  rw[lookup_relabel]at h'
  rw[eC,du]
  cases q:sc.names.lookup x with
  | none=>rw[q]at h';rcases h' with h' | h' <;> cases h'
  | some k =>
   rw[q]at h'
   have hk:=relK_vis (env:=X.env) (x:=x) (k:=k) (h'.elim (fun z=>.inl (aB z)) fun z=>.inr (aB z))
   rcases hk with rfl | rfl
   ·obtain⟨c,hc'⟩:=cell_has (n:=s.heap.objs.size+1) q
    exact⟨c,by rw[hc'];rfl⟩
   ·have z:=closOf_has (cells:=X.env.cells) sc.names [] x (mem_of_lookup q)
    obtain⟨c,hc'⟩:=Option.isSome_iff_exists.mp z
    cases q2:(cellsFrom (s.heap.objs.size+1) sc.names []).lookup x with
    | none=>exact⟨c,by rw[hc'];rfl⟩
    | some d=>exact⟨d,rfl⟩
 have okY:(cxE X N sc fp s H).Ok:=by
  refine⟨I.ok.mod,hc.kind,I.ok.glob,I.ok.blt,ae _,fun x y c h1 h2=>?_,has,fun x c hx h=>?_,I.ok.hd,I.ok.frames,.inl rfl,fun b hb=>⟨?_,fun x c h=>?_⟩,I.bs,aL I.ok.bsz I.sz,fun b o e hb=>?_,fun b hb hs=>?_,I.stack,I.stkFree⟩
  ·rcases lk x c h1 with g1 | g1 <;> rcases lk y c h2 with g2 | g2
   ·exact name_of_addr ok.apart g1 g2
   ·exact absurd (aC (small _ _ g2) (aL (aM _ 1) (big _ _ g1))) (bQ _)
   ·exact absurd (aC (small _ _ g1) (aL (aM _ 1) (big _ _ g2))) (bQ _)
   ·exact I.ok.inj x y c g1 g2
  ·have hx':sc.names.lookup x=some .cell:=by simpa [cxE]using hx
   have h':(envC sc s.heap.objs.size X.env).cells.lookup x=some c:=h
   rw[eC,du]at h'
   obtain⟨c2,hc'⟩:=cell_has (n:=s.heap.objs.size+1) hx'
   rw[hc']at h'
   have e:c2=c:=aB h'
   subst e
   exact aL (aM _ 1) (big _ _ (mem_of_lookup hc'))
  ·obtain⟨o,e⟩:=ho b hb
   exact ai (gxN e)
  ·obtain⟨o,e⟩:=ho b hb
   have l:=gxN e
   rcases lk x c h with g | g
   ·exact aU (aC l (aL (aM _ 1) (big _ _ g)))
   ·exact(hf b hb).2.2.2.2.1 x c g
  ·rcases(hf b hb).2.2.2.1 with z | z
   ·exact I.ok.noex b o e z
   ·exact absurd (aC (gxN e) (aL I.ok.bsz z)) (bQ _)
  ·rcases List.mem_cons.mp (I.stkSub b hs)with z | z
   ·exact(hf b hb).2.1 z
   ·exact(hf b hb).2.2.1 z
 have keepH:∀ b u,s.heap.get? b=some u->(heapE sc s.heap).get? b=some u:=heapE_keeps
 have nsC:(heapE sc s.heap).Ns s.heap.objs.size fun _=>none:=by
  have q:=(Heap.Ns.new s.heap (.type "dict")).keeps (dm sc.names _)
  exact q
 refine⟨okY,rfl,I.bare,Un.kept keepH,⟨_,nsC,fun i x v e1 e2 e3=>?_⟩,fun x c h=>?_,I.hok.fresh (ae _),fun x c h=>?_,fun p hp=>absurd (show p∈([]:List (Addr×Obj))from hp) (by simp),I.hok.kept keepH,?_⟩
 ·obtain⟨j,hj,hv⟩:=getStart e2
  obtain⟨g1,g2,g3,g4⟩:=hc.slot i x j e1 hj
  have kx:=hc.free _ g2 rfl
  obtain⟨m,hn,hl⟩:=I.loc
  obtain⟨u,r,l⟩:=hl j x v g1 hv (.inr kx)
  refine⟨u,r,?_⟩
  rcases l with⟨z,_⟩ | ⟨_,c,hcc,hcell⟩
  ·have z':X.env.kindOf x=some .local:=z
   rcases kx with k | k <;> (have k':X.env.kindOf x=_:=k;rw[z']at k';cases k')
  ·have kY:(envC sc s.heap.objs.size X.env).kindOf x=some .cell\/(envC sc s.heap.objs.size X.env).kindOf x=some .free:=by
    show(relabel sc X.env).names.lookup x=some .cell\/(relabel sc X.env).names.lookup x=some .free
    rw[lookup_relabel,g3]
    rcases relK_free (env:=X.env) (x:=x)with q | q
    ·exact .inl (show some (relK X.env x .free)=_ by rw[q])
    ·exact .inr (show some (relK X.env x .free)=_ by rw[q])
   obtain⟨c',h'⟩:=has x kY
   refine .inr ⟨kY,c',h',?_⟩
   rcases lk x c' h' with g | g
   ·rcases cellsFrom_mem _ _ _ _ _ g with z | z
    ·exact absurd z g4
    ·cases z
   ·rw[hcc]at g;cases g
    exact hcell.keeps keepH
 ·rcases lk x c h with g | g
  ·exact⟨_,(ok.empty x c g).1⟩
  ·obtain⟨v,q⟩:=I.cell x c g
   exact⟨v,q.keeps keepH⟩
 ·rcases lk x c h with g | g
  ·exact I.hok.fresh (aL (aM _ 1) (big _ _ g))
  ·exact I.freeC x c g
 ·show(startC js σ).length=N.length
  unfold startC
  rw[gxC];exact hc.len
end
theorem compLoopD_any {prog:Program}{w:World}{A:Around}{R:Result->Shared->Prop}{s:Shared}{kx vx target iter:Expr}{ifs:List Expr}{scope:Scope}{pos:Pos}{it:Value}{D:Addr}{env:Env}(I:Nat->Shared->Prop)
 (turn:∀ n s,I n s->wpAny (model prog w) A (pyNext it) (fun r s₁=>match r with
   | none=>R (.ok .next) s₁
   | some v=>wpAny (model prog w) A (letOwnedTupleGo target it v) (fun _ s₁'=>wpAny (model prog w) A (assign target env v) (fun _ s₂ =>
    wpAny (model prog w) A (forIn ifs true fun c r=>if r=true then do let ok <- isTrue c env (eval c env);pure (ForInStep.yield ok)else pure (ForInStep.yield r)) (fun ok s₃ =>
     if ok=true then wpAny (model prog w) A (eval kx env) (fun kv s₄=>wpAny (model prog w) A (eval vx env) (fun vv s₅ =>
      wpAny (model prog w) A (dictSet D kv vv) (fun _ s₆=>∃ m,m<n/\I m s₆) (fun _ _=>False) s₅) (fun _ _=>False) s₄) (fun _ _=>False) s₃
     else ∃ m,m<n/\I m s₃) (fun _ _=>False) s₂) (fun _ _=>False) s₁') (fun _ _=>False) s₁) (fun _ _=>False) s)
 (n:Nat) (h:I n s) :
 codeAny (model prog w) A (.compLoop (.DictComp kx vx [⟨target,iter,ifs,0⟩] scope pos) 0 it (.ref D) env) R s:=by
 refine codeAny_loop rfl I (fun n s hI=>?_) n h
 show wpAny _ A ((compTurn (.DictComp kx vx [⟨target,iter,ifs,0⟩] scope pos) 0 it (.ref D) env).onRaise (fun x=>do noteFrame x env;theTreesLotGoes x)) _ _ s
 refine wpAny_noted ?_
 rw[compTurn_dict]
 refine e9 (dg (e9 (bG (turn n s hI) (fun r s₁ h₁=>?_) fun _ _ h'=>h'.elim)))
 cases r with
 | none=>exact aa h₁
 | some v =>
  refine e9 (bG h₁ (fun _ s₁' h₁'=>?_) fun _ _ h'=>h'.elim)
  refine e9 (bG h₁' (fun _ s₂ h₂=>e9 (bG h₂ (fun ok s₃ h₃=>?_) fun _ _ h'=>h'.elim)) fun _ _ h'=>h'.elim)
  cases ok with
  | false=>exact aa ⟨rfl,h₃⟩
  | true =>
   exact e9 (e9 (bG h₃ (fun x s₄ h₄=>e9 (bp (bG h₄ (fun y s₅ h₅=>e9 (dg (bp (bG h₅ (fun _ s₆ h₆=>aa ⟨rfl,h₆⟩) fun _ _ h'=>h'.elim)))) fun _ _ h'=>h'.elim))) fun _ _ h'=>h'.elim))
def wCompD (js:List (Option Nat))(g:TG)(tt:TT)(tk tv:TE)(J:It)(σ:St)(D:Addr)(H1:Hp)(fin:List (Key×V)->Hp->Prop):Prop :=
 ∃ W:Nat->Nat->List (Key×V)->Hp->Prop,(∃ m,W 0 m [] H1)/\∀ i m eW H,W i m eW H ->
  (J.stop i H/\fin eW H)\/(J.go i H/\∀ x H',J.yld i H x H'->g x (startC js σ) H' fun σ2 H2=>Ext (startC js σ) σ2/\tt σ2 H2 fun b H3 =>
    if b=true then tk σ2 H3 fun k H4=>tv σ2 H4 fun v H5=>∃(kk:Key) (kvs':List (Key×V)),k=kV kk/\H5 D=some (.dK kvs')/\kvs'.length<sizeLine/\∃ m',m'<m/\W (i+1) m' (putK kvs' kk v) (upd H5 D (.dK (putK kvs' kk v)))else ∃ m',m'<m/\W (i+1) m' eW H3)
section
variable {X:Cx}{pins:List (Addr×Obj)}{σ:St}{H:Hp}{s:Shared}
theorem dict_set {A:Around}{E:Value->Shared->Prop}{a:Addr}{eW:List (Key×V)}{k:Key}{u r:Value}{v:V}{Q:Unit->Shared->Prop}(I:Inv X pins σ H s)(e:H a=some (.dK eW))(l:eW.length<sizeLine)(ry:RelV (kV k) u)(rv:RelV v r)
 (h:∀ s',Inv X pins σ (upd H a (.dK (putK eW k v))) s'->Q () s'):wpAny (model X.prog X.w) A (dictSet a u r) Q E s:=by
 obtain⟨z,hd,vs,rel,dd⟩:=dk_of I.hok e
 have hz:vs.length<=sizeLine:=by rw[<- rel.length];exact z
 have hl:(putK eW k v).length<=sizeLine:=by have:=length_putK eW k v;omega
 refine wpAny_dictSet_pairs (hsz:=hz) (kV_is ry) dd fun h' dd' hs=>h _ ?_
 have he:∃ q,h'.get? a=some q:=let ⟨q,_,_,hq,_⟩:=dd';⟨q,hq⟩
 exact d_write I (by rw[e];exact True.intro) hs he (dk_new hl hd (rel.put k rv) dd')
variable {N:List Str}{js:List (Option Nat)}{sc:Scope}{fp:List Addr}{tg kx vx iter:Expr}{ifs:List Expr}{g:TG}{tt:TT}{tk tv:TE}
theorem compD_block {J:It}{it D:Addr}{tn:Nat->Heap->Prop}{pos:Pos}{R:Result->Shared->Prop}{fin:List (Key×V)->Hp->Prop}{tok:Nat}(I:Inv X pins σ H s)(hc:CompOk X N js sc)(calm:X.calm=true)
 (T:Turn X.prog X.w X.K tg J fp it tn) (st:tn 0 s.heap) (hf:∀ b∈fp,FpOk X pins H b)
 (hg:PG (cxE X N sc fp s H) tg g) (ht:PTs (cxE X N sc fp s H) ifs tt) (hk:PE (cxE X N sc fp s H) kx tk) (hv:PE (cxE X N sc fp s H) vx tv) (q:wCompD js g tt tk tv J σ D H fin)
 (hR:∀ s' H' eW m,Inv X pins σ H' s'->fin eW H'->s'.heap.Ns s.heap.objs.size m->H' s.heap.objs.size=none->R (.ok .next) s') :
 codeAny (model X.prog X.w) X.A (.compStart (.DictComp kx vx [⟨tg,iter,ifs,0⟩] sc pos) 0 (.ref it) (.ref D) (envC sc s.heap.objs.size X.env)) R { s with heap:=heapE sc s.heap,toks:=tok}:=by
 have hob:∀ b∈fp,∃ o,s.heap.get? b=some o:=fun b hb=>let ⟨o,e,_⟩:=T.obj 0 s.heap st b hb;⟨o,e⟩
 have I0:=inv_compE I hc hf hob tok
 have okY:=I0.ok
 obtain⟨W,⟨m0,w0⟩,turn⟩:=q
 have stat:∀ {H':Hp},(∀ b∈fp,H' b=none)->∀ b∈fp,FpOk (cxE X N sc fp s H) [] H' b:=fun {H'} hn b hb =>
  ⟨hn b hb,(okY.exf b hb).1,okY.exfs b hb,.inl hb,(okY.exf b hb).2,fun p hp=>absurd (show p∈([]:List (Addr×Obj))from hp) (by simp)⟩
 have st0:tn 0 (heapE sc s.heap):=T.keep 0 _ _ st fun b _ o e=>heapE_keeps b o e
 have loop:codeAny (model X.prog X.w) X.A (.compLoop (.DictComp kx vx [⟨tg,iter,ifs,0⟩] sc pos) 0 (.ref it) (.ref D) (envC sc s.heap.objs.size X.env)) R { s with heap:=heapE sc s.heap,toks:=tok}:=by
  refine compLoopD_any (fun n s'=>∃ i eW H',Inv (cxE X N sc fp s H) [] (startC js σ) H' s'/\tn i s'.heap/\(∀ b∈fp,H' b=none)/\W i n eW H') ?_ m0
   ⟨0,[],H,I0,st0,fun b hb=>(hf b hb).1,w0⟩
  rintro n s3 ⟨i,eW,H3,I3,st3,fr3,w3⟩
  rcases turn i n eW H3 w3 with⟨stop,qf⟩ | ⟨go,step⟩
  ·refine thn (T.done (cxE X N sc fp s H) rfl rfl rfl calm i _ s3 _ H3 _ I3 (stat fr3) st3 stop) fun r s4 hq0=>?_
   obtain⟨hr,I4⟩:=hq0
   subst hr
   show R (.ok .next) s4
   obtain⟨m,hns,_⟩:=I4.loc
   have IX:Inv X pins σ H3 s4:=I.call' (ch:=fp) I4.os I4.base I4.hok I4.bare fun b hb=>by
    obtain⟨f0,f1,f2,f3,f4,f5⟩:=hf b hb
    exact⟨f3,f1,f4,f5⟩
   exact hR s4 H3 eW m IX qf hns I4.free
  ·refine thn (T.item (cxE X N sc fp s H) rfl rfl rfl calm i _ s3 _ H3 _ I3 (stat fr3) st3 go) fun r s4 hq1=>?_
   obtain⟨u,hr,h4⟩:=hq1
   subst hr
   refine thn h4 fun _ s5 hq2=>?_
   obtain⟨x,H5,I5,r5,y5,st5,fr5⟩:=hq2
   have I5':=I5.pinned (stat fr5) (T.obj _ _ st5)
   refine thn (hg _ s5 _ H5 x u _ I5' r5 (step x H5 y5)) fun _ s6 ⟨σ6,H6,I6,⟨ext6,q6⟩⟩=>?_
   refine thn (ht _ s6 σ6 H6 _ I6 q6) fun b s7 hq3=>?_
   obtain⟨H7,I7,q7⟩:=hq3
   have back:∀ {s':Shared} {H':Hp},Inv (cxE X N sc fp s H) ([]++pinsAt fp s5.heap) σ6 H' s'->tn (i+1) s'.heap/\(∀ b∈fp,H' b=none)/\Inv (cxE X N sc fp s H) [] (startC js σ) H' s':=fun {s' H'} I'=>by
    refine⟨T.keep _ _ _ st5 fun b hb o e=>(I'.pin (b,o) (aF _ (aF _ (mem_pinsAt hb e)))).1,fun b hb=>?_,(I'.weak ext6.1 ext6.2).unpinned⟩
    obtain⟨o,e,d⟩:=T.obj _ _ st5 b hb
    exact(I'.pin (b,o) (aF _ (aF _ (mem_pinsAt hb e)))).2.1
   cases b with
   | false =>
    obtain⟨m',hm,w7⟩:=q7
    obtain⟨t7,f7,I7'⟩:=back I7
    exact⟨m',hm,i+1,eW,H7,I7',t7,f7,w7⟩
   | true =>
    refine thn (hk _ s7 σ6 H7 _ I7 q7) fun y s8 hq4=>?_
    obtain⟨yk,H8,I8,ry,q8⟩:=hq4
    refine thn (hv _ s8 σ6 H8 _ I8 q8) fun z s9 hq5=>?_
    obtain⟨zv,H9,I9,rz,kk,kvs',ek,eD,hl,m',hm,w9⟩:=hq5
    subst ek
    refine dict_set (X:=cxE X N sc fp s H) I9 eD hl ry rz fun s10 I10=>?_
    obtain⟨t8,f8,I8'⟩:=back I10
    exact⟨m',hm,i+1,_,_,I8',t8,f8,w9⟩
 exact codeAny_compStart_dict loop (T.self _ 0 _ _ _ st0 loop)
def tCompD (wi:TI)(js:List (Option Nat))(g:TG)(tt:TT)(tk tv:TE):TE:=fun σ H Q=>wi σ H fun J H1=>∀ D,H1 D=none->wCompD js g tt tk tv J σ D (upd H1 D (.dK [])) fun _ H'=>Q (.ref D) H'
end
def flV:D->V
 | .bl b=>.bl b
 | .int i=>.int i
 | .str z=>.str z
 | _=>.non
theorem flV_is {φ:List Addr}{H:Hp}{d:D}(h:fltD d=true):DIs φ H d (flV d):=by
 cases d <;> first | exact(Bool.noConfusion (show false=true from h)) | rfl
theorem flV_eq {φ:List Addr}{H:Hp}{d:D}{v:V}(h:fltD d=true)(i:DIs φ H d v):v=flV d:=by
 cases d <;> first | exact(Bool.noConfusion (show false=true from h)) | exact i
theorem flVs {φ:List Addr}{H:Hp}:∀ {ds:List D},ds.all fltD=true->fc φ H ds (ds.map flV)
 | [],_=>rfl
 | d::ds,h=>by
  rw[cn,bh]at h
  exact⟨_,_,rfl,flV_is h.1,flVs h.2⟩
theorem flVs_eq {φ:List Addr}{H:Hp}:∀ {ds:List D} {vs:List V},ds.all fltD=true->fc φ H ds vs->vs=ds.map flV
 | [],_,_,h=>h
 | d::ds,_,f,h=>by
  obtain⟨v,r,rfl,h1,h2⟩:=h
  rw[cn,bh]at f
  rw[flV_eq f.1 h1,flVs_eq f.2 h2];rfl
def keyD:D->Option Key
 | .int i=>some (.inl i)
 | .str z=>some (.inr z)
 | _=>none
theorem keyD_is {φ:List Addr}{H:Hp}{d:D}{v:V}{k:Key}(e:keyD d=some k)(i:DIs φ H d v):v=kV k:=by
 cases d with
 | int n=>cases e;exact i
 | str z=>cases e;exact i
 | _=>cases e
def dput (eW:List (Key×D))(k:Key)(d:D):List (Key×D):=if(eW.any fun kv=>decide (kv.1=k))=true then eW.map (fun kv=>if kv.1=k then(kv.1,d)else kv)else eW++[(k,d)]
def dval (eW:List (Key×D))(k:Key):Option D:=(eW.find? fun kv=>decide (kv.1=k)).map (·.2)
def vKV (eW:List (Key×D)):List (Key×V):=eW.map fun p=>(p.1,flV p.2)
theorem dput_v (eW:List (Key×D))(k:Key)(d:D):vKV (dput eW k d)=putK (vKV eW) k (flV d):=by
 unfold dput putK vKV
 have e:((eW.map fun p=>(p.1,flV p.2)).any fun kv=>decide (kv.1=k))=(eW.any fun kv=>decide (kv.1=k)):=by rw[List.any_map];rfl
 rw[e]
 split
 ·rw[a6,a6]
  congr 1
  funext p
  show(_,_)=_
  by_cases h:p.1=k
  ·simp[h]
  ·simp[h]
 ·rw[bY];rfl
theorem dput_len (eW:List (Key×D))(k:Key)(d:D):(dput eW k d).length<=eW.length+1:=by
 unfold dput
 split
 ·rw[gxC];omega
 ·rw[gxE,bE];omega
theorem dput_flat {eW:List (Key×D)}{k:Key}{d:D}(h:(eW.map (·.2)).all fltD=true)(hd:fltD d=true):((dput eW k d).map (·.2)).all fltD=true:=by
 unfold dput
 rw[eL]at h ⊢
 intro x hx
 split at hx
 ·rw[a6]at hx
  obtain⟨p,hp,rfl⟩:=List.mem_map.mp hx
  show fltD (if p.1=k then(p.1,d)else p).2=true
  split
  ·exact hd
  ·exact h _ (List.mem_map.mpr ⟨p,hp,rfl⟩)
 ·rw[bY]at hx
  rcases List.mem_append.mp hx with q | q
  ·exact h x q
  ·rw[List.mem_singleton.mp (show x∈[d]from q)];exact hd
abbrev dicD (eW:List (Key×D)):D:=.dic (eW.map (·.1)) (eW.map (·.2))
def dcompW (it:D->MS->(Option (Key×D)->MS->Prop)->Prop)(c:MS->Prop)(μ:MS):List D->List (Key×D)->(List (Key×D)->Prop)->Prop
 | [],eW,K=>c (μ++[.dic (eW.map (·.1)) (eW.map (·.2))])/\K eW
 | d::ds,eW,K=>c (μ++[.dic (eW.map (·.1)) (eW.map (·.2))])/\it d (μ++[.dic (eW.map (·.1)) (eW.map (·.2))]) fun o μ'=>μ'=μ++[.dic (eW.map (·.1)) (eW.map (·.2))]/\(match o with
  | some (k,y)=>fltD y=true/\dcompW it c μ ds (dput eW k y) K
  | none=>dcompW it c μ ds eW K)
def dItemD (ρ:DE)(y:DG)(t:Dt)(wk wv:De)(d:D)(μ:MS)(K:Option (Key×D)->MS->Prop):Prop:=y d ρ μ fun ρ2 μ2=>t ρ2 μ2 fun b μ3=>if b=true then wk ρ2 μ3 fun kd μ4=>opt (keyD kd) fun k=>wv ρ2 μ4 fun v μ5=>K (some (k,v)) μ5 else K none μ3
def dCompD (wi:DI)(js:List (Option Nat))(y:DG)(t:Dt)(wk wv:De):De:=fun ρ μ K=>wi ρ μ fun ds c fB=>ds.length<=sizeLine/\dcompW (dItemD (startD js ρ) y t wk wv) c fB ds [] fun eW=>K (dicD eW) fB
theorem Fr.noext {φ φ':List Addr}{H H':Hp}(f:Fr φ H φ' H')(hl:φ'.length=φ.length):φ'=φ:=by
 obtain⟨⟨ψ,rfl,_⟩,_,_⟩:=f
 rw[gxE]at hl
 have:ψ=[]:=List.length_eq_zero_iff.mp (by omega)
 rw[this,b7]
theorem tD_compD {wi:DI}{js:List (Option Nat)}{g:TG}{y:DG}{S:List Nat}{t:Dt}{wk wv:De}(so:SoG g y S)(mo:MonoG g)(ho:ownJs S js=true){σ:St}{H:Hp}{Q:VK}(h:tD (dCompD wi js y t wk wv) σ H Q):tCompD (tDI wi) js g (tDT t) (tD wk) (tD wv) σ H Q:=by
 obtain⟨φ,ρ,μ,K,A,M,k,L⟩:=h
 refine⟨φ,ρ,μ,_,A,M,k,fun ds c fB φ1 J H1 k1 f1 M1 wk' D hD=>?_⟩
 obtain⟨hz,k1⟩:=k1
 have hDf:D∉φ1:=M1.fresh hD
 have fD:Fr φ1 H1 (φ1++[D]) (upd H1 D (.dK [])):=⟨(Fr.snoc (φ:=φ1) hD).ext,fun c u _ e=>Same.upd hD _ _ e,fun c e=>(Same.upd hD).free e⟩
 obtain⟨MD,_⟩:=M1.snoc (m:=.dic [] []) (o:=.dK []) hD ⟨[],[],fA,rfl,rfl,rfl⟩
 have lenD:(φ1++[D]).length=fB.length+1:=by rw[gxE,M1.len];rfl
 have atD:∀ {H':Hp} {eW:List (Key×L2.D)},(eW.map (·.2)).all fltD=true->MSis (φ1++[D]) H' (fB++[.dic (eW.map (·.1)) (eW.map (·.2))])->H' D=some (.dK (vKV eW)):=fun {H' eW} hfl M'=>by
  obtain⟨p,e1,kvs',vs,e2,e3,e4,e5⟩:=M'.at_ fB.length _ (by rw[gxG (ae _),aO];rfl)
  rw[gxG (by rw[M1.len];exact ae _),M1.len,aO]at e1
  cases e1
  rw[e2]
  congr 2
  have e6:=flVs_eq hfl e5
  rw[e4]at e6
  unfold vKV
  have key:∀(as:List (Key×V)) (bs:List (Key×L2.D)),as.map (·.1)=bs.map (·.1)->as.map (·.2)=(bs.map (·.2)).map flV->as=bs.map fun p=>(p.1,flV p.2):=by
   intro as
   induction as with
   | nil=>intro bs h1 _;cases bs with
    | nil=>rfl
    | cons _ _=>cases h1
   | cons a as ih =>
    intro bs h1 h2
    cases bs with
    | nil=>cases h1
    | cons b bs =>
     simp only[ag,bS]at h1 h2 ⊢
     exact⟨Prod.ext h1.1 h2.1,ih bs h1.2 (by simpa using h2.2)⟩
  exact key kvs' eW e3 e6
 refine⟨fun i n kv H'=>n=ds.length - i/\i<=ds.length/\∃ eW:List (Key×L2.D),kv=vKV eW/\eW.length<=i/\(eW.map (·.2)).all fltD=true/\Fr φ1 H1 (φ1++[D]) H'/\MSis (φ1++[D]) H' (fB++[.dic (eW.map (·.1)) (eW.map (·.2))])/\dcompW (dItemD (startD js ρ) y t wk wv) c fB (ds.drop i) eW fun eW=>K (dicD eW) fB,
  ⟨ds.length,rfl,bV _,[],rfl,bV _,rfl,fD,MD,k1⟩,?_⟩
 rintro i n kv H' ⟨rfl,hi,eW,rfl,hkl,hfl,f',M',w'⟩
 by_cases hlt:i<ds.length
 ·rw[bH hlt]at w'
  obtain⟨c',w'⟩:=w'
  obtain⟨go,yld⟩:=(wk' _ H' _ f' M' c' i).1 ds[i] (gxA hlt)
  refine .inr ⟨go,fun x H2 hy2=>?_⟩
  obtain⟨f2,M2,i2⟩:=yld x H2 hy2
  have E2:DEnv (φ1++[D]) H2 (startD js ρ) (startC js σ):=((A.mono (f1.trans (f'.trans f2))).startC js)
  refine mo _ _ _ _ _ (fun σ3 H3 hq6=>?_) (so _ H2 _ _ _ _ x _ E2 M2 i2 w')
  obtain⟨e3,l3,n3,ρ3,E3,k3⟩:=hq6
  refine⟨ext_of ho l3 n3,?_⟩
  subst e3
  refine⟨_,ρ3,_,_,E3,M2,k3,fun b μ4 φ4 H4 k4 f4 M4=>?_⟩
  cases b with
  | true =>
   refine⟨φ4,ρ3,μ4,_,E3.mono f4,M4,k4,fun d5 μ5 φ5 v5 H5 k5 f5 M5 i5=>?_⟩
   obtain⟨kk,ekk,k5⟩:=opt_ex k5
   refine⟨φ5,ρ3,μ5,_,E3.mono (f4.trans f5),M5,k5,fun d6 μ6 φ6 v6 H6 k6 f6 M6 i6=>?_⟩
   obtain⟨e6,hfy,w6⟩:=k6
   subst e6
   have ff:=f2.trans (f4.trans (f5.trans f6))
   have ef:φ6=φ1++[D]:=ff.noext (by rw[M6.len,M'.len])
   subst ef
   have hDv:=atD hfl M6
   refine⟨kk,_,keyD_is ekk i5,hDv,by unfold vKV;rw[gxC];omega,ds.length - (i+1),by omega,rfl,hlt,dput eW kk d6,by rw[dput_v,flV_eq hfy i6],by have:=dput_len eW kk d6;omega,dput_flat hfl hfy,?_,?_,w6⟩
   ·refine(f'.trans ff).trans (.put (aF _ (List.mem_singleton.mpr rfl)))
   ·have hp:(φ1++[D])[fB.length]?=some D:=by rw[gxG (by rw[M1.len];exact ae _),M1.len,aO];rfl
    have q:=M6.put (k:=fB.length) (p:=D) (o:=.dK (putK (vKV eW) kk v6)) (m:=.dic ((dput eW kk d6).map (·.1)) ((dput eW kk d6).map (·.2))) hp
     ⟨vKV (dput eW kk d6),((dput eW kk d6).map (·.2)).map flV,by rw[fA,dput_v,flV_eq hfy i6],by unfold vKV;rw[a6];rfl,by unfold vKV;rw[a6,a6];rfl,flVs (dput_flat hfl hfy)⟩
    have e:(fB++[MO.dic (eW.map (·.1)) (eW.map (·.2))]).set fB.length (.dic ((dput eW kk d6).map (·.1)) ((dput eW kk d6).map (·.2)))=fB++[.dic ((dput eW kk d6).map (·.1)) ((dput eW kk d6).map (·.2))]:=set_end
    rw[e]at q
    exact q
  | false =>
   obtain⟨e4,w4⟩:=k4
   subst e4
   have ff:=f2.trans f4
   have ef:φ4=φ1++[D]:=ff.noext (by rw[M4.len,M'.len])
   subst ef
   exact⟨ds.length - (i+1),by omega,rfl,hlt,eW,rfl,by omega,hfl,f'.trans ff,M4,w4⟩
 ·have e:i=ds.length:=by omega
  subst e
  rw[List.drop_length]at w'
  refine .inl ⟨(wk' _ H' _ f' M' w'.1 _).2 rfl,?_⟩
  have M'':MSis φ1 H' fB:=by
   have q:=M'.cutT (n:=fB.length) (fun k m hk e=>by rw[gxF hk]at e;exact M1.bound k m e)
   rw[bW,show(φ1++[D]).take fB.length=φ1 by rw[<- M1.len,bW]]at q
   exact q
  have f'':Fr φ1 H1 φ1 H':=⟨⟨[],by simp,fun _ h=>nomatch h⟩,f'.keep,f'.dom⟩
  exact L _ fB φ1 _ H' w'.2 (f1.trans f'') M'' ⟨D,vKV eW,_,rfl,hDf,atD hfl M',by unfold vKV;rw[a6];rfl,rfl,by
   have:(vKV eW).map (·.2)=(eW.map (·.2)).map flV:=by unfold vKV;rw[a6,a6];rfl
   rw[this];exact flVs hfl⟩
section
variable {X:Cx}{a b e:Expr}{es:List Expr}{pos:Pos}
variable {N:List Str}{js:List (Option Nat)}{sc:Scope}{tg kx vx iter:Expr}{ifs:List Expr}{g:TG}{y:DG}{S:List Nat}{t:Dt}{wk wv:De}
def dIxK:DOp:=fun x y μ K=>match x with
 | .dic ks ds=>opt (keyD y) fun k=>opt (dval (ks.zip ds) k) fun d=>K d μ
 | _=>False
theorem dval_get {φ:List Addr}{H:Hp}{ks:List Key}:∀ {ds:List D} {eW:List (Key×V)} {k:Key} {d:D},eW.map (·.1)=ks->fc φ H ds (eW.map (·.2))->dval (ks.zip ds) k=some d->∃ v,valV eW k=some v/\DIs φ H d v:=by
 intro ds eW
 induction eW generalizing ks ds with
 | nil=>intro k d h1 h2 h3;cases h1;cases h3
 | cons p eW ih =>
  intro k d h1 h2 h3
  cases ks with
  | nil=>cases h1
  | cons k0 ks =>
   cases ds with
   | nil=>cases(show _=_ from h2)
   | cons d0 ds =>
    obtain⟨v,r,e,h4,h5⟩:=h2
    simp only[ag,bS]at h1 e
    obtain⟨rfl,rfl⟩:=e
    obtain⟨rfl,h1⟩:=h1
    rw[ck]at h3
    unfold dval at h3
    rw[bZ]at h3
    by_cases hk:p.1=k
    ·simp only[hk,decide_true]at h3
     cases h3
     exact⟨p.2,valV_pos hk,h4⟩
    ·simp only[hk,decide_false]at h3
     obtain⟨v,a,b⟩:=ih h1 h5 (k:=k) (d:=d) h3
     exact⟨v,by rw[valV_neg hk];exact a,b⟩
theorem d_ixK {wa wb:De}(hu:X.A.units+1<cLine)(ha:PD X a wa)(hb:PD X b wb)(hs:NoSl b):PD X (.Subscript a b pos) (dOp dIxK wa wb):=(pe_dget hu ha hb hs).imp fun σ H Q hq=>by
 obtain⟨φ,ρ,μ,K,A,M,k,L⟩:=hq
 refine⟨φ,ρ,μ,_,A,M,k,fun d1 fB φ1 v1 H1 k1 f1 M1 i1=>?_⟩
 refine⟨φ1,ρ,fB,_,A.mono f1,M1,k1,fun d2 μ2 φ2 v2 H2 k2 f2 M2 i2=>?_⟩
 unfold dIxK at k2
 split at k2
 ·obtain⟨k,ek,k2⟩:=opt_ex k2
  obtain⟨d,ed,k2⟩:=opt_ex k2
  obtain⟨p,eW,vs,rfl,_,hp,e1,e2,ha⟩:=i1.mono f2
  cases keyD_is ek i2
  subst e2
  obtain⟨v,ev,iv⟩:=dval_get e1 ha ed
  exact⟨p,v,rfl,.inl ⟨eW,k,.inl hp,rfl,ev.symm⟩,(L.mono (f1.trans f2)).val M2 k2 iv⟩
 ·exact k2.elim
end
theorem worst_is (ns:List Int):∀ k,k<ns.length->argBest (fun i j=>decide (ns.getD i 0<ns.getD j 0)) k<=k/\∀ j,j<=k->ns.getD (argBest (fun i j=>decide (ns.getD i 0<ns.getD j 0)) k) 0<=ns.getD j 0
 | 0,_=>⟨ae _,fun j hj=>by rw[show j=0 by omega];exact a9 _⟩
 | k+1,h=>by
  obtain⟨h1,h2⟩:=worst_is ns k (by omega)
  unfold argBest
  by_cases hb:ns.getD (k+1) 0<ns.getD (argBest (fun i j=>decide (ns.getD i 0<ns.getD j 0)) k) 0
  ·rw[au (aE hb)]
   refine⟨ae _,fun j hj=>?_⟩
   by_cases e:j=k+1
   ·rw[e];exact a9 _
   ·exact b8 (cM hb) (h2 j (by omega))
  ·rw[aq (by simp only[aZ];exact hb)]
   refine⟨by omega,fun j hj=>?_⟩
   by_cases e:j=k+1
   ·rw[e];omega
   ·exact h2 j (by omega)
section
variable {prog:Program}{w:World}{A:Around}{R:Result->Shared->Prop}{I:Addr}{fp wr:List Addr}{n:Nat}{P:Nat->Value->Prop}{St:Nat->Heap->Prop}{kw:List (Str×Value)}
theorem minK_go (W:Walks prog w A.in1 I fp wr n P St)(bt:Nat->Nat->Bool)(hcmp:CmpOf prog w A.in1 .Lt P bt)(S:Addr)(hSf:S∉fp) :
 ∀(k j:Nat) (s:Shared) (vb:Value) (c:Nat),n - (j+1)=k->j+1<=n->St (j+1) s.heap->P (argBest bt j) vb->s.heap.get? S=some { cls:=.type "list",dict:=none,data:=.seq #[vb,vb] c,slots:=#[]} ->
 (∀ v h' tk,P (argBest bt (n - 1)) v->(∀ b o,b∉wr->b≠S->s.heap.get? b=some o->h'.get? b=some o)->R (.ok (.ret v)) { s with heap:=h',toks:=tk}) ->
 codeAny (model prog w) A (.builtin "min.loop" ⟨[.ref I,.none,.ref S],kw⟩) R s:=by
 have Sw:S∉wr:=fun h=>hSf (W.sub _ h)
 have nm:(toString "min"++toString ".loop" : String) = "min.loop":=by decide
 intro k
 induction k with
 | zero =>
  intro j s vb c hk hj hst hP hS hR
  have ej:j+1=n:=by omega
  refine dn dM ?_
  rw[cO bT _]
  show wpAny _ _ (seqItems? (.ref S) >>= _) _ _ s
  refine e9 (aP hS rfl ?_)
  show wpAny _ _ (tryCatch (pyNext (.ref I)) _ >>= _) _ _ s
  refine e9 (dG (W.done s _ _ (ej▸hst) fun h' tk kp=>?_))
  show wpAny _ _ (updateSeq S (fun _=>#[]) >>= _) _ _ _
  refine e9 (cJ (kp S _ Sw hS) rfl (e9 (cu (aa ?_))))
  exact hR vb _ tk (by rw[<- ej];exact hP) fun b o hb hbS e=>(aI _ _ (aY hbS)).trans (kp b o hb e)
 | succ k ih =>
  intro j s vb c hk hj hst hP hS hR
  have lt:j+1<n:=by omega
  refine dn dM ?_
  rw[cO bT _]
  show wpAny _ _ (seqItems? (.ref S) >>= _) _ _ s
  refine e9 (aP hS rfl ?_)
  show wpAny _ _ (tryCatch (pyNext (.ref I)) _ >>= _) _ _ s
  refine e9 (dG (W.item (j+1) s _ _ lt hst fun v h' tk hv hst' kp=>?_))
  have hS':=kp S _ Sw hS
  show wpAny _ _ (tryCatch (holding [v,v] (richCompare .Lt v vb >>= _)) _ >>= _) _ _ _
  refine e9 (dG (bp (e9 (hcmp (j+1) (argBest bt j) v vb _ _ _ hv hP (e9 (bp (cv (e9 (cu (aa ?_))))))))))
  cases hb:bt (j+1) (argBest bt j)with
  | true =>
   simp only[if_true]
   refine e9 (cJ hS' rfl (e9 (cu ?_)))
   rw[nm]
   refine aa ⟨dj bT _,ih (j+1) _ v _ (by omega) lt (W.frame _ _ _ hst' fun b hbf o e=>?_) (by simp only[argBest,hb,if_true];exact hv) (bc _ hS' rfl) fun v' h2 tk2 hv2 kp2=>?_⟩
   ·exact(aI _ _ (fun h:S=b=>hSf (by rw[h];exact hbf))).trans e
   ·exact hR v' h2 tk2 hv2 fun b o h1 h3 e=>kp2 b o h1 h3 ((aI _ _ (aY h3)).trans (kp b o h1 e))
  | false =>
   simp only[dA,if_false]
   refine e9 (cu ?_)
   rw[nm]
   exact aa ⟨dj bT _,ih (j+1) _ vb c (by omega) lt hst' (by simp only[argBest,hb,dA,if_false];exact hP) hS' fun v' h2 tk2 hv2 kp2=>hR v' h2 tk2 hv2 fun b o h1 h3 e=>kp2 b o h1 h3 (kp b o h1 e)⟩
end
theorem args_min_d (a v:Value):argsOk "min" ⟨[a],[(Str.ofString "default",v)]⟩:=by unfold argsOk;kernel_rfl
section
variable {X:Cx}
theorem min_default {pins:List (Addr×Obj)}{σ:St}{H:Hp}{s:Shared}{p:Addr}{ns:List Int}{d:V}{dv:Value}{Q:VK}(I:Inv X pins σ H s)(calm:X.calm=true)(hp:H p=some (.lst (ns.map V.int)))(rd:RelV d dv)(q:if ns=[]then Q d H else ∀ m,m∈ns->(∀ y∈ns,m<=y)->Q (.int m) H) :
 wpAny (model X.prog X.w) X.A (call (.builtin "min") [.ref p] [(Str.ofString "default",dv)]) (EP X pins σ Q) X.xe s:=by
 have nm:(toString "min"++toString ".loop" : String) = "min.loop":=by decide
 obtain⟨_,fw,n,r,hl,e⟩:=I.lstM hp
 have isl:s.heap.IsList p fw.toArray:=⟨_,e,rfl,n,rfl⟩
 have lt:p≠s.heap.objs.size:=ai (gxN e)
 have len:fw.toArray.size=ns.length:=by rw[ah,<- hl,gxC]
 have val:∀(i:Nat) (v:Value),fw.toArray[i]?=some v->∃ t,i<ns.length/\v=.int (ns.getD i 0) t:=fun i v hv=>by
  have hv':fw[i]?=some v:=by simpa using hv
  cases eb:(ns.map V.int)[i]? with
  | none=>have:=r.none_of eb;rw[hv']at this;cases this
  | some y =>
   obtain⟨u,hu,ry⟩:=r.get eb
   rw[hv']at hu;cases hu
   rw[gxH]at eb
   cases e2:ns[i]? with
   | none=>rw[e2]at eb;cases eb
   | some b =>
    rw[e2]at eb;cases eb
    obtain⟨t,rfl⟩:=ry
    exact⟨t,(gxB e2).1,by rw[af,e2];rfl⟩
 refine PyProof.Rows.kmk_tree PySem.F.kind_min PySem.F.plain_min PySem.F.entry_min (args_min_d _ _) ?_
 show wpAny _ _ (Builtin.Builtins.bindParams "min" ["key", "default"] 0 ⟨[],[(Str.ofString "default",dv)]⟩ >>= _) _ _ s
 refine e9 (wpAny_of_eq (show Builtin.Builtins.bindParams "min" ["key", "default"] 0 ⟨[],[(Str.ofString "default",dv)]⟩=pure [none,some dv]from rfl) (e9 (aa (e9 (c4 isl (e9 (wpAny_newList ?_ (bV _))))))))
 rw[nm]
 have W:=Walks.list (prog:=X.prog) (w:=X.w) (A:=X.A.in1) (I.ok.hd calm) s.heap.objs.size p lt fw.toArray
 have hS:((s.heap.push { cls:=.type "list_iterator",data:=.fields #[.ref p,.int 0 0]}).push { cls:=.type "list",data:=.seq ([]:List Value).toArray}).get? (s.heap.push { cls:=.type "list_iterator",data:=.fields #[.ref p,.int 0 0]}).objs.size=some { cls:=.type "list",dict:=none,data:=.seq #[] 0,slots:=#[]}:=ak _ rfl
 have sz1:(s.heap.push { cls:=.type "list_iterator",data:=.fields #[.ref p,.int 0 0]}).objs.size=s.heap.objs.size+1:=aS ..
 have ltp:p<s.heap.objs.size:=gxN e
 have Sf:(s.heap.push { cls:=.type "list_iterator",data:=.fields #[.ref p,.int 0 0]}).objs.size∉[s.heap.objs.size,p]:=by
  rw[sz1]
  simp only[aH,aw,bz,not_or]
  exact⟨aU (bA _),aU (aV ltp)⟩
 have st0:((s.heap.push { cls:=.type "list_iterator",data:=.fields #[.ref p,.int 0 0]}).push { cls:=.type "list",data:=.seq ([]:List Value).toArray}).IsListIter s.heap.objs.size p 0/\((s.heap.push { cls:=.type "list_iterator",data:=.fields #[.ref p,.int 0 0]}).push { cls:=.type "list",data:=.seq ([]:List Value).toArray}).IsList p fw.toArray :=
  ⟨⟨_,gxL _ (ak _ rfl),rfl,rfl⟩,(isl.push _).push _⟩
 have back:∀ {h':Heap} {tk:Nat},(∀ b o,s.heap.get? b=some o->h'.get? b=some o)->Inv X pins σ H { s with heap:=h',toks:=tk}:=fun kp=>I.kept kp
 refine aa ⟨dj bT _,?_⟩
 refine dn dM ?_
 rw[cO bT _]
 show wpAny _ _ (seqItems? (.ref _) >>= _) _ _ _
 refine e9 (aP hS rfl ?_)
 show wpAny _ _ (tryCatch (pyNext (.ref s.heap.objs.size)) _ >>= _) _ _ _
 by_cases hn:ns=[]
 ·rw[au hn]at q
  have z0:fw.toArray.size=0:=by rw[len,hn];rfl
  refine e9 (dG (W.done _ _ _ (by rw[z0];exact st0) fun h' tk kp=>?_))
  show wpAny _ _ (rule _ >>= _) _ _ _
  refine e9 (c5 (aa ?_))
  exact⟨d,H,back fun b o eb=>kp b o (by simpa using ai (gxN eb)) (gxL _ (gxL _ eb)),rd,q⟩
 ·rw[aq hn]at q
  have pos:0<ns.length:=List.length_pos_iff.mpr hn
  refine e9 (dG (W.item 0 _ _ _ (by rw[len];exact pos) st0 fun v h' tk hv hst' kp=>?_))
  have hS':=kp _ _ (by simpa using(fun z:(s.heap.push { cls:=.type "list_iterator",data:=.fields #[.ref p,.int 0 0]}).objs.size=s.heap.objs.size=>Sf (by simp[z]))) hS
  show wpAny _ _ (updateSeq _ (fun _=>#[v,v]) >>= _) _ _ _
  refine e9 (cJ hS' rfl ?_)
  rw[nm]
  refine aa ⟨dj bT _,minK_go W (fun i j=>decide (ns.getD i 0<ns.getD j 0)) ?_ _ Sf _ 0 _ v _ rfl (by rw[len];exact pos) (W.frame _ _ _ hst' fun b hbf o eb=>?_) hv (bc _ hS' rfl) fun v' h2 tk2 hv2 kp2=>?_⟩
  ·intro i j vi vj s' Q' E' hi hj hq
   obtain⟨t,_,rfl⟩:=val i vi hi
   obtain⟨t',_,rfl⟩:=val j vj hj
   exact lt_int hq
  ·exact(aI _ _ (fun h=>Sf (by rw[h];exact hbf))).trans eb
  ·rw[len]at hv2
   obtain⟨t,hlt,rfl⟩:=val _ v' hv2
   obtain⟨b1,b2⟩:=worst_is ns (ns.length - 1) (by omega)
   have nS:∀ b o,s.heap.get? b=some o->b≠(s.heap.push { cls:=.type "list_iterator",data:=.fields #[.ref p,.int 0 0]}).objs.size:=fun b o eb=>by rw[sz1];exact ai (aV (gxN eb))
   have nI:∀ b o,s.heap.get? b=some o->b∉[s.heap.objs.size]:=fun b o eb=>by simpa using ai (gxN eb)
   refine⟨.int _,H,back fun b o eb=>kp2 b o (nI b o eb) (nS b o eb) ((aI _ _ (aY (nS b o eb))).trans (kp b o (nI b o eb) (gxL _ (gxL _ eb)))),⟨t,rfl⟩,q _ ?_ fun x hx=>?_⟩
   ·rw[af,gxA hlt];exact bw _
   ·obtain⟨j,hj,ej⟩:=aJ hx
    have:=b2 j (by omega)
    rw[af (i:=j),gxA hj,ej]at this
    exact this
def dMinD (w wd:De):De:=fun ρ μ K=>w ρ μ fun x fB=>wd ρ fB fun d μ2=>∃ ns:List Int,lv μ2 x=some (ns.map D.int)/\if ns=[]then K d μ2 else ∀ m,m∈ns->(∀ y∈ns,m<=y)->K (.int m) μ2
theorem d_minD {e c:Expr}{p pos kpos:Pos}{w wd:De}(calm:X.calm=true)(hg:Gl X "min")(hm:X.mg "min"=none)(he:PD X e w)(hc:PD X c wd)
 (h1:starEach [e] X.env=(false,eval e X.env)::starEach [] X.env:=by rfl)
 (h2:backTo pos (starEach [e] X.env)=(false,eval e X.env)::backTo pos (starEach [] X.env):=by rfl) (h3:(backTo pos (starEach [e] X.env)).any (·.1)=false:=by rfl)
 (h4:(backToKw pos (keywordEach [⟨some "default",c,kpos⟩] X.env)).all (·.1.isSome)=true:=by rfl) (h5:(backToKw pos (keywordEach [⟨some "default",c,kpos⟩] X.env)).any (·.1.isNone)=false:=by rfl)
 (h6:(backToKw pos (keywordEach [⟨some "default",c,kpos⟩] X.env)).filterMap (·.1)=[Str.ofString "default"]:=by rfl) :
 PD X (.Call (.Name "min" p) [e] [⟨some "default",c,kpos⟩] pos) (dMinD w wd):=by
 intro pins s σ H Q I h
 obtain⟨φ,ρ,μ,K,A,M,k,L⟩:=h
 refine cE (ld_blt I hg hm eA ?_)
 have q1:tCons (tD w) tNil σ H (fun us H1=>tCons (tD wd) tNil σ H1 fun ds H2=>∃(l:Addr) (d:V) (ns:List Int),us=[.ref l]/\ds=[d]/\H2 l=some (.lst (ns.map V.int))/\if ns=[]then Q d H2 else ∀ m,m∈ns->(∀ y∈ns,m<=y)->Q (.int m) H2):=by
  refine⟨φ,ρ,μ,_,A,M,k,fun d1 fB φ1 v1 H1 k1 f1 M1 i1=>?_⟩
  refine⟨φ1,ρ,fB,_,A.mono f1,M1,k1,fun d2 μ2 φ2 v2 H2 k2 f2 M2 i2=>?_⟩
  obtain⟨ns,el,k2⟩:=k2
  obtain⟨l,vs,rfl,hp,ha⟩:=lv_is M2 (i1.mono f2) el
  have L2':=L.mono (f1.trans f2)
  refine⟨l,v2,ns,rfl,rfl,by rw[hp,ha.ints],?_⟩
  by_cases hn:ns=[]
  ·rw[au hn]at k2 ⊢;exact L2'.val M2 k2 i2
  ·rw[aq hn]at k2 ⊢;exact fun m a b=>L2'.val M2 (k2 m a b) rfl
 refine PyProof.Rows.callWith_kw (thn (pa_cons he pa_nil h1 pos pins s σ H _ I q1) fun us s1 hq1=>?_) h2 h3 h4 h5
 obtain⟨vs,H1,I1,r1,q2⟩:=hq1
 refine thn (pk_cons hc pk_nil pos pins s1 σ H1 _ I1 q2) fun ks s2 hq2=>?_
 obtain⟨ds,H2,I2,r2,l,d,ns,e1,e2,hp,q⟩:=hq2
 subst e1 e2
 obtain⟨u,rfl,ru⟩:=r1.one
 obtain⟨u2,rfl,ru2⟩:=r2.one
 cases ru
 rw[h6]
 exact min_default I2 calm hp ru2 q
def rIndexC:V->List V->Hp->VK->Prop:=fun x vs H Q=>∃(l:Addr) (y:Int) (ns:List Int) (j:Nat),x=.ref l/\vs=[.int y]/\H l=some (.lst (ns.map V.int))/\ns[j]?=some y/\(∀ m,m<j->ns[m]?≠some y)/\Q (.int j) H
theorem indexC:MtR X "list.index" rIndexC:=by
 intro pins s σ H x vs v us Q I rx rv h
 ·obtain⟨l,y,ns,j,rfl,rfl,hl,hj,hno,q⟩:=h
  cases rx
  obtain⟨u,rfl,t,rfl⟩:=rv.one
  obtain⟨hz,fw,n,r,hlen,e⟩:=I.lstM hl
  have hjl:j<ns.length:=(gxB hj).1
  have len:fw.length=ns.length:=by rw[<- hlen,gxC]
  have eU:∀(m:Nat) (hm:m<fw.length),fw[m]=fw[m]/\eqU (.int y) fw[m]=decide (ns[m]?=some y):=fun m hm=>by
   obtain⟨w',ew,rw'⟩:=r.get (i:=m) (x:=.int (ns[m]'(by omega))) (by rw[gxH,gxA (by omega)];rfl)
   have:fw[m]=w':=by rw[gxA hm]at ew;exact aB ew
   refine⟨rfl,?_⟩
   rw[this,eqU_of rw' rfl]
   show(ns[m]==y)=_
   rw[gxA (by omega)]
   by_cases h:ns[m]'(by omega)=y
   ·simp[h]
   ·simp[h]
  refine call_meets PySem.F.slot_list_index ⟨_,e,rfl⟩ PySem.F.entry_list_index (PySem.F.args_list_index_2 _ _) (SeqAt.list_indexAt l fw.toArray n none #[] (.int y t) (eqU (.int y)) j (by rw[ah,len];exact hjl) (by have:=line63;rw[gxC]at hz;omega) ?_ fun m hm hmj=>?_) ⟨e,fun z hzm=>mem_eqAt (x:=.int y) ⟨t,rfl⟩ rfl r (by simp[flatV]) z (by simpa using hzm),?_⟩
  ·have:=(eU j (by omega)).2
   rw[aE hj]at this
   simpa using this
  ·have:=(eU m (by omega)).2
   rw[aT (hno m hmj)]at this
   simpa using this
  ·exact⟨.int j,H,I.tok _,⟨_,rfl⟩,q⟩
def fIndex:DMt:=fun d ds μ K=>match ds with
 | [.int y]=>∃(ns:List Int) (j:Nat),lv μ d=some (ns.map D.int)/\ns[j]?=some y/\(∀ m,m<j->ns[m]?≠some y)/\K (.int j) μ
 | _=>False
theorem so_index {Kf:PySem.W.Frag}:SoMt Kf "list" rIndexC fIndex:=fun φ H x vs d ds μ K Q M hx h k L=>by
 unfold fIndex at k
 split at k
 ·obtain⟨v,r,rfl,h1,h2⟩:=h;cases(show r=[]from h2);cases(show v=_ from h1)
  obtain⟨ns,j,el,h1,h2,k⟩:=k
  obtain⟨p,us,rfl,hp,ha⟩:=lv_is M hx el
  exact⟨_,_,ns,j,rfl,rfl,by rw[hp,ha.ints],h1,h2,L.val M k rfl⟩
 ·exact k.elim
end
theorem fmax_ge:∀(xs:List Int) (e:Int),e<=xs.foldl max e/\∀ x∈xs,x<=xs.foldl max e
 | [],e=>⟨a9 _,fun _ h=>nomatch h⟩
 | y::xs,e=>by
  obtain⟨h1,h2⟩:=fmax_ge xs (max e y)
  rw[cz]
  refine⟨by omega,fun x hx=>?_⟩
  rcases List.mem_cons.mp hx with q | q
  ·omega
  ·exact h2 x q
theorem fmax_mem:∀(xs:List Int) (e:Int),xs.foldl max e=e\/xs.foldl max e∈xs
 | [],e=>.inl rfl
 | y::xs,e=>by
  rw[cz]
  rcases fmax_mem xs (max e y)with h | h
  ·rw[h]
   rcases Int.le_total e y with q | q
   ·exact .inr (by rw[show max e y=y by omega];exact ao)
   ·exact .inl (by omega)
  ·exact .inr (gxI _ h)
def clN (l:List Nat)(e:Nat):Nat:=e+((l.drop e).takeWhile (·==111)).length
theorem clN_is {l:List Nat}{e:Nat}(ho:OX l)(he:e<=l.length):ClT l e (clN l e):=by
 have split:=List.takeWhile_append_dropWhile (p:=fun c=>c==111) (l:=l.drop e)
 have len:=cj List.length split
 rw[gxE,bB]at len
 refine⟨aM _ _,by unfold clN;omega,fun v h1 h2=>?_,?_⟩
 ·have hv:v - e<((l.drop e).takeWhile (·==111)).length:=by unfold clN at h2;omega
  have g:l[v]?=((l.drop e).takeWhile (·==111))[v - e]?:=by
   have q:(l.drop e)[v - e]?=l[v]?:=by rw[cG];congr 1;omega
   rw[<- q,<- split,gxF hv]
   simp
  rw[g,gxA hv]
  have:=List.all_eq_true.mp (List.all_takeWhile (l:=l.drop e) (p:=fun c=>c==111)) _ (bw hv)
  simpa using this
 ·cases hd:(l.drop e).dropWhile (·==111)with
  | nil =>
   left
   rw[hd]at len
   unfold clN
   simp at len
   omega
  | cons c r =>
   right
   have g:l[clN l e]?=some c:=by
    have q:(l.drop e)[clN l e - e]?=l[clN l e]?:=by rw[cG];congr 1;unfold clN;omega
    rw[<- q,<- split,gxG (by unfold clN;simp),hd]
    unfold clN
    simp
   have nc:c≠111:=by
    have:=List.head?_dropWhile_not (p:=fun c=>c==111) (l:=l.drop e)
    rw[hd]at this
    simpa using this
   rw[g]
   rcases ho c (gxD g)with q | q
   ·exact absurd q nc
   ·rw[q]
def farF (es:List Int)(l:List Nat)(e:Int):Int:=(es.filter fun x=>decide (x<=(clN l e.toNat:Int))).foldl max e
theorem farF_is {es:List Int}{l:List Nat}{e:Int}(ho:OX l)(h0:0<=e)(he:e<=l.length)(hm:e∈es):Far es l e (farF es l e):=by
 have ct:=clN_is ho (e:=e.toNat) (by omega)
 have ein:e∈es.filter fun x=>decide (x<=(clN l e.toNat:Int)):=List.mem_filter.mpr ⟨hm,aE (by have:=ct.1;omega)⟩
 obtain⟨a,b⟩:=fmax_ge (es.filter fun x=>decide (x<=(clN l e.toNat:Int))) e
 have mi:farF es l e∈es.filter fun x=>decide (x<=(clN l e.toNat:Int)):=by
  rcases fmax_mem (es.filter fun x=>decide (x<=(clN l e.toNat:Int))) e with q | q
  ·unfold farF;rw[q];exact ein
  ·exact q
 obtain⟨m1,m2⟩:=List.mem_filter.mp mi
 exact⟨_,ct,m1,bU m2,fun x hx hxt=>b x (List.mem_filter.mpr ⟨hx,aE hxt⟩)⟩
theorem far_eq {es:List Int}{l:List Nat}{e m:Int}(ho:OX l)(h0:0<=e)(he:e<=l.length)(hm:e∈es)(h:Far es l e m):m=farF es l e:=h.uniq (farF_is ho h0 he hm)
theorem farF_mem {es:List Int}{l:List Nat}{e:Int}(hm:e∈es):farF es l e∈es:=by
 unfold farF
 rcases fmax_mem (es.filter fun x=>decide (x<=(clN l e.toNat:Int))) e with q | q
 ·rw[q];exact hm
 ·exact(List.mem_filter.mp q).1
theorem farF_ge (es:List Int)(l:List Nat)(e:Int):e<=farF es l e:=(fmax_ge _ e).1
def ownE (es:List Int)(ts:List Tk)(a e:Int):Int:=ts.foldl (fun m t=>if t.2<=a then max m (farF es t.1 e)else m) e
def ownR (es:List Int)(ts:List Tk)(a:Int):List Int:=es.map (ownE es ts a)
theorem own_fold (es:List Int)(a e:Int):∀(ts:List Tk) (m:Int),ts.foldl (fun m t=>if t.2<=a then max m (farF es t.1 e)else m) m=((ts.filter fun t=>decide (t.2<=a)).map fun t=>farF es t.1 e).foldl max m
 | [],m=>rfl
 | t::ts,m=>by
  rw[cz,own_fold es a e ts,eK]
  by_cases h:t.2<=a
  ·rw[au h,au (aE h)];rfl
  ·rw[aq h,aq (by simp[h])]
theorem ownE_eq (es:List Int)(ts:List Tk)(a e:Int):ownE es ts a e=((ts.filter fun t=>decide (t.2<=a)).map fun t=>farF es t.1 e).foldl max e:=own_fold es a e ts e
theorem ownE_mem {es:List Int}{ts:List Tk}{a e:Int}(hm:e∈es):ownE es ts a e∈es:=by
 rw[ownE_eq]
 rcases fmax_mem ((ts.filter fun t=>decide (t.2<=a)).map fun t=>farF es t.1 e) e with q | q
 ·rw[q];exact hm
 ·obtain⟨t,_,ht⟩:=List.mem_map.mp q
  rw[<- ht];exact farF_mem hm
theorem ownE_ge (es:List Int)(ts:List Tk)(a e:Int):e<=ownE es ts a e:=by rw[ownE_eq];exact(fmax_ge _ e).1
def rowT (es:List Int)(t:Tk):List Int:=es.map (farF es t.1)
def cleanF (es:List Int)(a:Int)(told:List Int)(t:Tk):List Int:=if t.2<=a then List.zipWith max told (rowT es t)else told
theorem clean_own (es:List Int)(a:Int):∀(ts:List Tk) (g:Int->Int),ts.foldl (cleanF es a) (es.map g)=es.map fun e=>ts.foldl (fun m t=>if t.2<=a then max m (farF es t.1 e)else m) (g e)
 | [],g=>rfl
 | t::ts,g=>by
  have e1:cleanF es a (es.map g) t=es.map fun e=>if t.2<=a then max (g e) (farF es t.1 e)else g e:=by
   unfold cleanF
   by_cases h:t.2<=a
   ·rw[au h]
    unfold rowT
    rw[c9]
    have key:∀ xs:List Int,List.zipWith (fun x y=>max (g x) (farF es t.1 y)) xs xs=xs.map fun e=>max (g e) (farF es t.1 e):=by
     intro xs
     induction xs with
     | nil=>rfl
     | cons x xs ih=>rw[bo,ih];rfl
    rw[key]
    simp[h]
   ·rw[aq h];simp[h]
  rw[cz,e1,clean_own es a ts]
  rfl
theorem clean_eq (es:List Int)(ts:List Tk)(a:Int):ts.foldl (cleanF es a) es=ownR es ts a:=by
 have:=clean_own es a ts id
 rw[List.map_id]at this
 rw[this];rfl
def rowAt (es row:List Int)(x:Int):Int:=(row[es.idxOf x]?).getD 0
def nextR (es:List Int)(ts:List Tk)(before:List Int)(a:Int):List Int:=List.zipWith (fun far mid=>max far (rowAt es before mid)) (ownR es ts a) before
structure RowOk (es row:List Int):Prop where
 len:row.length=es.length
 mem:∀ x∈row,x∈es
theorem idx_lt {es:List Int}{x:Int}(h:x∈es):es.idxOf x<es.length:=List.idxOf_lt_length_iff.mpr h
theorem idx_get {es:List Int}{x:Int}(h:x∈es):es[es.idxOf x]?=some x:=by
 rw[gxA (idx_lt h)]
 congr 1
 exact List.getElem_idxOf (idx_lt h)
theorem rowAt_some {es row:List Int}(r:RowOk es row){x:Int}(h:x∈es):row[es.idxOf x]?=some (rowAt es row x):=by
 have hl:es.idxOf x<row.length:=by rw[r.len];exact idx_lt h
 unfold rowAt
 rw[gxA hl];rfl
theorem rowAt_mem {es row:List Int}(r:RowOk es row){x:Int}(h:x∈es):rowAt es row x∈es:=r.mem _ (gxD (rowAt_some r h))
theorem ends_ok (es:List Int):RowOk es es:=⟨rfl,fun _ h=>h⟩
theorem own_ok (es:List Int)(ts:List Tk)(a:Int):RowOk es (ownR es ts a):=⟨by unfold ownR;rw[gxC],fun x hx=>by
 unfold ownR at hx
 obtain⟨e,he,rfl⟩:=List.mem_map.mp hx
 exact ownE_mem he⟩
theorem max_mem {es:List Int}{a b:Int}(ha:a∈es)(hb:b∈es):max a b∈es:=by
 rcases Int.le_total a b with h | h
 ·rw[show max a b=b by omega];exact hb
 ·rw[show max a b=a by omega];exact ha
theorem next_ok {es:List Int}{ts:List Tk}{before:List Int}{a:Int}(r:RowOk es before):RowOk es (nextR es ts before a):=by
 have o:=own_ok es ts a
 refine⟨by unfold nextR;rw[bj,o.len,r.len,Nat.min_self],fun x hx=>?_⟩
 unfold nextR at hx
 obtain⟨i,hi,rfl⟩:=aJ hx
 rw[List.getElem_zipWith]
 rw[bj]at hi
 exact max_mem (o.mem _ (bw _)) (rowAt_mem r (r.mem _ (bw _)))
def rowsR (es:List Int)(ts:List Tk):Nat->List Int
 | 0=>ownR es ts 0
 | a+1=>nextR es ts (rowsR es ts a) ((a:Int)+1)
theorem rows_ok (es:List Int)(ts:List Tk):∀ a,RowOk es (rowsR es ts a)
 | 0=>own_ok es ts 0
 | a+1=>next_ok (rows_ok es ts a)
theorem rowAt_ends {es:List Int}{x:Int}(h:x∈es):rowAt es es x=x:=by unfold rowAt;rw[idx_get h];rfl
theorem next_ends (es:List Int)(ts:List Tk)(a:Int):nextR es ts es a=ownR es ts a:=by
 unfold nextR ownR
 have key:∀ xs:List Int,(∀ x∈xs,x∈es)->List.zipWith (fun far mid=>max far (rowAt es es mid)) (xs.map (ownE es ts a)) xs=xs.map (ownE es ts a):=by
  intro xs
  induction xs with
  | nil=>intro _;rfl
  | cons x xs ih =>
   intro h
   rw[ag,bo,ih fun y hy=>h y (gxI _ hy),rowAt_ends (h x ao)]
   have:=ownE_ge es ts a x
   rw[show max (ownE es ts a x) x=ownE es ts a x by omega]
 exact key es fun _ h=>h
theorem own_none {es:List Int}{ts:List Tk}{a:Int}(h:∀ t∈ts,a<t.2):ownR es ts a=es:=by
 unfold ownR
 have e:∀ e,ownE es ts a e=e:=fun e=>by
  rw[ownE_eq,List.filter_eq_nil_iff.mpr fun t ht=>by have:=h t ht;simp;omega];rfl
 rw[bN fun x _=>e x,List.map_id']
theorem rows_none {es:List Int}{ts:List Tk}:∀ {a:Nat},(∀ t∈ts,(a:Int)<t.2)->rowsR es ts a=es
 | 0,h=>own_none h
 | a+1,h=>by
  unfold rowsR
  rw[rows_none fun t ht=>by have:=h t ht;omega,next_ends]
  exact own_none fun t ht=>by have:=h t ht;omega
theorem lv_old {μ:MS}{m:MO}{x:D}{ds:List D}(h:lv μ x=some ds):lv (μ++[m]) x=some ds:=by
 cases x with
 | lst es=>exact h
 | mr k=>exact lvM_old h
 | _=>cases h
structure Shelf (n:Int)(cs:List Int)(ts:List Tk):Prop where
 n1:1<=n
 n2:n<=1000
 few:cs.length<=1000
 cuts:Cuts n cs
 takes:Takes n ts
theorem ends_mem0 (n:Int)(cs:List Int):0∈eM n cs:=by unfold eM;simp
theorem ends_nd {n:Int}{cs:List Int}(h1:1<=n)(h:Cuts n cs):(eM n cs).Nodup:=List.Pairwise.imp (fun h=>Int.ne_of_lt h) (ends_up h1 h)
def fEndsM:DSp:=fun ds μ K=>match ds with
 | [.int n,x]=>∃ cs:List Int,lv μ x=some (cs.map D.int)/\cs.length<=1000/\K (.mr μ.length) (μ++[.lst ((eM n cs).map D.int)])
 | _=>False
def fFarthest:DSp:=fun ds μ K=>match ds with
 | [.int n,x,.str z,.int e]=>∃ cs:List Int,lv μ x=some (cs.map D.int)/\cs.length<=1000/\(z.length:Int)=n/\n<=1000/\OX z.cps.toList/\0<=e/\e<=n/\e∈eM n cs/\K (.int (farF (eM n cs) z.cps.toList e)) μ
 | _=>False
def fFar:DSp:=fun ds μ K=>match ds with
 | [.lst b,.str z,.int e]=>∃ es:List Int,b=es.map D.int/\es.length<=2000/\z.length<=1000/\OX z.cps.toList/\0<=e/\e<=z.length/\e∈es/\K (.int (farF es z.cps.toList e)) μ
 | _=>False
def rowTD (es:List Int)(t:Tk):D:=.tup [.int t.2,.lst ((rowT es t).map D.int)]
def fTakeRows:DSp:=fun ds μ K=>match ds with
 | [.int n,x,y]=>∃(cs:List Int) (ts:List Tk),lv μ x=some (cs.map D.int)/\lv μ y=some (ts.map tkD)/\Shelf n cs ts/\K (.lst (ts.map (rowTD (eM n cs)))) μ
 | _=>False
def fCleanRow:DSp:=fun ds μ K=>match ds with
 | [x,.lst r,.int a]=>∃(es:List Int) (ts:List Tk),lv μ x=some (es.map D.int)/\r=ts.map (rowTD es)/\es.length<=2000/\ts.length<=100/\K (.lst ((ownR es ts a).map D.int)) μ
 | _=>False
def fNextM:DSp:=fun ds μ K=>match ds with
 | [x,.lst r,y,.int a]=>∃(es:List Int) (ts:List Tk) (bf:List Int),lv μ x=some (es.map D.int)/\r=ts.map (rowTD es)/\es.length<=2000/\ts.length<=100/\es.Nodup/\lv μ y=some (bf.map D.int)/\RowOk es bf/\K (.mr μ.length) (μ++[.lst ((nextR es ts bf a).map D.int)])
 | _=>False
def youngF (ts:List Tk):Int:=match ts.map (·.2)with | []=>0 | a::r=>r.foldl min a
theorem fmin_is:∀(xs:List Int) (e:Int),(xs.foldl min e=e\/xs.foldl min e∈xs)/\xs.foldl min e<=e/\∀ x∈xs,xs.foldl min e<=x
 | [],e=>⟨.inl rfl,a9 _,fun _ h=>nomatch h⟩
 | y::xs,e=>by
  obtain⟨h0,h1,h2⟩:=fmin_is xs (min e y)
  rw[cz]
  refine⟨?_,by omega,fun x hx=>?_⟩
  ·rcases h0 with h | h
   ·rw[h]
    rcases Int.le_total e y with q | q
    ·exact .inl (by omega)
    ·exact .inr (by rw[show min e y=y by omega];exact ao)
   ·exact .inr (gxI _ h)
  ·rcases List.mem_cons.mp hx with q | q
   ·omega
   ·exact h2 x q
theorem young_is {ts:List Tk}{m:Int}(hm:m∈ts.map (·.2))(hl:∀ y∈ts.map (·.2),m<=y):m=youngF ts:=by
 unfold youngF
 cases e:ts.map (·.2)with
 | nil=>rw[e]at hm;cases hm
 | cons a r =>
  rw[e]at hm hl
  obtain⟨h0,h1,h2⟩:=fmin_is r a
  have a1:m<=r.foldl min a:=by
   rcases h0 with q | q
   ·rw[q];exact hl a ao
   ·exact hl _ (gxI _ q)
  have a2:r.foldl min a<=m:=by
   rcases List.mem_cons.mp hm with q | q
   ·omega
   ·exact h2 m q
  show m=r.foldl min a
  omega
theorem young_le {ts:List Tk}:∀ t∈ts,youngF ts<=t.2:=fun t ht=>by
 have hm:t.2∈ts.map (·.2):=List.mem_map.mpr ⟨t,ht,rfl⟩
 unfold youngF
 cases e:ts.map (·.2)with
 | nil=>rw[e]at hm;cases hm
 | cons a r =>
  rw[e]at hm
  obtain⟨h0,h1,h2⟩:=fmin_is r a
  show r.foldl min a<=t.2
  rcases List.mem_cons.mp hm with q | q
  ·omega
  ·exact h2 _ q
theorem young_nn {ts:List Tk}{n:Int}(h:Takes n ts):0<=youngF ts/\youngF ts<=60:=by
 unfold youngF
 cases e:ts.map (·.2)with
 | nil=>exact⟨a9 _,by decide⟩
 | cons a r =>
  obtain⟨h0,h1,h2⟩:=fmin_is r a
  have key:∀ x∈a::r,0<=x/\x<=60:=fun x hx=>by
   rw[<- e]at hx
   obtain⟨t,ht,rfl⟩:=List.mem_map.mp hx
   have:=h.ok t ht
   exact⟨this.2.2.1,this.2.2.2⟩
  show 0<=r.foldl min a/\r.foldl min a<=60
  rcases h0 with q | q
  ·rw[q];exact key a ao
  ·exact key _ (gxI _ q)
def fYoungest:DSp:=fun ds μ K=>match ds with
 | [y]=>∃ ts:List Tk,lv μ y=some (ts.map tkD)/\ts.length<=100/\K (.int (youngF ts)) μ
 | _=>False
def inSc (x sc:Scope):Scope:={ sc with names:=sc.names.map fun(n,k)=>if k==NameKind.free&&x.kind==.function&&x.names.lookup n==some .cell then(n,NameKind.cell)else(n,k)}
theorem compOkN {X0:Cx}{N0:List Str}{xsc sc0:Scope}{N:List Str}{js:List (Option Nat)}{sc:Scope}{fp:List Addr}{s:Shared}{H:Hp}(hs:X0.env.scope=xsc)(h:compChk N0 (inSc xsc sc0) N js sc=true):CompOk (cxC X0 N0 sc0 fp s H) N js sc:=by
 subst hs
 exact compOk h rfl rfl
def keepI (p:Int->Bool):D->Option D
 | .int i=>if p i=true then some (.int i)else none
 | _=>none
theorem fm_keepI (p:Int->Bool)(es:List Int):(es.map D.int).filterMap (keepI p)=(es.filter p).map D.int:=by
 induction es with
 | nil=>rfl
 | cons e es ih =>
  rw[ag,b9,eK]
  unfold keepI at ih ⊢
  by_cases h:p e=true
  ·simp only[h,if_true,ag];rw[ih]
  ·simp only[h,if_false];rw[ih];rfl
theorem keepI_y {p:Int->Bool}{i:Int}{K:Option D->MS->Prop}{μ:MS}(h:p i=true)(k:K (keepI p (.int i)) μ):K (some (.int i)) μ:=by have e:keepI p (.int i)=some (.int i):=au h;rw[e]at k;exact k
theorem keepI_n {p:Int->Bool}{i:Int}{K:Option D->MS->Prop}{μ:MS}(h:¬ p i=true)(k:K (keepI p (.int i)) μ):K none μ:=by have e:keepI p (.int i)=none:=aq h;rw[e]at k;exact k
def mapI (g:Int->D):D->Option D
 | .int i=>some (g i)
 | _=>none
theorem fm_mapI (g:Int->D)(es:List Int):(es.map D.int).filterMap (mapI g)=es.map g:=by rw[dw,<- eG];rfl
def mapT (g:Tk->D):D->Option D
 | .tup [.str z,.int a]=>some (g (z.cps.toList,a))
 | _=>none
theorem fm_mapT (g:Tk->D)(ts:List Tk):(ts.map tkD).filterMap (mapT g)=ts.map g:=by rw[dw,<- eG];rfl
def mapP (g:Int->Int->D):D->Option D
 | .tup [.int a,.int b]=>some (g a b)
 | _=>none
theorem fm_mapP (g:Int->Int->D)(xs ys:List Int):(List.zipWith (fun a b=>D.tup [a,b]) (xs.map D.int) (ys.map D.int)).filterMap (mapP g)=List.zipWith g xs ys:=by
 rw[c9]
 induction xs generalizing ys with
 | nil=>simp
 | cons x xs ih =>
  cases ys with
  | nil=>simp
  | cons y ys=>rw[bo,bo,b9,ih];rfl
theorem zip_mem {xs ys:List Int}{d:D}(h:d∈List.zipWith (fun a b=>D.tup [a,b]) (xs.map D.int) (ys.map D.int)):∃ a∈xs,∃ b∈ys,d=.tup [.int a,.int b]:=by
 rw[c9]at h
 induction xs generalizing ys with
 | nil=>simp at h
 | cons x xs ih =>
  cases ys with
  | nil=>simp at h
  | cons y ys =>
   rw[bo]at h
   rcases List.mem_cons.mp h with q | q
   ·exact⟨x,ao,y,ao,q⟩
   ·obtain⟨a,ha,b,hb,e⟩:=ih q
    exact⟨a,gxI _ ha,b,gxI _ hb,e⟩
theorem zw_map {α β γ δ:Type}(f:γ->δ)(g:α->β->γ):∀(xs:List α) (ys:List β),(List.zipWith g xs ys).map f=List.zipWith (fun a b=>f (g a b)) xs ys
 | [],_=>by simp
 | _::_,[]=>by simp
 | x::xs,y::ys=>by rw[bo,bo,ag,zw_map f g xs ys]
abbrev kI (i:Int):Key:=.inl i
def enumF:Nat->List Int->List D
 | _,[]=>[]
 | n,e::es=>.tup [.int n,.int e]::enumF (n+1) es
theorem enumF_get:∀(n:Nat) (es:List Int) (i:Nat),(enumF n es)[i]?=(es[i]?).map fun e=>D.tup [.int ((n+i:Nat):Int),.int e]
 | n,[],i=>by simp[enumF]
 | n,e::es,0=>by simp[enumF]
 | n,e::es,i+1=>by
  unfold enumF
  rw[cS,cS,enumF_get (n+1) es i]
  congr 1
  funext e
  rw[show n+1+i=n+(i+1) by omega]
theorem enumF_eq (es:List Int):enumD (es.map D.int)=enumF 0 es:=by
 apply cw
 intro i
 rw[enumF_get]
 unfold enumD
 rw[bx,gxC,gxH]
 cases e:es[i]? with
 | none=>simp
 | some x =>
  have hi:=(gxB e).1
  rw[bF hi]
  simp
def whereF:Nat->List Int->List (Key×D)
 | _,[]=>[]
 | n,e::es=>(kI e,.int n)::whereF (n+1) es
theorem where_go {it:D->MS->(Option (Key×D)->MS->Prop)->Prop}{c:MS->Prop}{μ:MS}{K:List (Key×D)->Prop}(hc:∀ m,c (μ++[m]))(hit:∀(i:Nat) (e:Int) (μ':MS) (K':Option (Key×D)->MS->Prop),K' (some (kI e,.int i)) μ'->it (.tup [.int i,.int e]) μ' K'):∀(es:List Int) (n:Nat) (eW:List (Key×D)),es.Nodup->(∀ kv∈eW,∀ e∈es,kv.1≠kI e)->K (eW++whereF n es)->dcompW it c μ (enumF n es) eW K
 | [],n,eW,_,_,k=>by
  unfold enumF dcompW
  rw[show whereF n []=[]from rfl,b7]at k
  exact⟨hc _,k⟩
 | e::es,n,eW,nd,hk,k=>by
  unfold enumF dcompW
  refine⟨hc _,hit n e _ _ ⟨rfl,rfl,?_⟩⟩
  have hn:(eW.any fun kv=>decide (kv.1=kI e))=false:=by
   rw[dY]
   intro kv hkv
   simp only[aZ]
   exact hk kv hkv e ao
  have hd:dput eW (kI e) (.int n)=eW++[(kI e,.int n)]:=by unfold dput;rw[hn];rfl
  rw[hd]
  refine where_go hc hit es (n+1) _ (List.nodup_cons.mp nd).2 (fun kv hkv e' he'=>?_) ?_
  ·rcases List.mem_append.mp hkv with q | q
   ·exact hk kv q e' (gxI _ he')
   ·rw[List.mem_singleton.mp q]
    intro z
    have z':e=e':=by injection z
    rw[z']at nd
    exact(List.nodup_cons.mp nd).1 he'
  ·rw[cx];exact k
theorem zip_parts {α β:Type}:∀ l:List (α×β),(l.map (·.1)).zip (l.map (·.2))=l
 | []=>rfl
 | p::l=>by rw[ag,ag,ck,zip_parts l]
theorem where_val:∀ {es:List Int} {n:Nat} {m:Int},m∈es->dval (whereF n es) (kI m)=some (.int ((n+es.idxOf m:Nat):Int))
 | [],n,m,h=>by cases h
 | e::es,n,m,h=>by
  unfold whereF dval
  rw[bZ]
  by_cases q:e=m
  ·subst q;simp
  ·have hm : m ∈ es := by rcases List.mem_cons.mp h with z | z
                          ·exact absurd z.symm q
                          ·exact z
   have nk:decide ((kI e)=kI m)=false:=aT fun z=>q (by injection z)
   have nk':decide ((kI e,D.int (n:Int)).fst=kI m)=false:=nk
   rw[nk']
   show Option.map _ _=_
   have:=where_val (n:=n+1) hm
   unfold dval at this
   rw[this,show(e::es).idxOf m=es.idxOf m+1 by rw[List.idxOf_cons,show(e==m)=false from beq_false_of_ne q];rfl]
   congr 3
   omega
section
variable {X:Cx}{N:List Str}{sc:Scope}{js:List (Option Nat)}{tg iter kx vx:Expr}{ifs:List Expr}{g:TG}{tt:TT}{tk tv:TE}
theorem pe_compD {wi:TI}{pos:Pos}(hc:CompOk X N js sc)(calm:X.calm=true)(hi:PI X tg iter wi)(hg:∀ fp s H,PG (cxE X N sc fp s H) tg g)
 (ht:∀ fp s H,PTs (cxE X N sc fp s H) ifs tt) (hk:∀ fp s H,PE (cxE X N sc fp s H) kx tk) (hv:∀ fp s H,PE (cxE X N sc fp s H) vx tv)
 (hs:∀ x,foldedSetIterable iter X.env x=pure x:=by intro _;rfl):PE X (.DictComp kx vx [⟨tg,iter,ifs,0⟩] sc pos) (tCompD wi js g tt tk tv):=by
 intro pins s σ H Q I h
 rw[show eval (.DictComp kx vx [⟨tg,iter,ifs,0⟩] sc pos) X.env=comprehension (.DictComp kx vx [⟨tg,iter,ifs,0⟩] sc pos) sc X.env (firstIterPos [⟨tg,iter,ifs,0⟩] pos) newDict (firstAsync [⟨tg,iter,ifs,0⟩]) (firstIter [⟨tg,iter,ifs,0⟩] X.env)from rfl]
 refine dh (use:=none) rfl hs (closureFor_eq fun y hy e=>I.ok.has y.1 (hc.free y hy e)) hc.kind hc.loc (thn (hi pins s σ H _ I h) fun v s1 h1=>thn h1 fun itv s2 h2=>?_)
 obtain⟨it,fp,tn,J,H2,e,I2,T,st2,f2,q⟩:=h2
 subst e
 refine cL (newEnv_comp ?_)
 have hD:H2 s2.heap.objs.size=none:=I2.hok.fresh (ae _)
 have I3:Inv X pins σ (upd H2 s2.heap.objs.size (.dK [])) { s2 with heap:=s2.heap.push { cls:=.type "dict",data:=.dict #[]}}:=I2.laid (t':=s2.toks) (fun _ _ q=>gxL _ q) (ae _) (dk_empty s2.heap I2.big)
 have hC:(s2.heap.push { cls:=.type "dict",data:=.dict #[]}).objs.size=s2.heap.objs.size+1:=aS ..
 have st3:tn 0 (s2.heap.push { cls:=.type "dict",data:=.dict #[]}):=T.keep 0 _ _ st2 fun b _ o e=>gxL _ e
 have hob:∀ b∈fp,b≠s2.heap.objs.size:=fun b hb=>let ⟨o,e,_⟩:=T.obj 0 s2.heap st2 b hb;ai (gxN e)
 have f3:∀ b∈fp,FpOk X pins (upd H2 s2.heap.objs.size (.dK [])) b:=fun b hb=>⟨by rw[upd_ne (hob b hb)];exact(f2 b hb).1,(f2 b hb).2⟩
 refine compD_block (s:={ s2 with heap:=s2.heap.push { cls:=.type "dict",data:=.dict #[]}}) (tok:=s2.toks) I3 hc calm T st3 f3 (hg fp _ _) (ht fp _ _) (hk fp _ _) (hv fp _ _) (q s2.heap.objs.size hD) fun s' H' eW m IX qf nC hn=>?_
 have hlt:s2.heap.objs.size<(s2.heap.push { cls:=.type "dict",data:=.dict #[]}).objs.size:=by rw[hC];exact bA _
 have neC:∀(b:Addr) (o:Obj),s2.heap.get? b=some o->b≠(s2.heap.push { cls:=.type "dict",data:=.dict #[]}).objs.size:=fun b o e=>ai (c8 (gxN e) hlt)
 refine⟨m,nC,fun h' sb=>?_⟩
 have IY:Inv X pins σ H' { s' with heap:=h'}:=IX.turned (t':=s'.toks) (it:=(s2.heap.push { cls:=.type "dict",data:=.dict #[]}).objs.size) (fun b o hb e=>(sb.2 b hb).trans e) hn
  (aU (c8 I2.lt hlt)) (.inr (dQ (cF I2.sz hlt))) (fun x c e=>let ⟨v,z⟩:=I2.cell x c e;ai (c8 z.lt hlt)) (fun p hp=>neC _ _ (I2.pin p hp).1)
 exact⟨.ref _,_,IY,rfl,qf⟩
variable {y:DG}{S:List Nat}{t:Dt}{wk wv:De}
theorem d_compD {wi:DI}{pos:Pos}(hc:CompOk X N js sc)(calm:X.calm=true)(so:SoG g y S)(mo:MonoG g)(ho:ownJs S js=true)(hi:PDI X tg iter wi)(hg:∀ fp s H,PG (cxE X N sc fp s H) tg g)
 (ht:∀ fp s H,PDTs (cxE X N sc fp s H) ifs t) (hk:∀ fp s H,PD (cxE X N sc fp s H) kx wk) (hv:∀ fp s H,PD (cxE X N sc fp s H) vx wv)
 (hs:∀ x,foldedSetIterable iter X.env x=pure x:=by intro _;rfl):PD X (.DictComp kx vx [⟨tg,iter,ifs,0⟩] sc pos) (dCompD wi js y t wk wv):=(pe_compD hc calm hi hg ht hk hv hs).imp fun σ H Q h=>tD_compD so mo ho h
end
def befR (es:List Int)(ts:List Tk):Nat->List Int
 | 0=>es
 | b+1=>rowsR es ts b
theorem bef_next (es:List Int)(ts:List Tk):∀ b:Nat,nextR es ts (befR es ts b) (b:Int)=befR es ts (b+1)
 | 0=>next_ends es ts 0
 | b+1=>by show nextR es ts (rowsR es ts b) ((b+1:Nat):Int)=rowsR es ts (b+1);rfl
theorem bef_young {es:List Int}{ts:List Tk}:∀ {b:Nat},(∀ t∈ts,(b:Int)<=t.2)->befR es ts b=es
 | 0,_=>rfl
 | b+1,h=>rows_none fun t ht=>by have:=h t ht;omega
theorem rngD_cons (lo:Int)(n:Nat):rngD lo (n+1)=.int lo::rngD (lo+1) n:=by
 unfold rngD
 rw[dW,ag,a6]
 congr 1
 ·simp
 ·refine bN fun i _=>?_
  show D.int (lo+((i+1:Nat):Int))=_
  congr 1
  omega
theorem old_app {μ g:MS}(hm:∀(j:Nat) (m:MO),μ[j]?=some m->moB μ.length m):∀(j:Nat) (m:MO),j<μ.length->(μ++g)[j]?=some m->moB μ.length m:=fun j m hj e=>by
 rw[gxF hj]at e;exact hm j m e
theorem lvM_ty {μ:MS}{k:Nat}{ds:List D}(h:lvM μ k=some ds):TyD "list" μ (.mr k):=by show(match μ[k]? with | some (.lst _) => "list" = "list" | some (.dic _ _) => "list" = "dict" | _=>False);rw[lvM_eq h]
theorem next_at {es:List Int}{ts:List Tk}{bf:List Int}{a:Int}{i:Nat}{f m:Int}(hf:(ownR es ts a)[i]?=some f)(hm:bf[i]?=some m):(nextR es ts bf a)[i]?=some (max f (rowAt es bf m)):=by
 unfold nextR
 rw[bx,hf,hm]
theorem cutN_mem {l:List Nat}{a b:Int}{v c:Nat}(ha:0<=a)(h1:a<=v)(h2:(v:Int)<b)(h:l[v]?=some c):c∈cutN l a b:=by
 obtain⟨i,rfl⟩:=cU ha
 obtain⟨j,rfl⟩:=cU (b8 (Int.natCast_nonneg v) (cM h2))
 have h1:=Int.ofNat_le.mp h1
 rw[cutN_nat]
 refine gxD (i:=v - i) ?_
 rw[bq (Nat.sub_lt_sub_right h1 (Int.ofNat_lt.mp h2)),cG,Nat.add_sub_cancel' h1]
 exact h
theorem clean_far {es:List Int}{l:List Nat}{a b:Int}(ho:OX l)(ha:0<=a)(hb:b<=l.length)(hab:a<=b)(hm:b∈es)(h:120∉cutN l a b):b<=farF es l a:=by
 have ct:=clN_is ho (e:=a.toNat) (by omega)
 have hc:b<=(clN l a.toNat:Int):=by
  by_cases q:b<=(clN l a.toNat:Int)
  ·exact q
  ·rcases ct.2.2.2 with z | z
   ·omega
   ·exact absurd (cutN_mem ha (by have:=ct.1;omega) (by omega) z) h
 exact(fmax_ge _ a).2 b (List.mem_filter.mpr ⟨hm,aE hc⟩)
theorem no_bar {n:Int}{cs:List Int}{ts:List Tk}(S:Shelf n cs ts)(hb:barOf (eM n cs) ts=none){i:Nat}{u v:Int}(hu:(eM n cs)[i]?=some u)(hv:(eM n cs)[i+1]?=some v):∃ t∈ts,v<=farF (eM n cs) t.1 u:=by
 unfold barOf at hb
 have hp:(u,v)∈prs (eM n cs):=by
  have:=prs_get (es:=eM n cs) (i:=i)
  rw[hu,hv]at this
  exact gxD this
 have nb:=List.find?_eq_none.mp hb _ hp
 unfold bad at nb
 rw[Bool.not_eq_true,List.all_eq_false]at nb
 obtain⟨t,ht,hc⟩:=nb
 have hc':120∉cutN t.1 u v:=by simpa using hc
 have ok:=S.takes.ok t ht
 have hu2:=ends_in S.n1 S.cuts (gxD hu)
 have hv2:=ends_in S.n1 S.cuts (gxD hv)
 have huv:=up_get (ends_up S.n1 S.cuts) hu hv (bA _)
 exact⟨t,ht,clean_far ok.2.1 hu2.1 (by omega) (by omega) (gxD hv) hc'⟩
theorem own_far {es:List Int}{ts:List Tk}{a e:Int}{t:Tk}(ht:t∈ts)(ha:t.2<=a):farF es t.1 e<=ownE es ts a e:=by
 rw[ownE_eq]
 exact(fmax_ge _ e).2 _ (List.mem_map.mpr ⟨t,List.mem_filter.mpr ⟨ht,aE ha⟩,rfl⟩)
theorem own_get {es:List Int}{ts:List Tk}{a:Int}{i:Nat}{e:Int}(h:es[i]?=some e):(ownR es ts a)[i]?=some (ownE es ts a e):=by unfold ownR;rw[gxH,h];rfl
theorem rows_own {es:List Int}{ts:List Tk}:∀ {a i:Nat} {e:Int},es[i]?=some e->∃ x,(rowsR es ts a)[i]?=some x/\ownE es ts a e<=x
 | 0,i,e,h=>⟨_,own_get h,a9 _⟩
 | a+1,i,e,h=>by
  have hi:=(gxB h).1
  obtain⟨m,hm⟩:∃ m,(rowsR es ts a)[i]?=some m:=⟨_,gxA (by rw[(rows_ok es ts a).len];exact hi)⟩
  refine⟨_,next_at (own_get h) hm,?_⟩
  show ownE es ts ((a:Int)+1) e<=_
  omega
def Goes (es:List Int)(row:List Int)(k:Nat):Prop:=∀ i,i<es.length->∃ j,min (i+k) (es.length - 1)<=j/\j<es.length/\row[i]?=es[j]?
theorem up_ge {es:List Int}(hu:es.Pairwise (·<·)){i j:Nat}{a b:Int}(hi:es[i]?=some a)(hj:es[j]?=some b)(h:a<=b):i<=j:=by
 by_cases q:i<=j
 ·exact q
 ·have:=up_get hu hj hi (by omega);omega
theorem goes_one {n:Int}{cs:List Int}{ts:List Tk}(S:Shelf n cs ts)(hb:barOf (eM n cs) ts=none){a:Nat}(ha:∀ t∈ts,t.2<=(a:Int)):Goes (eM n cs) (rowsR (eM n cs) ts a) 1:=fun i hi=>by
 have hu:=ends_up S.n1 S.cuts
 obtain⟨e,he⟩:∃ e,(eM n cs)[i]?=some e:=⟨_,gxA hi⟩
 obtain⟨x,hx,hox⟩:=rows_own (ts:=ts) (a:=a) he
 have xm:=(rows_ok (eM n cs) ts a).mem x (gxD hx)
 obtain⟨j,hj,ej⟩:=aJ xm
 have ej':(eM n cs)[j]?=some x:=by rw[gxA hj,ej]
 refine⟨j,?_,hj,hx.trans ej'.symm⟩
 by_cases q:i+1<(eM n cs).length
 ·obtain⟨v,hv⟩:∃ v,(eM n cs)[i+1]?=some v:=⟨_,gxA q⟩
  obtain⟨t,ht,hf⟩:=no_bar S hb he hv
  have:=own_far (es:=eM n cs) (e:=e) ht (ha t ht)
  have:=up_ge hu hv ej' (by omega)
  omega
 ·have:=ownE_ge (eM n cs) ts a e
  have:=up_ge hu he ej' (by omega)
  omega
theorem idx_at {es:List Int}(hu:es.Pairwise (·<·)){i:Nat}{e:Int}(h:es[i]?=some e):es.idxOf e=i:=by
 have hm:=gxD h
 have g:=idx_get hm
 have h1:=up_ge hu g h (a9 _)
 have h2:=up_ge hu h g (a9 _)
 omega
theorem goes_two {i j j' q k L:Nat}(h1:min (i+k) L<=j)(g1:min (j+k) L<=j')(h:j'<=q):min (i+(k+k)) L<=q:=by omega
theorem goes_next {es:List Int}{ts:List Tk}{a k:Nat}(hu:es.Pairwise (·<·))(h:Goes es (rowsR es ts a) k):Goes es (rowsR es ts (a+1)) (k+k):=fun i hi=>by
 obtain⟨j,h1,h2,h3⟩:=h i hi
 obtain⟨j',g1,g2,g3⟩:=h j h2
 obtain⟨e,he⟩:∃ e,es[i]?=some e:=⟨_,gxA hi⟩
 obtain⟨m,hm⟩:∃ m,es[j]?=some m:=⟨_,gxA h2⟩
 obtain⟨m',hm'⟩:∃ m',es[j']?=some m':=⟨_,gxA g2⟩
 have nx:=next_at (es:=es) (ts:=ts) (bf:=rowsR es ts a) (a:=(a:Int)+1) (own_get he) (h3.trans hm)
 have ra:rowAt es (rowsR es ts a) m=m':=by
  unfold rowAt
  rw[idx_at hu hm,g3,hm'];rfl
 rw[ra]at nx
 have xm:=(rows_ok es ts (a+1)).mem _ (gxD nx)
 obtain⟨q,hq,eq⟩:=aJ xm
 have eq':es[q]?=some (max (ownE es ts ((a:Int)+1) e) m'):=by rw[gxA hq,eq]
 refine⟨q,?_,hq,nx.trans eq'.symm⟩
 exact goes_two h1 g1 (up_ge hu hm' eq' (by omega))
theorem goes_pow {n:Int}{cs:List Int}{ts:List Tk}(S:Shelf n cs ts)(hb:barOf (eM n cs) ts=none){a:Nat}(ha:∀ t∈ts,t.2<=(a:Int)):∀ j:Nat,Goes (eM n cs) (rowsR (eM n cs) ts (a+j)) (2 ^ j)
 | 0=>goes_one S hb ha
 | j+1=>by
  have:=goes_next (ends_up S.n1 S.cuts) (goes_pow S hb ha j)
  rw[show 2 ^ (j+1)=2 ^ j+2 ^ j by rw[Nat.pow_succ];omega]
  exact this
theorem ends_last (n:Int)(cs:List Int):(eM n cs)[(eM n cs).length - 1]?=some n:=by
 rw[fk]
 unfold eM
 rw[show cs.length+2 - 1=(0::cs).length by simp]
 simp
structure LeastIs (es:List Int)(ts:List Tk)(n:Int)(a:Nat):Prop where
 at_:(rowsR es ts a)[0]?=some n
 low:∀ b,b<a->(rowsR es ts b)[0]?≠some n
theorem LeastIs.uniq {es:List Int}{ts:List Tk}{n:Int}{a b:Nat}(h:LeastIs es ts n a)(g:LeastIs es ts n b):a=b:=by
 rcases dP a b with q | q | q
 ·exact absurd h.at_ (g.low a q)
 ·exact q
 ·exact absurd g.at_ (h.low b q)
theorem least_ex {es:List Int}{ts:List Tk}{n:Int}:∀ {m:Nat},(rowsR es ts m)[0]?=some n->∃ a,a<=m/\LeastIs es ts n a:=by
 intro m
 induction m using Nat.strongRecOn with
 | ind m ih =>
  intro h
  by_cases q:∃ b,b<m/\(rowsR es ts b)[0]?=some n
  ·obtain⟨b,hb,e⟩:=q
   obtain⟨a,h1,h2⟩:=ih b hb e
   exact⟨a,by omega,h2⟩
  ·exact⟨m,ae _,h,fun b hb e=>q ⟨b,hb,e⟩⟩
theorem least_some {n:Int}{cs:List Int}{ts:List Tk}(S:Shelf n cs ts)(hl:cs.length<=60)(hb:barOf (eM n cs) ts=none){a:Nat}(ha:∀ t∈ts,t.2<=(a:Int)):∃ x,x<=a+6/\LeastIs (eM n cs) ts n x:=by
 refine least_ex ?_
 obtain⟨j,h1,h2,h3⟩:=goes_pow S hb ha 6 0 (by rw[fk];omega)
 rw[h3]
 have:j=(eM n cs).length - 1:=by rw[fk]at *;omega
 rw[this]
 exact ends_last n cs
theorem least_ex60 {n:Int}{cs:List Int}{ts:List Tk}(S:Shelf n cs ts)(hl:cs.length<=60)(hb:barOf (eM n cs) ts=none):∃ x,x<=66/\LeastIs (eM n cs) ts n x:=least_some S hl hb (a:=60) fun t ht=>(S.takes.ok t ht).2.2.2
theorem least_young {n:Int}{cs:List Int}{ts:List Tk}(S:Shelf n cs ts){a:Nat}(h:LeastIs (eM n cs) ts n a):youngF ts<=a:=by
 by_cases q:youngF ts<=a
 ·exact q
 ·have:=h.at_
  rw[rows_none fun t ht=>by have:=young_le t ht;omega]at this
  have h0:(eM n cs)[0]?=some 0:=rfl
  rw[h0]at this
  have:=aB this
  have:=S.n1
  omega
def leastK (es:List Int)(ts:List Tk)(n:Int)(μ:MS)(K:DK):Prop:=match barOf es ts with
 | some _=>K .non μ
 | none=>∀ a:Nat,a<=66->LeastIs es ts n a->K (.int a) μ
def fLeast:DSp:=fun ds μ K=>match ds with
 | [.int n,x,y]=>∃(cs:List Int) (ts:List Tk),lv μ x=some (cs.map D.int)/\lv μ y=some (ts.map tkD)/\Shelf n cs ts/\cs.length<=60/\leastK (eM n cs) ts n μ K
 | _=>False
end L2
namespace L2
theorem nLf {ds:List D}{μ:MS}{K:DK}(h:K (.lst ds) μ):nL false ds μ K:=h
end L2
namespace L2
open PySem PySem.Spec PyProof.Rows
theorem far_mono {es:List Int}{l:List Nat}{e e':Int}(ho:OX l)(h0:0<=e)(hee:e<=e')(he':e'<=l.length)(hm:e∈es):farF es l e<=farF es l e':=by
 have c1:=clN_is ho (e:=e.toNat) (by omega)
 have c2:=clN_is ho (e:=e'.toNat) (by omega)
 have ge':=farF_ge es l e'
 have fm:=farF_mem (es:=es) (l:=l) hm
 obtain⟨t,ht,_,hft,_⟩:=farF_is (es:=es) ho h0 (by omega) hm
 have et:=ht.uniq c1
 subst et
 by_cases q:farF es l e<=e'
 ·omega
 ·have hc:clN l e.toNat<=clN l e'.toNat:=by
   by_cases z:clN l e.toNat<=clN l e'.toNat
   ·exact z
   ·rcases c2.2.2.2 with y | y
    ·have:=c1.2.1;omega
    ·have:=c1.2.2.1 (clN l e'.toNat) (by have:=c2.1;omega) (by omega)
     rw[y]at this;cases this
  exact(fmax_ge _ e').2 _ (List.mem_filter.mpr ⟨fm,aE (by omega)⟩)
theorem own_mono {n:Int}{es:List Int}{ts:List Tk}{a e e':Int}(T:Takes n ts)(h0:0<=e)(hee:e<=e')(he':e'<=n)(hm:e∈es):ownE es ts a e<=ownE es ts a e':=by
 have ge:=ownE_ge es ts a e'
 rw[ownE_eq es ts a e]
 rcases fmax_mem ((ts.filter fun t=>decide (t.2<=a)).map fun t=>farF es t.1 e) e with q | q
 ·rw[q];omega
 ·obtain⟨t,ht,e1⟩:=List.mem_map.mp q
  obtain⟨ht1,ht2⟩:=List.mem_filter.mp ht
  rw[<- e1]
  have ok:=T.ok t ht1
  have:=far_mono ok.2.1 h0 hee (by omega) hm
  have:=own_far (es:=es) (e:=e') ht1 (bU ht2)
  omega
def Rises (row:List Int):Prop:=∀(i j:Nat) (a b:Int),i<=j->row[i]?=some a->row[j]?=some b->a<=b
theorem up_le {es:List Int}(hu:es.Pairwise (·<·)):Rises es:=fun i j a b h hi hj=>by
 rcases Nat.lt_or_ge i j with q | q
 ·exact cM (up_get hu hi hj q)
 ·have:i=j:=by omega
  subst this
  rw[hi]at hj;cases hj;exact a9 _
theorem own_rises {n:Int}{cs:List Int}{ts:List Tk}{a:Int}(S:Shelf n cs ts):Rises (ownR (eM n cs) ts a):=fun i j x y h hi hj=>by
 unfold ownR at hi hj
 rw[gxH]at hi hj
 cases e1:(eM n cs)[i]? with
 | none=>rw[e1]at hi;cases hi
 | some u =>
  cases e2:(eM n cs)[j]? with
  | none=>rw[e2]at hj;cases hj
  | some v =>
   rw[e1]at hi;rw[e2]at hj
   cases hi;cases hj
   have hu:=ends_in S.n1 S.cuts (gxD e1)
   have hv:=ends_in S.n1 S.cuts (gxD e2)
   exact own_mono S.takes hu.1 (up_le (ends_up S.n1 S.cuts) i j u v h e1 e2) hv.2 (gxD e1)
theorem atI_end {α:Type}{xs:List α}{x:α}(h:xs[xs.length - 1]?=some x):atI xs (-1)=some x:=by
 have hl:=(gxB h).1
 have e:xs=xs.dropLast++[x]:=by
  have hne:xs≠[]:=fun e=>by rw[e]at hl;simp at hl
  have:=List.dropLast_concat_getLast hne
  rw[List.getLast_eq_getElem]at this
  rw[gxA hl]at h
  rw[aB h]at this
  exact this.symm
 rw[e]
 exact atI_last _ _
section
variable {X:Cx}
def rIntC:List V->Hp->VK->Prop:=fun vs H Q=>match vs with
 | [.int i]=>Q (.int i) H
 | [.bl k]=>Q (.int (if k then 1 else 0)) H
 | _=>False
theorem intC:CallR X (.type "int") rIntC:=call_int1.imp fun vs H Q q=>by
 unfold rIntC at q
 split at q
 ·exact .inl ⟨_,rfl,q⟩
 ·exact .inr ⟨_,rfl,q⟩
 ·exact q.elim
end
def fInt:DSp:=fun ds μ K=>match ds with
 | [.int i]=>K (.int i) μ
 | [.bl k]=>K (.int (if k then 1 else 0)) μ
 | _=>False
theorem so_int:SoCall rIntC fInt:=fun φ H vs ds μ K Q M h k L=>by
 unfold fInt at k
 split at k
 ·obtain⟨v,r,rfl,h1,h2⟩:=h;cases(show r=[]from h2);cases(show v=_ from h1);exact L.val M k rfl
 ·obtain⟨v,r,rfl,h1,h2⟩:=h;cases(show r=[]from h2);cases(show v=_ from h1);exact L.val M k rfl
 ·exact k.elim
theorem compW_gen {α:Type}{it:D->MS->(Option D->MS->Prop)->Prop}{c:MS->Prop}{μ:MS}(hc:c μ)(g:α->D)(f:α->Option D):∀ {xs:List α} {K:List D->MS->Prop},(∀ x∈xs,∀(K':Option D->MS->Prop),K' (f x) μ->it (g x) μ K')->K (xs.filterMap f) μ->compW it c (xs.map g) μ K
 | [],K,_,k=>⟨hc,k⟩
 | x::xs,K,h,k=>⟨hc,h x ao _ (compW_gen hc g f (fun y hy=>h y (gxI _ hy)) (by
  cases e:f x with
  | none=>rw[List.filterMap_cons_none e]at k;exact k
  | some y=>rw[List.filterMap_cons_some e]at k;exact k))⟩
theorem compW_all {α:Type}{it:D->MS->(Option D->MS->Prop)->Prop}{c:MS->Prop}{μ:MS}(hc:c μ)(g f:α->D){xs:List α}{K:List D->MS->Prop}(h:∀ x∈xs,∀(K':Option D->MS->Prop),K' (some (f x)) μ->it (g x) μ K')(k:K (xs.map f) μ):compW it c (xs.map g) μ K:=by
 refine compW_gen hc g (fun x=>some (f x)) h ?_
 rw[List.filterMap_eq_map']
 exact k
theorem atI_maps {α:Type}{g:α->D}{xs:List α}{k:Nat}{x:α}(h:xs[k]?=some x):atI (xs.map g) (k:Int)=some (g x):=atI_map h
end L2
namespace L2
end L2
namespace L2
open PySem PySem.Spec PyProof.Rows
theorem Room.le {j k:Nat}{A:Around}(r:Room k A)(h:j<=k:=by first | decide | exact ae _ | omega):Room j A:=r.mono h
theorem lo {sc:Scope}{x:Str}(h:Loc sc x:=by first | exact Or.inl rfl | exact Or.inr rfl):Loc sc x:=h
section
variable {X:Cx}
def rMinL:List V->Hp->VK->Prop:=fun vs H Q=>match vs with
 | [.ref p]=>∃ ns:List Int,H p=some (.lst (ns.map V.int))/\ns≠[]/\∀ m,m∈ns->(∀ x∈ns,m<=x)->Q (.int m) H
 | _=>False
theorem minL (hc:X.calm=true):CallR X (.builtin "min") rMinL:=by
 intro pins s σ H vs us Q I rv h
 unfold rMinL at h
 split at h
 ·rename_i p
  obtain⟨ns,hp,hne,q⟩:=h
  obtain⟨u,rfl,ru⟩:=rv.one
  cases ru
  obtain⟨z,fw,n,r,hl,e⟩:=I.lstM hp
  have isl:s.heap.IsList p fw.toArray:=⟨_,e,rfl,n,rfl⟩
  have lt:p≠s.heap.objs.size:=ai (gxN e)
  have len:fw.toArray.size=ns.length:=by rw[ah,<- hl,gxC]
  have pos:0<ns.length:=List.length_pos_iff.mpr hne
  have val:∀ i v,fw.toArray[i]?=some v->∃ t,i<ns.length/\v=.int (ns.getD i 0) t:=fun i v hv=>by
   have hv':fw[i]?=some v:=by simpa using hv
   cases eb:(ns.map V.int)[i]? with
   | none=>have:=r.none_of eb;rw[hv']at this;cases this
   | some y =>
    obtain⟨u,hu,ry⟩:=r.get eb
    rw[hv']at hu;cases hu
    rw[gxH]at eb
    cases e2:ns[i]? with
    | none=>rw[e2]at eb;cases eb
    | some b =>
     rw[e2]at eb;cases eb
     obtain⟨t,rfl⟩:=ry
     exact⟨t,(gxB e2).1,by rw[af,e2];rfl⟩
  refine call_min_walk (c4 isl ⟨_,_,_,_,_,_,fun i j=>decide (ns.getD i 0<ns.getD j 0),rfl,Walks.list (A:=X.A.in1) (I.ok.hd hc) s.heap.objs.size p lt fw.toArray,⟨⟨_,ak _ rfl,rfl,rfl⟩,isl.push _⟩,?_,by rw[len];exact pos,?_,fun v h' tk hv kp=>?_⟩)
  ·intro b hb
   simp only[aH,aw,bz]at hb
   show b<(s.heap.push _).objs.size
   rw[aS]
   rcases hb with rfl | rfl
   ·exact bA _
   ·exact aV (gxN e)
  ·intro i j vi vj s' Q' E' hi hj hq
   obtain⟨t,_,rfl⟩:=val i vi hi
   obtain⟨t',_,rfl⟩:=val j vj hj
   exact lt_int hq
  ·have I2:Inv X pins σ H { s with heap:=h',toks:=tk}:=I.kept fun b o e'=>kp b o (by simpa using ai (gxN e')) (gxL _ e')
   rw[len]at hv
   obtain⟨t,hlt,rfl⟩:=val _ v hv
   obtain⟨b1,b2⟩:=worst_is ns (ns.length - 1) (by omega)
   refine⟨.int _,H,I2,⟨t,rfl⟩,q _ ?_ fun x hx=>?_⟩
   ·rw[af,gxA hlt];exact bw _
   ·obtain⟨j,hj,ej⟩:=aJ hx
    have:=b2 j (by omega)
    rw[af (i:=j),gxA hj,ej]at this
    exact this
 ·exact h.elim
end
def fMinL:DSp:=fun ds μ K=>match ds with
 | [x]=>∃ ns:List Int,lv μ x=some (ns.map D.int)/\ns≠[]/\∀ m,m∈ns->(∀ y∈ns,m<=y)->K (.int m) μ
 | _=>False
theorem so_minL:SoCall rMinL fMinL:=fun φ H vs ds μ K Q M h k L=>by
 unfold fMinL at k
 split at k
 ·obtain⟨v,r,rfl,h1,h2⟩:=h;cases(show r=[]from h2)
  obtain⟨ns,el,hn,k⟩:=k
  obtain⟨p,vs,rfl,hp,ha⟩:=lv_is M h1 el
  exact⟨ns,by rw[hp,ha.ints],hn,fun m a b=>L.val M (k m a b) rfl⟩
 ·exact k.elim
def rowI (L:Nat)(f:Nat->Int):List D:=(List.range L).map fun j=>D.int (f j)
def tabR (L:Nat)(T:Nat->Nat->Int):List D:=(List.range L).map fun i=>D.lst (rowI L (T i))
def minD0:List Int->Int
 | []=>0
 | x::r=>r.foldl min x
theorem minD0_mem {ns:List Int}(h:ns≠[]):minD0 ns∈ns/\∀ y∈ns,minD0 ns<=y:=by
 cases ns with
 | nil=>exact absurd rfl h
 | cons x r =>
  obtain⟨a,b,c⟩:=fmin_is r x
  refine⟨?_,fun y hy=>?_⟩
  ·rcases a with q | q
   ·show r.foldl min x∈_;rw[q];exact ao
   ·exact gxI _ q
  ·rcases List.mem_cons.mp hy with q | q
   ·rw[q];exact b
   ·exact c y q
def candL (T:Nat->Nat->Int)(i j:Nat):List Int:=(List.range (j - (i+1))).filterMap fun x=>if 0<T i (i+1+x)*T (i+1+x) j then some (T i (i+1+x)+T (i+1+x) j)else none
theorem cand_mem {T:Nat->Nat->Int}{i j:Nat}{v:Int}:v∈candL T i j↔∃ k,i<k/\k<j/\0<T i k*T k j/\v=T i k+T k j:=by
 unfold candL
 rw[List.mem_filterMap]
 constructor
 ·rintro⟨x,hx,e⟩
  rw[bX]at hx
  split at e
  ·cases e;exact⟨i+1+x,by omega,by omega,by assumption,rfl⟩
  ·cases e
 ·rintro⟨k,h1,h2,h3,rfl⟩
  refine⟨k - (i+1),List.mem_range.mpr (by omega),?_⟩
  rw[show i+1+(k - (i+1))=k by omega,au h3]
def stepL (es own:List Int)(T:Nat->Nat->Int)(i j:Nat):Int:=if j<=i then 0 else if es.getD j 0<=own.getD i 0 then 1 else minD0 (candL T i j)
def tabL (es:List Int)(ts:List Tk):Nat->Nat->Nat->Int
 | 0=>fun _ _=>0
 | a+1=>stepL es (ownR es ts a) (tabL es ts a)
theorem step_bd {es own:List Int}{T:Nat->Nat->Int}(h:∀ i j,0<=T i j/\T i j<=((j - i:Nat):Int))(i j:Nat):0<=stepL es own T i j/\stepL es own T i j<=((j - i:Nat):Int):=by
 unfold stepL
 split
 ·omega
 ·split
  ·omega
  ·by_cases hn:candL T i j=[]
   ·rw[hn];show(0:Int)<=0/\(0:Int)<=_;omega
   ·obtain⟨k,h1,h2,h3,e⟩:=cand_mem.mp (minD0_mem hn).1
    rw[e]
    have a:=h i k
    have b:=h k j
    omega
theorem tab_bd (es:List Int)(ts:List Tk):∀ a i j,0<=tabL es ts a i j/\tabL es ts a i j<=((j - i:Nat):Int)
 | 0,i,j=>by show(0:Int)<=0/\(0:Int)<=_;omega
 | a+1,i,j=>step_bd (tab_bd es ts a) i j
theorem rowI_get {L:Nat}{f:Nat->Int}{j:Nat}(h:j<L):(rowI L f)[j]?=some (.int (f j)):=by unfold rowI;rw[gxH,bF h];rfl
theorem rowI_len (L:Nat)(f:Nat->Int):(rowI L f).length=L:=by unfold rowI;rw[gxC,gxJ]
theorem tabR_get {L:Nat}{T:Nat->Nat->Int}{j:Nat}(h:j<L):(tabR L T)[j]?=some (.lst (rowI L (T j))):=by unfold tabR;rw[gxH,bF h];rfl
theorem tabR_len (L:Nat)(f:Nat->Nat->Int):(tabR L f).length=L:=by unfold tabR;rw[gxC,gxJ]
theorem rowI_ext {L:Nat}{f g:Nat->Int}(h:∀ j,j<L->f j=g j):rowI L f=rowI L g:=by
 unfold rowI
 exact bN fun j hj=>by rw[h j (List.mem_range.mp hj)]
theorem set_app {μ g:MS}{i:Nat}{m:MO}:(μ++g).set (μ.length+i) m=μ++g.set i m:=by
 rw[cI _ _ (by omega),Nat.add_sub_cancel_left]
theorem mr_all {n:Nat}:∀ {ds:List D},(∀ d∈ds,mrB n d)->mrL n ds
 | [],_=>by unfold mrL;trivial
 | d::ds,h=>by unfold mrL;exact⟨h d ao,mr_all fun x hx=>h x (gxI _ hx)⟩
theorem mr_rowI {n:Nat}(L:Nat)(f:Nat->Int):mrB n (.lst (rowI L f)):=mr_all fun d hd=>by obtain⟨i,_,rfl⟩:=List.mem_map.mp hd;exact trivial
theorem mr_tabR {n:Nat}(L:Nat)(f:Nat->Nat->Int):mrB n (.lst (tabR L f)):=mr_all fun d hd=>by obtain⟨i,_,rfl⟩:=List.mem_map.mp hd;exact mr_rowI L _
theorem sm_rowI {n:Nat}(L:Nat)(f:Nat->Int)(h:L<=100000):smD (n+1) (.lst (rowI L f)):=sm_lst (by rw[rowI_len];exact h) fun d hd=>by obtain⟨i,_,rfl⟩:=List.mem_map.mp hd;exact sm_int
theorem sm_tabR {n:Nat}(L:Nat)(f:Nat->Nat->Int)(h:L<=100000):smD (n+2) (.lst (tabR L f)):=sm_lst (by rw[tabR_len];exact h) fun d hd=>by obtain⟨i,_,rfl⟩:=List.mem_map.mp hd;exact sm_rowI L _ h
end L2
namespace L2
end L2
namespace L2
open PySem PySem.Spec PyProof.Rows
inductive Mak where
 | num (n:Int)
 | tri (p:Int) (l r:Mak)
def mkD:Mak->D
 | .num n=>.int n
 | .tri p l r=>.tup [.int p,mkD l,mkD r]
def Mak.cnt:Mak->Nat
 | .num _=>1
 | .tri _ l r=>l.cnt+r.cnt
def Mak.dep:Mak->Nat
 | .num _=>0
 | .tri _ l r=>max l.dep r.dep+1
def Mak.ok (cs:List Int)(m:Nat):Mak->Prop
 | .num n=>0<=n/\n<m
 | .tri p l r=>p∈cs/\l.ok cs m/\r.ok cs m
theorem Mak.cnt_pos:∀ t:Mak,0<t.cnt
 | .num _=>by show 0<1;decide
 | .tri _ l r=>by have:=l.cnt_pos;show 0<l.cnt+r.cnt;omega
def joinT (a b:Tk)(p:Int):Tk:=(a.1.take p.toNat++b.1.drop p.toNat,max a.2 b.2+1)
def Mak.val (ts:List Tk):Mak->Tk
 | .num n=>(ts[n.toNat]?).getD ([],0)
 | .tri p l r=>joinT (l.val ts) (r.val ts) p
def TkOk (n:Int)(t:Tk):Prop:=(t.1.length:Int)=n/\0<=t.2
theorem join_ok {n:Int}{a b:Tk}{p:Int}(ha:TkOk n a)(hb:TkOk n b):TkOk n (joinT a b p):=by
 refine⟨?_,?_⟩
 ·show((a.1.take p.toNat++b.1.drop p.toNat).length:Int)=n
  rw[gxE,bu,bB]
  have:=ha.1
  have:=hb.1
  omega
 ·show 0<=max a.2 b.2+1
  have:=ha.2
  omega
theorem Mak.val_ok {n:Int}{ts:List Tk}{cs:List Int}(ht:∀ t∈ts,TkOk n t):∀ {t:Mak},t.ok cs ts.length->TkOk n (t.val ts)
 | .num k,h=>by
  obtain⟨x,hx⟩:∃ x,ts[k.toNat]?=some x:=⟨_,gxA (by have:=h.1;have:=h.2;omega)⟩
  show TkOk n ((ts[k.toNat]?).getD ([],0))
  rw[hx]
  exact ht x (gxD hx)
 | .tri p l r,h=>join_ok (val_ok ht h.2.1) (val_ok ht h.2.2)
def mkTri:Mak->Bool
 | .tri _ _ _=>true
 | .num _=>false
theorem mrB_mk {n:Nat}:∀ t:Mak,mrB n (mkD t)
 | .num _=>trivial
 | .tri p l r=>⟨trivial,mrB_mk l,mrB_mk r,trivial⟩
def fRec (f:Nat->DSp):Nat->DSp
 | 0=>fun _ _ _=>False
 | n+1=>f n
theorem set0 {μ:MS}{x y m:MO}:(μ++[x,y]).set μ.length m=μ++[m,y]:=by
 have:=set_app (μ:=μ) (g:=[x,y]) (i:=0) (m:=m)
 rwa [Nat.add_zero]at this
theorem ty_mk (t:Mak)(μ:MS):tyN (mkD t) μ=some (if mkTri t then "tuple" else "int"):=by cases t <;> rfl
theorem Mak.val_num {ts:List Tk}{n:Int}{x:Tk}(h:ts[n.toNat]?=some x):(Mak.num n).val ts=x:=by show(ts[n.toNat]?).getD ([],0)=x;rw[h];rfl
abbrev IsZipG (h:Heap)(z TI TO:Addr)(f:Value)(bb:Bool):Prop:=h.get? z=some { cls:=.type "zip",dict:=none,data:=.fields #[f,.bool bb,.bool false,.ref TI,.ref TO],slots:=#[]}
structure ZG (z TI TO i1 i2 l1 l2:Addr)(f:Value)(bb:Bool)(a b:Value)(k1 k2:Nat)(xs ys:Array Value)(h:Heap):Prop where
 z:IsZipG h z TI TO f bb
 ti:IsPair h TI (.ref i1) (.ref i2)
 to:IsPair h TO a b
 n1:ItOf false h i1 l1 k1
 n2:ItOf false h i2 l2 k2
 q1:SqOf false h l1 xs
 q2:SqOf false h l2 ys
section
variable {z TI TO i1 i2 l1 l2:Addr}{f f' a b x y:Value}{bb bb':Bool}{k1 k2:Nat}{xs ys:Array Value}{h h':Heap}
theorem ZG.mz (S:ZG z TI TO i1 i2 l1 l2 f bb a b k1 k2 xs ys h)(D:ZipApart z TI TO i1 i2 l1 l2)(e:IsZipG h' z TI TO f' bb')(k:Heap.ExtBut z h h'):ZG z TI TO i1 i2 l1 l2 f' bb' a b k1 k2 xs ys h' :=
 ⟨e,k _ _ D.TIz S.ti,k _ _ D.TOz S.to,S.n1.extBut k D.i1z,S.n2.extBut k D.i2z,S.q1.extBut k D.l1z,S.q2.extBut k D.l2z⟩
theorem ZG.m1 {j:Nat}(S:ZG z TI TO i1 i2 l1 l2 f bb a b k1 k2 xs ys h)(D:ZipApart z TI TO i1 i2 l1 l2)(e:ItOf false h' i1 l1 j)(k:Heap.ExtBut i1 h h'):ZG z TI TO i1 i2 l1 l2 f bb a b j k2 xs ys h' :=
 ⟨k _ _ D.i1z.symm S.z,k _ _ D.TIi1 S.ti,k _ _ D.TOi1 S.to,e,S.n2.extBut k D.i12.symm,S.q1.extBut k D.l1i1,S.q2.extBut k D.l2i1⟩
theorem ZG.m2 {j:Nat}(S:ZG z TI TO i1 i2 l1 l2 f bb a b k1 k2 xs ys h)(D:ZipApart z TI TO i1 i2 l1 l2)(e:ItOf false h' i2 l2 j)(k:Heap.ExtBut i2 h h'):ZG z TI TO i1 i2 l1 l2 f bb a b k1 j xs ys h' :=
 ⟨k _ _ D.i2z.symm S.z,k _ _ D.TIi2 S.ti,k _ _ D.TOi2 S.to,S.n1.extBut k D.i12,e,S.q1.extBut k D.l1i2,S.q2.extBut k D.l2i2⟩
theorem ZG.mo (S:ZG z TI TO i1 i2 l1 l2 f bb a b k1 k2 xs ys h)(D:ZipApart z TI TO i1 i2 l1 l2)(e:IsPair h' TO x y)(k:Heap.ExtBut TO h h'):ZG z TI TO i1 i2 l1 l2 f bb x y k1 k2 xs ys h' :=
 ⟨k _ _ D.TOz.symm S.z,k _ _ D.TITO S.ti,e,S.n1.extBut k D.TOi1.symm,S.n2.extBut k D.TOi2.symm,S.q1.extBut k D.l1TO,S.q2.extBut k D.l2TO⟩
theorem ZG.push (S:ZG z TI TO i1 i2 l1 l2 f bb a b k1 k2 xs ys h)(o:Obj):ZG z TI TO i1 i2 l1 l2 f bb a b k1 k2 xs ys (h.push o) :=
 ⟨gxL _ S.z,gxL _ S.ti,gxL _ S.to,S.n1.at fun _ e=>gxL _ e,S.n2.at fun _ e=>gxL _ e,
  S.q1.extBut (b:=h.objs.size) (fun _ _ _ e=>gxL _ e) (S.q1.lt),S.q2.extBut (b:=h.objs.size) (fun _ _ _ e=>gxL _ e) (S.q2.lt)⟩
end
section
variable {prog:Program}{w:World}{A:Around}{E:Value->Shared->Prop}{s:Shared}
variable {z TI TO i1 i2 l1 l2:Addr}{k1 k2:Nat}{xs ys:Array Value}{x y a b f:Value}{bb:Bool}
theorem free_ok {Q:Bool->Shared->Prop}(hz:IsZipG s.heap z TI TO f bb)(hf:f=.none\/∃ T0:Addr,f=rawInt T0/\s.heap.get? T0=none)(q:Q true s):wpAny (model prog w) A (Builtin.SmallTypes.ownedTupleIsFree (.ref z)) Q E s:=by
 rcases hf with rfl | ⟨T0,rfl,hd⟩
 ·exact e9 (aA hz rfl (x:=.none) rfl (aa q))
 ·refine e9 (aA hz rfl (x:=rawInt T0) rfl ?_)
  show wpAny _ _ (loadIfAlive T0 >>= _) _ _ s
  refine e9 (wpAny_alive ?_)
  rw[hd]
  exact aa q
theorem busy_ok {Q:Bool->Shared->Prop}{T0:Addr}{o:Obj}(hz:IsZipG s.heap z TI TO (rawInt T0) bb)(hd:s.heap.get? T0=some o)(q:∀ g,IsZipG g z TI TO (rawInt T0) true->Heap.SameBut z s.heap g->Q false { s with heap:=g}):wpAny (model prog w) A (Builtin.SmallTypes.ownedTupleIsFree (.ref z)) Q E s:=by
 refine e9 (aA hz rfl (x:=rawInt T0) rfl ?_)
 show wpAny _ _ (loadIfAlive T0 >>= _) _ _ s
 refine e9 (wpAny_alive ?_)
 rw[hd]
 show wpAny _ _ (field (.ref z) 1 >>= _) _ _ s
 refine e9 (aA hz rfl (x:=.bool bb) rfl ?_)
 cases bb with
 | true=>exact aa (q s.heap hz ⟨rfl,fun _ _=>rfl⟩)
 | false=>exact e9 (aK hz (by simp) fun g e t=>aa (q g e t))
theorem zg_free {Q:Value->Shared->Prop}(D:ZipApart z TI TO i1 i2 l1 l2)(S:ZG z TI TO i1 i2 l1 l2 f bb a b k1 k2 xs ys s.heap)(hf:f=.none\/∃ T0:Addr,f=rawInt T0/\s.heap.get? T0=none)(hx:xs[k1]?=some x)(hy:ys[k2]?=some y)
 (hQ:∀ h',ZG z TI TO i1 i2 l1 l2 (rawInt s.heap.objs.size) false x y (k1+1) (k2+1) xs ys h'->IsPair h' s.heap.objs.size x y->h'.objs.size=s.heap.objs.size+1->ZK z TO i1 i2 s.heap h'->Q (.ref s.heap.objs.size) { s with heap:=h'}) :
 wpAny (model prog w) A (Builtin.«zip.__next__» ⟨[.ref z],[]⟩) (fun fin s'=>∃ v,fin=.done (.ret v)/\Q v s') E s:=by
 refine e9 (aa (e9 (aA S.z rfl (x:=.bool false) rfl (e9 (aA S.z rfl (x:=.ref TI) rfl (e9 (aP S.ti rfl ?_)))))))
 refine e9 (m:=Builtin.SmallTypes.ownedTupleIsFree (.ref z)) (free_ok S.z hf ?_)
 refine e9 (c5 (e9 (aA S.z rfl (x:=.ref TO) rfl (e9 (aK S.z (by simp) fun g1 e1 t1=>?_)))))
 have S1:=S.mz D (f':=.ellipsis) (bb':=bb) e1 t1.extBut
 refine e9 ?_
 rw[show(#[Value.ref i1,Value.ref i2]:Array Value).toList.zipIdx=[(.ref i1,0),(.ref i2,1)]from rfl,a8]
 refine e9 (e9 (cm (e9 (nextG_item S1.n1 S1.q1 hx fun g2 e2 t2=>aa ?_))))
 have S2:=S1.m1 D e2 t2.extBut
 refine e9 (aP S2.to rfl (e9 (cq S2.to fun g3 e3 t3=>e9 (cu (aa ?_)))))
 have S3:=S2.mo D (x:=x) (y:=b) e3 t3.extBut
 dsimp only
 rw[a8]
 refine e9 (e9 (cm (e9 (nextG_item S3.n2 S3.q2 hy fun g4 e4 t4=>aa ?_))))
 have S4:=S3.m2 D e4 t4.extBut
 refine e9 (aP S4.to rfl (e9 (cq S4.to fun g5 e5 t5=>e9 (cu (aa ?_)))))
 have S5:=S4.mo D (x:=x) (y:=y) e5 t5.extBut
 dsimp only
 rw[c7]
 have sz:g5.objs.size=s.heap.objs.size:=t5.1.trans (t4.1.trans (t3.1.trans (t2.1.trans t1.1)))
 refine aa (e9 (aP S5.to rfl (e9 (dJ ?_))))
 have S6:=S5.push { cls:=.type "tuple",data:=.seq #[x,y]}
 refine e9 (m:=Builtin.SmallTypes.ownedTupleHandOut (.ref z) (.ref g5.objs.size)) (e9 (aK S6.z (by simp) fun g7 e7 t7=>?_))
 have S7:=S6.mz D (f':=rawInt g5.objs.size) (bb':=bb) e7 t7.extBut
 refine aK S7.z (by simp) fun g8 e8 t8=>?_
 have S8:=S7.mz D (f':=rawInt g5.objs.size) (bb':=false) e8 t8.extBut
 have zlt:g5.objs.size≠z:=aU (gxN S5.z)
 have hT:IsPair g8 g5.objs.size x y:=t8.extBut _ _ zlt (t7.extBut _ _ zlt (ak _ rfl))
 have z8:g8.objs.size=s.heap.objs.size+1:=by rw[t8.1,t7.1,aS,sz]
 have kk:ZK z TO i1 i2 s.heap g8:=((((((zk_z t1.extBut).trans (zk_1 t2.extBut)).trans (zk_o t3.extBut)).trans (zk_2 t4.extBut)).trans (zk_o t5.extBut)).trans (fun d o _ _ _ _ e=>gxL _ e)).trans ((zk_z t7.extBut).trans (zk_z t8.extBut))
 rw[sz]at S8 hT
 refine aa ⟨_,rfl,?_⟩
 show Q (.ref g5.objs.size) _
 rw[sz]
 exact hQ g8 S8 hT z8 kk
theorem zg_busy {Q:Value->Shared->Prop}{T0:Addr}{o:Obj}(D:ZipApart z TI TO i1 i2 l1 l2)(S:ZG z TI TO i1 i2 l1 l2 (rawInt T0) bb a b k1 k2 xs ys s.heap)(hd:s.heap.get? T0=some o)(hx:xs[k1]?=some x)(hy:ys[k2]?=some y)
 (hQ:∀ h',ZG z TI TO i1 i2 l1 l2 (rawInt T0) true a b (k1+1) (k2+1) xs ys h'->IsPair h' s.heap.objs.size x y->h'.objs.size=s.heap.objs.size+1->ZK z TO i1 i2 s.heap h'->Q (.ref s.heap.objs.size) { s with heap:=h'}) :
 wpAny (model prog w) A (Builtin.«zip.__next__» ⟨[.ref z],[]⟩) (fun fin s'=>∃ v,fin=.done (.ret v)/\Q v s') E s:=by
 refine e9 (aa (e9 (aA S.z rfl (x:=.bool false) rfl (e9 (aA S.z rfl (x:=.ref TI) rfl (e9 (aP S.ti rfl ?_)))))))
 refine e9 (m:=Builtin.SmallTypes.ownedTupleIsFree (.ref z)) (busy_ok S.z hd fun g1 e1 t1=>?_)
 have S1:=S.mz D (bb':=true) e1 t1.extBut
 show wpAny _ _ (forIn (#[Value.ref i1,Value.ref i2]:Array Value) (none,#[]) _ >>= _) _ _ _
 rw[<- dD]
 refine e9 ?_
 rw[show(#[Value.ref i1,Value.ref i2]:Array Value).toList=[.ref i1,.ref i2]from rfl,a8]
 refine e9 (e9 (bp (e9 (nextG_item (s:={ s with heap:=g1}) S1.n1 S1.q1 hx fun g2 e2 t2=>aa (aa ?_)))))
 have S2:=S1.m1 D e2 t2.extBut
 dsimp only
 rw[a8]
 refine e9 (e9 (bp (e9 (nextG_item (s:={ s with heap:=g2}) S2.n2 S2.q2 hy fun g3 e3 t3=>aa (aa ?_)))))
 have S3:=S2.m2 D e3 t3.extBut
 dsimp only
 rw[c7]
 refine aa (e9 (dJ (aa ⟨_,rfl,?_⟩) (by show 2<=sizeLine;decide)))
 have sz:g3.objs.size=s.heap.objs.size:=t3.1.trans (t2.1.trans t1.1)
 have S4:=S3.push { cls:=.type "tuple",data:=.seq #[x,y]}
 have hT:IsPair (g3.push { cls:=.type "tuple",data:=.seq #[x,y]}) g3.objs.size x y:=ak _ rfl
 have z4:(g3.push { cls:=.type "tuple",data:=.seq #[x,y]}).objs.size=s.heap.objs.size+1:=by rw[aS,sz]
 have kk:ZK z TO i1 i2 s.heap (g3.push { cls:=.type "tuple",data:=.seq #[x,y]}):=(((zk_z t1.extBut).trans (zk_1 t2.extBut)).trans (zk_2 t3.extBut)).trans fun d o _ _ _ _ e=>gxL _ e
 show Q (.ref g3.objs.size) _
 rw[sz]at hT ⊢
 exact hQ _ S4 hT z4 kk
def ZZ (z TI TO i1 i2 l1 l2:Addr)(k:Nat)(h:Heap):Prop:=∃ f bb a b,IsZipG h z TI TO f bb/\(f=.none\/∃ T0:Addr,f=rawInt T0)/\IsPair h TI (.ref i1) (.ref i2)/\IsPair h TO a b/\ItOf false h i1 l1 k/\ItOf false h i2 l2 k
theorem ZZ.keep {k:Nat}{h h':Heap}(Z:ZZ z TI TO i1 i2 l1 l2 k h)(kp:∀ b∈[z,TI,TO,i1,i2],∀ o,h.get? b=some o->h'.get? b=some o):ZZ z TI TO i1 i2 l1 l2 k h':=by
 obtain⟨f,bb,a,b,h1,h2,h3,h4,h5,h6⟩:=Z
 exact⟨f,bb,a,b,kp z (by simp) _ h1,h2,kp TI (by simp) _ h3,kp TO (by simp) _ h4,h5.at fun o e=>kp i1 (by simp) o e,h6.at fun o e=>kp i2 (by simp) o e⟩
theorem zz_next {k:Nat}{Q:Value->Shared->Prop}(D:ZipApart z TI TO i1 i2 l1 l2)(Z:ZZ z TI TO i1 i2 l1 l2 k s.heap)(q1:SqOf false s.heap l1 xs)(q2:SqOf false s.heap l2 ys)(hx:xs[k]?=some x)(hy:ys[k]?=some y)
 (hQ:∀ h',ZZ z TI TO i1 i2 l1 l2 (k+1) h'->IsPair h' s.heap.objs.size x y->h'.objs.size=s.heap.objs.size+1->ZK z TO i1 i2 s.heap h'->Q (.ref s.heap.objs.size) { s with heap:=h'}) :
 wpAny (model prog w) A (Builtin.SmallTypes.nextOf (.ref z)) Q E s:=by
 obtain⟨f,bb,a,b,h1,h2,h3,h4,h5,h6⟩:=Z
 have ty:s.TypeIs (.ref z) "zip":=⟨_,h1,rfl⟩
 unfold Builtin.SmallTypes.nextOf
 refine e9 (ba (name:=Str.ofString "__next__") ty bC (bM bC ty cD ?_ (cy _)))
 rcases h2 with rfl | ⟨T0,rfl⟩
 ·exact zg_free D ⟨h1,h3,h4,h5,h6,q1,q2⟩ (.inl rfl) hx hy fun h' S hT hz hk=>aa (hQ h' ⟨_,_,_,_,S.z,.inr ⟨_,rfl⟩,S.ti,S.to,S.n1,S.n2⟩ hT hz hk)
 ·cases hd:s.heap.get? T0 with
  | none=>exact zg_free D ⟨h1,h3,h4,h5,h6,q1,q2⟩ (.inr ⟨T0,rfl,hd⟩) hx hy fun h' S hT hz hk=>aa (hQ h' ⟨_,_,_,_,S.z,.inr ⟨_,rfl⟩,S.ti,S.to,S.n1,S.n2⟩ hT hz hk)
  | some o=>exact zg_busy D ⟨h1,h3,h4,h5,h6,q1,q2⟩ hd hx hy fun h' S hT hz hk=>aa (hQ h' ⟨_,_,_,_,S.z,.inr ⟨_,rfl⟩,S.ti,S.to,S.n1,S.n2⟩ hT hz hk)
theorem zg_over_free {Q:Fin->Shared->Prop}(hh:A.handled=none)(D:ZipApart z TI TO i1 i2 l1 l2)(S:ZG z TI TO i1 i2 l1 l2 f bb a b k1 k2 xs ys s.heap)(hf:f=.none\/∃ T0:Addr,f=rawInt T0/\s.heap.get? T0=none)(hx:xs[k1]?=none\/ys[k2]?=none)
 (hE:∀ h' e,ZK z TO i1 i2 s.heap h'->(∃ o,h'.get? e=some o/\o.cls=.type "StopIteration")->E (.ref e) { s with heap:=h'}) :
 wpAny (model prog w) A (Builtin.«zip.__next__» ⟨[.ref z],[]⟩) Q E s:=by
 refine e9 (aa (e9 (aA S.z rfl (x:=.bool false) rfl (e9 (aA S.z rfl (x:=.ref TI) rfl (e9 (aP S.ti rfl ?_)))))))
 refine e9 (m:=Builtin.SmallTypes.ownedTupleIsFree (.ref z)) (free_ok S.z hf ?_)
 refine e9 (c5 (e9 (aA S.z rfl (x:=.ref TO) rfl (e9 (aK S.z (by simp) fun g1 e1 t1=>?_)))))
 have S1:=S.mz D (f':=.ellipsis) (bb':=bb) e1 t1.extBut
 refine e9 ?_
 rw[show(#[Value.ref i1,Value.ref i2]:Array Value).toList.zipIdx=[(.ref i1,0),(.ref i2,1)]from rfl,a8]
 cases ex:xs[k1]? with
 | none =>
  refine e9 (e9 (cm (e9 (nextG_end hh S1.n1 S1.q1 ex fun g2 e t2 he=>?_))))
  obtain⟨oe,hoe,hce⟩:=he
  have hz2:IsZipG g2 z TI TO .ellipsis bb:=t2 _ _ D.i1z.symm S1.z
  have hez:e≠z:=fun q=>by subst q;rw[hz2]at hoe;cases hoe;simp at hce
  exact aK hz2 (by simp) fun g3 _ t3=>hE g3 e (((zk_z t1.extBut).trans (zk_1 t2)).trans (zk_z t3.extBut)) ⟨oe,t3.extBut _ _ hez hoe,hce⟩
 | some x =>
  have hy:ys[k2]?=none:=by
   rcases hx with q | q
   ·rw[ex]at q;cases q
   ·exact q
  refine e9 (e9 (cm (e9 (nextG_item S1.n1 S1.q1 ex fun g2 e2 t2=>aa ?_))))
  have S2:=S1.m1 D e2 t2.extBut
  refine e9 (aP S2.to rfl (e9 (cq S2.to fun g3 e3 t3=>e9 (cu (aa ?_)))))
  have S3:=S2.mo D (x:=x) (y:=b) e3 t3.extBut
  dsimp only
  rw[a8]
  refine e9 (e9 (cm (e9 (nextG_end hh S3.n2 S3.q2 hy fun g4 e t4 he=>?_))))
  obtain⟨oe,hoe,hce⟩:=he
  have hz2:IsZipG g4 z TI TO .ellipsis bb:=t4 _ _ D.i2z.symm S3.z
  have hez:e≠z:=fun q=>by subst q;rw[hz2]at hoe;cases hoe;simp at hce
  exact aK hz2 (by simp) fun g5 _ t5=>hE g5 e ((((((zk_z t1.extBut).trans (zk_1 t2.extBut)).trans (zk_o t3.extBut)).trans (zk_2 t4))).trans (zk_z t5.extBut)) ⟨oe,t5.extBut _ _ hez hoe,hce⟩
theorem zg_over_busy {Q:Fin->Shared->Prop}{T0:Addr}{o:Obj}(hh:A.handled=none)(D:ZipApart z TI TO i1 i2 l1 l2)(S:ZG z TI TO i1 i2 l1 l2 (rawInt T0) bb a b k1 k2 xs ys s.heap)(hd:s.heap.get? T0=some o)(hx:xs[k1]?=none\/ys[k2]?=none)
 (hE:∀ h' e,ZK z TO i1 i2 s.heap h'->(∃ o,h'.get? e=some o/\o.cls=.type "StopIteration")->E (.ref e) { s with heap:=h'}) :
 wpAny (model prog w) A (Builtin.«zip.__next__» ⟨[.ref z],[]⟩) Q E s:=by
 refine e9 (aa (e9 (aA S.z rfl (x:=.bool false) rfl (e9 (aA S.z rfl (x:=.ref TI) rfl (e9 (aP S.ti rfl ?_)))))))
 refine e9 (m:=Builtin.SmallTypes.ownedTupleIsFree (.ref z)) (busy_ok S.z hd fun g1 e1 t1=>?_)
 have S1:=S.mz D (bb':=true) e1 t1.extBut
 show wpAny _ _ (forIn (#[Value.ref i1,Value.ref i2]:Array Value) (none,#[]) _ >>= _) _ _ _
 rw[<- dD]
 refine e9 ?_
 rw[show(#[Value.ref i1,Value.ref i2]:Array Value).toList=[.ref i1,.ref i2]from rfl,a8]
 cases ex:xs[k1]? with
 | none=>exact e9 (e9 (bp (e9 (nextG_end (s:={ s with heap:=g1}) hh S1.n1 S1.q1 ex fun g2 e t2 he=>hE g2 e ((zk_z t1.extBut).trans (zk_1 t2)) he))))
 | some x =>
  have hy:ys[k2]?=none:=by
   rcases hx with q | q
   ·rw[ex]at q;cases q
   ·exact q
  refine e9 (e9 (bp (e9 (nextG_item (s:={ s with heap:=g1}) S1.n1 S1.q1 ex fun g2 e2 t2=>aa (aa ?_)))))
  have S2:=S1.m1 D e2 t2.extBut
  dsimp only
  rw[a8]
  exact e9 (e9 (bp (e9 (nextG_end (s:={ s with heap:=g2}) hh S2.n2 S2.q2 hy fun g3 e t3 he=>hE g3 e (((zk_z t1.extBut).trans (zk_1 t2.extBut)).trans (zk_2 t3)) he))))
theorem zz_end {k:Nat}{Q:Value->Shared->Prop}(hh:A.handled=none)(D:ZipApart z TI TO i1 i2 l1 l2)(Z:ZZ z TI TO i1 i2 l1 l2 k s.heap)(q1:SqOf false s.heap l1 xs)(q2:SqOf false s.heap l2 ys)(hx:xs[k]?=none\/ys[k]?=none)
 (hE:∀ h' e,ZK z TO i1 i2 s.heap h'->(∃ o,h'.get? e=some o/\o.cls=.type "StopIteration")->E (.ref e) { s with heap:=h'}) :
 wpAny (model prog w) A (Builtin.SmallTypes.nextOf (.ref z)) Q E s:=by
 obtain⟨f,bb,a,b,h1,h2,h3,h4,h5,h6⟩:=Z
 have ty:s.TypeIs (.ref z) "zip":=⟨_,h1,rfl⟩
 unfold Builtin.SmallTypes.nextOf
 refine e9 (ba (name:=Str.ofString "__next__") ty bC (bM bC ty cD ?_ (cy _)))
 rcases h2 with rfl | ⟨T0,rfl⟩
 ·exact zg_over_free hh D ⟨h1,h3,h4,h5,h6,q1,q2⟩ (.inl rfl) hx hE
 ·cases hd:s.heap.get? T0 with
  | none=>exact zg_over_free hh D ⟨h1,h3,h4,h5,h6,q1,q2⟩ (.inr ⟨T0,rfl,hd⟩) hx hE
  | some o=>exact zg_over_busy hh D ⟨h1,h3,h4,h5,h6,q1,q2⟩ hd hx hE
theorem enz_next {e:Addr}{i:Nat}{old:Value}{Q:Value->Shared->Prop}(D:ZipApart z TI TO i1 i2 l1 l2)(he:IsEnum s.heap e z i old)(Z:ZZ z TI TO i1 i2 l1 l2 i s.heap)(ne:e∉[z,TI,TO,i1,i2])(q1:SqOf false s.heap l1 xs)(q2:SqOf false s.heap l2 ys)(hx:xs[i]?=some x)(hy:ys[i]?=some y)
 (hQ:∀ h1 h2 tk,IsPair h1 s.heap.objs.size x y->h1.objs.size=s.heap.objs.size+1->(∀ b o,b∉[z,TO,i1,i2]->s.heap.get? b=some o->h1.get? b=some o) ->
   IsEnumOut h2 e z ((i:Int)+1) (.ref s.heap.objs.size) (s.heap.objs.size+1)->ZZ z TI TO i1 i2 l1 l2 (i+1) h2->IsPair h2 (s.heap.objs.size+1) (.int i tk) (.ref s.heap.objs.size)->(∀ b o,b≠e->h1.get? b=some o->h2.get? b=some o)->Q (.ref (s.heap.objs.size+1)) { s with heap:=h2,toks:=tk+1}) :
 wpAny (model prog w) A (Builtin.«enumerate.__next__» ⟨[.ref e],[]⟩) (fun fin s'=>∃ v,fin=.done (.ret v)/\Q v s') E s:=by
 obtain⟨hp,g,d,tk,os⟩:=s
 show wpAny _ _ (field (.ref e) 2 >>= _) _ _ _
 refine e9 (aA he rfl (x:=.ref z) rfl ?_)
 have elt:e<hp.objs.size:=gxN he
 refine e9 (zz_next D Z q1 q2 hx hy fun h₁ Z₁ hT₁ sz₁ hk₁=>?_)
 replace hT₁:IsPair h₁ hp.objs.size x y:=hT₁
 replace sz₁:h₁.objs.size=hp.objs.size+1:=sz₁
 simp only[aH,aw,bz,not_or]at ne
 obtain⟨n1,n2,n3,n4,n5⟩:=ne
 have he₁:IsEnum h₁ e z i old:=hk₁ e _ n1 n3 n4 n5 he
 show wpAny _ _ (field (.ref e) 3 >>= _) _ _ ⟨h₁,g,d,tk,os⟩
 refine e9 (aA he₁ rfl (x:=rawInt i) rfl ?_)
 show wpAny _ _ (field (.ref e) 4 >>= _) _ _ ⟨h₁,g,d,tk,os⟩
 refine e9 (aA he₁ rfl (x:=.none) rfl ?_)
 show wpAny _ _ (mkInt i >>= _) _ _ ⟨h₁,g,d,tk,os⟩
 refine e9 (wpAny_mkInt ?_)
 show wpAny _ _ (setField (.ref e) 3 (rawInt ((i:Int)+1)) >>= _) _ _ ⟨h₁,g,d,tk+1,os⟩
 refine e9 (aK he₁ (by simp) fun h₂ he₂ hs₂=>?_)
 replace hs₂:Heap.SameBut e h₁ h₂:=hs₂
 replace he₂:IsEnum h₂ e z ((i:Int)+1) old:=he₂
 show wpAny _ _ (setField (.ref e) 4 .none >>= _) _ _ ⟨h₂,g,d,tk+1,os⟩
 refine e9 (aK he₂ (by simp) fun h₃ he₃ hs₃=>?_)
 replace hs₃:Heap.SameBut e h₂ h₃:=hs₃
 replace he₃:IsEnum h₃ e z ((i:Int)+1) old:=he₃
 show wpAny _ _ (newTuple [.int i tk,.ref hp.objs.size] >>= _) _ _ ⟨h₃,g,d,tk+1,os⟩
 refine e9 (dJ ?_)
 have he₄:IsEnum (h₃.push { cls:=.type "tuple",data:=.seq #[.int i tk,.ref hp.objs.size]}) e z ((i:Int)+1) old:=gxL _ he₃
 have hsz:h₃.objs.size=hp.objs.size+1:=by rw[hs₃.1,hs₂.1,sz₁]
 have ht₄:(h₃.push { cls:=.type "tuple",data:=.seq #[.int i tk,.ref hp.objs.size]}).get? (hp.objs.size+1)=some { cls:=.type "tuple",data:=.seq #[.int i tk,.ref hp.objs.size]}:=by rw[<- hsz];exact ak _ rfl
 have hk₄:∀ b o,b≠e->h₁.get? b=some o->(h₃.push { cls:=.type "tuple",data:=.seq #[.int i tk,.ref hp.objs.size]}).get? b=some o:=fun b o hb eo=>gxL _ (hs₃.extBut b o hb (hs₂.extBut b o hb eo))
 generalize h₃.push { cls:=.type "tuple",data:=.seq #[.int i tk,.ref hp.objs.size]}=h₄ at he₄ ht₄ hk₄
 show wpAny _ _ (Builtin.SmallTypes.ownedTupleIsFree (.ref e) >>= _) _ _ ⟨h₄,g,d,tk+1,os⟩
 rw[hsz]
 refine e9 ?_
 unfold Builtin.SmallTypes.ownedTupleIsFree
 refine e9 (aA he₄ rfl (x:=.none) rfl (aa ?_))
 simp only[if_true]
 refine e9 (c5 ?_)
 refine e9 (aA he₄ rfl (x:=old) rfl ?_)
 refine e9 (aK he₄ (by simp) fun h₅ he₅ hs₅=>?_)
 replace hs₅:Heap.SameBut e h₄ h₅:=hs₅
 replace he₅:IsEnum h₅ e z ((i:Int)+1) (.ref hp.objs.size):=he₅
 show wpAny _ _ (Builtin.SmallTypes.ownedTupleHandOut (.ref e) (.ref (hp.objs.size+1)) >>= _) _ _ ⟨h₅,g,d,tk+1,os⟩
 refine e9 ?_
 unfold Builtin.SmallTypes.ownedTupleHandOut
 refine e9 (aK he₅ (by simp) fun h₆ he₆ hs₆=>?_)
 replace hs₆:Heap.SameBut e h₅ h₆:=hs₆
 replace he₆:IsEnumOut h₆ e z ((i:Int)+1) (.ref hp.objs.size) (hp.objs.size+1):=he₆
 refine aK he₆ (by simp) fun h₇ he₇ hs₇=>?_
 replace hs₇:Heap.SameBut e h₆ h₇:=hs₇
 replace he₇:IsEnumOut h₇ e z ((i:Int)+1) (.ref hp.objs.size) (hp.objs.size+1):=he₇
 have k47:∀ b o,b≠e->h₄.get? b=some o->h₇.get? b=some o:=fun b o hb eo=>hs₇.extBut b o hb (hs₆.extBut b o hb (hs₅.extBut b o hb eo))
 refine e9 (cu (aa ⟨_,rfl,hQ h₁ h₇ tk hT₁ sz₁ (fun b o hb eo=>hk₁ b o (fun q=>hb (by simp[q])) (fun q=>hb (by simp[q])) (fun q=>hb (by simp[q])) (fun q=>hb (by simp[q])) eo) he₇ ?_ ?_ fun b o hb eo=>k47 b o hb (hk₄ b o hb eo)⟩))
 ·refine Z₁.keep fun b hb o eo=>k47 b o ?_ (hk₄ b o ?_ eo)<;>
  ·intro q
   subst q
   simp only[aH,aw,bz]at hb
   rcases hb with q | q | q | q | q
   ·exact n1 q
   ·exact n2 q
   ·exact n3 q
   ·exact n4 q
   ·exact n5 q
 ·exact k47 (hp.objs.size+1) _ (aU (aV elt)) ht₄
end
section
variable {prog:Program}{w:World}{A:Around}{E:Value->Shared->Prop}{s:Shared}
theorem enumerate_newZ (z TI TO:Addr) :
 Meets (Builtin.«enumerate.__new__» ⟨[.type "enumerate",.ref z],[]⟩) (fun _ R s=>IsZip s.heap z TI TO .none /\
  R (.ok (.ret (.ref s.heap.objs.size))) { s with heap:=s.heap.push { cls:=.type "enumerate",data:=.fields #[.none,.bool false,.ref z,rawInt 0,.none,.none]}}) :=
 .of_wp fun prog w A R s h=>by
  obtain⟨hp,g,d,tk,os⟩:=s
  obtain⟨hz,h⟩:=h
  have hsub:=sub_enumerate
  have hz':IsZip (Shared.heap ⟨hp,g,d,tk,os⟩) z TI TO .none:=hz
  wp_walk using cC hz'
  refine wpAny_stack_any fun st=>aa ?_
  split
  ·rename_i c _ _ _ _ _
   cases(c==Value.type "enumerate")
   ·wp_walk using cC hz'
    exact⟨_,rfl,h⟩
   ·wp_walk using cC hz'
    exact⟨_,rfl,h⟩
  ·wp_walk using cC hz'
   exact⟨_,rfl,h⟩
theorem call_enumerate_zip {z TI TO:Addr}{Q:Value->Shared->Prop}(hz:IsZip s.heap z TI TO .none)
 (h:∀ h',IsEnum h' s.heap.objs.size z 0 .none->h'.objs.size=s.heap.objs.size+1->(∀ b o,s.heap.get? b=some o->h'.get? b=some o)->Q (.ref s.heap.objs.size) { s with heap:=h'}) :
 wpAny (model prog w) A (call (.type "enumerate") [.ref z]) Q E s:=by
 refine callType_new F.called_enumerate (by decide) (F.typeCall_enumerate_1 _) (F.newCall_enumerate_1 _) (fun obj=>F.args_object_init_2 obj _) F.entry_enumerate_new (enumerate_newZ z TI TO) ⟨hz,?_⟩
 have he:IsEnum (s.heap.push { cls:=.type "enumerate",data:=.fields #[.none,.bool false,.ref z,rawInt 0,.none,.none]}) s.heap.objs.size z 0 .none:=ak _ rfl
 exact⟨⟨_,he,rfl⟩,h _ he (by rw[aS]) fun b o x=>gxL _ x⟩
end
def Itez (l1 l2:Addr):It :=
 ⟨fun i H=>∃ xs ys x y,H l1=some (.lst xs)/\H l2=some (.lst ys)/\xs[i]?=some x/\ys[i]?=some y,
  fun i H v H'=>∃ T1 T2 x y,v=.ref T2/\H T1=none/\(upd H T1 (.tup [x,y])) T2=none/\H'=upd (upd H T1 (.tup [x,y])) T2 (.tup [.int i,.ref T1])/\(∀ xs,H l1=some (.lst xs)->xs[i]?=some x)/\(∀ ys,H l2=some (.lst ys)->ys[i]?=some y),
  fun i H=>∃ xs ys,H l1=some (.lst xs)/\H l2=some (.lst ys)/\(xs.length<=i\/ys.length<=i)⟩
theorem FpOk.upd {X:Cx}{pins:List (Addr×Obj)}{H:Hp}{b T:Addr}{o:HO}(f:FpOk X pins H b)(h:b≠T):FpOk X pins (upd H T o) b:=⟨by rw[upd_ne h];exact f.1,f.2⟩
theorem turn_enumZ {P:Program}{w:World}{K:PySem.W.Frag}{elts:List Expr}{kk:Nat}{tpos:Pos}{e z TI TO i1 i2 l1 l2:Addr}(D:ZipApart z TI TO i1 i2 l1 l2)(ne:e∉[z,TI,TO,i1,i2]) :
 Turn P w K (.Tuple elts kk tpos) (Itez l1 l2) [e,z,TI,TO,i1,i2] e (fun i h=>(∃ old,IsEnum h e z i old)/\ZZ z TI TO i1 i2 l1 l2 i h) where
 mem:=by simp
 obj:=fun i h st b hb=>by
  obtain⟨⟨old,he⟩,f,bb,a,b',h1,h2,h3,h4,h5,h6⟩:=st
  simp only[aH,aw,bz]at hb
  rcases hb with rfl | rfl | rfl | rfl | rfl | rfl
  ·exact⟨_,he,fun v q=>by cases q⟩
  ·exact⟨_,h1,fun v q=>by cases q⟩
  ·exact⟨_,h3,fun v q=>by cases q⟩
  ·exact⟨_,h4,fun v q=>by cases q⟩
  ·exact h5.data
  ·exact h6.data
 keep:=fun i h h' st k=>by
  obtain⟨⟨old,he⟩,Z⟩:=st
  exact⟨⟨old,k e (by simp) _ he⟩,Z.keep fun b hb o eo=>k b (gxI _ hb) o eo⟩
 item:=by
  intro X hP hw hK hc i pins s σ H E I hf st hg
  subst hP hw hK
  obtain⟨⟨old,he⟩,Z⟩:=st
  obtain⟨xs,ys,x,y,q1,q2,ex,ey⟩:=hg
  obtain⟨_,us,n1,r1,_,p1⟩:=I.lstM q1
  obtain⟨_,ws,n2,r2,_,p2⟩:=I.lstM q2
  obtain⟨u,eu,ru⟩:=r1.get ex
  obtain⟨v,ev,rv⟩:=r2.get ey
  have s1:SqOf false s.heap l1 us.toArray:=⟨_,p1,rfl,n1,rfl⟩
  have s2:SqOf false s.heap l2 ws.toArray:=⟨_,p2,rfl,n2,rfl⟩
  have hT:s.TypeIs (.ref e) "enumerate":=⟨_,he,rfl⟩
  have old_lt:∀ b∈[e,z,TI,TO,i1,i2],b<s.heap.objs.size:=fun b hb=>by
   obtain⟨f,bb,a,b',h1,h2,h3,h4,h5,h6⟩:=Z
   simp only[aH,aw,bz]at hb
   rcases hb with rfl | rfl | rfl | rfl | rfl | rfl
   ·exact gxN he
   ·exact gxN h1
   ·exact gxN h3
   ·exact gxN h4
   ·obtain⟨o,q⟩:=h5.ex;exact gxN q
   ·obtain⟨o,q⟩:=h6.ex;exact gxN q
  unfold pyNext
  refine e9 (cW (ba (name:=Str.ofString "__next__") hT c3 (bM c3 hT F.entry_enumerate_next (enz_next D he Z ne s1 s2 (x:=u) (y:=v) (by simpa using eu) (by simpa using ev) fun h1 h2 tk hT1 sz1 fr1 ho2 Z2 hT2 fr2=>aa ?_) (F.args_enumerate_next_1 _))))
  refine⟨_,rfl,wpAny_letOwnedTupleGo_enum ho2 fun h3 he3 hs3=>?_⟩
  have I1:Inv X pins σ (upd H s.heap.objs.size (.tup [x,y])) { s with heap:=h1}:=I.turnT (ch:=[z,TO,i1,i2]) (h'':=h1) (fun b hb=>hf b (by
   simp only[aH,aw,bz]at hb ⊢
   rcases hb with q | q | q | q <;> simp[q])) fr1 hT1 ru rv
  have elt:=old_lt e (by simp)
  have en:e≠s.heap.objs.size+1:=ai (aV elt)
  have hT3:IsPair h3 (s.heap.objs.size+1) (.int i tk) (.ref s.heap.objs.size):=hs3.extBut _ _ (aY en) hT2
  have I2:=I1.turnT (ch:=[e]) (h'':=h3) (x:=.int i) (y:=.ref s.heap.objs.size) (u:=.int i tk) (v:=.ref s.heap.objs.size) (fun b hb=>by
   rw[List.mem_singleton.mp hb]
   exact(hf e (by simp)).upd (ai elt)) (fun b o hb eo=>hs3.extBut b o (fun q=>hb (by simp[q])) (fr2 b o (fun q=>hb (by simp[q])) eo)) (by show IsPair h3 h1.objs.size _ _;rw[sz1];exact hT3) ⟨tk,rfl⟩ rfl
  have hn1:H s.heap.objs.size=none:=I.hok.fresh (ae _)
  have hn2:(upd H s.heap.objs.size (.tup [x,y])) (s.heap.objs.size+1)=none:=by
   rw[upd_ne (Nat.succ_ne_self _)]
   exact I.hok.fresh (Nat.le_succ _)
  have I3:=I2.tok (tk+1)
  have e1:(({ s with heap:=h1}:Shared).heap.objs.size)=s.heap.objs.size+1:=sz1
  rw[e1]at I3
  refine⟨.ref (s.heap.objs.size+1),_,I3,rfl,⟨_,_,x,y,rfl,hn1,hn2,rfl,fun zs q=>by rw[q1]at q;cases q;exact ex,fun zs q=>by rw[q2]at q;cases q;exact ey⟩,⟨⟨_,by simpa using he3⟩,Z2.keep fun b hb o eo=>hs3.extBut b o (fun q=>ne (q▸hb)) eo⟩,fun b hb=>?_⟩
  have:=old_lt b hb
  rw[upd_ne (ai (aV this)),upd_ne (ai this)]
  exact(hf b hb).1
 done:=by
  intro X hP hw hK hc i pins s σ H E I hf st hg
  subst hP hw hK
  obtain⟨⟨old,he⟩,Z⟩:=st
  obtain⟨xs,ys,q1,q2,hx⟩:=hg
  obtain⟨_,us,n1,r1,ll1,p1⟩:=I.lstM q1
  obtain⟨_,ws,n2,r2,ll2,p2⟩:=I.lstM q2
  have s1:SqOf false s.heap l1 us.toArray:=⟨_,p1,rfl,n1,rfl⟩
  have s2:SqOf false s.heap l2 ws.toArray:=⟨_,p2,rfl,n2,rfl⟩
  have hT:s.TypeIs (.ref e) "enumerate":=⟨_,he,rfl⟩
  unfold pyNext
  refine e9 (cW (ba (name:=Str.ofString "__next__") hT c3 (bM c3 hT F.entry_enumerate_next ?_ (F.args_enumerate_next_1 _))))
  show wpAny _ _ (field (.ref e) 2 >>= _) _ _ _
  refine e9 (aA he rfl (x:=.ref z) rfl ?_)
  refine e9 (zz_end (I.ok.hd hc) D Z s1 s2 (by simp only[List.getElem?_toArray,List.getElem?_eq_none_iff];omega) fun h' x hk hx'=>?_)
  obtain⟨o,ho,hcl⟩:=hx'
  refine e9 (eI (T := "StopIteration") (b:=true) ⟨o,ho,hcl⟩ isSubtype_stop ?_)
  refine aa ⟨rfl,I.turnK (ch:=[z,TO,i1,i2]) (fun b hb=>hf b (by
   simp only[aH,aw,bz]at hb ⊢
   rcases hb with q | q | q | q <;> simp[q])) fun b o hb eo=>hk b o (fun q=>hb (by simp[q])) (fun q=>hb (by simp[q])) (fun q=>hb (by simp[q])) (fun q=>hb (by simp[q])) eo⟩
 self:=fun _ _ _ _ _ st h=>let ⟨⟨_,e⟩,_⟩:=st;dH e h
section
variable {X:Cx}{a b e:Expr}{es:List Expr}{pos:Pos}
def iEnumZ (ta:TA):TI:=fun σ H R=>ta σ H fun vs H1=>match vs with
 | [.ref l1,.ref l2]=>∃ xs ys,H1 l1=some (.lst xs)/\H1 l2=some (.lst ys)/\R (Itez l1 l2) H1
 | _=>False
theorem pi_enumZ {elts:List Expr}{kk:Nat}{tpos p2 pos2:Pos}{ta:TA}{p:Pos}(hg:Gl X "enumerate")(hm:X.mg "enumerate"=none)(hg2:Gl X "zip")(hm2:X.mg "zip"=none)(ha:PA X [a,b] ta)(hs:starEach [a,b] X.env=[(false,eval a X.env),(false,eval b X.env)]:=by rfl)(hs2:starEach [b] X.env=[(false,eval b X.env)]:=by rfl)
 (hs3:starEach [.Call (.Name "zip" p2) [a,b] [] pos2] X.env=[(false,eval (.Call (.Name "zip" p2) [a,b] [] pos2) X.env)]:=by rfl) :
 PI X (.Tuple elts kk tpos) (.Call (.Name "enumerate" p) [.Call (.Name "zip" p2) [a,b] [] pos2] [] pos) (iEnumZ ta):=by
 intro pins s σ H R I h
 refine Call_ (ld_blt I hg hm (show bootBuiltins "enumerate"=some (.type "enumerate") by decide +kernel) (bg ?_ hs3 rfl))
 rw[hs3]
 show wpAny _ _ (spliced ((false,eval (.Call (.Name "zip" p2) [a,b] [] pos2) X.env)::backTo pos [])) _ _ s
 refine Calls.spliced_cons ?_
 refine Call_ (ld_blt I hg2 hm2 boot_zip (bg (thn (ha pos2 pins s σ H _ I h) fun us s1 hq3=>?_) (by rw[hs,hs2]) (by rw[hs2];rfl)))
 obtain⟨vs,H1,I1,r1,q1⟩:=hq3
 try dsimp only at q1
 split at q1
 ·rename_i l1 l2
  obtain⟨xs,ys,h1,h2,q⟩:=q1
  obtain⟨u1,u2,rfl,e1,e2⟩:=r1.two
  cases e1;cases e2
  obtain⟨_,i1,n1,v1,_,p1⟩:=I1.lstM h1
  obtain⟨_,i2,n2,v2,_,p2⟩:=I1.lstM h2
  have s1q:SqOf false s1.heap l1 i1.toArray:=⟨_,p1,rfl,n1,rfl⟩
  have s2q:SqOf false s1.heap l2 i2.toArray:=⟨_,p2,rfl,n2,rfl⟩
  have lt1:l1<s1.heap.objs.size:=gxN p1
  have lt2:l2<s1.heap.objs.size:=gxN p2
  refine zip_made s1q s2q fun h' hz hTI hTO m1 m2 kp=>?_
  refine Calls.spliced_nil ?_
  refine call_enumerate_zip (s:={ s1 with heap:=h'}) hz fun h'' he hsz kp2=>dH he ?_
  have zlt:s1.heap.objs.size+4<h'.objs.size:=gxN hz
  have I2:Inv X pins σ H1 { s1 with heap:=h''}:=I1.kept (t':=s1.toks) fun b o eo=>kp2 b o (kp b o eo)
  have Z0:ZZ (s1.heap.objs.size+4) (s1.heap.objs.size+2) (s1.heap.objs.size+3) s1.heap.objs.size (s1.heap.objs.size+1) l1 l2 0 h':=⟨_,_,_,_,hz,.inl rfl,hTI,hTO,m1,m2⟩
  have ne:h'.objs.size∉[s1.heap.objs.size+4,s1.heap.objs.size+2,s1.heap.objs.size+3,s1.heap.objs.size,s1.heap.objs.size+1]:=by
   simp only[aH,aw,bz]
   omega
  refine⟨h'.objs.size,_,_,_,H1,rfl,I2,turn_enumZ (zipApart_new lt1 lt2) ne,⟨⟨_,he⟩,Z0.keep fun b _ o eo=>kp2 b o eo⟩,fun b hb=>?_,q⟩
  have hb':s1.heap.objs.size<=b:=by
   simp only[aH,aw,bz]at hb
   rcases hb with q | q | q | q | q | q
   ·rw[q];exact dQ (cF (aM _ 4) zlt)
   ·rw[q];exact aM _ _
   ·rw[q];exact aM _ _
   ·rw[q];exact aM _ _
   ·rw[q];exact ae _
   ·rw[q];exact aM _ _
  exact I1.fpOk hb' (I1.hok.fresh hb')
 ·exact q1.elim
def dItEZ (w:DA):DI:=fun ρ μ K=>w ρ μ fun ds fB=>match ds with
 | [x,y]=>opt (lv fB x) fun xs=>opt (lv fB y) fun ys=>K (enumD (List.zipWith (fun a b=>D.tup [a,b]) xs ys)) (fun μ'=>lc x xs μ'/\lc y ys μ') fB
 | _=>False
theorem i_enumZ {elts:List Expr}{kk:Nat}{tpos p2 pos2:Pos}{w:DA}{p:Pos}(hg:Gl X "enumerate")(hm:X.mg "enumerate"=none)(hg2:Gl X "zip")(hm2:X.mg "zip"=none)(ha:PDA X [a,b] w)(hs:starEach [a,b] X.env=[(false,eval a X.env),(false,eval b X.env)]:=by rfl)(hs2:starEach [b] X.env=[(false,eval b X.env)]:=by rfl)
 (hs3:starEach [.Call (.Name "zip" p2) [a,b] [] pos2] X.env=[(false,eval (.Call (.Name "zip" p2) [a,b] [] pos2) X.env)]:=by rfl) :
 PDI X (.Tuple elts kk tpos) (.Call (.Name "enumerate" p) [.Call (.Name "zip" p2) [a,b] [] pos2] [] pos) (dItEZ w):=(pi_enumZ hg hm hg2 hm2 ha hs hs2 hs3).imp fun σ H Q hq=>by
 obtain⟨φ,ρ,μ,K,A,M,k,L⟩:=hq
 refine⟨φ,ρ,μ,_,A,M,k,fun ds fB φ1 vs H1 k1 f1 M1 i1=>?_⟩
 split at k1
 ·rename_i x y
  obtain⟨xs,ex,k1⟩:=opt_ex k1
  obtain⟨ys,ey,k1⟩:=opt_ex k1
  obtain⟨v,r,rfl,h1,u,r',rfl,h2,h3⟩:=i1
  cases(show r'=[]from h3)
  obtain⟨p1,vx,rfl,hp1,ax⟩:=lv_is M1 h1 ex
  obtain⟨p2,vy,rfl,hp2,ay⟩:=lv_is M1 h2 ey
  refine⟨vx,vy,hp1,hp2,L _ _ fB φ1 _ H1 k1 f1 M1 fun φ' H' μ' f M' c i=>?_⟩
  obtain⟨vx,hx,ax⟩:=lv_stay M1 h1 ex f M' c.1
  obtain⟨vy,hy,ay⟩:=lv_stay M1 h2 ey f M' c.2
  have lx:=ax.len
  have ly:=ay.len
  refine⟨fun d hd=>?_,fun hi=>⟨vx,vy,hx,hy,by rw[enumD_len,bj]at hi;omega⟩⟩
  obtain⟨q,hq,rfl⟩:=enumD_get hd
  rw[bx]at hq
  cases e1:xs[i]? with
  | none=>rw[e1]at hq;cases hq
  | some dx =>
   cases e2:ys[i]? with
   | none=>rw[e1,e2]at hq;cases hq
   | some dy =>
    rw[e1,e2]at hq
    cases hq
    obtain⟨v1,g1,j1⟩:=ax.get e1
    obtain⟨v2,g2,j2⟩:=ay.get e2
    refine⟨⟨vx,vy,v1,v2,hx,hy,g1,g2⟩,fun z H'' hy'=>?_⟩
    obtain⟨T1,T2,x',y',rfl,hT1,hT2,rfl,q1,q2⟩:=hy'
    have c1:=q1 vx hx
    have c2:=q2 vy hy
    rw[g1]at c1;cases c1
    rw[g2]at c2;cases c2
    have fn1:=Fr.new (φ:=φ') (o:=.tup [v1,v2]) hT1
    have M1':=M'.same (Same.upd (o:=.tup [v1,v2]) hT1)
    have fn2:=Fr.new (φ:=φ') (o:=.tup [.int i,.ref T1]) hT2
    have M2':=M1'.same (Same.upd (o:=.tup [.int i,.ref T1]) hT2)
    have d1:DIs φ' (upd H' T1 (.tup [v1,v2])) (.tup [dx,dy]) (.ref T1):=⟨T1,_,rfl,M'.fresh hT1,fA,v1,_,rfl,j1.mono fn1,v2,_,rfl,j2.mono fn1,rfl⟩
    exact⟨fn1.trans fn2,M2',T2,_,rfl,M1'.fresh hT2,fA,.int i,_,rfl,rfl,.ref T1,_,rfl,d1.mono fn2,rfl⟩
 ·exact k1.elim
end
def rMin3:List V->Hp->VK->Prop:=fun vs H Q=>∃ i j k,vs=[.int i,.int j,.int k]/\Q (.int (min i (min j k))) H
theorem min3C {X:Cx}(hc:X.calm=true):CallR X (.builtin "min") rMin3:=by
 intro pins s σ H xs us Q I r h
 obtain⟨i,j,k,rfl,h⟩:=h
 cases r with
 | cons r1 r2 =>
  obtain⟨u,v,rfl,⟨t2,rfl⟩,⟨t3,rfl⟩⟩:=Vals.two r2
  obtain⟨t1,rfl⟩:=r1
  refine min_three_ints (I.ok.hd hc) fun h' tk kp=>⟨_,H,I.kept kp,?_,h⟩
  by_cases h1:j<i
  ·by_cases h2:k<j
   ·rw[au h1,au h2,show min i (min j k)=k by omega];exact⟨_,rfl⟩
   ·rw[au h1,aq h2,show min i (min j k)=j by omega];exact⟨_,rfl⟩
  ·by_cases h2:k<i
   ·rw[aq h1,au h2,show min i (min j k)=k by omega];exact⟨_,rfl⟩
   ·rw[aq h1,aq h2,show min i (min j k)=i by omega];exact⟨_,rfl⟩
def fMin3:DSp:=fun ds μ K=>match ds with | [.int i,.int j,.int k]=>K (.int (min i (min j k))) μ | _=>False
theorem so_min3:SoCall rMin3 fMin3:=fun φ H vs ds μ K Q M h k L=>by
 unfold fMin3 at k
 split at k
 ·obtain⟨v,r,rfl,h1,u,r',rfl,h2,w,r'',rfl,h3,h4⟩:=h
  cases(show r''=[]from h4);cases(show v=_ from h1);cases(show u=_ from h2);cases(show w=_ from h3);exact⟨_,_,_,rfl,L.val M k rfl⟩
 ·exact k.elim
section
variable {X:Cx}{e:Expr}{pos:Pos}
def dDNew:De:=fun _ μ K=>K (.mr μ.length) (μ++[.dic [] []])
theorem d_dnew:PD X (.Dict [] [] pos) dDNew:=pe_dnewK.imp fun σ H Q ⟨φ,ρ,μ,K,A,M,k,L⟩=>fun p hp=>by
 obtain⟨M',f⟩:=M.snoc (o:=.dK []) (m:=.dic [] []) hp ⟨[],[],fA,rfl,rfl,rfl⟩
 exact L _ _ _ _ _ k f M' ⟨p,by rw[gxG (by rw[M.len];exact ae _),M.len,aO];rfl,rfl⟩
def dAsgK (w wo wi:De):Ds:=fun N ρ μ=>w ρ μ fun d fB=>wo ρ fB fun o μ2=>wi ρ μ2 fun i μ3=>match o with
 | .mr k=>∃ ks ds,μ3[k]?=some (.dic ks ds)/\ks.length<sizeLine/\opt (keyD i) fun kk=>kk∉ks/\N.nx ρ (μ3.set k (.dic (ks++[kk]) (ds++[d])))
 | _=>False
theorem s_asgK {o i:Expr}{w wo wi:De}{pos':Pos}(hu:X.A.units+1<cLine)(he:PD X e w)(ho:PD X o wo)(hi:PD X i wi)(hs:swapsWith e (some (.Subscript o i pos')) pos.line X.env=pure false:=by rfl) :
 PDS X (.Assign [.Subscript o i pos'] e pos) (dAsgK w wo wi):=(ps_dput hu ho hi he hs).imp fun E σ H hq=>by
 obtain⟨φ,ρ,μ,N,A,M,w,L⟩:=hq
 refine⟨φ,ρ,μ,_,A,M,w,fun d fB φ1 v1 H1 k1 f1 M1 i1=>?_⟩
 refine⟨φ1,ρ,fB,_,A.mono f1,M1,k1,fun d2 μ2 φ2 v2 H2 k2 f2 M2 i2=>?_⟩
 refine⟨φ2,ρ,μ2,_,A.mono (f1.trans f2),M2,k2,fun d3 μ3 φ3 v3 H3 k3 f3 M3 i3=>?_⟩
 cases d2 with
 | mr k =>
  obtain⟨ks,ds,em,hl,k3⟩:=k3
  obtain⟨kk,ek,hn,k3⟩:=opt_ex k3
  obtain⟨p,hp,rfl⟩:=i2.mono f3
  obtain⟨p',e1,eW,vs,hv,h1,h2,ha⟩:=M3.at_ k _ em
  rw[hp]at e1;cases e1
  cases keyD_is ek i3
  have hn':(eW.any fun kv=>decide (kv.1=kk))=false:=by
   rw[dY]
   intro kv hkv
   rw[aZ]
   intro z
   exact hn (by rw[<- h1,<- z];exact List.mem_map_of_mem hkv)
  have ep:putK eW kk v1=eW++[(kk,v1)]:=by unfold putK;rw[hn'];rfl
  have f4:Fr φ3 H3 φ3 (upd H3 p (.dK (putK eW kk v1))):=.put (gxD hp)
  refine⟨p,_,rfl,DPut.k hv (by rw[<- h1,gxC]at hl;exact hl),?_⟩
  have M4:=M3.put (k:=k) (p:=p) (o:=.dK (putK eW kk v1)) (m:=.dic (ks++[kk]) (ds++[d])) hp ⟨putK eW kk v1,vs++[v1],fA,by rw[ep,bY,h1];rfl,by rw[ep,bY,h2];rfl,
   (ha.mono f4).app ⟨v1,[],rfl,(i1.mono (f2.trans f3)).mono f4,rfl⟩⟩
  exact L.nx ρ _ φ3 σ _ k3 ((f1.trans (f2.trans f3)).trans f4) (A.mono ((f1.trans (f2.trans f3)).trans f4)) M4
 | _=>exact k3.elim
end
def bareP (L:Nat)(i j:Nat):Int:=if j<=i then 0 else(L:Int) - 1
def joinP (P:Nat->Nat->Int)(i j:Nat):List Int:=(List.range (j - (i+1))).map fun x=>P i (i+1+x)+P (i+1+x) j+1
def stepP (L:Nat)(es own:List Int)(P:Nat->Nat->Int)(i j:Nat):Int:=if es.getD j 0<=own.getD i 0 then 0 else(joinP P i j).foldl min ((L:Int) - 1)
def fo (es:List Int)(ts:List Tk):Nat->Nat->Nat->Int
 | 0=>bareP es.length
 | a+1=>stepP es.length es (ownR es ts a) (fo es ts a)
theorem join_mem {P:Nat->Nat->Int}{i j:Nat}{v:Int}:v∈joinP P i j↔∃ k,i<k/\k<j/\v=P i k+P k j+1:=by
 unfold joinP
 rw[List.mem_map]
 constructor
 ·rintro⟨x,hx,rfl⟩
  rw[bX]at hx
  exact⟨i+1+x,by omega,by omega,rfl⟩
 ·rintro⟨k,h1,h2,rfl⟩
  exact⟨k - (i+1),List.mem_range.mpr (by omega),by rw[show i+1+(k - (i+1))=k by omega]⟩
theorem joinP_ext {P P':Nat->Nat->Int}{L i j:Nat}(hi:i<L)(hj:j<L)(h:∀ a b,a<L->b<L->P a b=P' a b):joinP P i j=joinP P' i j:=by
 unfold joinP
 apply bN
 intro x hx
 rw[bX]at hx
 rw[h i _ hi (by omega),h _ j (by omega) hj]
theorem stepP_ext {P P':Nat->Nat->Int}{L:Nat}{es own:List Int}{i j:Nat}(hi:i<L)(hj:j<L)(h:∀ a b,a<L->b<L->P a b=P' a b):stepP L es own P i j=stepP L es own P' i j:=by
 unfold stepP;rw[joinP_ext hi hj h]
def SideT (L:Nat)(T P:Nat->Nat->Int):Prop:=∀ i j,i<L->j<L->(j<=i->P i j=0)/\(i<j->(T i j=0/\P i j=(L:Int) - 1)\/(1<=T i j/\T i j<=((j - i:Nat):Int)/\P i j=T i j - 1))
theorem side_step {L:Nat}{es own:List Int}{T P:Nat->Nat->Int}(hs:∀ i j,i<L->j<=i->es.getD j 0<=own.getD i 0)(h:SideT L T P):SideT L (stepL es own T) (stepP L es own P):=by
 intro i j hi hj
 refine⟨fun hji=>by unfold stepP;rw[au (hs i j hi hji)],fun hij=>?_⟩
 unfold stepL stepP
 rw[aq (show ¬ j<=i by omega)]
 by_cases q:es.getD j 0<=own.getD i 0
 ·rw[au q,au q];right;omega
 rw[aq q,aq q]
 obtain⟨a1,a2,a3⟩:=fmin_is (joinP P i j) ((L:Int) - 1)
 generalize hm:(joinP P i j).foldl min ((L:Int) - 1)=m at a1 a2 a3 ⊢
 clear hm
 have kk:∀ k,i<k->k<j->(0<T i k*T k j/\1<=T i k/\1<=T k j/\T i k+T k j<=((j - i:Nat):Int)/\P i k+P k j+1=T i k+T k j - 1)\/(¬ 0<T i k*T k j/\(L:Int) - 1<P i k+P k j+1):=fun k h1 h2=>by
  have x1:=(h i k hi (by omega)).2 h1
  have x2:=(h k j (by omega) hj).2 h2
  rcases x1 with⟨y1,y2⟩ | ⟨y1,y2,y3⟩
  ·right;refine⟨by rw[y1,Int.zero_mul];omega,?_⟩
   rcases x2 with⟨z1,z2⟩ | ⟨z1,z2,z3⟩<;> omega
  ·rcases x2 with⟨z1,z2⟩ | ⟨z1,z2,z3⟩
   ·right;exact⟨by rw[z1,Int.mul_zero];omega,by omega⟩
   ·left;exact⟨Int.mul_pos (by omega) (by omega),y1,z1,by omega,by omega⟩
 by_cases hn:candL T i j=[]
 ·left
  rw[hn]
  refine⟨rfl,?_⟩
  rcases a1 with e | e
  ·exact e
  ·exfalso
   obtain⟨k,h1,h2,e⟩:=join_mem.mp e
   rcases kk k h1 h2 with⟨y,_⟩ | ⟨_,y⟩
   ·have:=cand_mem.mpr ⟨k,h1,h2,y,rfl⟩
    rw[hn]at this;cases this
   ·omega
 ·right
  obtain⟨b1,b2⟩:=minD0_mem hn
  generalize minD0 (candL T i j)=t at b1 b2 ⊢
  obtain⟨k,h1,h2,h3,e⟩:=cand_mem.mp b1
  rcases kk k h1 h2 with⟨_,y1,y2,y3,y4⟩ | ⟨y,_⟩
  ·have:=a3 _ (join_mem.mpr ⟨k,h1,h2,rfl⟩)
   refine⟨by omega,by omega,?_⟩
   rcases a1 with e' | e'
   ·omega
   ·obtain⟨k',g1,g2,e'⟩:=join_mem.mp e'
    rcases kk k' g1 g2 with⟨w0,w1,w2,w3,w4⟩ | ⟨_,w⟩
    ·have:=b2 _ (cand_mem.mpr ⟨k',g1,g2,w0,rfl⟩)
     omega
    ·omega
  ·exact absurd h3 y
theorem side_tab {es:List Int}{ts:List Tk}(hs:∀ a i j,i<es.length->j<=i->es.getD j 0<=(ownR es ts a).getD i 0):∀ a,SideT es.length (tabL es ts a) (fo es ts a)
 | 0=>fun i j hi hj=>⟨fun h=>by show bareP _ i j=0;unfold bareP;rw[au h],fun h=>.inl ⟨rfl,by show bareP _ i j=_;unfold bareP;rw[aq (by omega)]⟩⟩
 | a+1=>side_step (hs a) (side_tab hs a)
theorem own_same {es:List Int}{ts:List Tk}{a:Int}(h:∀ t∈ts,t.2≠a):ownR es ts a=ownR es ts (a - 1):=by
 unfold ownR
 apply bN
 intro e _
 rw[ownE_eq,ownE_eq]
 congr 2
 apply List.filter_congr
 intro t ht
 have:=h t ht
 exact decide_eq_decide.mpr ⟨fun q=>by omega,fun q=>by omega⟩
theorem own_bare {es:List Int}{ts:List Tk}{a:Int}(h:∀ t∈ts,a<t.2):ownR es ts a=es:=by
 unfold ownR
 have:es.map (ownE es ts a)=es.map id:=by
  apply bN
  intro e _
  rw[ownE_eq]
  have:(ts.filter fun t=>decide (t.2<=a))=[]:=by
   rw[List.filter_eq_nil_iff]
   intro t ht
   have:=h t ht
   simp;omega
  rw[this];rfl
 rw[this,List.map_id]
theorem getD_some {xs:List Int}{i:Nat}(h:i<xs.length):xs[i]?=some (xs.getD i 0):=by rw[af,gxA h];rfl
theorem up_getD {es:List Int}(hu:es.Pairwise (·<·)){i j:Nat}(hi:i<es.length)(h:j<=i):es.getD j 0<=es.getD i 0:=up_le hu j i _ _ h (getD_some (by omega)) (getD_some hi)
theorem own_getD {es:List Int}{ts:List Tk}{a:Int}(hu:es.Pairwise (·<·))(i j:Nat)(hi:i<es.length)(h:j<=i):es.getD j 0<=(ownR es ts a).getD i 0:=by
 have e:=own_get (ts:=ts) (a:=a) (getD_some hi)
 rw[af (l:=ownR es ts a),e]
 have:=ownE_ge es ts a (es.getD i 0)
 have:=up_getD hu hi h
 show _<=ownE es ts a (es.getD i 0)
 omega
theorem bare_fix {es:List Int}(hu:es.Pairwise (·<·)){i j:Nat}(hi:i<es.length)(hj:j<es.length):stepP es.length es es (bareP es.length) i j=bareP es.length i j:=by
 unfold stepP
 by_cases q:j<=i
 ·rw[au (up_getD hu hi q)];unfold bareP;rw[au q]
 ·have hij:i<j:=by omega
  have:=List.pairwise_iff_getElem.mp hu i j hi hj hij
  rw[aq (by
   have e1:=getD_some hi
   have e2:=getD_some hj
   rw[gxA hi]at e1
   rw[gxA hj]at e2
   rw[<- aB e1,<- aB e2];omega)]
  obtain⟨a1,a2,a3⟩:=fmin_is (joinP (bareP es.length) i j) ((es.length:Int) - 1)
  have eb:bareP es.length i j=(es.length:Int) - 1:=by unfold bareP;rw[aq q]
  rw[eb]
  rcases a1 with e | e
  ·exact e
  ·exfalso
   obtain⟨k,h1,h2,e⟩:=join_mem.mp e
   have b1:bareP es.length i k=(es.length:Int) - 1:=by unfold bareP;rw[aq (by omega)]
   have b2:bareP es.length k j=(es.length:Int) - 1:=by unfold bareP;rw[aq (by omega)]
   omega
theorem tabR_ext {L:Nat}{T T':Nat->Nat->Int}(h:∀ i j,i<L->j<L->T i j=T' i j):tabR L T=tabR L T':=by
 unfold tabR
 apply bN
 intro i hi
 rw[rowI_ext fun j hj=>h i j (List.mem_range.mp hi) hj]
theorem deqL_get:∀ {xs ys:List D} {i:Nat} {x y:D},deqL xs ys=true->xs[i]?=some x->ys[i]?=some y->deq x y=true
 | [],_,i,_,_,_,h1,_=>by simp at h1
 | _::_,[],i,_,_,_,_,h2=>by simp at h2
 | x::xs,y::ys,0,_,_,h,h1,h2=>by
  unfold deqL at h;rw[bh]at h
  simp at h1 h2;subst h1;subst h2;exact h.1
 | x::xs,y::ys,i+1,_,_,h,h1,h2=>by
  unfold deqL at h;rw[bh]at h
  exact deqL_get h.2 (by simpa using h1) (by simpa using h2)
theorem deq_tab {L:Nat}{S T:Nat->Nat->Int}(h:deq (.lst (tabR L S)) (.lst (tabR L T))=true):∀ i j,i<L->j<L->S i j=T i j:=fun i j hi hj=>by
 unfold deq at h
 have h1:=deqL_get h (tabR_get hi) (tabR_get hi)
 unfold deq at h1
 have h2:=deqL_get h1 (rowI_get hj) (rowI_get hj)
 unfold deq at h2
 exact eq_of_beq h2
theorem fix_next {es:List Int}{ts:List Tk}{k:Nat}(hf:∀ i j,i<es.length->j<es.length->stepP es.length es (ownR es ts ((k:Int) - 1)) (fo es ts k) i j=fo es ts k i j)(hn:∀ t∈ts,t.2≠(k:Int))(i j:Nat)(hi:i<es.length)(hj:j<es.length):fo es ts (k+1) i j=fo es ts k i j:=by
 show stepP es.length es (ownR es ts k) (fo es ts k) i j=_
 rw[own_same hn];exact hf i j hi hj
theorem fix_kept {es:List Int}{ts:List Tk}{k:Nat}(h:∀ i j,i<es.length->j<es.length->fo es ts (k+1) i j=fo es ts k i j)(i j:Nat)(hi:i<es.length)(hj:j<es.length):stepP es.length es (ownR es ts (((k+1:Nat):Int) - 1)) (fo es ts (k+1)) i j=fo es ts (k+1) i j:=by
 rw[show((k+1:Nat):Int) - 1=(k:Int) by omega,stepP_ext (P':=fo es ts k) hi hj h];rfl
theorem fix_start {n:Int}{cs:List Int}{ts:List Tk}(S:Shelf n cs ts)(i j:Nat)(hi:i<(eM n cs).length)(hj:j<(eM n cs).length):stepP (eM n cs).length (eM n cs) (ownR (eM n cs) ts (((0:Nat):Int) - 1)) (fo (eM n cs) ts 0) i j=fo (eM n cs) ts 0 i j:=by
 rw[own_bare fun t ht=>by have:=(S.takes.ok t ht).2.2.1;omega]
 exact bare_fix (ends_up S.n1 S.cuts) hi hj
theorem cut_rowI {L i j:Nat}{f:Nat->Int}(hj:j<=L):cutD (rowI L f) (some ((i:Int)+1)) (some (j:Int))=(List.range (j - (i+1))).map fun x=>D.int (f (i+1+x)):=by
 unfold cutD
 rw[rowI_len,show HT.sIx L 0 (some ((i:Int)+1))=min (i+1) L from HT.sIx_nat L 0 (i+1),HT.sIx_nat,cg hj]
 rcases Nat.lt_or_ge (i+1) j with q | q
 ·rw[cg (aL (dQ q) hj)]
  apply cw
  intro x
  rw[List.getElem?_take,gxH]
  by_cases hx:x<j - (i+1)
  ·rw[au hx,cG,bF hx,rowI_get (by omega)];rfl
  ·rw[aq hx,List.getElem?_eq_none_iff.mpr (by rw[gxJ];exact Nat.not_lt.mp hx)];rfl
 ·rw[Nat.sub_eq_zero_of_le q,Nat.sub_eq_zero_of_le (Nat.le_min.mpr ⟨q,hj⟩)];rfl
theorem zip_join {L:Nat}{P:Nat->Nat->Int}{i j:Nat}:List.zipWith (fun a b:Int=>a+b+1) ((List.range (j - (i+1))).map fun x=>P i (i+1+x)) ((List.range (j - (i+1))).map fun x=>P (i+1+x) j)=joinP P i j:=by
 unfold joinP
 rw[c9]
 generalize List.range (j - (i+1))=xs
 induction xs with
 | nil=>rfl
 | cons x xs ih=>rw[bo,ih];rfl
theorem enum_maps {ds:List D}{L:Nat}(g:Nat->D)(hl:ds.length=L)(h:∀ i,i<L->ds[i]?=some (g i)):enumD ds=(List.range L).map fun i=>D.tup [.int (i:Nat),g i]:=by
 unfold enumD
 apply cw
 intro i
 rw[bx,gxH,hl]
 by_cases hi:i<L
 ·rw[bF hi,h i hi];rfl
 ·rw[List.getElem?_eq_none_iff.mpr (by rw[gxJ];omega)];rfl
theorem enum_es {es:List Int}:enumD (es.map D.int)=(List.range es.length).map fun j=>D.tup [.int (j:Nat),.int (es.getD j 0)] :=
 enum_maps _ (gxC ..) fun i hi=>by rw[gxH,getD_some hi];rfl
theorem enum_tab {L:Nat}{P:Nat->Nat->Int}{own:List Int}(hl:own.length=L):enumD (List.zipWith (fun a b=>D.tup [a,b]) (tabR L P) (own.map D.int))=(List.range L).map fun i=>D.tup [.int (i:Nat),.tup [.lst (rowI L (P i)),.int (own.getD i 0)]] :=
 enum_maps (fun i=>.tup [.lst (rowI L (P i)),.int (own.getD i 0)]) (by rw[bj,tabR_len,gxC];omega) fun i hi=>by rw[bx,tabR_get hi,gxH,getD_some (by omega)];rfl
theorem tabR_succ {L k:Nat}{T:Nat->Nat->Int}:((List.range (k+1)).map fun i=>D.lst (rowI L (T i)))=((List.range k).map fun i=>D.lst (rowI L (T i)))++[.lst (rowI L (T k))]:=by rw[List.range_succ,bY];rfl
theorem mr_tabk {n:Nat}(L k:Nat)(f:Nat->Nat->Int):mrL n ((List.range k).map fun i=>D.lst (rowI L (f i))):=mr_all fun d hd=>by obtain⟨i,_,rfl⟩:=List.mem_map.mp hd;exact mr_rowI L _
theorem zip_ints {ls rs:List Int}:List.zipWith (fun a b=>D.tup [a,b]) (ls.map D.int) (rs.map D.int)=(ls.zip rs).map fun p=>D.tup [.int p.1,.int p.2]:=by
 rw[c9,List.zip,List.map_zipWith]
theorem zip_plus {ls rs:List Int}:(ls.zip rs).map (fun p=>D.int (p.1+p.2+1))=(List.zipWith (fun a b=>a+b+1) ls rs).map D.int:=by
 rw[List.zip,List.map_zipWith,List.map_zipWith]
theorem or_in {i j k:Nat}{ρ:DE}{μ:MS}{K:Bool->MS->Prop}(ch:Bool)(now:Int)(ages:List Int)(h8:ρ[i]?=some (some (.bl ch)))(h10:ρ[j]?=some (some (.int now)))(h6:ρ[k]?=some (some (.lst (ages.map D.int))))(h:∀ c,(c=false->ch=false/\now∉ages)->K c μ):dtOr (dTst (dVar i)) (dTst (dOp (dIn false) (dVar j) (dVar k))) ρ μ K:=by
 unfold dtOr dTst dOp dVar
 rw[h8,h10,h6]
 show if ch=true then K true μ else _
 by_cases q:ch=true
 ·rw[au q];exact h true fun z=>by cases z
 ·rw[aq q]
  refine⟨rfl,by rw[List.all_map];exact List.all_eq_true.mpr fun x _=>rfl,?_⟩
  refine h _ fun z=>⟨by cases ch with | true=>exact absurd rfl q | false=>rfl,fun hm=>?_⟩
  have z2:((ages.map D.int).any fun d=>deq d (.int now))=false:=by cases q2:((ages.map D.int).any fun d=>deq d (.int now))with | true=>rw[q2]at z;exact absurd z (by decide) | false=>rfl
  rw[dY]at z2
  exact z2 _ (List.mem_map_of_mem hm) (by unfold deq;exact beq_self_eq_true now)
def fNoMake:DSp:=fun ds μ K=>match ds with
 | [.lst b]=>b.length<=2000/\K (.int ((b.length:Int) - 1)) μ
 | _=>False
def fBareT:DSp:=fun ds μ K=>match ds with
 | [.lst b]=>b.length<=2000/\K (.lst (tabR b.length (bareP b.length))) μ
 | _=>False
def fFewestJ:DSp:=fun ds μ K=>match ds with
 | [.lst l,.lst r,.int m]=>∃ ls rs:List Int,l=ls.map D.int/\r=rs.map D.int/\ls.length<=2000/\rs.length<=2000/\K (.int ((List.zipWith (fun a b=>a+b+1) ls rs).foldl min m)) μ
 | _=>False
def fNextTab:DSp:=fun ds μ K=>match ds with
 | [.lst b,.lst c,.lst l]=>∃(es own:List Int) (P:Nat->Nat->Int),b=es.map D.int/\c=own.map D.int/\own.length=es.length/\es.length<=2000/\l=tabR es.length P/\K (.lst (tabR es.length (stepP es.length es own P))) μ
 | _=>False
def tabsD (es:List Int)(ts:List Tk)(k:Nat):List D:=(List.range k).map fun a=>D.lst (tabR es.length (fo es ts (a+1)))
def keysD (k:Nat):List Key:=(List.range k).map fun a=>(Sum.inl ((a:Nat):Int):Key)
def fFewTabs:DSp:=fun ds μ K=>match ds with
 | [.int n,.lst x,.lst y,.int a]=>∃(cs:List Int) (ts:List Tk),x=cs.map D.int/\y=ts.map tkD/\Shelf n cs ts/\0<=a/\a<=1000/\K (.dic (keysD (a.toNat+1)) (tabsD (eM n cs) ts (a.toNat+1))) μ
 | _=>False
def fewK (m:Int)(L:Nat):D:=if m<=(L:Int)then .int m else .non
def fFewest:DSp:=fun ds μ K=>match ds with
 | [.int n,.lst x,.lst y,.int a]=>∃(cs:List Int) (ts:List Tk),x=cs.map D.int/\y=ts.map tkD/\Shelf n cs ts/\0<=a/\a<=1000/\K (fewK (fo (eM n cs) ts (a.toNat+1) 0 (cs.length+1)) cs.length) μ
 | _=>False
theorem keys_new (k:Nat):(Sum.inl ((k:Nat):Int):Key)∉keysD k:=fun h=>by
 obtain⟨a,ha,e⟩:=List.mem_map.mp h
 rw[bX]at ha
 have:=Sum.inl.inj e
 omega
theorem keysD_succ (k:Nat):keysD (k+1)=keysD k++[Sum.inl ((k:Nat):Int)]:=by unfold keysD;rw[List.range_succ,bY];rfl
theorem tabsD_succ (es:List Int)(ts:List Tk)(k:Nat):tabsD es ts (k+1)=tabsD es ts k++[.lst (tabR es.length (fo es ts (k+1)))]:=by unfold tabsD;rw[List.range_succ,bY];rfl
theorem dval_at:∀ {xs:List Nat} {k:Nat} (g:Nat->D),k∈xs->dval ((xs.map fun a=>(Sum.inl ((a:Nat):Int):Key)).zip (xs.map g)) (.inl (k:Int))=some (g k)
 | x::xs,k,g,h=>by
  rw[ag,ag,ck]
  unfold dval
  rw[bZ]
  by_cases e:x=k
  ·subst e;simp
  ·have:¬ (Sum.inl ((x:Nat):Int):Key)=Sum.inl ((k:Nat):Int):=fun z=>e (by have:=Sum.inl.inj z;omega)
   simp only[this,decide_false]
   exact dval_at g (by rcases List.mem_cons.mp h with q | q;exact absurd q.symm e;exact q)
structure StepF (es:List Int)(F:Int->Int):Prop where
 mem:∀ e∈es,F e∈es
 ge:∀ e,e<=F e
 mono:∀ a∈es,∀ b∈es,a<=b->F a<=F b
theorem own_step {n:Int}{cs:List Int}{ts:List Tk}(S:Shelf n cs ts)(a:Int):StepF (eM n cs) (ownE (eM n cs) ts a):=by
 refine⟨fun e he=>ownE_mem he,fun e=>ownE_ge _ _ _ _,fun a' ha b hb hab=>?_⟩
 obtain⟨i,hi,e1⟩:=aJ ha
 obtain⟨j,hj,e2⟩:=aJ hb
 have g1:(eM n cs)[i]?=some a':=by rw[gxA hi,e1]
 have g2:(eM n cs)[j]?=some b:=by rw[gxA hj,e2]
 exact own_rises S i j _ _ (up_ge (ends_up S.n1 S.cuts) g1 g2 hab) (own_get g1) (own_get g2)
theorem idx_up {es:List Int}(hu:es.Pairwise (·<·)){x:Int}(hx:x∈es)(g:Int->Int):rowAt es (es.map g) x=g x:=by
 unfold rowAt
 rw[gxH,idx_get hx];rfl
theorem next_map {es:List Int}{ts:List Tk}{a:Int}(hu:es.Pairwise (·<·)){g:Int->Int}(hg:∀ e∈es,g e∈es):nextR es ts (es.map g) a=es.map fun e=>max (ownE es ts a e) (g (g e)):=by
 apply cw
 intro i
 by_cases hi:i<es.length
 ·have he:es[i]?=some es[i]:=gxA hi
  have hm:=bw hi
  rw[next_at (own_get he) (by rw[gxH,he];rfl:(es.map g)[i]?=some (g es[i])),gxH,he,idx_up hu (hg _ hm)]
  rfl
 ·rw[List.getElem?_eq_none_iff.mpr (by rw[(next_ok (⟨gxC ..,fun x hx=>by obtain⟨e,he,rfl⟩:=List.mem_map.mp hx;exact hg e he⟩:RowOk es (es.map g))).len];omega),List.getElem?_eq_none_iff.mpr (by rw[gxC];omega)]
theorem cutN_in {l:List Nat}{a b:Int}{c:Nat}(ha:0<=a)(hb:0<=b)(h:c∈cutN l a b):∃ k:Nat,a<=k/\(k:Int)<b/\l[k]?=some c:=by
 obtain⟨i,rfl⟩:=cU ha
 obtain⟨j,rfl⟩:=cU hb
 rw[cutN_nat]at h
 obtain⟨t,ht,e⟩:=aJ h
 have g:((l.drop i).take (j - i))[t]?=some c:=by rw[gxA ht,e]
 have ht:t<j - i:=aC ht (List.length_take_le ..)
 rw[bq ht,cG]at g
 exact⟨i+t,Int.ofNat_le.mpr (aM _ _),by omega,g⟩
def jnT (l1 l2:List Nat)(p:Int):List Nat:=l1.take p.toNat++l2.drop p.toNat
def Mkd (cs:List Int)(ts:List Tk):Nat->List Nat->Int->Prop
 | 0,l,a=>(l,a)∈ts
 | r+1,l,a=>Mkd cs ts r l a\/∃ l1 a1 l2 a2 p,Mkd cs ts r l1 a1/\Mkd cs ts r l2 a2/\p∈cs/\l=jnT l1 l2 p/\a=max a1 a2+1
theorem Mkd.up {cs:List Int}{ts:List Tk}{l:List Nat}{a:Int}{r:Nat}(h:Mkd cs ts r l a):∀ k,Mkd cs ts (r+k) l a
 | 0=>h
 | k+1=>.inl (Mkd.up h k)
theorem Mkd.le {cs:List Int}{ts:List Tk}{l:List Nat}{a:Int}{r r':Nat}(h:Mkd cs ts r l a)(hr:r<=r'):Mkd cs ts r' l a:=by
 have:=h.up (r' - r);rwa [show r+(r' - r)=r' by omega]at this
theorem jnT_low {l1 l2:List Nat}{p:Int}{k:Nat}(h:p<=l1.length)(hk:(k:Int)<p):(jnT l1 l2 p)[k]?=l1[k]?:=by
 unfold jnT
 rw[gxF (by rw[bu];omega),List.getElem?_take,au (by omega)]
theorem jnT_high {l1 l2:List Nat}{p:Int}{k:Nat}(h0:0<=p)(h:p<=l1.length)(hk:p<=(k:Int)):(jnT l1 l2 p)[k]?=l2[k]?:=by
 unfold jnT
 rw[gxG (by rw[bu];omega),bu,cG]
 congr 1;omega
theorem jnT_len {l1 l2:List Nat}{p:Int}(h0:0<=p)(h1:p<=l1.length)(h:l1.length=l2.length):(jnT l1 l2 p).length=l1.length:=by
 unfold jnT
 rw[gxE,bu,bB];omega
theorem jnT_ox {l1 l2:List Nat}{p:Int}(h1:OX l1)(h2:OX l2):OX (jnT l1 l2 p):=fun c hc=>by
 rcases List.mem_append.mp hc with q | q
 ·exact h1 c (aW q)
 ·exact h2 c (List.mem_of_mem_drop q)
theorem Mkd.good {n:Int}{cs:List Int}{ts:List Tk}(S:Shelf n cs ts):∀ {r:Nat} {l:List Nat} {a:Int},Mkd cs ts r l a->(l.length:Int)=n/\OX l/\0<=a/\a<=60+r
 | 0,l,a,h=>by have:=S.takes.ok (l,a) h;exact⟨this.1,this.2.1,this.2.2.1,by have:=this.2.2.2;simp at this ⊢;omega⟩
 | r+1,l,a,h=>by
  rcases h with h | ⟨l1,a1,l2,a2,p,h1,h2,hp,rfl,rfl⟩
  ·have:=Mkd.good S h;exact⟨this.1,this.2.1,this.2.2.1,by omega⟩
  ·have g1:=Mkd.good S h1
   have g2:=Mkd.good S h2
   have hp':=S.cuts.inn p hp
   exact⟨by rw[jnT_len (by omega) (by omega) (by omega)];exact g1.1,jnT_ox g1.2.1 g2.2.1,by omega,by omega⟩
def Cln (l:List Nat)(e x:Int):Prop:=∀ k:Nat,e<=k->(k:Int)<x->l[k]?=some 111
theorem far_cln {es:List Int}{l:List Nat}{e x:Int}(ho:OX l)(h0:0<=e)(he:e<=l.length)(hx:x<=farF es l e):Cln l e x:=fun k h1 h2=>by
 have ct:=clN_is ho (e:=e.toNat) (by omega)
 have:farF es l e<=max e (clN l e.toNat:Int):=by
  unfold farF
  rcases fmax_mem (es.filter fun x=>decide (x<=(clN l e.toNat:Int))) e with q | q
  ·rw[q];omega
  ·have:=bU (List.mem_filter.mp q).2;omega
 have c1:=ct.1
 exact ct.2.2.1 k (by omega) (by omega)
theorem cln_far {es:List Int}{l:List Nat}{e x:Int}(ho:OX l)(h0:0<=e)(hex:e<=x)(hx:x<=l.length)(hm:x∈es)(h:Cln l e x):x<=farF es l e:=by
 refine clean_far ho h0 hx hex hm fun z=>?_
 obtain⟨k,k1,k2,k3⟩:=cutN_in h0 (by omega) z
 rw[h k k1 k2]at k3
 cases k3
def RF (es:List Int)(ts:List Tk):Nat->Int->Int
 | 0=>ownE es ts 0
 | a+1=>fun e=>max (ownE es ts ((a:Int)+1) e) (RF es ts a (RF es ts a e))
theorem RF_step {n:Int}{cs:List Int}{ts:List Tk}(S:Shelf n cs ts):∀ a,StepF (eM n cs) (RF (eM n cs) ts a)
 | 0=>own_step S 0
 | a+1=>by
  have h:=RF_step S a
  have g:=own_step S ((a:Int)+1)
  refine⟨fun e he=>max_mem (g.mem e he) (h.mem _ (h.mem e he)),fun e=>?_,fun x hx y hy hxy=>?_⟩
  ·have:=g.ge e
   show e<=max _ _
   omega
  ·have g1:=g.mono x hx y hy hxy
   have g2:=h.mono _ (h.mem x hx) _ (h.mem y hy) (h.mono x hx y hy hxy)
   show max _ _<=max _ _
   omega
theorem rows_RF {n:Int}{cs:List Int}{ts:List Tk}(S:Shelf n cs ts):∀ a,rowsR (eM n cs) ts a=(eM n cs).map (RF (eM n cs) ts a)
 | 0=>rfl
 | a+1=>by
  show nextR (eM n cs) ts (rowsR (eM n cs) ts a) _=_
  rw[rows_RF S a,next_map (ends_up S.n1 S.cuts) (RF_step S a).mem]
  rfl
theorem RF_up {n:Int}{cs:List Int}{ts:List Tk}(S:Shelf n cs ts)(a:Nat)(e:Int):RF (eM n cs) ts a e<=RF (eM n cs) ts (a+1) e:=by
 have:=(RF_step S a).ge (RF (eM n cs) ts a e)
 show _<=max _ _
 omega
theorem RF_own {n:Int}{cs:List Int}{ts:List Tk}(a:Nat)(e:Int):ownE (eM n cs) ts a e<=RF (eM n cs) ts a e:=by
 cases a with
 | zero=>exact a9 _
 | succ a=>show ownE (eM n cs) ts (((a+1:Nat):Int)) e<=max (ownE (eM n cs) ts ((a:Int)+1) e) _;rw[show((a+1:Nat):Int)=(a:Int)+1 by omega];omega
theorem mk_sound {n:Int}{cs:List Int}{ts:List Tk}(S:Shelf n cs ts):∀ {r:Nat} {l:List Nat} {b:Int} {a:Nat},Mkd cs ts r l b->b<=a->∀ e x,e∈eM n cs->x∈eM n cs->e<=x->Cln l e x->x<=RF (eM n cs) ts a e
 | 0,l,b,a,h,hb,e,x,he,hx,hex,hc=>by
  have ok:=S.takes.ok (l,b) h
  have he2:=ends_in S.n1 S.cuts he
  have hx2:=ends_in S.n1 S.cuts hx
  have g1:=cln_far ok.2.1 he2.1 hex (by have:=ok.1;simp at this;omega) hx hc
  have g2:=own_far (es:=eM n cs) (e:=e) h (show(l,b).2<=(a:Int)from hb)
  have g3:=RF_own (n:=n) (cs:=cs) (ts:=ts) a e
  exact b8 g1 (b8 g2 g3)
 | r+1,l,b,a,h,hb,e,x,he,hx,hex,hc=>by
  rcases h with h | ⟨l1,a1,l2,a2,p,h1,h2,hp,rfl,rfl⟩
  ·exact mk_sound S h hb e x he hx hex hc
  ·have g1:=Mkd.good S h1
   have g2:=Mkd.good S h2
   have hp':=S.cuts.inn p hp
   cases a with
   | zero=>omega
   | succ a =>
    have hs:=RF_step S a
    have pm:p∈eM n cs:=by unfold eM;simp[hp]
    have up:=RF_up S a e
    have i1:=mk_sound S (a:=a) h1 (by omega)
    have i2:=mk_sound S (a:=a) h2 (by omega)
    by_cases q1:x<=p
    ·have:=i1 e x he hx hex fun k k1 k2=>by rw[<- jnT_low (l2:=l2) (p:=p) (by omega) (by omega)];exact hc k k1 k2
     omega
    ·by_cases q2:p<=e
     ·have:=i2 e x he hx hex fun k k1 k2=>by rw[<- jnT_high (l1:=l1) (p:=p) (by omega) (by omega) (by omega)];exact hc k k1 k2
      omega
     ·have j1:=i1 e p he pm (by omega) fun k k1 k2=>by rw[<- jnT_low (l2:=l2) (p:=p) (by omega) (by omega)];exact hc k k1 (by omega)
      have j2:=i2 p x pm hx (by omega) fun k k1 k2=>by rw[<- jnT_high (l1:=l1) (p:=p) (by omega) (by omega) (by omega)];exact hc k (by omega) k2
      have j3:=hs.mono p pm _ (hs.mem e he) j1
      show x<=max _ _
      omega
theorem cln_all {l:List Nat}{n:Int}(hl:(l.length:Int)=n)(h:Cln l 0 n):l=List.replicate n.toNat 111:=by
 apply cw
 intro k
 by_cases q:k<l.length
 ·rw[h k (by omega) (by omega),dE,au (by omega)]
 ·rw[List.getElem?_eq_none_iff.mpr (by omega),List.getElem?_eq_none_iff.mpr (by rw[aR];omega)]
theorem all_cln (n e x:Int)(h:x<=n)(h0:0<=e):Cln (List.replicate n.toNat 111) e x:=fun k k1 k2=>by
 rw[dE,au (by omega)]
theorem ends_0 (n:Int)(cs:List Int):(eM n cs)[0]?=some 0:=rfl
theorem own_getD' {es:List Int}{ts:List Tk}{a:Int}{i:Nat}{e:Int}(h:es[i]?=some e):(ownR es ts a).getD i 0=ownE es ts a e:=by rw[af,own_get h];rfl
theorem getD_at {es:List Int}{i:Nat}{e:Int}(h:es[i]?=some e):es.getD i 0=e:=by rw[af,h];rfl
theorem ends_lastN (n:Int)(cs:List Int):(eM n cs)[cs.length+1]?=some n:=by
 have:=ends_last n cs
 rwa [fk]at this
end L2
namespace L2
open PySem PySem.Spec PyProof.Rows PySem.SeqAt
end L2
namespace L2
open PySem PySem.Spec PyProof.Rows
def AsGood (ts ts':List Tk):Prop:=∀ t∈ts,∃ t'∈ts',t'.2=t.2/\∀ k:Nat,t.1[k]?=some 111->t'.1[k]?=some 111
theorem AsGood.refl (ts:List Tk):AsGood ts ts:=fun t ht=>⟨t,ht,rfl,fun _ h=>h⟩
structure More (n:Int)(cs:List Int)(ts:List Tk)(cs':List Int)(ts':List Tk):Prop where
 S:Shelf n cs ts
 S':Shelf n cs' ts'
 sub:∀ c∈cs,c∈cs'
 good:AsGood ts ts'
theorem More.refl {n:Int}{cs:List Int}{ts:List Tk}(S:Shelf n cs ts):More n cs ts cs ts:=⟨S,S,fun _ h=>h,.refl ts⟩
theorem More.ends {n:Int}{cs cs':List Int}{ts ts':List Tk}(h:More n cs ts cs' ts'){e:Int}(he:e∈eM n cs):e∈eM n cs':=by
 unfold eM at he ⊢
 rw[dc]at he ⊢
 rcases List.mem_cons.mp he with q | q
 ·exact List.mem_cons.mpr (.inl q)
 ·rcases List.mem_append.mp q with q | q
  ·exact gxI _ (List.mem_append.mpr (.inl (h.sub e q)))
  ·exact gxI _ (List.mem_append.mpr (.inr q))
theorem More.own {n:Int}{cs cs':List Int}{ts ts':List Tk}(h:More n cs ts cs' ts'){a a' e:Int}(ha:a<=a')(he:e∈eM n cs):ownE (eM n cs) ts a e<=ownE (eM n cs') ts' a' e:=by
 rw[ownE_eq (eM n cs)]
 rcases fmax_mem ((ts.filter fun t=>decide (t.2<=a)).map fun t=>farF (eM n cs) t.1 e) e with q | q
 ·rw[q];exact ownE_ge _ _ _ _
 ·obtain⟨t,ht,et⟩:=List.mem_map.mp q
  obtain⟨t1,t2⟩:=List.mem_filter.mp ht
  rw[<- et]
  obtain⟨t',m',e2,hc⟩:=h.good t t1
  have ok:=h.S.takes.ok t t1
  have ok':=h.S'.takes.ok t' m'
  have he2:=ends_in h.S.n1 h.S.cuts he
  have fm:=farF_mem (l:=t.1) he
  have f2:=(ends_in h.S.n1 h.S.cuts fm).2
  have hl:=ok.1
  have hl':=ok'.1
  have c:=far_cln (es:=eM n cs) ok.2.1 he2.1 (by omega) (a9 _)
  exact b8 (cln_far ok'.2.1 he2.1 (farF_ge _ _ _) (by omega) (h.ends fm) fun k k1 k2=>hc k (c k k1 k2)) (own_far m' (by rw[e2];exact b8 (bU t2) ha))
theorem More.rf {n:Int}{cs cs':List Int}{ts ts':List Tk}(h:More n cs ts cs' ts'):∀(a:Nat) {e:Int},e∈eM n cs->RF (eM n cs) ts a e<=RF (eM n cs') ts' a e
 | 0,e,he=>h.own (a9 _) he
 | a+1,e,he=>by
  have g:=RF_step h.S a
  have g':=RF_step h.S' a
  have i1:=h.rf a he
  have i2:=h.rf a (g.mem e he)
  have i3:=g'.mono _ (h.ends (g.mem e he)) _ (g'.mem e (h.ends he)) i1
  have i4:=h.own (a:=(a:Int)+1) (a9 _) he
  show max _ _<=max _ _
  omega
theorem rf_at {n:Int}{cs:List Int}{ts:List Tk}(S:Shelf n cs ts)(a:Nat){i:Nat}{e:Int}(he:(eM n cs)[i]?=some e):(rowsR (eM n cs) ts a)[i]?=some (RF (eM n cs) ts a e):=by rw[rows_RF S,gxH,he];rfl
theorem rf_bar {n:Int}{cs:List Int}{ts:List Tk}(S:Shelf n cs ts){i:Nat}{u v:Int}(hu:(eM n cs)[i]?=some u)(hv:(eM n cs)[i+1]?=some v)(hb:bad ts (u,v)=true):∀(a:Nat) {e:Int},e∈eM n cs->e<=u->RF (eM n cs) ts a e<=u:=by
 have own:∀(a:Int) {e:Int},e∈eM n cs->e<=u->ownE (eM n cs) ts a e<=u:=fun a e he heu=>by
  rw[ownE_eq]
  rcases fmax_mem ((ts.filter fun t=>decide (t.2<=a)).map fun t=>farF (eM n cs) t.1 e) e with q | q
  ·rw[q];exact heu
  ·obtain⟨t,ht,et⟩:=List.mem_map.mp q
   have t1:=(List.mem_filter.mp ht).1
   rw[<- et]
   have ok:=S.takes.ok t t1
   have hl:=ok.1
   have he2:=ends_in S.n1 S.cuts he
   by_cases z:farF (eM n cs) t.1 e<=u
   ·exact z
   ·exfalso
    have up:=ends_up S.n1 S.cuts
    obtain⟨j,hj,ej⟩:=aJ (farF_mem (l:=t.1) he)
    have gj:(eM n cs)[j]?=some (farF (eM n cs) t.1 e):=by rw[gxA hj,ej]
    have hij:i+1<=j:=by
     by_cases z2:j<=i
     ·exact absurd (up_le up j i _ _ z2 gj hu) z
     ·omega
    have c:=far_cln (es:=eM n cs) ok.2.1 he2.1 (by omega) (up_le up (i+1) j _ _ hij hv gj)
    have u0:=ends_in S.n1 S.cuts (gxD hu)
    have v0:=ends_in S.n1 S.cuts (gxD hv)
    unfold bad at hb
    obtain⟨k,k1,k2,k3⟩:=cutN_in u0.1 v0.1 (bU (List.all_eq_true.mp hb t t1))
    rw[c k (by omega) k2]at k3
    cases k3
 intro a
 induction a with
 | zero=>exact fun he heu=>own 0 he heu
 | succ a ih =>
  intro e he heu
  have:=own ((a:Int)+1) he heu
  have:=ih ((RF_step S a).mem e he) (ih he heu)
  show max _ _<=u
  omega
theorem least_bar {n:Int}{cs:List Int}{ts:List Tk}(S:Shelf n cs ts){a:Nat}(h:RF (eM n cs) ts a 0=n):barOf (eM n cs) ts=none:=by
 cases e:barOf (eM n cs) ts with
 | none=>rfl
 | some p =>
  exfalso
  obtain⟨u,v⟩:=p
  unfold barOf at e
  have hbad:=List.find?_some e
  obtain⟨i,hi,ei⟩:=aJ (List.mem_of_find?_eq_some e)
  have g:(prs (eM n cs))[i]?=some (u,v):=by rw[gxA hi,ei]
  rw[prs_get]at g
  cases e1:(eM n cs)[i]? with
  | none=>rw[e1]at g;cases g
  | some u' =>
   cases e2:(eM n cs)[i+1]? with
   | none=>rw[e1,e2]at g;cases g
   | some v' =>
    rw[e1,e2]at g
    cases g
    have b:=rf_bar S e1 e2 hbad a (ends_mem0 n cs) (ends_in S.n1 S.cuts (gxD e1)).1
    have w:=up_get (ends_up S.n1 S.cuts) e1 e2 (bA _)
    have:=(ends_in S.n1 S.cuts (gxD e2)).2
    omega
theorem More.least {n:Int}{cs cs':List Int}{ts ts':List Tk}(h:More n cs ts cs' ts'){a:Nat}(hl:LeastIs (eM n cs) ts n a):RF (eM n cs') ts' a 0=n:=by
 have e:=hl.at_
 rw[rf_at h.S a (ends_0 n cs)]at e
 have e:=aB e
 have:=h.rf a (ends_mem0 n cs)
 have:=(ends_in h.S'.n1 h.S'.cuts ((RF_step h.S' a).mem 0 (ends_mem0 n cs'))).2
 omega
theorem least_le {n:Int}{cs:List Int}{ts:List Tk}(S:Shelf n cs ts){a b:Nat}(h:RF (eM n cs) ts a 0=n)(hl:LeastIs (eM n cs) ts n b):b<=a:=by
 by_cases q:b<=a
 ·exact q
 ·exact absurd (by rw[rf_at S a (ends_0 n cs),h]) (hl.low a (by omega))
theorem mul_pos2 {x y:Int}(hx:0<=x)(hy:0<=y)(h:0<x*y):0<x/\0<y:=by
 refine⟨?_,?_⟩
 ·rcases Int.lt_or_le 0 x with q | q
  ·exact q
  ·rw[show x=0 by omega,Int.zero_mul]at h;exact absurd h (by decide)
 ·rcases Int.lt_or_le 0 y with q | q
  ·exact q
  ·rw[show y=0 by omega,Int.mul_zero]at h;exact absurd h (by decide)
theorem step_cand {es own:List Int}{T:Nat->Nat->Int}{i j:Nat}{v:Int}(hT:∀ i j,0<=T i j)(hij:i<j)(hv:v∈candL T i j):0<stepL es own T i j/\stepL es own T i j<=v:=by
 have pos:∀ w∈candL T i j,2<=w:=fun w hw=>by
  obtain⟨k,_,_,h3,rfl⟩:=cand_mem.mp hw
  have:=mul_pos2 (hT i k) (hT k j) h3
  omega
 have v2:=pos v hv
 have m:=minD0_mem (ns:=candL T i j) fun z=>by rw[z]at hv;cases hv
 have m1:=pos _ m.1
 have m2:=m.2 v hv
 unfold stepL
 rw[aq (by omega)]
 by_cases q:es.getD j 0<=own.getD i 0
 ·rw[au q];omega
 ·rw[aq q];omega
theorem More.tab {n:Int}{cs cs':List Int}{ts ts':List Tk}(h:More n cs ts cs' ts'):∀(a a':Nat),a<=a'->∀(i j i' j':Nat) (x y:Int),(eM n cs)[i]?=some x->(eM n cs)[j]?=some y->(eM n cs')[i']?=some x->(eM n cs')[j']?=some y ->
 0<tabL (eM n cs) ts a i j->0<tabL (eM n cs') ts' a' i' j'/\tabL (eM n cs') ts' a' i' j'<=tabL (eM n cs) ts a i j
 | 0,_,_,i,j,i',j',x,y,_,_,_,_,hp=>absurd hp (Int.lt_irrefl _)
 | a+1,0,ha,_,_,_,_,_,_,_,_,_,_,_=>absurd ha (by omega)
 | a+1,a'+1,ha,i,j,i',j',x,y,hi,hj,hi',hj',hp=>by
  have up:=ends_up h.S.n1 h.S.cuts
  have up':=ends_up h.S'.n1 h.S'.cuts
  by_cases hij:j<=i
  ·exact absurd (show 0<stepL _ _ _ i j from hp) (by unfold stepL;rw[au hij];decide)
  have xy:=up_get up hi hj (by omega)
  have hij':i'<j':=by
   by_cases q:i'<j'
   ·exact q
   ·have:=up_le up' j' i' _ _ (by omega) hj' hi';omega
  have bd:=tab_bd (eM n cs) ts a
  have bd':=tab_bd (eM n cs') ts' a'
  by_cases q:y<=ownE (eM n cs) ts a x
  ·have q':=b8 q (h.own (a':=(a':Int)) (by omega) (gxD hi))
   have e':tabL (eM n cs') ts' (a'+1) i' j'=1:=by
    show stepL _ _ _ i' j'=1
    unfold stepL
    rw[aq (by omega),au (by rw[getD_at hj',own_getD' hi'];exact q')]
   rw[e']
   exact⟨by decide,hp⟩
  ·have e:tabL (eM n cs) ts (a+1) i j=minD0 (candL (tabL (eM n cs) ts a) i j):=by
    show stepL _ _ _ i j=_
    unfold stepL
    rw[aq hij,aq (by rw[getD_at hj,own_getD' hi];exact q)]
   rw[e]at hp ⊢
   have m:=minD0_mem (ns:=candL (tabL (eM n cs) ts a) i j) fun z=>by rw[z]at hp;exact absurd hp (by decide)
   obtain⟨k,k1,k2,k3,ek⟩:=cand_mem.mp m.1
   rw[ek]
   have kp:=mul_pos2 (bd i k).1 (bd k j).1 k3
   have hk:(eM n cs)[k]?=some ((eM n cs).getD k 0):=getD_some (c8 k2 (gxB hj).1)
   have mk:=h.ends (gxD hk)
   have hk':=idx_get mk
   have r1:=h.tab a a' (by omega) i k i' _ _ _ hi hk hi' hk' kp.1
   have r2:=h.tab a a' (by omega) k j _ j' _ _ hk hj hk' hj' kp.2
   have w1:=up_get up hi hk k1
   have w2:=up_get up hk hj k2
   have c1:i'<(eM n cs').idxOf ((eM n cs).getD k 0):=by
    by_cases q:i'<(eM n cs').idxOf ((eM n cs).getD k 0)
    ·exact q
    ·have:=up_le up' _ i' _ _ (by omega) hk' hi';omega
   have c2:(eM n cs').idxOf ((eM n cs).getD k 0)<j':=by
    by_cases q:(eM n cs').idxOf ((eM n cs).getD k 0)<j'
    ·exact q
    ·have:=up_le up' j' _ _ _ (by omega) hj' hk';omega
   have st:=step_cand (es:=eM n cs') (own:=ownR (eM n cs') ts' a') (fun i j=>(bd' i j).1) hij' (cand_mem.mpr ⟨_,c1,c2,Int.mul_pos r1.1 r2.1,rfl⟩)
   exact⟨st.1,b8 st.2 (Int.add_le_add r1.2 r2.2)⟩
theorem tab_reach {n:Int}{cs:List Int}{ts:List Tk}(S:Shelf n cs ts):∀(a i j:Nat) (x y:Int),(eM n cs)[i]?=some x->(eM n cs)[j]?=some y->i<j->y<=RF (eM n cs) ts a x->0<tabL (eM n cs) ts (a+1) i j:=by
 have own:∀(a i j:Nat) (x y:Int),(eM n cs)[i]?=some x->(eM n cs)[j]?=some y->i<j->y<=ownE (eM n cs) ts a x->0<tabL (eM n cs) ts (a+1) i j:=fun a i j x y hi hj hij hy=>by
  show 0<stepL _ _ _ i j
  unfold stepL
  rw[aq (by omega),au (by rw[getD_at hj,own_getD' hi];exact hy)]
  decide
 intro a
 induction a with
 | zero=>exact own 0
 | succ a ih =>
  intro i j x y hi hj hij hy
  by_cases q:y<=ownE (eM n cs) ts ((a+1:Nat):Int) x
  ·exact own (a+1) i j x y hi hj hij q
  have hy:y<=max (ownE (eM n cs) ts ((a:Int)+1) x) (RF (eM n cs) ts a (RF (eM n cs) ts a x)):=hy
  have hy2:y<=RF (eM n cs) ts a (RF (eM n cs) ts a x):=by
   have:((a+1:Nat):Int)=(a:Int)+1:=by omega
   rw[this]at q;omega
  have up:=ends_up S.n1 S.cuts
  have mm:=(RF_step S a).mem x (gxD hi)
  have ge:=(RF_step S a).ge x
  obtain⟨k,hk,ek⟩:=aJ mm
  have gk:(eM n cs)[k]?=some (RF (eM n cs) ts a x):=by rw[gxA hk,ek]
  by_cases q1:y<=RF (eM n cs) ts a x
  ·exact((More.refl S).tab (a+1) (a+2) (by omega) i j i j x y hi hj hi hj (ih i j x y hi hj hij q1)).1
  have kj:k<j:=by
   by_cases z:k<j
   ·exact z
   ·exact absurd (up_le up j k _ _ (by omega) hj gk) q1
  have ik:=up_ge up hi gk ge
  by_cases z:i=k
  ·subst z
   rw[hi]at gk
   have gk:=aB gk
   rw[<- gk]at hy2 q1
   rw[<- gk]at hy2
   exact absurd hy2 q1
  have p1:=ih i k x _ hi gk (by omega) (a9 _)
  have p2:=ih k j _ y gk hj kj hy2
  exact(step_cand (es:=eM n cs) (own:=ownR (eM n cs) ts ((a+1:Nat):Int)) (fun i j=>(tab_bd (eM n cs) ts (a+1) i j).1) hij (cand_mem.mpr ⟨k,by omega,kj,Int.mul_pos p1 p2,rfl⟩)).1
theorem tab_least {n:Int}{cs:List Int}{ts:List Tk}(S:Shelf n cs ts){a:Nat}(hl:LeastIs (eM n cs) ts n a):0<tabL (eM n cs) ts (a+1) 0 (cs.length+1):=by
 refine tab_reach S a 0 (cs.length+1) 0 n (ends_0 n cs) (ends_lastN n cs) (by omega) ?_
 rw[(More.refl S).least hl]
 exact a9 _
theorem sideT {n:Int}{cs:List Int}{ts:List Tk}(S:Shelf n cs ts)(a:Nat):SideT (eM n cs).length (tabL (eM n cs) ts a) (fo (eM n cs) ts a):=side_tab (fun a i j hi h=>own_getD (ends_up S.n1 S.cuts) i j hi h) a
def insM (C:Addr)(μ:MS)(k:Nat):Option (List Str×List D):=match μ[k]? with | some (.ins C' ns ds)=>if C'=C then some (ns,ds)else none | _=>none
theorem insM_eq {C:Addr}{μ:MS}{k:Nat}{q:List Str×List D}(h:insM C μ k=some q):μ[k]?=some (.ins C q.1 q.2):=by
 unfold insM at h
 split at h
 ·rename_i C' ns ds e
  by_cases z:C'=C
  ·rw[au z]at h;cases h;rw[e,z]
  ·rw[aq z]at h;cases h
 ·cases h
theorem insM_of {C:Addr}{μ:MS}{k:Nat}{ns:List Str}{ds:List D}(h:μ[k]?=some (.ins C ns ds)):insM C μ k=some (ns,ds):=by unfold insM;rw[h];exact au rfl
def lookN (f:Str):List Str->List D->Option D
 | n::ns,d::ds=>if n=f then some d else lookN f ns ds
 | _,_=>none
def putN (f:Str)(d:D):List Str->List D->List Str×List D
 | n::ns,e::ds=>if n=f then(n::ns,d::ds)else(n::(putN f d ns ds).1,e::(putN f d ns ds).2)
 | _,_=>([f],[d])
theorem lookN_is {φ:List Addr}{H:Hp}{f:Str}{d:D}:∀ {fs:List (Str×V)} {ds:List D},fc φ H ds (fs.map (·.2))->lookN f (fs.map (·.1)) ds=some d->∃ v,fs.lookup f=some v/\DIs φ H d v
 | [],ds,h,e=>by cases ds <;> cases e
 | (n,x)::fs,ds,h,e=>by
  cases ds with
  | nil=>cases e
  | cons d0 ds =>
   obtain⟨v,r,e1,h1,h2⟩:=h
   simp only[ag,bS]at e1
   obtain⟨rfl,rfl⟩:=e1
   simp only[ag,lookN]at e
   rw[da]
   by_cases q:n=f
   ·rw[au q]at e;cases e
    subst q
    exact⟨x,by simp,h1⟩
   ·rw[aq q]at e
    have:(f==n)=false:=beq_eq_false_iff_ne.mpr fun z=>q z.symm
    simp only[this]
    exact lookN_is h2 e
theorem lookN_no {φ:List Addr}{H:Hp}{f:Str}:∀ {fs:List (Str×V)} {ds:List D},fc φ H ds (fs.map (·.2))->lookN f (fs.map (·.1)) ds=none->fs.lookup f=none
 | [],ds,h,e=>rfl
 | (n,x)::fs,ds,h,e=>by
  cases ds with
  | nil=>cases(show _=_ from h)
  | cons d0 ds =>
   obtain⟨v,r,e1,h1,h2⟩:=h
   simp only[ag,bS]at e1
   obtain⟨rfl,rfl⟩:=e1
   simp only[ag,lookN]at e
   rw[da]
   by_cases q:n=f
   ·rw[au q]at e;cases e
   ·rw[aq q]at e
    have:(f==n)=false:=beq_eq_false_iff_ne.mpr fun z=>q z.symm
    simp only[this]
    exact lookN_no h2 e
theorem putN_is {φ:List Addr}{H:Hp}{f:Str}{d:D}{v:V}(hd:DIs φ H d v):∀ {fs:List (Str×V)} {ds:List D},fc φ H ds (fs.map (·.2))->(putF f v fs).map (·.1)=(putN f d (fs.map (·.1)) ds).1/\fc φ H (putN f d (fs.map (·.1)) ds).2 ((putF f v fs).map (·.2))
 | [],ds,h=>by cases ds <;> exact⟨rfl,v,[],rfl,hd,rfl⟩
 | (n,x)::fs,ds,h=>by
  cases ds with
  | nil=>cases(show _=_ from h)
  | cons d0 ds =>
   obtain⟨v',r,e1,h1,h2⟩:=h
   simp only[ag,bS]at e1
   obtain⟨rfl,rfl⟩:=e1
   simp only[putF,ag,putN]
   by_cases q:n=f
   ·rw[au q,au q]
    exact⟨rfl,_,_,rfl,hd,h2⟩
   ·rw[aq q,aq q]
    obtain⟨i1,i2⟩:=putN_is hd h2
    exact⟨by simp only[ag,i1],_,_,rfl,h1,i2⟩
section
variable {X:Cx}{a b e o:Expr}{es:List Expr}{pos:Pos}{C:Addr}
def dFld (C:Addr)(f:Str)(w:De):De:=fun ρ μ K=>w ρ μ fun x fB=>match x with
 | .mr k=>∃ d,(insM C fB k).bind (fun q=>lookN f q.1 q.2)=some d/\K d fB
 | .obj C' ns ds=>C'=C/\∃ d,lookN f ns ds=some d/\K d fB
 | _=>False
theorem d_fld {f:Str}{w:De}(c:Cls X.K C)(n:NoAttr X.K C f)(h:PD X e w)(hb:attributeBase e f X.env (eval e X.env)=eval e X.env:=by rfl):PD X (.Attribute e f pos) (dFld C f w):=(pe_fld h hb).imp fun σ H Q hq=>by
 obtain⟨φ,ρ,μ,K,A,M,k,L⟩:=hq
 refine⟨φ,ρ,μ,_,A,M,k,fun d1 fB φ1 v1 H1 k1 f1 M1 i1=>?_⟩
 cases d1 with
 | mr j =>
  obtain⟨d,e1,k1⟩:=k1
  obtain⟨q,e2,e3⟩:=Option.bind_eq_some_iff.mp e1
  obtain⟨p,hp,rfl⟩:=i1
  obtain⟨p',e4,dx,fs,h1,h2,h3⟩:=M1.at_ j _ (insM_eq e2)
  rw[hp]at e4;cases e4
  rw[<- h2]at e3
  obtain⟨v,l,iv⟩:=lookN_is h3 e3
  exact⟨p,C,dx,fs,v,rfl,h1,c,n,l,L _ fB φ1 v H1 k1 f1 M1 iv⟩
 | obj C' ns ds =>
  obtain⟨rfl,d,e3,k1⟩:=k1
  obtain⟨p,dx,fs,vs,rfl,_,h1,h2,rfl,h3⟩:=i1
  rw[<- h2]at e3
  obtain⟨v,l,iv⟩:=lookN_is h3 e3
  exact⟨p,_,dx,fs,v,rfl,h1,c,n,l,L _ fB φ1 v H1 k1 f1 M1 iv⟩
 | _=>exact k1.elim
def dSFld (C:Addr)(f:Str)(w wo:De):Ds:=fun N ρ μ=>w ρ μ fun d fB=>wo ρ fB fun x μ2=>match x with
 | .mr k=>∃ q q':List Str×List D,insM C μ2 k=some q/\putN f d q.1 q.2=q'/\q.1.length<1000/\N.nx ρ (μ2.set k (.ins C q'.1 q'.2))
 | _=>False
theorem s_fld {f:Str}{w wo:De}{pos':Pos}(c:Cls X.K C)(n:NoAttr X.K C f)(he:PD X e w)(ho:PD X o wo)(hs:swapsWith e (some (.Attribute o f pos')) pos.line X.env=pure false:=by rfl):PDS X (.Assign [.Attribute o f pos'] e pos) (dSFld C f w wo) :=
 (ps_fld ho he hs).imp fun E σ H hq=>by
 obtain⟨φ,ρ,μ,N,A,M,k,L⟩:=hq
 refine⟨φ,ρ,μ,_,A,M,k,fun d fB φ1 v1 H1 k1 f1 M1 i1=>?_⟩
 refine⟨φ1,ρ,fB,_,A.mono f1,M1,k1,fun d2 μ2 φ2 v2 H2 k2 f2 M2 i2=>?_⟩
 cases d2 with
 | mr j =>
  obtain⟨q,_,e2,rfl,hl,k2⟩:=k2
  obtain⟨p,hp,rfl⟩:=i2
  obtain⟨p',e4,dx,fs,h1,h2,h3⟩:=M2.at_ j _ (insM_eq e2)
  rw[hp]at e4;cases e4
  have f4:Fr φ2 H2 φ2 (upd H2 p (.ins C dx (putF f v1 fs))):=.put (gxD hp)
  obtain⟨g1,g2⟩:=putN_is (f:=f) ((i1.mono f2).mono f4) (h3.mono f4)
  rw[h2]at g1 g2
  refine⟨p,C,dx,fs,rfl,h1,c,n,by rw[<- h2,gxC]at hl;exact hl,?_⟩
  exact L.nx ρ _ φ2 σ _ k2 ((f1.trans f2).trans f4) (A.mono ((f1.trans f2).trans f4)) (M2.put hp ⟨dx,_,fA,g1,g2⟩)
 | _=>exact k2.elim
structure CalM (P:Program)(w:World)(K:PySem.W.Frag)(mg:Str->Option Value)(base:Heap)(C:Addr)(m:Str)(k:Nat)(ps:List Str)(sp:Sp):Prop where
 ex:∃ f fd,FnOk P w K mg base CX0 k f fd ps sp/\Meth K C m f/\Binds K fd ps []
def recvD (C:Addr)(m:Str)(μ:MS):D->Prop
 | .mr k=>(insM C μ k).map (fun q=>lookN m q.1 q.2)=some none
 | .obj C' ns es=>C'=C/\lookN m ns es=none
 | _=>False
theorem recvD_is {m:Str}{φ:List Addr}{H:Hp}{μ:MS}{d:D}{v:V}(M:MSis φ H μ)(i:DIs φ H d v)(h:recvD C m μ d):∃ p dx fs,v=.ref p/\H p=some (.ins C dx fs)/\fs.lookup m=none:=by
 cases d with
 | mr j =>
  obtain⟨q,e2,e3⟩:=Option.map_eq_some_iff.mp (show(insM C μ j).map (fun q=>lookN m q.1 q.2)=some none from h)
  obtain⟨p,hp,rfl⟩:=i
  obtain⟨p',e4,dx,fs,h1,h2,h3⟩:=M.at_ j _ (insM_eq e2)
  rw[hp]at e4;cases e4
  rw[<- h2]at e3
  exact⟨p,dx,fs,rfl,h1,lookN_no h3 e3⟩
 | obj C' ns es =>
  obtain⟨rfl,e3⟩:=(show C'=C/\lookN m ns es=none from h)
  obtain⟨p,dx,fs,vs0,rfl,_,h1,h2,rfl,h3⟩:=i
  rw[<- h2]at e3
  exact⟨p,dx,fs,rfl,h1,lookN_no h3 e3⟩
 | _=>exact(show False from h).elim
def dMeth (C:Addr)(m:Str)(f:DSp)(wo:De)(w:DA):De:=fun ρ μ K=>wo ρ μ fun x fB=>recvD C m fB x/\w ρ fB fun ds μ2=>f (x::ds) μ2 K
theorem tD_meth {m:Str}{f:DSp}{wo:De}{w:DA}{σ:St}{H:Hp}{Q:VK}(h:tD (dMeth C m f wo w) σ H Q):tMeth C m (spD f) [] E0 (tD wo) (tDA w) σ H Q:=by
 obtain⟨φ,ρ,μ,K,A,M,k,L⟩:=h
 refine⟨φ,ρ,μ,_,A,M,k,fun d1 fB φ1 v1 H1 k1 f1 M1 i1=>?_⟩
 obtain⟨p,dx,fs,rfl,h1,h2⟩:=recvD_is M1 i1 k1.1
 refine⟨p,dx,fs,rfl,h1,h2,φ1,ρ,fB,_,A.mono f1,M1,k1.2,fun ds μ2 φ2 vs H2 k2 f2 M2 i2=>?_⟩
 show spD f (.ref p::(vs++[])) H2 Q E0
 rw[b7]
 exact⟨φ2,d1::ds,μ2,K,⟨_,vs,rfl,DIs.mono f2 i1,i2⟩,M2,k2,L.mono (f1.trans f2)⟩
theorem d_meth {m:Str}{f:DSp}{wo:De}{w:DA}{apos:Pos}{pl:Sem Bool}{k:Nat}{ps:List Str}(CM:CalM X.prog X.w X.K X.mg X.base C m k ps (spD f))(c:Cls X.K C)(hr:Room k X.A)(ho:PD X o wo)(ha:PDA X (e::es) w)
 (hst:starEach (e::es) X.env=(false,eval e X.env)::starEach es X.env:=by rfl) (hpl:(backTo pos (starEach es X.env)).any (·.1)=false:=by rfl)
 (ht:eval (.Call (.Attribute o m apos) (e::es) [] pos) X.env=(do
   let ov <- eval o X.env
   standAt apos.atName
   let (f,first) <- holding [ov] (getMethod ov m pl)
   callWith pos f first (backTo pos (starEach (e::es) X.env)) (backToKw pos (keywordEach [] X.env))):=by rfl) :
 PD X (.Call (.Attribute o m apos) (e::es) [] pos) (dMeth C m f wo w):=by
 obtain⟨f',fd,F,hm,hb⟩:=CM.ex
 exact(pe_meth ho c hm F hr hb .nil pass0 ha hst hpl ht).imp fun σ H Q hq=>tD_meth hq
structure CalI (P:Program)(w:World)(K:PySem.W.Frag)(mg:Str->Option Value)(base:Heap)(x:Str)(C:Addr)(k:Nat)(ps:List Str)(sp:Sp):Prop where
 ex:∃ f fd,FnOk P w K mg base CX0 k f fd ps sp/\Mk K C f/\mg x=some (.ref C)/\Binds K fd ps []
def dMake (C:Addr)(f:DSp)(w:DA):De:=fun ρ μ K=>w ρ μ fun ds fB=>f (.mr fB.length::ds) (fB++[.ins C [] []]) fun d μ2=>d=.non/\K (.mr fB.length) μ2
theorem tD_make {f:DSp}{w:DA}{σ:St}{H:Hp}{Q:VK}(h:tD (dMake C f w) σ H Q):tMake C (spD f) [] E0 (tDA w) σ H Q:=by
 obtain⟨φ,ρ,μ,K,A,M,k,L⟩:=h
 refine⟨φ,ρ,μ,_,A,M,k,fun ds fB φ1 vs H1 k1 f1 M1 i1 x dx hx hdx ne=>?_⟩
 have S1:Same H1 (upd H1 dx (.own x)):=Same.upd hdx
 have hx':upd H1 dx (.own x) x=none:=by rw[upd_ne (aY ne)];exact hx
 have fa:Fr φ1 H1 φ1 (upd H1 dx (.own x)):=.same S1
 obtain⟨M2,f2⟩:=(M1.same S1).snoc (m:=.ins C [] []) (o:=.ins C dx []) hx' ⟨dx,[],fA,rfl,rfl⟩
 have f3:=fa.trans f2
 have hin:DIs (φ1++[x]) (upd (upd H1 dx (.own x)) x (.ins C dx [])) (.mr fB.length) (.ref x):=⟨x,by rw[gxG (by rw[M1.len];exact ae _),M1.len,aO];rfl,rfl⟩
 show spD f (.ref x::(vs++[])) _ _ E0
 rw[b7]
 refine⟨φ1++[x],.mr fB.length::ds,fB++[.ins C [] []],_,⟨_,vs,rfl,hin,i1.mono f3⟩,M2,k1,fun d μ3 φ3 v H3 k3 f4 M3 i3=>?_⟩
 obtain⟨rfl,k3⟩:=k3
 exact⟨i3,L _ μ3 φ3 _ H3 k3 ((f1.trans f3).trans f4) M3 (hin.mono f4)⟩
theorem d_make {x:Str}{f:DSp}{w:DA}{p:Pos}{k:Nat}{ps:List Str}(CI:CalI X.prog X.w X.K X.mg X.base x C k ps (spD f))(hr:Room (k+1) X.A)(hg:Gl X x)(ha:PDA X (e::es) w)
 (hdb:(x==("__debug__" : Str))=false:=by decide) (he:starEach (e::es) X.env=(false,eval e X.env)::starEach es X.env:=by rfl) (hpl:(backTo pos (starEach es X.env)).any (·.1)=false:=by rfl) :
 PD X (.Call (.Name x p) (e::es) [] pos) (dMake C f w):=by
 obtain⟨f',fd,F,M,hm,hb⟩:=CI.ex
 exact(pe_make M F hr hg hm hb .nil pass0 ha hdb he hpl).imp fun σ H Q hq=>tD_make hq
theorem cal_of {P:Program}{w:World}{K:PySem.W.Frag}{mg:Str->Option Value}{base h:Heap}{x q:Str}{st:Stmt}{f:Addr}{fd:FuncData}{k:Nat}{ps:List Str}{sp:Sp}(G:K.In h)(N:h.Ns mainGlobals mg)(F:Fun K x q st f fd)(ok:FnOk P w K mg base CX0 k f fd ps sp)(hb:Binds K fd ps [])
 (a:PySem.W.nsIn K mainGlobals x=some (some (.ref f)):=by kernel_rfl):Cal P w K mg base x k ps sp:=⟨f,fd,ok,dk G N a,F.kp,hb⟩
theorem calm_of {P:Program}{w:World}{K:PySem.W.Frag}{mg:Str->Option Value}{base:Heap}{C:Addr}{x q:Str}{st:Stmt}{f:Addr}{fd:FuncData}{k:Nat}{ps:List Str}{sp:Sp}(F:Fun K x q st f fd)(ok:FnOk P w K mg base CX0 k f fd ps sp)(hb:Binds K fd ps [])
 (a:PySem.W.findIn K (.ref C) x=some (some (.ref f)):=by kernel_rfl) (i:PySem.W.isFn K (.ref f)=true:=by kernel_rfl):CalM P w K mg base C x k ps sp:=⟨f,fd,ok,⟨a,i,F.kp⟩,hb⟩
theorem cali_of {P:Program}{w:World}{K:PySem.W.Frag}{mg:Str->Option Value}{base h:Heap}{C:Addr}{y q:Str}{st:Stmt}{f:Addr}{fd:FuncData}{k:Nat}{ps:List Str}{sp:Sp}(G:K.In h)(N:h.Ns mainGlobals mg)(F:Fun K "__init__" q st f fd)(ok:FnOk P w K mg base CX0 k f fd ps sp)(hb:Binds K fd ps [])
 (n:PySem.W.nsIn K mainGlobals y=some (some (.ref C)):=by kernel_rfl) (a:PySem.W.findIn K (.ref C) "__init__"=some (some (.ref f)):=by kernel_rfl) (i:PySem.W.isFn K (.ref f)=true:=by kernel_rfl) (m:PySem.W.makesIn K C=true:=by kernel_rfl) (p:PySem.W.keepIn K (.ref C)=true:=by kernel_rfl):CalI P w K mg base y C k ps sp:=⟨f,fd,ok,⟨m,a,i,p⟩,dk G N n,hb⟩
def keysL:List D->Option (List Key)
 | []=>some []
 | d::ds=>(keyD d).bind fun k=>(keysL ds).map (k::·)
def keyT:D->Option (List Key)
 | .tup ds=>keysL ds
 | _=>none
theorem keysL_is {φ:List Addr}{H:Hp}:∀ {ds:List D} {vs:List V} {ks:List Key},keysL ds=some ks->fc φ H ds vs->vs=ks.map kV
 | [],_,ks,e,h=>by cases e;exact h
 | d::ds,_,ks,e,h=>by
  obtain⟨v,r,rfl,h1,h2⟩:=h
  unfold keysL at e
  obtain⟨k,e1,e2⟩:=Option.bind_eq_some_iff.mp e
  obtain⟨ks',e3,rfl⟩:=Option.map_eq_some_iff.mp e2
  rw[keyD_is e1 h1,keysL_is e3 h2];rfl
theorem keyT_is {φ:List Addr}{H:Hp}{d:D}{v:V}{ks:List Key}(e:keyT d=some ks)(h:DIs φ H d v):∃ p,v=.ref p/\H p=some (.tup (ks.map kV)):=by
 cases d with
 | tup ds=>obtain⟨p,vs,rfl,_,hp,ha⟩:=h;exact⟨p,rfl,by rw[hp,keysL_is e ha]⟩
 | _=>cases e
def dtuM (μ:MS)(j:Nat):Option (List (List Key)×List D):=match μ[j]? with | some (.dtu ks ds)=>some (ks,ds) | _=>none
theorem dtuM_eq {μ:MS}{j:Nat}{q:List (List Key)×List D}(h:dtuM μ j=some q):μ[j]?=some (.dtu q.1 q.2):=by
 unfold dtuM at h
 split at h
 ·rename_i e;cases h;exact e
 ·cases h
def tval (ks:List (List Key))(ds:List D)(k:List Key):Option D:=match ks,ds with
 | k'::ks,d::ds=>if k'=k then some d else tval ks ds k
 | _,_=>none
def tput (ks:List (List Key))(ds:List D)(k:List Key)(d:D):List (List Key)×List D:=if(ks.any fun x=>decide (x=k))=true then(ks,(ks.zip ds).map fun p=>if p.1=k then d else p.2)else(ks++[k],ds++[d])
theorem tval_rel {φ:List Addr}{H:Hp}(k:List Key):∀ {eW:List (List Key×V)} {ds:List D},fc φ H ds (eW.map (·.2))->(tval (eW.map (·.1)) ds k=none/\valV eW k=none)\/∃ d v,tval (eW.map (·.1)) ds k=some d/\valV eW k=some v/\DIs φ H d v
 | [],ds,h=>.inl ⟨by cases ds <;> rfl,rfl⟩
 | p::eW,ds,h=>by
  cases ds with
  | nil=>cases(show _=_ from h)
  | cons d0 ds =>
   obtain⟨v,r,e,h4,h5⟩:=h
   simp only[ag,bS]at e
   obtain⟨rfl,rfl⟩:=e
   simp only[ag,tval]
   by_cases hk:p.1=k
   ·rw[au hk];exact .inr ⟨_,_,rfl,valV_pos hk,h4⟩
   ·rw[aq hk,valV_neg hk];exact tval_rel k h5
theorem tput_rel {φ:List Addr}{H:Hp}{k:List Key}{d:D}{v:V}(hd:DIs φ H d v){eW:List (List Key×V)}{ds:List D}(ha:fc φ H ds (eW.map (·.2))) :
 (putK eW k v).map (·.1)=(tput (eW.map (·.1)) ds k d).1/\fc φ H (tput (eW.map (·.1)) ds k d).2 ((putK eW k v).map (·.2)):=by
 have ea:(eW.any fun p=>decide (p.1=k))=(eW.map (·.1)).any fun x=>decide (x=k):=by rw[List.any_map];rfl
 unfold putK tput
 rw[ea]
 by_cases q:((eW.map (·.1)).any fun x=>decide (x=k))=true
 ·rw[au q,au q]
  clear q ea
  induction eW generalizing ds with
  | nil=>cases(show ds=[] by cases ds with | nil=>rfl | cons _ _=>obtain⟨_,_,e,_⟩:=ha;cases e);exact⟨rfl,rfl⟩
  | cons p eW ih =>
   cases ds with
   | nil=>cases(show _=_ from ha)
   | cons d0 ds =>
    obtain⟨v0,r,e2,h4,h5⟩:=ha
    simp only[ag,bS]at e2
    obtain⟨rfl,rfl⟩:=e2
    obtain⟨i1,i2⟩:=ih h5
    simp only[ag,ck]at i1 ⊢
    by_cases hk:p.1=k
    ·rw[au hk,au hk];exact⟨by rw[i1],_,_,rfl,hd,i2⟩
    ·rw[aq hk,aq hk];exact⟨by rw[i1],_,_,rfl,h4,i2⟩
 ·rw[aq q,aq q,bY,bY]
  exact⟨rfl,ha.app ⟨v,[],rfl,hd,rfl⟩⟩
def dNewT:De:=fun _ μ K=>K (.mr μ.length) (μ++[.dtu [] []])
theorem d_dnewT:PD X (.Dict [] [] pos) dNewT:=pe_dnewT.imp fun σ H Q hq p hp=>by
 obtain⟨φ,ρ,μ,K,A,M,k,L⟩:=hq
 obtain⟨M',f'⟩:=M.snoc (m:=.dtu [] []) (o:=.dT []) hp ⟨[],fA,rfl,rfl⟩
 exact L _ _ _ _ _ k f' M' ⟨p,by rw[gxG (by rw[M.len];exact ae _),M.len,aO];rfl,rfl⟩
def ixT (μ:MS)(j:Nat)(y:D):Option (Option D):=(dtuM μ j).bind fun q=>(keyT y).map fun k=>tval q.1 q.2 k
theorem ixT_ex {φ:List Addr}{H:Hp}{μ:MS}{j:Nat}{y:D}{o:Option D}{vx vy:V}(M:MSis φ H μ)(ix:DIs φ H (.mr j) vx)(iy:DIs φ H y vy)(h:ixT μ j y=some o) :
 ∃ p eW k b,vx=.ref p/\H p=some (.dT eW)/\vy=.ref b/\H b=some (.tup (k.map kV))/\((o=none/\valV eW k=none)\/∃ d v,o=some d/\valV eW k=some v/\DIs φ H d v):=by
 obtain⟨q,e1,e2⟩:=Option.bind_eq_some_iff.mp h
 obtain⟨k,e3,rfl⟩:=Option.map_eq_some_iff.mp e2
 obtain⟨p,hp,rfl⟩:=ix
 obtain⟨p',e4,eW,h1,h2,h3⟩:=M.at_ j _ (dtuM_eq e1)
 rw[hp]at e4;cases e4
 obtain⟨b,rfl,hb⟩:=keyT_is e3 iy
 refine⟨p,eW,k,b,rfl,h1,rfl,hb,?_⟩
 rw[<- h2]
 exact tval_rel k h3
def dIxT:DOp:=fun x y μ K=>match x with
 | .mr j=>∃ d,ixT μ j y=some (some d)/\K d μ
 | _=>False
theorem d_ixT {wa wb:De}(hu:X.A.units+1<cLine)(ha:PD X a wa)(hb:PD X b wb)(hs:NoSl b):PD X (.Subscript a b pos) (dOp dIxT wa wb):=(pe_dget hu ha hb hs).imp fun σ H Q hq=>by
 obtain⟨φ,ρ,μ,K,A,M,k,L⟩:=hq
 refine⟨φ,ρ,μ,_,A,M,k,fun d1 fB φ1 v1 H1 k1 f1 M1 i1=>?_⟩
 refine⟨φ1,ρ,fB,_,A.mono f1,M1,k1,fun d2 μ2 φ2 v2 H2 k2 f2 M2 i2=>?_⟩
 cases d1 with
 | mr j =>
  obtain⟨d,ex,k2⟩:=k2
  obtain⟨p,eW,k,b,rfl,h1,rfl,hb,z⟩:=ixT_ex M2 (i1.mono f2) i2 ex
  rcases z with⟨z,_⟩ | ⟨d',v,z,ev,iv⟩
  ·cases z
  ·cases z
   exact⟨p,v,rfl,by rw[<- ev];exact DGet.t h1 hb,L _ μ2 φ2 _ H2 k2 (f1.trans f2) M2 iv⟩
 | _=>exact k2.elim
def dNotInT:DOp:=fun x y μ K=>match y with
 | .mr j=>∃ o,ixT μ j x=some o/\K (.bl (!o.isSome)) μ
 | _=>False
theorem tD_notinT {wa wb:De}{σ:St}{H:Hp}{Q:VK}(h:tD (dOp dNotInT wa wb) σ H Q):tDNotIn (tD wa) (tD wb) σ H Q:=by
 obtain⟨φ,ρ,μ,K,A,M,k,L⟩:=h
 refine⟨φ,ρ,μ,_,A,M,k,fun d1 fB φ1 v1 H1 k1 f1 M1 i1=>?_⟩
 refine⟨φ1,ρ,fB,_,A.mono f1,M1,k1,fun d2 μ2 φ2 v2 H2 k2 f2 M2 i2=>?_⟩
 cases d2 with
 | mr j =>
  obtain⟨oo,ex,k2⟩:=k2
  obtain⟨p,eW,k,b,rfl,h1,rfl,hb,z⟩:=ixT_ex M2 i2 (i1.mono f2) ex
  refine⟨p,valV eW k,rfl,DGet.t h1 hb,?_⟩
  have es:(valV eW k).isSome=oo.isSome:=by
   rcases z with⟨g1,g2⟩ | ⟨d,v,g1,g2,_⟩
   ·rw[g1,g2];rfl
   ·rw[g1,g2];rfl
  rw[es]
  exact L _ μ2 φ2 _ H2 k2 (f1.trans f2) M2 rfl
 | _=>exact k2.elim
theorem t_notinT {wa wb:De}(hu:X.A.units+1<cLine)(ha:PD X a wa)(hb:PD X b wb)(hmk:behindInMarks .NotIn b=false):PDT X (.Compare a [.NotIn] [b] pos) (dTst (dOp dNotInT wa wb)):=(pt_cmp (pc_dnotin hu ha hb) hmk).imp fun σ H Q hq=>by
 obtain⟨φ,ρ,μ,K,E,M,k,L⟩:=hq
 refine tD_notinT ⟨φ,ρ,μ,_,E,M,k,fun d μ' φ' v H' k' f M' i=>?_⟩
 cases d with
 | bl b=>cases(show v=_ from i);exact⟨b,rfl,L b μ' φ' H' k' f M'⟩
 | _=>exact k'.elim
def dAsgT (w wo wi:De):Ds:=fun N ρ μ=>w ρ μ fun d fB=>wo ρ fB fun o μ2=>wi ρ μ2 fun i μ3=>match o with
 | .mr j=>∃ ks ds k,μ3[j]?=some (.dtu ks ds)/\ks.length<sizeLine/\keyT i=some k/\N.nx ρ (μ3.set j (.dtu (tput ks ds k d).1 (tput ks ds k d).2))
 | _=>False
theorem s_asgT {i:Expr}{w wo wi:De}{pos':Pos}(hu:X.A.units+1<cLine)(he:PD X e w)(ho:PD X o wo)(hi:PD X i wi)(hs:swapsWith e (some (.Subscript o i pos')) pos.line X.env=pure false:=by rfl) :
 PDS X (.Assign [.Subscript o i pos'] e pos) (dAsgT w wo wi):=(ps_dput hu ho hi he hs).imp fun E σ H hq=>by
 obtain⟨φ,ρ,μ,N,A,M,w,L⟩:=hq
 refine⟨φ,ρ,μ,_,A,M,w,fun d fB φ1 v1 H1 k1 f1 M1 i1=>?_⟩
 refine⟨φ1,ρ,fB,_,A.mono f1,M1,k1,fun d2 μ2 φ2 v2 H2 k2 f2 M2 i2=>?_⟩
 refine⟨φ2,ρ,μ2,_,A.mono (f1.trans f2),M2,k2,fun d3 μ3 φ3 v3 H3 k3 f3 M3 i3=>?_⟩
 cases d2 with
 | mr j =>
  obtain⟨ks,ds,k,em,hl,ek,k3⟩:=k3
  obtain⟨p,hp,rfl⟩:=i2.mono f3
  obtain⟨p',e1,eW,hv,h1,ha⟩:=M3.at_ j _ em
  rw[hp]at e1;cases e1
  obtain⟨b,rfl,hb⟩:=keyT_is ek i3
  have f4:Fr φ3 H3 φ3 (upd H3 p (.dT (putK eW k v1))):=.put (gxD hp)
  obtain⟨g1,g2⟩:=tput_rel (k:=k) ((i1.mono (f2.trans f3)).mono f4) (ha.mono f4)
  rw[h1]at g1 g2
  refine⟨p,_,rfl,DPut.t hv hb (by have:=cj List.length h1;rw[gxC]at this;omega),?_⟩
  exact L.nx ρ _ φ3 σ _ k3 ((f1.trans (f2.trans f3)).trans f4) (A.mono ((f1.trans (f2.trans f3)).trans f4)) (M3.put (k:=j) hp ⟨putK eW k v1,fA,g1,g2⟩)
 | _=>exact k3.elim
end
def nTk (es:List Int)(ts:List Tk)(a:Int)(i j:Nat):List Nat:=(List.range ts.length).filter fun x=>match ts[x]? with
 | some t=>decide (t.2<=a)&&decide (es.getD j 0<=farF es t.1 (es.getD i 0))
 | none=>false
def midP (T U:Nat->Nat->Int)(i j:Nat):List Nat:=((List.range (j - (i+1))).map (i+1+·)).filter fun k=>decide (U i k+U k j+1=T i j)
def ctP (es:List Int)(ts:List Tk):Nat->Nat->Nat->Int
 | 0,_,_=>0
 | a+1,i,j=>if fo es ts (a+1) i j=0 then((nTk es ts a i j).length:Nat)else((midP (fo es ts (a+1)) (fo es ts a) i j).map fun k=>ctP es ts a i k*ctP es ts a k j).sum
theorem mid_mem {T U:Nat->Nat->Int}{i j k:Nat}:k∈midP T U i j↔i<k/\k<j/\U i k+U k j+1=T i j:=by
 unfold midP
 rw[List.mem_filter,List.mem_map,aZ]
 constructor
 ·rintro⟨⟨x,hx,rfl⟩,h⟩
  rw[bX]at hx
  exact⟨by omega,by omega,h⟩
 ·rintro⟨h1,h2,h3⟩
  exact⟨⟨k - (i+1),List.mem_range.mpr (by omega),by omega⟩,h3⟩
theorem mid_len (T U:Nat->Nat->Int)(i j:Nat):(midP T U i j).length<=j - (i+1):=by
 unfold midP
 refine aL (cZ _ _) ?_
 rw[gxC,gxJ];exact ae _
theorem nTk_len (es:List Int)(ts:List Tk)(a:Int)(i j:Nat):(nTk es ts a i j).length<=ts.length:=by
 unfold nTk
 refine aL (cZ _ _) ?_
 rw[gxJ];exact ae _
theorem sum_le {f:Nat->Int}{B:Int}(hB:0<=B):∀ {l:List Nat},(∀ x∈l,0<=f x/\f x<=B)->0<=(l.map f).sum/\(l.map f).sum<=(l.length:Int)*B
 | [],_=>by simp
 | x::l,h=>by
  have h1:=h x (by simp)
  have h2:=sum_le hB (l:=l) fun y hy=>h y (by simp[hy])
  rw[ag,bR,aX]
  refine⟨by omega,?_⟩
  have e:(((l.length+1:Nat):Int))*B=(l.length:Int)*B+B:=by rw[Int.natCast_add,Int.add_mul];simp
  omega
theorem ct_bd {es:List Int}{ts:List Tk}(hL:es.length<=100)(ht:ts.length<=100):∀(a i j:Nat),i<j->j<es.length->0<=ctP es ts a i j/\ctP es ts a i j<=128 ^ (2*(j - i) - 1)
 | 0,i,j,_,_=>⟨by show(0:Int)<=0;omega,by show(0:Int)<=_;exact cM (Int.pow_pos (by omega))⟩
 | a+1,i,j,hij,hj=>by
  have hp:∀ n:Nat,(0:Int)<128 ^ n:=fun n=>Int.pow_pos (by omega)
  have e1:(128:Int) ^ (2*(j - i) - 1)=128 ^ (2*(j - i) - 2)*128:=by rw[<- Int.pow_succ,show(2*(j - i) - 2).succ=2*(j - i) - 1 by omega]
  have hq:=hp (2*(j - i) - 2)
  rw[e1]
  generalize hB:(128:Int) ^ (2*(j - i) - 2)=B at hq ⊢
  show 0<=(if fo es ts (a+1) i j=0 then(((nTk es ts a i j).length:Nat):Int)else _)/\(if fo es ts (a+1) i j=0 then(((nTk es ts a i j).length:Nat):Int)else _)<=_
  split
  ·have:=nTk_len es ts a i j
   refine⟨by omega,?_⟩
   omega
  ·have hm:=mid_len (fo es ts (a+1)) (fo es ts a) i j
   have key:∀ k∈midP (fo es ts (a+1)) (fo es ts a) i j,0<=ctP es ts a i k*ctP es ts a k j/\ctP es ts a i k*ctP es ts a k j<=B:=fun k hk=>by
    obtain⟨h1,h2,_⟩:=mid_mem.mp hk
    have b1:=ct_bd hL ht a i k h1 (by omega)
    have b2:=ct_bd hL ht a k j h2 hj
    refine⟨dZ b1.1 b2.1,?_⟩
    have:=Int.mul_le_mul b1.2 b2.2 b2.1 (cM (hp _))
    rw[<- Int.pow_add]at this
    rw[<- hB,show 2*(j - i) - 2=2*(k - i) - 1+(2*(j - k) - 1) by omega]
    exact this
   obtain⟨s1,s2⟩:=sum_le (cM hq) key
   refine⟨s1,b8 s2 ?_⟩
   rw[Int.mul_comm B]
   exact Int.mul_le_mul_of_nonneg_right (by omega) (cM hq)
theorem bits_of {x:Int}{d:Nat}(h0:0<=x)(h:x<=128 ^ d)(hd:d<=2000):Builtin.Int.intBits x<=2 ^ 20:=by
 refine intBits_le_iff.mpr ?_
 have e:(128:Int) ^ d=((2 ^ (7*d):Nat):Int):=by rw[Nat.pow_mul];norm_cast
 have h1:x.natAbs<=2 ^ (7*d):=by omega
 refine cF h1 (Nat.pow_lt_pow_right (by omega) ?_)
 have:(2:Nat) ^ 20=1048576:=by decide
 omega
theorem ct_mul {es:List Int}{ts:List Tk}(hL:es.length<=100)(ht:ts.length<=100)(a i k j:Nat)(h1:i<k)(h2:k<j)(hj:j<es.length):IntMulOk (ctP es ts a i k) (ctP es ts a k j):=by
 have b1:=ct_bd hL ht a i k h1 (by omega)
 have b2:=ct_bd hL ht a k j h2 hj
 exact .of_bits (bits_of b1.1 b1.2 (by omega)) (bits_of b2.1 b2.2 (by omega))
section
variable {X:Cx}
theorem mulB:OpR X (binaryOp .Mult) (rI IntMulOk fun i j=>.int (i*j)):=opI fun _ _ _ _ _ _ _ hc q=>mul_int q hc
end
def dMulB:DOp:=fun x y μ K=>match x,y with
 | .int i,.int j=>IntMulOk i j/\K (.int (i*j)) μ
 | _,_=>False
theorem so_mulB:SoOp (rI IntMulOk fun i j=>.int (i*j)) dMulB:=fun φ H x y dx dy μ K Q M hx hy k L=>by
 unfold dMulB at k
 split at k
 ·cases(show x=_ from hx);cases(show y=_ from hy);exact⟨_,_,rfl,rfl,k.1,L.val M k.2 rfl⟩
 ·exact k.elim
def stD (a:Int)(i j:Nat):D:=.tup [.int a,.int i,.int j]
def stK (a i j:Nat):List Key:=[.inl (a:Int),.inl (i:Int),.inl (j:Int)]
theorem stK_inj {a i j b k l:Nat}(h:stK a i j=stK b k l):a=b/\i=k/\j=l:=by
 unfold stK at h
 simp only[bS,Sum.inl.injEq,and_true]at h
 omega
def bmN:List Str:=["places", "rows", "tables", "whole", "counts"]
def bmV (es:List Int)(ts:List Tk)(A j:Nat):List D:=[.lst (es.map D.int),.lst (ts.map (rowTD es)),.dic (keysD (A+1)) (tabsD es ts (A+1)),stD A 0 (es.length - 1),.mr j]
inductive Memo (es:List Int)(ts:List Tk)(A:Nat):List (List Key)->List D->Prop
 | nil:Memo es ts A [] []
 | add {ks:List (List Key)} {ds:List D} (h:Memo es ts A ks ds) {a i j:Nat} (ha:a<=A) (hi:i<es.length) (hj:j<es.length) (hn:stK a i j∉ks):Memo es ts A (ks++[stK a i j]) (ds++[.int (ctP es ts (a+1) i j)])
theorem Memo.len {es:List Int}{ts:List Tk}{A:Nat}{ks:List (List Key)}{ds:List D}(h:Memo es ts A ks ds):ds.length=ks.length:=by
 induction h with
 | nil=>rfl
 | add h ha hi hj hn ih=>simp[ih]
theorem tval_app {ks ks':List (List Key)}{ds ds':List D}(k:List Key)(hl:ds.length=ks.length):tval (ks++ks') (ds++ds') k=match tval ks ds k with | some d=>some d | none=>tval ks' ds' k:=by
 induction ks generalizing ds with
 | nil=>cases ds with
  | nil=>rfl
  | cons _ _=>cases hl
 | cons k0 ks ih =>
  cases ds with
  | nil=>cases hl
  | cons d ds =>
   simp only[dc,tval]
   by_cases h:k0=k
   ·rw[au h,au h]
   ·rw[aq h,aq h];exact ih (by simpa using hl)
theorem Memo.get {es:List Int}{ts:List Tk}{A:Nat}{ks:List (List Key)}{ds:List D}(h:Memo es ts A ks ds)(a i j:Nat):(stK a i j∉ks/\tval ks ds (stK a i j)=none)\/(stK a i j∈ks/\tval ks ds (stK a i j)=some (.int (ctP es ts (a+1) i j))):=by
 induction h with
 | nil=>exact .inl ⟨by simp,rfl⟩
 | @add ks ds h b k l ha hi hj hn ih =>
  rw[tval_app _ h.len]
  rcases ih with⟨h1,h2⟩ | ⟨h1,h2⟩
  ·rw[h2]
   by_cases e:stK b k l=stK a i j
   ·obtain⟨rfl,rfl,rfl⟩:=stK_inj e
    right
    exact⟨by simp,by simp[tval]⟩
   ·left
    refine⟨fun z=>?_,by simp only[tval];rw[aq e]⟩
    rcases List.mem_append.mp z with z | z
    ·exact h1 z
    ·exact e (List.mem_singleton.mp z).symm
  ·rw[h2];right;exact⟨c6 _ h1,rfl⟩
def stN (L a i j:Nat):Nat:=(a*L+i)*L+j
theorem nodup_bd:∀(N:Nat) (l:List Nat),l.Nodup->(∀ x∈l,x<N)->l.length<=N
 | 0,l,_,h=>by
  cases l with
  | nil=>exact ae _
  | cons x l=>exact absurd (h x (by simp)) (Nat.not_lt_zero _)
 | N+1,l,nd,h=>by
  have h1:=nodup_bd N (l.filter fun x=>decide (x≠N)) (nd.sublist List.filter_sublist) fun x hx=>by
   rw[List.mem_filter,aZ]at hx
   have:=h x hx.1;omega
  have h2:l.length<=(l.filter fun x=>decide (x≠N)).length+1:=by
   clear h1 h
   induction l with
   | nil=>simp
   | cons x l ih =>
    rw[List.nodup_cons]at nd
    rw[eK]
    by_cases e:x=N
    ·subst e
     have:l.filter (fun y=>decide (y≠x))=l:=List.filter_eq_self.mpr fun y hy=>by
      rw[aZ];rintro rfl;exact nd.1 hy
     rw[aq (by simp),this,aX]
     omega
    ·rw[au (by simp[e]),aX,aX]
     have:=ih nd.2;omega
  omega
theorem Memo.codes {es:List Int}{ts:List Tk}{A:Nat}{ks:List (List Key)}{ds:List D}(h:Memo es ts A ks ds):∃ cs:List (Nat×Nat×Nat),cs.Nodup/\(∀ c∈cs,c.1<=A/\c.2.1<es.length/\c.2.2<es.length)/\ks=cs.map fun c=>stK c.1 c.2.1 c.2.2:=by
 induction h with
 | nil=>exact⟨[],by simp,by simp,rfl⟩
 | @add ks ds h a i j ha hi hj hn ih =>
  obtain⟨cs,h1,h2,rfl⟩:=ih
  refine⟨cs++[(a,i,j)],?_,?_,by simp⟩
  ·rw[dX]
   refine⟨h1,by simp,fun x hx y hy=>?_⟩
   rw[List.mem_singleton.mp hy]
   rintro rfl
   exact hn (List.mem_map.mpr ⟨_,hx,rfl⟩)
  ·intro c hc
   rcases List.mem_append.mp hc with hc | hc
   ·exact h2 c hc
   ·rw[List.mem_singleton.mp hc];exact⟨ha,hi,hj⟩
theorem stN_lt {L a i j A:Nat}(ha:a<=A)(hi:i<L)(hj:j<L):stN L a i j<(A+1)*L*L:=by
 unfold stN
 have h1:a*L+i<(A+1)*L:=by
  have:(a+1)*L<=(A+1)*L:=Nat.mul_le_mul_right L (by omega)
  rw[Nat.add_mul]at this;omega
 have h2:(a*L+i+1)*L<=(A+1)*L*L:=Nat.mul_le_mul_right L h1
 rw[Nat.add_mul]at h2;omega
theorem two_inj {L x y x' y':Nat}(hy:y<L)(hy':y'<L)(h:x*L+y=x'*L+y'):x=x'/\y=y':=by
 have hL:0<L:=by omega
 have q:∀ u v:Nat,v<L->(u*L+v) / L=u:=fun u v hv=>by rw[Nat.mul_comm,Nat.mul_add_div hL,Nat.div_eq_of_lt hv,Nat.add_zero]
 have e:x=x':=by rw[<- q x y hy,h,q x' y' hy']
 subst e
 exact⟨rfl,by omega⟩
theorem stN_inj {L a i j b k l:Nat}(hi:i<L)(hj:j<L)(hk:k<L)(hl:l<L)(h:stN L a i j=stN L b k l):a=b/\i=k/\j=l:=by
 obtain⟨h1,h2⟩:=two_inj hj hl h
 obtain⟨h3,h4⟩:=two_inj hi hk h1
 exact⟨h3,h4,h2⟩
theorem Memo.bd {es:List Int}{ts:List Tk}{A:Nat}{ks:List (List Key)}{ds:List D}(h:Memo es ts A ks ds):ks.length<=(A+1)*es.length*es.length:=by
 obtain⟨cs,h1,h2,rfl⟩:=h.codes
 rw[gxC]
 have:=nodup_bd ((A+1)*es.length*es.length) (cs.map fun c=>stN es.length c.1 c.2.1 c.2.2) ?_ ?_
 ·rwa [gxC]at this
 ·refine List.pairwise_map.mpr (List.Pairwise.imp_of_mem (fun {x y} hx hy ne e=>ne ?_) h1)
  obtain⟨x1,x2,x3⟩:=h2 _ hx
  obtain⟨y1,y2,y3⟩:=h2 _ hy
  obtain⟨e1,e2,e3⟩:=stN_inj x2 x3 y2 y3 e
  exact Prod.ext e1 (Prod.ext e2 e3)
 ·intro x hx
  obtain⟨c,hc,rfl⟩:=List.mem_map.mp hx
  obtain⟨a1,a2,a3⟩:=h2 c hc
  exact stN_lt a1 a2 a3
structure Bm (C:Addr)(μ:MS)(k:Nat)(es:List Int)(ts:List Tk)(A j a i b:Nat):Prop where
 at_:μ[k]?=some (.ins C bmN (bmV es ts A j))
 ha:a<=A
 hib:i<b
 hb:b<es.length
 hl:es.length<=100
 ht:ts.length<=100
 hA:A<=100
 ok:fo es ts (a+1) i b<(es.length:Int) - 1
theorem fldE {C:Addr}{μ:MS}{k:Nat}{ns:List Str}{ds:List D}{f:Str}{d:D}(h:μ[k]?=some (.ins C ns ds))(e:lookN f ns ds=some d):(insM C μ k).bind (fun q=>lookN f q.1 q.2)=some d:=by rw[insM_of h];exact e
theorem metE {C:Addr}{μ:MS}{k:Nat}{ns:List Str}{ds:List D}{f:Str}(h:μ[k]?=some (.ins C ns ds))(e:lookN f ns ds=none):(insM C μ k).map (fun q=>lookN f q.1 q.2)=some none:=by rw[insM_of h];exact cj some e
section
variable {es:List Int}{ts:List Tk}{A j:Nat}
theorem bm_places:lookN "places" bmN (bmV es ts A j)=some (.lst (es.map D.int)):=by kernel_rfl
theorem bm_rows:lookN "rows" bmN (bmV es ts A j)=some (.lst (ts.map (rowTD es))):=by kernel_rfl
theorem bm_tables:lookN "tables" bmN (bmV es ts A j)=some (.dic (keysD (A+1)) (tabsD es ts (A+1))):=by kernel_rfl
theorem bm_whole:lookN "whole" bmN (bmV es ts A j)=some (stD A 0 (es.length - 1)):=by kernel_rfl
theorem bm_counts:lookN "counts" bmN (bmV es ts A j)=some (.mr j):=by kernel_rfl
theorem bm_m {f:Str}(h:f∈([("is_take" : Str), "clean_takes", "halves", "counted", "count_anew", "numbered", "rank"]:List Str)):lookN f bmN (bmV es ts A j)=none:=by
 simp only[aH,aw,bz]at h
 rcases h with rfl | rfl | rfl | rfl | rfl | rfl | rfl <;> kernel_rfl
theorem tabs_at {a:Nat}(ha:a<=A):dval ((keysD (A+1)).zip (tabsD es ts (A+1))) (.inl (a:Int))=some (.lst (tabR es.length (fo es ts (a+1)))) :=
 dval_at (xs:=List.range (A+1)) (k:=a) (fun k=>D.lst (tabR es.length (fo es ts (k+1)))) (List.mem_range.mpr (by omega))
theorem tab_at {T:Nat->Nat->Int}{L i:Nat}(h:i<L):atI (tabR L T) (i:Int)=some (.lst (rowI L (T i))):=atI_nat (tabR_get h)
theorem row_at {f:Nat->Int}{L i:Nat}(h:i<L):atI (rowI L f) (i:Int)=some (.int (f i)):=atI_nat (rowI_get h)
end
def fIsTake (C:Addr):DSp:=fun ds μ K=>match ds with
 | [.mr k,s]=>∃(es:List Int) (ts:List Tk) (A j a i b:Nat),Bm C μ k es ts A j a i b/\s=stD a i b/\K (.bl (decide (fo es ts (a+1) i b=0))) μ
 | _=>False
def fCleanT (C:Addr):DSp:=fun ds μ K=>match ds with
 | [.mr k,s]=>∃(es:List Int) (ts:List Tk) (A j a i b:Nat),Bm C μ k es ts A j a i b/\s=stD a i b/\K (.lst ((nTk es ts a i b).map fun x=>.int (x:Nat))) μ
 | _=>False
def halfD (es:List Int)(a i b k:Nat):D:=.tup [.int (es.getD k 0),stD ((a:Int) - 1) i k,stD ((a:Int) - 1) k b]
def fHalves (C:Addr):DSp:=fun ds μ K=>match ds with
 | [.mr k,s]=>∃(es:List Int) (ts:List Tk) (A j a i b:Nat),Bm C μ k es ts A j a i b/\s=stD a i b/\1<=a/\K (.lst ((midP (fo es ts (a+1)) (fo es ts a) i b).map (halfD es a i b))) μ
 | _=>False
structure TbOk (es:List Int)(ts:List Tk):Prop where
 nn:∀ a x y,x<es.length->y<es.length->0<=fo es ts a x y
 z:∀ x y,x<es.length->y<es.length->fo es ts 1 x y<(es.length:Int) - 1->fo es ts 1 x y=0
def fCnt (C:Addr)(n:Nat):DSp:=fun ds μ K=>match ds with
 | [.mr k,s]=>∃(es:List Int) (ts:List Tk) (A j a i b:Nat) (ks:List (List Key)) (dd:List D),Bm C μ k es ts A j a i b/\s=stD a i b/\a<n/\TbOk es ts/\k≠j/\μ[j]?=some (.dtu ks dd)/\Memo es ts A ks dd /\
  ∀ ks' dd',Memo es ts A ks' dd'->K (.int (ctP es ts (a+1) i b)) (μ.set j (.dtu ks' dd'))
 | _=>False
theorem Bm.put {C:Addr}{μ:MS}{k:Nat}{es:List Int}{ts:List Tk}{A j a i b:Nat}{m:MO}(h:Bm C μ k es ts A j a i b)(hk:k≠j):Bm C (μ.set j m) k es ts A j a i b:=⟨by rw[aG (aY hk)];exact h.at_,h.ha,h.hib,h.hb,h.hl,h.ht,h.hA,h.ok⟩
theorem FnOk.never {P:Program}{w:World}{K:PySem.W.Frag}{mg:Str->Option Value}{base:Heap}{CX:CXT}{k:Nat}{f:Addr}{fd:FuncData}{ps:List Str}{sp:Sp}(h:∀ vs H Q E,¬ sp vs H Q E):FnOk P w K mg base CX k f fd ps sp :=
 ⟨fun vs H Q E q=>(h vs H Q E q).elim,fun A outer s H args us vs Q E _ _ _ _ q=>(h vs H Q E q).elim⟩
theorem fCnt_zero {C:Addr}(vs:List V)(H:Hp)(Q:VK)(E:XK):¬ spD (fCnt C 0) vs H Q E:=fun h=>by
 obtain⟨φ,ds,μ,K,_,_,h,_⟩:=h
 unfold fCnt at h
 split at h
 ·obtain⟨es,ts,A,j,a,i,b,ks,dd,_,_,h,_⟩:=h;omega
 ·exact h
def fInit (C:Addr):DSp:=fun ds μ K=>match ds with
 | [.mr k,.int n,.lst x,.lst y]=>∃(cs:List Int) (ts:List Tk),x=cs.map D.int/\y=ts.map tkD/\Shelf n cs ts/\cs.length<=60/\barOf (eM n cs) ts=none/\μ[k]?=some (.ins C [] []) /\
  ∀ A:Nat,A<=66->LeastIs (eM n cs) ts n A->K .non (μ.set k (.ins C bmN (bmV (eM n cs) ts A μ.length))++[.dtu [] []])
 | _=>False
def cntK (es:List Int)(ts:List Tk)(n:Int)(μ:MS)(K:DK):Prop:=match barOf es ts with
 | some _=>K (.int 0) μ
 | none=>∀ a:Nat,a<=66->LeastIs es ts n a->K (.int (ctP es ts (a+1) 0 (es.length - 1))) μ
def fCountBest:DSp:=fun ds μ K=>match ds with
 | [.int n,.lst x,.lst y]=>∃(cs:List Int) (ts:List Tk),x=cs.map D.int/\y=ts.map tkD/\Shelf n cs ts/\cs.length<=60/\cntK (eM n cs) ts n μ K
 | _=>False
theorem tab1_zero {n:Int}{cs:List Int}{ts:List Tk}(S:Shelf n cs ts)(x y:Nat)(hx:x<(eM n cs).length)(hy:y<(eM n cs).length)(h:fo (eM n cs) ts 1 x y<((eM n cs).length:Int) - 1):fo (eM n cs) ts 1 x y=0:=by
 have s0:=sideT S 0
 have s1:=sideT S 1 x y hx hy
 by_cases q:y<=x
 ·exact s1.1 q
 ·rcases s1.2 (by omega)with⟨_,e⟩ | ⟨g1,g2,g3⟩
  ·omega
  ·rw[g3]
   have:tabL (eM n cs) ts 1 x y<=1:=by
    show stepL (eM n cs) (ownR (eM n cs) ts (0:Nat)) (tabL (eM n cs) ts 0) x y<=1
    unfold stepL
    split
    ·omega
    ·split
     ·omega
     ·have:candL (tabL (eM n cs) ts 0) x y=[]:=List.eq_nil_iff_forall_not_mem.mpr fun v hv=>by
       obtain⟨k,_,_,z,_⟩:=cand_mem.mp hv
       exact absurd z (by show ¬ (0:Int)<0*0;omega)
      rw[this];show(0:Int)<=1;omega
   omega
theorem fm_if {α:Type}(p:α->Bool)(f:α->D):∀ xs:List α,xs.filterMap (fun x=>if p x=true then some (f x)else none)=(xs.filter p).map f
 | []=>rfl
 | x::xs=>by
  rw[b9,eK]
  by_cases h:p x=true
  ·rw[au h,au h];show _::_=_;rw[fm_if p f xs];rfl
  ·rw[aq h,aq h];exact fm_if p f xs
theorem enum_range (ds:List D):enumD ds=(List.range ds.length).map fun x=>D.tup [.int (x:Nat),ds.getD x .non]:=by
 apply cw
 intro i
 rw[gxH]
 by_cases h:i<ds.length
 ·rw[bF h]
  unfold enumD
  rw[bx,bF h,gxA h]
  simp[af,gxA h]
 ·rw[List.getElem?_eq_none (by rw[enumD_len];omega),List.getElem?_eq_none (by rw[gxJ];omega)];rfl
theorem rng_map (i:Int)(n:Nat):rngD i n=(List.range n).map fun x=>D.int (i+(x:Nat)):=rfl
theorem rowTD_at {es:List Int}{ts:List Tk}{x:Nat}{t:Tk}(h:ts[x]?=some t):(ts.map (rowTD es)).getD x .non=rowTD es t:=by rw[af,gxH,h];rfl
theorem tb_ok {n:Int}{cs:List Int}{ts:List Tk}(S:Shelf n cs ts):TbOk (eM n cs) ts:=by
 refine⟨fun a x y hx hy=>?_,fun x y hx hy h=>tab1_zero S x y hx hy h⟩
 have s:=sideT S a x y hx hy
 by_cases q:y<=x
 ·rw[s.1 q];omega
 ·rcases s.2 (by omega)with⟨_,e⟩ | ⟨_,_,e⟩<;> omega
theorem half_eq (es:List Int)(a i b:Nat):halfD es (a+1) i b=fun k=>D.tup [.int (es.getD k 0),stD a i k,stD a k b]:=by
 funext k
 unfold halfD
 rw[show((a+1:Nat):Int) - 1=(a:Int) by omega]
theorem sum_snoc {f:Nat->Int}{M:List Nat}{z:Nat}(h:z<M.length):((M.take (z+1)).map f).sum=((M.take z).map f).sum+f M[z]:=by
 rw[List.take_succ,gxA h,bY,List.sum_append]
 simp
theorem mid_filter (T U:Nat->Nat->Int)(i b:Nat):midP T U i b=((List.range (b - (i+1))).filter fun x=>decide (U i (i+1+x)+U (i+1+x) b+1=T i b)).map (i+1+·):=by
 unfold midP
 rw[List.filter_map];rfl
theorem Memo.same {es:List Int}{ts:List Tk}{A:Nat}{ks:List (List Key)}{ds:List D}(h:Memo es ts A ks ds)(a i b:Nat):∀ p∈ks.zip ds,p.1=stK a i b->p.2=.int (ctP es ts (a+1) i b):=by
 induction h with
 | nil=>intro p hp;cases hp
 | @add ks ds h b' k' l' ha hi hj hn ih =>
  intro p hp e
  rw[List.zip_append h.len.symm]at hp
  rcases List.mem_append.mp hp with hp | hp
  ·exact ih p hp e
  ·simp only[ck,List.zip_nil_right,List.mem_singleton]at hp
   subst hp
   obtain⟨rfl,rfl,rfl⟩:=stK_inj e
   rfl
theorem Memo.put {es:List Int}{ts:List Tk}{A:Nat}{ks:List (List Key)}{ds:List D}(h:Memo es ts A ks ds){a i b:Nat}(ha:a<=A)(hi:i<es.length)(hb:b<es.length) :
 Memo es ts A (tput ks ds (stK a i b) (.int (ctP es ts (a+1) i b))).1 (tput ks ds (stK a i b) (.int (ctP es ts (a+1) i b))).2/\stK a i b∈(tput ks ds (stK a i b) (.int (ctP es ts (a+1) i b))).1:=by
 have em:(ks.any fun x=>decide (x=stK a i b))=true↔stK a i b∈ks:=by simp only[List.any_eq_true,aZ];exact⟨fun hq6=>by obtain⟨x,h1,h2⟩:=hq6;exact h2▸h1,fun h=>⟨_,h,rfl⟩⟩
 unfold tput
 by_cases q:stK a i b∈ks
 ·rw[au (em.mpr q)]
  refine⟨?_,q⟩
  have e:(ks.zip ds).map (fun p=>if p.1=stK a i b then D.int (ctP es ts (a+1) i b)else p.2)=ds:=by
   have e1:(ks.zip ds).map (fun p=>if p.1=stK a i b then D.int (ctP es ts (a+1) i b)else p.2)=(ks.zip ds).map (·.2):=bN fun p hp=>by
    by_cases z:p.1=stK a i b
    ·rw[au z,h.same a i b p hp z]
    ·rw[aq z]
   rw[e1,List.map_snd_zip (by rw[h.len];exact ae _)]
  rw[e];exact h
 ·rw[aq fun z=>q (em.mp z)]
  exact⟨h.add ha hi hb q,by simp⟩
section
variable {X:Cx}
def rEqA (neg:Bool):R2:=fun x y H Q=>match x,y with
 | .non,.non=>Q (.bl (neg != true)) H
 | .int i,.int j=>Q (.bl (neg != decide (i=j))) H
 | _,_=>False
theorem neA:OpR X (compareOp .NotEq) (rEqA true):=op_ne.imp fun x y H Q q=>by
 unfold rEqA at q
 split at q
 ·exact⟨rfl,q⟩
 ·rename_i i j
  refine⟨rfl,?_⟩
  rw[show(!decide (V.int i=V.int j))=(true != decide (i=j)) by by_cases h:i=j <;> simp[h]]
  exact q
 ·exact q.elim
end
def eqAt2:D->D->Option Bool
 | .non,.non=>some true
 | .int i,.int j=>some (decide (i=j))
 | _,_=>none
def dEqA (neg:Bool):DOp:=fun x y μ K=>∃ b,eqAt2 x y=some b/\K (.bl (neg != b)) μ
theorem so_eqA {neg:Bool}:SoOp (rEqA neg) (dEqA neg):=fun φ H x y dx dy μ K Q M hx hy k L=>by
 obtain⟨b,e,k⟩:=k
 unfold eqAt2 at e
 split at e
 ·cases e;cases(show x=_ from hx);cases(show y=_ from hy);exact L.val M k rfl
 ·cases e;cases(show x=_ from hx);cases(show y=_ from hy);exact L.val M k rfl
 ·cases e
inductive LeastD (es:List Int)(ts:List Tk)(n:Int):D->Prop
 | no (h:barOf es ts≠none):LeastD es ts n .non
 | yes (a:Nat) (ha:a<=66) (hb:barOf es ts=none) (h:LeastIs es ts n a):LeastD es ts n (.int a)
theorem leastK_all {es:List Int}{ts:List Tk}{n:Int}{μ:MS}{K:DK}(h:∀ d,LeastD es ts n d->K d μ):leastK es ts n μ K:=by
 unfold leastK
 cases hb:barOf es ts with
 | some p=>exact h _ (.no (by rw[hb];simp))
 | none=>exact fun a ha la=>h _ (.yes a ha hb la)
theorem LeastD.eq {d:D}{es:List Int}{ts:List Tk}{n:Int}(h:LeastD es ts n d):eqAt2 d d=some true:=by
 cases h with
 | no h=>rfl
 | yes a _ _ _=>show some (decide ((a:Int)=a))=_;rw[aE rfl]
inductive CntD (es:List Int)(ts:List Tk)(n:Int):Int->Prop
 | no (h:barOf es ts≠none):CntD es ts n 0
 | yes (a:Nat) (ha:a<=66) (hb:barOf es ts=none) (h:LeastIs es ts n a):CntD es ts n (ctP es ts (a+1) 0 (es.length - 1))
theorem cntK_all {es:List Int}{ts:List Tk}{n:Int}{μ:MS}{K:DK}(h:∀ c,CntD es ts n c->K (.int c) μ):cntK es ts n μ K:=by
 unfold cntK
 cases hb:barOf es ts with
 | some p=>exact h _ (.no (by rw[hb];simp))
 | none=>exact fun a ha la=>h _ (.yes a ha hb la)
theorem few_eq (x:Int)(L:Nat):eqAt2 (fewK x L) (fewK x L)=some true:=by
 unfold fewK
 split
 ·show some (decide (x=x))=_;rw[aE rfl]
 ·rfl
abbrev At (g:Heap)(b:Addr):Prop:=∃ u,g.get? b=some u
structure Kp (g:Heap)(l:List Env)(h h':Heap):Prop where
 other:∀ b o,h.get? b=some o->At g b->b∉frs l->h'.get? b=some o
 slot:∀ b o,h.get? b=some o->At g b->b∈frs l->∃ sl,h'.get? b=some { o with slots:=sl}
theorem Kp.trans {g:Heap}{l:List Env}{h1 h2 h3:Heap}(a:Kp g l h1 h2)(b:Kp g l h2 h3):Kp g l h1 h3 :=
 ⟨fun c o q lt hc=>b.other c o (a.other c o q lt hc) lt hc,fun c o q lt hc=>by
  obtain⟨sl,e⟩:=a.slot c o q lt hc
  obtain⟨sl',e'⟩:=b.slot c _ e lt hc
  exact⟨sl',e'⟩⟩
theorem Kp.any {g:Heap}{l:List Env}{h h':Heap}(a:Kp g l h h'){b:Addr}{o:Obj}(q:h.get? b=some o)(lt:At g b):∃ sl,h'.get? b=some { o with slots:=sl}:=by
 by_cases hb:b∈frs l
 ·exact a.slot b o q lt hb
 ·exact⟨o.slots,a.other b o q lt hb⟩
theorem Kp.of {g:Heap}{l:List Env}{h h':Heap}(k:∀ b o,h.get? b=some o->At g b->h'.get? b=some o):Kp g l h h':=⟨fun b o q lt _=>k b o q lt,fun b o q lt _=>⟨o.slots,k b o q lt⟩⟩
abbrev Gk (g h:Heap):Prop:=∀ b,At g b->At h b
theorem Kp.gk {g:Heap}{l:List Env}{h h':Heap}(a:Kp g l h h')(k:Gk g h):Gk g h':=fun b hb=>by
 obtain⟨o,e⟩:=k b hb
 obtain⟨sl,e'⟩:=a.any e hb
 exact⟨_,e'⟩
theorem Gk.fresh {g h:Heap}(k:Gk g h):g.get? h.objs.size=none:=by
 cases q:g.get? h.objs.size with
 | none=>rfl
 | some o=>obtain⟨o',e⟩:=k _ ⟨o,q⟩;exact absurd (gxN e) (bQ _)
theorem at_ne {g:Heap}{b c:Addr}(h:At g b)(hc:g.get? c=none):c≠b:=fun z=>by obtain⟨u,e⟩:=h;rw[<- z,hc]at e;cases e
def ExAt (g:Heap)(e:Addr)(cls fl:Value)(h:Heap):Prop:=∃(oe:Obj) (vs:Array Value) (T:Addr) (oT:Obj) (ts:Array Value),(h.get? e=some oe/\(oe.cls=cls/\oe.dict=none)/\oe.data=.fields vs/\vs[1]?=some (.ref T)/\vs[2]?=some .none)/\(g.get? T=none/\T≠e/\h.get? T=some oT/\oT.data=.fields ts/\ts[3]?=some fl)/\g.get? e=none
section
variable {M:Model}{A:Around}{E:Value->Shared->Prop}{s:Shared}
theorem entry_new {base:Heap}{env:Env}{outer:List Env}{L e:Addr}{oe:Obj}{vs:Array Value}{head:Value}{hadNext:Bool}{g:Heap}{Q:Unit->Shared->Prop}
 (hfr:A.frames=some (env::outer)) (hl:s.heap.FunFrames base (env::outer)) (hf:env.frame=some L) (he:s.heap.get? e=some oe) (hdi:oe.dict=none) (hd:oe.data=.fields vs) (h1:1<vs.size) (h2:vs[2]?=some .none) (hn:g.get? e=none) (hs:Gk g s.heap)
 (h:∀ h',ExAt g e oe.cls (rawInt L) h'->Kp g (env::outer) s.heap h'->Q () { s with heap:=h'}) :
 wpAny M A (do let a <- frameOf env;let pl <- entryPlaceOf L hadNext;let b <- EntryCells.newEntry head a .none (rawInt L) .none pl;setField (.ref e) 1 b) Q E s:=by
 have hene:e∉(env::outer).filterMap (·.frame):=fun hm=>by
  obtain⟨_,o,ho,hnf⟩:=hl.mem hm
  rw[he]at ho;injection ho with ho;subst ho;exact hnf vs hd
 refine e9 (wpAny_frameOf_fun hfr hl hf fun m x=>?_)
 refine e9 (wpAny_entryPlaceOf fun pl hpl=>?_)
 unfold EntryCells.newEntry newFields
 refine e9 (cL ?_ (hpl.sizeOk5 _ _ _ _ _))
 obtain⟨rec,hrec⟩:∃ rec:Obj,rec={ cls:=.type "traceback",dict:=none,data:=.fields ([head,.ref L,.none,rawInt L,.none]++(if pl.isEmpty then List.replicate 6 Value.none else pl)).toArray}:=⟨_,rfl⟩
 rw[<- hrec]
 have e1:m.get? e=some oe:=(x.2.1 e hene).trans he
 have e2:=gxL rec e1
 have hT:(m.push rec).get? m.objs.size=some rec:=ak m (by rw[hrec];rfl)
 have hTe:m.objs.size≠e:=aU (gxN e1)
 have hd3:=dt hd (·.setIfInBounds 1 (Value.ref m.objs.size))
 have e3:=bc (Obj.mapFields (·.setIfInBounds 1 (Value.ref m.objs.size))) e2 (eF hd3)
 refine cR e2 hd h1 (h _ ⟨_,_,m.objs.size,rec,_,⟨e3,⟨Obj.cls_mapFields _ _,by show(Obj.mapFields _ oe).dict=none;unfold Obj.mapFields;split <;> exact hdi⟩,hd3,by simp[h1],by rw[Array.getElem?_setIfInBounds_ne (by decide)];exact h2⟩,⟨by rw[x.1];exact hs.fresh,hTe,?_,by rw[hrec],?_⟩,hn⟩ ⟨fun b o q lt hb=>?_,fun b o q lt hb=>?_⟩)
 ·rw[aI _ _ (aY hTe)];exact hT
 ·first | (simp;done) | (rcases hpl with rfl | ⟨_,_,_,_,_,_,_,rfl⟩<;> simp)
 ·rw[aI _ _ (at_ne lt hn)]
  exact gxL _ ((x.2.1 b hb).trans q)
 ·obtain⟨sl,q'⟩:=x.2.2 b o q
  exact⟨sl,by rw[aI _ _ (at_ne lt hn)];exact gxL _ q'⟩
theorem note_first {base:Heap}{env:Env}{outer:List Env}{L e:Addr}{oe:Obj}{vs:Array Value}{g:Heap}{Q:Unit->Shared->Prop}
 (hfr:A.frames=some (env::outer)) (hl:s.heap.FunFrames base (env::outer)) (hf:env.frame=some L) (he:s.heap.get? e=some oe) (hdi:oe.dict=none) (hd:oe.data=.fields vs) (h1:vs[1]?=some .none) (h2:vs[2]?=some .none) (hn:g.get? e=none) (hs:Gk g s.heap)
 (h:∀ h',ExAt g e oe.cls (rawInt L) h'->Kp g (env::outer) s.heap h'->Q () { s with heap:=h'}):wpAny M A (noteFrame (.ref e) env) Q E s:=by
 unfold noteFrame
 simp only[hf]
 refine e9 (aA he hd h1 ?_)
 rw[aq (by decide)]
 exact entry_new hfr hl hf he hdi hd (Array.getElem?_eq_some_iff.mp h1).1 h2 hn hs h
theorem note_next {base:Heap}{env:Env}{outer:List Env}{L e:Addr}{cls:Value}{g:Heap}{Q:Unit->Shared->Prop}
 (hfr:A.frames=some (env::outer)) (hl:s.heap.FunFrames base (env::outer)) (hf:env.frame=some L) (hs:Gk g s.heap) (x:ExAt g e cls .none s.heap)
 (h:∀ h',ExAt g e cls (rawInt L) h'->Kp g (env::outer) s.heap h'->Q () { s with heap:=h'}):wpAny M A (noteFrame (.ref e) env) Q E s:=by
 obtain⟨oe,vs,T,oT,ts,⟨he,hc,hd,h1,h2⟩,⟨hn,hTe,hT,hdT,h3⟩,hne⟩:=x
 unfold noteFrame
 simp only[hf]
 refine e9 (aA he hd h1 ?_)
 rw[au (show(Value.ref T != Value.none)=true from by simp)]
 refine e9 (aA hT hdT h3 ?_)
 rw[aq (show ¬ ((Value.none==rawInt L)=true)from by simp[rawInt])]
 refine e9 (cR hT hdT (Array.getElem?_eq_some_iff.mp h3).1 ?_)
 have other:∀ b,b≠T->(s.heap.update T (Obj.mapFields (·.setIfInBounds 3 Value.none))).get? b=s.heap.get? b:=fun b hb=>aI _ _ (aY hb)
 have ff:(s.heap.update T (Obj.mapFields (·.setIfInBounds 3 Value.none))).FunFrames base (env::outer):=hl.of_keeps fun b o q nf=>⟨o,(other b fun z=>by rw[z,hT]at q;cases q;exact nf _ hdT).trans q,rfl⟩
 have k0:Kp g (env::outer) s.heap (s.heap.update T (Obj.mapFields (·.setIfInBounds 3 Value.none))):=Kp.of fun b o q lt=>(other b (aY (at_ne lt hn))).trans q
 exact entry_new (g:=g) hfr ff hf ((other e (aY hTe)).trans he) hc.2 hd (Array.getElem?_eq_some_iff.mp h1).1 h2 hne (k0.gk hs) fun h' a k=>h h' (hc.1▸a) (k0.trans k)
theorem flight_none {l:List Env}{e:Addr}{cls fl:Value}{g:Heap}{Q:Unit->Shared->Prop}(x:ExAt g e cls fl s.heap)
 (h:∀ h',ExAt g e cls .none h'->Kp g l s.heap h'->(∀ b o,s.heap.get? b=some o->(∀ vs,o.data≠.fields vs)->h'.get? b=some o)->Q () { s with heap:=h'}):wpAny M A (setFlight (.ref e) none) Q E s:=by
 obtain⟨oe,vs,T,oT,ts,⟨he,hc,hd,h1,h2⟩,⟨hn,hTe,hT,hdT,h3⟩,hne⟩:=x
 unfold setFlight
 refine e9 (aA he hd h1 ?_)
 rw[au (show(Value.ref T != Value.none)=true from by simp)]
 have h3s:=(Array.getElem?_eq_some_iff.mp h3).1
 have hd3:=dt hdT (·.setIfInBounds 3 ((none:Option Addr).elim Value.none fun f=>rawInt f))
 have other:∀ b,b≠T->(s.heap.update T (Obj.mapFields (·.setIfInBounds 3 ((none:Option Addr).elim Value.none fun f=>rawInt f)))).get? b=s.heap.get? b:=fun b hb=>aI _ _ (aY hb)
 refine cR hT hdT h3s (h _ ⟨oe,vs,T,_,_,⟨(other e (aY hTe)).trans he,hc,hd,h1,h2⟩,⟨hn,hTe,bc _ hT (eF hd3),hd3,by simp[h3s]⟩,hne⟩ (Kp.of fun b o q lt=>(other b (aY (at_ne lt hn))).trans q) fun b o q nf=>(other b fun z=>by rw[z,hT]at q;cases q;exact nf _ hdT).trans q)
end
def CX1 (P:Program)(w:World):CXT:=fun outer H s E ev s'=>∃(e:Addr) (cls:Value) (H':Hp) (g:Heap),ev=.ref e/\s'.os=s.os/\AllBare s'.gens/\Un (frs outer) [] H H' s.heap s'.heap/\HOk P w H' s'.heap/\(Gk s.heap g/\(∀ b,H' b≠none->At g b)/\Gk g s'.heap)/\ExAt g e cls .none s'.heap/\E cls none H'
theorem at_of {P:Program}{w:World}{H:Hp}{h:Heap}{a:Addr}{o:HO}(x:HOk P w H h)(e:H a=some o):At h a:=by
 have x:=x a o e
 cases o with
 | lst xs=>obtain⟨_,_,_,_,e⟩:=x;exact⟨_,e⟩
 | tup xs=>obtain⟨_,_,_,_,e,_⟩:=x;exact⟨_,e⟩
 | dK eW=>obtain⟨_,_,_,_,o,_,_,e,_⟩:=x;exact⟨_,e⟩
 | dT eW=>obtain⟨_,_,_,_,o,_,_,e,_⟩:=x;exact⟨_,e⟩
 | set S n=>obtain⟨o,_,_,_,e,_⟩:=x;exact⟨_,e⟩
 | ins C dx fs=>obtain⟨_,_,_,e,_⟩:=x;exact⟨_,e⟩
 | own y=>obtain⟨_,e⟩:=x;exact⟨_,e⟩
 | xd fs=>obtain⟨_,⟨_,_,_,e,_⟩,_⟩:=x;exact⟨_,e⟩
 | rng lo hi=>obtain⟨_,_,_,e⟩:=x;exact⟨_,e⟩
 | frz ob u=>obtain⟨e,_⟩:=x;exact⟨_,e⟩
 | tbl ps=>exact⟨_,(show h.get? a=some _ from x)⟩
 | met f y=>exact⟨_,(show h.get? a=some _ from x)⟩
 | ext φ=>obtain⟨_,⟨_,e⟩,_⟩:=x;exact⟨_,e⟩
theorem hok_kp {P:Program}{w:World}{g h h':Heap}{l:List Env}{H:Hp}(x:HOk P w H h)(hb:∀ b,H b≠none->At g b/\b∉frs l)(k:Kp g l h h'):HOk P w H h':=fun a o e =>
 (x a o e).stay (fun b u hb' q=>by
   have hn:H b≠none:=by rcases hb' with rfl | z <;> intro y <;> simp_all
   exact k.other b u q (hb b hn).1 (hb b hn).2) (fun _ q=>q) fun _ _ q=>q
section
variable {X:Cx}{pins:List (Addr×Obj)}{σ:St}{H H':Hp}{s:Shared}{g h1 h2:Heap}
theorem Inv.exit (I:Inv X pins σ H s)(hx:X.ex=[])(u:Un (frs X.stack) [] H H' s.heap h1)(hg:Gk s.heap g)(k:Kp g X.stack h1 h2):Un X.fs [] X.H₀ H' X.s₀.heap h2:=by
 have nx:∀ b,b∉X.ex:=fun b z=>by rw[hx]at z;cases z
 have nn:∀ b:Addr,b∉([]:List Addr):=fun b z=>by cases z
 have atg:∀ b o,X.s₀.heap.get? b=some o->At g b:=fun b o e=>by
  obtain⟨o',e'⟩:=I.base.there b o e (nx b)
  exact hg b ⟨o',e'⟩
 refine⟨fun b o e n hb _=>?_,fun b o e n hb _=>?_,fun b o e n _=>?_,fun b o e _=>?_,fun b xs e=>u.tups b xs (I.base.tups b xs e),fun b o xs e=>u.frzs b o xs (I.base.frzs b o xs e),fun b ps e=>?_⟩
 ·have e1:=I.base.keep b o e n hb (nx b)
  have n1:=I.base.free b o e n (nx b)
  have hs:b∉frs X.stack:=fun z=>by
   rcases List.mem_cons.mp (I.stkSub b z)with y | y
   ·exact absurd y (ai (aC (gxN e) I.ok.above))
   ·exact hb y
  exact k.other b o (u.keep b o e1 n1 hs (nn b)) (atg b o e) hs
 ·obtain⟨sl,e1⟩:=I.base.slot b o e n hb (nx b)
  have n1:=I.base.free b o e n (nx b)
  obtain⟨sl2,e2⟩:=u.any e1 n1 (nn b)
  obtain⟨sl3,e3⟩:=k.any e2 (atg b o e)
  exact⟨sl3,e3⟩
 ·obtain⟨o',e1⟩:=I.base.there b o e (nx b)
  exact u.free b o' e1 (I.base.free b o e n (nx b)) (nn b)
 ·obtain⟨o',e1⟩:=I.base.there b o e (nx b)
  obtain⟨o2,e2⟩:=u.there b o' e1 (nn b)
  obtain⟨sl,e3⟩:=k.any e2 (atg b o e)
  exact⟨_,e3⟩
 ·obtain⟨m1,e1⟩:=I.base.tbls b ps e
  obtain⟨m2,e2⟩:=u.tbls b _ e1
  exact⟨m1++m2,by rw[e2,Array.append_assoc]⟩
end
section
variable {P:Program}{w:World}{K:PySem.W.Frag}{mg:Str->Option Value}{base:Heap}{N:List Str}{qual:Str}{scope:Scope}{f:Addr}{cd:Value}{A:Around}{outer:List Env}{s₀ s:Shared}{H₀ H:Hp}{E:XK}{pins:List (Addr×Obj)}{σ:St}
theorem flies:Passes (CX1 P w) (cxOf (CX1 P w) P w K mg base N qual scope f cd A outer s₀ H₀ E) E:=fun pins σ H s ev s' I c=>by
 obtain⟨e,cls,H',g,rfl,os,bare,un,hok,⟨g1,g2,g3⟩,ex,hE⟩:=c
 have I2:=I.call' (s':=s') (ch:=[]) os un hok bare (fun b z=>absurd z (by simp))
 have hfr:(cxOf (CX1 P w) P w K mg base N qual scope f cd A outer s₀ H₀ E).A.frames=some (envOfC qual scope s₀.heap.objs.size f cd::outer):=I.ok.frames
 show wpAny _ _ (leaving _ (.ref e)) _ _ s'
 unfold leaving
 refine e9 (note_next hfr I2.stack rfl g3 ex fun h1 x1 k1=>?_)
 refine flight_none (l:=envOfC qual scope s₀.heap.objs.size f cd::outer) x1 fun h2 x2 k2 _=>?_
 have k:=k1.trans k2
 exact⟨e,cls,H',g,rfl,os.trans I.os,bare,I.exit rfl un g1 k,hok_kp hok (fun b hb=>⟨g2 b hb,fun z=>hb (I2.stkFree b z)⟩) k,⟨fun b hb=>by
  obtain⟨o,e0⟩:=hb
  obtain⟨o',e1⟩:=I.base.there b o e0 (by simp[cxOf])
  exact g1 b ⟨o',e1⟩,g2,k.gk g3⟩,x2,hE⟩
theorem raises {h':Heap}{e:Addr}{cls:Value}{vs:List Value}(I:Inv (cxOf (CX1 P w) P w K mg base N qual scope f cd A outer s₀ H₀ E) pins σ H s)(x:Heap.MadeExcOf s.heap h' e cls vs)(hE:E cls none H):(cxOf (CX1 P w) P w K mg base N qual scope f cd A outer s₀ H₀ E).xe (.ref e) { s with heap:=h'}:=by
 have hfr:(cxOf (CX1 P w) P w K mg base N qual scope f cd A outer s₀ H₀ E).A.frames=some (envOfC qual scope s₀.heap.objs.size f cd::outer):=I.ok.frames
 obtain⟨t,he,htn,ht⟩:=x.there
 have ff:h'.FunFrames base (envOfC qual scope s₀.heap.objs.size f cd::outer):=(show s.heap.FunFrames base _ from I.stack).of_keeps fun b o q _=>⟨o,x.keeps b o q,rfl⟩
 have gk:Gk s.heap h':=fun b hq0=>by obtain⟨o,q⟩:=hq0;exact⟨o,x.keeps b o q⟩
 show wpAny _ _ (leaving _ (.ref e)) _ _ _
 unfold leaving
 refine e9 (note_first (s:={ s with heap:=h'}) (g:=s.heap) hfr ff rfl he rfl rfl rfl rfl x.new gk fun h1 x1 k1=>?_)
 refine flight_none (l:=envOfC qual scope s₀.heap.objs.size f cd::outer) x1 fun h2 x2 k2 _=>?_
 have k:=k1.trans k2
 have un:Un (frs (envOfC qual scope s₀.heap.objs.size f cd::outer)) [] H H s.heap h':=Un.kept x.keeps
 have hok:HOk P w H h':=(show HOk P w H s.heap from I.hok).kept x.keeps
 refine⟨e,cls,H,s.heap,rfl,I.os,I.bare,I.exit rfl un (fun b hb=>hb) k,hok_kp hok (fun b hb=>⟨?_,fun z=>hb (I.stkFree b z)⟩) k,⟨fun b hb=>?_,fun b hb=>?_,k.gk gk⟩,x2,hE⟩
 ·cases q:H b with
  | none=>exact absurd q hb
  | some o=>exact at_of (show HOk P w H s.heap from I.hok) q
 ·obtain⟨o,e0⟩:=hb
  obtain⟨o',e1⟩:=I.base.there b o e0 (by simp[cxOf])
  exact⟨o',e1⟩
 ·cases q:H b with
  | none=>exact absurd q hb
  | some o=>exact at_of (show HOk P w H s.heap from I.hok) q
end
abbrev DX:=Value->MS->Prop
def LifX (φ:List Addr)(H:Hp)(Kx:DX)(E:XK):Prop:=∀ c μ' φ' H',Kx c μ'->Fr φ H φ' H'->MSis φ' H' μ'->E c none H'
theorem LifX.mono {φ φ1:List Addr}{H H1:Hp}{Kx:DX}{E:XK}(h:LifX φ H Kx E)(f:Fr φ H φ1 H1):LifX φ1 H1 Kx E:=fun c μ' φ' H' k g M=>h c μ' φ' H' k (f.trans g) M
abbrev DSpX:=List D->MS->DK->DX->Prop
def spX (f:DSpX):Sp:=fun vs H Q E=>∃ φ ds μ K Kx,fc φ H ds vs/\MSis φ H μ/\f ds μ K Kx/\Lif φ H K Q/\LifX φ H Kx E
structure CalX (P:Program)(w:World)(K:PySem.W.Frag)(mg:Str->Option Value)(base:Heap)(x:Str)(k:Nat)(ps:List Str)(sp:Sp):Prop where
 ex:∃ f fd,FnOk P w K mg base (CX1 P w) k f fd ps sp/\mg x=some (.ref f)/\PySem.W.keepIn K (.ref f)=true/\Binds K fd ps []
structure Rz (X:Cx)(φ0:List Addr)(H0:Hp)(Kx:DX):Prop where
 ex:∃ E:XK,LifX φ0 H0 Kx E/\Passes (CX1 X.prog X.w) X E
structure Rm (X:Cx)(φ0:List Addr)(H0:Hp)(Kx:DX):Prop where
 ex:∃ E:XK,LifX φ0 H0 Kx E/\Passes (CX1 X.prog X.w) X E/\∀(pins:List (Addr×Obj)) (σ:St) (H:Hp) (s:Shared) (h':Heap) (e:Addr) (cls:Value) (vs:List Value),Inv X pins σ H s->Heap.MadeExcOf s.heap h' e cls vs->E cls none H->X.xe (.ref e) { s with heap:=h'}
theorem Rm.z {X:Cx}{φ0:List Addr}{H0:Hp}{Kx:DX}(h:Rm X φ0 H0 Kx):Rz X φ0 H0 Kx:=let ⟨E,a,b,_⟩:=h.ex;⟨E,a,b⟩
theorem MSis.hist {φ φ0:List Addr}{H H0:Hp}{μ:MS}(M:MSis φ H μ)(e:μ[0]?=some (.gx φ0 H0)):Fr φ0 H0 φ H:=let ⟨_,_,h⟩:=M.at_ 0 _ e;h.1
theorem MoIs.nt {φ:List Addr}{H:Hp}{m:MO}{p:Addr}(h:MoIs φ H m p)(zs:List V):H p≠some (.tup zs):=fun e=>by
 cases m with
 | box=>obtain⟨q,ns,i,r,z,h1,_⟩:=h;rw[e]at h1;cases h1
 | lst ds=>obtain⟨vs,h1,_⟩:=h;rw[e]at h1;cases h1
 | dic ks ds=>obtain⟨eW,vs,h1,_⟩:=h;rw[e]at h1;cases h1
 | fdic o eW ds=>have h1:=h.1;rw[e]at h1;cases h1
 | ins C ns ds=>obtain⟨dx,fs,h1,_⟩:=h;rw[e]at h1;cases h1
 | dtu ks ds=>obtain⟨eW,h1,_⟩:=h;rw[e]at h1;cases h1
 | gx φ0 H0=>exact h.2.2.2 zs e
 | exc c=>rw[show _=_ from h]at e;cases e
theorem MSis.ghost {φ:List Addr}{H:Hp}{μ:MS}{m:MO}(M:MSis φ H μ)(e:μ[0]?=some m):MSis φ H (μ.set 0 (.gx φ H)):=by
 have h0:0<μ.length:=(gxB e).1
 refine⟨M.nd,by rw[bL];exact M.len,fun k n en=>?_⟩
 by_cases hk:k=0
 ·subst hk
  rw[aD h0]at en
  cases en
  obtain⟨p,e1,e2⟩:=M.at_ 0 m e
  exact⟨p,e1,.refl _ _,rfl,e2.ex,e2.nt⟩
 ·rw[aG (aY hk)]at en
  exact M.at_ k n en
theorem MSis.back {φ φ':List Addr}{H H':Hp}{μ μ':MS}{m:MO}(M:MSis φ H μ)(e:μ[0]?=some m)(M':MSis φ' H' μ')(e':μ'[0]?=some (.gx φ H)):MSis φ' H' (μ'.set 0 m):=by
 have h0:0<μ'.length:=(gxB e').1
 refine⟨M'.nd,by rw[bL];exact M'.len,fun k n en=>?_⟩
 by_cases hk:k=0
 ·subst hk
  rw[aD h0]at en
  cases en
  obtain⟨p',e1,f,hp,_⟩:=M'.at_ 0 _ e'
  obtain⟨p,e2,im⟩:=M.at_ 0 m e
  have:=f.get e2
  rw[e1]at this
  cases this
  exact⟨p',e1,im.mono f fun o q=>hp.trans q⟩
 ·rw[aG (aY hk)]at en
  exact M'.at_ k n en
def gK (φ0:List Addr)(H0:Hp)(m:MO)(K:DK):DK:=fun d μ'=>μ'[0]?=some (.gx φ0 H0)/\K d (μ'.set 0 m)
def gX (φ0:List Addr)(H0:Hp)(m:MO)(K:DX):DX:=fun c μ'=>μ'[0]?=some (.gx φ0 H0)/\K c (μ'.set 0 m)
theorem Lif.ghost {φ:List Addr}{H:Hp}{μ:MS}{m:MO}{K:DK}{Q:VK}(L:Lif φ H K Q)(M:MSis φ H μ)(e:μ[0]?=some m):Lif φ H (gK φ H m K) Q:=fun d μ' φ' v H' ⟨e',k⟩ f M' i=>L d _ φ' v H' k f (M.back e M' e') i
theorem LifX.ghost {φ:List Addr}{H:Hp}{μ:MS}{m:MO}{K:DX}{Q:XK}(L:LifX φ H K Q)(M:MSis φ H μ)(e:μ[0]?=some m):LifX φ H (gX φ H m K) Q:=fun c μ' φ' H' ⟨e',k⟩ f M'=>L c _ φ' H' k f (M.back e M' e')
section
variable {X:Cx}{e:Expr}{es:List Expr}{pos:Pos}{φ0:List Addr}{H0:Hp}{Kx:DX}
def dCallX (φ0:List Addr)(H0:Hp)(Kx:DX)(f:DSpX)(w:DA):De:=fun ρ μ K=>w ρ μ fun ds fB=>fB[0]?=some (.gx φ0 H0)/\f ds fB K Kx
theorem d_callX {f:DSpX}{w:DA}{x:Str}{p:Pos}{k:Nat}{ps:List Str}(Z:Rz X φ0 H0 Kx)(C:CalX X.prog X.w X.K X.mg X.base x k ps (spX f))(hr:Room k X.A)(hg:Gl X x)(ha:PDA X (e::es) w)
 (hdb:(x==("__debug__" : Str))=false:=by decide) (he:starEach (e::es) X.env=(false,eval e X.env)::starEach es X.env:=by rfl) (hpl:(backTo pos (starEach es X.env)).any (·.1)=false:=by rfl) :
 PD X (.Call (.Name x p) (e::es) [] pos) (dCallX φ0 H0 Kx f w):=by
 obtain⟨E,LX,hp⟩:=Z.ex
 obtain⟨f',fd,F,hm,hk,hb⟩:=C.ex
 exact(pe_call F hr hg hm hk hb .nil hp ha hdb he hpl).imp fun σ H Q ⟨φ,ρ,μ,K,Ee,M,w,L⟩ =>
  ⟨φ,ρ,μ,_,Ee,M,w,fun ds fB φ1 vs H1 k1 f1 M1 i1=>by show spX f (vs++[]) H1 Q E;rw[b7];exact⟨φ1,ds,fB,K,Kx,i1,M1,k1.2,L.mono f1,LX.mono (M1.hist k1.1)⟩⟩
def dRaise (φ0:List Addr)(H0:Hp)(Kx:DX)(C:Addr)(w:DA):Ds:=fun _ ρ μ=>w ρ μ fun ds fB=>ds.length<=sizeLine/\fB[0]?=some (.gx φ0 H0)/\Kx (.ref C) fB
theorem s_raise {w:DA}{x:Str}{C:Addr}{bm bmN:List Value}{B Bn newId nid initId inN:String}{np cpos:Pos}(Z:Rm X φ0 H0 Kx)(hc:X.calm=true)(O:OwnCls x C bm newId X.mg X.base)(Fn:ExcBaseFacts Bn newId inN bmN)(hBn:bm.contains (.type Bn)=true)
 (FB:ExcBaseFacts B nid initId bm) (hg:Gl X x) (ha:PDA X (e::es) w) (hd:(x==("__debug__" : Str))=false:=by decide)
 (he:starEach (e::es) X.env=(false,eval e X.env)::starEach es X.env:=by rfl) (hpl:(backTo cpos (starEach es X.env)).any (·.1)=false:=by rfl) :
 PDS X (.Raise (some (.Call (.Name x np) (e::es) [] cpos)) none pos) (dRaise φ0 H0 Kx C w):=fun pins s σ H D I hq=>by
 obtain⟨φ,ρ,μ,N,A,M,k,L⟩:=hq
 obtain⟨E,LX,hp,mk⟩:=Z.ex
 obtain⟨tl,Na,nm,q,bs,hdct,sn,sub,ab,col,dd,k0,k1,k2,k3,k5,mN,hC,hN,hni,T⟩:=O.obj
 refine wpAny_Raise_call_subU (C:=C) (nm:=nm) (q:=q) (N:=Na) (bs:=bs) (bm:=tl) (hdct:=hdct) (sn:=sn) (sub:=sub) (ab:=ab) (col:=col) (dd:=dd) (k0:=k0) (k1:=k1) (k2:=k2) (k3:=k3) (k5:=k5)
  Fn hBn FB (mN:=mN) (T.hasType FB.hasBase) (I.ok.hd hc) (by rw[he];show(false||(backTo cpos (starEach es X.env)).any (·.1))=false;rw[hpl];rfl) hni (ld_glob I hg O.bound ⟨rfl,?_⟩ hd)
 have h:=ha cpos pins s σ H (fun vs H1=>vs.length<=sizeLine/\E (.ref C) none H1) I ⟨φ,ρ,μ,_,A,M,k,fun ds fB φ1 vs H1 k1 f1 M1 i1=>⟨by rw[i1.len];exact k1.1,LX (.ref C) fB φ1 H1 k1.2.2 (M1.hist k1.2.1) M1⟩⟩
 rw[he]at h ⊢
 refine Calls.evalArgs_plain (bG h (fun us s2 hq1=>by obtain⟨vs,H1,I1,r1,q1⟩:=hq1;exact⟨rfl,by rw[<- r1.length];exact q1.1,I1.bk _ _ hC,hN.keeps I1.bk,T.keeps I1.bk,fun h' e' mx=>mk pins σ H1 s2 h' e' _ _ I1 mx q1.2⟩) fun _ _ y=>y)
end
def FX (n:Nat)(K:DX):DX:=fun c μ'=>K c μ'\/((∀(j:Nat) (m:MO),j<n->μ'[j]?=some m->moB n m)/\K c (μ'.take n))
theorem LifX.fx {φ:List Addr}{H:Hp}{μ:MS}{K:DX}{E:XK}(M:MSis φ H μ)(L:LifX φ H K E):LifX φ H (FX μ.length K) E:=fun c μ' φ' H' k f M'=>by
 rcases k with k | ⟨hm,k⟩
 ·exact L c μ' φ' H' k f M'
 ·have eφ:φ'.take μ.length=φ:=by
   obtain⟨⟨ψ,rfl,_⟩,_,_⟩:=f
   rw[<- M.len,bW]
  have f0:Fr φ H (φ'.take μ.length) H':=by
   rw[eφ]
   exact⟨⟨[],by simp,fun _ h=>nomatch h⟩,f.keep,f.dom⟩
  exact L c _ _ H' k f0 (M'.cutT hm)
section
variable {P:Program}{w:World}{K:PySem.W.Frag}{mg:Str->Option Value}{base:Heap}
theorem Fun.okX {x qual:Str}{st:Stmt}{f:Addr}{fd:FuncData}{N ps:List Str}{k:Nat}{fs:DSpX}(F:Fun K x qual st f fd)(S:FnScope N ps (eV st))(len:∀ ds μ Kd Kx,fs ds μ Kd Kx->ds.length=ps.length/\∃ m,μ[0]?=some m)
 (hbody:∀(cdv:Value) (A:Around) (outer:List Env) (s:Shared) (H:Hp) (E:XK),Room k (A.deeper (envOfC qual (eV st) s.heap.objs.size f cdv))->∀(φ0:List Addr) (Kb:DX),Rm (cxOf (CX1 P w) P w K mg base N qual (eV st) f cdv A outer s H E) φ0 H Kb ->
   ∃ W,PDB (cxOf (CX1 P w) P w K mg base N qual (eV st) f cdv A outer s H E) (defBody st) W/\∀ ds μ m Kd Kx,(∀(j:Nat) (m':MO),(μ.set 0 (.gx φ0 H))[j]?=some m'->moB (μ.set 0 (.gx φ0 H)).length m')->mrL (μ.set 0 (.gx φ0 H)).length ds->μ[0]?=some m->fs ds μ Kd Kx->Kb=FX (μ.set 0 (.gx φ0 H)).length (gX φ0 H m Kx) ->
    W (retN (μ.set 0 (.gx φ0 H)).length (gK φ0 H m Kd)) (startE N ds) (μ.set 0 (.gx φ0 H))):FnOk P w K mg base (CX1 P w) (k+1) f fd ps (spX fs):=by
 obtain⟨oc,od,kV,doc,pm,an,cdv,ct,osl,rfl,lk,hcd⟩:=F.ex
 refine fn_of lk hcd S (fun vs H Q E h=>?_) fun A outer s H vs Q E hr hsp=>?_
 ·obtain⟨φ,ds,μ,Kd,Kx,ha,M,hf,L,LX⟩:=h
  rw[ha.len];exact(len ds μ Kd Kx hf).1
 ·obtain⟨φ,ds,μ,Kd,Kx,ha,M,hf,L,LX⟩:=hsp
  obtain⟨_,m,em⟩:=len ds μ Kd Kx hf
  have Mg:=M.ghost em
  have Lg:=(L.ghost M em).fz Mg
  obtain⟨W,hW,q⟩:=hbody cdv A outer s H E hr φ (FX (μ.set 0 (.gx φ H)).length (gX φ H m Kx)) ⟨E,(LX.ghost M em).fx Mg,flies,fun pins σ H' s' h' e cls vs I x hE=>raises I x hE⟩
  refine⟨_,hW,φ,startE N ds,μ.set 0 (.gx φ H),retN (μ.set 0 (.gx φ H)).length (gK φ H m Kd),.start ha,Mg,q ds μ m Kd Kx Mg.bound (by rw[<- Mg.len];exact ha.bound) em hf rfl,⟨fun ρ' μ' φ' σ' H' k' f' A' M'=>?_,Lg,fun _ _ _ _ _ k' _ _ _=>k'.elim,fun _ _ _ _ _ k' _ _ _=>k'.elim⟩⟩
  exact Lg .non μ' φ' .non H' k' f' M' rfl
end
abbrev hC (φ0:List Addr)(H0:Hp)(k:Nat):MS->Prop:=fun μ=>μ[0]?=some (.gx φ0 H0)/\∃ c,μ[k]?=some (.exc c)
abbrev veB:List Value:=[.type "ValueError",.type "Exception",.type "BaseException",.type "object"]
theorem cls_of {K:PySem.W.Frag}{C:Addr}{bmB:List Value}{newId:String}(q:PySem.W.excIn K C bmB newId=true):∃(bm:List Value) (ns:Addr) (nm qn:Str) (bs:List Value) (hd:Bool) (sn:List Str) (sub:List Value) (ab:Bool) (col:Option Bool) (dd:Option Addr) (k0 k1 k2 k3 k5:Option Value),
 K.lookup C=some (excClassObj nm qn C ns bs bm hd sn sub ab col dd k0 k1 k2 k3 k5 newId)/\PySem.W.nsOkIn K ns=true/\PySem.W.nsIn K ns "__init__"=some none/\PySem.W.tailIn K bmB bm=true:=by
 unfold PySem.W.excIn at q
 split at q
 ·rename_i dd cd sl ho
  split at q
  ·rename_i C' bm k0 k1 k2 k3 n k5 hm hs
   simp only[bh,beq_iff_eq,Bool.not_eq_true']at q
   obtain⟨⟨⟨⟨⟨rfl,rfl⟩,hdel⟩,ht⟩,hok⟩,hni⟩:=q
   obtain⟨nm,bs,mro,ns,qn,hd,sn,sub,ab,col,del⟩:=cd
   dsimp only at hm hdel hok hni
   subst hm hdel
   have hsl:sl=#[k0,k1,k2,k3,some (.builtin n),k5]:=by
    obtain⟨l⟩:=sl
    simp only at hs
    rw[hs]
   subst hsl
   exact⟨bm,ns,nm,qn,bs,hd,sn,sub,ab,col,dd,k0,k1,k2,k3,k5,ho,hok,hni,ht⟩
  ·cases q
 ·cases q
theorem own_of {K:PySem.W.Frag}{h:Heap}{mg:Str->Option Value}{x:Str}{C:Addr}(X:K.In h)(G:h.Ns mainGlobals mg)(e:PySem.W.nsIn K mainGlobals x=some (some (.ref C)))(q:PySem.W.excIn K C veB "ValueError.__new__"=true):OwnCls x C veB "ValueError.__new__" mg h:=by
 obtain⟨bm,ns,nm,qn,bs,hd,sn,sub,ab,col,dd,k0,k1,k2,k3,k5,h1,h2,h3,h4⟩:=cls_of q
 exact⟨dk X G e,bm,ns,nm,qn,bs,hd,sn,sub,ab,col,dd,k0,k1,k2,k3,k5,_,X _ _ h1,.of_isNs (PySem.W.isNs_of_in X h2),PySem.W.nsMap_none_of_in X h2 h3,PySem.W.tail_of_in X h4⟩
theorem calx_of {P:Program}{w:World}{K:PySem.W.Frag}{mg:Str->Option Value}{base h:Heap}{x q:Str}{st:Stmt}{f:Addr}{fd:FuncData}{k:Nat}{ps:List Str}{sp:Sp}(G:K.In h)(N:h.Ns mainGlobals mg)(F:Fun K x q st f fd)(ok:FnOk P w K mg base (CX1 P w) k f fd ps sp)(hb:Binds K fd ps [])
 (a:PySem.W.nsIn K mainGlobals x=some (some (.ref f)):=by kernel_rfl):CalX P w K mg base x k ps sp:=⟨f,fd,ok,dk G N a,F.kp,hb⟩
theorem gx_at {μ:MS}{m n:MO}(em:μ[0]?=some m):(μ.set 0 n)[0]?=some n:=aD (gxB em).1
theorem gx_back {μ:MS}{m n:MO}(em:μ[0]?=some m):(μ.set 0 n).set 0 m=μ:=by
 cases μ with
 | nil=>cases em
 | cons a r=>cases em;rfl
theorem gX_of {μ:MS}{m:MO}{n:Nat}{φ0:List Addr}{H:Hp}{c:Value}{Kb Kx:DX}(hK:Kb=FX n (gX φ0 H m Kx))(em:μ[0]?=some m)(k:Kx c μ):(μ.set 0 (.gx φ0 H))[0]?=some (.gx φ0 H)/\Kb c (μ.set 0 (.gx φ0 H)):=⟨gx_at em,by rw[hK];exact .inl ⟨gx_at em,by rw[gx_back em];exact k⟩⟩
theorem gK_of {μ:MS}{m:MO}{φ0:List Addr}{H:Hp}{d:D}{K:DK}(em:μ[0]?=some m)(k:K d μ):gK φ0 H m K d (μ.set 0 (.gx φ0 H)):=⟨gx_at em,by rw[gx_back em];exact k⟩
def runOk (n e a b:Int):Prop:=e<a/\a<b/\b<=n
instance (n e a b:Int):Decidable (runOk n e a b):=by unfold runOk;infer_instance
section
variable {X:Cx}{a b e o:Expr}{es:List Expr}{pos:Pos}
def rLenD:List V->Hp->VK->Prop:=fun vs H Q=>match vs with
 | [.ref a]=>∃ eW,Rd H a (.dK eW)/\Q (.int eW.length) H
 | _=>False
theorem lenD:CallR X (.builtin "len") rLenD:=by
 intro pins s σ H xs us Q I r h
 unfold rLenD at h
 split at h
 ·obtain⟨eW,rd,q⟩:=h
  obtain⟨u,rfl,ru⟩:=r.one
  cases ru
  exact d_len I rd fun t s' I'=>⟨.int _,H,I',⟨t,rfl⟩,q⟩
 ·exact h.elim
end
structure CalMX (P:Program)(w:World)(K:PySem.W.Frag)(mg:Str->Option Value)(base:Heap)(C:Addr)(m:Str)(k:Nat)(ps:List Str)(sp:Sp):Prop where
 ex:∃ f fd,FnOk P w K mg base (CX1 P w) k f fd ps sp/\Meth K C m f/\Binds K fd ps []
def cX (f:DSpX):DSp:=fun ds μ K=>f ds μ K fun _ _=>False
theorem pass1 {X:Cx}:Passes (CX1 X.prog X.w) X (fun _ _ _=>False):=fun pins σ H s e s' I c=>by
 obtain⟨_,_,_,_,_,_,_,_,_,_,_,z⟩:=c
 exact z.elim
section
variable {X:Cx}{a b e o:Expr}{es:List Expr}{pos:Pos}{C:Addr}{φ0:List Addr}{H0:Hp}{Kx:DX}
theorem d_callXc {f:DSpX}{w:DA}{x:Str}{p:Pos}{k:Nat}{ps:List Str}(C:CalX X.prog X.w X.K X.mg X.base x k ps (spX f))(hr:Room k X.A)(hg:Gl X x)(ha:PDA X (e::es) w)
 (hdb:(x==("__debug__" : Str))=false:=by decide) (he:starEach (e::es) X.env=(false,eval e X.env)::starEach es X.env:=by rfl) (hpl:(backTo pos (starEach es X.env)).any (·.1)=false:=by rfl) :
 PD X (.Call (.Name x p) (e::es) [] pos) (dCall (cX f) w):=by
 obtain⟨f',fd,F,hm,hk,hb⟩:=C.ex
 exact(pe_call F hr hg hm hk hb .nil pass1 ha hdb he hpl).imp fun σ H Q ⟨φ,ρ,μ,K,Ee,M,w,L⟩ =>
  ⟨φ,ρ,μ,_,Ee,M,w,fun ds fB φ1 vs H1 k1 f1 M1 i1=>by show spX f (vs++[]) H1 Q _;rw[b7];exact⟨φ1,ds,fB,K,_,i1,M1,k1,L.mono f1,fun _ _ _ _ z _ _=>z.elim⟩⟩
theorem tD_methX {m:Str}{f:DSpX}{wo:De}{w:DA}{σ:St}{H:Hp}{Q:VK}{E:XK}{ok:MS->Prop}{Kx:DX}(hE:∀ φ μ H,MSis φ H μ->ok μ->LifX φ H Kx E)(h:tD (fun ρ μ K=>wo ρ μ fun x fB=>recvD C m fB x/\w ρ fB fun ds μ2=>ok μ2/\f (x::ds) μ2 K Kx) σ H Q):tMeth C m (spX f) [] E (tD wo) (tDA w) σ H Q:=by
 obtain⟨φ,ρ,μ,K,A,M,k,L⟩:=h
 refine⟨φ,ρ,μ,_,A,M,k,fun d1 fB φ1 v1 H1 k1 f1 M1 i1=>?_⟩
 obtain⟨p,dx,fs,rfl,h1,h2⟩:=recvD_is M1 i1 k1.1
 refine⟨p,dx,fs,rfl,h1,h2,φ1,ρ,fB,_,A.mono f1,M1,k1.2,fun ds μ2 φ2 vs H2 k2 f2 M2 i2=>?_⟩
 show spX f (.ref p::(vs++[])) H2 Q E
 rw[b7]
 exact⟨φ2,d1::ds,μ2,K,Kx,⟨_,vs,rfl,DIs.mono f2 i1,i2⟩,M2,k2.2,L.mono (f1.trans f2),hE φ2 μ2 H2 M2 k2.1⟩
def dMethX (φ0:List Addr)(H0:Hp)(Kx:DX)(C:Addr)(m:Str)(f:DSpX)(wo:De)(w:DA):De:=fun ρ μ K=>wo ρ μ fun x fB=>recvD C m fB x/\w ρ fB fun ds μ2=>μ2[0]?=some (.gx φ0 H0)/\f (x::ds) μ2 K Kx
theorem d_methX {m:Str}{f:DSpX}{wo:De}{w:DA}{apos:Pos}{pl:Sem Bool}{k:Nat}{ps:List Str}(Z:Rz X φ0 H0 Kx)(CM:CalMX X.prog X.w X.K X.mg X.base C m k ps (spX f))(c:Cls X.K C)(hr:Room k X.A)(ho:PD X o wo)(ha:PDA X (e::es) w)
 (hst:starEach (e::es) X.env=(false,eval e X.env)::starEach es X.env:=by rfl) (hpl:(backTo pos (starEach es X.env)).any (·.1)=false:=by rfl)
 (ht:eval (.Call (.Attribute o m apos) (e::es) [] pos) X.env=(do
   let ov <- eval o X.env
   standAt apos.atName
   let (f,first) <- holding [ov] (getMethod ov m pl)
   callWith pos f first (backTo pos (starEach (e::es) X.env)) (backToKw pos (keywordEach [] X.env))):=by rfl) :
 PD X (.Call (.Attribute o m apos) (e::es) [] pos) (dMethX φ0 H0 Kx C m f wo w):=by
 obtain⟨E,LX,hp⟩:=Z.ex
 obtain⟨f',fd,F,hm,hb⟩:=CM.ex
 exact(pe_meth ho c hm F hr hb .nil hp ha hst hpl ht).imp fun σ H Q hq=>tD_methX (ok:=fun μ=>μ[0]?=some (MO.gx φ0 H0)) (fun φ μ H M e=>LX.mono (M.hist e)) hq
end
theorem calmx_of {P:Program}{w:World}{K:PySem.W.Frag}{mg:Str->Option Value}{base:Heap}{C:Addr}{x q:Str}{st:Stmt}{f:Addr}{fd:FuncData}{k:Nat}{ps:List Str}{sp:Sp}(F:Fun K x q st f fd)(ok:FnOk P w K mg base (CX1 P w) k f fd ps sp)(hb:Binds K fd ps [])
 (a:PySem.W.findIn K (.ref C) x=some (some (.ref f)):=by kernel_rfl) (i:PySem.W.isFn K (.ref f)=true:=by kernel_rfl):CalMX P w K mg base C x k ps sp:=⟨f,fd,ok,⟨a,i,F.kp⟩,hb⟩
inductive Pt where
 | fst (b:List Nat) (a:Int)
 | jn (l r:Str) (p:Int)
structure RS where
 n:Int
 kept:List (Str×Pt)
 shut:List (Int×Unit)
inductive Dd where
 | put (nm b:Str) (a:Int) | join (nm l r:Str) (p:Int) | found (nm:Str) (bar:Int) (sg:Str) | aged (nm:Str) (a:Int) | drop (nm:Str) | free (p:Int) | shut (p:Int)
section
variable {α β:Type}[DecidableEq α]
def aget (l:List (α×β))(k:α):Option β:=(l.find? fun p=>decide (p.1=k)).map (·.2)
end
section
variable {α β:Type}[DecidableEq α]{κ:α->Key}(hi:∀ a b,κ a=κ b->a=b)(f:β->D)
include hi
end
def evF {γ:Type}(gf:Str->List Nat->Int->γ)(gj:γ->γ->Int->γ)(z:γ)(kept:List (Str×Pt)):Nat->Str->γ
 | 0,_=>z
 | f+1,nm=>match aget kept nm with
  | some (.fst b a)=>gf nm b a
  | some (.jn l r p)=>gj (evF gf gj z kept f l) (evF gf gj z kept f r) p
  | none=>z
section
variable {γ:Type}{gf:Str->List Nat->Int->γ}{gj:γ->γ->Int->γ}{z:γ}{kept:List (Str×Pt)}
def ev (gf:Str->List Nat->Int->γ)(gj:γ->γ->Int->γ)(z:γ)(kept:List (Str×Pt))(nm:Str):γ:=evF gf gj z kept kept.length nm
end
section
variable {α β:Type}[DecidableEq α]{κ:α->Key}(hi:∀ a b,κ a=κ b->a=b)(f:β->D)
include hi
end
end L2
namespace L2
open PySem PySem.Spec PyProof.Rows PyProof
end L2
namespace L2
open PySem PySem.Spec PyProof.Rows PyProof
def TV (c:Dt)(ρ:DE)(μ:MS)(b:Bool):Prop:=∀ K:Bool->MS->Prop,K b μ->c ρ μ K
section
variable {a c:Dt}{t u:Ds}{N:DN}{ρ:DE}{μ:MS}{x y b:Bool}{e:De}
theorem TV.tst (h:∀ K:DK,K (.bl b) μ->e ρ μ K):TV (dTst e) ρ μ b:=fun K k=>h _ k
theorem TV.or (h1:TV a ρ μ x)(h2:x=false->TV c ρ μ y):TV (dtOr a c) ρ μ (x||y):=fun K k=>h1 _ (by
 cases x with
 | true=>rw[au rfl];exact k
 | false=>rw[aq (by decide)];exact h2 rfl K k)
theorem TV.not (h1:TV a ρ μ x):TV (dtNot a) ρ μ (!x):=fun K k=>h1 _ k
theorem dIf_of (b:Bool)(h:TV c ρ μ b)(ht:b=true->t N ρ μ)(hu:b=false->u N ρ μ):dIfS c t u N ρ μ:=h _ (by
 cases b with
 | true=>rw[au rfl];exact ht rfl
 | false=>rw[aq (by decide)];exact hu rfl)
end
theorem dNx_of {N:DN}{ρ:DE}{μ:MS}(h:N.nx ρ μ):dNx N ρ μ:=h
section
variable {α β:Type}[DecidableEq α]{κ:α->Key}(hi:∀ a b,κ a=κ b->a=b){f:β->D}{μ:MS}{j:Nat}{l:List (α×β)}
include hi
end
end L2
namespace L2
open PySem PySem.W PyProof.Rows
end L2
namespace L2
open PySem PySem.Spec PyProof.Rows PyProof PySem.W
end L2
namespace L2
open PySem PySem.Spec PyProof.Rows PyProof
end L2
namespace L2
open PySem PySem.Spec PyProof.Rows PyProof
end L2
namespace L2
open PySem PySem.Spec PyProof.Rows PyProof
end L2
namespace L2
open PySem PySem.Spec PyProof.Rows PyProof
end L2
namespace L2
open PySem PySem.Spec PyProof.Rows PyProof
section
variable {kept:List (Str×Pt)}{z:Str}{b b':List Nat}{a:Int}(h:aget kept z=some (.fst b a))
include h
end
end L2
namespace L2
open PySem PySem.Spec PyProof.Rows PyProof
theorem zs {n:Nat}(h:Nat.ble n 100=true:=by rfl):n<=sizeLine:=aL (Nat.le_of_ble_eq_true h) (sz (by decide))
section
variable {X:Cx}{a b e e1 e2 e3:Expr}{wa wb w w1 w2 w3:De}{pos p:Pos}
theorem a1 (h:PD X e w)(s:starEach [e] X.env=(false,eval e X.env)::starEach [] X.env:=by rfl):PDA X [e] (dCons w dNil):=fb h da_nil s
theorem a2 (h:PD X e w)(h1:PD X e1 w1)(s:starEach [e,e1] X.env=(false,eval e X.env)::starEach [e1] X.env:=by rfl)(s1:starEach [e1] X.env=(false,eval e1 X.env)::starEach [] X.env:=by rfl):PDA X [e,e1] (dCons w (dCons w1 dNil)):=fb h (a1 h1 s1) s
theorem a3 (h:PD X e w)(h1:PD X e1 w1)(h2:PD X e2 w2)(s:starEach [e,e1,e2] X.env=(false,eval e X.env)::starEach [e1,e2] X.env:=by rfl)(s1:starEach [e1,e2] X.env=(false,eval e1 X.env)::starEach [e2] X.env:=by rfl)(s2:starEach [e2] X.env=(false,eval e2 X.env)::starEach [] X.env:=by rfl):PDA X [e,e1,e2] (dCons w (dCons w1 (dCons w2 dNil))):=fb h (a2 h1 h2 s1 s2) s
theorem dIX (ha:PD X a wa)(hb:PD X b wb)(hs:PlainIx b:=by exact fun _ _=>rfl):PD X (.Subscript a b pos) (dOp dIx wa wb):=d_ix ixC so_ix ha hb hs
theorem dPl (ha:PD X a wa)(hb:PD X b wb):PD X (.BinOp a .Add b pos) (dOp (dAdd false) wa wb):=d_op addC so_add ha hb
theorem dMi (ha:PD X a wa)(hb:PD X b wb):PD X (.BinOp a .Sub b pos) (dOp (dI2' fun i j=>.int (i - j)) wa wb):=d_op subC so_i2' ha hb
theorem qLt (ha:PD X a wa)(hb:PD X b wb):PT X (.Compare a [.Lt] [b] pos) (tDT (dTst (dOp (dI2' fun i j=>.bl (decide (i<j))) wa wb))):=d_testC ltC so_b2' ha hb (nomark _)
theorem qLe (ha:PD X a wa)(hb:PD X b wb):PT X (.Compare a [.LtE] [b] pos) (tDT (dTst (dOp (dI2' fun i j=>.bl (decide (i<=j))) wa wb))):=d_testC leC so_b2' ha hb (nomark _)
theorem qGt (ha:PD X a wa)(hb:PD X b wb):PT X (.Compare a [.Gt] [b] pos) (tDT (dTst (dOp (dI2' fun i j=>.bl (decide (j<i))) wa wb))):=d_testC gtC so_b2' ha hb (nomark _)
theorem qGe (ha:PD X a wa)(hb:PD X b wb):PT X (.Compare a [.GtE] [b] pos) (tDT (dTst (dOp (dI2' fun i j=>.bl (decide (j<=i))) wa wb))):=d_testC geC so_b2' ha hb (nomark _)
theorem qEq (ha:PD X a wa)(hb:PD X b wb):PT X (.Compare a [.Eq] [b] pos) (tDT (dTst (dOp (dEqS false) wa wb))):=d_testC eqC so_eqS ha hb (nomark _)
theorem qNe (ha:PD X a wa)(hb:PD X b wb):PT X (.Compare a [.NotEq] [b] pos) (tDT (dTst (dOp (dEqS true) wa wb))):=d_testC neC so_eqS ha hb (nomark _)
theorem dLn (T:Bi2 X.mg)(h:PD X e w)(hg:Gl X "len":=by rfl)(he:starEach [e] X.env=(false,eval e X.env)::starEach [] X.env:=by rfl)(hpl:(backTo pos (starEach [] X.env)).any (·.1)=false:=by rfl):PD X (.Call (.Name "len" p) [e] [] pos) (dCall fLen (dCons w dNil)):=d_blt lenC so_len hg T.len PySem.boot_len (a1 h he) (by decide) (by decide) he hpl
section
variable {es:List Expr}{x:Str}{k k0:Nat}{ps:List Str}{f:DSp}{fx:DSpX}{u:DA}
theorem qC (C:Cal X.prog X.w X.K X.mg X.base x k ps (spD f))(hr:Room k0 X.A)(ha:PDA X (e::es) u)(hk:k<=k0:=by first | decide | exact ae _ | omega)(hg:Gl X x:=by rfl)(hdb:(x==("__debug__" : Str))=false:=by decide)(he:starEach (e::es) X.env=(false,eval e X.env)::starEach es X.env:=by rfl)(hpl:(backTo pos (starEach es X.env)).any (·.1)=false:=by rfl) :
 PD X (.Call (.Name x p) (e::es) [] pos) (dCall f u):=d_call C (hr.mono hk) hg ha hdb he hpl
end
theorem qS (i:Nat){x:Str}{pos':Pos}(hN:X.N.Nodup)(he:PD X e w)(hi:X.N[i]?=some x:=by rfl)(hx:Loc X.env.scope x:=by first | exact Or.inl rfl | exact Or.inr rfl)(hf:X.fn x=true\/X.env.scope.names.lookup x=some .local:=by first | exact .inl rfl | exact .inr rfl | assumption)
 (hsw:swapsWith e (some (.Name x pos')) pos.line X.env=pure false:=by rfl):PDS X (.Assign [.Name x pos'] e pos) (dSet i w):=s_set hN hi hx he hf hsw
theorem qN (i:Nat){x:Str}(hN:X.N.Nodup)(hi:X.N[i]?=some x:=by rfl)(hx:Loc X.env.scope x:=by first | exact Or.inl rfl | exact Or.inr rfl)(hf:X.fn x=true\/X.env.scope.names.lookup x=some .local:=by first | exact .inl rfl | exact .inr rfl | assumption):PG X (.Name x pos) (gName i):=pg_name hN hi hx hf
theorem qT (i:Nat){x:Str}(hN:X.N.Nodup)(hi:X.N[i]?=some x:=by rfl)(hx:Loc X.env.scope x:=by first | exact Or.inl rfl | exact Or.inr rfl)(hf:X.fn x=true\/X.env.scope.names.lookup x=some .local:=by first | exact .inl rfl | exact .inr rfl | assumption):Tg X (.Name x pos) (gName i) (dgName i) [i]:=⟨pg_name hN hi hx hf,fg i,eO i⟩
theorem cOk {N0 ps N:List Str}{js:List (Option Nat)}{sc sc0:Scope}(S:FnScope N0 ps sc0)(h:compChk N0 sc0 N js sc=true)(hN:X.N=N0:=by rfl)(hs:X.env.scope=sc0:=by rfl):CompOk X N js sc:=compOk h hN hs
section
variable {tg iter elt:Expr}{ifs:List Expr}{sc:Scope}{N:List Str}{js:List (Option Nat)}{g:TG}{y:DG}{S:List Nat}{t:Dt}{wi:DI}
theorem sCp (i:Nat)(m:Bool){pos' spos:Pos}{x:Str}(hN:X.N.Nodup)(hc:CompOk X N js sc)(so:SoG g y S)(mo:MonoG g)(hi:PDI X tg iter wi)(hg:∀ fp s H,N.Nodup->PG (cxC X N sc fp s H) tg g)
 (ht:∀ fp s H,PDTs (cxC X N sc fp s H) ifs t) (he:∀ fp s H,PD (cxC X N sc fp s H) elt w) (ho:ownJs S js=true:=by rfl) (calm:X.calm=true:=by rfl) (hx':X.N[i]?=some x:=by rfl) (hx:Loc X.env.scope x:=by first | exact Or.inl rfl | exact Or.inr rfl) (hsw:swapsWith (.ListComp elt [⟨tg,iter,ifs,0⟩] sc pos) (some (.Name x pos')) spos.line X.env=pure true:=by rfl)
 (hs:∀ x,foldedSetIterable iter X.env x=pure x:=by intro _;rfl) (hf:X.fn x=true\/X.env.scope.names.lookup x=some .local:=by first | exact .inl rfl | exact .inr rfl | assumption) :
 PDS X (.Assign [.Name x pos'] (.ListComp elt [⟨tg,iter,ifs,0⟩] sc pos) spos) (dSet i (dComp m wi js y t w)):=s_setComp m hc calm so mo ho hN hx' hx hi (fun fp s H=>hg fp s H hc.nd) ht he hsw hs hf
theorem dCp (m:Bool)(hc:CompOk X N js sc)(so:SoG g y S)(mo:MonoG g)(hi:PDI X tg iter wi)(hg:∀ fp s H,N.Nodup->PG (cxC X N sc fp s H) tg g)(ht:∀ fp s H,PDTs (cxC X N sc fp s H) ifs t)(he:∀ fp s H,PD (cxC X N sc fp s H) elt w)(ho:ownJs S js=true:=by rfl)(calm:X.calm=true:=by rfl)
 (hs:∀ x,foldedSetIterable iter X.env x=pure x:=by intro _;rfl):PD X (.ListComp elt [⟨tg,iter,ifs,0⟩] sc pos) (dComp m wi js y t w):=d_comp m hc calm so mo ho hi (fun fp s H=>hg fp s H hc.nd) ht he hs
theorem sC1 (i:Nat)(m:Bool){pos' spos:Pos}{x:Str}(hN:X.N.Nodup)(hc:CompOk X N js sc)(hi:PDI X tg iter wi)(hg:∀ fp s H,N.Nodup->PG (cxC X N sc fp s H) tg (gName 0))
 (ht:∀ fp s H,PDTs (cxC X N sc fp s H) ifs t) (he:∀ fp s H,PD (cxC X N sc fp s H) elt w) (ho:ownJs [0] js=true:=by rfl) (calm:X.calm=true:=by rfl) (hx':X.N[i]?=some x:=by rfl) (hx:Loc X.env.scope x:=by first | exact Or.inl rfl | exact Or.inr rfl) (hsw:swapsWith (.ListComp elt [⟨tg,iter,ifs,0⟩] sc pos) (some (.Name x pos')) spos.line X.env=pure true:=by rfl)
 (hs:∀ x,foldedSetIterable iter X.env x=pure x:=by intro _;rfl) (hf:X.fn x=true\/X.env.scope.names.lookup x=some .local:=by first | exact .inl rfl | exact .inr rfl | assumption) :
 PDS X (.Assign [.Name x pos'] (.ListComp elt [⟨tg,iter,ifs,0⟩] sc pos) spos) (dSet i (dComp m wi js (dgName 0) t w)):=sCp i m hN hc (fg 0) (eO 0) hi hg ht he ho calm hx' hx hsw hs hf
theorem dC1 (m:Bool)(hc:CompOk X N js sc)(hi:PDI X tg iter wi)(hg:∀ fp s H,N.Nodup->PG (cxC X N sc fp s H) tg (gName 0))(ht:∀ fp s H,PDTs (cxC X N sc fp s H) ifs t)(he:∀ fp s H,PD (cxC X N sc fp s H) elt w)(ho:ownJs [0] js=true:=by rfl)(calm:X.calm=true:=by rfl)
 (hs:∀ x,foldedSetIterable iter X.env x=pure x:=by intro _;rfl):PD X (.ListComp elt [⟨tg,iter,ifs,0⟩] sc pos) (dComp m wi js (dgName 0) t w):=dCp m hc (fg 0) (eO 0) hi hg ht he ho calm hs
end
end
end L2
namespace L2
open PySem PySem.Spec PyProof.Rows PyProof PySem.W
abbrev pA (s:Stmt):List Str:=(defArgs s).args.map (·.arg)
theorem mkSc {N P:List Str}{sc:Scope}(h1:sc.kind=.function:=by rfl)(h2:sc.isCoroutine=false:=by rfl)(h3:sc.isGenerator=false:=by rfl)(h4:N.Nodup:=by decide +kernel)(h5:N.take P.length=P:=by rfl)
 (h6:∀ x∈P,sc.names.lookup x=some .local\/sc.names.lookup x=some .cell:=by decide +kernel) (h7:∀ y∈sc.names,y.2≠.free:=by decide +kernel):FnScope N P sc:=⟨h1,h2,h3,h4,h5,h6,h7⟩
def kf (f c:Addr)(x q:Str)(s:Stmt)(pm:Value)(t l a r1 r2:Nat)(v1 v2:Value)(r3 t2:Nat):List (Addr×Obj):=[ko f (fnQ x q s pm c),ko c (coQ x q t l a r1 r2 v1 v2 r3 t2)]
def kf1 (f c:Addr)(x:Str)(s:Stmt)(pm:Value)(t l a r1 r2:Nat)(v1 v2:Value)(r3 t2:Nat):List (Addr×Obj):=kf f c x x s pm t l a r1 r2 v1 v2 r3 t2
def kx (P:Params)(a n h:Addr)(x:Str)(sl:Option Value)(t u:Nat)(m:Value)(i l:Nat)(st:Addr)(sub:List Value:=[])(bs:List Value:=[.ref h])(mro:List Value:=[.ref a,.ref h,.type "ValueError",.type "Exception",.type "BaseException",.type "object"]):List (Addr×Obj) :=
 [ko a ⟨.type "type",none,.cls ⟨x,bs,mro,n,x,true,[],sub,false,none,false⟩,#[sl,none,some (.str x t),some (.str x u),some (.builtin "ValueError.__new__"),some (.bool true)]⟩,
  ko n ⟨.type "dict",none,.dict #[enP P "__module__" i m,enP P "__firstlineno__" (i+4) (.int l (i+3)),enP P "__static_attributes__" (i+5) (.ref st),enP P "__doc__" (i+6) .none] 2,#[]⟩]
section
variable {K:Frag}{x q:Str}{s:Stmt}{f:Addr}{fd:FuncData}{ps:List Str}(F:Fun K x q s f fd)
include F
theorem bd1 (hl:ps.length=1:=by rfl)(h:∀(kV doc pm:Value) (an:Option Addr) (cdv ct a:Value),bindArgs (fnOf x q (defArgs s) (defBody s) (eV s) .none kV doc pm an cdv ct) ⟨[a],[]⟩=pure (ps.zip [a]):=by intros;rfl):Binds K fd ps []:=F.binds fun k d p n c t=>by rw[hl];exact bn1 fun a=>h k d p n c t a
theorem bd2 (hl:ps.length=2:=by rfl)(h:∀(kV doc pm:Value) (an:Option Addr) (cdv ct a b:Value),bindArgs (fnOf x q (defArgs s) (defBody s) (eV s) .none kV doc pm an cdv ct) ⟨[a,b],[]⟩=pure (ps.zip [a,b]):=by intros;rfl):Binds K fd ps []:=F.binds fun k d p n c t=>by rw[hl];exact bnS fun a=>bn1 fun b=>h k d p n c t a b
theorem bd3 (hl:ps.length=3:=by rfl)(h:∀(kV doc pm:Value) (an:Option Addr) (cdv ct a b e:Value),bindArgs (fnOf x q (defArgs s) (defBody s) (eV s) .none kV doc pm an cdv ct) ⟨[a,b,e],[]⟩=pure (ps.zip [a,b,e]):=by intros;rfl):Binds K fd ps []:=F.binds fun k d p n c t=>by rw[hl];exact bnS fun a=>bnS fun b=>bn1 fun e=>h k d p n c t a b e
theorem bd4 (hl:ps.length=4:=by rfl)(h:∀(kV doc pm:Value) (an:Option Addr) (cdv ct a b e g:Value),bindArgs (fnOf x q (defArgs s) (defBody s) (eV s) .none kV doc pm an cdv ct) ⟨[a,b,e,g],[]⟩=pure (ps.zip [a,b,e,g]):=by intros;rfl):Binds K fd ps []:=F.binds fun k d p n c t=>by rw[hl];exact bnS fun a=>bnS fun b=>bnS fun e=>bn1 fun g=>h k d p n c t a b e g
end
end L2
namespace L2
open PySem PySem.Spec PyProof.Rows PyProof
end L2
namespace L2
open PySem PySem.Spec PyProof.Rows PyProof
end L2
namespace L2
open PySem PySem.Spec PyProof.Rows PyProof
def w0 (n:Nat):Bool:=n==0
def w1 (n:Nat):Bool:=n==1
end L2
namespace L2
open PySem PySem.Spec PyProof.Rows PyProof
end L2
namespace L2
open PySem PySem.Spec PyProof.Rows PyProof
section
variable {X:Cx}{e st:Expr}{te:TE}{ts:TO}{p2 pos:Pos}
theorem pe_rev (he:PE X e te)(hst:PO X (some st) ts):PE X (.Subscript e (.Slice none none (some st) p2) pos) (fun σ H Q=>te σ H fun x H1=>ts σ H1 fun o H2=>o=some (-1)/\∃ a xs,x=.ref a/\SqL X.K H2 a xs/\∀ p,H2 p=none->Q (.ref p) (upd H2 p (.lst xs.reverse))):=by
 intro pins s σ H Q I h
 refine Subscript_ (thn (he pins s σ H _ I h) fun v s1 hq2=>?_)
 obtain⟨x,H1,I1,r1,q1⟩:=hq2
 refine wpAny_Slice ?_
 rw[evalPart_none]
 refine aa (aa (thn (hst pins s1 σ H1 _ I1 q1) fun vs s3 hq3=>?_))
 obtain⟨o,H3,I3,ps,q3⟩:=hq3
 obtain⟨rfl,a,xs,rfl,hx,q⟩:=q3
 cases r1
 have I4:Inv X pins σ H3 { s3 with heap:=s3.heap.push { cls:=.type "slice",data:=.fields #[.none,.none,vs]}}:=I3.kept (t':=s3.toks) fun b ob q=>gxL _ q
 obtain⟨fw,r,ht,hz⟩:=I4.list hx
 have hlen:=r.length
 show wpAny (model X.prog X.w) X.A (subscriptTail e (.Slice none none (some st) p2) (.ref a) (.ref s3.heap.objs.size)) (EP X pins σ Q) X.xe { s3 with heap:=s3.heap.push { cls:=.type "slice",data:=.fields #[.none,.none,vs]}}
 refine tail_any (ops:=[.ref a,.ref s3.heap.objs.size]) ht.isList.typeIs slot_list_getitem.lookup ?_ (by with_unfolding_all rfl)
 refine wpAny_getItem_list_slice ht.isList (Heap.IsSliceOf.new ..) .none .none ps (by decide) ?_ (by rw[ah]<;> omega)
 rw[PySem.W.krv_pick]
 refine⟨.ref _,_,I4.laid (t':=s3.toks) (o:=.lst xs.reverse) (fun b ob q=>gxL _ q) (ae _) ?_,rfl,q _ (I4.hok.fresh (ae _))⟩
 exact⟨by rw[cQ];exact hz,_,0,r.reverse,ak _ rfl⟩
def dRev (w:De)(st:DO):De:=fun ρ μ K=>w ρ μ fun x fB=>st ρ fB fun o μ2=>o=some (-1)/\opt (lv μ2 x) fun ds=>K (.lst ds.reverse) μ2
theorem d_rev {w:De}{l:DO}(ha:PD X e w)(hl:PO X (some st) (tDO l)):PD X (.Subscript e (.Slice none none (some st) p2) pos) (dRev w l):=(pe_rev ha hl).imp fun σ H Q hq=>by
 obtain⟨φ,ρ,μ,K,A,M,k,L⟩:=hq
 refine⟨φ,ρ,μ,_,A,M,k,fun d fB φ1 v1 H1 k1 f1 M1 i1=>?_⟩
 refine⟨φ1,ρ,fB,_,A.mono f1,M1,k1,fun lo μ2 φ2 H2 k2 f2 M2=>?_⟩
 have i3:=i1.mono f2
 have L3:=L.mono (f1.trans f2)
 obtain⟨e0,k2⟩:=k2
 obtain⟨ds,ed,k2⟩:=opt_ex k2
 obtain⟨p,vs,rfl,hp,ha⟩:=lv_is M2 i3 ed
 exact⟨e0,p,vs,rfl,SqL.of hp,fun l hl=>al_lst L3 M2 ha.rev k2 hl⟩
end
end L2
namespace L2
open PySem PySem.Spec PyProof.Rows
end L2
namespace L2
open PySem PySem.Spec PyProof.Rows PyProof
end L2
namespace L2
open PySem PySem.Spec PyProof.Rows PyProof
end L2
namespace L2
open PySem PySem.Spec PyProof.Rows PyProof
end L2
namespace L2
open PySem PySem.Spec PyProof.Rows PyProof
end L2
namespace L2
open PySem PySem.Spec PyProof.Rows PyProof
end L2
namespace L2
open PySem PySem.Spec PyProof.Rows PyProof
end L2
namespace L2
open PySem PySem.Spec PyProof.Rows PyProof
end L2
namespace L2
open PySem PySem.Spec PyProof.Rows PyProof
end L2
namespace L2
open PySem PySem.Spec PyProof.Rows PyProof
def pickM (f:Nat->Int):List Nat->Int->Option (Nat×Int)
 | [],_=>none
 | k::M,r=>if r<f k then some (k,r)else pickM f M (r - f k)
def bmk (es:List Int)(ts:List Tk):Nat->Nat->Nat->Int->Mak
 | 0,_,_,_=>.num 0
 | a+1,i,j,r=>if fo es ts (a+1) i j=0 then .num ((nTk es ts a i j).getD r.toNat 0:Nat)else
  match pickM (fun k=>ctP es ts a i k*ctP es ts a k j) (midP (fo es ts (a+1)) (fo es ts a) i j) r with
  | some (k,q)=>.tri (es.getD k 0) (bmk es ts a i k (q / ctP es ts a k j)) (bmk es ts a k j (q%ctP es ts a k j))
  | none=>.num 0
def Best (es:List Int)(ts:List Tk):Nat->Nat->Nat->Mak->Prop
 | 0,_,_,_=>False
 | a+1,i,j,t=>if fo es ts (a+1) i j=0 then ∃ x∈nTk es ts a i j,t=.num (x:Nat)else
  ∃ k∈midP (fo es ts (a+1)) (fo es ts a) i j,∃ l r,t=.tri (es.getD k 0) l r/\Best es ts a i k l/\Best es ts a k j r
def aheadM (es:List Int)(f:Nat->Int)(p:Int):List Nat->Option (Nat×Int)
 | []=>none
 | k::M=>if es.getD k 0=p then some (k,0)else(aheadM es f p M).map fun q=>(q.1,f k+q.2)
def rkT (l:List Nat):Mak->Option Int
 | .num n=>(l.findIdx? fun x:Nat=>decide ((x:Int)=n)).map fun i=>((i:Nat):Int)
 | .tri _ _ _=>none
def rkP (es:List Int)(ts:List Tk):Nat->Nat->Nat->Mak->Option Int
 | 0,_,_,_=>none
 | a+1,i,j,t=>if fo es ts (a+1) i j=0 then rkT (nTk es ts a i j) t else
  match t with
  | .num _=>none
  | .tri p l r=>match aheadM es (fun k=>ctP es ts a i k*ctP es ts a k j) p (midP (fo es ts (a+1)) (fo es ts a) i j)with
   | none=>none
   | some (k,h)=>match rkP es ts a i k l,rkP es ts a k j r with
    | some x,some y=>some (h+x*ctP es ts a k j+y)
    | _,_=>none
theorem pick_some {f:Nat->Int}:∀ {M:List Nat} {r:Int},0<=r->r<(M.map f).sum->∃ z k,M[z]?=some k/\pickM f M r=some (k,r - ((M.take z).map f).sum)/\0<=r - ((M.take z).map f).sum/\r - ((M.take z).map f).sum<f k
 | [],r,h0,h=>by simp at h;omega
 | k::M,r,h0,h=>by
  by_cases q:r<f k
  ·exact⟨0,k,rfl,by unfold pickM;rw[au q];simp,by simpa using h0,by simpa using q⟩
  ·rw[ag,bR]at h
   obtain⟨z,k',h1,h2,h3,h4⟩:=pick_some (f:=f) (M:=M) (r:=r - f k) (by omega) (by omega)
   refine⟨z+1,k',h1,?_,?_,?_⟩
   ·unfold pickM;rw[aq q,h2,cA,ag,bR];congr 2;omega
   ·rw[cA,ag,bR];omega
   ·rw[cA,ag,bR];omega
theorem ahead_some {es:List Int}{f:Nat->Int}{p:Int}:∀ {M:List Nat} {k:Nat} {h:Int},aheadM es f p M=some (k,h)->∃ z,M[z]?=some k/\es.getD k 0=p/\h=((M.take z).map f).sum
 | [],k,h,e=>by cases e
 | k'::M,k,h,e=>by
  unfold aheadM at e
  by_cases q:es.getD k' 0=p
  ·rw[au q]at e;cases e;exact⟨0,rfl,q,rfl⟩
  ·rw[aq q]at e
   cases e2:aheadM es f p M with
   | none=>rw[e2]at e;cases e
   | some x =>
    rw[e2]at e
    obtain⟨k2,h2⟩:=x
    cases e
    obtain⟨z,h1,h3,h4⟩:=ahead_some e2
    exact⟨z+1,h1,h3,by rw[cA,ag,bR,h4]⟩
theorem ahead_at {es:List Int}{f:Nat->Int}:∀ {M:List Nat} {z k:Nat},(∀ x∈M,∀ y∈M,es.getD x 0=es.getD y 0->x=y)->M.Nodup->M[z]?=some k->aheadM es f (es.getD k 0) M=some (k,((M.take z).map f).sum)
 | [],z,k,_,_,h=>by cases h
 | k'::M,0,k,hi,nd,h=>by cases h;unfold aheadM;rw[au rfl];rfl
 | k'::M,z+1,k,hi,nd,h=>by
  have hk:k∈M:=gxD (show M[z]?=some k from h)
  obtain⟨n1,n2⟩:=List.nodup_cons.mp nd
  unfold aheadM
  rw[aq fun e=>n1 (by rw[hi k' ao k (gxI _ hk) e];exact hk),ahead_at (z:=z) (fun x hx y hy=>hi x (gxI _ hx) y (gxI _ hy)) n2 h,cA,ag,bR]
  rfl
theorem pick_at {f:Nat->Int}:∀ {M:List Nat} {z k:Nat} {q:Int},(∀ x∈M,0<=f x)->M[z]?=some k->0<=q->q<f k->pickM f M (((M.take z).map f).sum+q)=some (k,q)/\((M.take z).map f).sum+q<(M.map f).sum/\0<=((M.take z).map f).sum
 | [],z,k,q,_,h,_,_=>by cases h
 | k'::M,0,k,q,hn,h,h0,h1=>by
  cases h
  have:=(sum_nn (f:=f) (l:=M) fun x hx=>hn x (gxI _ hx))
  refine⟨?_,?_,?_⟩
  ·unfold pickM;rw[List.take_zero,List.map_nil,List.sum_nil,Int.zero_add,au h1]
  ·rw[List.take_zero,List.map_nil,List.sum_nil,ag,bR];omega
  ·rw[List.take_zero,List.map_nil,List.sum_nil];exact a9 _
 | k'::M,z+1,k,q,hn,h,h0,h1=>by
  obtain⟨g1,g2,g3⟩:=pick_at (M:=M) (z:=z) (fun x hx=>hn x (gxI _ hx)) h h0 h1
  have:=hn k' ao
  rw[cA,ag,bR,ag,bR]
  refine⟨?_,by omega,by omega⟩
  unfold pickM
  rw[aq (by omega),show f k'+(List.map f (M.take z)).sum+q - f k'=(List.map f (M.take z)).sum+q by omega]
  exact g1
where sum_nn {f:Nat->Int}:∀ {l:List Nat},(∀ x∈l,0<=f x)->0<=(l.map f).sum
 | [],_=>a9 _
 | x::l,h=>by
  have:=h x ao
  have:=sum_nn (l:=l) fun y hy=>h y (gxI _ hy)
  rw[ag,bR];omega
theorem mid_nd (T U:Nat->Nat->Int)(i j:Nat):(midP T U i j).Nodup:=by
 unfold midP
 exact List.Pairwise.sublist List.filter_sublist (List.pairwise_map.mpr (List.Pairwise.imp (fun {a b} (q:a<b)=>by omega) List.pairwise_lt_range))
theorem nTk_nd (es:List Int)(ts:List Tk)(a:Int)(i j:Nat):(nTk es ts a i j).Nodup:=by
 unfold nTk
 exact List.Pairwise.sublist List.filter_sublist List.nodup_range
section
variable {es:List Int}{ts:List Tk}(hu:es.Pairwise (·<·))(hL:es.length<=100)(ht:ts.length<=100)
theorem es_inj (hu:es.Pairwise (·<·)){x y:Nat}(hx:x<es.length)(hy:y<es.length)(e:es.getD x 0=es.getD y 0):x=y:=by
 rcases dP x y with q | q | q
 ·have:=up_get hu (getD_some hx) (getD_some hy) q;omega
 ·exact q
 ·have:=up_get hu (getD_some hy) (getD_some hx) q;omega
include hu hL ht
theorem rk_bmk:∀(a i j:Nat) (r:Int),i<j->j<es.length->0<=r->r<ctP es ts a i j->rkP es ts a i j (bmk es ts a i j r)=some r
 | 0,i,j,r,_,_,h0,h=>by have:r<0:=h;omega
 | a+1,i,j,r,hij,hj,h0,h=>by
  unfold ctP at h
  unfold rkP bmk
  by_cases q:fo es ts (a+1) i j=0
  ·rw[au q]at h
   rw[au q,au q]
   have hr:r.toNat<(nTk es ts a i j).length:=by omega
   show((nTk es ts a i j).findIdx? _).map _=_
   have e:(nTk es ts a i j).findIdx? (fun x:Nat=>decide ((x:Int)=(((nTk es ts a i j).getD r.toNat 0:Nat):Int)))=some r.toNat:=by
    rw[dF]
    refine⟨hr,aE (by rw[af,gxA hr];rfl),fun k hk=>?_⟩
    rw[aZ]
    intro e
    rw[af,gxA hr]at e
    have e:(nTk es ts a i j)[k]=(nTk es ts a i j)[r.toNat]:=Int.ofNat_inj.mp (by simpa using e)
    exact absurd ((List.getElem_inj (nTk_nd es ts a i j)).mp e) (by omega)
   rw[e]
   show some ((r.toNat:Nat):Int)=some r
   rw[bO h0]
  ·rw[aq q]at h
   rw[aq q,aq q]
   obtain⟨z,k,e1,e2,e3,e4⟩:=pick_some (f:=fun k=>ctP es ts a i k*ctP es ts a k j) h0 h
   obtain⟨k1,k2,k3⟩:=mid_mem.mp (gxD e1)
   generalize hq:r - ((List.take z (midP (fo es ts (a+1)) (fo es ts a) i j)).map fun k=>ctP es ts a i k*ctP es ts a k j).sum=v at e2 e3 e4
   rw[e2]
   dsimp only
   rw[ahead_at (z:=z) (fun x hx y hy e=>es_inj hu (by have:=mid_mem.mp hx;omega) (by have:=mid_mem.mp hy;omega) e) (mid_nd _ _ i j) e1]
   dsimp only
   have b1:=ct_bd hL ht a i k k1 (by omega)
   have b2:=ct_bd hL ht a k j k2 hj
   have pos:0<ctP es ts a k j:=by
    rcases Int.lt_or_eq_of_le b2.1 with q | q
    ·exact q
    ·rw[<- q,Int.mul_zero]at e4;omega
   have d1:0<=v / ctP es ts a k j:=Int.ediv_nonneg e3 b2.1
   have d2:v / ctP es ts a k j<ctP es ts a i k:=Int.ediv_lt_of_lt_mul pos e4
   have m1:=Int.emod_nonneg v (show ctP es ts a k j≠0 by omega)
   have m2:=dz v pos
   rw[rk_bmk a i k _ k1 (by omega) d1 d2,rk_bmk a k j _ k2 hj m1 m2]
   dsimp only
   congr 1
   have:=Int.mul_ediv_add_emod v (ctP es ts a k j)
   rw[Int.mul_comm]at this
   omega
end
section
variable {es:List Int}{ts:List Tk}(hL:es.length<=100)(ht:ts.length<=100)
include hL ht
theorem bmk_rk:∀(a i j:Nat) (t:Mak) (r:Int),i<j->j<es.length->rkP es ts a i j t=some r->0<=r/\r<ctP es ts a i j/\bmk es ts a i j r=t
 | 0,i,j,t,r,_,_,h=>by cases h
 | a+1,i,j,t,r,hij,hj,h=>by
  unfold rkP at h
  unfold ctP bmk
  by_cases q:fo es ts (a+1) i j=0
  ·rw[au q]at h
   rw[au q,au q]
   cases t with
   | tri _ _ _=>cases h
   | num n =>
    have h:((nTk es ts a i j).findIdx? fun x:Nat=>decide ((x:Int)=n)).map (fun i=>((i:Nat):Int))=some r:=h
    cases e:(nTk es ts a i j).findIdx? fun x:Nat=>decide ((x:Int)=n)with
    | none=>rw[e]at h;cases h
    | some z =>
     rw[e]at h
     cases h
     rw[dF]at e
     obtain⟨e1,e2,_⟩:=e
     refine⟨by omega,by omega,?_⟩
     rw[gxK,af,gxA e1]
     rw[aZ]at e2
     show Mak.num _=_
     rw[<- e2];rfl
  ·rw[aq q]at h
   rw[aq q,aq q]
   cases t with
   | num _=>cases h
   | tri p l r' =>
    dsimp only at h
    cases ea:aheadM es (fun k=>ctP es ts a i k*ctP es ts a k j) p (midP (fo es ts (a+1)) (fo es ts a) i j)with
    | none=>rw[ea]at h;cases h
    | some x =>
     obtain⟨k,hd⟩:=x
     rw[ea]at h
     dsimp only at h
     obtain⟨z,e1,e2,e3⟩:=ahead_some ea
     obtain⟨k1,k2,k3⟩:=mid_mem.mp (gxD e1)
     cases el:rkP es ts a i k l with
     | none=>rw[el]at h;cases h
     | some x =>
      cases er:rkP es ts a k j r' with
      | none=>rw[el,er]at h;cases h
      | some y =>
       rw[el,er]at h
       cases h
       obtain⟨x0,x1,x2⟩:=bmk_rk a i k l x k1 (by omega) el
       obtain⟨y0,y1,y2⟩:=bmk_rk a k j r' y k2 hj er
       have xy0:0<=x*ctP es ts a k j+y:=by have:=dZ x0 (show 0<=ctP es ts a k j by omega);omega
       have xy1:x*ctP es ts a k j+y<ctP es ts a i k*ctP es ts a k j:=by
        have h1:(x+1)*ctP es ts a k j<=ctP es ts a i k*ctP es ts a k j:=Int.mul_le_mul_of_nonneg_right (by omega) (by omega)
        rw[Int.add_mul,Int.one_mul]at h1
        omega
       obtain⟨g1,g2,g3⟩:=pick_at (f:=fun k=>ctP es ts a i k*ctP es ts a k j) (fun m hm=>by
        obtain⟨m1,m2,_⟩:=mid_mem.mp hm
        exact dZ (ct_bd hL ht a i m m1 (by omega)).1 (ct_bd hL ht a m j m2 hj).1) e1 xy0 xy1
       rw[e3,Int.add_assoc]
       refine⟨by omega,g2,?_⟩
       rw[g1]
       dsimp only
       have cp:0<ctP es ts a k j:=by omega
       rw[show(x*ctP es ts a k j+y) / ctP es ts a k j=x by rw[Int.add_comm,Int.add_mul_ediv_right _ _ (by omega),Int.ediv_eq_zero_of_lt y0 y1,Int.zero_add],show(x*ctP es ts a k j+y)%ctP es ts a k j=y by rw[Int.add_comm,Int.add_mul_emod_self_right,Int.emod_eq_of_lt y0 y1],x2,y2,e2]
end
section
variable {es:List Int}{ts:List Tk}(hu:es.Pairwise (·<·))
include hu
theorem rk_best:∀(a i j:Nat) (t:Mak),i<j->j<es.length->((rkP es ts a i j t).isSome=true↔Best es ts a i j t)
 | 0,i,j,t,_,_=>⟨fun h=>(by cases h),fun h=>h.elim⟩
 | a+1,i,j,t,hij,hj=>by
  unfold rkP Best
  by_cases q:fo es ts (a+1) i j=0
  ·rw[au q,au q]
   cases t with
   | tri _ _ _=>exact⟨fun h=>(by cases h),fun⟨x,_,e⟩=>by cases e⟩
   | num n =>
    show(((nTk es ts a i j).findIdx? fun x:Nat=>decide ((x:Int)=n)).map (fun i=>((i:Nat):Int))).isSome=true↔_
    rw[dN,List.findIdx?_isSome,List.any_eq_true]
    constructor
    ·rintro⟨x,hx,e⟩
     exact⟨x,hx,by rw[bU e]⟩
    ·rintro⟨x,hx,e⟩
     cases e
     exact⟨x,hx,aE rfl⟩
  ·rw[aq q,aq q]
   cases t with
   | num _=>exact⟨fun h=>(by cases h),fun⟨x,_,_,_,e,_⟩=>by cases e⟩
   | tri p l r =>
    dsimp only
    constructor
    ·intro h
     cases ea:aheadM es (fun k=>ctP es ts a i k*ctP es ts a k j) p (midP (fo es ts (a+1)) (fo es ts a) i j)with
     | none=>rw[ea]at h;cases h
     | some x =>
      obtain⟨k,hd⟩:=x
      rw[ea]at h
      dsimp only at h
      obtain⟨z,e1,e2,e3⟩:=ahead_some ea
      have km:=gxD e1
      obtain⟨k1,k2,k3⟩:=mid_mem.mp km
      refine⟨k,km,l,r,by rw[e2],(rk_best a i k l k1 (by omega)).mp ?_,(rk_best a k j r k2 hj).mp ?_⟩
      ·cases el:rkP es ts a i k l with
       | none=>rw[el]at h;cases h
       | some x=>rfl
      ·cases er:rkP es ts a k j r with
       | none=>rw[er]at h;cases el:rkP es ts a i k l <;> (rw[el]at h;cases h)
       | some x=>rfl
    ·rintro⟨k,km,l',r',e,bl,br⟩
     cases e
     obtain⟨k1,k2,k3⟩:=mid_mem.mp km
     obtain⟨z,hz,ez⟩:=aJ km
     have e1:(midP (fo es ts (a+1)) (fo es ts a) i j)[z]?=some k:=by rw[gxA hz,ez]
     rw[ahead_at (z:=z) (fun x hx y hy e=>es_inj hu (by have:=mid_mem.mp hx;omega) (by have:=mid_mem.mp hy;omega) e) (mid_nd _ _ i j) e1]
     dsimp only
     obtain⟨x,hx⟩:=Option.isSome_iff_exists.mp ((rk_best a i k l k1 (by omega)).mpr bl)
     obtain⟨y,hy⟩:=Option.isSome_iff_exists.mp ((rk_best a k j r k2 hj).mpr br)
     rw[hx,hy];rfl
end
end L2
namespace L2
open PySem PySem.Spec PyProof.Rows PyProof
theorem nTk_mem {es:List Int}{ts:List Tk}{a:Int}{i j x:Nat}:x∈nTk es ts a i j↔∃ t,ts[x]?=some t/\t.2<=a/\es.getD j 0<=farF es t.1 (es.getD i 0):=by
 unfold nTk
 rw[List.mem_filter,bX]
 constructor
 ·rintro⟨h1,h2⟩
  rw[gxA h1]at h2 ⊢
  dsimp only at h2
  rw[bh,aZ,aZ]at h2
  exact⟨_,rfl,h2⟩
 ·rintro⟨t,e,h1,h2⟩
  refine⟨(gxB e).1,?_⟩
  rw[e]
  dsimp only
  rw[aE h1,aE h2];rfl
theorem end_cut {n:Int}{cs:List Int}{k:Nat}(h0:0<k)(h1:k<cs.length+1):(eM n cs).getD k 0∈cs:=by
 obtain⟨k,rfl⟩:∃ x,k=x+1:=⟨k - 1,by omega⟩
 have e:(eM n cs)[k+1]?=some cs[k]:=by
  unfold eM
  rw[dc,cS,gxF (by omega),gxA]
 rw[af,e]
 exact bw _
theorem cut_end {n:Int}{cs:List Int}{p:Int}(h:p∈cs):∃ k,k<(eM n cs).length/\(eM n cs).getD k 0=p:=by
 have:p∈eM n cs:=by unfold eM;simp[h]
 obtain⟨k,hk,e⟩:=aJ this
 exact⟨k,hk,by rw[af,gxA hk,e];rfl⟩
theorem up_of {es:List Int}(hu:es.Pairwise (·<·)){x y:Nat}(hx:x<es.length)(hy:y<es.length)(h:es.getD x 0<es.getD y 0):x<y:=by
 rcases dP x y with q | q | q
 ·exact q
 ·subst q;omega
 ·have:=up_get hu (getD_some hy) (getD_some hx) q;omega
theorem tab_own0 {n:Int}{cs:List Int}{ts:List Tk}{a i j:Nat}(hi:i<(eM n cs).length)(h:(eM n cs).getD j 0<=ownE (eM n cs) ts a ((eM n cs).getD i 0)):fo (eM n cs) ts (a+1) i j=0:=by
 show stepP _ _ _ _ i j=0
 unfold stepP
 rw[au]
 rw[own_getD' (getD_some hi)];exact h
theorem mak_mkd {cs:List Int}{ts:List Tk}:∀ {t:Mak},t.ok cs ts.length->Mkd cs ts t.dep (t.val ts).1 (t.val ts).2
 | .num x,ok=>by
  obtain⟨t,e⟩:∃ t,ts[x.toNat]?=some t:=⟨_,gxA (by have:=ok.1;have:=ok.2;omega)⟩
  rw[Mak.val_num e]
  exact gxD e
 | .tri p l r,ok=>.inr ⟨_,_,_,_,p,(mak_mkd ok.2.1).le (Nat.le_max_left _ _),(mak_mkd ok.2.2).le (Nat.le_max_right _ _),ok.1,rfl,rfl⟩
section
variable {n:Int}{cs:List Int}{ts:List Tk}(S:Shelf n cs ts)
include S
theorem tab_join {a i j k:Nat}(h1:i<k)(h2:k<j)(hj:j<(eM n cs).length):fo (eM n cs) ts (a+1) i j<=fo (eM n cs) ts a i k+fo (eM n cs) ts a k j+1:=by
 have tb:=tb_ok S
 have n1:=tb.nn a i k (by omega) (by omega)
 have n2:=tb.nn a k j (by omega) hj
 show stepP _ _ _ _ i j<=_
 unfold stepP
 split
 ·omega
 ·exact(fmin_is _ _).2.2 _ (join_mem.mpr ⟨k,h1,h2,rfl⟩)
theorem tks_ok:∀ t∈ts,TkOk n t:=fun t h=>⟨(S.takes.ok t h).1,(S.takes.ok t h).2.2.1⟩
theorem best_good:∀(a i j:Nat) (t:Mak),i<j->j<(eM n cs).length->Best (eM n cs) ts a i j t->t.ok cs ts.length/\(t.cnt:Int)=fo (eM n cs) ts a i j+1/\(t.val ts).2+1<=a/\Cln (t.val ts).1 ((eM n cs).getD i 0) ((eM n cs).getD j 0)
 | 0,i,j,t,_,_,h=>h.elim
 | a+1,i,j,t,hij,hj,h=>by
  unfold Best at h
  have hel:=fk n cs
  by_cases q:fo (eM n cs) ts (a+1) i j=0
  ·rw[au q]at h
   obtain⟨x,hx,rfl⟩:=h
   obtain⟨t,e,h1,h2⟩:=nTk_mem.mp hx
   have hxl:=(gxB e).1
   have ok:=S.takes.ok t (gxD e)
   have ev:(Mak.num (x:Nat)).val ts=t:=Mak.val_num (by rw[gxK];exact e)
   have ei:=ends_in S.n1 S.cuts (gxD (getD_some (show i<(eM n cs).length by omega)))
   refine⟨⟨by omega,by omega⟩,by rw[q];rfl,by rw[ev];omega,?_⟩
   rw[ev]
   exact far_cln ok.2.1 ei.1 (by have:=ok.1;omega) h2
  ·rw[aq q]at h
   obtain⟨k,hk,l,r,rfl,bl,br⟩:=h
   obtain⟨k1,k2,k3⟩:=mid_mem.mp hk
   obtain⟨l1,l2,l3,l4⟩:=best_good a i k l k1 (by omega) bl
   obtain⟨r1,r2,r3,r4⟩:=best_good a k j r k2 hj br
   have hc:=end_cut (n:=n) (cs:=cs) (k:=k) (by omega) (by omega)
   have hp:=S.cuts.inn _ hc
   have vl:=(Mak.val_ok (tks_ok S) l1).1
   refine⟨⟨hc,l1,r1⟩,?_,?_,?_⟩
   ·show((l.cnt+r.cnt:Nat):Int)=_
    omega
   ·show max (l.val ts).2 (r.val ts).2+1+1<=_
    omega
   ·intro x x1 x2
    show(jnT (l.val ts).1 (r.val ts).1 _)[x]?=_
    by_cases z:(x:Int)<(eM n cs).getD k 0
    ·rw[jnT_low (by omega) z];exact l4 x x1 z
    ·rw[jnT_high (by omega) (by omega) (by omega)];exact r4 x (by omega) x2
theorem clean_best:∀(t:Mak) (a i j:Nat),i<j->j<(eM n cs).length->t.ok cs ts.length->(t.val ts).2<=a->Cln (t.val ts).1 ((eM n cs).getD i 0) ((eM n cs).getD j 0)->fo (eM n cs) ts (a+1) i j+1<=t.cnt/\((t.cnt:Int)=fo (eM n cs) ts (a+1) i j+1->Best (eM n cs) ts (a+1) i j t)
 | .num x,a,i,j,hij,hj,ok,ha,hc=>by
  obtain⟨x,rfl⟩:∃ y:Nat,x=y:=⟨x.toNat,by have:=ok.1;omega⟩
  have hx:x<ts.length:=by have:=ok.2;omega
  obtain⟨t,e⟩:∃ t,ts[x]?=some t:=⟨_,gxA hx⟩
  have ev:(Mak.num (x:Nat)).val ts=t:=Mak.val_num (by rw[gxK];exact e)
  rw[ev]at ha hc
  have tk:=S.takes.ok t (gxD e)
  have hu:=ends_up S.n1 S.cuts
  have gi:=getD_some (show i<(eM n cs).length by omega)
  have gj:=getD_some hj
  have ei:=ends_in S.n1 S.cuts (gxD gi)
  have ej:=ends_in S.n1 S.cuts (gxD gj)
  have lt:=up_get hu gi gj hij
  have far:=cln_far (es:=eM n cs) tk.2.1 ei.1 (by omega) (by have:=tk.1;omega) (gxD gj) hc
  have t0:=tab_own0 (n:=n) (cs:=cs) (ts:=ts) (a:=a) (i:=i) (j:=j) (by omega) (b8 far (own_far (gxD e) ha))
  refine⟨by rw[t0];show(0:Int)+1<=((1:Nat):Int);decide,fun _=>?_⟩
  unfold Best
  rw[au t0]
  exact⟨x,nTk_mem.mpr ⟨t,e,ha,far⟩,rfl⟩
 | .tri p l r,a,i,j,hij,hj,ok,ha,hc=>by
  obtain⟨pc,ol,or⟩:=ok
  have hp:=S.cuts.inn p pc
  have hu:=ends_up S.n1 S.cuts
  have vl:=Mak.val_ok (tks_ok S) ol
  have vr:=Mak.val_ok (tks_ok S) or
  have hl1:=vl.1
  have ha:max (l.val ts).2 (r.val ts).2+1<=(a:Int):=ha
  have hc:Cln (jnT (l.val ts).1 (r.val ts).1 p) ((eM n cs).getD i 0) ((eM n cs).getD j 0):=hc
  have cp:=l.cnt_pos
  have cr:=r.cnt_pos
  have ec:(((Mak.tri p l r).cnt:Nat):Int)=(l.cnt:Int)+r.cnt:=by show((l.cnt+r.cnt:Nat):Int)=_;omega
  rw[ec]
  by_cases q1:(eM n cs).getD j 0<=p
  ·have:=(clean_best l a i j hij hj ol (by omega) fun k k1 k2=>by rw[<- jnT_low (l2:=(r.val ts).1) (p:=p) (by omega) (by omega)];exact hc k k1 k2).1
   exact⟨by omega,fun e=>by omega⟩
  by_cases q2:p<=(eM n cs).getD i 0
  ·have:=(clean_best r a i j hij hj or (by omega) fun k k1 k2=>by rw[<- jnT_high (l1:=(l.val ts).1) (p:=p) (by omega) (by omega) (by omega)];exact hc k k1 k2).1
   exact⟨by omega,fun e=>by omega⟩
  obtain⟨k,hk,ek⟩:=cut_end (n:=n) pc
  have k1:i<k:=up_of hu (by omega) hk (by omega)
  have k2:k<j:=up_of hu hk hj (by omega)
  have v0:=vl.2
  have v1:=vr.2
  obtain⟨a,rfl⟩:∃ x,a=x+1:=⟨a - 1,by omega⟩
  have il:=clean_best l a i k k1 hk ol (by omega) fun x x1 x2=>by rw[<- jnT_low (l2:=(r.val ts).1) (p:=p) (by omega) (by omega)];exact hc x x1 (by omega)
  have ir:=clean_best r a k j k2 hj or (by omega) fun x x1 x2=>by rw[<- jnT_high (l1:=(l.val ts).1) (p:=p) (by omega) (by omega) (by omega)];exact hc x (by omega) x2
  have tj:=tab_join S (a:=a+1) k1 k2 hj
  refine⟨by omega,fun e=>?_⟩
  have tb:=tb_ok S
  have n1:=tb.nn (a+1) i k (by omega) (by omega)
  have n2:=tb.nn (a+1) k j (by omega) hj
  unfold Best
  rw[aq (by omega)]
  exact⟨k,mid_mem.mpr ⟨k1,k2,by omega⟩,l,r,by rw[ek],il.2 (by omega),ir.2 (by omega)⟩
theorem clean_old {t:Mak}{A:Nat}(hl:LeastIs (eM n cs) ts n A)(ok:t.ok cs ts.length)(hc:Cln (t.val ts).1 0 n):(A:Int)<=(t.val ts).2:=by
 have v:=Mak.val_ok (tks_ok S) ok
 have v2:=v.2
 have n1:=S.n1
 have nm:n∈eM n cs:=by unfold eM;simp
 have h:=mk_sound S (a:=(t.val ts).2.toNat) (mak_mkd ok) (by omega) 0 n (ends_mem0 n cs) nm (by omega) hc
 have h2:=ends_in S.n1 S.cuts ((RF_step S (t.val ts).2.toNat).mem 0 (ends_mem0 n cs))
 have:=least_le S (a:=(t.val ts).2.toNat) (by omega) hl
 omega
theorem best_iff {t:Mak}{A:Nat}(hl:LeastIs (eM n cs) ts n A):Best (eM n cs) ts (A+1) 0 (cs.length+1) t↔(t.ok cs ts.length/\t.val ts=(List.replicate n.toNat 111,(A:Int))/\(t.cnt:Int)=fo (eM n cs) ts (A+1) 0 (cs.length+1)+1):=by
 have hel:=fk n cs
 have g0:(eM n cs).getD 0 0=0:=by rw[af,ends_0];rfl
 have gn:(eM n cs).getD (cs.length+1) 0=n:=by rw[af,ends_lastN];rfl
 constructor
 ·intro h
  obtain⟨h1,h2,h3,h4⟩:=best_good S _ _ _ _ (by omega) (by omega) h
  rw[g0,gn]at h4
  have:=clean_old S hl h1 h4
  have v:=Mak.val_ok (tks_ok S) h1
  exact⟨h1,Prod.ext (cln_all v.1 h4) (by show(t.val ts).2=(A:Int);omega),h2⟩
 ·rintro⟨h1,h2,h3⟩
  refine(clean_best S t A 0 (cs.length+1) (by omega) (by omega) h1 (by rw[h2];exact a9 _) ?_).2 h3
  rw[g0,gn,h2]
  exact all_cln n 0 n (a9 _) (a9 _)
end
end L2
namespace L2
open PySem PySem.Spec PyProof.Rows PyProof
section
variable {es:List Int}{ts:List Tk}(hu:es.Pairwise (·<·))(hL:es.length<=100)(ht:ts.length<=100)
include hu hL ht
end
def fNumb (C:Addr)(n:Nat):DSp:=fun ds μ K=>match ds with
 | [.mr k,s,.int r]=>∃(es:List Int) (ts:List Tk) (A j a i b:Nat) (ks:List (List Key)) (dd:List D),Bm C μ k es ts A j a i b/\s=stD a i b/\a<n/\TbOk es ts/\k≠j/\μ[j]?=some (.dtu ks dd)/\Memo es ts A ks dd/\0<=r/\r<ctP es ts (a+1) i b /\
  ∀ ks' dd',Memo es ts A ks' dd'->K (mkD (bmk es ts (a+1) i b r)) (μ.set j (.dtu ks' dd'))
 | _=>False
theorem fNumb_zero {C:Addr}(vs:List V)(H:Hp)(Q:VK)(E:XK):¬ spD (fNumb C 0) vs H Q E:=fun h=>by
 obtain⟨φ,ds,μ,K,_,_,h,_⟩:=h
 unfold fNumb at h
 split at h
 ·obtain⟨es,ts,A,j,a,i,b,ks,dd,_,_,h,_⟩:=h;omega
 ·exact h
end L2
namespace L2
open PySem PySem.Spec PyProof.Rows PyProof
theorem ip_subC {X:Cx}:PIp X .Sub (ipC fun i j=>i - j):=by
 intro pins s σ H x y v u Q I r1 r2 h
 unfold ipC at h
 split at h
 ·exact ip_sub pins s σ H _ _ v u Q I r1 r2 ⟨_,_,rfl,rfl,h⟩
 ·exact h.elim
def CDivB (_ j:Int):Prop:=0<j/\∃ d:Nat,d<=1000/\j<=128 ^ d
theorem noPy {i j:Int}(h:CDivB i j):Builtin.divisionGoesByPylong i j=false:=by
 obtain⟨h0,d,hd,h⟩:=h
 have e:(128:Int) ^ d=((2 ^ (7*d):Nat):Int):=by rw[Nat.pow_mul];norm_cast
 have h1:j.natAbs<2 ^ (7*d+1):=by rw[Nat.pow_succ];omega
 have h2:j.natAbs.log2<7*d+1:=(Nat.log2_lt (by omega)).mpr h1
 unfold Builtin.divisionGoesByPylong
 dsimp only
 rw[Bool.and_eq_false_iff]
 left
 rw[decide_eq_false_iff_not]
 split <;> omega
section
variable {X:Cx}
theorem op_fdivB:OpR X (binaryOp .FloorDiv) (rI CDivB fun i j=>.int (i / j)):=opI fun i j _ _ _ _ _ hc q=>by
 have h1:(0:Int)<j:=hc.1
 exact floordiv_int (by omega) (by rw[Int.fdiv_eq_ediv_of_nonneg i (by omega)];exact q) (.inl (noPy hc))
theorem divV:OpR X (binaryOp .FloorDiv) (rI2 CDivB fun i j=>.int (i / j)):=op_fdivB.i2
end
def dDivB:DOp:=fun x y μ K=>match x,y with
 | .int i,.int j=>CDivB i j/\K (.int (i / j)) μ
 | _,_=>False
theorem so_divB:SoOp (rI CDivB fun i j=>.int (i / j)) dDivB:=fun φ H x y dx dy μ K Q M hx hy k L=>by
 unfold dDivB at k
 split at k
 ·cases(show x=_ from hx);cases(show y=_ from hy);exact⟨_,_,rfl,rfl,k.1,L.val M k.2 rfl⟩
 ·exact k.elim
theorem ct_div {es:List Int}{ts:List Tk}(hL:es.length<=100)(ht:ts.length<=100){a i j:Nat}(h1:i<j)(hj:j<es.length){v:Int}(h:0<ctP es ts a i j):CDivB v (ctP es ts a i j):=⟨h,_,by omega,(ct_bd hL ht a i j h1 hj).2⟩
def spTakeB:Sp:=fun vs H Q _=>∃ b n q,vs=[.ref b,.int n]/\BxQ H b q/\0<n/\(∃ d:Nat,d<=1000/\n<=128 ^ d)/\∀ v H',0<=v->v<n->BxQ H' b q->OB b H H'->Q (.int v) H'
def fTakeB:DSp:=fun ds μ K=>match ds with
 | [.mr k,.int n]=>μ[k]?=some .box/\0<n/\(∃ d:Nat,d<=1000/\n<=128 ^ d)/\∀ v,0<=v->v<n->K (.int v) μ
 | _=>False
theorem take_impB {vs:List V}{H:Hp}{Q:VK}{E:XK}(h:spD fTakeB vs H Q E):spTakeB vs H Q E:=by
 obtain⟨φ,ds,μ,K,ha,M,k,L⟩:=h
 unfold fTakeB at k
 split at k
 ·rename_i kk n
  obtain⟨v,r,rfl,h1,u,r',rfl,h2,h3⟩:=ha
  cases(show r'=[]from h3);cases(show u=_ from h2)
  obtain⟨b,hb,rfl⟩:=h1
  obtain⟨em,hn,hn2,k⟩:=k
  obtain⟨b',e1,q,ns,i,r,z,g1,g2,g3,g4,g5,g6⟩:=M.at_ kk _ em
  rw[hb]at e1;cases e1
  have bin:b∈φ:=gxD hb
  have qb:q≠b:=fun e=>g3 (by rw[e];exact bin)
  refine⟨b,n,q,rfl,⟨ns,i,r,z,g1,g2,qb,g4,g5,g6⟩,hn,hn2,fun v H' v0 v1 B' ob=>?_⟩
  obtain⟨ns',i',r',z',b1,b2,b3,b4,b5,b6⟩:=B'
  have f:Fr φ H φ H':=⟨⟨[],by simp,fun _ h=>nomatch h⟩,fun c o hc e=>(ob c (fun e'=>hc (by rw[e'];exact bin))).trans e,fun c e=>by
   by_cases hc:c=b
   ·rw[hc,b1]at e;cases e
   ·rw[<- ob c hc];exact e⟩
  refine L _ μ φ _ H' (k v v0 v1) f ⟨M.nd,M.len,fun j m ej=>?_⟩ rfl
  by_cases hj:j=kk
  ·subst hj
   rw[em]at ej;cases ej
   exact⟨b,hb,q,ns',i',r',z',b1,b2,g3,b4,b5,b6⟩
  ·obtain⟨p,e1,e2⟩:=M.at_ j m ej
   refine⟨p,e1,e2.mono f fun o eo=>?_⟩
   have pb:p≠b:=fun e=>by
    subst e
    obtain⟨i1,r1⟩:=gxB hb
    obtain⟨i2,r2⟩:=gxB e1
    rcases Nat.lt_or_gt_of_ne hj with z | z
    ·exact List.pairwise_iff_getElem.mp M.nd j kk i2 i1 z (r2.trans r1.symm)
    ·exact List.pairwise_iff_getElem.mp M.nd kk j i1 i2 z (r1.trans r2.symm)
   rw[ob p pb];exact eo
 ·exact k.elim
theorem take_toB {vs:List V}{H:Hp}{Q:VK}{E:XK}(h:spD fTake vs H Q E):spD fTakeB vs H Q E:=by
 obtain⟨φ,ds,μ,K,ha,M,k,L⟩:=h
 refine⟨φ,ds,μ,K,ha,M,?_,L⟩
 unfold fTake at k
 split at k
 ·exact⟨k.1,k.2.1,⟨5,by decide,by have:=k.2.2.1;omega⟩,k.2.2.2⟩
 ·exact k.elim
def fTakeRank (cB:Addr):DSpX:=fun ds μ K Kx=>match ds with
 | [.lst y,x]=>(∃ m,μ[0]?=some m)/\∃(l:List Nat) (t:Mak),y=l.map (fun x=>.int (x:Nat))/\l.length<=1000/\x=mkD t/\(match rkT l t with | some r=>K (.int r) μ | none=>Kx (.ref cB) μ)
 | _=>False
theorem fTakeRank_len {cB:Addr}{ds:List D}{μ:MS}{K:DK}{Kx:DX}(h:fTakeRank cB ds μ K Kx):ds.length=2/\∃ m,μ[0]?=some m:=by
 unfold fTakeRank at h
 split at h
 ·exact⟨rfl,h.1⟩
 ·exact h.elim
def fRank (C cB:Addr)(n:Nat):DSpX:=fun ds μ K Kx=>match ds with
 | [.mr k,s,x]=>(∃ m,μ[0]?=some m)/\∃(es:List Int) (ts:List Tk) (A j a i b:Nat) (ks:List (List Key)) (dd:List D) (t:Mak),Bm C μ k es ts A j a i b/\s=stD a i b/\x=mkD t/\a<n/\TbOk es ts/\es.Pairwise (·<·)/\k≠j/\k≠0/\j≠0/\μ[j]?=some (.dtu ks dd)/\Memo es ts A ks dd /\
  (match rkP es ts (a+1) i b t with
   | some r=>∀ ks' dd',Memo es ts A ks' dd'->K (.int r) (μ.set j (.dtu ks' dd'))
   | none=>∀ ks' dd',Memo es ts A ks' dd'->Kx (.ref cB) (μ.set j (.dtu ks' dd')))
 | _=>False
theorem fRank_len {C cB:Addr}{n:Nat}{ds:List D}{μ:MS}{K:DK}{Kx:DX}(h:fRank C cB n ds μ K Kx):ds.length=3/\∃ m,μ[0]?=some m:=by
 unfold fRank at h
 split at h
 ·exact⟨rfl,h.1⟩
 ·exact h.elim
theorem fRank_zero {C cB:Addr}(vs:List V)(H:Hp)(Q:VK)(E:XK):¬ spX (fRank C cB 0) vs H Q E:=fun h=>by
 obtain⟨φ,ds,μ,K,Kx,_,_,h,_⟩:=h
 unfold fRank at h
 split at h
 ·obtain⟨_,es,ts,A,j,a,i,b,ks,dd,t,_,_,_,h,_⟩:=h;omega
 ·exact h
theorem FnOk.neverX {P:Program}{w:World}{K:PySem.W.Frag}{mg:Str->Option Value}{base:Heap}{k:Nat}{f:Addr}{fd:FuncData}{ps:List Str}{sp:Sp}(h:∀ vs H Q E,¬ sp vs H Q E):FnOk P w K mg base (CX1 P w) k f fd ps sp :=
 ⟨fun vs H Q E q=>(h vs H Q E q).elim,fun A outer s H args us vs Q E _ _ _ _ q=>(h vs H Q E q).elim⟩
def bestK (es:List Int)(ts:List Tk)(n:Int)(r:Int)(μ:MS)(K:DK)(X:Prop):Prop:=match barOf es ts with
 | some _=>X
 | none=>∀ a:Nat,a<=66->LeastIs es ts n a->if 0<=r/\r<ctP es ts (a+1) 0 (es.length - 1)then K (mkD (bmk es ts (a+1) 0 (es.length - 1) r)) μ else X
def fBestOf (cN:Addr):DSpX:=fun ds μ K Kx=>match ds with
 | [.int n,.lst x,.lst y,.int r]=>(∃ m,μ[0]?=some m)/\∃(cs:List Int) (ts:List Tk),x=cs.map D.int/\y=ts.map tkD/\Shelf n cs ts/\cs.length<=60/\bestK (eM n cs) ts n r μ K (Kx (.ref cN) μ)
 | _=>False
theorem fBestOf_len {cN:Addr}{ds:List D}{μ:MS}{K:DK}{Kx:DX}(h:fBestOf cN ds μ K Kx):ds.length=4/\∃ m,μ[0]?=some m:=by
 unfold fBestOf at h
 split at h
 ·exact⟨rfl,h.1⟩
 ·exact h.elim
def numK (es:List Int)(ts:List Tk)(n:Int)(t:Mak)(μ:MS)(K:DK)(X:Prop):Prop:=match barOf es ts with
 | some _=>X
 | none=>∀ a:Nat,a<=66->LeastIs es ts n a->match rkP es ts (a+1) 0 (es.length - 1) t with | some r=>K (.int r) μ | none=>X
def fNumOf (cB:Addr):DSpX:=fun ds μ K Kx=>match ds with
 | [.int n,.lst x,.lst y,d]=>(∃ m,μ[0]?=some m)/\∃(cs:List Int) (ts:List Tk) (t:Mak),x=cs.map D.int/\y=ts.map tkD/\d=mkD t/\Shelf n cs ts/\cs.length<=60/\numK (eM n cs) ts n t μ K (Kx (.ref cB) μ)
 | _=>False
theorem fNumOf_len {cB:Addr}{ds:List D}{μ:MS}{K:DK}{Kx:DX}(h:fNumOf cB ds μ K Kx):ds.length=4/\∃ m,μ[0]?=some m:=by
 unfold fNumOf at h
 split at h
 ·exact⟨rfl,h.1⟩
 ·exact h.elim
def isI:V->Bool
 | .int _=>true
 | _=>false
def isID:D->Bool
 | .int _=>true
 | _=>false
theorem isI_val:∀ {xs:List V} {us:List Value},Vals xs us->xs.all isI=true->∀ u∈us,∃ i t,u=.int i t
 | _,_,.nil,_=>fun u hu=>by cases hu
 | y::xs,u::us,.cons r t,f=>fun u' hu=>by
  rw[cn,bh]at f
  rcases List.mem_cons.mp hu with rfl | hu
  ·cases y with
   | int i=>obtain⟨t,rfl⟩:=r;exact⟨_,_,rfl⟩
   | _=>cases f.1
  ·exact isI_val t f.2 u' hu
def rNiT (K:PySem.W.Frag):R2:=fun x y H Q=>∃ p xs q zs,y=.ref p/\SqL K H p xs/\xs.all isI=true/\x=.ref q/\SqT K H q zs/\Q (.bl true) H
theorem notInT {X:Cx}(hu:X.A.units+1<cLine):OpR X (compareOp .NotIn) (rNiT X.K):=by
 intro pins s σ H x y v u Q I rx ry h
 obtain⟨p,xs,q,zs,rfl,hq,fs,rfl,ht,k⟩:=h
 cases ry;cases rx
 obtain⟨fw,r,pl,hz⟩:=I.list hq
 obtain⟨its2,r2,pl2,hz2⟩:=I.tuple ht
 refine SeqAt.notIn_listAt (fun _=>false) pl.isList (fun w hw=>?_) ⟨.bl _,H,I,rfl,?_⟩
 ·obtain⟨i,t,rfl⟩:=isI_val r fs w (by simpa using hw)
  exact SeqAt.EqAt.int_tuple _ _ pl2 hu
 ·have:fw.toArray.any (fun _=>false)=false:=by simp
  rw[this];exact k
theorem niM {X:Cx}(hu:X.A.units+1<cLine):OpR X (compareOp .NotIn) (fun x y H Q=>rInC true x y H Q\/rNiT X.K x y H Q):=notInC.or (notInT hu)
def dNiM:DOp:=fun x y μ K=>match x with
 | .tup _=>opt (lv μ y) fun ds=>ds.all isID=true/\K (.bl true) μ
 | x=>dIn true x y μ K
theorem isI_all {φ:List Addr}{H:Hp}:∀ {ds:List D} {vs:List V},fc φ H ds vs->ds.all isID=true->vs.all isI=true
 | [],vs,h,_=>by cases(show vs=[]from h);rfl
 | d::ds,vs,h,f=>by
  obtain⟨v,r,rfl,h1,h2⟩:=h
  rw[cn,bh]at f
  cases d with
  | int i=>cases(show v=_ from h1);rw[cn,isI_all h2 f.2];rfl
  | _=>cases f.1
theorem so_niM {K:PySem.W.Frag}:SoOp (fun x y H Q=>rInC true x y H Q\/rNiT K x y H Q) dNiM:=fun φ H x y dx dy μ K Q M hx hy k L=>by
 unfold dNiM at k
 split at k
 ·obtain⟨ds,el,f1,k⟩:=opt_ex k
  obtain⟨p,vs,rfl,hp,ha⟩:=lv_is M hy el
  obtain⟨q,zs,rfl,_,hq,_⟩:=hx
  exact .inr ⟨p,vs,q,zs,rfl,SqL.of hp,isI_all ha f1,rfl,SqT.of hq,L.val M k rfl⟩
 ·exact .inl (so_in φ H x y _ dy μ K Q M hx hy k L)
theorem ahead_none {es:List Int}{f:Nat->Int}{p:Int}:∀ {M:List Nat},(∀ x∈M,es.getD x 0≠p)->aheadM es f p M=none
 | [],_=>rfl
 | k::M,h=>by
  unfold aheadM
  rw[aq (h k ao),ahead_none fun x hx=>h x (gxI _ hx)]
  rfl
theorem Bm.set0 {C:Addr}{μ:MS}{k i0:Nat}{es:List Int}{ts:List Tk}{A j a i b:Nat}{m:MO}(h:Bm C μ k es ts A j a i b)(hk:k≠i0):Bm C (μ.set i0 m) k es ts A j a i b:=⟨by rw[aG (aY hk)];exact h.at_,h.ha,h.hib,h.hb,h.hl,h.ht,h.hA,h.ok⟩
theorem rkT_in {l:List Nat}{n:Int}:((l.map fun x=>D.int (x:Nat)).any fun d=>deq d (mkD (.num n)))=(rkT l (.num n)).isSome:=by
 show _=((l.findIdx? fun x:Nat=>decide ((x:Int)=n)).map (fun i=>((i:Nat):Int))).isSome
 rw[dN,List.findIdx?_isSome,List.any_map]
 congr 1
end L2
namespace L2
open PySem PySem.Spec PyProof.Rows PyProof
def dOrO (a b:DOp):DOp:=fun x y μ K=>a x y μ K\/b x y μ K
theorem so_or {r1 r2:R2}{d1 d2:DOp}(h1:SoOp r1 d1)(h2:SoOp r2 d2):SoOp (fun x y H Q=>r1 x y H Q\/r2 x y H Q) (dOrO d1 d2):=fun φ H x y dx dy μ K Q M hx hy k L=>by
 rcases k with k | k
 ·exact .inl (h1 φ H x y dx dy μ K Q M hx hy k L)
 ·exact .inr (h2 φ H x y dx dy μ K Q M hx hy k L)
def fWholeT:DSp:=fun ds μ K=>match ds with
 | [d]=>∃ t:Mak,d=mkD t/\K (.bl (!mkTri t)) μ
 | _=>False
theorem sm_mk:∀(t:Mak) {n:Nat},t.dep<=n->smD n (mkD t)
 | .num _,n,_=>sm_int
 | .tri p l r,n,h=>by
  have h:max l.dep r.dep+1<=n:=h
  obtain⟨n,rfl⟩:∃ n',n=n'+1:=⟨n - 1,by omega⟩
  refine sm_tup (by simp only[aX,List.length_nil];omega) fun d hd=>?_
  simp only[aH,aw,bz]at hd
  rcases hd with rfl | rfl | rfl
  ·exact sm_int
  ·exact sm_mk l (by omega)
  ·exact sm_mk r (by omega)
theorem deq_mk:∀(t u:Mak),deq (mkD t) (mkD u)=true↔t=u
 | .num a,.num b=>by unfold mkD deq;rw[beq_iff_eq];exact⟨fun h=>by rw[h],fun h=>by cases h;rfl⟩
 | .num a,.tri p l r=>⟨fun h=>(by unfold mkD deq at h;cases h),fun h=>(by cases h)⟩
 | .tri p l r,.num a=>⟨fun h=>(by unfold mkD deq at h;cases h),fun h=>(by cases h)⟩
 | .tri p l r,.tri p' l' r'=>by
  have a:=deq_mk l l'
  have b:=deq_mk r r'
  unfold mkD deq deqL deqL deqL deqL
  simp only[bh,Bool.and_true]
  rw[a,b]
  have c:deq (D.int p) (D.int p')=true↔p=p':=by unfold deq;exact beq_iff_eq
  rw[c]
  constructor
  ·rintro⟨h1,h2,h3⟩;rw[h1,h2,h3]
  ·intro h;cases h;exact⟨rfl,rfl,rfl⟩
theorem Mak.dep_cnt:∀ t:Mak,t.dep+1<=t.cnt
 | .num _=>ae _
 | .tri _ l r=>by
  have:=l.dep_cnt
  have:=r.dep_cnt
  show max l.dep r.dep+1+1<=l.cnt+r.cnt
  omega
end L2
namespace L2
open PySem PySem.Spec PyProof.Rows PyProof
theorem sum_pos {f:Nat->Int}:∀ {l:List Nat} {x:Nat},(∀ y∈l,0<=f y)->x∈l->0<f x->0<(l.map f).sum
 | [],x,_,h,_=>by cases h
 | y::l,x,hn,h,hx=>by
  have h0:=hn y ao
  have h1:=pick_at.sum_nn (f:=f) (l:=l) fun z hz=>hn z (gxI _ hz)
  rw[ag,bR]
  rcases List.mem_cons.mp h with rfl | h
  ·omega
  ·have:=sum_pos (f:=f) (l:=l) (x:=x) (fun z hz=>hn z (gxI _ hz)) h hx;omega
section
variable {n:Int}{cs:List Int}{ts:List Tk}(S:Shelf n cs ts)
include S
theorem ct_pos0 (a i j:Nat)(hij:i<j)(hj:j<(eM n cs).length)(h0:fo (eM n cs) ts (a+1) i j=0):0<ctP (eM n cs) ts (a+1) i j:=by
 have hel:=fk n cs
 have tb:=tb_ok S
 have hu:=ends_up S.n1 S.cuts
 unfold ctP
 rw[au h0]
 have e:fo (eM n cs) ts (a+1) i j=stepP (eM n cs).length (eM n cs) (ownR (eM n cs) ts (a:Int)) (fo (eM n cs) ts a) i j:=rfl
 unfold stepP at e
 split at e
 ·rename_i q
  have lt:=up_get hu (getD_some (show i<(eM n cs).length by omega)) (getD_some hj) hij
  rw[own_getD' (getD_some (show i<(eM n cs).length by omega)),ownE_eq]at q
  rcases fmax_mem ((ts.filter fun t=>decide (t.2<=(a:Int))).map fun t=>farF (eM n cs) t.1 ((eM n cs).getD i 0)) ((eM n cs).getD i 0)with z | z
  ·omega
  ·obtain⟨t,ht,et⟩:=List.mem_map.mp z
   obtain⟨t1,t2⟩:=List.mem_filter.mp ht
   obtain⟨x,hx,ex⟩:=aJ t1
   have:x∈nTk (eM n cs) ts a i j:=nTk_mem.mpr ⟨t,by rw[gxA hx,ex],bU t2,by rw[et];exact q⟩
   have:=List.length_pos_of_mem this
   omega
 ·exfalso
  rcases(fmin_is (joinP (fo (eM n cs) ts a) i j) (((eM n cs).length:Int) - 1)).1 with z | z
  ·omega
  ·obtain⟨k,k1,k2,k3⟩:=join_mem.mp z
   have n1:=tb.nn a i k (by omega) (by omega)
   have n2:=tb.nn a k j (by omega) hj
   omega
theorem ct_pos (hcl:cs.length<=60):∀(a i j:Nat),i<j->j<(eM n cs).length->fo (eM n cs) ts (a+1) i j<((eM n cs).length:Int) - 1->0<ctP (eM n cs) ts (a+1) i j:=by
 intro a
 have hel:=fk n cs
 have ft:=S.takes.few
 have tb:=tb_ok S
 have hu:=ends_up S.n1 S.cuts
 induction a with
 | zero =>
  intro i j hij hj h
  have h0:=tab1_zero S i j (by omega) hj h
  exact ct_pos0 S 0 i j hij hj h0
 | succ a ih =>
  intro i j hij hj h
  by_cases q:fo (eM n cs) ts (a+1+1) i j=0
  ·exact ct_pos0 S (a+1) i j hij hj q
  ·unfold ctP
   rw[aq q]
   have e:fo (eM n cs) ts (a+1+1) i j=stepP (eM n cs).length (eM n cs) (ownR (eM n cs) ts ((a+1:Nat):Int)) (fo (eM n cs) ts (a+1)) i j:=rfl
   unfold stepP at e
   split at e
   ·exact absurd e q
   ·rcases(fmin_is (joinP (fo (eM n cs) ts (a+1)) i j) (((eM n cs).length:Int) - 1)).1 with z | z
    ·omega
    ·obtain⟨k,k1,k2,k3⟩:=join_mem.mp z
     have n1:=tb.nn (a+1) i k (by omega) (by omega)
     have n2:=tb.nn (a+1) k j (by omega) hj
     refine sum_pos (x:=k) (fun y hy=>?_) (mid_mem.mpr ⟨k1,k2,by omega⟩) (Int.mul_pos (ih i k k1 (by omega) (by omega)) (ih k j k2 hj (by omega)))
     obtain⟨y1,y2,_⟩:=mid_mem.mp hy
     exact dZ (ct_bd (by omega) (by omega) (a+1) i y y1 (by omega)).1 (ct_bd (by omega) (by omega) (a+1) y j y2 hj).1
theorem tab_few {A:Nat}(la:LeastIs (eM n cs) ts n A):fo (eM n cs) ts (A+1) 0 (cs.length+1)=tabL (eM n cs) ts (A+1) 0 (cs.length+1) - 1/\fo (eM n cs) ts (A+1) 0 (cs.length+1)<((eM n cs).length:Int) - 1:=by
 have hel:=fk n cs
 have tl:=tab_least S la
 rcases(sideT S (A+1) 0 (cs.length+1) (by omega) (by omega)).2 (by omega)with⟨z,_⟩ | ⟨z1,z2,z3⟩
 ·omega
 ·exact⟨z3,by omega⟩
theorem best_num {A:Nat}(hcl:cs.length<=60)(la:LeastIs (eM n cs) ts n A){r:Int}(r0:0<=r)(r1:r<ctP (eM n cs) ts (A+1) 0 (cs.length+1)):(bmk (eM n cs) ts (A+1) 0 (cs.length+1) r).ok cs ts.length/\(bmk (eM n cs) ts (A+1) 0 (cs.length+1) r).val ts=(List.replicate n.toNat 111,(A:Int))/\((bmk (eM n cs) ts (A+1) 0 (cs.length+1) r).cnt:Int)=tabL (eM n cs) ts (A+1) 0 (cs.length+1)/\(bmk (eM n cs) ts (A+1) 0 (cs.length+1) r).dep<=cs.length:=by
 have hel:=fk n cs
 have ft:=S.takes.few
 have rk:=rk_bmk (ends_up S.n1 S.cuts) (by omega) (by omega) (A+1) 0 (cs.length+1) r (by omega) (by omega) r0 r1
 have b:=(best_iff S la).mp ((rk_best (ends_up S.n1 S.cuts) (A+1) 0 (cs.length+1) _ (by omega) (by omega)).mp (by rw[rk];rfl))
 obtain⟨t1,t2⟩:=tab_few S la
 have d:=(bmk (eM n cs) ts (A+1) 0 (cs.length+1) r).dep_cnt
 exact⟨b.1,b.2.1,by omega,by have:=b.2.2;omega⟩
end
end L2
namespace L2
open PySem PySem.Spec PyProof.Rows PyProof
end L2
namespace L2
open PySem PySem.Spec PyProof.Rows PyProof PySem.W
end L2
namespace L2
open PySem PySem.Spec PyProof.Rows PyProof
theorem rev_ix (n:Nat):Builtin.Str.strSliceIndices none none (-1) n=(List.range n).reverse:=by
 unfold Builtin.Str.strSliceIndices
 rw[<- PySem.W.krv_range,<- PySem.W.krv_sliceRange]
 simp
theorem rev_pick (z:Str):List.filterMap (fun x=>z.cps[x]?) (List.range z.length).reverse=z.cps.toList.reverse:=by
 rw[List.filterMap_reverse]
 congr 1
 have e:z.length=z.cps.toList.length:=by simp[Str.length]
 rw[e]
 generalize hl:z.cps.toList=l
 have:(fun x=>z.cps[x]?)=fun x=>l[x]?:=funext fun x=>by rw[<- hl];exact Array.getElem?_toList.symm
 rw[this]
 clear this hl e
 induction l with
 | nil=>rfl
 | cons a l ih =>
  rw[aX,dW,b9,dw]
  show a::List.filterMap (fun x=>(a::l)[x+1]?) _=_
  simp only[cS]
  rw[ih]
section
variable {X:Cx}{e st:Expr}{te:TE}{ts:TO}{p2 pos:Pos}
theorem pe_revS (he:PE X e te)(hst:PO X (some st) ts):PE X (.Subscript e (.Slice none none (some st) p2) pos) (fun σ H Q=>te σ H fun x H1=>ts σ H1 fun o H2=>o=some (-1)/\∃ z:Str,x=.str z/\z.length<=sizeLine/\Q (.str ⟨z.cps.toList.reverse.toArray⟩) H2):=by
 intro pins s σ H Q I h
 refine Subscript_ (thn (he pins s σ H _ I h) fun v s1 hq6=>?_)
 obtain⟨x,H1,I1,r1,q1⟩:=hq6
 refine wpAny_Slice ?_
 rw[evalPart_none]
 refine aa (aa (thn (hst pins s1 σ H1 _ I1 q1) fun vs s3 hq0=>?_))
 obtain⟨o,H3,I3,ps,q3⟩:=hq0
 obtain⟨rfl,z,rfl,hz,q⟩:=q3
 obtain⟨t,rfl⟩:=r1
 have I4:Inv X pins σ H3 { s3 with heap:=s3.heap.push { cls:=.type "slice",data:=.fields #[.none,.none,vs]}}:=I3.kept (t':=s3.toks) fun b ob q=>gxL _ q
 show wpAny (model X.prog X.w) X.A (subscriptTail e (.Slice none none (some st) p2) (.str z t) (.ref s3.heap.objs.size)) (EP X pins σ Q) X.xe { s3 with heap:=s3.heap.push { cls:=.type "slice",data:=.fields #[.none,.none,vs]}}
 refine tail_any (ops:=[.str z t,.ref s3.heap.objs.size]) (typeIs_str _ _ _) F.slot_str_getitem.lookup ?_ (by with_unfolding_all rfl)
 obtain⟨tk,rfl⟩:∃ tk,vs=.int (-1) tk:=by cases ps;exact⟨_,rfl⟩
 refine wpAny_getItem_str_slice (l:=none) (u:=none) (st:=some (-1,tk)) ⟨_,ak _ rfl,rfl,rfl⟩ rfl ?_
 unfold sliceMade
 have e:slicePicked z none none (some (-1,tk))=(List.range z.length).reverse:=rev_ix z.length
 rw[e,rev_pick,aq (by simp)]
 refine⟨?_,.str _,H3,I4.tok _,⟨_,rfl⟩,q⟩
 show(z.cps.toList.reverse).toArray.size<=sizeLine
 rw[ah,cQ]
 exact hz
def dRevS (w:De)(st:DO):De:=fun ρ μ K=>w ρ μ fun x fB=>st ρ fB fun o μ2=>o=some (-1)/\(match x with | .str z=>z.length<=sizeLine/\K (.str ⟨z.cps.toList.reverse.toArray⟩) μ2 | _=>False)
theorem d_revS {w:De}{l:DO}(ha:PD X e w)(hl:PO X (some st) (tDO l)):PD X (.Subscript e (.Slice none none (some st) p2) pos) (dRevS w l):=(pe_revS ha hl).imp fun σ H Q hq=>by
 obtain⟨φ,ρ,μ,K,A,M,k,L⟩:=hq
 refine⟨φ,ρ,μ,_,A,M,k,fun d fB φ1 v1 H1 k1 f1 M1 i1=>?_⟩
 refine⟨φ1,ρ,fB,_,A.mono f1,M1,k1,fun lo μ2 φ2 H2 k2 f2 M2=>?_⟩
 have L3:=L.mono (f1.trans f2)
 obtain⟨e0,k2⟩:=k2
 cases d with
 | str z=>cases(show v1=_ from i1);exact⟨e0,z,rfl,k2.1,L3.val M2 k2.2 rfl⟩
 | _=>exact k2.elim
end
def turnM (n:Int):Mak->Mak
 | .num k=>.num k
 | .tri p l r=>.tri (n - p) (turnM n r) (turnM n l)
def backC (n:Int)(cs:List Int):List Int:=cs.reverse.map (n - ·)
def backT (t:Tk):Tk:=(t.1.reverse,t.2)
theorem backC_len (n:Int)(cs:List Int):(backC n cs).length=cs.length:=by unfold backC;rw[gxC,cQ]
theorem backC_mem {n p:Int}{cs:List Int}(h:p∈cs):n - p∈backC n cs:=List.mem_map.mpr ⟨p,List.mem_reverse.mpr h,rfl⟩
theorem back_backC (n:Int)(cs:List Int):backC n (backC n cs)=cs:=by
 unfold backC
 rw[<- List.map_reverse,List.reverse_reverse,a6]
 have:((n - ·) ∘ (n - ·):Int->Int)=id:=by funext x;show n - (n - x)=x;omega
 rw[this,List.map_id]
theorem back_backT (ts:List Tk):(ts.map backT).map backT=ts:=by
 rw[a6]
 have:(backT ∘ backT:Tk->Tk)=id:=by funext x;show(x.1.reverse.reverse,x.2)=x;rw[List.reverse_reverse]
 rw[this,List.map_id]
theorem turn_turn (n:Int):∀ t:Mak,turnM n (turnM n t)=t
 | .num _=>rfl
 | .tri p l r=>by
  show Mak.tri (n - (n - p)) (turnM n (turnM n l)) (turnM n (turnM n r))=_
  rw[turn_turn n l,turn_turn n r,show n - (n - p)=p by omega]
theorem turn_cnt (n:Int):∀ t:Mak,(turnM n t).cnt=t.cnt
 | .num _=>rfl
 | .tri p l r=>by
  show(turnM n r).cnt+(turnM n l).cnt=l.cnt+r.cnt
  rw[turn_cnt n l,turn_cnt n r];omega
theorem turn_dep (n:Int):∀ t:Mak,(turnM n t).dep=t.dep
 | .num _=>rfl
 | .tri p l r=>by
  show max (turnM n r).dep (turnM n l).dep+1=max l.dep r.dep+1
  rw[turn_dep n l,turn_dep n r];omega
theorem turn_ok {n:Int}{cs:List Int}{m:Nat}:∀ {t:Mak},t.ok cs m->(turnM n t).ok (backC n cs) m
 | .num _,h=>h
 | .tri p l r,h=>⟨backC_mem h.1,turn_ok h.2.2,turn_ok h.2.1⟩
theorem turn_val {n:Int}{cs:List Int}{ts:List Tk}(S:Shelf n cs ts):∀ {t:Mak},t.ok cs ts.length->(turnM n t).val (ts.map backT)=backT (t.val ts)
 | .num k,h=>by
  obtain⟨x,hx⟩:∃ x,ts[k.toNat]?=some x:=⟨_,gxA (by have:=h.1;have:=h.2;omega)⟩
  rw[Mak.val_num hx]
  exact Mak.val_num (by rw[gxH,hx];rfl)
 | .tri p l r,h=>by
  have vl:=(Mak.val_ok (tks_ok S) h.2.1).1
  have vr:=(Mak.val_ok (tks_ok S) h.2.2).1
  have hp:=S.cuts.inn p h.1
  show joinT ((turnM n r).val _) ((turnM n l).val _) (n - p)=backT (joinT (l.val ts) (r.val ts) p)
  rw[turn_val S h.2.1,turn_val S h.2.2]
  unfold joinT backT
  refine Prod.ext ?_ ?_
  ·show(r.val ts).1.reverse.take (n - p).toNat++(l.val ts).1.reverse.drop (n - p).toNat=((l.val ts).1.take p.toNat++(r.val ts).1.drop p.toNat).reverse
   rw[List.reverse_append,List.take_reverse,List.drop_reverse]
   rw[show(r.val ts).1.length - (n - p).toNat=p.toNat by omega,show(l.val ts).1.length - (n - p).toNat=p.toNat by omega]
  ·show max (r.val ts).2 (l.val ts).2+1=max (l.val ts).2 (r.val ts).2+1
   omega
theorem Shelf.back {n:Int}{cs:List Int}{ts:List Tk}(S:Shelf n cs ts):Shelf n (backC n cs) (ts.map backT):=by
 refine⟨S.n1,S.n2,by rw[backC_len];exact S.few,⟨fun c hc=>?_,?_⟩,⟨by rw[gxC];exact S.takes.few,fun t ht=>?_⟩⟩
 ·obtain⟨p,hp,rfl⟩:=List.mem_map.mp hc
  have:=S.cuts.inn p (List.mem_reverse.mp hp)
  show 1<=n - p/\n - p<n
  omega
 ·unfold backC
  rw[List.pairwise_map,List.pairwise_reverse]
  exact S.cuts.up.imp fun {a b} h=>by omega
 ·obtain⟨t,h,rfl⟩:=List.mem_map.mp ht
  have:=S.takes.ok t h
  exact⟨by show((t.1.reverse.length:Nat):Int)=n;rw[cQ];exact this.1,fun c hc=>this.2.1 c (List.mem_reverse.mp hc),this.2.2⟩
def CleanBy (n:Int)(cs:List Int)(ts:List Tk)(a:Nat):Prop:=∃ t:Mak,t.ok cs ts.length/\(t.val ts).1=List.replicate n.toNat 111/\(t.val ts).2<=a
section
variable {n:Int}{cs:List Int}{ts:List Tk}(S:Shelf n cs ts)(hcl:cs.length<=60)
theorem CleanBy.back (S:Shelf n cs ts){a:Nat}(h:CleanBy n cs ts a):CleanBy n (backC n cs) (ts.map backT) a:=by
 obtain⟨t,h1,h2,h3⟩:=h
 refine⟨turnM n t,by rw[gxC];exact turn_ok h1,?_,by rw[turn_val S h1];exact h3⟩
 rw[turn_val S h1]
 show(t.val ts).1.reverse=_
 rw[h2,dR]
include S hcl
theorem best_at {a:Nat}(h:fo (eM n cs) ts (a+1) 0 (cs.length+1)<((eM n cs).length:Int) - 1):∃ t:Mak,t.ok cs ts.length/\(t.val ts).1=List.replicate n.toNat 111/\(t.val ts).2<=a/\(t.cnt:Int)=fo (eM n cs) ts (a+1) 0 (cs.length+1)+1:=by
 have hel:=fk n cs
 have ft:=S.takes.few
 have cp:=ct_pos S hcl a 0 (cs.length+1) (by omega) (by omega) h
 have rk:=rk_bmk (ends_up S.n1 S.cuts) (by omega) (by omega) (a+1) 0 (cs.length+1) 0 (by omega) (by omega) (by omega) cp
 have b:=(rk_best (ends_up S.n1 S.cuts) (a+1) 0 (cs.length+1) _ (by omega) (by omega)).mp (by rw[rk];rfl)
 obtain⟨h1,h2,h3,h4⟩:=best_good S _ _ _ _ (by omega) (by omega) b
 have g0:(eM n cs).getD 0 0=0:=by rw[af,ends_0];rfl
 have gn:(eM n cs).getD (cs.length+1) 0=n:=by rw[af,ends_lastN];rfl
 rw[g0,gn]at h4
 exact⟨_,h1,cln_all (Mak.val_ok (tks_ok S) h1).1 h4,by omega,h2⟩
theorem clean_reach {a:Nat}:CleanBy n cs ts a↔(rowsR (eM n cs) ts a)[0]?=some n:=by
 have hel:=fk n cs
 have n1:=S.n1
 have r0:=rf_at S a (ends_0 n cs)
 rw[r0]
 constructor
 ·rintro⟨t,h1,h2,h3⟩
  have nm:n∈eM n cs:=by unfold eM;simp
  have h:=mk_sound S (a:=a) (mak_mkd h1) h3 0 n (ends_mem0 n cs) nm (by omega) (by rw[h2];exact all_cln n 0 n (a9 _) (a9 _))
  have h2:=ends_in S.n1 S.cuts ((RF_step S a).mem 0 (ends_mem0 n cs))
  rw[show RF (eM n cs) ts a 0=n by omega]
 ·intro h
  have h:=aB h
  have tr:=tab_reach S a 0 (cs.length+1) 0 n (ends_0 n cs) (ends_lastN n cs) (by omega) (by omega)
  rcases(sideT S (a+1) 0 (cs.length+1) (by omega) (by omega)).2 (by omega)with⟨z,_⟩ | ⟨z1,z2,z3⟩
  ·omega
  ·obtain⟨t,t1,t2,t3,_⟩:=best_at S hcl (a:=a) (by omega)
   exact⟨t,t1,t2,t3⟩
theorem least_back {a:Nat}(h:LeastIs (eM n cs) ts n a):LeastIs (eM n (backC n cs)) (ts.map backT) n a:=by
 have hcl':(backC n cs).length<=60:=by rw[backC_len];exact hcl
 refine⟨(clean_reach S.back hcl').mp (((clean_reach S hcl).mpr h.at_).back S),fun b hb q=>h.low b hb ?_⟩
 have:=((clean_reach S.back hcl').mpr q).back S.back
 rw[back_backC,back_backT]at this
 exact(clean_reach S hcl).mp this
theorem few_le {a:Nat}(h:fo (eM n cs) ts (a+1) 0 (cs.length+1)<((eM n cs).length:Int) - 1):fo (eM n (backC n cs)) (ts.map backT) (a+1) 0 (cs.length+1)<=fo (eM n cs) ts (a+1) 0 (cs.length+1):=by
 obtain⟨t,t1,t2,t3,t4⟩:=best_at S hcl h
 have hel:=fk n (backC n cs)
 have hl:=backC_len n cs
 have g0:(eM n (backC n cs)).getD 0 0=0:=by rw[af,ends_0];rfl
 have gn:(eM n (backC n cs)).getD (cs.length+1) 0=n:=by rw[<- hl,af,ends_lastN];rfl
 have tv:=turn_val S t1
 have:=(clean_best S.back (turnM n t) a 0 (cs.length+1) (by omega) (by omega) (by rw[gxC];exact turn_ok t1) (by rw[tv];exact t3) (by
  rw[g0,gn,tv]
  show Cln (t.val ts).1.reverse 0 n
  rw[t2,dR]
  exact all_cln n 0 n (a9 _) (a9 _))).1
 rw[turn_cnt]at this
 omega
end
section
variable {n:Int}{cs:List Int}{ts:List Tk}(S:Shelf n cs ts)(hcl:cs.length<=60)
include S hcl
theorem few_ge {a:Nat}(h:fo (eM n (backC n cs)) (ts.map backT) (a+1) 0 (cs.length+1)<((eM n cs).length:Int) - 1):fo (eM n cs) ts (a+1) 0 (cs.length+1)<=fo (eM n (backC n cs)) (ts.map backT) (a+1) 0 (cs.length+1):=by
 have hl:=backC_len n cs
 have e1:=fk n cs
 have e2:=fk n (backC n cs)
 have:=few_le S.back (by rw[hl];exact hcl) (a:=a) (by rw[hl];omega)
 rw[back_backC,back_backT,hl]at this
 exact this
theorem few_back (a:Nat):fewK (fo (eM n (backC n cs)) (ts.map backT) (a+1) 0 ((backC n cs).length+1)) (backC n cs).length=fewK (fo (eM n cs) ts (a+1) 0 (cs.length+1)) cs.length:=by
 have hl:=backC_len n cs
 have e1:=fk n cs
 rw[hl]
 unfold fewK
 by_cases q:fo (eM n cs) ts (a+1) 0 (cs.length+1)<=(cs.length:Int)
 ·have h1:=few_le S hcl (a:=a) (by omega)
  have h2:=few_ge S hcl (a:=a) (by omega)
  rw[au q,au (by omega),show fo (eM n (backC n cs)) (ts.map backT) (a+1) 0 (cs.length+1)=fo (eM n cs) ts (a+1) 0 (cs.length+1) by omega]
 ·rw[aq q,aq fun z=>q (by have:=few_ge S hcl (a:=a) (by omega);omega)]
theorem turn_rank {A:Nat}(la:LeastIs (eM n cs) ts n A){t:Mak}(h:Best (eM n cs) ts (A+1) 0 (cs.length+1) t):∃ r,rkP (eM n (backC n cs)) (ts.map backT) (A+1) 0 (cs.length+1) (turnM n t)=some r/\0<=r/\r<ctP (eM n (backC n cs)) (ts.map backT) (A+1) 0 (cs.length+1)/\bmk (eM n (backC n cs)) (ts.map backT) (A+1) 0 (cs.length+1) r=turnM n t:=by
 have hl:=backC_len n cs
 have e1:=fk n cs
 have e2:=fk n (backC n cs)
 have ft:=S.takes.few
 have ft2:(ts.map backT).length<=100:=by rw[gxC];omega
 obtain⟨b1,b2,b3⟩:=(best_iff S la).mp h
 have tf:=(tab_few S la).2
 have h1:=few_le S hcl (a:=A) tf
 have h2:=few_ge S hcl (a:=A) (by omega)
 have la':=least_back S hcl la
 have bi:=(best_iff S.back (t:=turnM n t) la').mpr ⟨by rw[gxC];exact turn_ok b1,by rw[turn_val S b1,b2];show(_,_)=_;rw[dR],by rw[turn_cnt,hl];omega⟩
 rw[hl]at bi
 have rb:=(rk_best (ends_up S.n1 S.back.cuts) (ts:=ts.map backT) (A+1) 0 (cs.length+1) (turnM n t) (by omega) (by omega)).mpr bi
 obtain⟨r,hr⟩:=Option.isSome_iff_exists.mp rb
 exact⟨r,hr,bmk_rk (by omega) ft2 (A+1) 0 (cs.length+1) _ r (by omega) (by omega) hr⟩
theorem ct_le {A:Nat}(la:LeastIs (eM n cs) ts n A):ctP (eM n cs) ts (A+1) 0 (cs.length+1)<=ctP (eM n (backC n cs)) (ts.map backT) (A+1) 0 (cs.length+1):=by
 have e1:=fk n cs
 have ft:=S.takes.few
 have c0:=(ct_bd (es:=eM n cs) (ts:=ts) (by omega) (by omega) (A+1) 0 (cs.length+1) (by omega) (by omega)).1
 have key:∀ i:Nat,(i:Int)<ctP (eM n cs) ts (A+1) 0 (cs.length+1)->∃ r:Nat,(r:Int)<ctP (eM n (backC n cs)) (ts.map backT) (A+1) 0 (cs.length+1)/\bmk (eM n (backC n cs)) (ts.map backT) (A+1) 0 (cs.length+1) r=turnM n (bmk (eM n cs) ts (A+1) 0 (cs.length+1) i):=fun i hi=>by
  have rk:=rk_bmk (ends_up S.n1 S.cuts) (by omega) (by omega) (A+1) 0 (cs.length+1) i (by omega) (by omega) (by omega) hi
  have b:=(rk_best (ends_up S.n1 S.cuts) (A+1) 0 (cs.length+1) _ (by omega) (by omega)).mp (by rw[rk];rfl)
  obtain⟨r,_,r0,r1,r2⟩:=turn_rank S hcl la b
  exact⟨r.toNat,by omega,by rw[bO r0];exact r2⟩
 obtain⟨f,hf⟩:∃ f:Nat->Nat,∀ i:Nat,(i:Int)<ctP (eM n cs) ts (A+1) 0 (cs.length+1)->((f i:Nat):Int)<ctP (eM n (backC n cs)) (ts.map backT) (A+1) 0 (cs.length+1)/\bmk (eM n (backC n cs)) (ts.map backT) (A+1) 0 (cs.length+1) (f i)=turnM n (bmk (eM n cs) ts (A+1) 0 (cs.length+1) i):=by
  refine⟨fun i=>if h:(i:Int)<ctP (eM n cs) ts (A+1) 0 (cs.length+1)then(key i h).choose else 0,fun i hi=>?_⟩
  dsimp only
  rw[dif_pos hi]
  exact(key i hi).choose_spec
 have nd:((List.range (ctP (eM n cs) ts (A+1) 0 (cs.length+1)).toNat).map f).length<=(ctP (eM n (backC n cs)) (ts.map backT) (A+1) 0 (cs.length+1)).toNat:=by
  refine nodup_bd _ _ (List.pairwise_map.mpr (List.Pairwise.imp_of_mem (fun {x y} hx hy ne e=>ne ?_) List.nodup_range)) (fun x hx=>?_)
  rotate_left
  ·have hx:=List.mem_range.mp hx
   have hy:=List.mem_range.mp hy
   have e2:turnM n (bmk (eM n cs) ts (A+1) 0 (cs.length+1) x)=turnM n (bmk (eM n cs) ts (A+1) 0 (cs.length+1) y):=by rw[<- (hf x (by omega)).2,<- (hf y (by omega)).2,show f x=f y from e]
   have e3:=cj (turnM n) e2
   rw[turn_turn,turn_turn]at e3
   have r1:=rk_bmk (ends_up S.n1 S.cuts) (by omega) (by omega) (A+1) 0 (cs.length+1) x (by omega) (by omega) (by omega) (by omega:(x:Int)<ctP (eM n cs) ts (A+1) 0 (cs.length+1))
   have r2:=rk_bmk (ends_up S.n1 S.cuts) (by omega) (by omega) (A+1) 0 (cs.length+1) y (by omega) (by omega) (by omega) (by omega:(y:Int)<ctP (eM n cs) ts (A+1) 0 (cs.length+1))
   rw[e3,r2]at r1
   have:=aB r1
   omega
  ·obtain⟨i,hi,rfl⟩:=List.mem_map.mp hx
   have:=(hf i (by have:=List.mem_range.mp hi;omega)).1
   omega
 rw[gxC,gxJ]at nd
 have e2:=fk n (backC n cs)
 have hl:=backC_len n cs
 have c1:=(ct_bd (es:=eM n (backC n cs)) (ts:=ts.map backT) (by omega) (by rw[gxC];omega) (A+1) 0 (cs.length+1) (by omega) (by omega)).1
 omega
theorem bar_back (h:barOf (eM n cs) ts=none):barOf (eM n (backC n cs)) (ts.map backT)=none:=by
 obtain⟨x,_,lx⟩:=least_some S hcl h (a:=60) fun t ht=>by have:=S.takes.ok t ht;omega
 have l2:=least_back S hcl lx
 exact least_bar S.back (a:=x) ((More.refl S.back).least l2)
end
def fTurnL (n:Nat):DSp:=fun ds μ K=>match ds with
 | [.int s,d]=>∃ t:Mak,d=mkD t/\t.dep<=n/\K (mkD (turnM s t)) μ
 | _=>False
end L2
namespace Pf
open PySem L2 PyProof.Rows
def top (i:Nat):Stmt:=PySem.Challenge.pw_hissroom_k29_whole_heard_backwards.main.body.getD i (.Pass ⟨0,0,0,0⟩)
def met (i j:Nat):Stmt:=(clsBody (top i)).getD j (.Pass ⟨0,0,0,0⟩)
abbrev s_box:Stmt:=top 29
abbrev s_take:Stmt:=top 30
abbrev s_bars:Stmt:=top 31
abbrev s_cuts:Stmt:=top 32
abbrev s_patched:Stmt:=top 33
abbrev s_shelf:Stmt:=top 34
abbrev s_ends:Stmt:=top 1
abbrev s_pieces:Stmt:=top 2
abbrev s_bar_of:Stmt:=top 4
abbrev s_farthest:Stmt:=top 3
abbrev s_take_rows:Stmt:=top 12
abbrev s_clean_row:Stmt:=top 13
abbrev s_next_reach:Stmt:=top 14
abbrev s_youngest:Stmt:=top 11
abbrev s_least_age:Stmt:=top 10
abbrev s_no_make:Stmt:=top 17
abbrev s_bare_table:Stmt:=top 18
abbrev s_fewest_joined:Stmt:=top 20
abbrev s_next_table:Stmt:=top 19
abbrev s_few_tables:Stmt:=top 16
abbrev s_fewest:Stmt:=top 22
abbrev s_BestMakes_is_take:Stmt:=met 26 1
abbrev s_BestMakes_clean_takes:Stmt:=met 26 2
abbrev s_BestMakes_halves:Stmt:=met 26 3
abbrev s_BestMakes_count_anew:Stmt:=met 26 5
abbrev s_BestMakes_counted:Stmt:=met 26 4
abbrev s_BestMakes___init__:Stmt:=met 26 0
abbrev s_count_best:Stmt:=top 23
abbrev s_BestMakes_numbered:Stmt:=met 26 6
abbrev s_best_of:Stmt:=top 24
abbrev s_take_rank:Stmt:=top 27
abbrev s_BestMakes_rank:Stmt:=met 26 7
abbrev s_number_of:Stmt:=top 25
abbrev s_whole:Stmt:=top 35
abbrev s_turned:Stmt:=top 36
abbrev s_law:Stmt:=top 37
structure ZBestMakes (K:PySem.W.Frag)(C:Addr):Prop where
 cl:Cls K C
 n_places:PySem.W.findIn K (.ref C) "places"=some none
 n_rows:PySem.W.findIn K (.ref C) "rows"=some none
 n_tables:PySem.W.findIn K (.ref C) "tables"=some none
 n_whole:PySem.W.findIn K (.ref C) "whole"=some none
 n_counts:PySem.W.findIn K (.ref C) "counts"=some none
theorem sc_box:FnScope ["_law_script"] (pA s_box) (eV s_box):=mkSc
theorem sc_take:FnScope ["_law_box_here", "_law_many", "_law_rest", "_law_cell", "_law_one", "_law_two"] (pA s_take) (eV s_take):=mkSc
theorem sc_bars:FnScope ["_law_box_here", "_law_size", "_law_kind", "_law_first", "_law_behind"] (pA s_bars) (eV s_bars):=mkSc
theorem sc_cuts:FnScope ["_law_box_here", "_law_size", "_law_kind"] (pA s_cuts) (eV s_cuts):=mkSc
theorem sc_patched:FnScope ["_law_box_here", "_law_size", "_law_cuts_here", "_law_texts", "_law_border", "_law_k", "_law_at", "_law_old", "_law_clean"] (pA s_patched) (eV s_patched):=mkSc
theorem sc_shelf:FnScope ["_law_box_here", "_law_most", "_law_size", "_law_cuts_here", "_law_many", "_law_texts", "_law_kind", "_law_low", "_law_ages"] (pA s_shelf) (eV s_shelf):=mkSc
theorem sc_ends:FnScope ["size", "cuts"] (pA s_ends) (eV s_ends):=mkSc
theorem sc_pieces:FnScope ["size", "cuts", "places"] (pA s_pieces) (eV s_pieces):=mkSc
theorem sc_bar_of:FnScope ["size", "cuts", "takes", "first", "behind"] (pA s_bar_of) (eV s_bar_of):=mkSc
theorem sc_farthest:FnScope ["size", "cuts", "text", "end", "spoilt", "clean_to"] (pA s_farthest) (eV s_farthest):=mkSc
theorem sc_take_rows:FnScope ["size", "cuts", "takes", "places"] (pA s_take_rows) (eV s_take_rows):=mkSc
theorem sc_clean_row:FnScope ["places", "rows", "age", "told", "take_age", "row"] (pA s_clean_row) (eV s_clean_row):=mkSc
theorem sc_next_reach:FnScope ["places", "rows", "before", "age", "where", "clean"] (pA s_next_reach) (eV s_next_reach):=mkSc
theorem sc_youngest:FnScope ["takes"] (pA s_youngest) (eV s_youngest):=mkSc
theorem sc_least_age:FnScope ["size", "cuts", "takes", "places", "rows", "age", "told"] (pA s_least_age) (eV s_least_age):=mkSc
theorem sc_no_make:FnScope ["places"] (pA s_no_make) (eV s_no_make):=mkSc
theorem sc_bare_table:FnScope ["places", "none"] (pA s_bare_table) (eV s_bare_table):=mkSc
theorem sc_fewest_joined:FnScope ["lefts", "rights", "none"] (pA s_fewest_joined) (eV s_fewest_joined):=mkSc
theorem sc_next_table:FnScope ["places", "clean", "before", "columns", "none", "told", "first", "row", "far"] (pA s_next_table) (eV s_next_table):=mkSc
theorem sc_few_tables:FnScope ["size", "cuts", "takes", "age", "places", "rows", "ages", "table", "changing", "told", "now", "before"] (pA s_few_tables) (eV s_few_tables):=mkSc
theorem sc_fewest:FnScope ["size", "cuts", "takes", "age", "many"] (pA s_fewest) (eV s_fewest):=mkSc
theorem sc_BestMakes_is_take:FnScope ["self", "stretch", "age", "first", "behind"] (pA s_BestMakes_is_take) (eV s_BestMakes_is_take):=mkSc
theorem sc_BestMakes_clean_takes:FnScope ["self", "stretch", "age", "first", "behind", "end"] (pA s_BestMakes_clean_takes) (eV s_BestMakes_clean_takes):=mkSc
theorem sc_BestMakes_halves:FnScope ["self", "stretch", "age", "first", "behind", "many", "before"] (pA s_BestMakes_halves) (eV s_BestMakes_halves):=mkSc
theorem sc_BestMakes_count_anew:FnScope ["self", "stretch", "many", "place", "left", "right"] (pA s_BestMakes_count_anew) (eV s_BestMakes_count_anew):=mkSc
theorem sc_BestMakes_counted:FnScope ["self", "stretch"] (pA s_BestMakes_counted) (eV s_BestMakes_counted):=mkSc
theorem sc_BestMakes___init__:FnScope ["self", "size", "cuts", "takes", "least"] (pA s_BestMakes___init__) (eV s_BestMakes___init__):=mkSc
theorem sc_count_best:FnScope ["size", "cuts", "takes", "best"] (pA s_count_best) (eV s_count_best):=mkSc
theorem sc_BestMakes_numbered:FnScope ["self", "stretch", "number", "rest", "place", "left", "right", "many"] (pA s_BestMakes_numbered) (eV s_BestMakes_numbered):=mkSc
theorem sc_best_of:FnScope ["size", "cuts", "takes", "number", "best"] (pA s_best_of) (eV s_best_of):=mkSc
theorem sc_take_rank:FnScope ["numbers", "make"] (pA s_take_rank) (eV s_take_rank):=mkSc
theorem sc_BestMakes_rank:FnScope ["self", "stretch", "make", "ahead", "place", "left", "right"] (pA s_BestMakes_rank) (eV s_BestMakes_rank):=mkSc
theorem sc_number_of:FnScope ["size", "cuts", "takes", "make", "best"] (pA s_number_of) (eV s_number_of):=mkSc
theorem sc_whole:FnScope ["_law_found"] (pA s_whole) (eV s_whole):=mkSc
theorem sc_turned:FnScope ["_law_size", "_law_make"] (pA s_turned) (eV s_turned):=mkSc
theorem sc_law:FnScope ["_law_script", "_law_box_here", "_law_size", "_law_cuts_here", "_law_takes", "_law_back", "_law_heard", "_law_age", "_law_one", "_law_many", "_law_make", "_law_number"] (pA s_law) (eV s_law):=mkSc
def eP:Addr:=219
def cBadNumber:Addr:=73
def cBadMake:Addr:=61
def cHissError:Addr:=48
section
variable (P:Program)(w:World)(K:PySem.W.Frag)(mg:Str->Option Value)(base:Heap)
abbrev c_box:Prop:=Cal P w K mg base "_law_box" 1 (pA s_box) (spBoxQ K)
abbrev c_take:Prop:=Cal P w K mg base "_law_take" 1 (pA s_take) (spD fTake)
abbrev c_bars:Prop:=Cal P w K mg base "_law_bars" 2 (pA s_bars) (spD fBars)
abbrev c_cuts:Prop:=Cal P w K mg base "_law_cuts" 2 (pA s_cuts) (spD fCuts)
abbrev c_patched:Prop:=Cal P w K mg base "_law_patched" 2 (pA s_patched) (spD fPatched)
abbrev c_shelf:Prop:=Cal P w K mg base "_law_shelf" 3 (pA s_shelf) (spD fShelf)
abbrev c_take_B:Prop:=Cal P w K mg base "_law_take" 1 (pA s_take) (spD fTakeB)
abbrev c_ends:Prop:=Cal P w K mg base "ends" 1 (pA s_ends) (spD fEnds)
abbrev c_pieces:Prop:=Cal P w K mg base "pieces" 2 (pA s_pieces) (spD fPieces)
abbrev c_bar_of:Prop:=Cal P w K mg base "bar_of" 3 (pA s_bar_of) (spD fBarOf)
abbrev c_farthest:Prop:=Cal P w K mg base "farthest" 2 (pA s_farthest) (spD fFarthest)
abbrev c_take_rows:Prop:=Cal P w K mg base "take_rows" 3 (pA s_take_rows) (spD fTakeRows)
abbrev c_clean_row:Prop:=Cal P w K mg base "clean_row" 1 (pA s_clean_row) (spD fCleanRow)
abbrev c_next_reach:Prop:=Cal P w K mg base "next_reach" 2 (pA s_next_reach) (spD fNextM)
abbrev c_youngest:Prop:=Cal P w K mg base "youngest" 1 (pA s_youngest) (spD fYoungest)
abbrev c_least_age:Prop:=Cal P w K mg base "least_age" 4 (pA s_least_age) (spD fLeast)
abbrev c_no_make:Prop:=Cal P w K mg base "no_make" 1 (pA s_no_make) (spD fNoMake)
abbrev c_bare_table:Prop:=Cal P w K mg base "bare_table" 2 (pA s_bare_table) (spD fBareT)
abbrev c_fewest_joined:Prop:=Cal P w K mg base "fewest_joined" 1 (pA s_fewest_joined) (spD fFewestJ)
abbrev c_next_table:Prop:=Cal P w K mg base "next_table" 2 (pA s_next_table) (spD fNextTab)
abbrev c_few_tables:Prop:=Cal P w K mg base "few_tables" 4 (pA s_few_tables) (spD fFewTabs)
abbrev c_fewest:Prop:=Cal P w K mg base "fewest" 5 (pA s_fewest) (spD fFewest)
abbrev c_BestMakes_is_take:Prop:=CalM P w K mg base eP "is_take" 1 (pA s_BestMakes_is_take) (spD (fIsTake eP))
abbrev c_BestMakes_clean_takes:Prop:=CalM P w K mg base eP "clean_takes" 1 (pA s_BestMakes_clean_takes) (spD (fCleanT eP))
abbrev c_BestMakes_halves:Prop:=CalM P w K mg base eP "halves" 1 (pA s_BestMakes_halves) (spD (fHalves eP))
abbrev c_BestMakes_count_anew:Prop:=CalM P w K mg base eP "count_anew" 143 (pA s_BestMakes_count_anew) (spD (fCnt eP 71))
abbrev c_BestMakes_counted:Prop:=CalM P w K mg base eP "counted" 144 (pA s_BestMakes_counted) (spD (fCnt eP 71))
abbrev c_BestMakes___init__:Prop:=CalI P w K mg base "BestMakes" eP 5 (pA s_BestMakes___init__) (spD (fInit eP))
abbrev c_count_best:Prop:=Cal P w K mg base "count_best" 145 (pA s_count_best) (spD fCountBest)
abbrev c_BestMakes_numbered:Prop:=CalM P w K mg base eP "numbered" 216 (pA s_BestMakes_numbered) (spD (fNumb eP 71))
abbrev c_best_of:Prop:=CalX P w K mg base "best_of" 217 (pA s_best_of) (spX (fBestOf cBadNumber))
abbrev c_take_rank:Prop:=CalX P w K mg base "take_rank" 1 (pA s_take_rank) (spX (fTakeRank cBadMake))
abbrev c_BestMakes_rank:Prop:=CalMX P w K mg base eP "rank" 216 (pA s_BestMakes_rank) (spX (fRank eP cBadMake 71))
abbrev c_number_of:Prop:=CalX P w K mg base "number_of" 217 (pA s_number_of) (spX (fNumOf cBadMake))
abbrev c_whole:Prop:=Cal P w K mg base "_law_whole" 1 (pA s_whole) (spD fWholeT)
abbrev c_turned:Prop:=Cal P w K mg base "_law_turned" 64 (pA s_turned) (spD (fTurnL 63))
end
section
variable {P:Program}{w:World}{K:PySem.W.Frag}{mg:Str->Option Value}{base:Heap}{f:Addr}{fd:FuncData}
theorem ok_box (F:Fun K "_law_box" "_law_box" s_box f fd)(T:Bi2 mg)  : FnOk P w K mg base CX0 1 f fd (pA s_box) (spBoxQ K):=by
 refine F.ok sc_box (fun vs H Q E h=>?_) (fun cdv A outer s H vs Q E hr h=>?_)
 ·unfold spBoxQ at h;split at h
  ·rfl
  ·exact h.elim
 ·unfold spBoxQ at h;split at h
  ·rename_i a
   obtain⟨ns,hs,k⟩:=h
   refine⟨_,(pss_one (ps_ret (pe_lst (pa_cons (pe_callTy listC (by rfl) T.list ar (pa_cons (pvC 0) pa_nil)) (pa_cons pe_int (pa_cons pe_int (pa_cons pe_int pa_nil))))))),?_⟩
   refine⟨_,hs,fun l hl=>?_⟩
   refine⟨(zs),fun b hb=>?_⟩
   have hlb:l≠b:=ne_of_none (o:=.lst (ns.map V.int)) fA hb
   have hb0:H b=none:=by rw[upd_ne hlb.symm]at hb;exact hb
   refine k b l _ ⟨ns,0,0,1,fA,by rw[upd_ne hlb];exact fA,hlb,by decide,by decide,by decide⟩ hb0 hl fun c o e=>?_
   rw[upd_ne (ne_of_none e hb0),upd_ne (ne_of_none e hl)]
   exact e
  ·exact h.elim
theorem inv_cuts {ds:List D}{μ:MS}{Kd:DK}(h:fCuts ds μ Kd):∃ v0 v1,ds=[.mr v0,.int v1]:=by
 unfold fCuts at h
 rcases ds with _ | ⟨z0,ds⟩
 ·exact False.elim h
 cases z0 <;> first | exact False.elim h | skip
 rcases ds with _ | ⟨z1,ds⟩
 ·exact False.elim h
 cases z1 <;> first | exact False.elim h | skip
 rcases ds with _ | ⟨zz,zs⟩
 ·exact⟨_,_,rfl⟩
 ·exact False.elim h
theorem ok_cuts (F:Fun K "_law_cuts" "_law_cuts" s_cuts f fd)(T:Bi2 mg)(C_take:c_take P w K mg base):FnOk P w K mg base CX0 2 f fd (pA s_cuts) (spD fCuts):=by
 refine F.okD sc_cuts (fun ds μ Kd h=>by obtain⟨_,_,rfl⟩:=inv_cuts h;rfl) (fun cdv A outer s H E hr=>⟨_,(eS (qS 2 sc_cuts.nd (qC C_take hr (a2 (dv 0) d_int)))
  (eS (s_if (qEq (dv 2) d_int)
  (b_one (s_ret (d_lst false da_nil)))
  b_nil)
  (eS (s_if (qEq (dv 2) d_int)
  (b_one (s_ret (dC1 false (cOk (N:=["_law_place"]) (js:=[none]) sc_cuts (by decide +kernel)) (i_range2 rfl T.range (a2 d_int (dv 1))) (fun _ _ _ nd=>(qN 0 nd)) (fun _ _ _=>ts_nil) (fun _ _ _=>(dv 0)))))
  b_nil)
  (b_one (s_ret (dC1 false (cOk (N:=["_law_place", "_law_box_here"]) (js:=[none,some 0]) sc_cuts (by decide +kernel)) (i_range2 rfl T.range (a2 d_int (dv 1))) (fun _ _ _ nd=>(qN 0 nd)) (fun _ _ _=>(ts_one (qGt (qC C_take hr (a2 (dv 1) d_int)) d_int))) (fun _ _ _=>(dv 0)))))))),fun ds μ Kd hm hl h=>?_⟩)
 obtain⟨k,n,rfl⟩:=inv_cuts h
 unfold fCuts at h
 ·skip
  obtain⟨hb,h1,h2,kk⟩:=h
  refine⟨hb,by decide,by decide,fun v v0 v1=>?_⟩
  refine iteDf (fun hv=>?_) (fun hv=>?_)
  ·exact⟨bV _,.keep (kk [] (bV _) ⟨(fun _ q=>nomatch q),.nil⟩)⟩
  refine iteDf (fun hv1=>?_) (fun hv1=>?_)
  ·refine⟨⟨by decide,by decide,by omega,by omega⟩,sz (by rw[rngD_len];omega),?_⟩
   refine compW_map trivial (fun d=>some d) (fun d hd K' k'=>k') ?_
   rw[List.filterMap_some,rngD_eq]
   obtain⟨c1,c2⟩:=rng_cuts h1 (List.Sublist.refl _)
   exact .keep (kk _ c1 c2)
  ·refine⟨⟨by decide,by decide,by omega,by omega⟩,sz (by rw[rngD_len];omega),?_⟩
   refine compW_sub trivial (fun d hd K' k1 k2=>?_) fun zs hz=>?_
   ·refine⟨hb,by decide,by decide,fun v v0 v1=>?_⟩
    exact iteD (fun _=>k1) (fun _=>k2)
   ·rw[rngD_eq]at hz
    obtain⟨bs,hs,rfl⟩:=sub_map hz
    obtain⟨c1,c2⟩:=rng_cuts h1 hs
    exact .keep (kk _ c1 c2)
theorem bars_join {μ:MS}{n:Nat}{it:D->MS->(Option D->MS->Prop)->Prop}{K:DK}(hn:n<=1000)(hit:∀(d:D) (K':Option D->MS->Prop),(∀ c:Nat,(c=111\/c=120)->K' (some (.str ⟨#[c]⟩)) μ)->it d μ K')(k:∀ l:List Nat,l.length=n->OX l->K (.str (txt l)) μ) :
 compW it (fun _=>True) (rngD 0 n) μ fun ys μ2=>nL false ys μ2 fun x μ3=>fJoin (.str (Str.ofString "")) [x] μ3 K:=by
 refine compW_any (fun c:Nat=>D.str ⟨#[c]⟩) (fun c=>c=111\/c=120) trivial (fun d hd K' k'=>hit d K' k') fun l hl ho=>?_
 rw[rngD_len]at hl
 refine⟨rfl,l.map (fun c=>⟨#[c]⟩),by unfold lv;rw[a6];rfl,by rw[sum_signs];omega,?_⟩
 rw[flat_signs]
 exact k l hl fun c hc=>ho c hc
theorem inv_bars {ds:List D}{μ:MS}{Kd:DK}(h:fBars ds μ Kd):∃ v0 v1,ds=[.mr v0,.int v1]:=by
 unfold fBars at h
 rcases ds with _ | ⟨z0,ds⟩
 ·exact False.elim h
 cases z0 <;> first | exact False.elim h | skip
 rcases ds with _ | ⟨z1,ds⟩
 ·exact False.elim h
 cases z1 <;> first | exact False.elim h | skip
 rcases ds with _ | ⟨zz,zs⟩
 ·exact⟨_,_,rfl⟩
 ·exact False.elim h
theorem ok_bars (F:Fun K "_law_bars" "_law_bars" s_bars f fd)(T:Bi2 mg)(C_take:c_take P w K mg base):FnOk P w K mg base CX0 2 f fd (pA s_bars) (spD fBars):=by
 refine F.okD sc_bars (fun ds μ Kd h=>by obtain⟨_,_,rfl⟩:=inv_bars h;rfl) (fun cdv A outer s H E hr=>⟨_,(eS (qS 2 sc_bars.nd (qC C_take hr (a2 (dv 0) d_int)))
  (eS (s_if (qEq (dv 2) d_int)
  (b_one (s_ret (d_mt cV eh d7 joinC so_join d_str (a1 (dC1 false (cOk (N:=["_law_k", "_law_box_here"]) (js:=[none,some 0]) sc_bars (by decide +kernel)) (i_range1 rfl T.range (a1 (dv 1))) (fun _ _ _ nd=>(qN 0 nd)) (fun _ _ _=>ts_nil) (fun _ _ _=>(dIX d_str (qC C_take hr (a2 (dv 1) d_int)))))))))
  b_nil)
  (eS (s_if (qEq (dv 2) d_int)
  (b_one (s_ret (d_mt cV eh d7 joinC so_join d_str (a1 (dC1 false (cOk (N:=["_law_k", "_law_box_here"]) (js:=[none,some 0]) sc_bars (by decide +kernel)) (i_range1 rfl T.range (a1 (dv 1))) (fun _ _ _ nd=>(qN 0 nd)) (fun _ _ _=>ts_nil) (fun _ _ _=>(dIX d_str (qC C_take hr (a2 (dv 1) d_int)))))))))
  b_nil)
  (eS (s_if (qEq (dv 2) d_int)
  (eS (qS 3 sc_bars.nd (qC C_take hr (a2 (dv 0) (dv 1))))
  (eS (qS 4 sc_bars.nd (dPl (dPl (dv 3) d_int) (qC C_take hr (a2 (dv 0) (dMi (dv 1) (dv 3))))))
  (b_one (s_ret (dPl (dPl (d_op mulC so_mul d_str (dv 3)) (d_op mulC so_mul d_str (dMi (dv 4) (dv 3)))) (d_op mulC so_mul d_str (dMi (dv 1) (dv 4))))))))
  b_nil)
  (eS (s_if (qEq (dv 2) d_int)
  (b_one (s_ret (d_mt cV eh d7 joinC so_join d_str (a1 (dC1 false (cOk (N:=["_law_k", "_law_box_here"]) (js:=[none,some 0]) sc_bars (by decide +kernel)) (i_range1 rfl T.range (a1 (dv 1))) (fun _ _ _ nd=>(qN 0 nd)) (fun _ _ _=>ts_nil) (fun _ _ _=>(dIX d_str (qC C_take hr (a2 (dv 1) d_int)))))))))
  b_nil)
  (b_one (s_ret (d_op mulC so_mul (dIX d_str (qC C_take hr (a2 (dv 0) d_int))) (dv 1))))))))),fun ds μ Kd hm hl h=>?_⟩)
 obtain⟨k,n,rfl⟩:=inv_bars h
 unfold fBars at h
 ·skip
  obtain⟨hb,h1,h2,kk⟩:=h
  refine⟨hb,by decide,by decide,fun v v0 v1=>?_⟩
  refine iteDf (fun hv=>?_) (fun hv=>?_)
  ·refine⟨rfl,by omega,by omega,sz (by rw[rngD_len];omega),?_⟩
   refine bars_join (n:=n.toNat) (by omega) (fun d K' k'=>?_) fun l hl ho=>.keep (kk l hl ho)
   refine⟨hb,by decide,by decide,fun v v0 v1=>⟨by decide,?_⟩⟩
   obtain⟨c,e,hc⟩:=atI_in (l:=(Str.ofString "ox").cps.toList) v0 v1
   exact fj e (k' c ((OX.of (l:=(Str.ofString "ox").cps.toList) (by decide +kernel)) c hc))
  refine iteDf (fun hv=>?_) (fun hv=>?_)
  ·refine⟨rfl,by omega,by omega,sz (by rw[rngD_len];omega),?_⟩
   refine bars_join (n:=n.toNat) (by omega) (fun d K' k'=>?_) fun l hl ho=>.keep (kk l hl ho)
   refine⟨hb,by decide,by decide,fun v v0 v1=>⟨by decide,?_⟩⟩
   obtain⟨c,e,hc⟩:=atI_in (l:=(Str.ofString "ooooox").cps.toList) v0 v1
   exact fj e (k' c ((OX.of (l:=(Str.ofString "ooooox").cps.toList) (by decide +kernel)) c hc))
  refine iteDf (fun hv=>?_) (fun hv=>?_)
  ·refine⟨hb,by omega,by omega,fun p p0 p1=>⟨hb,by omega,by omega,fun g g0 g1=>?_⟩⟩
   refine⟨120,rfl,by omega,by omega,111,rfl,by omega,by omega,?_,120,rfl,by omega,by omega,?_,?_⟩
   ·rw[lenS,lenS,aR,aR];exact sz (by omega)
   ·rw[app_str,lenS,lenS,gxE,aR,aR,aR];exact sz (by omega)
   rw[app_str,app_str]
   refine .keep (kk _ ?_ (((OX.rep (.inr rfl)).app (OX.rep (.inl rfl))).app (OX.rep (.inr rfl))))
   rw[gxE,gxE,aR,aR,aR];omega
  refine iteDf (fun hv=>?_) (fun hv=>?_)
  ·refine⟨rfl,by omega,by omega,sz (by rw[rngD_len];omega),?_⟩
   refine bars_join (n:=n.toNat) (by omega) (fun d K' k'=>?_) fun l hl ho=>.keep (kk l hl ho)
   refine⟨hb,by decide,by decide,fun v v0 v1=>⟨by decide,?_⟩⟩
   obtain⟨c,e,hc⟩:=atI_in (l:=(Str.ofString "xxxo").cps.toList) v0 v1
   exact fj e (k' c ((OX.of (l:=(Str.ofString "xxxo").cps.toList) (by decide +kernel)) c hc))
  refine⟨hb,by decide,by decide,fun p p0 p1=>⟨by decide,?_⟩⟩
  obtain⟨c,e,hc⟩:=atI_in (l:=(Str.ofString "ox").cps.toList) p0 p1
  exact fj e ⟨c,rfl,by omega,by omega,.keep (kk _ (aR ..) (OX.rep ((OX.of (l:=(Str.ofString "ox").cps.toList) (by decide +kernel)) c hc)))⟩
theorem inv_patched {ds:List D}{μ:MS}{Kd:DK}(h:fPatched ds μ Kd):∃ v0 v1 v2 v3,ds=[.mr v0,.int v1,.lst v2,.mr v3]:=by
 unfold fPatched at h
 rcases ds with _ | ⟨z0,ds⟩
 ·exact False.elim h
 cases z0 <;> first | exact False.elim h | skip
 rcases ds with _ | ⟨z1,ds⟩
 ·exact False.elim h
 cases z1 <;> first | exact False.elim h | skip
 rcases ds with _ | ⟨z2,ds⟩
 ·exact False.elim h
 cases z2 <;> first | exact False.elim h | skip
 rcases ds with _ | ⟨z3,ds⟩
 ·exact False.elim h
 cases z3 <;> first | exact False.elim h | skip
 rcases ds with _ | ⟨zz,zs⟩
 ·exact⟨_,_,_,_,rfl⟩
 ·exact False.elim h
theorem ok_patched (F:Fun K "_law_patched" "_law_patched" s_patched f fd)(T:Bi2 mg)(C_take:c_take P w K mg base):FnOk P w K mg base CX0 2 f fd (pA s_patched) (spD fPatched):=by
 refine F.okD sc_patched (fun ds μ Kd h=>by obtain⟨_,_,_,_,rfl⟩:=inv_patched h;rfl) (fun cdv A outer s H E hr=>⟨_,(eS (qS 4 sc_patched.nd (dPl (dPl (d_lst false (a1 d_int)) (dv 2)) (d_lst false (a1 (dv 1)))))
  (eS (s_for cf rfl (i_range1 rfl T.range (a1 (dMi (dLn T (dv 4)) d_int))) (qT 5 sc_patched.nd)
  (eS (qS 6 sc_patched.nd (qC C_take hr (a2 (dv 0) (dLn T (dv 3)))))
  (eS (qS 7 sc_patched.nd (dIX (dv 3) (dv 6)))
  (eS (qS 8 sc_patched.nd (d_op mulC so_mul d_str (dMi (dIX (dv 4) (dPl (dv 5) d_int)) (dIX (dv 4) (dv 5)))))
  (b_one (s_asgS (dPl (dPl (d_slice false (dv 7) o_no (o_some (dIX (dv 4) (dv 5)))) (dv 8)) (d_slice false (dv 7) (o_some (dIX (dv 4) (dPl (dv 5) d_int))) o_no)) (dv 3) (dv 6)))))))
  (b_one (s_ret (dv 3))))),fun ds μ Kd hm hl h=>?_⟩)
 obtain⟨k,n,cs0,t,rfl⟩:=inv_patched h
 unfold fPatched at h
 ·skip
  obtain⟨hb,hkt,h1,h2,cs,ls,rfl,hcl,hc,ht,hne,hll,hg,kk⟩:=h
  have lt:t<μ.length:=(gxB ht).1
  refine⟨zs,?_⟩
  refine⟨by rw[gxC];exact sz (by show 1+cs.length<=_;omega),?_⟩
  refine⟨zs,?_⟩
  refine⟨by rw[gxE,gxC];exact sz (by show 1+cs.length+1<=_;omega),?_⟩
  rw[ends_map n cs]
  obtain⟨es,he⟩:∃ es,es=eM n cs:=⟨_,rfl⟩
  rw[<- he]
  have hup:es.Pairwise (·<·):=by rw[he];exact ends_up h1 hc
  have hin:∀ x∈es,0<=x/\x<=n:=fun x hx=>ends_in h1 hc (by rw[<- he];exact hx)
  have hel:es.length=cs.length+2:=by rw[he,fk]
  have len1:((es.map D.int).length:Int)=(es.length:Nat):=by rw[gxC]
  refine⟨by rw[len1];omega,by rw[len1];omega,?_⟩
  refine forW_inv (fun ds ρ μ'=>(∀ d∈ds,∃ j:Nat,j+1<es.length/\d=.int j)/\∃ ls' a b c d,ρ=[some (.mr k),some (.int n),some (.lst (cs.map D.int)),some (.mr t),some (.lst (es.map D.int)),a,b,c,d]/\μ'=μ.set t (.lst (ls'.map txD))/\ls'.length=ls.length/\Good n ls') ⟨fun d hd=>?_,ls,none,none,none,none,rfl,?_,rfl,hg⟩ ?_ ?_
  ·obtain⟨j,hj,rfl⟩:=rngD_mem hd
   rw[len1]at hj
   exact⟨j,by omega,by rw[Int.zero_add]⟩
  ·exact(set_self ht).symm
  ·rintro d ds' ρ μ' ⟨hd,ls',a,b,c,e,rfl,rfl,hl',hg'⟩
   refine⟨trivial,fun nx hnx=>?_⟩
   obtain⟨j,hj,rfl⟩:=hd d ao
   have hbx:(μ.set t (.lst (ls'.map txD)))[k]?=some .box:=by rw[aG (aY hkt)];exact hb
   have lls:0<ls'.length:=by rw[hl'];exact List.length_pos_iff.mpr hne
   refine fj (lvM_set lt) ⟨hbx,by rw[gxC];omega,by rw[gxC];omega,fun v v0 v1=>?_⟩
   rw[gxC]at v1
   obtain⟨l,hl2⟩:∃ l,ls'[v.toNat]?=some l:=⟨ls'[v.toNat]'(by omega),gxA _⟩
   obtain⟨hll2,hox⟩:=hg' l (gxD hl2)
   have ev:atI (ls'.map txD) v=some (txD l):=by have:=atI_map (g:=txD) hl2;rwa [bO v0]at this
   refine fj (lvM_set lt) (fj ev ?_)
   obtain⟨x,hx⟩:∃ x,es[j]?=some x:=⟨es[j]'(by omega),gxA _⟩
   obtain⟨y,hy⟩:∃ y,es[j+1]?=some y:=⟨es[j+1]'(by omega),gxA _⟩
   have hxy:=up_get hup hx hy (bA _)
   have hx2:=hin x (gxD hx)
   have hy2:=hin y (gxD hy)
   have e1:atI (es.map D.int) (j:Int)=some (.int x):=atI_map hx
   have e2:atI (es.map D.int) ((j:Int)+1)=some (.int y):=atI_map (i:=j+1) hy
   refine fj e2 (fj e1 ⟨111,rfl,by omega,by omega,?_⟩)
   have lz:(txt l).length<=sizeLine:=by rw[txt_len];exact sz (by omega)
   refine fj e1 ⟨lz,?_⟩
   have c1:=cutL_le l none (some x)
   have c2:=cutL_le l (some y) none
   refine⟨?_,?_⟩
   ·show(txt (cutL l none (some x))).length+(txt (List.replicate (y - x).toNat 111)).length<=sizeLine
    rw[txt_len,txt_len,aR];exact sz (by omega)
   refine fj e2 ⟨lz,?_,?_⟩
   ·show(txt (cutL l none (some x))++txt (List.replicate (y - x).toNat 111)).length+(txt (cutL l (some y) none)).length<=sizeLine
    rw[app_str,lenS,txt_len,gxE,aR];exact sz (by omega)
   have ei:ixN (ls'.map txD).length v=some v.toNat:=by
    unfold ixN;rw[au v0,au (by rw[gxC];omega)]
   refine fj (lvM_set lt) (fj ei (hnx _ _ ⟨fun d hd'=>hd d (gxI _ hd'),ls'.set v.toNat (l.take x.toNat++List.replicate (y - x).toNat 111++l.drop y.toNat),_,_,_,_,rfl,?_,by rw[bL];exact hl',fun l' hl3=>?_⟩))
   ·rw[bI,List.map_set]
    congr 3
    show D.str (txt (cutL l none (some x))++txt (List.replicate (y - x).toNat 111)++txt (cutL l (some y) none))=_
    rw[app_str,app_str,cutL_to hx2.1,cutL_from hy2.1]
    rfl
   ·rcases List.mem_or_eq_of_mem_set hl3 with q | q
    ·exact hg' l' q
    ·rw[q]
     refine⟨?_,((show OX (l.take x.toNat)from fun c hc=>hox c (aW hc)).app (OX.rep (.inl rfl))).app (show OX (l.drop y.toNat)from fun c hc=>hox c (List.mem_of_mem_drop hc))⟩
     rw[gxE,gxE,bu,aR,bB]
     omega
  ·rintro ρ μ' ⟨_,ls',a,b,c,e,rfl,rfl,hl',hg'⟩
   exact⟨trivial,.keep (kk ls' hl' hg')⟩
theorem inv_shelf {ds:List D}{μ:MS}{Kd:DK}(h:fShelf ds μ Kd):∃ v0 v1,ds=[.mr v0,.int v1]:=by
 unfold fShelf at h
 rcases ds with _ | ⟨z0,ds⟩
 ·exact False.elim h
 cases z0 <;> first | exact False.elim h | skip
 rcases ds with _ | ⟨z1,ds⟩
 ·exact False.elim h
 cases z1 <;> first | exact False.elim h | skip
 rcases ds with _ | ⟨zz,zs⟩
 ·exact⟨_,_,rfl⟩
 ·exact False.elim h
theorem ok_shelf (F:Fun K "_law_shelf" "_law_shelf" s_shelf f fd)(T:Bi2 mg)(C_take:c_take P w K mg base)(C_bars:c_bars P w K mg base)(C_cuts:c_cuts P w K mg base)(C_patched:c_patched P w K mg base):FnOk P w K mg base CX0 3 f fd (pA s_shelf) (spD fShelf):=by
 refine F.okD sc_shelf (fun ds μ Kd h=>by obtain⟨_,_,rfl⟩:=inv_shelf h;rfl) (fun cdv A outer s H E hr=>⟨_,(eS (qS 2 sc_shelf.nd (dPl d_int (qC C_take hr (a2 (dv 0) (dv 1)))))
  (eS (qS 3 sc_shelf.nd (qC C_cuts hr (a2 (dv 0) (dv 2))))
  (eS (qS 4 sc_shelf.nd (qC C_take hr (a2 (dv 0) d_int)))
  (b_cut (s_if (qEq (qC C_take hr (a2 (dv 0) d_int)) d_int)
  (b_one (qS 4 sc_shelf.nd d_int))
  b_nil)
  (eS (sC1 5 true sc_shelf.nd (cOk (N:=["_law_k", "_law_box_here", "_law_size"]) (js:=[none,some 0,some 2]) sc_shelf (by decide +kernel)) (i_range1 rfl T.range (a1 (dv 4))) (fun _ _ _ nd=>(qN 0 nd)) (fun _ _ _=>ts_nil) (fun _ _ _=>(qC C_bars hr (a2 (dv 1) (dv 2)))))
  (b_cut (s_if (PW.pt (t_and (qGt (dv 4) d_int) (t_and1 (qGt (qC C_take hr (a2 (dv 0) d_int)) d_int))))
  (b_one (qS 5 sc_shelf.nd (qC C_patched hr (fb (dv 0) (fb (dv 2) (fb (dv 3) (fb (dv 5) da_nil)))))))
  b_nil)
  (eS (qS 6 sc_shelf.nd (qC C_take hr (a2 (dv 0) d_int)))
  (eS (qS 7 sc_shelf.nd (qC C_take hr (a2 (dv 0) d_int)))
  (eS (sC1 8 false sc_shelf.nd (cOk (N:=["_law_k", "_law_low", "_law_box_here", "_law_kind"]) (js:=[none,some 7,some 0,some 6]) sc_shelf (by decide +kernel)) (i_range1 rfl T.range (a1 (dv 4))) (fun _ _ _ nd=>(qN 0 nd)) (fun _ _ _=>ts_nil) (fun _ _ _=>(dPl (dv 1) (qC C_take hr (a2 (dv 2) (dIX (d_lst false (fb d_int (fb d_int (fb d_int (fb d_int da_nil))))) (dv 3)))))))
  (b_one (s_ret (d_tup (a3 (dv 2) (dv 3) (d_listZip false rfl (by rfl) T.list (by rfl) T.zip (a2 (dv 5) (dv 8)))))))))))))))),fun ds μ Kd hm hl h=>?_⟩)
 obtain⟨k,m,rfl⟩:=inv_shelf h
 unfold fShelf at h
 ·skip
  obtain⟨hb,h1,h2,kk⟩:=h
  refine⟨hb,by omega,by omega,fun v v0 v1=>?_⟩
  refine⟨hb,by omega,by omega,fun cs hcl hc=>?_⟩
  refine⟨hb,by decide,by decide,fun w w0 w1=>?_⟩
  refine⟨fun ρ' μ'=>∃ many:Int,0<=many/\many<=20/\ρ'=[some (.mr k),some (.int m),some (.int (1+v)),some (.lst (cs.map D.int)),some (.int many),none,none,none,none]/\μ'=μ,?_,?_⟩
  ·refine⟨hb,by decide,by decide,fun u u0 u1=>?_⟩
   exact iteDf (fun _=>⟨20,by decide,by decide,rfl,rfl⟩) (fun _=>⟨w,w0,by omega,rfl,rfl⟩)
  rintro ρ' μ' ⟨many,m0,m1,rfl,rfl⟩
  refine⟨by omega,by omega,sz (by rw[rngD_len];omega),?_⟩
  refine compW_any txD (fun l=>(l.length:Int)=1+v/\OX l) trivial (fun d hd K' k'=>⟨hb,by omega,by omega,fun l hl ho=>k' l ⟨by omega,ho⟩⟩) fun ls hls hg=>?_
  rw[rngD_len]at hls
  have kl:k<μ'.length:=(gxB hb).1
  have hb2:∀ x:MO,(μ'++[x])[k]?=some .box:=fun x=>by rw[gxF kl];exact hb
  refine⟨fun ρ'' μ''=>∃ ls':List (List Nat),ls'.length=many.toNat/\Good (1+v) ls'/\ρ''=[some (.mr k),some (.int m),some (.int (1+v)),some (.lst (cs.map D.int)),some (.int many),some (.mr μ'.length),none,none,none]/\μ''=μ'++[.lst (ls'.map txD)],?_,?_⟩
  ·refine iteD (fun hp=>?_) (fun hp=>⟨ls,hls,hg,rfl,rfl⟩)
   refine⟨hb2 _,by decide,by decide,fun u u0 u1=>?_⟩
   refine iteD (fun _=>?_) (fun _=>⟨ls,hls,hg,rfl,rfl⟩)
   refine⟨hb2 _,ai kl,by omega,by omega,cs,ls,rfl,by omega,hc,lvM_eq lvM_new,?_,by omega,hg,fun ls' hl' hg'=>⟨ls',hl'.trans hls,hg',rfl,set_end⟩⟩
   intro e
   rw[e]at hls
   simp at hls
   omega
  rintro ρ'' μ'' ⟨ls',hl',hg',rfl,rfl⟩
  refine⟨hb2 _,by decide,by decide,fun kd k0 k1=>⟨hb2 _,by decide,by decide,fun lw l0 l1=>?_⟩⟩
  refine⟨by omega,by omega,sz (by rw[rngD_len];omega),?_⟩
  obtain⟨mm,em,mm1,mm2⟩:=ages4 k0 k1
  refine compW_any D.int (fun a=>0<=a/\a<=60) trivial (fun d hd K' k'=>⟨zs,fj em ⟨hb2 _,by omega,by omega,fun a a0 a1=>k' (lw+a) ⟨by omega,by omega⟩⟩⟩) fun as has hag=>?_
  rw[rngD_len]at has
  refine fj lvM_new ⟨zs,?_⟩
  rw[zip_tk]
  refine .drop ⟨True.intro,mrL_ints cs,mrL_tk _,True.intro⟩ (old_at (n:=0) hm) ?_
  rw[take_end]
  refine kk (1+v) cs (ls'.zip as) (by omega) (by omega) hcl hc ⟨by rw[List.length_zip];omega,fun t ht=>?_⟩
  have z1:=hg' t.1 (dq ht).1
  have z2:=hag t.2 (dq ht).2
  exact⟨z1.1,z1.2,z2.1,z2.2⟩
theorem inv_ends {ds:List D}{μ:MS}{Kd:DK}(h:fEnds ds μ Kd):∃ v0 v1,ds=[.int v0,v1]:=by
 unfold fEnds at h
 rcases ds with _ | ⟨z0,ds⟩
 ·exact False.elim h
 cases z0 <;> first | exact False.elim h | skip
 rcases ds with _ | ⟨z1,ds⟩
 ·exact False.elim h
 rcases ds with _ | ⟨zz,zs⟩
 ·exact⟨_,_,rfl⟩
 ·exact False.elim h
theorem ok_ends (F:Fun K "ends" "ends" s_ends f fd)(T:Bi2 mg)  : FnOk P w K mg base CX0 1 f fd (pA s_ends) (spD fEnds):=by
 refine F.okD sc_ends (fun ds μ Kd h=>by obtain⟨_,_,rfl⟩:=inv_ends h;rfl) (fun cdv A outer s H E hr=>⟨_,(b_one (s_ret (dPl (dPl (d_lst false (a1 d_int)) (d_ty listC (so_list (m:=false)) (by rfl) T.list ar (a1 (dv 1)))) (d_lst false (a1 (dv 0)))))),fun ds μ Kd hm hl h=>?_⟩)
 obtain⟨n,x,rfl⟩:=inv_ends h
 unfold fEnds at h
 ·skip
  obtain⟨cs,ex,hc,kk⟩:=h
  refine⟨zs,fj ex ⟨by rw[gxC];exact sz (by show 1+cs.length<=_;omega),zs,by rw[gxE,gxC];exact sz (by show 1+cs.length+1<=_;omega),?_⟩⟩
  rw[ends_map]
  exact .keep kk
theorem prs_zip (es:List Int):List.zipWith (fun a b=>D.tup [a,b]) (es.map D.int) (L2.cutD (es.map D.int) (some 1) none)=(prs es).map prD:=by
 have e:L2.cutD (es.map D.int) (some 1) none=es.tail.map D.int:=by
  unfold L2.cutD
  rw[show(1:Int)=((1:Nat):Int)from rfl,HT.sIx_nat,HT.sIx_none,gxC]
  cases es with
  | nil=>rfl
  | cons a es=>rw[aX,cg (by omega)];simp[bD]
 rw[e]
 unfold prs
 have key:∀(xs ys:List Int),List.zipWith (fun a b=>D.tup [a,b]) (xs.map D.int) (ys.map D.int)=(xs.zip ys).map prD:=by
  intro xs
  induction xs with
  | nil=>intro ys;simp
  | cons x xs ih =>
   intro ys
   cases ys with
   | nil=>simp
   | cons y ys=>rw[ag,ag,bo,ih,ck,ag];rfl
 exact key es es.tail
theorem inv_pieces {ds:List D}{μ:MS}{Kd:DK}(h:fPieces ds μ Kd):∃ v0 v1,ds=[.int v0,v1]:=by
 unfold fPieces at h
 rcases ds with _ | ⟨z0,ds⟩
 ·exact False.elim h
 cases z0 <;> first | exact False.elim h | skip
 rcases ds with _ | ⟨z1,ds⟩
 ·exact False.elim h
 rcases ds with _ | ⟨zz,zs⟩
 ·exact⟨_,_,rfl⟩
 ·exact False.elim h
theorem ok_pieces (F:Fun K "pieces" "pieces" s_pieces f fd)(T:Bi2 mg)(C_ends:c_ends P w K mg base):FnOk P w K mg base CX0 2 f fd (pA s_pieces) (spD fPieces):=by
 refine F.okD sc_pieces (fun ds μ Kd h=>by obtain⟨_,_,rfl⟩:=inv_pieces h;rfl) (fun cdv A outer s H E hr=>⟨_,(eS (qS 2 sc_pieces.nd (qC C_ends hr (a2 (dv 0) (dv 1))))
  (b_one (s_ret (d_listZip false rfl (by rfl) T.list (by rfl) T.zip (a2 (dv 2) (d_slice false (dv 2) (o_some d_int) o_no)))))),fun ds μ Kd hm hl h=>?_⟩)
 obtain⟨n,x,rfl⟩:=inv_pieces h
 unfold fPieces at h
 ·skip
  obtain⟨cs,ex,hc,kk⟩:=h
  refine⟨cs,ex,hc,?_⟩
  show Fz _ _ (.lst (List.zipWith (fun a b=>D.tup [a,b]) ((eM n cs).map D.int) (L2.cutD ((eM n cs).map D.int) (some 1) none))) μ
  rw[prs_zip]
  exact .keep kk
theorem inv_bar_of {ds:List D}{μ:MS}{Kd:DK}(h:fBarOf ds μ Kd):∃ v0 v1 v2,ds=[.int v0,v1,v2]:=by
 unfold fBarOf at h
 rcases ds with _ | ⟨z0,ds⟩
 ·exact False.elim h
 cases z0 <;> first | exact False.elim h | skip
 rcases ds with _ | ⟨z1,ds⟩
 ·exact False.elim h
 rcases ds with _ | ⟨z2,ds⟩
 ·exact False.elim h
 rcases ds with _ | ⟨zz,zs⟩
 ·exact⟨_,_,_,rfl⟩
 ·exact False.elim h
theorem ok_bar_of (F:Fun K "bar_of" "bar_of" s_bar_of f fd)(T:Bi2 mg)(C_pieces:c_pieces P w K mg base):FnOk P w K mg base CX0 3 f fd (pA s_bar_of) (spD fBarOf):=by
 refine F.okD sc_bar_of (fun ds μ Kd h=>by obtain⟨_,_,_,rfl⟩:=inv_bar_of h;rfl) (fun cdv A outer s H E hr=>⟨_,(eS (s_for cf rfl (i_list (qC C_pieces hr (a2 (dv 0) (dv 1)))) ⟨(pg_tupC (n:=2) rfl (eT (qN 3 sc_bar_of.nd) (eT (qN 4 sc_bar_of.nd) pgs_nilC))),(so_tup (fh (fg 3) (eO 3) (fh (fg 4) (eO 4) so_nil eY) (eR (eO 4) eY))),(mo_tup (eR (eO 3) (eR (eO 4) eY)))⟩
  (b_one (s_if (d_testV (d_blt (allC rfl) so_all (by rfl) T.all PyProof.Rows.boot_all (a1 (dCp false (cOk (N:=["text", "age", "first", "behind"]) (js:=[none,none,some 3,some 4]) sc_bar_of (by decide +kernel)) (so_tup (fh (fg 0) (eO 0) (fh (fg 1) (eO 1) so_nil eY) (eR (eO 1) eY))) (mo_tup (eR (eO 0) (eR (eO 1) eY))) (i_list (dv 2)) (fun _ _ _ nd=>(pg_tupC (n:=2) rfl (eT (qN 0 nd) (eT (qN 1 nd) pgs_nilC)))) (fun _ _ _=>ts_nil) (fun _ _ _=>(d_cmp inC so_in d_str (d_slice false (dv 0) (o_some (dv 2)) (o_some (dv 3))) (by with_unfolding_all rfl)))))))
  (b_one (s_ret (d_tup (a2 (dv 3) (dv 4)))))
  b_nil)))
  (b_one (s_ret d_non))),fun ds μ Kd hm hl h=>?_⟩)
 obtain⟨n,x,y,rfl⟩:=inv_bar_of h
 unfold fBarOf at h
 ·skip
  obtain⟨cs,ts,ex,ey,hc,ht,hn,kk⟩:=h
  refine⟨cs,ex,hc,?_⟩
  refine forW_inv (fun ds ρ μ'=>∃(ps:List (Int×Int)) (a b:Option D),ds=ps.map prD/\barOf (eM n cs) ts=ps.find? (bad ts)/\ρ=[some (.int n),some x,some y,a,b]/\μ'=μ) ⟨_,none,none,rfl,rfl,rfl,rfl⟩ ?_ ?_
  ·rintro d ds' ρ μ' ⟨ps,a,b,e,hf,rfl,rfl⟩
   refine⟨trivial,fun nx hnx=>?_⟩
   cases ps with
   | nil=>cases e
   | cons p ps =>
    cases e
    refine⟨rfl,?_⟩
    refine fj ey ⟨by rw[gxC];exact sz (by have:=ht.few;omega),?_⟩
    refine compW_map (lc_of ey) (fun d=>match d with | .tup [.str z,_]=>some (.bl (decide (120∈cutL z.cps.toList (some p.1) (some p.2)))) | _=>none) (fun d hd K' k'=>?_) ?_
    ·obtain⟨t,ht',rfl⟩:=List.mem_map.mp hd
     have hz:=ht.ok t ht'
     refine⟨rfl,?_⟩
     refine⟨by rw[txt_len];exact sz (by omega),120,rfl,?_⟩
     rw[fne]
     exact k'
    ·refine⟨ts.map fun t=>decide (120∈cutN t.1 p.1 p.2),?_,?_⟩
     ·show some _=_
      rw[dw,a6]
      congr 1
      rw[<- eG]
      rfl
     ·have eb:(ts.map fun t=>decide (120∈cutN t.1 p.1 p.2)).all id=bad ts p:=by unfold bad;rw[List.all_map];rfl
      rw[bZ,<- eb]at hf
      refine iteB (b:=(ts.map fun t=>decide (120∈cutN t.1 p.1 p.2)).all id) (fun hb=>?_) (fun hb=>?_)
      ·refine⟨zs,.keep ?_⟩
       rw[hb]at hf
       rw[hf]at kk
       exact kk
      ·rw[hb]at hf
       exact hnx _ _ ⟨ps,_,_,rfl,hf,rfl,rfl⟩
  ·rintro ρ μ' ⟨ps,a,b,e,hf,rfl,rfl⟩
   cases ps with
   | nil =>
    rw[hf]at kk
    exact⟨trivial,.keep kk⟩
   | cons p ps=>cases e
theorem inv_farthest {ds:List D}{μ:MS}{Kd:DK}(h:fFarthest ds μ Kd):∃ v0 v1 v2 v3,ds=[.int v0,v1,.str v2,.int v3]:=by
 unfold fFarthest at h
 rcases ds with _ | ⟨z0,ds⟩
 ·exact False.elim h
 cases z0 <;> first | exact False.elim h | skip
 rcases ds with _ | ⟨z1,ds⟩
 ·exact False.elim h
 rcases ds with _ | ⟨z2,ds⟩
 ·exact False.elim h
 cases z2 <;> first | exact False.elim h | skip
 rcases ds with _ | ⟨z3,ds⟩
 ·exact False.elim h
 cases z3 <;> first | exact False.elim h | skip
 rcases ds with _ | ⟨zz,zs⟩
 ·exact⟨_,_,_,_,rfl⟩
 ·exact False.elim h
theorem ok_farthest (F:Fun K "farthest" "farthest" s_farthest f fd)(T:Bi2 mg)(C_ends:c_ends P w K mg base):FnOk P w K mg base CX0 2 f fd (pA s_farthest) (spD fFarthest):=by
 refine F.okD sc_farthest (fun ds μ Kd h=>by obtain⟨_,_,_,_,rfl⟩:=inv_farthest h;rfl) (fun cdv A outer s H E hr=>⟨_,(eS (qS 4 sc_farthest.nd (d_mt cV PySem.F.slot_str_find PySem.F.type_str_find findC so_find (dv 2) (a2 d_str (dv 3))))
  (eS (qS 5 sc_farthest.nd (d_if (qLt (dv 4) d_int) (dv 0) (dv 4)))
  (b_one (s_ret (d_blt (maxL rfl) so_maxL (by rfl) T.max eB (a1 (dPl (d_lst false (a1 (dv 3))) (dC1 false (cOk (N:=["place", "clean_to"]) (js:=[none,some 5]) sc_farthest (by decide +kernel)) (i_list (qC C_ends hr (a2 (dv 0) (dv 1)))) (fun _ _ _ nd=>(qN 0 nd)) (fun _ _ _=>(ts_one (qLe (dv 0) (dv 1)))) (fun _ _ _=>(dv 0)))))))))),fun ds μ Kd hm hl h=>?_⟩)
 obtain⟨n,x,z,e,rfl⟩:=inv_farthest h
 unfold fFarthest at h
 ·skip
  obtain⟨cs,ex,hc,hn,hn2,ho,h0,h1,hm',kk⟩:=h
  have len:(z.cps.toList.length:Int)=n:=by rw[<- hn];simp[Str.length]
  refine⟨rfl,120,rfl,h0,by omega,fun r hr=>?_⟩
  obtain⟨q1,q2⟩:=hr.cl ho (by omega)
  have hel:(eM n cs).length=cs.length+2:=fk n cs
  refine iteD (fun hr'=>?_) (fun hr'=>?_)
  all_goals
   refine⟨zs,cs,ex,hc,by rw[gxC];exact sz (by omega),?_⟩
  ·have ct:=q1 hr'
   refine compW_map trivial (keepI fun i=>decide (i<=n)) (fun d hd K' k'=>?_) ?_
   ·obtain⟨i,hi,rfl⟩:=List.mem_map.mp hd
    refine iteD (fun g=>?_) (fun g=>?_)
    ·exact keepI_y (aE g) k'
    ·exact keepI_n (by simp[g]) k'
   ·rw[fm_keepI]
    have fl:=cZ (fun i=>decide (i<=n)) (eM n cs)
    refine⟨by rw[gxC];exact sz (by show 1+_<=_;omega),?_⟩
    refine⟨e::(eM n cs).filter fun i=>decide (i<=n),rfl,by simp,fun m a b=>.keep ?_⟩
    rw[far_eq ho h0 (by omega) hm' (m:=m) ⟨_,ct,?_,?_,?_⟩]
    ·exact kk
    ·rcases List.mem_cons.mp a with q | q
     ·rw[q];exact hm'
     ·exact(List.mem_filter.mp q).1
    ·rcases List.mem_cons.mp a with q | q
     ·omega
     ·have:=bU (List.mem_filter.mp q).2;omega
    ·exact fun y hy hy2=>b y (gxI _ (List.mem_filter.mpr ⟨hy,aE (by omega)⟩))
  ·obtain⟨ct,hrt⟩:=q2 hr'
   refine compW_map trivial (keepI fun i=>decide (i<=r)) (fun d hd K' k'=>?_) ?_
   ·obtain⟨i,hi,rfl⟩:=List.mem_map.mp hd
    refine iteD (fun g=>?_) (fun g=>?_)
    ·exact keepI_y (aE g) k'
    ·exact keepI_n (by simp[g]) k'
   ·rw[fm_keepI]
    have fl:=cZ (fun i=>decide (i<=r)) (eM n cs)
    refine⟨by rw[gxC];exact sz (by show 1+_<=_;omega),?_⟩
    refine⟨e::(eM n cs).filter fun i=>decide (i<=r),rfl,by simp,fun m a b=>.keep ?_⟩
    rw[far_eq ho h0 (by omega) hm' (m:=m) ⟨_,ct,?_,?_,?_⟩]
    ·exact kk
    ·rcases List.mem_cons.mp a with q | q
     ·rw[q];exact hm'
     ·exact(List.mem_filter.mp q).1
    ·rcases List.mem_cons.mp a with q | q
     ·have:=ct.1;omega
     ·have:=bU (List.mem_filter.mp q).2;omega
    ·exact fun y hy hy2=>b y (gxI _ (List.mem_filter.mpr ⟨hy,aE (by omega)⟩))
theorem inv_take_rows {ds:List D}{μ:MS}{Kd:DK}(h:fTakeRows ds μ Kd):∃ v0 v1 v2,ds=[.int v0,v1,v2]:=by
 unfold fTakeRows at h
 rcases ds with _ | ⟨z0,ds⟩
 ·exact False.elim h
 cases z0 <;> first | exact False.elim h | skip
 rcases ds with _ | ⟨z1,ds⟩
 ·exact False.elim h
 rcases ds with _ | ⟨z2,ds⟩
 ·exact False.elim h
 rcases ds with _ | ⟨zz,zs⟩
 ·exact⟨_,_,_,rfl⟩
 ·exact False.elim h
theorem ok_take_rows (F:Fun K "take_rows" "take_rows" s_take_rows f fd)(T:Bi2 mg)(C_ends:c_ends P w K mg base)(C_farthest:c_farthest P w K mg base):FnOk P w K mg base CX0 3 f fd (pA s_take_rows) (spD fTakeRows):=by
 refine F.okD sc_take_rows (fun ds μ Kd h=>by obtain⟨_,_,_,rfl⟩:=inv_take_rows h;rfl) (fun cdv A outer s H E hr=>⟨_,(eS (qS 3 sc_take_rows.nd (qC C_ends hr (a2 (dv 0) (dv 1))))
  (b_one (s_ret (dCp false (cOk (N:=["text", "age", "places", "size", "cuts"]) (js:=[none,none,some 3,some 0,some 1]) sc_take_rows (by decide +kernel)) (so_tup (fh (fg 0) (eO 0) (fh (fg 1) (eO 1) so_nil eY) (eR (eO 1) eY))) (mo_tup (eR (eO 0) (eR (eO 1) eY))) (i_list (dv 2)) (fun _ _ _ nd=>(pg_tupC (n:=2) rfl (eT (qN 0 nd) (eT (qN 1 nd) pgs_nilC)))) (fun _ _ _=>ts_nil) (fun _ _ _=>(d_tup (a2 (dv 1) (dC1 false (compOkN (xsc:=(eV s_take_rows)) (N:=["end", "size", "cuts", "text"]) (js:=[none,some 3,some 4,some 0]) rfl (by decide +kernel)) (i_list (dv 2)) (fun _ _ _ nd=>(qN 0 nd)) (fun _ _ _=>ts_nil) (fun _ _ _=>(qC C_farthest hr (fb (dv 1) (fb (dv 2) (fb (dv 3) (fb (dv 0) da_nil)))))))))))))),fun ds μ Kd hm hl h=>?_⟩)
 obtain⟨n,x,y,rfl⟩:=inv_take_rows h
 unfold fTakeRows at h
 ·skip
  obtain⟨cs,ts,ex,ey,S,kk⟩:=h
  have hel:(eM n cs).length=cs.length+2:=fk n cs
  have few:=S.few
  have ft:=S.takes.few
  refine⟨cs,ex,S.few,?_⟩
  refine fj ey ⟨by rw[gxC];exact sz (by omega),?_⟩
  refine compW_map (lc_of ey) (mapT (rowTD (eM n cs))) (fun d hd K' k'=>?_) ?_
  ·obtain⟨t,ht,rfl⟩:=List.mem_map.mp hd
   have hz:=S.takes.ok t ht
   refine⟨rfl,by rw[gxC];exact sz (by omega),?_⟩
   refine compW_map trivial (mapI fun e=>.int (farF (eM n cs) t.1 e)) (fun d hd K'' k''=>?_) ?_
   ·obtain⟨e,he,rfl⟩:=List.mem_map.mp hd
    have hin:=ends_in S.n1 S.cuts he
    exact⟨cs,ex,S.few,by rw[txt_len];exact hz.1,S.n2,by rw[txt_list];exact hz.2.1,hin.1,hin.2,he,by rw[txt_list];exact k''⟩
   ·refine⟨zs,?_⟩
    rw[fm_mapI,show(eM n cs).map (fun e=>D.int (farF (eM n cs) t.1 e))=(rowT (eM n cs) t).map D.int by unfold rowT;rw[a6];rfl]
    exact k'
  ·refine .keep ?_
   rw[fm_mapT]
   exact kk
theorem inv_clean_row {ds:List D}{μ:MS}{Kd:DK}(h:fCleanRow ds μ Kd):∃ v0 v1 v2,ds=[v0,.lst v1,.int v2]:=by
 unfold fCleanRow at h
 rcases ds with _ | ⟨z0,ds⟩
 ·exact False.elim h
 rcases ds with _ | ⟨z1,ds⟩
 ·exact False.elim h
 cases z1 <;> first | exact False.elim h | skip
 rcases ds with _ | ⟨z2,ds⟩
 ·exact False.elim h
 cases z2 <;> first | exact False.elim h | skip
 rcases ds with _ | ⟨zz,zs⟩
 ·exact⟨_,_,_,rfl⟩
 ·exact False.elim h
theorem ok_clean_row (F:Fun K "clean_row" "clean_row" s_clean_row f fd)(T:Bi2 mg)  : FnOk P w K mg base CX0 1 f fd (pA s_clean_row) (spD fCleanRow):=by
 refine F.okD sc_clean_row (fun ds μ Kd h=>by obtain⟨_,_,_,rfl⟩:=inv_clean_row h;rfl) (fun cdv A outer s H E hr=>⟨_,(eS (qS 3 sc_clean_row.nd (d_ty listC (so_list (m:=false)) (by rfl) T.list ar (a1 (dv 0))))
  (eS (s_for cf rfl (i_list (dv 1)) ⟨(pg_tupC (n:=2) rfl (eT (qN 4 sc_clean_row.nd) (eT (qN 5 sc_clean_row.nd) pgs_nilC))),(so_tup (fh (fg 4) (eO 4) (fh (fg 5) (eO 5) so_nil eY) (eR (eO 5) eY))),(mo_tup (eR (eO 4) (eR (eO 5) eY)))⟩
  (b_one (s_if (qLe (dv 4) (dv 2))
  (b_one (sCp 3 false sc_clean_row.nd (cOk (N:=["far", "other"]) (js:=[none,none]) sc_clean_row (by decide +kernel)) (so_tup (fh (fg 0) (eO 0) (fh (fg 1) (eO 1) so_nil eY) (eR (eO 1) eY))) (mo_tup (eR (eO 0) (eR (eO 1) eY))) (i_zip rfl T.zip (a2 (dv 3) (dv 5))) (fun _ _ _ nd=>(pg_tupC (n:=2) rfl (eT (qN 0 nd) (eT (qN 1 nd) pgs_nilC)))) (fun _ _ _=>ts_nil) (fun _ _ _=>(d_blt (maxC rfl) so_max (by rfl) T.max eB (a2 (dv 0) (dv 1))))))
  b_nil)))
  (b_one (s_ret (dv 3))))),fun ds μ Kd hm hl h=>?_⟩)
 obtain⟨x,r,a,rfl⟩:=inv_clean_row h
 unfold fCleanRow at h
 ·skip
  obtain⟨es,ts,ex,rfl,hel,htl,kk⟩:=h
  refine fj ex ?_
  refine forW_inv (fun ds ρ μ'=>∃(us:List Tk) (tl:List Int) (u v:Option D),ds=us.map (rowTD es)/\us.foldl (cleanF es a) tl=ownR es ts a/\tl.length<=2000/\ρ=[some x,some (.lst (ts.map (rowTD es))),some (.int a),some (.lst (tl.map D.int)),u,v]/\μ'=μ) ⟨ts,es,none,none,rfl,clean_eq es ts a,hel,rfl,rfl⟩ ?_ ?_
  ·rintro d ds' ρ μ' ⟨us,tl,u,v,e,hf,hl',rfl,rfl⟩
   refine⟨trivial,fun nx hnx=>?_⟩
   cases us with
   | nil=>cases e
   | cons t us =>
    cases e
    refine⟨rfl,?_⟩
    rw[cz]at hf
    refine iteD (fun g=>?_) (fun g=>?_)
    ·unfold cleanF at hf
     rw[au g]at hf
     have lr:(rowT es t).length=es.length:=by unfold rowT;rw[gxC]
     refine⟨by rw[bj,gxC,gxC];exact sz (by omega),?_⟩
     refine compW_map ⟨trivial,trivial⟩ (mapP fun a b=>.int (max a b)) (fun d hd K' k'=>?_) ?_
     ·obtain⟨p,hp,q,hq,rfl⟩:=zip_mem hd
      exact⟨rfl,k'⟩
     ·rw[fm_mapP,<- zw_map D.int max]
      exact hnx _ _ ⟨us,List.zipWith max tl (rowT es t),_,_,rfl,hf,by rw[bj];omega,rfl,rfl⟩
    ·unfold cleanF at hf
     rw[aq g]at hf
     exact hnx _ _ ⟨us,tl,_,_,rfl,hf,hl',rfl,rfl⟩
  ·rintro ρ μ' ⟨us,tl,u,v,e,hf,hl',rfl,rfl⟩
   cases us with
   | nil =>
    refine⟨trivial,.keep ?_⟩
    rw[show ownR es ts a=tl from hf.symm]at kk
    exact kk
   | cons t us=>cases e
theorem inv_next_reach {ds:List D}{μ:MS}{Kd:DK}(h:fNextM ds μ Kd):∃ v0 v1 v2 v3,ds=[v0,.lst v1,v2,.int v3]:=by
 unfold fNextM at h
 rcases ds with _ | ⟨z0,ds⟩
 ·exact False.elim h
 rcases ds with _ | ⟨z1,ds⟩
 ·exact False.elim h
 cases z1 <;> first | exact False.elim h | skip
 rcases ds with _ | ⟨z2,ds⟩
 ·exact False.elim h
 rcases ds with _ | ⟨z3,ds⟩
 ·exact False.elim h
 cases z3 <;> first | exact False.elim h | skip
 rcases ds with _ | ⟨zz,zs⟩
 ·exact⟨_,_,_,_,rfl⟩
 ·exact False.elim h
theorem ok_next_reach (F:Fun K "next_reach" "next_reach" s_next_reach f fd)(T:Bi2 mg)(C_clean_row:c_clean_row P w K mg base):FnOk P w K mg base CX0 2 f fd (pA s_next_reach) (spD fNextM):=by
 refine F.okD sc_next_reach (fun ds μ Kd h=>by obtain⟨_,_,_,_,rfl⟩:=inv_next_reach h;rfl) (fun cdv A outer s H E hr=>⟨_,(eS (qS 4 sc_next_reach.nd (d_compD (cOk (N:=["at", "end"]) (js:=[none,none]) sc_next_reach (by decide +kernel)) rfl (so_tup (fh (fg 0) (eO 0) (fh (fg 1) (eO 1) so_nil eY) (eR (eO 1) eY))) (mo_tup (eR (eO 0) (eR (eO 1) eY))) rfl (i_enumL rfl T.enumerate (a1 (dv 0))) (fun _ _ _=>(pg_tupC (n:=2) rfl (eT (qN 0 (show List.Nodup (["at", "end"]:List Str) by decide +kernel)) (eT (qN 1 (show List.Nodup (["at", "end"]:List Str) by decide +kernel)) pgs_nilC)))) (fun _ _ _=>ts_nil) (fun _ _ _=>(dv 1)) (fun _ _ _=>(dv 0))))
  (eS (qS 5 sc_next_reach.nd (qC C_clean_row hr (a3 (dv 0) (dv 1) (dv 3))))
  (b_one (s_ret (dCp true (cOk (N:=["far", "middle", "before", "where"]) (js:=[none,none,some 2,some 4]) sc_next_reach (by decide +kernel)) (so_tup (fh (fg 0) (eO 0) (fh (fg 1) (eO 1) so_nil eY) (eR (eO 1) eY))) (mo_tup (eR (eO 0) (eR (eO 1) eY))) (i_zip rfl T.zip (a2 (dv 5) (dv 2))) (fun _ _ _ nd=>(pg_tupC (n:=2) rfl (eT (qN 0 nd) (eT (qN 1 nd) pgs_nilC)))) (fun _ _ _=>ts_nil) (fun _ _ _=>(d_blt (maxC rfl) so_max (by rfl) T.max eB (a2 (dv 0) (dIX (dv 2) (d_ixK (hu_of hr) (dv 3) (dv 1) (fun _ _=>rfl))))))))))),fun ds μ Kd hm hl h=>?_⟩)
 obtain⟨x,r,y,a,rfl⟩:=inv_next_reach h
 unfold fNextM at h
 ·skip
  obtain⟨es,ts,bf,ex,rfl,hel,htl,nd,ey,ok,kk⟩:=h
  have lb:=ok.len
  refine fj ex ⟨by rw[enumD_len,gxC];exact sz (by omega),?_⟩
  rw[enumF_eq]
  refine where_go (fun m=>lc_of (lv_old ex)) (fun i e μ' K' k'=>⟨rfl,k'⟩) es 0 [] nd (fun _ h=>nomatch h) ?_
  refine⟨es,ts,ex,rfl,hel,htl,?_⟩
  refine fj ey ⟨by rw[bj,gxC,gxC];exact sz (by omega),?_⟩
  refine compW_map ⟨trivial,lc_of ey⟩ (mapP fun f m=>.int (max f (rowAt es bf m))) (fun d hd K' k'=>?_) ?_
  ·obtain⟨f,hf,m,hmm,rfl⟩:=zip_mem hd
   refine⟨rfl,?_⟩
   have hme:=ok.mem m hmm
   have e1:dval (((whereF 0 es).map (·.1)).zip ((whereF 0 es).map (·.2))) (kI m)=some (.int (es.idxOf m:Nat)):=by
    rw[zip_parts,where_val hme,Nat.zero_add]
   have e2:atI (bf.map D.int) ((es.idxOf m:Nat):Int)=some (.int (rowAt es bf m)):=atI_map (rowAt_some ok hme)
   exact fj e1 (dIx_lv ey e2 k')
  ·rw[fm_mapP,show List.zipWith (fun f m=>D.int (max f (rowAt es bf m))) (ownR es ts a) bf=(nextR es ts bf a).map D.int from(zw_map D.int (fun f m=>max f (rowAt es bf m)) _ _).symm]
   exact .keep kk
theorem inv_youngest {ds:List D}{μ:MS}{Kd:DK}(h:fYoungest ds μ Kd):∃ v0,ds=[v0]:=by
 unfold fYoungest at h
 rcases ds with _ | ⟨z0,ds⟩
 ·exact False.elim h
 rcases ds with _ | ⟨zz,zs⟩
 ·exact⟨_,rfl⟩
 ·exact False.elim h
theorem ok_youngest (F:Fun K "youngest" "youngest" s_youngest f fd)(T:Bi2 mg)  : FnOk P w K mg base CX0 1 f fd (pA s_youngest) (spD fYoungest):=by
 refine F.okD sc_youngest (fun ds μ Kd h=>by obtain⟨_,rfl⟩:=inv_youngest h;rfl) (fun cdv A outer s H E hr=>⟨_,(b_one (s_ret (d_minD rfl (by rfl) T.min (dCp false (cOk (N:=["text", "age"]) (js:=[none,none]) sc_youngest (by decide +kernel)) (so_tup (fh (fg 0) (eO 0) (fh (fg 1) (eO 1) so_nil eY) (eR (eO 1) eY))) (mo_tup (eR (eO 0) (eR (eO 1) eY))) (i_list (dv 0)) (fun _ _ _ nd=>(pg_tupC (n:=2) rfl (eT (qN 0 nd) (eT (qN 1 nd) pgs_nilC)))) (fun _ _ _=>ts_nil) (fun _ _ _=>(dv 1))) d_int))),fun ds μ Kd hm hl h=>?_⟩)
 obtain⟨y,rfl⟩:=inv_youngest h
 unfold fYoungest at h
 ·skip
  obtain⟨ts,ey,htl,kk⟩:=h
  refine fj ey ⟨by rw[gxC];exact sz (by omega),?_⟩
  refine compW_map (lc_of ey) (mapT fun t=>.int t.2) (fun d hd K' k'=>?_) ?_
  ·obtain⟨t,ht,rfl⟩:=List.mem_map.mp hd
   exact⟨rfl,k'⟩
  ·rw[fm_mapT]
   refine⟨ts.map (·.2),by unfold lv;rw[a6];rfl,?_⟩
   split
   ·rename_i e
    refine .keep ?_
    have:youngF ts=0:=by unfold youngF;rw[e]
    rw[this]at kk
    exact kk
   ·exact fun m a b=>.keep (by rw[young_is a b];exact kk)
theorem inv_least_age {ds:List D}{μ:MS}{Kd:DK}(h:fLeast ds μ Kd):∃ v0 v1 v2,ds=[.int v0,v1,v2]:=by
 unfold fLeast at h
 rcases ds with _ | ⟨z0,ds⟩
 ·exact False.elim h
 cases z0 <;> first | exact False.elim h | skip
 rcases ds with _ | ⟨z1,ds⟩
 ·exact False.elim h
 rcases ds with _ | ⟨z2,ds⟩
 ·exact False.elim h
 rcases ds with _ | ⟨zz,zs⟩
 ·exact⟨_,_,_,rfl⟩
 ·exact False.elim h
theorem ok_least_age (F:Fun K "least_age" "least_age" s_least_age f fd)(T:Bi2 mg)(C_bar_of:c_bar_of P w K mg base)(C_ends:c_ends P w K mg base)(C_take_rows:c_take_rows P w K mg base)(C_youngest:c_youngest P w K mg base)(C_next_reach:c_next_reach P w K mg base):FnOk P w K mg base CX0 4 f fd (pA s_least_age) (spD fLeast):=by
 refine F.okD sc_least_age (fun ds μ Kd h=>by obtain⟨_,_,_,rfl⟩:=inv_least_age h;rfl) (fun cdv A outer s H E hr=>⟨_,(eS (s_if (t_notN (qC C_bar_of hr (a3 (dv 0) (dv 1) (dv 2))))
  (b_one (s_ret d_non))
  b_nil)
  (eS (qS 3 sc_least_age.nd (qC C_ends hr (a2 (dv 0) (dv 1))))
  (eS (qS 4 sc_least_age.nd (qC C_take_rows hr (a3 (dv 0) (dv 1) (dv 2))))
  (eS (qS 5 sc_least_age.nd (qC C_youngest hr (a1 (dv 2))))
  (eS (qS 6 sc_least_age.nd (qC C_next_reach hr (fb (dv 3) (fb (dv 4) (fb (dv 3) (fb (dv 5) da_nil))))))
  (eS (s_while cf (qNe (dIX (dv 6) d_int) (dv 0))
  (eS (s_aug (i:=5) sc_least_age.nd rfl lo d_int ip_addC so_ipI)
  (b_one (qS 6 sc_least_age.nd (qC C_next_reach hr (fb (dv 3) (fb (dv 4) (fb (dv 6) (fb (dv 5) da_nil)))))))))
  (b_one (s_ret (dv 5))))))))),fun ds μ Kd hm hl h=>?_⟩)
 obtain⟨n,x,y,rfl⟩:=inv_least_age h
 unfold fLeast at h
 ·skip
  obtain⟨cs,ts,ex,ey,S,hcl,kk⟩:=h
  have few:=S.few
  have ft:=S.takes.few
  have n2:=S.n2
  have nd:=ends_nd S.n1 S.cuts
  have hel:(eM n cs).length=cs.length+2:=fk n cs
  refine⟨cs,ts,ex,ey,by omega,S.takes,by omega,?_⟩
  unfold leastK at kk
  cases hb:barOf (eM n cs) ts with
  | some p =>
   rw[hb]at kk
   exact .keep kk
  | none =>
   rw[hb]at kk
   obtain⟨a,ha,la⟩:=least_ex60 S hcl hb
   have ly:=least_young S la
   have kk:=kk a ha la
   refine⟨cs,ex,S.few,?_⟩
   refine⟨cs,ts,ex,ey,S,?_⟩
   refine⟨ts,ey,by omega,?_⟩
   have yn:=young_nn S.takes
   have yl:=young_le (ts:=ts)
   obtain⟨y0,hy0⟩:∃ y0:Nat,youngF ts=(y0:Int):=⟨(youngF ts).toNat,by omega⟩
   rw[hy0]at yn yl ly ⊢
   obtain⟨es,he⟩:∃ es,es=eM n cs:=⟨_,rfl⟩
   rw[<- he]at nd hel la ⊢
   refine⟨es,ts,es,rfl,rfl,by omega,by omega,nd,rfl,ends_ok es,?_⟩
   have e0:nextR es ts es (y0:Int)=rowsR es ts y0:=by
    have:=bef_next es ts y0
    rwa [bef_young (b:=y0) yl]at this
   rw[e0]
   refine⟨fun m ρ μ'=>∃(b j:Nat) (g:MS),m=a - b/\b<=a/\ρ=[some (.int n),some x,some y,some (.lst (es.map D.int)),some (.lst (ts.map (rowTD es))),some (.int b),some (.mr j)]/\μ'=μ++g/\lvM μ' j=some ((rowsR es ts b).map D.int),⟨_,y0,_,[.lst ((rowsR es ts y0).map D.int)],rfl,by omega,rfl,rfl,lvM_new⟩,?_⟩
   rintro m ρ μ' ⟨b,j,g,rfl,hba,rfl,rfl,el⟩
   have rok:=rows_ok es ts b
   obtain⟨z,hz⟩:∃ z,(rowsR es ts b)[0]?=some z:=⟨_,gxA (by rw[rok.len];omega)⟩
   refine fj (show lv _ (.mr j)=_ from el) (fj (show atI _ (0:Int)=_ from atI_map (i:=0) hz) ?_)
   refine iteDn (fun q=>?_) (fun q=>?_)
   ·have hlt:b<a:=by
     rcases Nat.lt_or_ge b a with z' | z'
     ·exact z'
     ·have e:b=a:=by omega
      rw[e,la.at_]at hz
      exact absurd (aB hz).symm q
    refine⟨es,ts,rowsR es ts b,rfl,rfl,by omega,by omega,nd,el,rok,?_⟩
    exact⟨_,by omega,b+1,_,g++[.lst ((rowsR es ts (b+1)).map D.int)],rfl,by omega,rfl,by rw[cx];rfl,lvM_new⟩
   ·have e:b=a:=by
     rcases Nat.lt_or_ge b a with z' | z'
     ·rw[q]at hz
      exact absurd hz (la.low b z')
     ·omega
    refine Fz.drop True.intro (old_app hm) ?_
    rw[bW,e]
    exact kk
theorem inv_no_make {ds:List D}{μ:MS}{Kd:DK}(h:fNoMake ds μ Kd):∃ v0,ds=[.lst v0]:=by
 unfold fNoMake at h
 rcases ds with _ | ⟨z0,ds⟩
 ·exact False.elim h
 cases z0 <;> first | exact False.elim h | skip
 rcases ds with _ | ⟨zz,zs⟩
 ·exact⟨_,rfl⟩
 ·exact False.elim h
theorem ok_no_make (F:Fun K "no_make" "no_make" s_no_make f fd)(T:Bi2 mg)  : FnOk P w K mg base CX0 1 f fd (pA s_no_make) (spD fNoMake):=by
 refine F.okD sc_no_make (fun ds μ Kd h=>by obtain⟨_,rfl⟩:=inv_no_make h;rfl) (fun cdv A outer s H E hr=>⟨_,(b_one (s_ret (dMi (dLn T (dv 0)) d_int))),fun ds μ Kd hm hl h=>?_⟩)
 obtain⟨b,rfl⟩:=inv_no_make h
 unfold fNoMake at h
 ·skip
  obtain⟨hl,kk⟩:=h
  exact .keep kk
theorem inv_bare_table {ds:List D}{μ:MS}{Kd:DK}(h:fBareT ds μ Kd):∃ v0,ds=[.lst v0]:=by
 unfold fBareT at h
 rcases ds with _ | ⟨z0,ds⟩
 ·exact False.elim h
 cases z0 <;> first | exact False.elim h | skip
 rcases ds with _ | ⟨zz,zs⟩
 ·exact⟨_,rfl⟩
 ·exact False.elim h
theorem ok_bare_table (F:Fun K "bare_table" "bare_table" s_bare_table f fd)(T:Bi2 mg)(C_no_make:c_no_make P w K mg base):FnOk P w K mg base CX0 2 f fd (pA s_bare_table) (spD fBareT):=by
 refine F.okD sc_bare_table (fun ds μ Kd h=>by obtain⟨_,rfl⟩:=inv_bare_table h;rfl) (fun cdv A outer s H E hr=>⟨_,(eS (qS 1 sc_bare_table.nd (qC C_no_make hr (a1 (dv 0))))
  (b_one (s_ret (dC1 false (cOk (N:=["first", "places", "none"]) (js:=[none,some 0,some 1]) sc_bare_table (by decide +kernel)) (i_range1 rfl T.range (a1 (dLn T (dv 0)))) (fun _ _ _ nd=>(qN 0 nd)) (fun _ _ _=>ts_nil) (fun _ _ _=>(dC1 false (compOkN (xsc:=(eV s_bare_table)) (N:=["behind", "first", "none"]) (js:=[none,some 0,some 2]) rfl (by decide +kernel)) (i_range1 rfl T.range (a1 (dLn T (dv 1)))) (fun _ _ _ nd=>(qN 0 nd)) (fun _ _ _=>ts_nil) (fun _ _ _=>(d_if (qLe (dv 0) (dv 1)) d_int (dv 2))))))))),fun ds μ Kd hm hl h=>?_⟩)
 obtain⟨b,rfl⟩:=inv_bare_table h
 unfold fBareT at h
 ·skip
  obtain⟨hl,kk⟩:=h
  refine⟨hl,?_⟩
  refine⟨by omega,by omega,?_⟩
  rw[gxK]
  refine⟨sz (by rw[rngD_len];omega),?_⟩
  refine compW_all trivial (fun i:Nat=>D.int (0+(i:Nat))) (fun i=>D.lst (rowI b.length (bareP b.length i))) (fun i hi K' k'=>?_) (.keep kk)
  refine⟨by omega,by omega,?_⟩
  rw[gxK]
  refine⟨sz (by rw[rngD_len];omega),?_⟩
  refine compW_all trivial (fun j:Nat=>D.int (0+(j:Nat))) (fun j=>D.int (bareP b.length i j)) (fun j hj K' k'=>?_) k'
  unfold bareP at k'
  refine iteD (c:=(0+(j:Nat):Int)<=0+(i:Nat)) (fun q=>?_) (fun q=>?_)
  ·rw[au (by omega)]at k';exact k'
  ·rw[aq (by omega)]at k';exact k'
theorem inv_fewest_joined {ds:List D}{μ:MS}{Kd:DK}(h:fFewestJ ds μ Kd):∃ v0 v1 v2,ds=[.lst v0,.lst v1,.int v2]:=by
 unfold fFewestJ at h
 rcases ds with _ | ⟨z0,ds⟩
 ·exact False.elim h
 cases z0 <;> first | exact False.elim h | skip
 rcases ds with _ | ⟨z1,ds⟩
 ·exact False.elim h
 cases z1 <;> first | exact False.elim h | skip
 rcases ds with _ | ⟨z2,ds⟩
 ·exact False.elim h
 cases z2 <;> first | exact False.elim h | skip
 rcases ds with _ | ⟨zz,zs⟩
 ·exact⟨_,_,_,rfl⟩
 ·exact False.elim h
theorem ok_fewest_joined (F:Fun K "fewest_joined" "fewest_joined" s_fewest_joined f fd)(T:Bi2 mg)  : FnOk P w K mg base CX0 1 f fd (pA s_fewest_joined) (spD fFewestJ):=by
 refine F.okD sc_fewest_joined (fun ds μ Kd h=>by obtain⟨_,_,_,rfl⟩:=inv_fewest_joined h;rfl) (fun cdv A outer s H E hr=>⟨_,(b_one (s_ret (d_blt (minL rfl) so_minL (by rfl) T.min eA (a1 (dPl (d_lst false (a1 (dv 2))) (dCp false (cOk (N:=["left", "right"]) (js:=[none,none]) sc_fewest_joined (by decide +kernel)) (so_tup (fh (fg 0) (eO 0) (fh (fg 1) (eO 1) so_nil eY) (eR (eO 1) eY))) (mo_tup (eR (eO 0) (eR (eO 1) eY))) (i_zip rfl T.zip (a2 (dv 0) (dv 1))) (fun _ _ _ nd=>(pg_tupC (n:=2) rfl (eT (qN 0 nd) (eT (qN 1 nd) pgs_nilC)))) (fun _ _ _=>ts_nil) (fun _ _ _=>(dPl (dPl (dv 0) (dv 1)) d_int)))))))),fun ds μ Kd hm hl h=>?_⟩)
 obtain⟨l,r,m,rfl⟩:=inv_fewest_joined h
 unfold fFewestJ at h
 ·skip
  obtain⟨ls,rs,rfl,rfl,h1,h2,kk⟩:=h
  refine⟨zs,?_⟩
  refine⟨by rw[bj,gxC,gxC];exact sz (by omega),?_⟩
  rw[zip_ints]
  refine compW_all ⟨trivial,trivial⟩ (fun p:Int×Int=>D.tup [.int p.1,.int p.2]) (fun p=>D.int (p.1+p.2+1)) (fun p hp K' k'=>⟨rfl,k'⟩) ?_
  rw[zip_plus]
  refine⟨by rw[gxC,bj];exact sz (by show 1+_<=_;omega),?_⟩
  obtain⟨b1,b2,b3⟩:=fmin_is (List.zipWith (fun a b=>a+b+1) ls rs) m
  refine⟨m::List.zipWith (fun a b=>a+b+1) ls rs,rfl,by simp,fun v hv hv2=>.keep ?_⟩
  have e:v=(List.zipWith (fun a b=>a+b+1) ls rs).foldl min m:=by
   have g1:=hv2 m ao
   rcases b1 with q | q
   ·rcases List.mem_cons.mp hv with z | z
    ·omega
    ·have:=b3 v z;omega
   ·have:=hv2 _ (gxI _ q)
    rcases List.mem_cons.mp hv with z | z
    ·omega
    ·have:=b3 v z;omega
  rw[e];exact kk
theorem inv_next_table {ds:List D}{μ:MS}{Kd:DK}(h:fNextTab ds μ Kd):∃ v0 v1 v2,ds=[.lst v0,.lst v1,.lst v2]:=by
 unfold fNextTab at h
 rcases ds with _ | ⟨z0,ds⟩
 ·exact False.elim h
 cases z0 <;> first | exact False.elim h | skip
 rcases ds with _ | ⟨z1,ds⟩
 ·exact False.elim h
 cases z1 <;> first | exact False.elim h | skip
 rcases ds with _ | ⟨z2,ds⟩
 ·exact False.elim h
 cases z2 <;> first | exact False.elim h | skip
 rcases ds with _ | ⟨zz,zs⟩
 ·exact⟨_,_,_,rfl⟩
 ·exact False.elim h
theorem ok_next_table (F:Fun K "next_table" "next_table" s_next_table f fd)(T:Bi2 mg)(C_no_make:c_no_make P w K mg base)(C_fewest_joined:c_fewest_joined P w K mg base):FnOk P w K mg base CX0 2 f fd (pA s_next_table) (spD fNextTab):=by
 refine F.okD sc_next_table (fun ds μ Kd h=>by obtain⟨_,_,_,rfl⟩:=inv_next_table h;rfl) (fun cdv A outer s H E hr=>⟨_,(eS (qS 3 sc_next_table.nd (dC1 false (cOk (N:=["at", "before"]) (js:=[none,some 2]) sc_next_table (by decide +kernel)) (i_range1 rfl T.range (a1 (dLn T (dv 2)))) (fun _ _ _ nd=>(qN 0 nd)) (fun _ _ _=>ts_nil) (fun _ _ _=>(dC1 false (compOkN (xsc:=(eV s_next_table)) (N:=["row", "at"]) (js:=[none,some 0]) rfl (by decide +kernel)) (i_list (dv 1)) (fun _ _ _ nd=>(qN 0 nd)) (fun _ _ _=>ts_nil) (fun _ _ _=>(dIX (dv 0) (dv 1)))))))
  (eS (qS 4 sc_next_table.nd (qC C_no_make hr (a1 (dv 0))))
  (eS (qS 5 sc_next_table.nd (d_lst true da_nil))
  (eS (s_for cf rfl (i_enumZ rfl T.enumerate rfl T.zip (a2 (dv 2) (dv 1))) ⟨(pg_tupC (n:=2) rfl (eT (qN 6 sc_next_table.nd) (eT (pg_tupC (n:=2) rfl (eT (qN 7 sc_next_table.nd) (eT (qN 8 sc_next_table.nd) pgs_nilC))) pgs_nilC))),(so_tup (fh (fg 6) (eO 6) (fh (so_tup (fh (fg 7) (eO 7) (fh (fg 8) (eO 8) so_nil eY) (eR (eO 8) eY))) (mo_tup (eR (eO 7) (eR (eO 8) eY))) so_nil eY) (eR (mo_tup (eR (eO 7) (eR (eO 8) eY))) eY))),(mo_tup (eR (eO 6) (eR (mo_tup (eR (eO 7) (eR (eO 8) eY))) eY)))⟩
  (b_one (s_expr (d_mt PySem.F.plainAttrs_list PySem.F.slot_list_append PySem.F.type_list_append appendC so_append (dv 5) (a1 (dCp false (cOk (N:=["behind", "end", "far", "row", "first", "columns", "none"]) (js:=[none,none,some 8,some 7,some 6,some 3,some 4]) sc_next_table (by decide +kernel)) (so_tup (fh (fg 0) (eO 0) (fh (fg 1) (eO 1) so_nil eY) (eR (eO 1) eY))) (mo_tup (eR (eO 0) (eR (eO 1) eY))) (i_enumL rfl T.enumerate (a1 (dv 0))) (fun _ _ _ nd=>(pg_tupC (n:=2) rfl (eT (qN 0 nd) (eT (qN 1 nd) pgs_nilC)))) (fun _ _ _=>ts_nil) (fun _ _ _=>(d_if (qLe (dv 1) (dv 2)) d_int (qC C_fewest_joined hr (a3 (d_slice false (dv 3) (o_some (dPl (dv 4) d_int)) (o_some (dv 0))) (d_slice false (dIX (dv 5) (dv 0)) (o_some (dPl (dv 4) d_int)) (o_some (dv 0))) (dv 6)))))))))))
  (b_one (s_ret (dv 5))))))),fun ds μ Kd hm hl h=>?_⟩)
 obtain⟨b,c,l,rfl⟩:=inv_next_table h
 unfold fNextTab at h
 ·skip
  obtain⟨es,own,P,rfl,rfl,hol,hel,rfl,kk⟩:=h
  obtain⟨L,hL⟩:∃ L,L=es.length:=⟨_,rfl⟩
  rw[<- hL]at hol hel kk ⊢
  refine⟨by rw[tabR_len];omega,by rw[tabR_len];omega,?_⟩
  rw[tabR_len,gxK]
  refine⟨sz (by rw[rngD_len];omega),?_⟩
  refine compW_all trivial (fun j:Nat=>D.int (0+(j:Nat))) (fun j=>D.lst (rowI L fun i=>P i j)) (fun j hj K' k'=>?_) ?_
  ·rw[bX]at hj
   refine⟨sz (by rw[tabR_len];omega),?_⟩
   refine compW_all trivial (fun i:Nat=>D.lst (rowI L (P i))) (fun i=>D.int (P i j)) (fun i hi K' k'=>?_) k'
   have a1:atI (rowI L (P i)) (0+(j:Nat):Int)=some (.int (P i j)):=by rw[Int.zero_add];exact atI_nat (rowI_get hj)
   exact fj a1 k'
  refine⟨by rw[gxC];omega,?_⟩
  rw[gxC,<- hL]
  refine⟨zs,?_⟩
  obtain⟨Q,hQ⟩:∃ Q,Q=stepP L es own P:=⟨_,rfl⟩
  rw[<- hQ]at kk
  refine forW_inv (fun ds ρ μ'=>∃(k:Nat) (u v w:Option D),k<=L/\ds=((List.range L).drop k).map (fun i=>D.tup [.int (i:Nat),.tup [.lst (rowI L (P i)),.int (own.getD i 0)]])/\ρ=[some (.lst (es.map D.int)),some (.lst (own.map D.int)),some (.lst (tabR L P)),some (.lst ((List.range L).map fun j=>D.lst (rowI L fun i=>P i j))),some (.int ((L:Int) - 1)),some (.mr μ.length),u,v,w]/\μ'=μ++[.lst ((List.range k).map fun i=>D.lst (rowI L (Q i)))]) ⟨0,none,none,none,by omega,enum_tab hol,rfl,rfl⟩ ?_ ?_
  ·rintro d ds' ρ μ' ⟨k,u,v,w,hk,e,rfl,rfl⟩
   refine⟨⟨trivial,trivial⟩,fun nx hnx=>?_⟩
   have hi:k<(List.range L).length:=by
    by_cases q:k<(List.range L).length
    ·exact q
    ·rw[bJ (by omega)]at e;cases e
   have hkL:k<L:=by rwa [gxJ]at hi
   rw[bH hi,List.getElem_range]at e
   cases e
   refine⟨rfl,rfl,?_⟩
   refine⟨lvM_ty lvM_new,?_⟩
   refine⟨by rw[enumD_len,gxC];exact sz (by omega),?_⟩
   rw[enum_es,<- hL]
   refine compW_all trivial (fun j:Nat=>D.tup [.int (j:Nat),.int (es.getD j 0)]) (fun j=>D.int (Q k j)) (fun j hj K' k'=>?_) ?_
   ·rw[bX]at hj
    refine⟨rfl,?_⟩
    have eQ:Q k j=if es.getD j 0<=own.getD k 0 then 0 else(joinP P k j).foldl min ((L:Int) - 1):=by rw[hQ];rfl
    refine iteD (c:=es.getD j 0<=own.getD k 0) (fun q=>?_) (fun q=>?_)
    ·rw[au q]at eQ;rw[eQ]at k';exact k'
    ·rw[aq q]at eQ;rw[eQ]at k'
     have ac:atI ((List.range L).map fun j=>D.lst (rowI L fun i=>P i j)) (j:Int)=some (.lst (rowI L fun i=>P i j)):=atI_maps (g:=fun j=>D.lst (rowI L fun i=>P i j)) (bF hj)
     refine fj ac ?_
     refine⟨(List.range (j - (k+1))).map fun x=>P k (k+1+x),(List.range (j - (k+1))).map fun x=>P (k+1+x) j,?_,?_,?_,?_,?_⟩
     ·rw[cut_rowI (by omega),a6];rfl
     ·rw[cut_rowI (by omega),a6];rfl
     ·rw[gxC,gxJ];omega
     ·rw[gxC,gxJ];omega
     ·rw[zip_join (L:=L)];exact k'
   ·refine fj lvM_new ⟨szS (by rw[gxC,gxJ];omega),?_⟩
    refine hnx _ _ ⟨k+1,_,_,_,by omega,rfl,rfl,?_⟩
    rw[set_end,tabR_succ];rfl
  ·rintro ρ μ' ⟨k,u,v,w,hk,e,rfl,rfl⟩
   refine⟨⟨trivial,trivial⟩,?_⟩
   have hkL:k=L:=by
    have:=cj List.length e
    rw[gxC,bB,gxJ]at this
    simp at this
    omega
   subst hkL
   refine Fz.lst (ae _) (lvM_eq lvM_new) (mr_tabk _ _ _) (old_app hm) ?_
   rw[bW]
   exact kk
theorem inv_few_tables {ds:List D}{μ:MS}{Kd:DK}(h:fFewTabs ds μ Kd):∃ v0 v1 v2 v3,ds=[.int v0,.lst v1,.lst v2,.int v3]:=by
 unfold fFewTabs at h
 rcases ds with _ | ⟨z0,ds⟩
 ·exact False.elim h
 cases z0 <;> first | exact False.elim h | skip
 rcases ds with _ | ⟨z1,ds⟩
 ·exact False.elim h
 cases z1 <;> first | exact False.elim h | skip
 rcases ds with _ | ⟨z2,ds⟩
 ·exact False.elim h
 cases z2 <;> first | exact False.elim h | skip
 rcases ds with _ | ⟨z3,ds⟩
 ·exact False.elim h
 cases z3 <;> first | exact False.elim h | skip
 rcases ds with _ | ⟨zz,zs⟩
 ·exact⟨_,_,_,_,rfl⟩
 ·exact False.elim h
theorem ok_few_tables (F:Fun K "few_tables" "few_tables" s_few_tables f fd)(T:Bi2 mg)(C_ends:c_ends P w K mg base)(C_take_rows:c_take_rows P w K mg base)(C_bare_table:c_bare_table P w K mg base)(C_youngest:c_youngest P w K mg base)(C_next_table:c_next_table P w K mg base)(C_clean_row:c_clean_row P w K mg base):FnOk P w K mg base CX0 4 f fd (pA s_few_tables) (spD fFewTabs):=by
 refine F.okD sc_few_tables (fun ds μ Kd h=>by obtain⟨_,_,_,_,rfl⟩:=inv_few_tables h;rfl) (fun cdv A outer s H E hr=>⟨_,(eS (qS 4 sc_few_tables.nd (qC C_ends hr (a2 (dv 0) (dv 1))))
  (eS (qS 5 sc_few_tables.nd (qC C_take_rows hr (a3 (dv 0) (dv 1) (dv 2))))
  (eS (sCp 6 false sc_few_tables.nd (cOk (N:=["text", "old"]) (js:=[none,none]) sc_few_tables (by decide +kernel)) (so_tup (fh (fg 0) (eO 0) (fh (fg 1) (eO 1) so_nil eY) (eR (eO 1) eY))) (mo_tup (eR (eO 0) (eR (eO 1) eY))) (i_list (dv 2)) (fun _ _ _ nd=>(pg_tupC (n:=2) rfl (eT (qN 0 nd) (eT (qN 1 nd) pgs_nilC)))) (fun _ _ _=>ts_nil) (fun _ _ _=>(dv 1)))
  (eS (qS 7 sc_few_tables.nd (qC C_bare_table hr (a1 (dv 4))))
  (eS (qS 8 sc_few_tables.nd d_bl)
  (eS (qS 9 sc_few_tables.nd d_dnew)
  (eS (s_for cf rfl (i_range2 rfl T.range (a2 (d_blt (min3C rfl) so_min3 (by rfl) T.min eA (a3 (qC C_youngest hr (a1 (dv 2))) d_int (dv 3))) (dPl (dv 3) d_int))) (qT 10 sc_few_tables.nd)
  (b_cut (s_if (PW.pt (t_or (d_testV (dv 8)) (t_or1 (d_testC inC so_in (dv 10) (dv 6) (by with_unfolding_all rfl)))))
  (eS (qS 11 sc_few_tables.nd (dv 7))
  (eS (qS 7 sc_few_tables.nd (qC C_next_table hr (a3 (dv 4) (qC C_clean_row hr (a3 (dv 4) (dv 5) (dv 10))) (dv 11))))
  (b_one (qS 8 sc_few_tables.nd (d_cmp (neDeep (n:=4) (un_of hr (by decide))) so_eqD (dv 7) (dv 11) (nomark _))))))
  b_nil)
  (b_one (s_asgK (hu_of hr) (dv 7) (dv 9) (dv 10)))))
  (b_one (s_ret (dv 9)))))))))),fun ds μ Kd hm hl h=>?_⟩)
 obtain⟨n,x,y,a,rfl⟩:=inv_few_tables h
 unfold fFewTabs at h
 ·skip
  obtain⟨cs,ts,rfl,rfl,S,a0,a1,kk⟩:=h
  have few:=S.few
  have ft:=S.takes.few
  have hel:(eM n cs).length=cs.length+2:=fk n cs
  refine⟨cs,rfl,few,cs,ts,rfl,rfl,S,?_⟩
  refine⟨sz (by rw[gxC];omega),?_⟩
  refine compW_all trivial tkD (fun t=>D.int t.2) (fun t ht K' k'=>⟨rfl,k'⟩) ?_
  have eages:ts.map (fun t=>D.int t.2)=(ts.map (·.2)).map D.int:=by rw[a6];rfl
  rw[eages]
  refine⟨by rw[gxC];omega,?_⟩
  rw[gxC]
  have fs:=fix_start S
  obtain⟨es,he⟩:∃ es,es=eM n cs:=⟨_,rfl⟩
  rw[<- he]at kk hel fs ⊢
  refine⟨ts,rfl,by omega,?_⟩
  have yn:=young_nn S.takes
  have ym:min (youngF ts) (min 0 a)=0:=by omega
  refine⟨⟨by omega,by omega,by omega,by omega⟩,?_⟩
  rw[ym]
  refine forW_inv (fun ds ρ μ'=>∃(k c:Nat) (ch:Bool) (u v:Option D),ds=rngD (k:Int) c/\(k:Int)+c=a+1/\(ch=false->∀ i j,i<es.length->j<es.length->stepP es.length es (ownR es ts ((k:Int) - 1)) (fo es ts k) i j=fo es ts k i j)/\ρ=[some (.int n),some (.lst (cs.map D.int)),some (.lst (ts.map tkD)),some (.int a),some (.lst (es.map D.int)),some (.lst (ts.map (rowTD es))),some (.lst ((ts.map (·.2)).map D.int)),some (.lst (tabR es.length (fo es ts k))),some (.bl ch),some (.mr μ.length),u,v]/\μ'=μ++[.dic (keysD k) (tabsD es ts k)]) ⟨0,(a+1).toNat,false,none,none,by rw[Int.sub_zero];rfl,by omega,fun _=>fs,rfl,rfl⟩ ?_ ?_
  ·rintro d ds' ρ μ' ⟨k,c,ch,u,v,e,hkc,hch,rfl,rfl⟩
   refine⟨trivial,fun nx hnx=>?_⟩
   cases c with
   | zero=>cases e
   | succ c =>
    rw[rngD_cons]at e
    cases e
    refine⟨fun ρ' μ'=>∃(ch':Bool) (v':Option D),(ch'=false->∀ i j,i<es.length->j<es.length->stepP es.length es (ownR es ts (((k+1:Nat):Int) - 1)) (fo es ts (k+1)) i j=fo es ts (k+1) i j)/\ρ'=[some (.int n),some (.lst (cs.map D.int)),some (.lst (ts.map tkD)),some (.int a),some (.lst (es.map D.int)),some (.lst (ts.map (rowTD es))),some (.lst ((ts.map (·.2)).map D.int)),some (.lst (tabR es.length (fo es ts (k+1)))),some (.bl ch'),some (.mr μ.length),some (.int (k:Int)),v']/\μ'=μ++[.dic (keysD k) (tabsD es ts k)],?_,?_⟩
    ·refine or_in (i:=8) (j:=10) (k:=6) ch (k:Int) (ts.map (·.2)) rfl rfl rfl fun b hb=>?_
     refine iteB (b:=b) (fun hbT=>?_) (fun hbF=>?_)
     ·refine⟨es,ts,rfl,rfl,by omega,by omega,?_⟩
      refine⟨es,ownR es ts k,fo es ts k,rfl,rfl,(own_ok _ _ _).len,by omega,rfl,?_⟩
      refine⟨sm_pu (sm_tabR _ _ (by omega)),sm_pu (sm_tabR _ _ (by omega)),rfl,?_⟩
      refine⟨_,_,fun hf=>fix_kept (deq_tab ?_),rfl,rfl⟩
      exact(show ∀ b:Bool,(true != b)=false->b=true by decide) _ hf
     ·obtain⟨h1,h2⟩:=hb hbF
      have fx:=fix_next (hch h1) fun t ht et=>h2 (by rw[<- et];exact List.mem_map_of_mem ht)
      rw[tabR_ext fx]
      refine⟨ch,_,fun _=>fix_kept fx,rfl,rfl⟩
    ·rintro ρ' μ' ⟨ch',v',hch',rfl,rfl⟩
     refine⟨_,_,(by rw[gxG (ae _),aO];rfl),szS (by unfold keysD;rw[gxC,gxJ];omega),keys_new k,?_⟩
     refine hnx _ _ ⟨k+1,c,ch',_,_,rfl,by omega,hch',rfl,?_⟩
     rw[set_end,keysD_succ,tabsD_succ]
  ·rintro ρ μ' ⟨k,c,ch,u,v,e,hkc,hch,rfl,rfl⟩
   refine⟨trivial,?_⟩
   cases c with
   | succ c=>rw[rngD_cons]at e;cases e
   | zero =>
    have hk:k=a.toNat+1:=by omega
    subst hk
    refine Fz.dic (ae _) (by rw[gxG (ae _),aO];rfl) (mr_all fun d hd=>by obtain⟨i,_,rfl⟩:=List.mem_map.mp hd;exact mr_tabR _ _) (old_app hm) ?_
    rw[bW]
    exact kk
theorem inv_fewest {ds:List D}{μ:MS}{Kd:DK}(h:fFewest ds μ Kd):∃ v0 v1 v2 v3,ds=[.int v0,.lst v1,.lst v2,.int v3]:=by
 unfold fFewest at h
 rcases ds with _ | ⟨z0,ds⟩
 ·exact False.elim h
 cases z0 <;> first | exact False.elim h | skip
 rcases ds with _ | ⟨z1,ds⟩
 ·exact False.elim h
 cases z1 <;> first | exact False.elim h | skip
 rcases ds with _ | ⟨z2,ds⟩
 ·exact False.elim h
 cases z2 <;> first | exact False.elim h | skip
 rcases ds with _ | ⟨z3,ds⟩
 ·exact False.elim h
 cases z3 <;> first | exact False.elim h | skip
 rcases ds with _ | ⟨zz,zs⟩
 ·exact⟨_,_,_,_,rfl⟩
 ·exact False.elim h
theorem ok_fewest (F:Fun K "fewest" "fewest" s_fewest f fd)(T:Bi2 mg)(C_few_tables:c_few_tables P w K mg base):FnOk P w K mg base CX0 5 f fd (pA s_fewest) (spD fFewest):=by
 refine F.okD sc_fewest (fun ds μ Kd h=>by obtain⟨_,_,_,_,rfl⟩:=inv_fewest h;rfl) (fun cdv A outer s H E hr=>⟨_,(eS (qS 4 sc_fewest.nd (dIX (dIX (d_ixK (hu_of hr) (qC C_few_tables hr (fb (dv 0) (fb (dv 1) (fb (dv 2) (fb (dv 3) da_nil))))) (dv 3) (fun _ _=>rfl)) d_int) (d_neg d_int)))
  (b_one (s_ret (d_if (qLe (dv 4) (dLn T (dv 1))) (dv 4) d_non)))),fun ds μ Kd hm hl h=>?_⟩)
 obtain⟨n,x,y,a,rfl⟩:=inv_fewest h
 unfold fFewest at h
 ·skip
  obtain⟨cs,ts,rfl,rfl,S,a0,a1,kk⟩:=h
  refine⟨cs,ts,rfl,rfl,S,a0,a1,?_⟩
  have hel:(eM n cs).length=cs.length+2:=fk n cs
  have e1:dval ((keysD (a.toNat+1)).zip (tabsD (eM n cs) ts (a.toNat+1))) (.inl a)=some (.lst (tabR (eM n cs).length (fo (eM n cs) ts (a.toNat+1)))):=by
   have:=dval_at (xs:=List.range (a.toNat+1)) (k:=a.toNat) (fun k=>D.lst (tabR (eM n cs).length (fo (eM n cs) ts (k+1)))) (List.mem_range.mpr (by omega))
   rw[bO a0]at this
   exact this
  have e2:atI (tabR (eM n cs).length (fo (eM n cs) ts (a.toNat+1))) 0=some (.lst (rowI (eM n cs).length (fo (eM n cs) ts (a.toNat+1) 0))):=atI_nat (j:=0) (tabR_get (by omega))
  have e3:atI (rowI (eM n cs).length (fo (eM n cs) ts (a.toNat+1) 0)) (-1)=some (.int (fo (eM n cs) ts (a.toNat+1) 0 (cs.length+1))):=atI_end (by rw[rowI_len,hel];exact rowI_get (by omega))
  refine fj e1 (fj e2 (fj e3 ?_))
  unfold fewK at kk
  refine iteD (c:=fo (eM n cs) ts (a.toNat+1) 0 (cs.length+1)<=((cs.map D.int).length:Int)) (fun q=>?_) (fun q=>?_)
  ·rw[gxC]at q;rw[au q]at kk;exact .keep kk
  ·rw[gxC]at q;rw[aq q]at kk;exact .keep kk
theorem ok_BestMakes_is_take (F:Fun K "is_take" "BestMakes.is_take" s_BestMakes_is_take f fd)(T:Bi2 mg)(eN:ZBestMakes K eP):FnOk P w K mg base CX0 1 f fd (pA s_BestMakes_is_take) (spD (fIsTake eP)):=by
 refine F.okD sc_BestMakes_is_take (fun ds μ Kd h=>by unfold fIsTake at h;split at h <;> first | rfl | exact h.elim) (fun cdv A outer s H E hr=>⟨_,(eS (s_asg (dv 1) ⟨(pg_tupC (n:=3) rfl (eT (qN 2 sc_BestMakes_is_take.nd) (eT (qN 3 sc_BestMakes_is_take.nd) (eT (qN 4 sc_BestMakes_is_take.nd) pgs_nilC)))),(so_tup (fh (fg 2) (eO 2) (fh (fg 3) (eO 3) (fh (fg 4) (eO 4) so_nil eY) (eR (eO 4) eY)) (eR (eO 3) (eR (eO 4) eY)))),(mo_tup (eR (eO 2) (eR (eO 3) (eR (eO 4) eY))))⟩)
  (b_one (s_ret (d_cmp eqC so_eqS (dIX (dIX (d_ixK (hu_of hr) (d_fld eN.cl eN.n_tables (dv 0)) (dv 2) (fun _ _=>rfl)) (dv 3)) (dv 4)) d_int (nomark _))))),fun ds μ Kd hm hl h=>?_⟩)
 unfold fIsTake at h
 split at h
 ·rename_i k s
  obtain⟨es,ts,A,j,a,i,b,B,rfl,kk⟩:=h
  have hib:=B.hib
  have hb:=B.hb
  refine⟨rfl,_,fldE B.at_ bm_tables,?_⟩
  refine fj (tabs_at B.ha) ?_
  refine fj (tab_at (by omega)) ?_
  refine fj (row_at hb) (.keep ?_)
  generalize decide (fo es ts (a+1) i b=0)=c at kk ⊢
  cases c <;> exact kk
 ·exact h.elim
theorem ok_BestMakes_clean_takes (F:Fun K "clean_takes" "BestMakes.clean_takes" s_BestMakes_clean_takes f fd)(T:Bi2 mg)(eN:ZBestMakes K eP):FnOk P w K mg base CX0 1 f fd (pA s_BestMakes_clean_takes) (spD (fCleanT eP)):=by
 refine F.okD sc_BestMakes_clean_takes (fun ds μ Kd h=>by unfold fCleanT at h;split at h <;> first | rfl | exact h.elim) (fun cdv A outer s H E hr=>⟨_,(eS (s_asg (dv 1) ⟨(pg_tupC (n:=3) rfl (eT (qN 2 sc_BestMakes_clean_takes.nd) (eT (qN 3 sc_BestMakes_clean_takes.nd) (eT (qN 4 sc_BestMakes_clean_takes.nd) pgs_nilC)))),(so_tup (fh (fg 2) (eO 2) (fh (fg 3) (eO 3) (fh (fg 4) (eO 4) so_nil eY) (eR (eO 4) eY)) (eR (eO 3) (eR (eO 4) eY)))),(mo_tup (eR (eO 2) (eR (eO 3) (eR (eO 4) eY))))⟩)
  (eS (qS 5 sc_BestMakes_clean_takes.nd (dIX (d_fld eN.cl eN.n_places (dv 0)) (dv 4)))
  (b_one (s_ret (dCp false (cOk (N:=["number", "old", "row", "age", "first", "end"]) (js:=[none,none,none,some 2,some 3,some 5]) sc_BestMakes_clean_takes (by decide +kernel)) (so_tup (fh (fg 0) (eO 0) (fh (so_tup (fh (fg 1) (eO 1) (fh (fg 2) (eO 2) so_nil eY) (eR (eO 2) eY))) (mo_tup (eR (eO 1) (eR (eO 2) eY))) so_nil eY) (eR (mo_tup (eR (eO 1) (eR (eO 2) eY))) eY))) (mo_tup (eR (eO 0) (eR (mo_tup (eR (eO 1) (eR (eO 2) eY))) eY))) (i_enumL rfl T.enumerate (a1 (d_fld eN.cl eN.n_rows (dv 0)))) (fun _ _ _ nd=>(pg_tupC (n:=2) rfl (eT (qN 0 nd) (eT (pg_tupC (n:=2) rfl (eT (qN 1 nd) (eT (qN 2 nd) pgs_nilC))) pgs_nilC)))) (fun _ _ _=>(ts_one (PW.pt (t_and (qLe (dv 1) (dv 3)) (t_and1 (qGe (dIX (dv 2) (dv 4)) (dv 5))))))) (fun _ _ _=>(dv 0))))))),fun ds μ Kd hm hl h=>?_⟩)
 unfold fCleanT at h
 split at h
 ·rename_i k s
  obtain⟨es,ts,A,j,a,i,b,B,rfl,kk⟩:=h
  have hib:=B.hib
  have hb:=B.hb
  have hl':=B.hl
  have ht':=B.ht
  have eb:(es.map D.int)[b]?=some (.int (es.getD b 0)):=by rw[gxH,getD_some hb];rfl
  refine⟨rfl,_,fldE B.at_ bm_places,fj (atI_nat eb) ?_⟩
  refine⟨_,fldE B.at_ bm_rows,?_⟩
  refine⟨by rw[enumD_len,gxC];exact sz (by omega),?_⟩
  rw[enum_range,gxC]
  refine compW_gen trivial _ (fun x=>if(match ts[x]? with | some t=>decide (t.2<=(a:Int))&&decide (es.getD b 0<=farF es t.1 (es.getD i 0)) | none=>false)=true then some (D.int (x:Nat))else none) (fun x hx K' k'=>?_) ?_
  ·rw[bX]at hx
   obtain⟨t,et⟩:∃ t,ts[x]?=some t:=⟨_,gxA hx⟩
   rw[rowTD_at et]
   rw[et]at k'
   dsimp only at k'
   refine⟨rfl,rfl,?_⟩
   refine iteD (c:=t.2<=(a:Int)) (fun q=>?_) (fun q=>?_)
   ·have er:((rowT es t).map D.int)[i]?=some (.int (farF es t.1 (es.getD i 0))):=by
     unfold rowT
     rw[gxH,gxH,getD_some (by omega)];rfl
    refine fj (atI_nat er) ?_
    refine iteD (c:=es.getD b 0<=farF es t.1 (es.getD i 0)) (fun q2=>?_) (fun q2=>?_)
    ·rw[au (by rw[aE q,aE q2];rfl)]at k';exact k'
    ·rw[aq (by rw[aT q2,d4];exact av)]at k';exact k'
   ·rw[aq (by rw[aT q];exact av)]at k';exact k'
  ·rw[fm_if]
   exact .keep kk
 ·exact h.elim
theorem ok_BestMakes_halves (F:Fun K "halves" "BestMakes.halves" s_BestMakes_halves f fd)(T:Bi2 mg)(eN:ZBestMakes K eP):FnOk P w K mg base CX0 1 f fd (pA s_BestMakes_halves) (spD (fHalves eP)):=by
 refine F.okD sc_BestMakes_halves (fun ds μ Kd h=>by unfold fHalves at h;split at h <;> first | rfl | exact h.elim) (fun cdv A outer s H E hr=>⟨_,(eS (s_asg (dv 1) ⟨(pg_tupC (n:=3) rfl (eT (qN 2 sc_BestMakes_halves.nd) (eT (qN 3 sc_BestMakes_halves.nd) (eT (qN 4 sc_BestMakes_halves.nd) pgs_nilC)))),(so_tup (fh (fg 2) (eO 2) (fh (fg 3) (eO 3) (fh (fg 4) (eO 4) so_nil eY) (eR (eO 4) eY)) (eR (eO 3) (eR (eO 4) eY)))),(mo_tup (eR (eO 2) (eR (eO 3) (eR (eO 4) eY))))⟩)
  (eS (qS 5 sc_BestMakes_halves.nd (dIX (dIX (d_ixK (hu_of hr) (d_fld eN.cl eN.n_tables (dv 0)) (dv 2) (fun _ _=>rfl)) (dv 3)) (dv 4)))
  (eS (qS 6 sc_BestMakes_halves.nd (d_ixK (hu_of hr) (d_fld eN.cl eN.n_tables (dv 0)) (dMi (dv 2) d_int) (fun _ _=>rfl)))
  (b_one (s_ret (dC1 false (cOk (N:=["middle", "self", "age", "first", "behind", "before", "many"]) (js:=[none,some 0,some 2,some 3,some 4,some 6,some 5]) sc_BestMakes_halves (by decide +kernel)) (i_range2 rfl T.range (a2 (dPl (dv 3) d_int) (dv 4))) (fun _ _ _ nd=>(qN 0 nd)) (fun _ _ _=>(ts_one (qEq (dPl (dPl (dIX (dIX (dv 5) (dv 3)) (dv 0)) (dIX (dIX (dv 5) (dv 0)) (dv 4))) d_int) (dv 6)))) (fun _ _ _=>(d_tup (a3 (dIX (d_fld eN.cl eN.n_places (dv 1)) (dv 0)) (d_tup (a3 (dMi (dv 2) d_int) (dv 3) (dv 0))) (d_tup (a3 (dMi (dv 2) d_int) (dv 0) (dv 4)))))))))))),fun ds μ Kd hm hl h=>?_⟩)
 unfold fHalves at h
 split at h
 ·rename_i k s
  obtain⟨es,ts,A,j,a,i,b,B,rfl,h1,kk⟩:=h
  have hib:=B.hib
  have hb:=B.hb
  have ha:=B.ha
  have hl':=B.hl
  obtain⟨a',rfl⟩:∃ a',a=a'+1:=⟨a - 1,by omega⟩
  refine⟨rfl,_,fldE B.at_ bm_tables,fj (tabs_at ha) (fj (tab_at (by omega)) (fj (row_at hb) ?_))⟩
  have ek:dval ((keysD (A+1)).zip (tabsD es ts (A+1))) (.inl (((a'+1:Nat):Int) - 1))=some (.lst (tabR es.length (fo es ts (a'+1)))):=by
   rw[show((a'+1:Nat):Int) - 1=(a':Int) by omega];exact tabs_at (by omega)
  refine⟨_,fldE B.at_ bm_tables,fj ek ?_⟩
  refine⟨⟨by omega,by omega,by omega,by omega⟩,?_⟩
  refine⟨by unfold rngD;rw[gxC,gxJ];exact sz (by omega),?_⟩
  rw[rng_map]
  refine compW_gen trivial _ (fun x=>if decide (fo es ts (a'+1) i (i+1+x)+fo es ts (a'+1) (i+1+x) b+1=fo es ts (a'+1+1) i b)=true then some (halfD es (a'+1) i b (i+1+x))else none) (fun x hx K' k'=>?_) ?_
  ·rw[bX]at hx
   have hx1:i+1+x<b:=by omega
   rw[show(i:Int)+1+(x:Nat)=((i+1+x:Nat):Int) by omega]
   generalize i+1+x=m at hx1 k' ⊢
   refine fj (tab_at (by omega)) (fj (row_at (by omega)) (fj (tab_at (by omega)) (fj (row_at hb) ?_)))
   refine iteDf (fun q=>?_) (fun q=>?_)
   ·rw[au (aE q)]at k'
    have ep:(es.map D.int)[m]?=some (.int (es.getD m 0)):=by rw[gxH,getD_some (by omega)];rfl
    refine⟨_,fldE B.at_ bm_places,fj (atI_nat ep) ⟨zs,zs,zs,?_⟩⟩
    exact k'
   ·rw[aq (by rw[aT q];exact av)]at k';exact k'
  ·rw[fm_if]
   rw[mid_filter,a6]at kk
   rw[show((b:Int) - ((i:Int)+1)).toNat=b - (i+1) by omega]
   exact .keep kk
 ·exact h.elim
theorem ok_BestMakes___init__ (F:Fun K "__init__" "BestMakes.__init__" s_BestMakes___init__ f fd)(T:Bi2 mg)(eN:ZBestMakes K eP)(C_ends:c_ends P w K mg base)(C_take_rows:c_take_rows P w K mg base)(C_least_age:c_least_age P w K mg base)(C_few_tables:c_few_tables P w K mg base):FnOk P w K mg base CX0 5 f fd (pA s_BestMakes___init__) (spD (fInit eP)):=by
 refine F.okD sc_BestMakes___init__ (fun ds μ Kd h=>by unfold fInit at h;split at h <;> first | rfl | exact h.elim) (fun cdv A outer s H E hr=>⟨_,(eS (s_fld eN.cl eN.n_places (qC C_ends hr (a2 (dv 1) (dv 2))) (dv 0))
  (eS (s_fld eN.cl eN.n_rows (qC C_take_rows hr (a3 (dv 1) (dv 2) (dv 3))) (dv 0))
  (eS (qS 4 sc_BestMakes___init__.nd (qC C_least_age hr (a3 (dv 1) (dv 2) (dv 3))))
  (eS (s_fld eN.cl eN.n_tables (qC C_few_tables hr (fb (dv 1) (fb (dv 2) (fb (dv 3) (fb (dv 4) da_nil))))) (dv 0))
  (eS (s_fld eN.cl eN.n_whole (d_tup (a3 (dv 4) d_int (dMi (dLn T (d_fld eN.cl eN.n_places (dv 0))) d_int))) (dv 0))
  (b_one (s_fld eN.cl eN.n_counts d_dnewT (dv 0)))))))),fun ds μ Kd hm hl h=>?_⟩)
 unfold fInit at h
 split at h
 ·rename_i k n x y
  obtain⟨cs,ts,rfl,rfl,S,hcl,hb,hk,kk⟩:=h
  have few:=S.few
  have hkl:k<μ.length:=(gxB hk).1
  have at_:∀ {m:MO},(μ.set k m)[k]?=some m:=aD hkl
  have hel:(eM n cs).length=cs.length+2:=fk n cs
  obtain⟨es,he⟩:∃ es,es=eM n cs:=⟨_,rfl⟩
  refine⟨cs,rfl,few,_,(["places"],[.lst (es.map D.int)]),insM_of hk,by rw[<- he];kernel_rfl,by decide,?_⟩
  refine⟨cs,ts,rfl,rfl,S,_,(["places", "rows"],[.lst (es.map D.int),.lst (ts.map (rowTD es))]),insM_of at_,by rw[<- he];kernel_rfl,by show 1<1000;decide,?_⟩
  rw[bI]
  refine⟨cs,ts,rfl,rfl,S,hcl,?_⟩
  unfold leastK
  rw[hb]
  intro a ha la
  refine⟨cs,ts,rfl,rfl,S,by omega,by omega,_,(["places", "rows", "tables"],[.lst (es.map D.int),.lst (ts.map (rowTD es)),.dic (keysD (a+1)) (tabsD es ts (a+1))]),insM_of at_,by rw[<- he];kernel_rfl,by show 2<1000;decide,?_⟩
  rw[bI]
  refine⟨_,fldE at_ (d:=.lst (es.map D.int)) (by kernel_rfl),fj rfl ⟨zs,?_⟩⟩
  have el:((es.map D.int).length:Int) - 1=((es.length - 1:Nat):Int):=by rw[gxC,he];omega
  refine⟨_,(["places", "rows", "tables", "whole"],[.lst (es.map D.int),.lst (ts.map (rowTD es)),.dic (keysD (a+1)) (tabsD es ts (a+1)),stD a 0 (es.length - 1)]),insM_of at_,by show putN "whole" (.tup [.int a,.int 0,.int (((es.map D.int).length:Int) - 1)]) _ _=_;rw[el];kernel_rfl,by show 3<1000;decide,?_⟩
  rw[bI]
  have at2:∀ {m m':MO},(μ.set k m++[m'])[k]?=some m:=fun {m m'}=>by rw[gxF (by rw[bL];exact hkl)];exact at_
  refine⟨_,(bmN,bmV es ts a μ.length),insM_of at2,by rw[bL];kernel_rfl,by show 4<1000;decide,.keep ?_⟩
  have kk:=kk a ha (he▸la)
  rw[List.set_append_left _ _ (by rw[bL];exact hkl),bI,he]
  exact kk
 ·exact h.elim
theorem ok_BestMakes_count_anew {f:Addr}{fd:FuncData}(F:Fun K "count_anew" "BestMakes.count_anew" s_BestMakes_count_anew f fd)(T:Bi2 mg)(eN:ZBestMakes K eP){l n:Nat}(hl:1<=l)(fv:c_BestMakes_is_take P w K mg base)(eZ:c_BestMakes_clean_takes P w K mg base)(C_BestMakes_halves:c_BestMakes_halves P w K mg base)(eX:CalM P w K mg base eP "counted" l ["self", "stretch"] (spD (fCnt eP n))):FnOk P w K mg base CX0 (l+1) f fd ["self", "stretch"] (spD (fCnt eP (n+1))):=by
 refine F.okD sc_BestMakes_count_anew (fun ds μ Kd h=>by unfold fCnt at h;split at h <;> first | rfl | exact h.elim) (fun cdv A outer s H E hr=>⟨_,(eS (s_if (d_testV (d_meth fv eN.cl hr.le (dv 0) (a1 (dv 1))))
  (b_one (s_ret (dLn T (d_meth eZ eN.cl hr.le (dv 0) (a1 (dv 1))))))
  b_nil)
  (eS (qS 2 sc_BestMakes_count_anew.nd d_int)
  (eS (s_for cf rfl (i_list (d_meth C_BestMakes_halves eN.cl hr.le (dv 0) (a1 (dv 1)))) ⟨(pg_tupC (n:=3) rfl (eT (qN 3 sc_BestMakes_count_anew.nd) (eT (qN 4 sc_BestMakes_count_anew.nd) (eT (qN 5 sc_BestMakes_count_anew.nd) pgs_nilC)))),(so_tup (fh (fg 3) (eO 3) (fh (fg 4) (eO 4) (fh (fg 5) (eO 5) so_nil eY) (eR (eO 5) eY)) (eR (eO 4) (eR (eO 5) eY)))),(mo_tup (eR (eO 3) (eR (eO 4) (eR (eO 5) eY))))⟩
  (b_one (s_aug (i:=2) sc_BestMakes_count_anew.nd rfl lo (d_op mulB so_mulB (d_meth eX eN.cl hr.le (dv 0) (a1 (dv 4))) (d_meth eX eN.cl hr.le (dv 0) (a1 (dv 5)))) ip_addC so_ipI)))
  (b_one (s_ret (dv 2)))))),fun ds μ Kd hm hl h=>?_⟩)
 unfold fCnt at h
 split at h
 ·rename_i k s
  obtain⟨es,ts,A,j,a,i,b,ks,dd,B,rfl,han,h1,hkj,hj,mm,kk⟩:=h
  have hib:=B.hib
  have hb:=B.hb
  have ha:=B.ha
  have hl':=B.hl
  have ht':=B.ht
  have hA:=B.hA
  have hok:=B.ok
  refine⟨metE B.at_ (bm_m (by simp)),es,ts,A,j,a,i,b,B,rfl,?_⟩
  refine iteD (c:=fo es ts (a+1) i b=0) (fun q=>?_) (fun q=>?_)
  ·refine⟨metE B.at_ (bm_m (by simp)),es,ts,A,j,a,i,b,B,rfl,fj rfl (.keep ?_)⟩
   have kk:=kk ks dd mm
   rw[set_self hj]at kk
   unfold ctP at kk
   rw[au q]at kk
   rw[gxC]
   exact kk
  ·have ha1:a≠0:=fun z=>by subst z;exact q (h1.z i b (by omega) hb hok)
   obtain⟨a',rfl⟩:∃ a',a=a'+1:=⟨a - 1,by omega⟩
   refine⟨metE B.at_ (bm_m (by simp)),es,ts,A,j,a'+1,i,b,B,rfl,by omega,?_⟩
   rw[half_eq]
   obtain⟨M,hM⟩:∃ M,M=midP (fo es ts (a'+1+1)) (fo es ts (a'+1)) i b:=⟨_,rfl⟩
   rw[<- hM]
   obtain⟨g,hg⟩:∃ g:Nat->Int,g=fun x=>ctP es ts (a'+1) i x*ctP es ts (a'+1) x b:=⟨_,rfl⟩
   have hxm:∀ x∈M,i<x/\x<b/\fo es ts (a'+1) i x+fo es ts (a'+1) x b+1=fo es ts (a'+1+1) i b:=fun x hx=>mid_mem.mp (hM▸hx)
   refine fj rfl ?_
   refine forW_inv (fun ds ρ μ'=>∃(z:Nat) (ks':List (List Key)) (dd':List D) (u v w:Option D),ds=(M.drop z).map (fun k=>D.tup [.int (es.getD k 0),stD a' i k,stD a' k b])/\Memo es ts A ks' dd'/\ρ=[some (.mr k),some (stD ((a'+1:Nat):Int) i b),some (.int ((M.take z).map g).sum),u,v,w]/\μ'=μ.set j (.dtu ks' dd')) ⟨0,ks,dd,none,none,none,rfl,mm,rfl,(set_self hj).symm⟩ ?_ ?_
   ·rintro d ds' ρ μ' ⟨z,ks',dd',u,v,w,e,mm',rfl,rfl⟩
    refine⟨trivial,fun nx hnx=>?_⟩
    have hz:z<M.length:=by
     by_cases y:z<M.length
     ·exact y
     ·rw[bJ (by omega)]at e;cases e
    rw[bH hz,ag,bS]at e
    obtain⟨rfl,rfl⟩:=e
    obtain⟨x1,x2,x3⟩:=hxm _ (bw hz)
    have es1:=sum_snoc (f:=g) hz
    generalize M[z]=x at x1 x2 x3 es1 ⊢
    have n1:=h1.nn (a'+1) i x (by omega) (by omega)
    have n2:=h1.nn (a'+1) x b (by omega) hb
    have hj':j<μ.length:=(gxB hj).1
    have B':=B.put (m:=.dtu ks' dd') hkj
    have Bl:Bm eP (μ.set j (.dtu ks' dd')) k es ts A j a' i x:=⟨B'.at_,by omega,x1,by omega,hl',ht',hA,by omega⟩
    refine⟨rfl,metE B'.at_ (bm_m (by simp)),es,ts,A,j,a',i,x,ks',dd',Bl,rfl,by omega,h1,hkj,aD hj',mm',fun ks2 dd2 mm2=>?_⟩
    rw[bI]
    have B2:=B.put (m:=.dtu ks2 dd2) hkj
    have Br:Bm eP (μ.set j (.dtu ks2 dd2)) k es ts A j a' x b:=⟨B2.at_,by omega,x2,hb,hl',ht',hA,by omega⟩
    refine⟨metE B2.at_ (bm_m (by simp)),es,ts,A,j,a',x,b,ks2,dd2,Br,rfl,by omega,h1,hkj,aD hj',mm2,fun ks3 dd3 mm3=>?_⟩
    rw[bI]
    refine⟨ct_mul hl' ht' (a'+1) i x b x1 x2 hb,?_⟩
    refine hnx _ _ ⟨z+1,ks3,dd3,some (.int (es.getD x 0)),some (stD a' i x),some (stD a' x b),rfl,mm3,?_,rfl⟩
    rw[es1,hg]
    rfl
   ·rintro ρ μ' ⟨z,ks',dd',u,v,w,e,mm',rfl,rfl⟩
    refine⟨trivial,?_⟩
    have hz:M.length<=z:=by
     have:=cj List.length e
     rw[gxC,bB]at this
     simp at this
     omega
    rw[bD hz]
    have kk:=kk ks' dd' mm'
    unfold ctP at kk
    rw[aq q,<- hM]at kk
    rw[hg]
    exact .keep kk
 ·exact h.elim
theorem ok_BestMakes_counted {f:Addr}{fd:FuncData}(F:Fun K "counted" "BestMakes.counted" s_BestMakes_counted f fd)(T:Bi2 mg)(eN:ZBestMakes K eP){l n:Nat}(C_BestMakes_count_anew:CalM P w K mg base eP "count_anew" l ["self", "stretch"] (spD (fCnt eP n))):FnOk P w K mg base CX0 (l+1) f fd ["self", "stretch"] (spD (fCnt eP n)):=by
 refine F.okD sc_BestMakes_counted (fun ds μ Kd h=>by unfold fCnt at h;split at h <;> first | rfl | exact h.elim) (fun cdv A outer s H E hr=>⟨_,(b_cut (s_if (t_notinT (hu_of hr) (dv 1) (d_fld eN.cl eN.n_counts (dv 0)) (by with_unfolding_all rfl))
  (b_one (s_asgT (hu_of hr) (d_meth C_BestMakes_count_anew eN.cl hr.le (dv 0) (a1 (dv 1))) (d_fld eN.cl eN.n_counts (dv 0)) (dv 1)))
  b_nil)
  (b_one (s_ret (d_ixT (hu_of hr) (d_fld eN.cl eN.n_counts (dv 0)) (dv 1) (fun _ _=>rfl))))),fun ds μ Kd hm hl h=>?_⟩)
 unfold fCnt at h
 split at h
 ·rename_i k s
  obtain⟨es,ts,A,j,a,i,b,ks,dd,B,rfl,han,h1,hkj,hj,mm,kk⟩:=h
  have ha:=B.ha
  have hib:=B.hib
  have hb:=B.hb
  have hl':=B.hl
  have hA:=B.hA
  have hj':j<μ.length:=(gxB hj).1
  have bd:∀ {ks':List (List Key)} {dd':List D},Memo es ts A ks' dd'->ks'.length<sizeLine:=fun m=>by
   have h2:=m.bd
   have h3:(A+1)*es.length*es.length<=101*100*100:=Nat.mul_le_mul (Nat.mul_le_mul (by omega) hl') hl'
   exact cF (aL h2 h3) (by decide)
  have fin:∀ {ks':List (List Key)} {dd':List D},Memo es ts A ks' dd'->stK a i b∈ks'->dRet (dOp dIxT (dFld eP "counts" (dVar 0)) (dVar 1)) (retN μ.length Kd) [some (.mr k),some (stD a i b)] (μ.set j (.dtu ks' dd')):=fun {ks' dd'} m hin=>by
   have B':=B.put (m:=.dtu ks' dd') hkj
   rcases m.get a i b with⟨z,_⟩ | ⟨_,z⟩
   ·exact absurd hin z
   ·refine⟨_,fldE B'.at_ bm_counts,_,?_,.keep (kk ks' dd' m)⟩
    unfold ixT dtuM
    rw[aD hj']
    exact cj some z
  refine⟨fun ρ' μ'=>∃ ks' dd',Memo es ts A ks' dd'/\stK a i b∈ks'/\ρ'=[some (.mr k),some (stD a i b)]/\μ'=μ.set j (.dtu ks' dd'),?_,?_⟩
  ·have ei:ixT μ j (stD a i b)=some (tval ks dd (stK a i b)):=by
    unfold ixT dtuM
    rw[hj];rfl
   refine⟨_,fldE B.at_ bm_counts,_,ei,?_⟩
   rcases mm.get a i b with⟨z1,z2⟩ | ⟨z1,z2⟩
   ·rw[z2]
    refine iteT ?_
    refine⟨metE B.at_ (bm_m (by simp)),es,ts,A,j,a,i,b,ks,dd,B,rfl,han,h1,hkj,hj,mm,fun ks2 dd2 mm2=>?_⟩
    have B2:=B.put (m:=.dtu ks2 dd2) hkj
    refine⟨_,fldE B2.at_ bm_counts,ks2,dd2,stK a i b,aD hj',bd mm2,rfl,?_⟩
    rw[bI]
    obtain⟨m1,m2⟩:=mm2.put (i:=i) ha (by omega) hb
    exact⟨_,_,m1,m2,rfl,rfl⟩
   ·rw[z2]
    refine iteF ?_
    exact⟨ks,dd,mm,z1,rfl,(set_self hj).symm⟩
  ·rintro ρ' μ' ⟨ks',dd',m,hin,rfl,rfl⟩
   exact fin m hin
 ·exact h.elim
theorem ok_counts {f1 f2:Addr}{fd1 fd2:FuncData}(F1:Fun K "counted" "BestMakes.counted" s_BestMakes_counted f1 fd1)(F2:Fun K "count_anew" "BestMakes.count_anew" s_BestMakes_count_anew f2 fd2)(T:Bi2 mg)(eN:ZBestMakes K eP)(m1:Meth K eP "counted" f1)(m2:Meth K eP "count_anew" f2)(b1:Binds K fd1 ["self", "stretch"] [])(b2:Binds K fd2 ["self", "stretch"] [])(fv:c_BestMakes_is_take P w K mg base)(eZ:c_BestMakes_clean_takes P w K mg base)(C_BestMakes_halves:c_BestMakes_halves P w K mg base):∀ n,FnOk P w K mg base CX0 (2*n+2) f1 fd1 ["self", "stretch"] (spD (fCnt eP n))
 | 0=>ok_BestMakes_counted F1 T eN (l:=1) ⟨f2,fd2,.never fCnt_zero,m2,b2⟩
 | n+1=>ok_BestMakes_counted F1 T eN (l:=2*n+3) ⟨f2,fd2,ok_BestMakes_count_anew F2 T eN (by omega) fv eZ C_BestMakes_halves ⟨f1,fd1,ok_counts F1 F2 T eN m1 m2 b1 b2 fv eZ C_BestMakes_halves n,m1,b1⟩,m2,b2⟩
theorem inv_count_best {ds:List D}{μ:MS}{Kd:DK}(h:fCountBest ds μ Kd):∃ v0 v1 v2,ds=[.int v0,.lst v1,.lst v2]:=by
 unfold fCountBest at h
 rcases ds with _ | ⟨z0,ds⟩
 ·exact False.elim h
 cases z0 <;> first | exact False.elim h | skip
 rcases ds with _ | ⟨z1,ds⟩
 ·exact False.elim h
 cases z1 <;> first | exact False.elim h | skip
 rcases ds with _ | ⟨z2,ds⟩
 ·exact False.elim h
 cases z2 <;> first | exact False.elim h | skip
 rcases ds with _ | ⟨zz,zs⟩
 ·exact⟨_,_,_,rfl⟩
 ·exact False.elim h
theorem ok_count_best (F:Fun K "count_best" "count_best" s_count_best f fd)(T:Bi2 mg)(eN:ZBestMakes K eP)(C_bar_of:c_bar_of P w K mg base)(C_BestMakes___init__:c_BestMakes___init__ P w K mg base)(eX:c_BestMakes_counted P w K mg base):FnOk P w K mg base CX0 145 f fd (pA s_count_best) (spD fCountBest):=by
 refine F.okD sc_count_best (fun ds μ Kd h=>by obtain⟨_,_,_,rfl⟩:=inv_count_best h;rfl) (fun cdv A outer s H E hr=>⟨_,(eS (s_if (t_notN (qC C_bar_of hr (a3 (dv 0) (dv 1) (dv 2))))
  (b_one (s_ret d_int))
  b_nil)
  (eS (qS 3 sc_count_best.nd (d_make C_BestMakes___init__ hr.le rfl (a3 (dv 0) (dv 1) (dv 2))))
  (b_one (s_ret (d_meth eX eN.cl hr.le (dv 3) (a1 (d_fld eN.cl eN.n_whole (dv 3)))))))),fun ds μ Kd hm hl h=>?_⟩)
 obtain⟨n,x,y,rfl⟩:=inv_count_best h
 unfold fCountBest at h
 ·skip
  obtain⟨cs,ts,rfl,rfl,S,hcl,kk⟩:=h
  have few:=S.few
  have hel:(eM n cs).length=cs.length+2:=fk n cs
  have ft:=S.takes.few
  refine⟨cs,ts,rfl,rfl,few,S.takes,S.n2,?_⟩
  unfold cntK at kk
  cases hb:barOf (eM n cs) ts with
  | some p =>
   rw[hb]at kk
   exact .keep kk
  | none =>
   rw[hb]at kk
   dsimp only at kk
   refine⟨cs,ts,rfl,rfl,S,hcl,hb,by rw[gxG (ae _),aO];rfl,fun a ha la=>⟨rfl,?_⟩⟩
   have kk:=kk a ha la
   obtain⟨es,he⟩:∃ es,es=eM n cs:=⟨_,rfl⟩
   have tl:=tab_least S la
   have sd:=(sideT S (a+1) 0 (cs.length+1) (by omega) (by omega)).2 (by omega)
   have tb:=tb_ok S
   rw[<- he]at tl sd tb kk hel ⊢
   obtain⟨g,hg⟩:∃ g,g=(μ++[MO.ins eP [] []]).set μ.length (.ins eP bmN (bmV es ts a (μ++[MO.ins eP [] []]).length))++[.dtu [] []]:=⟨_,rfl⟩
   rw[<- hg]
   have eg:g=μ++[.ins eP bmN (bmV es ts a (μ.length+1)),.dtu [] []]:=by
    rw[hg,cI _ _ (ae _),aO,cx,gxE];rfl
   have e0:g[μ.length]?=some (.ins eP bmN (bmV es ts a (μ.length+1))):=by rw[eg,gxG (ae _),aO];rfl
   have e1:g[μ.length+1]?=some (.dtu [] []):=by rw[eg,gxG (by omega),show μ.length+1 - μ.length=1 by omega];rfl
   have B:Bm eP g μ.length es ts a (μ.length+1) a 0 (es.length - 1):=⟨e0,ae _,by omega,by omega,by omega,by omega,by omega,by rw[show es.length - 1=cs.length+1 by omega];omega⟩
   refine⟨metE e0 (bm_m (by simp)),_,fldE e0 bm_whole,es,ts,a,μ.length+1,a,0,es.length - 1,[],[],B,rfl,by omega,tb,by omega,e1,.nil,fun ks' dd' m=>?_⟩
   refine .drop True.intro ?_ ?_
   ·intro j m' hj e
    rw[aG (by omega),eg,gxF hj]at e
    exact hm j m' e
   ·rw[List.take_set_of_le (by omega),eg,bW]
    exact kk
theorem ok_BestMakes_numbered {f:Addr}{fd:FuncData}(F:Fun K "numbered" "BestMakes.numbered" s_BestMakes_numbered f fd)(T:Bi2 mg)(eN:ZBestMakes K eP){l n:Nat}(hl:144<=l)(hn:n<=70)(fv:c_BestMakes_is_take P w K mg base)(eZ:c_BestMakes_clean_takes P w K mg base)(C_BestMakes_halves:c_BestMakes_halves P w K mg base)(eX:c_BestMakes_counted P w K mg base)(C_BestMakes_numbered:CalM P w K mg base eP "numbered" l ["self", "stretch", "number"] (spD (fNumb eP n))):FnOk P w K mg base CX0 (l+1) f fd ["self", "stretch", "number"] (spD (fNumb eP (n+1))):=by
 refine F.okD sc_BestMakes_numbered (fun ds μ Kd h=>by unfold fNumb at h;split at h <;> first | rfl | exact h.elim) (fun cdv A outer s H E hr=>⟨_,(eS (s_if (d_testV (d_meth fv eN.cl hr.le (dv 0) (a1 (dv 1))))
  (b_one (s_ret (dIX (d_meth eZ eN.cl hr.le (dv 0) (a1 (dv 1))) (dv 2))))
  b_nil)
  (eS (qS 3 sc_BestMakes_numbered.nd (dv 2))
  (b_one (s_for cf rfl (i_list (d_meth C_BestMakes_halves eN.cl hr.le (dv 0) (a1 (dv 1)))) ⟨(pg_tupC (n:=3) rfl (eT (qN 4 sc_BestMakes_numbered.nd) (eT (qN 5 sc_BestMakes_numbered.nd) (eT (qN 6 sc_BestMakes_numbered.nd) pgs_nilC)))),(so_tup (fh (fg 4) (eO 4) (fh (fg 5) (eO 5) (fh (fg 6) (eO 6) so_nil eY) (eR (eO 6) eY)) (eR (eO 5) (eR (eO 6) eY)))),(mo_tup (eR (eO 4) (eR (eO 5) (eR (eO 6) eY))))⟩
  (eS (qS 7 sc_BestMakes_numbered.nd (d_meth eX eN.cl hr.le (dv 0) (a1 (dv 6))))
  (eS (s_if (qLt (dv 3) (d_op mulB so_mulB (d_meth eX eN.cl hr.le (dv 0) (a1 (dv 5))) (dv 7)))
  (b_one (s_ret (d_tup (a3 (dv 4) (d_meth C_BestMakes_numbered eN.cl hr.le (dv 0) (a2 (dv 5) (d_op op_fdivB so_divB (dv 3) (dv 7)))) (d_meth C_BestMakes_numbered eN.cl hr.le (dv 0) (a2 (dv 6) (d_op modC so_i2 (dv 3) (dv 7))))))))
  b_nil)
  (b_one (s_aug (i:=3) sc_BestMakes_numbered.nd rfl lo (d_op mulB so_mulB (d_meth eX eN.cl hr.le (dv 0) (a1 (dv 5))) (dv 7)) ip_subC so_ipI)))))))),fun ds μ Kd hm hl h=>?_⟩)
 unfold fNumb at h
 split at h
 ·rename_i k s r
  obtain⟨es,ts,A,j,a,i,b,ks,dd,B,rfl,han,h1,hkj,hj,mm,r0,r1,kk⟩:=h
  have hib:=B.hib
  have hb:=B.hb
  have ha:=B.ha
  have hl':=B.hl
  have ht':=B.ht
  have hA:=B.hA
  have hok:=B.ok
  refine⟨metE B.at_ (bm_m (by simp)),es,ts,A,j,a,i,b,B,rfl,?_⟩
  refine iteD (c:=fo es ts (a+1) i b=0) (fun q=>?_) (fun q=>?_)
  ·refine⟨metE B.at_ (bm_m (by simp)),es,ts,A,j,a,i,b,B,rfl,?_⟩
   have kk:=kk ks dd mm
   rw[set_self hj]at kk
   unfold ctP at r1
   rw[au q]at r1
   unfold bmk at kk
   rw[au q]at kk
   have e1:(nTk es ts a i b)[r.toNat]?=some ((nTk es ts a i b).getD r.toNat 0):=by rw[af,gxA (by omega)];rfl
   have e2:atI ((nTk es ts a i b).map fun x=>D.int (x:Nat)) r=some (.int ((nTk es ts a i b).getD r.toNat 0:Nat)):=by
    have:=atI_maps (g:=fun x:Nat=>D.int (x:Nat)) e1
    rwa [bO r0]at this
   exact fj e2 (.keep kk)
  ·have ha1:a≠0:=fun z=>by subst z;exact q (h1.z i b (by omega) hb hok)
   obtain⟨a',rfl⟩:∃ a',a=a'+1:=⟨a - 1,by omega⟩
   refine⟨metE B.at_ (bm_m (by simp)),es,ts,A,j,a'+1,i,b,B,rfl,by omega,?_⟩
   rw[half_eq]
   obtain⟨M,hM⟩:∃ M,M=midP (fo es ts (a'+1+1)) (fo es ts (a'+1)) i b:=⟨_,rfl⟩
   rw[<- hM]
   obtain⟨g,hg⟩:∃ g:Nat->Int,g=fun x=>ctP es ts (a'+1) i x*ctP es ts (a'+1) x b:=⟨_,rfl⟩
   have hxm:∀ x∈M,i<x/\x<b/\fo es ts (a'+1) i x+fo es ts (a'+1) x b+1=fo es ts (a'+1+1) i b:=fun x hx=>mid_mem.mp (hM▸hx)
   have gnn:∀ x∈M,0<=g x:=fun x hx=>by
    have:=hxm x hx
    rw[hg]
    exact dZ (ct_bd hl' ht' (a'+1) i x this.1 (by omega)).1 (ct_bd hl' ht' (a'+1) x b this.2.1 hb).1
   unfold ctP at r1
   rw[aq q,<- hM,<- hg]at r1
   unfold bmk at kk
   rw[aq q,<- hM,<- hg]at kk
   refine fj rfl ?_
   refine forW_inv (fun ds ρ μ'=>∃(z:Nat) (ks':List (List Key)) (dd':List D) (u v w m:Option D),ds=(M.drop z).map (fun k=>D.tup [.int (es.getD k 0),stD a' i k,stD a' k b])/\Memo es ts A ks' dd'/\0<=r - ((M.take z).map g).sum/\ρ=[some (.mr k),some (stD ((a'+1:Nat):Int) i b),some (.int r),some (.int (r - ((M.take z).map g).sum)),u,v,w,m]/\μ'=μ.set j (.dtu ks' dd')) ⟨0,ks,dd,none,none,none,none,rfl,mm,by simpa using r0,by simp;rfl,(set_self hj).symm⟩ ?_ ?_
   ·rintro d ds' ρ μ' ⟨z,ks',dd',u,v,w,m,e,mm',rn,rfl,rfl⟩
    refine⟨trivial,fun nx hnx=>?_⟩
    have hz:z<M.length:=by
     by_cases y:z<M.length
     ·exact y
     ·rw[bJ (by omega)]at e;cases e
    rw[bH hz,ag,bS]at e
    obtain⟨rfl,rfl⟩:=e
    obtain⟨x1,x2,x3⟩:=hxm _ (bw hz)
    have es1:=sum_snoc (f:=g) hz
    have ez:M[z]?=some M[z]:=gxA hz
    generalize M[z]=x at x1 x2 x3 es1 ez ⊢
    have n1:=h1.nn (a'+1) i x (by omega) (by omega)
    have n2:=h1.nn (a'+1) x b (by omega) hb
    have hj':j<μ.length:=(gxB hj).1
    have Bl:∀ {ks:List (List Key)} {dd:List D},Bm eP (μ.set j (.dtu ks dd)) k es ts A j a' i x:=fun {ks dd}=>⟨(B.put (m:=.dtu ks dd) hkj).at_,by omega,x1,by omega,hl',ht',hA,by omega⟩
    have Br:∀ {ks:List (List Key)} {dd:List D},Bm eP (μ.set j (.dtu ks dd)) k es ts A j a' x b:=fun {ks dd}=>⟨(B.put (m:=.dtu ks dd) hkj).at_,by omega,x2,hb,hl',ht',hA,by omega⟩
    have at_:∀ {m:MO},(μ.set j m)[j]?=some m:=aD hj'
    have c2:=ct_bd hl' ht' (a'+1) x b x2 hb
    refine⟨rfl,metE Br.at_ (bm_m (by simp)),es,ts,A,j,a',x,b,ks',dd',Br,rfl,by omega,h1,hkj,at_,mm',fun ks2 dd2 mm2=>?_⟩
    rw[bI]
    refine⟨metE Bl.at_ (bm_m (by simp)),es,ts,A,j,a',i,x,ks2,dd2,Bl,rfl,by omega,h1,hkj,at_,mm2,fun ks3 dd3 mm3=>?_⟩
    rw[bI]
    refine⟨ct_mul hl' ht' (a'+1) i x b x1 x2 hb,?_⟩
    obtain⟨v,hv⟩:∃ v,v=r - ((M.take z).map g).sum:=⟨_,rfl⟩
    rw[<- hv]at rn ⊢
    have gx:g x=ctP es ts (a'+1) i x*ctP es ts (a'+1) x b:=by rw[hg]
    refine iteD (c:=v<ctP es ts (a'+1) i x*ctP es ts (a'+1) x b) (fun q2=>?_) (fun q2=>?_)
    ·have pos:0<ctP es ts (a'+1) x b:=by
      rcases Int.lt_or_eq_of_le c2.1 with y | y
      ·exact y
      ·rw[<- y,Int.mul_zero]at q2;omega
     have d1:0<=v / ctP es ts (a'+1) x b:=Int.ediv_nonneg rn c2.1
     have d2:v / ctP es ts (a'+1) x b<ctP es ts (a'+1) i x:=Int.ediv_lt_of_lt_mul pos q2
     have m1:=Int.emod_nonneg v (show ctP es ts (a'+1) x b≠0 by omega)
     have m2:=dz v pos
     have pk:=(pick_at (f:=g) gnn ez rn (by rw[gx];exact q2)).1
     rw[show((M.take z).map g).sum+v=r by omega]at pk
     rw[pk]at kk
     dsimp only at kk
     refine⟨metE Bl.at_ (bm_m (by simp)),ct_div hl' ht' x2 hb pos,es,ts,A,j,a',i,x,ks3,dd3,Bl,rfl,by omega,h1,hkj,at_,mm3,d1,d2,fun ks4 dd4 mm4=>?_⟩
     rw[bI]
     refine⟨metE Br.at_ (bm_m (by simp)),pos,es,ts,A,j,a',x,b,ks4,dd4,Br,rfl,by omega,h1,hkj,at_,mm4,m1,m2,fun ks5 dd5 mm5=>?_⟩
     rw[bI]
     exact⟨zs,.keep (kk ks5 dd5 mm5)⟩
    ·refine dNx_of ?_
     refine⟨metE Bl.at_ (bm_m (by simp)),es,ts,A,j,a',i,x,ks3,dd3,Bl,rfl,by omega,h1,hkj,at_,mm3,fun ks4 dd4 mm4=>?_⟩
     rw[bI]
     refine⟨ct_mul hl' ht' (a'+1) i x b x1 x2 hb,?_⟩
     refine hnx _ _ ⟨z+1,ks4,dd4,some (.int (es.getD x 0)),some (stD a' i x),some (stD a' x b),some (.int (ctP es ts (a'+1) x b)),rfl,mm4,by rw[es1,gx];omega,?_,rfl⟩
     rw[es1,gx,show r - (((M.take z).map g).sum+ctP es ts (a'+1) i x*ctP es ts (a'+1) x b)=v - ctP es ts (a'+1) i x*ctP es ts (a'+1) x b by omega]
     rfl
   ·rintro ρ μ' ⟨z,ks',dd',u,v,w,m,e,mm',rn,rfl,rfl⟩
    exfalso
    have hz:M.length<=z:=by
     have:=cj List.length e
     rw[gxC,bB]at this
     simp at this
     omega
    rw[bD hz]at rn
    omega
 ·exact h.elim
theorem ok_numb {f1:Addr}{fd1:FuncData}(F1:Fun K "numbered" "BestMakes.numbered" s_BestMakes_numbered f1 fd1)(T:Bi2 mg)(eN:ZBestMakes K eP)(m1:Meth K eP "numbered" f1)(b1:Binds K fd1 ["self", "stretch", "number"] [])(fv:c_BestMakes_is_take P w K mg base)(eZ:c_BestMakes_clean_takes P w K mg base)(C_BestMakes_halves:c_BestMakes_halves P w K mg base)(eX:c_BestMakes_counted P w K mg base)   : ∀ n,n<=71->FnOk P w K mg base CX0 (n+145) f1 fd1 ["self", "stretch", "number"] (spD (fNumb eP n))
 | 0,_=>.never fNumb_zero
 | n+1,h=>ok_BestMakes_numbered F1 T eN (l:=n+145) (by omega) (by omega) fv eZ C_BestMakes_halves eX ⟨f1,fd1,ok_numb F1 T eN m1 b1 fv eZ C_BestMakes_halves eX n (by omega),m1,b1⟩
theorem ok_take_rank (F:Fun K "take_rank" "take_rank" s_take_rank f fd)(T:Bi2 mg)(O_BadMake:OwnCls "BadMake" cBadMake veB "ValueError.__new__" mg base):FnOk P w K mg base (CX1 P w) 1 f fd (pA s_take_rank) (spX (fTakeRank cBadMake)):=by
 refine F.okX sc_take_rank (fun ds μ Kd Kx h=>fTakeRank_len h) (fun cdv A outer s H E hr φ0 Kb Z=>⟨_,(eS (s_if (d_testC (niM (un_of (n:=1) hr (by decide))) so_niM (dv 1) (dv 0) (by with_unfolding_all rfl))
  (b_one (s_raise Z rfl O_BadMake aN (by decide) aN rfl (a1 d_str)))
  b_nil)
  (b_one (s_ret (d_mt PySem.F.plainAttrs_list PySem.F.slot_list_index PySem.F.type_list_index indexC so_index (dv 0) (a1 (dv 1)))))),fun ds μ m Kd Kx hm hl em h hK=>?_⟩)
 unfold fTakeRank at h
 split at h
 ·rename_i y x
  obtain⟨_,l,t,rfl,ll,rfl,kk⟩:=h
  cases t with
  | tri p u v=>exact⟨List.all_eq_true.mpr fun d hd=>by obtain⟨x,_,rfl⟩:=List.mem_map.mp hd;rfl,zs,gX_of hK em kk⟩
  | num n =>
   refine⟨rfl,List.all_eq_true.mpr fun d hd=>by obtain⟨x,_,rfl⟩:=List.mem_map.mp hd;rfl,?_⟩
   rw[rkT_in]
   cases e:rkT l (.num n)with
   | none=>rw[e]at kk;exact⟨zs,gX_of hK em kk⟩
   | some r =>
    rw[e]at kk
    have e:(l.findIdx? fun x:Nat=>decide ((x:Int)=n)).map (fun i=>((i:Nat):Int))=some r:=e
    cases e2:l.findIdx? fun x:Nat=>decide ((x:Int)=n)with
    | none=>rw[e2]at e;cases e
    | some z =>
     rw[e2]at e
     cases e
     obtain⟨e3,e4,e5⟩:=List.findIdx?_eq_some_iff_getElem.mp e2
     rw[aZ]at e4
     refine⟨(by first | trivial | rfl),l.map fun x:Nat=>(x:Int),z,by rw[a6];rfl,by rw[gxH,gxA e3];exact cj some e4,fun m hm e6=>?_,.keep (gK_of em kk)⟩
     have:=e5 m hm
     rw[aZ]at this
     rw[gxH,gxA (by omega)]at e6
     exact this (aB e6)
 ·exact h.elim
theorem ok_BestMakes_rank {f:Addr}{fd:FuncData}(F:Fun K "rank" "BestMakes.rank" s_BestMakes_rank f fd)(T:Bi2 mg)(eN:ZBestMakes K eP)(O_BadMake:OwnCls "BadMake" cBadMake veB "ValueError.__new__" mg base){l n:Nat}(hl:144<=l)(hn:n<=70)(fv:c_BestMakes_is_take P w K mg base)(eZ:c_BestMakes_clean_takes P w K mg base)(C_BestMakes_halves:c_BestMakes_halves P w K mg base)(eX:c_BestMakes_counted P w K mg base)(C_take_rank:c_take_rank P w K mg base)(C_BestMakes_rank:CalMX P w K mg base eP "rank" l ["self", "stretch", "make"] (spX (fRank eP cBadMake n))):FnOk P w K mg base (CX1 P w) (l+1) f fd ["self", "stretch", "make"] (spX (fRank eP cBadMake (n+1))):=by
 refine F.okX sc_BestMakes_rank (fun ds μ Kd Kx h=>fRank_len h) (fun cdv A outer s H E hr φ0 Kb Z=>⟨_,(eS (s_if (d_testV (d_meth fv eN.cl hr.le (dv 0) (a1 (dv 1))))
  (b_one (s_ret (d_callX Z.z C_take_rank hr.le rfl (a2 (d_meth eZ eN.cl hr.le (dv 0) (a1 (dv 1))) (dv 2)))))
  b_nil)
  (eS (s_if (t_not (d_testV (d_isi (T := "tuple") (by simp) (by rfl) T.isinstance (by rfl) T.tuple PyProof.Rows.boot_tuple (dv 2))))
  (b_one (s_raise Z rfl O_BadMake aN (by decide) aN rfl (a1 d_str)))
  b_nil)
  (eS (qS 3 sc_BestMakes_rank.nd d_int)
  (eS (s_for PassesOwn.leaving rfl (i_list (d_meth C_BestMakes_halves eN.cl hr.le (dv 0) (a1 (dv 1)))) ⟨(pg_tupC (n:=3) rfl (eT (qN 4 sc_BestMakes_rank.nd) (eT (qN 5 sc_BestMakes_rank.nd) (eT (qN 6 sc_BestMakes_rank.nd) pgs_nilC)))),(so_tup (fh (fg 4) (eO 4) (fh (fg 5) (eO 5) (fh (fg 6) (eO 6) so_nil eY) (eR (eO 6) eY)) (eR (eO 5) (eR (eO 6) eY)))),(mo_tup (eR (eO 4) (eR (eO 5) (eR (eO 6) eY))))⟩
  (eS (s_if (qEq (dv 4) (dIX (dv 2) d_int))
  (b_one (s_ret (dPl (dPl (dv 3) (d_op mulB so_mulB (d_methX Z.z C_BestMakes_rank eN.cl hr.le (dv 0) (a2 (dv 5) (dIX (dv 2) d_int))) (d_meth eX eN.cl hr.le (dv 0) (a1 (dv 6))))) (d_methX Z.z C_BestMakes_rank eN.cl hr.le (dv 0) (a2 (dv 6) (dIX (dv 2) d_int))))))
  b_nil)
  (b_one (s_aug (i:=3) sc_BestMakes_rank.nd rfl lo (d_op mulB so_mulB (d_meth eX eN.cl hr.le (dv 0) (a1 (dv 5))) (d_meth eX eN.cl hr.le (dv 0) (a1 (dv 6)))) ip_addC so_ipI))))
  (b_one (s_raise Z rfl O_BadMake aN (by decide) aN rfl (a1 d_str))))))),fun ds μ m Kd Kx hm hl em h hK=>?_⟩)
 unfold fRank at h
 split at h
 ·rename_i k s x
  obtain⟨_,es,ts,A,j,a,i,b,ks,dd,t,B0,rfl,rfl,han,h1,hu,hkj,hk0,hj0,hj,mm,kk⟩:=h
  have B:Bm eP (μ.set 0 (.gx φ0 H)) k es ts A j a i b:=B0.set0 hk0
  have hib:=B.hib
  have hb:=B.hb
  have ha:=B.ha
  have hl':=B.hl
  have ht':=B.ht
  have hA:=B.hA
  have hok:=B.ok
  have hj':j<μ.length:=(gxB hj).1
  have emj:∀ {X:MO},(μ.set j X)[0]?=some m:=by intro X;rw[aG hj0];exact em
  have sw:∀ {X:MO},(μ.set 0 (.gx φ0 H)).set j X=(μ.set j X).set 0 (.gx φ0 H):=by intro X;exact List.set_comm _ _ (aY hj0)
  have aj:∀ {X:MO},((μ.set j X).set 0 (.gx φ0 H))[j]?=some X:=by intro X;rw[aG (aY hj0),aD hj']
  have sj:∀ {X Y:MO},((μ.set j X).set 0 (.gx φ0 H)).set j Y=(μ.set j Y).set 0 (.gx φ0 H):=by intro X Y;exact(List.set_comm _ _ (aY hj0)).trans (by rw[bI])
  have e0:μ.set 0 (.gx φ0 H)=(μ.set j (.dtu ks dd)).set 0 (.gx φ0 H):=by rw[set_self hj]
  refine⟨metE B.at_ (bm_m (by simp)),es,ts,A,j,a,i,b,B,rfl,?_⟩
  refine iteD (c:=fo es ts (a+1) i b=0) (fun q=>?_) (fun q=>?_)
  ·refine⟨metE B.at_ (bm_m (by simp)),es,ts,A,j,a,i,b,B,rfl,gx_at em,⟨_,gx_at em⟩,nTk es ts a i b,t,rfl,by have:=nTk_len es ts a i b;omega,rfl,?_⟩
   unfold rkP at kk
   rw[au q]at kk
   cases e:rkT (nTk es ts a i b) t with
   | none =>
    rw[e]at kk
    have kk:=kk ks dd mm
    rw[set_self hj]at kk
    exact(gX_of hK em kk).2
   | some r =>
    rw[e]at kk
    have kk:=kk ks dd mm
    rw[set_self hj]at kk
    exact .keep (gK_of em kk)
  ·have ha1:a≠0:=fun z=>by subst z;exact q (h1.z i b (by omega) hb hok)
   obtain⟨a',rfl⟩:∃ a',a=a'+1:=⟨a - 1,by omega⟩
   unfold rkP at kk
   rw[aq q]at kk
   refine fj (ty_mk t _) ?_
   cases t with
   | num v =>
    have kk:=kk ks dd mm
    rw[set_self hj]at kk
    exact⟨zs,gX_of hK em kk⟩
   | tri p u v =>
    dsimp only at kk
    refine⟨metE B.at_ (bm_m (by simp)),es,ts,A,j,a'+1,i,b,B,rfl,by omega,?_⟩
    rw[half_eq]
    obtain⟨M,hM⟩:∃ M,M=midP (fo es ts (a'+1+1)) (fo es ts (a'+1)) i b:=⟨_,rfl⟩
    rw[<- hM]at kk ⊢
    obtain⟨g,hg⟩:∃ g:Nat->Int,g=fun x=>ctP es ts (a'+1) i x*ctP es ts (a'+1) x b:=⟨_,rfl⟩
    rw[<- hg]at kk
    have hxm:∀ x∈M,i<x/\x<b/\fo es ts (a'+1) i x+fo es ts (a'+1) x b+1=fo es ts (a'+1+1) i b:=fun x hx=>mid_mem.mp (hM▸hx)
    rw[e0]
    refine fj rfl ?_
    refine forW_inv (fun ds ρ μ'=>∃(z:Nat) (ks':List (List Key)) (dd':List D) (v4 v5 v6:Option D),ds=(M.drop z).map (fun k=>D.tup [.int (es.getD k 0),stD a' i k,stD a' k b])/\Memo es ts A ks' dd'/\(∀ x∈M.take z,es.getD x 0≠p)/\ρ=[some (.mr k),some (stD ((a'+1:Nat):Int) i b),some (mkD (.tri p u v)),some (.int ((M.take z).map g).sum),v4,v5,v6]/\μ'=(μ.set j (.dtu ks' dd')).set 0 (.gx φ0 H)) ⟨0,ks,dd,none,none,none,rfl,mm,fun x hx=>(nomatch hx),rfl,rfl⟩ ?_ ?_
    ·rintro d ds' ρ μ' ⟨z,ks',dd',v4,v5,v6,e,mm',hno,rfl,rfl⟩
     refine⟨trivial,fun nx hnx=>?_⟩
     have hz:z<M.length:=by
      by_cases y:z<M.length
      ·exact y
      ·rw[bJ (by omega)]at e;cases e
     rw[bH hz,ag,bS]at e
     obtain⟨rfl,rfl⟩:=e
     obtain⟨x1,x2,x3⟩:=hxm _ (bw hz)
     have es1:=sum_snoc (f:=g) hz
     have ez:M[z]?=some M[z]:=gxA hz
     have et:M.take (z+1)=M.take z++[M[z]]:=List.take_succ_eq_append_getElem hz
     generalize M[z]=x at x1 x2 x3 es1 ez et ⊢
     have n1:=h1.nn (a'+1) i x (by omega) (by omega)
     have n2:=h1.nn (a'+1) x b (by omega) hb
     have Bl:∀ {ks:List (List Key)} {dd:List D},Bm eP ((μ.set j (.dtu ks dd)).set 0 (.gx φ0 H)) k es ts A j a' i x:=fun {ks dd}=>⟨((B0.put (m:=.dtu ks dd) hkj).set0 hk0).at_,by omega,x1,by omega,hl',ht',hA,by omega⟩
     have Br:∀ {ks:List (List Key)} {dd:List D},Bm eP ((μ.set j (.dtu ks dd)).set 0 (.gx φ0 H)) k es ts A j a' x b:=fun {ks dd}=>⟨((B0.put (m:=.dtu ks dd) hkj).set0 hk0).at_,by omega,x2,hb,hl',ht',hA,by omega⟩
     have c1:=ct_bd hl' ht' (a'+1) i x x1 (by omega)
     have c2:=ct_bd hl' ht' (a'+1) x b x2 hb
     refine⟨rfl,?_⟩
     refine iteDf (fun q2=>?_) (fun q2=>?_)
     ·rw[show aheadM es g p M=some (x,((M.take z).map g).sum) by rw[<- q2];exact ahead_at (fun x hx y hy e=>es_inj hu (by have:=hxm x hx;omega) (by have:=hxm y hy;omega) e) (by rw[hM];exact mid_nd _ _ i b) ez]at kk
      dsimp only at kk
      refine⟨metE Bl.at_ (bm_m (by simp)),gx_at emj,⟨_,gx_at emj⟩,es,ts,A,j,a',i,x,ks',dd',u,Bl,rfl,rfl,by omega,h1,hu,hkj,hk0,hj0,aj,mm',?_⟩
      cases el:rkP es ts (a'+1) i x u with
      | none =>
       rw[el]at kk
       intro ks2 dd2 mm2
       rw[sj]
       exact(gX_of hK emj (kk ks2 dd2 mm2)).2
      | some r1 =>
       rw[el]at kk
       intro ks2 dd2 mm2
       rw[sj]
       obtain⟨y1,y2,_⟩:=bmk_rk hl' ht' (a'+1) i x u r1 x1 (by omega) el
       refine⟨metE Br.at_ (bm_m (by simp)),es,ts,A,j,a',x,b,ks2,dd2,Br,rfl,by omega,h1,hkj,aj,mm2,fun ks3 dd3 mm3=>?_⟩
       rw[sj]
       refine⟨.of_bits (bits_of y1 (b8 (cM y2) c1.2) (by omega)) (bits_of c2.1 c2.2 (by omega)),?_⟩
       refine⟨metE Br.at_ (bm_m (by simp)),gx_at emj,⟨_,gx_at emj⟩,es,ts,A,j,a',x,b,ks3,dd3,v,Br,rfl,rfl,by omega,h1,hu,hkj,hk0,hj0,aj,mm3,?_⟩
       cases er:rkP es ts (a'+1) x b v with
       | none =>
        rw[er]at kk
        intro ks4 dd4 mm4
        rw[sj]
        exact(gX_of hK emj (kk ks4 dd4 mm4)).2
       | some r2 =>
        rw[er]at kk
        intro ks4 dd4 mm4
        rw[sj]
        exact .keep (gK_of emj (kk ks4 dd4 mm4))
     ·refine dNx_of ?_
      refine⟨metE Bl.at_ (bm_m (by simp)),es,ts,A,j,a',i,x,ks',dd',Bl,rfl,by omega,h1,hkj,aj,mm',fun ks2 dd2 mm2=>?_⟩
      rw[sj]
      refine⟨metE Br.at_ (bm_m (by simp)),es,ts,A,j,a',x,b,ks2,dd2,Br,rfl,by omega,h1,hkj,aj,mm2,fun ks3 dd3 mm3=>?_⟩
      rw[sj]
      refine⟨ct_mul hl' ht' (a'+1) i x b x1 x2 hb,?_⟩
      refine hnx _ _ ⟨z+1,ks3,dd3,some (.int (es.getD x 0)),some (stD a' i x),some (stD a' x b),rfl,mm3,fun y hy=>?_,?_,rfl⟩
      ·rw[et]at hy
       rcases List.mem_append.mp hy with hy | hy
       ·exact hno y hy
       ·rw[List.mem_singleton.mp hy];exact q2
      ·rw[es1,hg]
       rfl
    ·rintro ρ μ' ⟨z,ks',dd',v4,v5,v6,e,mm',hno,rfl,rfl⟩
     refine⟨trivial,zs,?_⟩
     have hz:M.length<=z:=by
      have:=cj List.length e
      rw[gxC,bB]at this
      simp at this
      omega
     rw[bD hz]at hno
     rw[ahead_none hno]at kk
     exact gX_of hK emj (kk ks' dd' mm')
 ·exact h.elim
theorem ok_rank {f1:Addr}{fd1:FuncData}(F1:Fun K "rank" "BestMakes.rank" s_BestMakes_rank f1 fd1)(T:Bi2 mg)(eN:ZBestMakes K eP)(O_BadMake:OwnCls "BadMake" cBadMake veB "ValueError.__new__" mg base)(m1:Meth K eP "rank" f1)(b1:Binds K fd1 ["self", "stretch", "make"] [])(fv:c_BestMakes_is_take P w K mg base)(eZ:c_BestMakes_clean_takes P w K mg base)(C_BestMakes_halves:c_BestMakes_halves P w K mg base)(eX:c_BestMakes_counted P w K mg base)(C_take_rank:c_take_rank P w K mg base):∀ n,n<=71->FnOk P w K mg base (CX1 P w) (n+145) f1 fd1 ["self", "stretch", "make"] (spX (fRank eP cBadMake n))
 | 0,_=>.neverX fRank_zero
 | n+1,h=>ok_BestMakes_rank F1 T eN O_BadMake (l:=n+145) (by omega) (by omega) fv eZ C_BestMakes_halves eX C_take_rank ⟨f1,fd1,ok_rank F1 T eN O_BadMake m1 b1 fv eZ C_BestMakes_halves eX C_take_rank n (by omega),m1,b1⟩
theorem ok_best_of (F:Fun K "best_of" "best_of" s_best_of f fd)(T:Bi2 mg)(eN:ZBestMakes K eP)(O_BadNumber:OwnCls "BadNumber" cBadNumber veB "ValueError.__new__" mg base)(C_bar_of:c_bar_of P w K mg base)(C_BestMakes___init__:c_BestMakes___init__ P w K mg base)(eX:c_BestMakes_counted P w K mg base)(C_BestMakes_numbered:c_BestMakes_numbered P w K mg base):FnOk P w K mg base (CX1 P w) 217 f fd (pA s_best_of) (spX (fBestOf cBadNumber)):=by
 refine F.okX sc_best_of (fun ds μ Kd Kx h=>fBestOf_len h) (fun cdv A outer s H E hr φ0 Kb Z=>⟨_,(eS (s_if (t_notN (qC C_bar_of hr (a3 (dv 0) (dv 1) (dv 2))))
  (b_one (s_raise Z rfl O_BadNumber aN (by decide) aN rfl (a1 d_str)))
  b_nil)
  (eS (qS 4 sc_best_of.nd (d_make C_BestMakes___init__ hr.le rfl (a3 (dv 0) (dv 1) (dv 2))))
  (eS (s_if (PW.pt (t_or (qLt (dv 3) d_int) (t_or1 (qGe (dv 3) (d_meth eX eN.cl hr.le (dv 4) (a1 (d_fld eN.cl eN.n_whole (dv 4))))))))
  (b_one (s_raise Z rfl O_BadNumber aN (by decide) aN rfl (a1 d_str)))
  b_nil)
  (b_one (s_ret (d_meth C_BestMakes_numbered eN.cl hr.le (dv 4) (a2 (d_fld eN.cl eN.n_whole (dv 4)) (dv 3)))))))),fun ds μ m Kd Kx hm hl em h hK=>?_⟩)
 unfold fBestOf at h
 split at h
 ·rename_i n x y r
  obtain⟨_,cs,ts,rfl,rfl,S,hcl,kk⟩:=h
  have few:=S.few
  have hel:(eM n cs).length=cs.length+2:=fk n cs
  have ft:=S.takes.few
  obtain⟨ν,hν⟩:∃ ν,ν=μ.set 0 (.gx φ0 H):=⟨_,rfl⟩
  have g0:ν[0]?=some (.gx φ0 H):=by rw[hν];exact gx_at em
  have l0:0<ν.length:=(gxB g0).1
  rw[<- hν]at hm ⊢
  refine⟨cs,ts,rfl,rfl,few,S.takes,S.n2,?_⟩
  unfold bestK at kk
  cases hb:barOf (eM n cs) ts with
  | some p =>
   rw[hb]at kk
   exact⟨zs,by rw[hν];exact gX_of hK em kk⟩
  | none =>
   rw[hb]at kk
   dsimp only at kk
   refine⟨cs,ts,rfl,rfl,S,hcl,hb,by rw[gxG (ae _),aO];rfl,fun a ha la=>⟨rfl,?_⟩⟩
   have kk:=kk a ha la
   obtain⟨es,he⟩:∃ es,es=eM n cs:=⟨_,rfl⟩
   have tl:=tab_least S la
   have sd:=(sideT S (a+1) 0 (cs.length+1) (by omega) (by omega)).2 (by omega)
   have tb:=tb_ok S
   rw[<- he]at tl sd tb kk hel ⊢
   obtain⟨g,hg⟩:∃ g,g=(ν++[MO.ins eP [] []]).set ν.length (.ins eP bmN (bmV es ts a (ν++[MO.ins eP [] []]).length))++[.dtu [] []]:=⟨_,rfl⟩
   rw[<- hg]
   have eg:g=ν++[.ins eP bmN (bmV es ts a (ν.length+1)),.dtu [] []]:=by
    rw[hg,cI _ _ (ae _),aO,cx,gxE];rfl
   have e0:g[ν.length]?=some (.ins eP bmN (bmV es ts a (ν.length+1))):=by rw[eg,gxG (ae _),aO];rfl
   have e1:g[ν.length+1]?=some (.dtu [] []):=by rw[eg,gxG (by omega),show ν.length+1 - ν.length=1 by omega];rfl
   have gl:ν.length+1<g.length:=(gxB e1).1
   have B:∀ {ks:List (List Key)} {dd:List D},Bm eP (g.set (ν.length+1) (.dtu ks dd)) ν.length es ts a (ν.length+1) a 0 (es.length - 1):=fun {ks dd}=>⟨by rw[aG (by omega)];exact e0,ae _,by omega,by omega,by omega,by omega,by omega,by rw[show es.length - 1=cs.length+1 by omega];omega⟩
   have ol:∀ {ks:List (List Key)} {dd:List D},∀ j m',j<ν.length->(g.set (ν.length+1) (.dtu ks dd))[j]?=some m'->moB ν.length m':=fun {ks dd} j m' hj e=>by
    rw[aG (by omega),eg,gxF hj]at e
    exact hm j m' e
   have tk:∀ {ks:List (List Key)} {dd:List D},(g.set (ν.length+1) (.dtu ks dd)).take ν.length=ν:=fun {ks dd}=>by rw[List.take_set_of_le (by omega),eg,bW]
   have z0:∀ {ks:List (List Key)} {dd:List D},(g.set (ν.length+1) (.dtu ks dd))[0]?=some (.gx φ0 H):=fun {ks dd}=>by rw[aG (by omega),eg,gxF l0];exact g0
   have bad:∀ {ks:List (List Key)} {dd:List D},Kx (.ref cBadNumber) μ->Kb (.ref cBadNumber) (g.set (ν.length+1) (.dtu ks dd)):=fun {ks dd} kx=>by
    rw[hK,<- hν]
    refine .inr ⟨ol,?_⟩
    rw[tk,hν]
    exact⟨gx_at em,by rw[gx_back em];exact kx⟩
   have eg2:g=g.set (ν.length+1) (.dtu [] []):=(set_self e1).symm
   rw[eg2]
   refine iteD (c:=r<0) (fun q=>?_) (fun q=>?_)
   ·rw[aq (by omega)]at kk
    exact⟨zs,z0,bad kk⟩
   refine⟨metE B.at_ (bm_m (by simp)),_,fldE B.at_ bm_whole,es,ts,a,ν.length+1,a,0,es.length - 1,[],[],B,rfl,by omega,tb,by omega,aD gl,.nil,fun ks2 dd2 m2=>?_⟩
   rw[bI]
   refine iteD (c:=ctP es ts (a+1) 0 (es.length - 1)<=r) (fun q2=>?_) (fun q2=>?_)
   ·rw[aq (by omega)]at kk
    exact⟨zs,z0,bad kk⟩
   rw[au (by omega)]at kk
   refine⟨metE B.at_ (bm_m (by simp)),_,fldE B.at_ bm_whole,es,ts,a,ν.length+1,a,0,es.length - 1,ks2,dd2,B,rfl,by omega,tb,by omega,aD gl,m2,by omega,by omega,fun ks3 dd3 m3=>?_⟩
   rw[bI]
   refine .drop (mrB_mk _) ol ?_
   rw[tk,hν]
   exact gK_of em kk
 ·exact h.elim
theorem ok_number_of (F:Fun K "number_of" "number_of" s_number_of f fd)(T:Bi2 mg)(eN:ZBestMakes K eP)(O_BadMake:OwnCls "BadMake" cBadMake veB "ValueError.__new__" mg base)(C_bar_of:c_bar_of P w K mg base)(C_BestMakes___init__:c_BestMakes___init__ P w K mg base)(C_BestMakes_rank:c_BestMakes_rank P w K mg base):FnOk P w K mg base (CX1 P w) 217 f fd (pA s_number_of) (spX (fNumOf cBadMake)):=by
 refine F.okX sc_number_of (fun ds μ Kd Kx h=>fNumOf_len h) (fun cdv A outer s H E hr φ0 Kb Z=>⟨_,(eS (s_if (t_notN (qC C_bar_of hr (a3 (dv 0) (dv 1) (dv 2))))
  (b_one (s_raise Z rfl O_BadMake aN (by decide) aN rfl (a1 d_str)))
  b_nil)
  (eS (qS 4 sc_number_of.nd (d_make C_BestMakes___init__ hr.le rfl (a3 (dv 0) (dv 1) (dv 2))))
  (b_one (s_ret (d_methX Z.z C_BestMakes_rank eN.cl hr.le (dv 4) (a2 (d_fld eN.cl eN.n_whole (dv 4)) (dv 3))))))),fun ds μ m Kd Kx hm hl em h hK=>?_⟩)
 unfold fNumOf at h
 split at h
 ·rename_i n x y d
  obtain⟨_,cs,ts,t,rfl,rfl,rfl,S,hcl,kk⟩:=h
  have few:=S.few
  have hel:(eM n cs).length=cs.length+2:=fk n cs
  have ft:=S.takes.few
  obtain⟨ν,hν⟩:∃ ν,ν=μ.set 0 (.gx φ0 H):=⟨_,rfl⟩
  have g0:ν[0]?=some (.gx φ0 H):=by rw[hν];exact gx_at em
  have l0:0<ν.length:=(gxB g0).1
  rw[<- hν]at hm ⊢
  refine⟨cs,ts,rfl,rfl,few,S.takes,S.n2,?_⟩
  unfold numK at kk
  cases hb:barOf (eM n cs) ts with
  | some p =>
   rw[hb]at kk
   exact⟨zs,by rw[hν];exact gX_of hK em kk⟩
  | none =>
   rw[hb]at kk
   dsimp only at kk
   refine⟨cs,ts,rfl,rfl,S,hcl,hb,by rw[gxG (ae _),aO];rfl,fun a ha la=>⟨rfl,?_⟩⟩
   have kk:=kk a ha la
   obtain⟨es,he⟩:∃ es,es=eM n cs:=⟨_,rfl⟩
   have tl:=tab_least S la
   have sd:=(sideT S (a+1) 0 (cs.length+1) (by omega) (by omega)).2 (by omega)
   have tb:=tb_ok S
   have hu:=ends_up S.n1 S.cuts
   rw[<- he]at tl sd tb kk hel hu ⊢
   obtain⟨g,hg⟩:∃ g,g=(ν++[MO.ins eP [] []]).set ν.length (.ins eP bmN (bmV es ts a (ν++[MO.ins eP [] []]).length))++[.dtu [] []]:=⟨_,rfl⟩
   rw[<- hg]
   have eg:g=ν++[.ins eP bmN (bmV es ts a (ν.length+1)),.dtu [] []]:=by
    rw[hg,cI _ _ (ae _),aO,cx,gxE];rfl
   have e0:g[ν.length]?=some (.ins eP bmN (bmV es ts a (ν.length+1))):=by rw[eg,gxG (ae _),aO];rfl
   have e1:g[ν.length+1]?=some (.dtu [] []):=by rw[eg,gxG (by omega),show ν.length+1 - ν.length=1 by omega];rfl
   have gg:g[0]?=some (.gx φ0 H):=by rw[eg,gxF l0];exact g0
   have B:Bm eP g ν.length es ts a (ν.length+1) a 0 (es.length - 1):=⟨e0,ae _,by omega,by omega,by omega,by omega,by omega,by rw[show es.length - 1=cs.length+1 by omega];omega⟩
   have ol:∀ {ks:List (List Key)} {dd:List D},∀ j m',j<ν.length->(g.set (ν.length+1) (.dtu ks dd))[j]?=some m'->moB ν.length m':=fun {ks dd} j m' hj e=>by
    rw[aG (by omega),eg,gxF hj]at e
    exact hm j m' e
   have tk:∀ {ks:List (List Key)} {dd:List D},(g.set (ν.length+1) (.dtu ks dd)).take ν.length=ν:=fun {ks dd}=>by rw[List.take_set_of_le (by omega),eg,bW]
   refine⟨metE e0 (bm_m (by simp)),_,fldE e0 bm_whole,gg,⟨_,gg⟩,es,ts,a,ν.length+1,a,0,es.length - 1,[],[],t,B,rfl,rfl,by omega,tb,hu,by omega,by omega,by omega,e1,.nil,?_⟩
   cases er:rkP es ts (a+1) 0 (es.length - 1) t with
   | none =>
    rw[er]at kk
    intro ks dd mm
    rw[hK,<- hν]
    refine .inr ⟨ol,?_⟩
    rw[tk,hν]
    exact⟨gx_at em,by rw[gx_back em];exact kk⟩
   | some r =>
    rw[er]at kk
    intro ks dd mm
    refine .drop trivial ol ?_
    rw[tk,hν]
    exact gK_of em kk
 ·exact h.elim
theorem ok_take_B (F:Fun K "_law_take" "_law_take" s_take f fd)(T:Bi2 mg)  : FnOk P w K mg base CX0 1 f fd (pA s_take) (spD fTakeB):=by
 refine FnOk.imp (sp:=spTakeB) ?_ fun vs H Q E h=>take_impB h
 refine F.ok sc_take (fun vs H Q E h=>?_) (fun cdv A outer s H vs Q E hr h=>?_)
 ·obtain⟨b,n,q,rfl,_⟩:=h;rfl
 ·obtain⟨b,n,q,rfl,⟨ns,i,r,z,hb,hq,nqb,hi,hz,hz2⟩,hn,hn2,k⟩:=h
  refine⟨_,(pss_cons (ps_if (pt_cmpC gtC (pe_ix ixC (pvC 0) pe_int (fun _ _=>rfl)) pe_int (nomark _))
   (pss_cons (ps_set (i:=2) sc_take.nd rfl (by first | exact Or.inl rfl | exact Or.inr rfl) (pe_ix ixC (pvC 0) pe_int (fun _ _=>rfl)))
   (pss_cons (ps_asg (pe_op divV (pvC 2) (pvC 1)) (pg_sub (pvC 0) pe_int setC))
   (pss_one (ps_ret (pe_op modC (pvC 2) (pvC 1))))))
   pss_nil)
   (pss_cons (ps_asg (pe_op modC (pe_op addC (pe_op mulC (pe_ix ixC (pvC 0) pe_int (fun _ _=>rfl)) pe_int) pe_int) pe_int) (pg_sub (pvC 0) pe_int setC))
   (pss_cut (ps_if (pt_cmpC ltC (pe_ix ixC (pvC 0) pe_int (fun _ _=>rfl)) (pe_callB lenC (by rfl) T.len PySem.boot_len (pa_cons (pe_ix ixC (pvC 0) pe_int (fun _ _=>rfl)) pa_nil)) (nomark _))
   (pss_cons (ps_set (i:=3) sc_take.nd rfl (by first | exact Or.inl rfl | exact Or.inr rfl) (pe_ix ixC (pe_ix ixC (pvC 0) pe_int (fun _ _=>rfl)) (pe_ix ixC (pvC 0) pe_int (fun _ _=>rfl)) (fun _ _=>rfl)))
   (pss_cons (ps_augS (pvC 0) pe_int getC pe_int ip_addC setC)
   (pss_cons (ps_if (pt_cmpC geC (pvC 3) (pe_op powC pe_int pe_int) (nomark _))
   (pss_cons (ps_asg (pe_op divV (pvC 3) (pvC 1)) (pg_sub (pvC 0) pe_int setC))
   (pss_one (ps_ret (pe_op modC (pvC 3) (pvC 1)))))
   pss_nil)
   (pss_one (ps_asg (pe_op modC (pe_op addC (pe_ix ixC (pvC 0) pe_int (fun _ _=>rfl)) (pe_op mulC (pvC 3) pe_int)) pe_int) (pg_sub (pvC 0) pe_int setC))))))
   pss_nil)
   (pss_cons (ps_set (i:=4) sc_take.nd rfl (by first | exact Or.inl rfl | exact Or.inr rfl) (pe_ix ixC (pvC 0) pe_int (fun _ _=>rfl)))
   (pss_cons (ps_set (i:=5) sc_take.nd rfl (by first | exact Or.inl rfl | exact Or.inr rfl) (pe_op modC (pe_op addC (pe_op mulC (pvC 4) (pvC 4)) (pe_op divV (pvC 4) pe_int)) pe_int))
   (pss_one (ps_ret (pe_op modC (pe_op modC (pe_op addC (pe_op mulC (pvC 5) pe_int) (pvC 4)) pe_int) (pvC 1))))))))),?_⟩
  have fin:∀(v:Int) (H':Hp) (i' r' z':Int),OB b H H'->H' b=some (.lst [.ref q,.int i',.int r',.int z'])->0<=i'->0<=z'->z'<2147483647->Q (.int (v%n)) H':=fun v H' i' r' z' ob hb' h1 h2 h3 =>
   k _ _ (Int.emod_nonneg _ (by omega)) (dz _ hn) ⟨ns,i',r',z',hb',(ob q nqb).trans hq,nqb,h1,h2,h3⟩ ob
  have md:∀ x:Int,0<=x%2147483647/\x%2147483647<2147483647:=fun x=>⟨Int.emod_nonneg _ (by decide),dz _ (by decide)⟩
  refine⟨_,.inl hb,?_⟩
  refine iteD (fun h1=>?_) (fun h1=>?_)
  ·refine⟨_,.inl hb,⟨hn,hn2⟩,_,hb,hn,?_⟩
   exact fin _ _ _ _ _ OB.refl.upd fA hi hz hz2
  ·refine⟨_,.inl hb,.inr ⟨by decide,by decide⟩,pM,_,hb,?_⟩
   have ob1:∀ o,OB b H (upd H b o):=fun o=>OB.refl.upd
   refine⟨fun σ' H'=>∃(c:Option V) (i' r' z':Int),σ'=[some (.ref b),some (.int n),none,c,none,none]/\OB b H H'/\H' b=some (.lst [.ref q,.int i',.int r',.int z'])/\0<=i'/\0<=z'/\z'<2147483647,?_,?_⟩
   ·refine⟨_,.inl fA,_,.inl fA,_,.inl ((ob1 _ q nqb).trans hq),?_⟩
    refine iteD (fun h2=>?_) (fun h2=>?_)
    ·have h2':i<(ns.length:Int):=by simpa using h2
     obtain⟨c,hc⟩:∃ c,ns[i.toNat]?=some c:=⟨ns[i.toNat]'(by omega),gxA _⟩
     have e:atI (ns.map V.int) i=some (.int c):=by
      have q:=atI_nat (xs:=ns.map V.int) (j:=i.toNat) (v:=.int c) (by rw[gxH,hc];rfl)
      rwa [bO hi]at q
     refine⟨_,.inl fA,_,.inl fA,_,.inl ((ob1 _ q nqb).trans hq),fj e ?_⟩
     refine⟨_,fA,by decide,_,fA,?_⟩
     refine⟨⟨by decide,by decide,by decide⟩,?_⟩
     refine iteD (fun h3=>?_) (fun h3=>?_)
     ·refine⟨⟨hn,hn2⟩,_,fA,hn,?_⟩
      exact fin _ _ (i+1) _ _ OB.refl.upd.upd.upd fA (by omega) (md _).1 (md _).2
     ·refine⟨_,.inl fA,.inr ⟨by decide,by decide⟩,pM,_,fA,?_⟩
      exact⟨_,i+1,_,_,rfl,OB.refl.upd.upd.upd,fA,by omega,(md _).1,(md _).2⟩
    ·exact⟨_,i,_,_,rfl,OB.refl.upd,fA,hi,(md _).1,(md _).2⟩
   ·rintro σ' H' ⟨c,i',r',z',rfl,ob,hb',h1,h2,h3⟩
    refine⟨_,.inl hb',.inl ⟨by omega,by omega⟩,⟨by decide,by decide⟩,pN,.inr ⟨by decide,by decide⟩,pM,hn,?_⟩
    exact fin _ _ i' _ _ ob hb' h1 h2 h3
theorem ok_take (F:Fun K "_law_take" "_law_take" s_take f fd)(T:Bi2 mg)  : FnOk P w K mg base CX0 1 f fd (pA s_take) (spD fTake):=by
 exact(ok_take_B F T).imp fun vs H Q E h=>take_toB h
theorem ok_whole (F:Fun K "_law_whole" "_law_whole" s_whole f fd)(T:Bi2 mg)  : FnOk P w K mg base CX0 1 f fd (pA s_whole) (spD fWholeT):=by
 refine F.okD sc_whole (fun ds μ Kd h=>by unfold fWholeT at h;split at h <;> first | rfl | exact h.elim) (fun cdv A outer s H E hr=>⟨_,(b_one (s_ret (d_and (d_isi (T := "int") (by simp) (by rfl) T.isinstance (by rfl) T.int eE (dv 0)) (d_one (d_not (d_isi (T := "bool") (by simp) (by rfl) T.isinstance (by rfl) T.bool PyProof.Rows.boot_bool (dv 0))))))),fun ds μ Kd hm hl h=>?_⟩)
 unfold fWholeT at h
 split at h
 ·rename_i d
  obtain⟨t,rfl,kk⟩:=h
  refine fj (ty_mk t _) ?_
  cases t with
  | num _=>exact .keep kk
  | tri _ _ _=>exact .keep kk
 ·exact h.elim
theorem ok_turned1 (n:Nat){f:Addr}{fd:FuncData}(F:Fun K "_law_turned" "_law_turned" s_turned f fd)(T:Bi2 mg)(C_turned:Cal P w K mg base "_law_turned" n ["_law_size", "_law_make"] (spD (fRec fTurnL n))):FnOk P w K mg base CX0 (n+1) f fd ["_law_size", "_law_make"] (spD (fTurnL n)):=by
 refine F.okD sc_turned (fun ds μ Kd h=>by unfold fTurnL at h;split at h <;> first | rfl | exact h.elim) (fun cdv A outer s H E hr=>⟨_,(eS (s_if (d_testV (d_isi (T := "int") (by simp) (by rfl) T.isinstance (by rfl) T.int eE (dv 1)))
  (b_one (s_ret (dv 1)))
  b_nil)
  (b_one (s_ret (d_tup (a3 (dMi (dv 0) (dIX (dv 1) d_int)) (qC C_turned hr (a2 (dv 0) (dIX (dv 1) d_int))) (qC C_turned hr (a2 (dv 0) (dIX (dv 1) d_int)))))))),fun ds μ Kd hm hl h=>?_⟩)
 unfold fTurnL at h
 split at h
 ·rename_i z d
  obtain⟨t,rfl,hd,kk⟩:=h
  refine fj (ty_mk t _) ?_
  cases t with
  | num _=>exact .keep kk
  | tri p l r =>
   have hd':max l.dep r.dep+1<=n:=hd
   obtain⟨n,rfl⟩:∃ n',n=n'+1:=⟨n - 1,by omega⟩
   exact⟨r,rfl,by omega,l,rfl,by omega,zs,.keep kk⟩
 ·exact h.elim
theorem ok_turned {f:Addr}{fd:FuncData}(F:Fun K "_law_turned" "_law_turned" s_turned f fd)(T:Bi2 mg)(hm:mg "_law_turned"=some (.ref f))(hk:PySem.W.keepIn K (.ref f)=true)(hb:Binds K fd ["_law_size", "_law_make"] []):∀ n,FnOk P w K mg base CX0 (n+1) f fd ["_law_size", "_law_make"] (spD (fTurnL n))
 | 0=>ok_turned1 0 F T ⟨f,fd,⟨fun _ _ _ _ hq1=>by obtain⟨_,_,_,_,_,_,h,_⟩:=hq1;exact h.elim,fun _ _ _ _ _ _ _ _ _ _ _ _ _ hq2=>by obtain⟨_,_,_,_,_,_,h,_⟩:=hq2;exact h.elim⟩,hm,hk,hb⟩
 | n+1=>ok_turned1 (n+1) F T ⟨f,fd,ok_turned F T hm hk hb n,hm,hk,hb⟩
set_option maxHeartbeats 8000000 in
theorem ok_law (F:Fun K "law" "law" s_law f fd)(T:Bi2 mg)(C_box:c_box P w K mg base)(C_take:c_take P w K mg base)(C_take_B:c_take_B P w K mg base)(C_shelf:c_shelf P w K mg base)(C_least_age:c_least_age P w K mg base)(C_fewest:c_fewest P w K mg base)(C_count_best:c_count_best P w K mg base)(C_whole:c_whole P w K mg base)(C_best_of:c_best_of P w K mg base)(C_number_of:c_number_of P w K mg base)(C_turned:c_turned P w K mg base):FnOk P w K mg base CX0 220 f fd (pA s_law) (spLaw K):=by
 refine F.ok sc_law (fun vs H Q E h=>?_) (fun cdv A outer s H vs Q E hr h=>?_)
 ·obtain⟨a,ns,rfl,_⟩:=h;rfl
 ·obtain⟨a,ns,rfl,hs,hl,k⟩:=h
  refine⟨_,pss_cons (ps_set (i:=1) sc_law.nd rfl (by first | exact Or.inl rfl | exact Or.inr rfl) (pe_callC C_box (hr.mono (by first | decide | exact ae _ | omega)) rfl (pa_cons (pvC 0) pa_nil))) (eS (s_asg (qC C_shelf hr (a2 (dv 1) (dIX (d_lst false (a2 d_int d_int)) (d_ty intC so_int (by rfl) T.int eE (a1 (d_cmp eqC so_eqS (qC C_take hr (a2 (dv 1) d_int)) d_int (nomark _))))))) ⟨(pg_tupC (n:=3) rfl (eT (qN 2 sc_law.nd) (eT (qN 3 sc_law.nd) (eT (qN 4 sc_law.nd) pgs_nilC)))),(so_tup (fh (fg 2) (eO 2) (fh (fg 3) (eO 3) (fh (fg 4) (eO 4) so_nil eY) (eR (eO 4) eY)) (eR (eO 3) (eR (eO 4) eY)))),(mo_tup (eR (eO 2) (eR (eO 3) (eR (eO 4) eY))))⟩)
   (eS (sC1 5 false sc_law.nd (cOk (N:=["_law_place", "_law_size"]) (js:=[none,some 2]) sc_law (by decide +kernel)) (i_list (d_rev (dv 3) (o_some (d_neg d_int)))) (fun _ _ _ nd=>(qN 0 nd)) (fun _ _ _=>ts_nil) (fun _ _ _=>(dMi (dv 1) (dv 0))))
   (eS (sCp 6 false sc_law.nd (cOk (N:=["_law_text", "_law_old"]) (js:=[none,none]) sc_law (by decide +kernel)) (so_tup (fh (fg 0) (eO 0) (fh (fg 1) (eO 1) so_nil eY) (eR (eO 1) eY))) (mo_tup (eR (eO 0) (eR (eO 1) eY))) (i_list (dv 4)) (fun _ _ _ nd=>(pg_tupC (n:=2) rfl (eT (qN 0 nd) (eT (qN 1 nd) pgs_nilC)))) (fun _ _ _=>ts_nil) (fun _ _ _=>(d_tup (a2 (d_revS (dv 0) (o_some (d_neg d_int))) (dv 1)))))
   (eS (qS 7 sc_law.nd (qC C_least_age hr (a3 (dv 2) (d_ty listC (so_list (m:=false)) (by rfl) T.list ar (a1 (dv 3))) (d_ty listC (so_list (m:=false)) (by rfl) T.list ar (a1 (dv 4))))))
   (eS (s_if (d_testC neA so_eqA (qC C_least_age hr (a3 (dv 2) (d_ty listC (so_list (m:=false)) (by rfl) T.list ar (a1 (dv 5))) (d_ty listC (so_list (m:=false)) (by rfl) T.list ar (a1 (dv 6))))) (dv 7) (nomark _))
   (b_one (s_ret d_bl))
   b_nil)
   (eS (s_for cf rfl (i_list (d_lst false (a2 (qC C_take hr (a2 (dv 1) d_int)) (qC C_take hr (a2 (dv 1) d_int))))) (qT 8 sc_law.nd)
   (b_one (s_if (d_testC neA so_eqA (qC C_fewest hr (fb (dv 2) (fb (d_ty listC (so_list (m:=false)) (by rfl) T.list ar (a1 (dv 3))) (fb (d_ty listC (so_list (m:=false)) (by rfl) T.list ar (a1 (dv 4))) (fb (dv 8) da_nil))))) (qC C_fewest hr (fb (dv 2) (fb (d_ty listC (so_list (m:=false)) (by rfl) T.list ar (a1 (dv 5))) (fb (d_ty listC (so_list (m:=false)) (by rfl) T.list ar (a1 (dv 6))) (fb (dv 8) da_nil))))) (nomark _))
   (b_one (s_ret d_bl))
   b_nil)))
   (eS (qS 9 sc_law.nd (qC C_count_best hr (a3 (dv 2) (d_ty listC (so_list (m:=false)) (by rfl) T.list ar (a1 (dv 3))) (d_ty listC (so_list (m:=false)) (by rfl) T.list ar (a1 (dv 4))))))
   (eS (s_if (PW.pt (t_or (t_not (d_testV (qC C_whole hr (a1 (dv 9))))) (t_or1 (qNe (qC C_count_best hr (a3 (dv 2) (d_ty listC (so_list (m:=false)) (by rfl) T.list ar (a1 (dv 5))) (d_ty listC (so_list (m:=false)) (by rfl) T.list ar (a1 (dv 6))))) (dv 9)))))
   (b_one (s_ret d_bl))
   b_nil)
   (eS (s_if (t_isN (dv 7))
   (b_one (s_ret (d_cmp eqC so_eqS (dv 9) d_int (nomark _))))
   b_nil)
   (eS (s_if (d_testC neA so_eqA (qC C_fewest hr (fb (dv 2) (fb (d_ty listC (so_list (m:=false)) (by rfl) T.list ar (a1 (dv 3))) (fb (d_ty listC (so_list (m:=false)) (by rfl) T.list ar (a1 (dv 4))) (fb (dv 7) da_nil))))) (qC C_fewest hr (fb (dv 2) (fb (d_ty listC (so_list (m:=false)) (by rfl) T.list ar (a1 (dv 5))) (fb (d_ty listC (so_list (m:=false)) (by rfl) T.list ar (a1 (dv 6))) (fb (dv 7) da_nil))))) (nomark _))
   (b_one (s_ret d_bl))
   b_nil)
   (eS (qS 10 sc_law.nd (d_callXc C_best_of hr.le rfl (fb (dv 2) (fb (d_ty listC (so_list (m:=false)) (by rfl) T.list ar (a1 (dv 3))) (fb (d_ty listC (so_list (m:=false)) (by rfl) T.list ar (a1 (dv 4))) (fb (qC C_take_B hr (a2 (dv 1) (dv 9))) da_nil))))))
   (eS (qS 11 sc_law.nd (d_callXc C_number_of hr.le rfl (fb (dv 2) (fb (d_ty listC (so_list (m:=false)) (by rfl) T.list ar (a1 (dv 5))) (fb (d_ty listC (so_list (m:=false)) (by rfl) T.list ar (a1 (dv 6))) (fb (qC C_turned hr (a2 (dv 2) (dv 10))) da_nil))))))
   (b_one (s_ret (d_cmp (eqC.or (eqDeep (n:=63) (un_of hr (by decide)))) (so_or so_eqS so_eqD) (d_callXc C_best_of hr.le rfl (fb (dv 2) (fb (d_ty listC (so_list (m:=false)) (by rfl) T.list ar (a1 (dv 5))) (fb (d_ty listC (so_list (m:=false)) (by rfl) T.list ar (a1 (dv 6))) (fb (dv 11) da_nil))))) (qC C_turned hr (a2 (dv 2) (dv 10))) (nomark _)))))))))))))))),?_⟩
  refine⟨ns,hs,fun b q H0 B0 hb0 hq0 S0=>?_⟩
  refine law_go (m:=10) B0 ?_ k
  refine⟨zs,rfl,by decide,by decide,fun v v0 v1=>?_⟩
  obtain⟨mm,em,hmm⟩:∃ mm,atI [D.int 10,D.int 24] (if(false != decide (v=0))=true then 1 else 0)=some (.int mm)/\(mm=10\/mm=24):=by
   by_cases q:v=0
   ·rw[aE q];exact⟨24,rfl,.inr rfl⟩
   ·rw[aT q];exact⟨10,rfl,.inl rfl⟩
  refine fj em ⟨rfl,by omega,by omega,fun n cs ts h1 h2 hcl hc ht=>?_⟩
  have S:Shelf n cs ts:=⟨h1,by omega,by omega,hc,ht⟩
  have ft:=ht.few
  have c60:cs.length<=60:=by omega
  have S':=S.back
  have bl:=backC_len n cs
  have hel:(eM n cs).length=cs.length+2:=fk n cs
  have hel':(eM n (backC n cs)).length=cs.length+2:=by rw[fk,bl]
  have el:(eM n cs).length - 1=cs.length+1:=by omega
  have el':(eM n (backC n cs)).length - 1=cs.length+1:=by omega
  have eb:(cs.reverse.map fun c=>D.int (n - c))=(backC n cs).map D.int:=by unfold backC;rw[a6];rfl
  have et:(ts.map fun t=>tkD (backT t))=(ts.map backT).map tkD:=by rw[a6];rfl
  refine⟨rfl,rfl,fj rfl (fj rfl ⟨by rw[cQ,gxC];exact sz (by omega),?_⟩)⟩
  rw[<- List.map_reverse]
  refine compW_all trivial D.int (fun c=>D.int (n - c)) (fun c _ K' k'=>k') ?_
  rw[eb]
  refine nLf ?_
  dsimp only
  refine⟨by rw[gxC];exact sz (by omega),?_⟩
  refine compW_all trivial tkD (fun t=>tkD (backT t)) (fun t ht' K' k'=>?_) ?_
  ·have hz:=ht.ok t ht'
   exact⟨rfl,rfl,by rw[txt_len];exact sz (by omega),zs,k'⟩
  rw[et]
  refine nLf ?_
  dsimp only
  refine⟨cs,ts,rfl,rfl,S,c60,leastK_all fun d8 h8=>?_⟩
  have c60':(backC n cs).length<=60:=by omega
  have ld:∀ d9,LeastD (eM n (backC n cs)) (ts.map backT) n d9->d9=d8:=fun d9 h9=>by
   cases h8 with
   | no hb =>
    cases h9 with
    | no _=>rfl
    | yes a _ hb2 _ =>
     have:=bar_back S' c60' hb2
     rw[back_backC,back_backT]at this
     exact absurd this hb
   | yes a ha hb la =>
    cases h9 with
    | no hb2=>exact absurd (bar_back S c60 hb) hb2
    | yes a' _ _ la'=>rw[la'.uniq (least_back S c60 la)]
  dsimp only
  refine dIf_of false (.tst fun K k=>⟨backC n cs,ts.map backT,rfl,rfl,S',c60',leastK_all fun d9 h9=>⟨true,by rw[ld d9 h9];exact h8.eq,k⟩⟩) (fun q=>by cases q) (fun _=>dNx_of ?_)
  dsimp only
  refine⟨rfl,by decide,by decide,fun x x0 x1=>⟨rfl,by decide,by decide,fun y y0 y1=>⟨zs,nLf (fj rfl ?_)⟩⟩⟩
  refine forW_inv (fun ds ρ μ'=>(∀ d∈ds,∃ t:Nat,t<=12/\d=.int t)/\∃ u:Option D,ρ=[none,some (.mr 0),some (.int n),some (.lst (cs.map D.int)),some (.lst (ts.map tkD)),some (.lst ((backC n cs).map D.int)),some (.lst ((ts.map backT).map tkD)),some d8,u,none,none,none]/\μ'=[.box]) ⟨fun d hd=>?_,none,rfl,rfl⟩ ?_ ?_
  ·simp only[aH,aw,bz]at hd
   rcases hd with rfl | rfl
   ·exact⟨x.toNat,by omega,by rw[bO x0]⟩
   ·exact⟨y.toNat,by omega,by rw[bO y0]⟩
  ·rintro d ds' ρ μ' ⟨hd,u,rfl,rfl⟩
   refine⟨trivial,fun nx hnx=>?_⟩
   obtain⟨t,ht1,rfl⟩:=hd d ao
   exact dIf_of false (.tst fun K k=>⟨cs,ts,rfl,rfl,S,by omega,by omega,backC n cs,ts.map backT,rfl,rfl,S',by omega,by omega,true,by rw[few_back S c60];exact few_eq _ _,k⟩) (fun q=>by cases q) (fun _=>dNx_of (hnx _ _ ⟨fun d hd'=>hd d (gxI _ hd'),_,rfl,rfl⟩))
  rintro ρ μ' ⟨_,u,rfl,rfl⟩
  refine⟨trivial,cs,ts,rfl,rfl,S,c60,cntK_all fun c hc1=>?_⟩
  have cc:∀ c',CntD (eM n (backC n cs)) (ts.map backT) n c'->c'=c:=fun c' hc2=>by
   cases hc1 with
   | no hb =>
    cases hc2 with
    | no _=>rfl
    | yes a _ hb2 _ =>
     have:=bar_back S' c60' hb2
     rw[back_backC,back_backT]at this
     exact absurd this hb
   | yes a ha hb la =>
    have l2:=least_back S c60 la
    cases hc2 with
    | no hb2=>exact absurd (bar_back S c60 hb) hb2
    | yes a' _ _ la' =>
     obtain rfl:=l2.uniq la'
     rw[el,el']
     have g1:=ct_le S c60 la
     have g2:=ct_le S' c60' l2
     rw[back_backC,back_backT,bl]at g2
     omega
  dsimp only
  refine dIf_of (!true||(true != decide (c=c))) (.or (.not (.tst fun K k=>⟨.num c,rfl,k⟩)) fun _=>.tst fun K k=>⟨backC n cs,ts.map backT,rfl,rfl,S',c60',cntK_all fun c' hc2=>by rw[cc c' hc2];exact k⟩) (fun q=>by rw[aE rfl]at q;cases q) (fun _=>dNx_of ?_)
  dsimp only
  cases h8 with
  | no hb =>
   obtain rfl:c=0:=by
    cases hc1 with
    | no _=>rfl
    | yes a _ hb2 _=>exact absurd hb2 hb
   exact dIf_of true (.tst fun K k=>k) (fun _=>rfl) (fun q=>by cases q)
  | yes a ha hb la =>
   refine dIf_of false (.tst fun K k=>k) (fun q=>by cases q) (fun _=>dNx_of ?_)
   obtain⟨tf1,tf2⟩:=tab_few S la
   obtain rfl:c=ctP (eM n cs) ts (a+1) 0 (cs.length+1):=by
    cases hc1 with
    | no h=>exact absurd hb h
    | yes a' _ _ la'=>rw[la.uniq la',el]
   have cp:=ct_pos S c60 a 0 (cs.length+1) (by omega) (by omega) tf2
   have cb:=(ct_bd (es:=eM n cs) (ts:=ts) (by omega) (by omega) (a+1) 0 (cs.length+1) (by omega) (by omega)).2
   dsimp only
   refine dIf_of false (.tst fun K k=>⟨cs,ts,rfl,rfl,S,by omega,by omega,backC n cs,ts.map backT,rfl,rfl,S',by omega,by omega,true,by rw[few_back S c60];exact few_eq _ _,k⟩) (fun q=>by cases q) (fun _=>dNx_of ?_)
   dsimp only
   refine⟨rfl,cp,⟨_,by omega,cb⟩,fun r r0 r1=>⟨⟨_,rfl⟩,cs,ts,rfl,rfl,S,c60,?_⟩⟩
   unfold bestK
   rw[hb]
   intro a' _ la'
   obtain rfl:=la.uniq la'
   rw[el,au ⟨r0,r1⟩]
   obtain⟨t1,t2,t3,t4⟩:=best_num S c60 la r0 r1
   have rk:=rk_bmk (ends_up S.n1 S.cuts) (by omega) (by omega) (a+1) 0 (cs.length+1) r (by omega) (by omega) r0 r1
   have bst:=(rk_best (ends_up S.n1 S.cuts) (a+1) 0 (cs.length+1) _ (by omega) (by omega)).mp (by rw[rk];rfl)
   generalize bmk (eM n cs) ts (a+1) 0 (cs.length+1) r=t at t4 bst
   obtain⟨r',q1,q2,q3,q4⟩:=turn_rank S c60 la bst
   have l2:=least_back S c60 la
   have hb2:=bar_back S c60 hb
   have td:=turn_dep n t
   dsimp only
   refine⟨t,rfl,by omega,⟨_,rfl⟩,backC n cs,ts.map backT,turnM n t,rfl,rfl,rfl,S',c60',?_⟩
   unfold numK
   rw[hb2]
   intro a' _ la'
   obtain rfl:=l2.uniq la'
   rw[el',q1]
   dsimp only
   refine⟨⟨_,rfl⟩,backC n cs,ts.map backT,rfl,rfl,S',c60',?_⟩
   unfold bestK
   rw[hb2]
   intro a' _ la'
   obtain rfl:=l2.uniq la'
   rw[el',au ⟨q2,q3⟩,q4]
   refine⟨t,rfl,by omega,?_⟩
   generalize turnM n t=u at td
   cases u with
   | num z =>
    refine .inl ?_
    show D.bl (false != decide (z=z))=.bl true
    rw[aE rfl];rfl
   | tri p l r =>
    refine .inr ⟨sm_pu (sm_mk (.tri p l r) (by omega)),sm_pu (sm_mk (.tri p l r) (by omega)),rfl,?_⟩
    rw[(deq_mk (.tri p l r) _).mpr rfl]
    rfl
end
def kM0:Value:=(.str "hissroom.errors" 218)
def kM1:Value:=(.str "law_hissroom_k29_whole_heard_backwards" 501)
def kM2:Value:=(.str "hissroom.ends" 187)
def kM3:Value:=(.str "hissroom.reach" 270)
def kM4:Value:=(.str "hissroom.tables" 309)
def kM5:Value:=(.str "hissroom.few" 342)
def kk (P:Params):PySem.W.Frag:=List.flatten [[ko 3 (mainO P "law_hissroom_k29_whole_heard_backwards" 501 [me "ends" 196 (.ref 21),me "pieces" 205 (.ref 28),me "farthest" 211 (.ref 33),me "bar_of" 217 (.ref 38),me "HissError" 237 (.ref 48),me "BadMake" 253 (.ref 61),me "BadNumber" 269 (.ref 73),me "least_age" 284 (.ref 82),me "youngest" 290 (.ref 87),me "take_rows" 296 (.ref 92),me "clean_row" 302 (.ref 97),me "next_reach" 308 (.ref 102),me "few_tables" 316 (.ref 107),me "no_make" 323 (.ref 114),me "bare_table" 329 (.ref 119),me "next_table" 335 (.ref 124),me "fewest_joined" 341 (.ref 129),me "fewest" 354 (.ref 136),me "count_best" 364 (.ref 143),me "best_of" 375 (.ref 150),me "number_of" 386 (.ref 157),me "BestMakes" 492 (.ref 219),me "take_rank" 500 (.ref 230),me "_law_box" 509 (.ref 237),me "_law_take" 521 (.ref 244),me "_law_bars" 527 (.ref 249),me "_law_cuts" 533 (.ref 254),me "_law_patched" 548 (.ref 261),me "_law_shelf" 554 (.ref 266),me "_law_whole" 561 (.ref 273),me "_law_turned" 569 (.ref 280),me "law" 575 (.ref 285)])],[ko 219 ⟨.type "type",none,(.cls ⟨"BestMakes",[.type "object"],[.ref 219,.type "object"],218, "BestMakes",true,[],[],false,none,false⟩),#[none,none,(some (.str "BestMakes" 387)),(some (.str "BestMakes" 395)),(some (.builtin "object.__new__")),(some (.bool true))]⟩,ko 218 ⟨.type "dict",none,(.dict #[enP P "__module__" 394 (.str "hissroom.few" 342),enP P "__firstlineno__" 398 (.int 100 397),enP P "__init__" 409 (.ref 171),enP P "is_take" 420 (.ref 178),enP P "clean_takes" 426 (.ref 183),enP P "halves" 432 (.ref 188),enP P "counted" 440 (.ref 195),enP P "count_anew" 452 (.ref 202),enP P "numbered" 466 (.ref 209),enP P "rank" 479 (.ref 216),enP P "__static_attributes__" 485 (.ref 217),enP P "__dict__" 487 (.ref 220),enP P "__weakref__" 489 (.ref 221),enP P "__doc__" 490 (.none)] 4),#[]⟩],kx P 73 72 48 "BadNumber" (some (.ref 64)) 254 262 kM0 261 21 71,kx P 61 60 48 "BadMake" (some (.ref 52)) 238 246 kM0 245 19 59,[ko 48 ⟨.type "type",none,(.cls ⟨"HissError",[.type "ValueError"],[.ref 48,.type "ValueError",.type "Exception",.type "BaseException",.type "object"],47, "HissError",true,[],[.ref 61,.ref 73],false,none,false⟩),#[(some (.ref 39)),none,(some (.str "HissError" 220)),(some (.str "HissError" 228)),(some (.builtin "ValueError.__new__")),(some (.bool true))]⟩,ko 47 ⟨.type "dict",none,(.dict #[enP P "__module__" 227 (.str "hissroom.errors" 218),enP P "__firstlineno__" 231 (.int 17 230),enP P "__static_attributes__" 232 (.ref 46),enP P "__weakref__" 234 (.ref 49),enP P "__doc__" 235 (.none)] 3),#[]⟩],kf1 237 236 "_law_box" s_box kM1 503 164 1 231 232 (.ref 233) (.ref 234) 235 507,kf1 244 243 "_law_take" s_take kM1 510 166 2 238 239 (.ref 240) (.ref 241) 242 519,kf1 249 248 "_law_bars" s_bars kM1 522 182 2 245 246 .none .none 247 525,kf1 254 253 "_law_cuts" s_cuts kM1 528 195 2 250 251 .none .none 252 531,kf1 261 260 "_law_patched" s_patched kM1 534 202 4 255 256 (.ref 257) (.ref 258) 259 546,kf1 266 265 "_law_shelf" s_shelf kM1 549 210 2 262 263 .none .none 264 552,kf1 21 20 "ends" s_ends kM2 189 2 2 15 16 (.ref 17) (.ref 18) 19 194,kf1 28 27 "pieces" s_pieces kM2 197 4 2 22 23 (.ref 24) (.ref 25) 26 203,kf1 38 37 "bar_of" s_bar_of kM2 212 11 3 34 35 .none .none 36 215,kf1 33 32 "farthest" s_farthest kM2 206 7 4 29 30 .none .none 31 209,kf1 92 91 "take_rows" s_take_rows kM3 291 37 3 88 89 .none .none 90 294,kf1 97 96 "clean_row" s_clean_row kM3 297 40 3 93 94 .none .none 95 300,kf1 102 101 "next_reach" s_next_reach kM3 303 46 4 98 99 .none .none 100 306,kf1 87 86 "youngest" s_youngest kM3 285 35 1 83 84 .none .none 85 288,kf1 82 81 "least_age" s_least_age kM3 272 24 3 76 77 (.ref 78) (.ref 79) 80 282,kf1 114 113 "no_make" s_no_make kM4 317 65 1 108 109 (.ref 110) (.ref 111) 112 321,kf1 119 118 "bare_table" s_bare_table kM4 324 67 1 115 116 .none .none 117 327,kf1 129 128 "fewest_joined" s_fewest_joined kM4 336 77 3 125 126 .none .none 127 339,kf1 124 123 "next_table" s_next_table kM4 330 70 3 120 121 .none .none 122 333,kf1 107 106 "few_tables" s_few_tables kM4 311 51 4 103 104 .none .none 105 314,kf1 136 135 "fewest" s_fewest kM5 344 80 4 130 131 (.ref 132) (.ref 133) 134 352,kf 178 177 "is_take" "BestMakes.is_take" s_BestMakes_is_take kM5 410 110 2 172 173 (.ref 174) (.ref 175) 176 418,kf 183 182 "clean_takes" "BestMakes.clean_takes" s_BestMakes_clean_takes kM5 421 114 2 179 180 .none .none 181 424,kf 188 187 "halves" "BestMakes.halves" s_BestMakes_halves kM5 427 119 2 184 185 .none .none 186 430,kf 202 201 "count_anew" "BestMakes.count_anew" s_BestMakes_count_anew kM5 441 130 2 196 197 (.ref 198) (.ref 199) 200 450,kf 195 194 "counted" "BestMakes.counted" s_BestMakes_counted kM5 433 125 2 189 190 (.ref 191) (.ref 192) 193 438,kf 171 170 "__init__" "BestMakes.__init__" s_BestMakes___init__ kM5 399 102 4 165 166 (.ref 167) (.ref 168) 169 407,kf1 143 142 "count_best" s_count_best kM5 355 83 3 137 138 (.ref 139) (.ref 140) 141 362,kf 209 208 "numbered" "BestMakes.numbered" s_BestMakes_numbered kM5 453 138 3 203 204 (.ref 205) (.ref 206) 207 464,kf1 150 149 "best_of" s_best_of kM5 365 88 4 144 145 (.ref 146) (.ref 147) 148 373,kf1 230 229 "take_rank" s_take_rank kM5 493 159 2 224 225 (.ref 226) (.ref 227) 228 498,kf 216 215 "rank" "BestMakes.rank" s_BestMakes_rank kM5 467 148 3 210 211 (.ref 212) (.ref 213) 214 477,kf1 157 156 "number_of" s_number_of kM5 376 95 4 151 152 (.ref 153) (.ref 154) 155 384,kf1 273 272 "_law_whole" s_whole kM1 555 223 1 267 268 (.ref 269) (.ref 270) 271 559,kf1 280 279 "_law_turned" s_turned kM1 562 225 2 274 275 (.ref 276) (.ref 277) 278 567,kf1 285 284 "law" s_law kM1 570 229 1 281 282 .none .none 283 573]
def hk:PySem.W.Hook:=PySem.W.kHook kk [3,219,218,73,72,61,60,48,47,237,236,244,243,249,248,254,253,261,260,266,265,21,20,28,27,38,37,33,32,92,91,97,96,102,101,87,86,82,81,114,113,119,118,129,128,124,123,107,106,136,135,178,177,183,182,188,187,202,201,195,194,171,170,143,142,209,208,150,149,230,229,216,215,157,156,273,272,280,279,285,284] (fun _=>by kernel_rfl)
def lw:PySem.W.OpenLaw:=PySem.Challenge.rw_hissroom_k29_whole_heard_backwards
def qq:Program:={ lw.prog with main:={ lw.prog.main with body:=[s_law]}}
def ll:List Str:=[sS "ends",sS "pieces",sS "farthest",sS "bar_of",sS "HissError",sS "BadMake",sS "BadNumber",sS "least_age",sS "youngest",sS "take_rows",sS "clean_row",sS "next_reach",sS "few_tables",sS "no_make",sS "bare_table",sS "next_table",sS "fewest_joined",sS "fewest",sS "count_best",sS "best_of",sS "number_of",sS "BestMakes",sS "take_rank",sS "_law_box",sS "_law_take",sS "_law_bars",sS "_law_cuts",sS "_law_patched",sS "_law_shelf",sS "_law_whole",sS "_law_turned"]
def xt (s:Shared):Bool:=PySem.W.xlAt qq [] s&&PySem.W.recOk (PySem.W.RowW.records lw.row.toRowW) s
theorem left:PySem.W.LeftO lw.prog qq ll xt hk.obs hk.val 1953:=left_of (M:=1953) (by kernel_rfl) rfl (fun s=>by kernel_rfl) rfl (fun w os=>by kernel_rfl)
theorem said:lw.wellSaid=true:=(congrFun PySem.W.Fast.te9446332074065402090 lw).trans (by kernel_rfl)
def dd:DefRec:=⟨"law",defArgs s_law,defBody s_law,eV s_law,defPos s_law⟩
theorem holds (F:PySem.W.WalkO qq ll (PySem.W.XL qq []) hk.says lw.row.toRowW dd [] (fun f vs=>PySem.call f vs)):lw.Holds:=PySem.W.holds_law said fun k1=>PySem.W.holds_open (q:=qq) (loose:=ll) (Xt:=xt) (XP:=PySem.W.XL qq []) (d:=dd) (kwd:=[]) left hk.of hk.keeps (fun s e=>PySem.W.xl_of s (Bool.and_eq_true_iff.mp e).1) PySem.W.XL.keeps (by kernel_rfl) (by kernel_rfl) rfl (fun s e=>PySem.W.recFacts_of (Bool.and_eq_true_iff.mp e).2) rfl k1 (by kernel_rfl) ⟨rfl,rfl,rfl,rfl,rfl,by kernel_rfl⟩ ⟨[.list []],by kernel_rfl,by kernel_rfl⟩ F
abbrev lx (f:Program->World->PySem.W.Frag->(Str->Option Value)->Heap->Prop)(w:World)(mg:Str->Option Value)(base:Heap):Prop:=f lw.prog w (kk w.params) mg base
def fq (w:World)(x q:Str)(s:Stmt)(f:Addr)(pm:Value)(c:Addr)(l:(kk w.params).lookup f=some (fnQ x q s pm c):=by kernel_rfl)(c':PySem.W.codeIn (kk w.params) (.ref c) q=true:=by kernel_rfl)(k:PySem.W.keepIn (kk w.params) (.ref f)=true:=by kernel_rfl):=fun_of l c' k
def fq1 (w:World)(x:Str)(s:Stmt)(f:Addr)(pm:Value)(c:Addr)(l:(kk w.params).lookup f=some (fnQ x x s pm c):=by kernel_rfl)(c':PySem.W.codeIn (kk w.params) (.ref c) x=true:=by kernel_rfl)(k:PySem.W.keepIn (kk w.params) (.ref f)=true:=by kernel_rfl):=fun_of l c' k
set_option maxHeartbeats 40000000 in
theorem fin:PySem.W.WalkO qq ll (PySem.W.XL qq []) hk.says lw.row.toRowW dd [] (fun f vs=>PySem.call f vs):=by
 refine L2.walk_of (l:=lw) (d:=dd) (n:=63) (k:=220) (x := "_law_script") (K:=kk) (CX:=fun _=>CX0) (sp:=fun w=>spLaw (kk w.params)) rfl (by decide) rfl ⟨rfl,by decide,by decide⟩ (fun w h Y=>PySem.W.kIn_of Y) (fun w mg fa h X G hfa=>?_) (fun _ _ a ns hl _ hS=>⟨a,ns,rfl,hS,hl,fun _=>rfl⟩) fun _ _ _ _ _ z=>z
 have e:=hfa.symm.trans (dk X G (show PySem.W.nsIn (kk w.params) mainGlobals "law"=sr 285 by kernel_rfl))
 cases e
 have T:Bi2 mg:=⟨aQ X G (by kernel_rfl),aQ X G (by kernel_rfl),aQ X G (by kernel_rfl),aQ X G (by kernel_rfl),aQ X G (by kernel_rfl),aQ X G (by kernel_rfl),aQ X G (by kernel_rfl),aQ X G (by kernel_rfl),aQ X G (by kernel_rfl),aQ X G (by kernel_rfl),aQ X G (by kernel_rfl),aQ X G (by kernel_rfl),aQ X G (by kernel_rfl),aQ X G (by kernel_rfl),aQ X G (by kernel_rfl),aQ X G (by kernel_rfl),aQ X G (by kernel_rfl)⟩
 have eN:ZBestMakes (kk w.params) eP:=⟨⟨by kernel_rfl,by kernel_rfl,by kernel_rfl,by kernel_rfl⟩,by kernel_rfl,by kernel_rfl,by kernel_rfl,by kernel_rfl,by kernel_rfl⟩
 have F0:=fq1 w "_law_box" s_box 237 kM1 236
 have F1:=fq1 w "_law_take" s_take 244 kM1 243
 have F2:=fq1 w "_law_bars" s_bars 249 kM1 248
 have F3:=fq1 w "_law_cuts" s_cuts 254 kM1 253
 have F4:=fq1 w "_law_patched" s_patched 261 kM1 260
 have F5:=fq1 w "_law_shelf" s_shelf 266 kM1 265
 have F6:=fq1 w "ends" s_ends 21 kM2 20
 have F7:=fq1 w "pieces" s_pieces 28 kM2 27
 have F8:=fq1 w "bar_of" s_bar_of 38 kM2 37
 have F9:=fq1 w "farthest" s_farthest 33 kM2 32
 have F10:=fq1 w "take_rows" s_take_rows 92 kM3 91
 have F11:=fq1 w "clean_row" s_clean_row 97 kM3 96
 have F12:=fq1 w "next_reach" s_next_reach 102 kM3 101
 have F13:=fq1 w "youngest" s_youngest 87 kM3 86
 have F14:=fq1 w "least_age" s_least_age 82 kM3 81
 have F15:=fq1 w "no_make" s_no_make 114 kM4 113
 have F16:=fq1 w "bare_table" s_bare_table 119 kM4 118
 have F17:=fq1 w "fewest_joined" s_fewest_joined 129 kM4 128
 have F18:=fq1 w "next_table" s_next_table 124 kM4 123
 have F19:=fq1 w "few_tables" s_few_tables 107 kM4 106
 have F20:=fq1 w "fewest" s_fewest 136 kM5 135
 have F21:=fq w "is_take" "BestMakes.is_take" s_BestMakes_is_take 178 kM5 177
 have F22:=fq w "clean_takes" "BestMakes.clean_takes" s_BestMakes_clean_takes 183 kM5 182
 have F23:=fq w "halves" "BestMakes.halves" s_BestMakes_halves 188 kM5 187
 have F24:=fq w "count_anew" "BestMakes.count_anew" s_BestMakes_count_anew 202 kM5 201
 have F25:=fq w "counted" "BestMakes.counted" s_BestMakes_counted 195 kM5 194
 have F26:=fq w "__init__" "BestMakes.__init__" s_BestMakes___init__ 171 kM5 170
 have F27:=fq1 w "count_best" s_count_best 143 kM5 142
 have F28:=fq w "numbered" "BestMakes.numbered" s_BestMakes_numbered 209 kM5 208
 have F29:=fq1 w "best_of" s_best_of 150 kM5 149
 have F30:=fq1 w "take_rank" s_take_rank 230 kM5 229
 have F31:=fq w "rank" "BestMakes.rank" s_BestMakes_rank 216 kM5 215
 have F32:=fq1 w "number_of" s_number_of 157 kM5 156
 have F33:=fq1 w "_law_whole" s_whole 273 kM1 272
 have F34:=fq1 w "_law_turned" s_turned 280 kM1 279
 have F35:=fq1 w "law" s_law 285 kM1 284
 refine⟨PySem.W.fnOf "law" "law" (defArgs s_law) (defBody s_law) (eV s_law) .none .none .none kM1 none (.ref 284) .none,fun s v=>.of_eq rfl,fun base X0 G0=>?_⟩
 have O_BadNumber:=own_of (x := "BadNumber") (C:=cBadNumber) (h:=base) X0 G0 (by kernel_rfl) (by kernel_rfl)
 have O_BadMake:=own_of (x := "BadMake") (C:=cBadMake) (h:=base) X0 G0 (by kernel_rfl) (by kernel_rfl)
 have C0:lx c_box w mg base:=cal_of X G F0 (ok_box F0 T ) (bd1 F0)
 have C1:lx c_take w mg base:=cal_of X G F1 (ok_take F1 T ) (bd2 F1)
 have C2:lx c_bars w mg base:=cal_of X G F2 (ok_bars F2 T  C1) (bd2 F2)
 have C3:lx c_cuts w mg base:=cal_of X G F3 (ok_cuts F3 T  C1) (bd2 F3)
 have C4:lx c_patched w mg base:=cal_of X G F4 (ok_patched F4 T  C1) (bd4 F4)
 have C5:lx c_shelf w mg base:=cal_of X G F5 (ok_shelf F5 T  C1 C2 C3 C4) (bd2 F5)
 have C6:lx c_take_B w mg base:=cal_of X G F1 (ok_take_B F1 T ) (bd2 F1)
 have C7:lx c_ends w mg base:=cal_of X G F6 (ok_ends F6 T ) (bd2 F6)
 have C8:lx c_pieces w mg base:=cal_of X G F7 (ok_pieces F7 T  C7) (bd2 F7)
 have C9:lx c_bar_of w mg base:=cal_of X G F8 (ok_bar_of F8 T  C8) (bd3 F8)
 have C10:lx c_farthest w mg base:=cal_of X G F9 (ok_farthest F9 T  C7) (bd4 F9)
 have C11:lx c_take_rows w mg base:=cal_of X G F10 (ok_take_rows F10 T  C7 C10) (bd3 F10)
 have C12:lx c_clean_row w mg base:=cal_of X G F11 (ok_clean_row F11 T ) (bd3 F11)
 have C13:lx c_next_reach w mg base:=cal_of X G F12 (ok_next_reach F12 T  C12) (bd4 F12)
 have C14:lx c_youngest w mg base:=cal_of X G F13 (ok_youngest F13 T ) (bd1 F13)
 have C15:lx c_least_age w mg base:=cal_of X G F14 (ok_least_age F14 T  C9 C7 C11 C14 C13) (bd3 F14)
 have C16:lx c_no_make w mg base:=cal_of X G F15 (ok_no_make F15 T ) (bd1 F15)
 have C17:lx c_bare_table w mg base:=cal_of X G F16 (ok_bare_table F16 T  C16) (bd1 F16)
 have C18:lx c_fewest_joined w mg base:=cal_of X G F17 (ok_fewest_joined F17 T ) (bd3 F17)
 have C19:lx c_next_table w mg base:=cal_of X G F18 (ok_next_table F18 T  C16 C18) (bd3 F18)
 have C20:lx c_few_tables w mg base:=cal_of X G F19 (ok_few_tables F19 T  C7 C11 C17 C14 C19 C12) (bd4 F19)
 have C21:lx c_fewest w mg base:=cal_of X G F20 (ok_fewest F20 T  C20) (bd4 F20)
 have C22:lx c_BestMakes_is_take w mg base:=calm_of F21 (ok_BestMakes_is_take F21 T eN) (bd2 F21)
 have C23:lx c_BestMakes_clean_takes w mg base:=calm_of F22 (ok_BestMakes_clean_takes F22 T eN) (bd2 F22)
 have C24:lx c_BestMakes_halves w mg base:=calm_of F23 (ok_BestMakes_halves F23 T eN) (bd2 F23)
 have C26:lx c_BestMakes_counted w mg base:=calm_of F25 (ok_counts F25 F24 T eN ⟨by kernel_rfl,by kernel_rfl,by kernel_rfl⟩ ⟨by kernel_rfl,by kernel_rfl,by kernel_rfl⟩ (F25.binds fun _ _ _ _ _ _=>bnS fun _=>bn1 fun _=>rfl) (F24.binds fun _ _ _ _ _ _=>bnS fun _=>bn1 fun _=>rfl) C22 C23 C24 71) (bd2 F25)
 have C27:lx c_BestMakes___init__ w mg base:=cali_of X G F26 (ok_BestMakes___init__ F26 T eN C7 C11 C15 C20) (bd4 F26)
 have C28:lx c_count_best w mg base:=cal_of X G F27 (ok_count_best F27 T eN C9 C27 C26) (bd3 F27)
 have C29:lx c_BestMakes_numbered w mg base:=calm_of F28 (ok_numb F28 T eN ⟨by kernel_rfl,by kernel_rfl,by kernel_rfl⟩ (F28.binds fun _ _ _ _ _ _=>bnS fun _=>bnS fun _=>bn1 fun _=>rfl) C22 C23 C24 C26 71 (by decide)) (bd3 F28)
 have C30:lx c_best_of w mg base:=calx_of X G F29 (ok_best_of F29 T eN O_BadNumber C9 C27 C26 C29) (bd4 F29)
 have C31:lx c_take_rank w mg base:=calx_of X G F30 (ok_take_rank F30 T O_BadMake) (bd2 F30)
 have C32:lx c_BestMakes_rank w mg base:=calmx_of F31 (ok_rank F31 T eN O_BadMake ⟨by kernel_rfl,by kernel_rfl,by kernel_rfl⟩ (F31.binds fun _ _ _ _ _ _=>bnS fun _=>bnS fun _=>bn1 fun _=>rfl) C22 C23 C24 C26 C31 71 (by decide)) (bd3 F31)
 have C33:lx c_number_of w mg base:=calx_of X G F32 (ok_number_of F32 T eN O_BadMake C9 C27 C32) (bd4 F32)
 have C34:lx c_whole w mg base:=cal_of X G F33 (ok_whole F33 T ) (bd1 F33)
 have C35:lx c_turned w mg base:=cal_of X G F34 (ok_turned F34 T  (dk X G (by kernel_rfl)) F34.kp (bd2 F34)  63) (bd2 F34)
 exact ok_law F35 T  C0 C1 C6 C5 C15 C21 C28 C34 C30 C33 C35
end Pf
theorem PySem.Challenge.cw_hissroom_k29_whole_heard_backwards_holds : PySem.Challenge.rw_hissroom_k29_whole_heard_backwards.Holds :=
 Pf.holds Pf.fin