import PyProof.Rows.All
import Wide.All
import OpenK.AllK
import Wide.FinOn
import Lean
import PyProof.EqAt
import PyProof.EqKinds
import PyProof.TupleCall
import PyProof.NeKinds
import PyProof.ListRange
import PyProof.MaxThree
import PyProof.DictWalks
import PyProof.Rows.SortWalk
import PyProof.Rows.TopTwo
import PyProof.RangeIter
import PyProof.ExcArgsOwn
import PyProof.ExcBaseAll.ValueError
import PyProof.ExcAttrAll.ValueError
import KE.KIsAll
import OpenK.KOwn
import PyProof.StrBlock
import PyProof.DictItems
import PyProof.DictItemsLoops
import PyProof.DictValues
import PySem.Challenge.RW_hissroom_k48_methods_do_their_deeds
set_option Elab.async false
set_option linter.all false
set_option maxRecDepth 100000
local macro_rules | `(tactic| omega) => `(tactic| lia)
set_option genSizeOf false
set_option maxHeartbeats 4000000
theorem ux {α:Type _}{l:List α}{i:Nat}(h:i<l.length):l[i]?=some l[i]:=List.getElem?_eq_getElem h
theorem lK {α:Type _}{l:List α}{i:Nat}{a:α}(h:l[i]?=some a):∃ h:i<l.length,l[i]=a:=List.getElem?_eq_some_iff.mp h
theorem fF {α β:Type _}{as:List α}(f:α->β):(as.map f).length=as.length:=List.length_map f
theorem Ak {α:Type _}{l:List α}{i:Nat}{a:α}(e:l[i]?=some a):a∈l:=List.mem_of_getElem? e
theorem lx {α:Type _}{as bs:List α}:(as++bs).length=as.length+bs.length:=List.length_append
theorem uU {α:Type _}{l₁ l₂:List α}{i:Nat}(h:i<l₁.length):(l₁++l₂)[i]?=l₁[i]?:=List.getElem?_append_left h
theorem qx {α:Type _}{l₁ l₂:List α}{i:Nat}(h:l₁.length<=i):(l₁++l₂)[i]?=l₂[i - l₁.length]?:=List.getElem?_append_right h
theorem nV {α:Type _}{a:α}(b:α){l:List α}(h:a∈l):a∈b::l:=List.mem_cons_of_mem b h
theorem gxJ {n:Nat}:(List.range n).length=n:=List.length_range
theorem gxK (n:Nat):(n:Int).toNat=n:=Int.toNat_natCast n
theorem jt {h:PySem.Heap}{a:PySem.Addr}{u:PySem.Obj}(v:PySem.Obj)(e:h.get? a=some u):(h.push v).get? a=some u:=PySem.Heap.get?_push_of_some v e
theorem eI {α β:Type}{M:PySem.Model}{A:PySem.Around}{E:PySem.Value->PySem.Shared->Prop}{s:PySem.Shared}{m:PySem.Sem α}{f:α->PySem.Sem β}{Q:β->PySem.Shared->Prop}(h:PySem.wpAny M A m (fun a s=>PySem.wpAny M A (f a) Q E s) E s):PySem.wpAny M A (m >>= f) Q E s:=PySem.wpAny_bind h
theorem jK {h:PySem.Heap}{a:PySem.Addr}{o:PySem.Obj}(e:h.get? a=some o):a<h.objs.size:=PySem.Heap.lt_size e
theorem uw {α β:Type _}{f:α->β}{l:List α}{i:Nat}:(l.map f)[i]?=(l[i]?).map f:=List.getElem?_map ..
abbrev aa:=PySem.W.Frag
abbrev ae:=PySem.Program
abbrev af:=PySem.World
abbrev ag:=PySem.FuncData
abbrev ah:=@Nat.le_refl
abbrev ai:=@if_neg
abbrev aj:=@if_pos
abbrev ak:=@decide_eq_true
abbrev ao:=@List.map_cons
abbrev aq:=@PySem.F.excBase_ValueError
abbrev ar:=@PySem.wpAny_pure
abbrev au:=@decide_eq_false
abbrev av:=@List.getElem?_set_ne
abbrev aw:=@Nat.lt_of_lt_of_le
abbrev az:=@Nat.le_trans
abbrev aA:=@List.size_toArray
abbrev aB:=@PySem.Heap.get?_push_size
abbrev aC:=@List.mem_cons_self
abbrev aD:=@List.getElem?_set_self
abbrev aE:=@Bool.false_ne_true
abbrev aF:=@Nat.ne_of_lt
abbrev aG:=@List.map_map
abbrev aH:=@List.mem_append_right
abbrev aI:=@List.length_cons
abbrev aJ:=@PyProof.Rows.boot_isinstance
abbrev aK:=@List.map_append
abbrev aL:=@List.length_set
abbrev aM:=@List.append_assoc
abbrev aN:=@Option.some.inj
abbrev aO:=@Bool.and_eq_true
abbrev aP:=@List.length_replicate
abbrev aQ:=@List.append_nil
abbrev aR:=@List.mem_of_mem_take
abbrev aS:=@List.length_take
abbrev aT:=@Nat.sub_self
abbrev aU:=@List.length_singleton
abbrev aV:=@List.take_left
abbrev aW:=@PySem.wpAny_field
abbrev aX:=@List.take_of_length_le
abbrev aY:=@Nat.zero_le
abbrev aZ:=@List.getD_eq_getElem?_getD
abbrev a6:=@PySem.wpAny_newObj_type
abbrev a9:=@Nat.le_add_right
abbrev ba:=@PySem.Heap.size_push
abbrev bb:=@List.filter_cons
abbrev bc:=@decide_eq_true_eq
abbrev bf:=@Ne.symm
abbrev bg:=@PySem.wpAny_mono
abbrev bh:=@PySem.W.mg_none_of
abbrev bj:=@PyProof.Rows.boot_list
abbrev bo:=@Nat.ne_of_gt
abbrev bp:=@Nat.lt_succ_of_lt
abbrev bq:=@PySem.Heap.get?_update_other
abbrev br:=@List.not_mem_nil
abbrev bt:=@List.any_cons
abbrev bu:=@List.find?_cons
abbrev bw:=@Nat.lt_irrefl
abbrev bx:=@List.getElem?_take_of_lt
abbrev bz:=@PyProof.Rows.callWith_type1
abbrev bA:=@Option.isSome_map
abbrev bB:=@Nat.le_succ_of_le
abbrev bC:=@PySem.wpAny_callSpecial?_slot
abbrev bD:=@List.idxOf_cons
abbrev bE:=@PySem.F.plainAttrs_str
abbrev bF:=@List.nodup_append
abbrev bG:=@List.length_filter_le
abbrev bH:=@List.mem_cons
abbrev bI:=@PySem.wpAny_holding
abbrev bJ:=@PySem.wpAny_truthy_bool
abbrev bL:=@congrArg
abbrev bM:=@List.filterMap_cons
abbrev bN:=@PySem.PassesOwn.never
abbrev bO:=@List.cons.injEq
abbrev bP:=@PySem.wpAny_call_entry
abbrev bQ:=@PySem.wpAny_Call_Name_kw
abbrev bR:=@Nat.lt_succ_self
abbrev bS:=@List.length_drop
abbrev bT:=@PySem.wpAny_seqItems
abbrev bU:=@List.mem_append_left
abbrev bV:=@PySem.W.mg_of
abbrev bW:=@Nat.add_sub_cancel_left
abbrev bX:=@List.length_nil
abbrev bY:=@List.map_congr_left
abbrev bZ:=@Array.length_toList
abbrev b7:=@Nat.lt_of_le_of_lt
abbrev b8:=@PySem.F.slot_tuple_iterator_next
abbrev b9:=@PySem.F.type_str_join
abbrev cb:=@PySem.F.slot_str_join
abbrev cc:=@PySem.Heap.get?_update_self
abbrev cf:=@PySem.wpAny_passesOwn
abbrev cj:=@List.idxOf_append
abbrev ck:=@PySem.wpAny_comprehension_free
abbrev cm:=@List.length_filterMap_le
abbrev cn:=@PySem.mem_of_lookup
abbrev cp:=@List.getElem_of_mem
abbrev cq:=@beq_self_eq_true
abbrev cu:=@PySem.W.kia_one
abbrev cw:=@List.all_eq_true
abbrev cx:=@PySem.wpAny_setField_rec
abbrev cy:=@PyProof.Rows.boot_bool
abbrev cz:=@List.drop_of_length_le
abbrev cA:=@PySem.Calls.callWith_builtin
abbrev cC:=@Nat.min_eq_left
abbrev cD:=@Bool.eq_iff_iff
abbrev cE:=@List.set_comm
abbrev cF:=@of_decide_eq_true
abbrev cG:=@PySem.wpAny_setField
abbrev cI:=@or_false
abbrev cJ:=@PySem.boot_len
abbrev cK:=@List.set_append_left
abbrev cL:=@List.lookup_cons
abbrev cM:=@List.getElem_mem
abbrev cN:=@List.drop_eq_getElem_cons
abbrev cO:=@List.getElem?_range
abbrev cP:=@PySem.wpAny_standAt
abbrev cQ:=@List.all_cons
abbrev cU:=@PySem.wpAny_execs_nil
abbrev cV:=@PySem.pushCells_keeps
abbrev cW:=@beq_false_of_ne
abbrev cX:=@List.count_cons
abbrev cY:=@Int.natCast_add
abbrev cZ:=@PySem.tupleKind_room_in1
abbrev c4:=@PyProof.Rows.assignInOrder_cons
abbrev c6:=@PySem.Obj.data_mapFields
abbrev c7:=@List.zip_cons_cons
abbrev c8:=@List.lookup_append
abbrev c9:=@Bool.false_eq_true
abbrev dc:=@PyProof.Rows.boot_tuple
abbrev de:=@PyProof.Rows.boot_dict
abbrev df:=@List.set_set
namespace L2
open PySem PySem.Spec PyProof.Rows
abbrev Key:=Sum Int Str
def wJ:Key->Value->Bool
 | .inl k,v=>Value.isInt k v
 | .inr x,v=>Value.isStrOf x v
def keyH (w:af):Key->Int
 | .inl k=>hashInt k
 | .inr x=>hashStr w x
def gz:∀ {k:Key} {v:Value},wJ k v=true->(∃ i t,k=Sum.inl i/\v=Value.int i t)\/(∃ x t,k=Sum.inr x/\v=Value.str x t)
 | .inl i,v,h=>by
  obtain⟨t,e⟩:=Value.isInt_shape (k:=i) (v:=v) h
  exact .inl ⟨i,t,rfl,e⟩
 | .inr x,v,h=>by
  obtain⟨t,e⟩:=Value.isStrOf_shape (x:=x) (v:=v) h
  exact .inr ⟨x,t,rfl,e⟩
def keyIs_int (i:Int)(t:Tok):wJ (.inl i) (.int i t)=true:=by simp[wJ,Value.isInt]
def tJ (x:Str)(t:Tok):wJ (.inr x) (.str x t)=true:=by simp[wJ,Value.isStrOf]
def key_ll (a b:Int):decide ((Sum.inl a:Key)=Sum.inl b)=(a==b):=by
 by_cases e:a=b
 ·subst e;simp
 ·have h:¬ (Sum.inl a:Key)=Sum.inl b:=fun q=>e (Sum.inl.inj q)
  rw[au h]
  exact(beq_eq_false_iff_ne.mpr e).symm
def key_rr (a b:Str):decide ((Sum.inr a:Key)=Sum.inr b)=decide (a=b):=by
 by_cases e:a=b
 ·subst e;simp
 ·have h:¬ (Sum.inr a:Key)=Sum.inr b:=fun q=>e (Sum.inr.inj q)
  rw[au h,au e]
def key_lr (a:Int)(b:Str):decide ((Sum.inl a:Key)=Sum.inr b)=false:=au (fun q=>nomatch q)
def key_rl (a:Str)(b:Int):decide ((Sum.inr a:Key)=Sum.inl b)=false:=au (fun q=>nomatch q)
def fh (prog:ae)(w:af):PySem.KeyKind prog w Key where
 is:=wJ
 hash:=keyH w
 inj:=fun v a b ha hb=>by
  rcases gz ha with⟨i,t,rfl,rfl⟩ | ⟨x,t,rfl,rfl⟩
  ·rcases gz hb with⟨j,u,rfl,e⟩ | ⟨y,u,rfl,e⟩
   ·injection e with e1 _;rw[e1]
   ·exact nomatch e
  ·rcases gz hb with⟨j,u,rfl,e⟩ | ⟨y,u,rfl,e⟩
   ·exact nomatch e
   ·injection e with e1 _;rw[e1]
 byValue:=fun k v h=>by
  rcases gz h with⟨i,t,rfl,rfl⟩ | ⟨x,t,rfl,rfl⟩<;> rfl
 pyHash:=fun hv h=>by
  rcases gz hv with⟨i,t,rfl,rfl⟩ | ⟨x,t,rfl,rfl⟩
  ·exact wpAny_pyHash_int h
  ·exact wpAny_pyHash_str h
 eqBool:=fun hu hv h=>by
  rcases gz hu with⟨i,t,rfl,rfl⟩ | ⟨x,t,rfl,rfl⟩
  ·rcases gz hv with⟨j,u,rfl,rfl⟩ | ⟨y,u,rfl,rfl⟩
   ·rw[key_ll]at h;exact wpAny_eqBool_int h
   ·rw[key_lr]at h;exact SeqAt.EqAt.int_str i t y u _ _ _ _ h
  ·rcases gz hv with⟨j,u,rfl,rfl⟩ | ⟨y,u,rfl,rfl⟩
   ·rw[key_rl]at h;exact SeqAt.EqAt.str_int x t j u _ _ _ _ h
   ·rw[key_rr]at h;exact wpAny_eqBool_str h
 «strs»:=fun k x t v h=>by
  rcases gz h with⟨i,u,rfl,e⟩ | ⟨y,u,rfl,e⟩
  ·exact nomatch e
  ·injection e with e1 _
   subst e1
   cases v <;> rfl
def BW (prog:ae)(w:af)(i:Int)(t:Tok):(fh prog w).is (.inl i) (.int i t)=true:=keyIs_int i t
def BV (prog:ae)(w:af)(x:Str)(t:Tok):(fh prog w).is (.inr x) (.str x t)=true:=tJ x t
inductive V where
 | fV | bl (b:Bool) | int (i:Int) | str (x:Str) | byt (b:Array UInt8) | flt (b:UInt64) | ref (a:Addr) | ty (n:String)
 deriving DecidableEq
def eP:V->Value->Prop
 | .fV,u=>u=Value.none
 | .bl b,u=>u=Value.bool b
 | .int i,u=>∃ t,u=Value.int i t
 | .str x,u=>∃ t,u=Value.str x t
 | .byt b,u=>∃ t,u=Value.bytes b t
 | .flt b,u=>∃ t,u=Value.float b t
 | .ref a,u=>u=Value.ref a
 | .ty n,u=>u=Value.type n
abbrev eX:List V->List Value->Prop:=Paired eP
def eX.length {xs:List V}{us:List Value}(r:eX xs us):xs.length=us.length:=Paired.length r
def eX.get:∀ {xs:List V} {us:List Value} {i:Nat} {x:V},eX xs us->xs[i]?=some x->∃ u,us[i]?=some u/\eP x u
 | _,_,_,_,.nil,e=>by simp at e
 | _,_,0,_,.cons r _,e=>by simp at e;subst e;exact⟨_,rfl,r⟩
 | _,_,i+1,x,.cons _ t,e=>by
  obtain⟨u,h1,h2⟩:=eX.get (i:=i) (x:=x) t (by simpa using e)
  exact⟨u,by simpa using h1,h2⟩
def eX.set {x:V}{u:Value}(r:eP x u):∀ {xs:List V} {us:List Value} (i:Nat),eX xs us->eX (xs.set i x) (us.set i u)
 | _,_,_,.nil=>.nil
 | _,_,0,.cons _ t=>.cons r t
 | _,_,i+1,.cons q t=>.cons q (eX.set r i t)
def eX.append {xs ys:List V}{us ws:List Value}(h:eX xs us)(s:eX ys ws):eX (xs++ys) (us++ws):=by
 induction h with
 | nil=>exact s
 | cons r t ih=>exact .cons r ih
def eX.take:∀ {xs:List V} {us:List Value} (n:Nat),eX xs us->eX (xs.take n) (us.take n)
 | _,_,0,_=>.nil
 | _,_,_+1,.nil=>.nil
 | _,_,n+1,.cons r t=>.cons r (eX.take n t)
def eX.drop:∀ {xs:List V} {us:List Value} (n:Nat),eX xs us->eX (xs.drop n) (us.drop n)
 | _,_,0,r=>r
 | _,_,_+1,.nil=>.nil
 | _,_,n+1,.cons _ t=>eX.drop n t
def eX.none_of:∀ {xs:List V} {us:List Value} {i:Nat},eX xs us->xs[i]?=none->us[i]?=none:=fun {xs us i} r e=>by
 have h1:=r.length
 have h2:xs.length<=i:=List.getElem?_eq_none_iff.mp e
 exact List.getElem?_eq_none_iff.mpr (by omega)
def pT:Option V->Option Value->Prop
 | some v,some u=>eP v u
 | none,none=>True
 | _,_=>False
def KV {κ:Type}:List (κ×V)->List (κ×Value)->Prop:=Paired fun(p:κ×V) (q:κ×Value)=>p.1=q.1/\eP p.2 q.2
def kV:Key->V
 | .inl i=>.int i
 | .inr x=>.str x
inductive HO where
 | lst (xs:List V)
 | tup (xs:List V)
 | dK (kvs:List (Key×V)) | dT (kvs:List (List Key×V))
 | set (S:Int->Bool) (n:Nat)
 | ins (C dx:Addr) (fs:List (Str×V))
 | own (x:Addr)
 | xd (fs:List (Str×V))
 | met (f x:Addr)
 | rng (lo hi:Int)
 | ly (o:Obj) (u:HO)
 | tbl (ps:Array Value)
 | ext (φ:Heap->Prop)
abbrev Hp:=Addr->Option HO
def upd (H:Hp)(a:Addr)(o:HO):Hp:=fun b=>if b=a then some o else H b
def dW {H:Hp}{a:Addr}{o:HO}:upd H a o a=some o:=by unfold upd;rw[aj rfl]
def d9 {H:Hp}{a b:Addr}{o:HO}(h:b≠a):upd H a o b=H b:=by unfold upd;rw[ai h]
def ne_of {H:Hp}{a b:Addr}{o u:HO}(h:H a=some o)(h':H b=some u)(d:o≠u):a≠b:=by
 intro e;subst e;rw[h]at h';exact d (aN h')
def eY {H:Hp}{a b:Addr}{o:HO}(h:H a=some o)(h':H b=none):a≠b:=by
 intro e;subst e;rw[h]at h';cases h'
section
variable (P:ae)(w:af)
def fJ (H:Hp)(h:Heap)(a:Addr):HO->Prop
 | .lst xs=>xs.length<=sizeLine/\∃(eK:List Value) (n:Nat),eX xs eK/\h.get? a=some { cls:=.type "list",data:=.seq eK.toArray n}
 | .tup xs=>xs.length<=sizeLine/\∃ eK:List Value,eX xs eK/\IsTup h a eK.toArray
 | .dK kvs=>kvs.length<=sizeLine/\(a==sysModules)=false/\∃ vs,KV kvs vs/\h.DictOf (fh P w) a vs
 | .dT kvs=>kvs.length<=sizeLine/\(a==sysModules)=false/\∃ xs:List (List Key×Addr×Value),
  Paired (fun(p:List Key×V) (q:List Key×Addr×Value)=>p.1=q.1/\H q.2.1=some (.tup (p.1.map kV))/\eP p.2 q.2.2) kvs xs /\
  ∃ o es ep,h.get? a=some o/\o.ExactDict/\o.data=.dict es ep/\es.toList=xs.map (entryOfKey (tupleKind (fh P w)))/\(xs.map (·.1)).Nodup
 | .set S n=>h.SetOf (intKind P w) a S n
 | .ins C dx fs=>H dx=some (.own a)/\fs.length<=1000/\dx≠a/\h.get? a=some (W.instObj C dx) /\
  ∃ mA,h.Ns1 dx mA/\(∀ f,pT (fs.lookup f) (mA f))/\PySem.Within mA (fs.map (·.1))
 | .own _=>∃ o,h.get? a=some o
 | .xd fs=>∃ mA,h.Ns1 a mA/\∀ f,pT (fs.lookup f) (mA f)
 | .rng lo hi=>∃ t u v,h.get? a=some { cls:=.type "range",data:=.fields #[.int lo t,.int hi u,.int 1 v]}
 | .ly o u=>h.get? a=some o/\fJ H h a u
 | .tbl ps=>h.get? a=some { cls:=.none,data:=.fields ps}
 | .met f x=>h.get? a=some (W.methodObj (.ref f) (.ref x))
 | .ext φ=>φ h/\(∃ o,h.get? a=some o)/\∀ h1 h2:Heap,φ h1->(∀ o,h1.get? a=some o->h2.get? a=some o)->φ h2
def ot (H:Hp)(h:Heap):Prop:=∀ a o,H a=some o->fJ P w H h a o
end
section
variable {P:ae}{w:af}{H H':Hp}{h h':Heap}{a:Addr}{o:HO}
def fJ.lt (x:fJ P w H h a o):a<h.objs.size:=by
 cases o with
 | lst xs=>obtain⟨_,_,_,_,e⟩:=x;exact jK e
 | tup xs=>obtain⟨_,_,_,p⟩:=x;exact p.lt
 | dK kvs=>obtain⟨_,_,_,_,o,_,_,e,_⟩:=x;exact jK e
 | dT kvs=>obtain⟨_,_,_,_,o,_,_,e,_⟩:=x;exact jK e
 | set S n=>obtain⟨o,_,_,_,e,_⟩:=x;exact jK e
 | ins C dx fs=>obtain⟨_,_,_,e,_⟩:=x;exact jK e
 | own y=>obtain⟨_,e⟩:=x;exact jK e
 | xd fs=>obtain⟨_,⟨_,_,_,e,_⟩,_⟩:=x;exact jK e
 | rng lo hi=>obtain⟨_,_,_,e⟩:=x;exact jK e
 | ly ob u=>obtain⟨e,_⟩:=x;exact jK e
 | tbl ps=>exact jK (show h.get? a=some _ from x)
 | met f y=>exact jK (show h.get? a=some _ from x)
 | ext φ=>obtain⟨_,⟨_,e⟩,_⟩:=x;exact jK e
def Paired.mapP {α β:Type}{F G:α->β->Prop}{l₁:List α}{l₂:List β}(h:Paired F l₁ l₂)(f:∀ a b,F a b->G a b):Paired G l₁ l₂:=by
 induction h with
 | nil=>exact .nil
 | cons r t ih=>exact .cons (f _ _ r) ih
def fJ.vK (x:fJ P w H h a o)(k:∀ b u,(b=a\/H b=some (.own a))->h.get? b=some u->h'.get? b=some u)
 (ho:∀ b,H b=some (.own a)->H' b=some (.own a)) (ht:∀ b xs,H b=some (.tup xs)->H' b=some (.tup xs)):fJ P w H' h' a o:=by
 induction o with
 | lst xs=>obtain⟨z,eK,n,r,e⟩:=x;exact⟨z,eK,n,r,k _ _ (.inl rfl) e⟩
 | tup xs=>obtain⟨z,eK,r,ob,e,c⟩:=x;exact⟨z,eK,r,ob,k _ _ (.inl rfl) e,c⟩
 | dK kvs=>obtain⟨z,y,vs,r,ob,es,ep,e,c⟩:=x;exact⟨z,y,vs,r,ob,es,ep,k _ _ (.inl rfl) e,c⟩
 | dT kvs =>
  obtain⟨z,y,xs,r,ob,es,ep,e,c⟩:=x
  exact⟨z,y,xs,Paired.mapP r fun p q z=>⟨z.1,ht _ _ z.2.1,z.2.2⟩,ob,es,ep,k _ _ (.inl rfl) e,c⟩
 | set S n=>obtain⟨ob,es,ep,t,e,c⟩:=x;exact⟨ob,es,ep,t,k _ _ (.inl rfl) e,c⟩
 | ins C dx fs =>
  obtain⟨d,z,ne,e,mA,⟨od,es,ep,e2,c⟩,r⟩:=x
  exact⟨ho _ d,z,ne,k _ _ (.inl rfl) e,mA,⟨od,es,ep,k _ _ (.inr d) e2,c⟩,r⟩
 | own y=>obtain⟨ob,e⟩:=x;exact⟨ob,k _ _ (.inl rfl) e⟩
 | xd fs=>obtain⟨mA,⟨od,es,ep,e,c⟩,r⟩:=x;exact⟨mA,⟨od,es,ep,k _ _ (.inl rfl) e,c⟩,r⟩
 | rng lo hi=>obtain⟨t,u,v,e⟩:=x;exact⟨t,u,v,k _ _ (.inl rfl) e⟩
 | ly ob u ih=>obtain⟨e,q⟩:=x;exact⟨k _ _ (.inl rfl) e,ih q⟩
 | tbl ps =>
  have e:h.get? a=some { cls:=.none,data:=.fields ps}:=x
  show h'.get? a=some { cls:=.none,data:=.fields ps}
  exact k a _ (.inl rfl) e
 | met f y =>
  have e:h.get? a=some (W.methodObj (.ref f) (.ref y)):=x
  show h'.get? a=some (W.methodObj (.ref f) (.ref y))
  exact k a _ (.inl rfl) e
 | ext φ=>obtain⟨p,⟨o,e⟩,st⟩:=x;exact⟨st _ _ p fun o q=>k _ _ (.inl rfl) q,⟨o,k _ _ (.inl rfl) e⟩,st⟩
def ot.lt (x:ot P w H h)(e:H a=some o):a<h.objs.size:=(x a o e).lt
def ot.fresh (x:ot P w H h)(e:h.objs.size<=a):H a=none:=by
 cases q:H a with
 | none=>rfl
 | some u=>exact absurd (aw (x.lt q) e) (bw _)
def ot.dj (x:ot P w H h)(k:∀ b u,h.get? b=some u->h'.get? b=some u):ot P w H h':=fun a o e =>
 (x a o e).vK (fun b u _ q=>k b u q) (fun _ q=>q) fun _ _ q=>q
def ot.laid (x:ot P w H h)(k:∀ b u,h.get? b=some u->h'.get? b=some u)(hp:h.objs.size<=a)(new:fJ P w (upd H a o) h' a o):ot P w (upd H a o) h':=fun b u e=>by
 have hn:=x.fresh hp
 by_cases hb:b=a
 ·subst hb;rw[dW]at e;cases e;exact new
 ·rw[d9 hb]at e
  exact(x b u e).vK (fun c v _ q=>k c v q) (fun c q=>by rw[d9 (eY q hn)];exact q) fun c xs q=>by rw[d9 (eY q hn)];exact q
end
def Rd (H:Hp)(a:Addr)(u:HO):Prop:=H a=some u\/∃ o,H a=some (.ly o u)
def Rd.ok {P:ae}{w:af}{H:Hp}{h:Heap}{a:Addr}{u:HO}(r:Rd H a u)(x:ot P w H h):fJ P w H h a u:=by
 rcases r with r | ⟨o,r⟩
 ·exact x a u r
 ·obtain⟨_,q⟩:=x a _ r
  exact q
def Mut:Option HO->Prop
 | some (.lst _)=>True
 | some (.dK _)=>True
 | some (.dT _)=>True
 | some (.set _ _)=>True
 | some (.ins _ _ _)=>True
 | some (.ext _)=>True
 | _=>False
section
variable {P:ae}{w:af}{H:Hp}{h h':Heap}{x e:Addr}{o':HO}
def ot.write (ok:ot P w H h)(mu:Mut (H x))(he:e=x\/H e=some (.own x))(k:∀ b u,b≠e->h.get? b=some u->h'.get? b=some u)(heo:∃ u,h'.get? e=some u)
 (new:fJ P w (upd H x o') h' x o'):ot P w (upd H x o') h':=fun b u q=>by
 have nown:∀ c y,H c=some (.own y)->c≠x:=fun c y r z=>by subst z;rw[r]at mu;exact mu
 have ntup:∀ c xs,H c=some (.tup xs)->c≠x:=fun c xs r z=>by subst z;rw[r]at mu;exact mu
 by_cases hb:b=x
 ·subst hb;rw[dW]at q;cases q;exact new
 ·rw[d9 hb]at q
  by_cases hbe:b=e
  ·have q':H b=some (.own x):=by
    rcases he with z | z
    ·exact absurd (hbe.trans z) hb
    ·rw[hbe];exact z
   rw[q]at q';cases q'
   obtain⟨v,hv⟩:=heo
   exact⟨v,by rw[hbe];exact hv⟩
  ·refine(ok b u q).vK (fun c v hc r=>k c v ?_ r) (fun c r=>by rw[d9 (nown c b r)];exact r) fun c xs r=>by rw[d9 (ntup c xs r)];exact r
   rcases hc with rfl | hc
   ·exact hbe
   ·rintro rfl
    rcases he with z | z
    ·exact nown c b hc z
    ·rw[hc]at z;cases z;exact hb rfl
end
structure Un (fs ex:List Addr)(H H':Hp)(h h':Heap):Prop where
 keep:∀ b o,h.get? b=some o->H b=none->b∉fs->b∉ex->h'.get? b=some o
 slot:∀ b o,h.get? b=some o->H b=none->b∈fs->b∉ex->∃ sl,h'.get? b=some { o with slots:=sl}
 free:∀ b o,h.get? b=some o->H b=none->b∉ex->H' b=none
 there:∀ b o,h.get? b=some o->b∉ex->∃ o',h'.get? b=some o'
 oZ:∀ b xs,H b=some (.tup xs)->H' b=some (.tup xs)
 oM:∀ b o u,H b=some (.ly o u)->H' b=some (.ly o u)
 o4:∀ b ps,H b=some (.tbl ps)->∃ more,H' b=some (.tbl (ps++more))
section
variable {fs fs' ex ex':List Addr}{H H1 H2:Hp}{h h1 h2 h':Heap}{a x e:Addr}{o:HO}
def Un.any (u:Un fs ex H H1 h h1){b:Addr}{ob:Obj}(q:h.get? b=some ob)(n:H b=none)(hx:b∉ex):∃ sl,h1.get? b=some { ob with slots:=sl}:=by
 by_cases hb:b∈fs
 ·exact u.slot b ob q n hb hx
 ·exact⟨ob.slots,u.keep b ob q n hb hx⟩
def Un.trans (a:Un fs ex H H1 h h1)(b:Un fs ex H1 H2 h1 h2):Un fs ex H H2 h h2 where
 keep:=fun c ob q n hc hx=>b.keep c ob (a.keep c ob q n hc hx) (a.free c ob q n hx) hc hx
 slot:=fun c ob q n hc hx=>by
  obtain⟨sl,e1⟩:=a.slot c ob q n hc hx
  obtain⟨sl',e2⟩:=b.slot c _ e1 (a.free c ob q n hx) hc hx
  exact⟨sl',e2⟩
 free:=fun c ob q n hx=>by
  obtain⟨o',e1⟩:=a.there c ob q hx
  exact b.free c o' e1 (a.free c ob q n hx) hx
 there:=fun c ob q hx=>by
  obtain⟨o',e1⟩:=a.there c ob q hx
  exact b.there c o' e1 hx
 oZ:=fun c xs q=>b.oZ c xs (a.oZ c xs q)
 oM:=fun c ob xs q=>b.oM c ob xs (a.oM c ob xs q)
 o4:=fun c ps q=>by
  obtain⟨m1,e1⟩:=a.o4 c ps q
  obtain⟨m2,e2⟩:=b.o4 c _ e1
  exact⟨m1++m2,by rw[e2,Array.append_assoc]⟩
def Un.dj (k:∀ b u,h.get? b=some u->h'.get? b=some u):Un fs ex H H h h' :=
 ⟨fun b ob q _ _ _=>k b ob q,fun b ob q _ _ _=>⟨ob.slots,k b ob q⟩,fun _ _ _ n _=>n,fun b ob q _=>⟨ob,k b ob q⟩,fun _ _ q=>q,fun _ _ _ q=>q,fun _ ps q=>⟨#[],by rw[q];simp⟩⟩
def Un.refl:Un fs ex H H h h:=Un.dj fun _ _ q=>q
def Un.laid (k:∀ b u,h.get? b=some u->h'.get? b=some u)(hp:h.objs.size<=a)(hn:H a=none):Un fs ex H (upd H a o) h h' where
 keep:=fun b u q _ _ _=>k b u q
 slot:=fun b u q _ _ _=>⟨u.slots,k b u q⟩
 free:=fun b u q n _=>by rw[d9 (aF (aw (jK q) hp))];exact n
 there:=fun b u q _=>⟨u,k b u q⟩
 oZ:=fun b xs q=>by rw[d9 (eY q hn)];exact q
 oM:=fun b u xs q=>by rw[d9 (eY q hn)];exact q
 o4:=fun b ps q=>⟨#[],by rw[d9 (eY q hn),q];simp⟩
def Un.write (mu:Mut (H x))(he:e=x\/H e=some (.own x))(k:∀ b u,b≠e->h.get? b=some u->h'.get? b=some u)(heo:∃ u,h'.get? e=some u):Un fs ex H (upd H x o) h h':=by
 have hx:∀ b,H b=none->b≠x:=fun b n z=>by subst z;rw[n]at mu;exact mu
 have hb:∀ b,H b=none->b≠e:=fun b n z=>by
  subst z
  rcases he with r | r
  ·exact hx b n r
  ·rw[n]at r;cases r
 have hm:∀ b u,H b=some u->¬ Mut (some u)->b≠x:=fun b u q nm z=>by subst z;rw[q]at mu;exact nm mu
 refine⟨fun b u q n _ _=>k b u (hb b n) q,fun b u q n _ _=>⟨u.slots,k b u (hb b n) q⟩,fun b u q n _=>by rw[d9 (hx b n)];exact n,fun b u q _=>?_,
  fun b xs q=>by rw[d9 (hm b _ q fun z=>z)];exact q,fun b u xs q=>by rw[d9 (hm b _ q fun z=>z)];exact q,fun b ps q=>⟨#[],by rw[d9 (hm b _ q fun z=>z),q];simp⟩⟩
 by_cases hbe:b=e
 ·subst hbe;exact heo
 ·exact⟨u,k b u hbe q⟩
def Un.mono (u:Un fs ex H H1 h h1)(hs:∀ b∈fs,b∈fs')(hx:∀ b∈ex,b∈ex'):Un fs' ex' H H1 h h1 :=
 ⟨fun b ob q n hb he=>u.keep b ob q n (fun z=>hb (hs b z)) fun z=>he (hx b z),fun _ _ q n _ he=>u.any q n fun z=>he (hx _ z),fun b ob q n he=>u.free b ob q n fun z=>he (hx b z),fun b ob q he=>u.there b ob q fun z=>he (hx b z),u.oZ,u.oM,u.o4⟩
end
def trk (h:Heap)(H:Hp):List Addr:=(List.range h.objs.size).filter fun a=>(H a).isSome
def Aj (h:Heap)(H:Hp):Heap:=W.hideAll h (trk h H)
def hidT_size (h:Heap)(H:Hp):(Aj h H).objs.size=h.objs.size:=W.hideAll_size _ _
def hidT_get {h:Heap}{H:Hp}{b:Addr}{o:Obj}(e:h.get? b=some o)(n:H b=none):(Aj h H).get? b=some o :=
 W.hideAll_get _ e fun hm=>by
  have q:(H b).isSome=true:=(List.mem_filter.mp hm).2
  rw[n]at q;simp at q
def of_hidT {h:Heap}{H:Hp}{b:Addr}{o:Obj}(e:(Aj h H).get? b=some o):h.get? b=some o/\H b=none:=by
 have e':h.get? b=some o:=W.of_hideAll (trk h H) e
 refine⟨e',?_⟩
 cases q:H b with
 | none=>rfl
 | some x =>
  have hm:b∈trk h H:=List.mem_filter.mpr ⟨List.mem_range.mpr (jK e'),by simp[q]⟩
  have z:(Aj h H).get? b=none:=W.hideAll_none (trk h H) hm
  rw[z]at e;cases e
def allNews (g h:Heap)(L:Addr):List (Addr×Obj):=(List.range h.objs.size).filterMap fun a=>if a=L\/(g.get? a).isSome=true then none else(h.get? a).map fun o=>(a,o)
def rest (g h:Heap)(L d:Addr):List (Addr×Obj):=(allNews g h L).filter fun p=>decide (p.1≠d)
structure Mod (K:aa)(mg:Str->Option Value)(dh:Heap):Prop where
 kin:K.In dh
 glob:dh.Ns mainGlobals mg
 blt:∃ mb,dh.Ns builtinsNs mb/\∀ x:Str,x ≠ "__name__"->mb x=bootBuiltins x
 nolimit:dh.NoLimit
structure Cx where
 prog:ae
 w:af
 K:aa
 mg:Str->Option Value
 dh:Heap
 A:Around
 N:List Str
 s₀:Shared
 H₀:Hp
 env:Env
 dA:List Env
 stack:List Env
 ex:List Addr
 fn:Str->Bool
 calm:Bool
 pn:List (Addr×Obj)
 xe:Value->Shared->Prop
def x9 (l:List Env):List Addr:=l.filterMap (·.frame)
abbrev Cx.fs (X:Cx):List Addr:=x9 X.dA
def Vis (sc:Scope)(x:Str):Prop:=sc.names.lookup x=some .local\/sc.names.lookup x=some .cell\/sc.names.lookup x=some .free
def Loc (sc:Scope)(x:Str):Prop:=sc.names.lookup x=some .local\/sc.names.lookup x=some .cell
def Look (env:Env)(h:Heap)(m:Str->Option Value)(x:Str)(u:Value):Prop :=
 (env.kindOf x=some .local/\m x=some u)\/((env.kindOf x=some .cell\/env.kindOf x=some .free)/\∃ c,env.cells.lookup x=some c/\h.IsCell c (some u))
structure Cx.Ok (X:Cx):Prop where
 mod:Mod X.K X.mg X.dh
 kind:X.env.scope.kind=.function
 glob:X.env.globals=mainGlobals
 blt:X.env.builtins=builtinsNs
 above:X.s₀.heap.objs.size<=X.env.locals
 inj:∀ x y c,X.env.cells.lookup x=some c->X.env.cells.lookup y=some c->x=y
 has:∀ x,(X.env.kindOf x=some .cell\/X.env.kindOf x=some .free)->∃ c,X.env.cells.lookup x=some c
 cab:∀ x c,X.fn x=true->X.env.cells.lookup x=some c->X.s₀.heap.objs.size<=c
 hd:X.calm=true->X.A.handled=none
 frames:X.A.frames=some X.stack
 stk:X.stack=X.dA\/(X.stack=X.env::X.dA/\X.env.frame=some X.env.locals)
 exf:∀ b∈X.ex,b≠X.env.locals/\∀ x c,X.env.cells.lookup x=some c->c≠b
 bs:∀ b o,X.dh.get? b=some o->X.s₀.heap.get? b=some o/\X.H₀ b=none
 Ex:X.dh.objs.size<=X.s₀.heap.objs.size
 BO:∀ b o,X.dh.get? b=some o->b∉X.ex
 Co:∀ b∈X.ex,b∉X.fs
 qt:X.s₀.heap.FunFrames X.dh X.dA
 frf:∀ b∈X.fs,X.H₀ b=none
structure Inv (X:Cx)(dg:List (Addr×Obj))(σ:List (Option V))(H:Hp)(s:Shared):Prop where
 ok:X.Ok
 os:s.os=X.s₀.os
 bare:AllBare s.gens
 dh:Un X.fs X.ex X.H₀ H X.s₀.heap s.heap
 loc:∃ m,s.heap.Ns X.env.locals m/\∀(i:Nat) (x:Str) (v:V),X.N[i]?=some x->σ[i]?=some (some v)->Vis X.env.scope x->∃ u,eP v u/\Look X.env s.heap m x u
 cell:∀ x c,X.env.cells.lookup x=some c->∃ v,s.heap.IsCell c v
 free:H X.env.locals=none
 jP:∀ x c,X.env.cells.lookup x=some c->H c=none
 pin:∀ p∈X.pn++dg,s.heap.get? p.1=some p.2/\H p.1=none/\p.1≠X.env.locals/\p.1∉X.fs/\∀ v,p.2.data≠.cell v
 eE:ot X.prog X.w H s.heap
 len:σ.length=X.N.length
section
variable {X:Cx}{dg:List (Addr×Obj)}{σ:List (Option V)}{H H':Hp}{s:Shared}{h':Heap}
def Cx.Ok.nofr (ok:X.Ok){b:Addr}{o:Obj}(e:X.dh.get? b=some o):b∉X.fs:=fun hb=>by
 have:=(ok.qt.mem hb).1
 rw[e]at this;cases this
def Inv.bs (I:Inv X dg σ H s):∀ b o,X.dh.get? b=some o->s.heap.get? b=some o/\H b=none:=fun b o e =>
 ⟨I.dh.keep b o (I.ok.bs b o e).1 (I.ok.bs b o e).2 (I.ok.nofr e) (I.ok.BO b o e),I.dh.free b o (I.ok.bs b o e).1 (I.ok.bs b o e).2 (I.ok.BO b o e)⟩
def Inv.bk (I:Inv X dg σ H s):∀ b o,X.dh.get? b=some o->s.heap.get? b=some o:=fun b o e=>(I.bs b o e).1
def Inv.mod (I:Inv X dg σ H s):Mod X.K X.mg X.dh:=I.ok.mod
def Inv.qw (I:Inv X dg σ H s):X.K.In s.heap:=I.ok.mod.kin.keeps I.bk
def Inv.fr (I:Inv X dg σ H s):∃ m,Fr X.dh X.env.locals s.heap m :=
 let ⟨m,hn,_⟩:=I.loc
 ⟨m,hn,I.bk,az I.ok.Ex I.ok.above⟩
def Inv.lt (I:Inv X dg σ H s):X.env.locals<s.heap.objs.size:=let ⟨_,hn,_⟩:=I.loc;hn.lt
def Inv.sz (I:Inv X dg σ H s):X.s₀.heap.objs.size<=s.heap.objs.size:=az I.ok.above (Nat.le_of_lt I.lt)
def Inv.nofs (I:Inv X dg σ H s){a:Addr}(h:s.heap.objs.size<=a):a∉X.fs:=fun hb=>by
 obtain⟨_,o,ho,_⟩:=I.ok.qt.mem hb
 exact absurd (aw (jK ho) (az I.sz h)) (bw _)
def Inv.cne (I:Inv X dg σ H s):∀ x c,X.env.cells.lookup x=some c->c≠X.env.locals:=fun x c e z=>by
 obtain⟨v,o,ho,hd⟩:=I.cell x c e
 obtain⟨m,⟨o',es,ep,wM,hd',_⟩,_⟩:=I.loc
 rw[z,wM]at ho;cases ho;rw[hd']at hd;cases hd
def Inv.qt (I:Inv X dg σ H s):s.heap.FunFrames X.dh X.dA:=by
 have all:∀(l:List Env),(∀ b∈x9 l,b∈X.fs)->X.s₀.heap.FunFrames X.dh l->s.heap.FunFrames X.dh l:=by
  intro l
  induction l with
  | nil=>intro _ _;trivial
  | cons env r ih =>
   intro hs hl
   obtain⟨hk,⟨L,o,hf,hn,ho,hd⟩,hr⟩:=hl
   have hL:L∈X.fs:=hs L (by unfold x9;rw[bM,hf];exact aC)
   obtain⟨sl,e⟩:=I.dh.slot L o ho (I.ok.frf L hL) hL fun z=>I.ok.Co L z hL
   exact⟨hk,⟨L,_,hf,hn,e,hd⟩,ih (fun b hb=>hs b (by unfold x9;rw[bM,hf];exact nV _ hb)) hr⟩
 exact all X.dA (fun _ hb=>hb) I.ok.qt
def Inv.stack (I:Inv X dg σ H s):s.heap.FunFrames X.dh X.stack:=by
 rcases I.ok.stk with e | ⟨e,hf⟩
 ·rw[e];exact I.qt
 ·rw[e]
  obtain⟨m,hn,_⟩:=I.loc
  refine .cons (by rw[I.ok.kind];decide) hf hn ?_ I.qt
  exact Heap.get?_none_of_le (az I.ok.Ex I.ok.above)
def Inv.vJ (I:Inv X dg σ H s):∀ b∈x9 X.stack,b∈X.env.locals::X.fs:=fun b hb=>by
 rcases I.ok.stk with e | ⟨e,hf⟩
 ·rw[e]at hb;exact nV _ hb
 ·rw[e]at hb
  unfold x9 at hb
  rw[bM,hf]at hb
  exact hb
def Inv.pZ (I:Inv X dg σ H s):∀ b∈x9 X.stack,H b=none:=fun b hb=>by
 rcases List.mem_cons.mp (I.vJ b hb)with e | hb
 ·rw[e];exact I.free
 ·obtain⟨_,o,ho,_⟩:=I.ok.qt.mem hb
  exact I.dh.free b o ho (I.ok.frf b hb) fun z=>I.ok.Co b z hb
def Inv.step {g':Array GenState}{t':Nat}{d':Drawn}{ch:List Addr}(I:Inv X dg σ H s)
 (hch:∀ b∈ch,(b∈X.ex\/X.s₀.heap.objs.size<=b)/\b≠X.env.locals/\(∀ x c,X.env.cells.lookup x=some c->c≠b)/\∀ p∈X.pn++dg,p.1≠b)
 (keep:∀ b o,b≠X.env.locals->b∉X.fs->b∉ch->s.heap.get? b=some o->H b=none->h'.get? b=some o)
 (slot:∀ b o,b≠X.env.locals->b∈X.fs->b∉ch->s.heap.get? b=some o->H b=none->∃ sl,h'.get? b=some { o with slots:=sl}) (free:∀ b o,b∉ch->s.heap.get? b=some o->H b=none->H' b=none)
 (there:∀ b o,b∉ch->s.heap.get? b=some o->∃ o',h'.get? b=some o')
 (oZ:∀ b xs,H b=some (.tup xs)->H' b=some (.tup xs)) (oM:∀ b o u,H b=some (.ly o u)->H' b=some (.ly o u)) (o4:∀ b ps,H b=some (.tbl ps)->∃ more,H' b=some (.tbl (ps++more)))
 (ns:∀ m,s.heap.Ns X.env.locals m->h'.Ns X.env.locals m) (eE:ot X.prog X.w H' h') (hg:AllBare g') :
 Inv X dg σ H' { s with heap:=h',gens:=g',drawn:=d',toks:=t'}:=by
 have neL:∀ b o,X.s₀.heap.get? b=some o->b≠X.env.locals:=fun b o e=>aF (aw (jK e) I.ok.above)
 have A9:∀ b o,X.s₀.heap.get? b=some o->b∉X.ex->b∉ch:=fun b o e hx hb=>by
  rcases(hch b hb).1 with z | z
  ·exact hx z
  ·exact absurd (aw (jK e) z) (bw _)
 have cellK:∀ x c,X.env.cells.lookup x=some c->∀ v,s.heap.IsCell c v->h'.IsCell c v:=fun x c e v ⟨o,ho,hd⟩=>by
  have nch:c∉ch:=fun z=>(hch c z).2.2.1 x c e rfl
  by_cases hc:c∈X.fs
  ·obtain⟨sl,q⟩:=slot c o (I.cne x c e) hc nch ho (I.jP x c e)
   exact⟨_,q,hd⟩
  ·exact⟨o,keep c o (I.cne x c e) hc nch ho (I.jP x c e),hd⟩
 refine⟨I.ok,I.os,hg,⟨fun b o e n hb hx=>?_,fun b o e n hb hx=>?_,fun b o e n hx=>?_,fun b o e hx=>?_,fun b xs e=>oZ b xs (I.dh.oZ b xs e),fun b o xs e=>oM b o xs (I.dh.oM b o xs e),fun b ps e=>?_⟩,?_,fun x c e=>?_,?_,fun x c e=>?_,fun p hp=>?_,eE,I.len⟩
 ·exact keep b o (neL b o e) hb (A9 b o e hx) (I.dh.keep b o e n hb hx) (I.dh.free b o e n hx)
 ·obtain⟨sl,e1⟩:=I.dh.slot b o e n hb hx
  obtain⟨sl',e2⟩:=slot b _ (neL b o e) hb (A9 b o e hx) e1 (I.dh.free b o e n hx)
  exact⟨sl',e2⟩
 ·obtain⟨o',e1⟩:=I.dh.there b o e hx
  exact free b o' (A9 b o e hx) e1 (I.dh.free b o e n hx)
 ·obtain⟨o',e1⟩:=I.dh.there b o e hx
  exact there b o' (A9 b o e hx) e1
 ·obtain⟨m1,e1⟩:=I.dh.o4 b ps e
  obtain⟨m2,e2⟩:=o4 b _ e1
  exact⟨m1++m2,by rw[e2,Array.append_assoc]⟩
 ·obtain⟨m,hn,hl⟩:=I.loc
  refine⟨m,ns m hn,fun i x v e1 e2 e3=>?_⟩
  obtain⟨u,r,l⟩:=hl i x v e1 e2 e3
  refine⟨u,r,?_⟩
  rcases l with l | ⟨k,c,e,z⟩
  ·exact .inl l
  ·exact .inr ⟨k,c,e,cellK x c e _ z⟩
 ·obtain⟨v,z⟩:=I.cell x c e
  exact⟨v,cellK x c e v z⟩
 ·obtain⟨m,⟨o,_,_,ho,_⟩,_⟩:=I.loc
  exact free _ o (fun z=>(hch _ z).2.1 rfl) ho I.free
 ·obtain⟨v,o,ho,hd⟩:=I.cell x c e
  exact free c o (fun z=>(hch c z).2.2.1 x c e rfl) ho (I.jP x c e)
 ·obtain⟨e,n,ne,nf,d⟩:=I.pin p hp
  have nch:p.1∉ch:=fun z=>(hch p.1 z).2.2.2 p hp rfl
  exact⟨keep p.1 p.2 ne nf nch e n,free p.1 p.2 nch e n,ne,nf,d⟩
def Inv.un {t':Nat}(I:Inv X dg σ H s)(u:Un X.fs [] H H' s.heap h')(eE:ot X.prog X.w H' h'):Inv X dg σ H' { s with heap:=h',toks:=t'}:=by
 obtain⟨m,⟨o,es,ep,ho,r⟩,_⟩:=id I.loc
 obtain⟨sl,hL⟩:=u.any ho I.free (by simp)
 exact I.step (g':=s.gens) (d':=s.drawn) (ch:=[]) (fun _ z=>nomatch z) (fun b o _ hb _ e n=>u.keep b o e n hb (by simp)) (fun b o _ hb _ e n=>u.slot b o e n hb (by simp)) (fun b o _ e n=>u.free b o e n (by simp)) (fun b o _ e=>u.there b o e (by simp)) u.oZ u.oM u.o4 (fun m' hm=>by
  obtain⟨o',vz,ep',wM,r'⟩:=hm
  rw[ho]at wM;cases wM
  exact⟨_,vz,ep',hL,r'⟩) eE I.bare
def Inv.call {g':Array GenState}{t':Nat}{d':Drawn}{ch:List Addr}(I:Inv X dg σ H s)(u:Un (x9 X.stack) ch H H' s.heap h')(eE:ot X.prog X.w H' h')(hg:AllBare g')
 (hch:∀ b∈ch,(b∈X.ex\/X.s₀.heap.objs.size<=b)/\b≠X.env.locals/\(∀ x c,X.env.cells.lookup x=some c->c≠b)/\∀ p∈X.pn++dg,p.1≠b) :
 Inv X dg σ H' { s with heap:=h',gens:=g',drawn:=d',toks:=t'}:=by
 obtain⟨m,⟨o,es,ep,ho,r⟩,_⟩:=id I.loc
 obtain⟨sl,hL⟩:=u.any ho I.free fun z=>(hch _ z).2.1 rfl
 exact I.step (ch:=ch) hch (fun b o hL hb hc e n=>u.keep b o e n (fun z=>(List.mem_cons.mp (I.vJ b z)).elim hL hb) hc) (fun b o _ _ hc e n=>u.any e n hc) (fun b o hc e n=>u.free b o e n hc) (fun b o hc e=>u.there b o e hc) u.oZ u.oM u.o4 (fun m' hm=>by
  obtain⟨o',vz,ep',wM,r'⟩:=hm
  rw[ho]at wM;cases wM
  exact⟨_,vz,ep',hL,r'⟩) eE hg
def Inv.turned {t':Nat}{it:Addr}(I:Inv X dg σ H s)(k:∀ b o,b≠it->s.heap.get? b=some o->h'.get? b=some o)(hn:H it=none)(hL:it≠X.env.locals)
 (h1:it∈X.ex\/X.s₀.heap.objs.size<=it) (h2:∀ x c,X.env.cells.lookup x=some c->c≠it) (h3:∀ p∈X.pn++dg,p.1≠it):Inv X dg σ H { s with heap:=h',toks:=t'}:=by
 have nit:∀ b u,H b=some u->b≠it:=fun b u e z=>by rw[z,hn]at e;cases e
 refine I.step (g':=s.gens) (d':=s.drawn) (ch:=[it]) (fun b hb=>?_) (fun b o _ _ hc e _=>k b o (fun z=>hc (by simp[z])) e) (fun b o _ _ hc e _=>⟨o.slots,k b o (fun z=>hc (by simp[z])) e⟩) (fun _ _ _ _ n=>n)
  (fun b o hc e=>⟨o,k b o (fun z=>hc (by simp[z])) e⟩) (fun _ _ e=>e) (fun _ _ _ e=>e) (fun b ps e=>⟨#[],by rw[e];simp⟩) (fun m hm=>?_) (fun b u e=>?_) I.bare
 ·have e:b=it:=by simpa using hb
  subst e
  exact⟨h1,hL,h2,h3⟩
 ·obtain⟨o,es,ep,ho,r⟩:=hm
  exact⟨o,es,ep,k _ o (bf hL) ho,r⟩
 ·refine(I.eE b u e).vK (fun c v hc q=>k c v ?_ q) (fun _ q=>q) fun _ _ q=>q
  rcases hc with z | z
  ·rw[z];exact nit b u e
  ·exact nit c _ z
def Inv.tok (I:Inv X dg σ H s)(t:Nat):Inv X dg σ H { s with toks:=t}:=I.un (h':=s.heap) (t':=t) Un.refl I.eE
def Inv.dj {t':Nat}(I:Inv X dg σ H s)(k:∀ b u,s.heap.get? b=some u->h'.get? b=some u):Inv X dg σ H { s with heap:=h',toks:=t'}:=I.un (Un.dj k) (I.eE.dj k)
def Inv.laid {a:Addr}{o:HO}{t':Nat}(I:Inv X dg σ H s)(k:∀ b u,s.heap.get? b=some u->h'.get? b=some u)(hp:s.heap.objs.size<=a)(new:fJ X.prog X.w (upd H a o) h' a o) :
 Inv X dg σ (upd H a o) { s with heap:=h',toks:=t'}:=I.un (Un.laid k hp (I.eE.fresh hp)) (I.eE.laid k hp new)
def Inv.write {x e:Addr}{o:HO}{t':Nat}(I:Inv X dg σ H s)(mu:Mut (H x))(he:e=x\/H e=some (.own x))(k:∀ b u,b≠e->s.heap.get? b=some u->h'.get? b=some u)(heo:∃ u,h'.get? e=some u)
 (new:fJ X.prog X.w (upd H x o) h' x o):Inv X dg σ (upd H x o) { s with heap:=h',toks:=t'}:=I.un (Un.write mu he k heo) (I.eE.write mu he k heo new)
def Inv.weak {gd:List (Option V)}(I:Inv X dg σ H s)(hl:gd.length=σ.length)(w:∀(i:Nat) v,gd[i]?=some (some v)->σ[i]?=some (some v)):Inv X dg gd H s :=
 ⟨I.ok,I.os,I.bare,I.dh,let ⟨m,hn,hl'⟩:=I.loc;⟨m,hn,fun i x v e1 e2 e3=>hl' i x v e1 (w i v e2) e3⟩,I.cell,I.free,I.jP,I.pin,I.eE,hl.trans I.len⟩
def Inv.nO {pins':List (Addr×Obj)}(I:Inv X dg σ H s)(h:∀ p∈pins',s.heap.get? p.1=some p.2/\H p.1=none/\p.1≠X.env.locals/\p.1∉X.fs/\∀ v,p.2.data≠.cell v):Inv X pins' σ H s :=
 ⟨I.ok,I.os,I.bare,I.dh,I.loc,I.cell,I.free,I.jP,fun p hp=>(List.mem_append.mp hp).elim (fun z=>I.pin p (bU _ z)) (h p),I.eE,I.len⟩
def BP {N:List Str}(hN:N.Nodup){i j:Nat}{x:Str}(a:N[i]?=some x)(b:N[j]?=some x):i=j:=by
 obtain⟨h1,e1⟩:=lK a
 obtain⟨h2,e2⟩:=lK b
 exact(List.getElem_inj hN).mp (e1.trans e2.symm)
def ym {M:Model}{A:Around}{E:Value->Shared->Prop}{i:Nat}{x:Str}{v:V}{u:Value}{Q:Unit->Shared->Prop}(I:Inv X dg σ H s)(hN:X.N.Nodup)(hi:X.N[i]?=some x)(hx:Loc X.env.scope x)(r:eP v u)
 (h:∀ s',Inv X dg (σ.set i (some v)) H s'->(∃ a,Heap.SameBut a s.heap s'.heap/\(a=X.env.locals\/X.env.cells.lookup x=some a))->Q () s') (hf:X.fn x=true\/X.env.scope.names.lookup x=some .local:=by first | exact .inl rfl | exact .inr rfl | assumption):wpAny M A (storeName X.env x u) Q E s:=by
 obtain⟨m,hn,hl⟩:=id I.loc
 have hcls:(X.env.scope.kind==.class||(X.env.scope.kind==.module&&X.env.locals != X.env.globals))=false:=by rw[I.ok.kind];rfl
 have hiσ:i<σ.length:=by rw[I.len];exact(lK hi).1
 have cne:=I.cne
 have tracked:∀ {a:Addr} {h':Heap},(∃ o,s.heap.get? a=some o/\H a=none)->Heap.SameBut a s.heap h'->ot X.prog X.w H h':=fun {a h'} ha hs b ob e=>by
  obtain⟨_,_,hfree⟩:=ha
  refine(I.eE b ob e).vK (fun c w' hc q=>(hs.2 c ?_).trans q) (fun _ q=>q) fun _ _ q=>q
  rintro rfl
  rcases hc with rfl | hc
  ·rw[hfree]at e;cases e
  ·rw[hfree]at hc;cases hc
 rcases hx with hk | hk
 ·refine wpAny_storeName_local hk hn (fun h' hn' hs=>?_) hcls
  obtain⟨oL,_,_,hoL,_⟩:=id hn
  refine h _ ⟨I.ok,I.os,I.bare,⟨fun b o e n hb hx=>?_,fun b o e n hb hx=>?_,I.dh.free,fun b o e hx=>?_,I.dh.oZ,I.dh.oM,I.dh.o4⟩,⟨_,hn',fun j y v' e1 e2 e3=>?_⟩,fun y c e=>?_,I.free,I.jP,fun p hp=>?_,tracked ⟨oL,hoL,I.free⟩ hs,by simpa using I.len⟩ ⟨_,hs,.inl rfl⟩
  ·exact(hs.2 b (aF (aw (jK e) I.ok.above))).trans (I.dh.keep b o e n hb hx)
  ·obtain⟨sl,e1⟩:=I.dh.slot b o e n hb hx
   exact⟨sl,(hs.2 b (aF (aw (jK e) I.ok.above))).trans e1⟩
  ·obtain⟨o',e1⟩:=I.dh.there b o e hx
   exact⟨o',(hs.2 b (aF (aw (jK e) I.ok.above))).trans e1⟩
  ·by_cases hj:j=i
   ·subst hj
    rw[hi]at e1;cases e1
    rw[aD hiσ]at e2
    cases e2
    exact⟨u,r,.inl ⟨hk,by simp⟩⟩
   ·rw[av (bf hj)]at e2
    obtain⟨u',r',q⟩:=hl j y v' e1 e2 e3
    refine⟨u',r',?_⟩
    rcases q with⟨k,e⟩ | ⟨k,c,e,z⟩
    ·refine .inl ⟨k,?_⟩
     have:y≠x:=fun e=>hj (BP hN e1 (e▸hi))
     simp[this,e]
    ·exact .inr ⟨k,c,e,z.sameBut hs (cne y c e)⟩
  ·obtain⟨w',z⟩:=I.cell y c e
   exact⟨w',z.sameBut hs (cne y c e)⟩
  ·obtain⟨e,n,ne,nf,d⟩:=I.pin p hp
   exact⟨(hs.2 p.1 ne).trans e,n,ne,nf,d⟩
 ·have hfn:X.fn x=true:=by
   rcases hf with z | z
   ·exact z
   ·rw[z]at hk;cases hk
  obtain⟨c,hc⟩:=I.ok.has x (.inl hk)
  obtain⟨w',z⟩:=I.cell x c hc
  refine wpAny_storeName_cell I.ok.kind hk hc z (fun h' tM hs=>?_)
  obtain⟨oc,hoc,hocd⟩:=id z
  refine h { s with heap:=h'} ⟨I.ok,I.os,I.bare,⟨fun b o e n hb hx=>?_,fun b o e n hb hx=>?_,I.dh.free,fun b o e hx=>?_,I.dh.oZ,I.dh.oM,I.dh.o4⟩,⟨m,hn.sameBut hs (bf (cne x c hc)),fun j y v' e1 e2 e3=>?_⟩,fun y c' e=>?_,I.free,I.jP,fun p hp=>?_,tracked ⟨oc,hoc,I.jP x c hc⟩ hs,by simpa using I.len⟩ ⟨c,hs,.inr hc⟩
  ·exact(hs.2 b (aF (aw (jK e) (I.ok.cab x c hfn hc)))).trans (I.dh.keep b o e n hb hx)
  ·obtain⟨sl,e1⟩:=I.dh.slot b o e n hb hx
   exact⟨sl,(hs.2 b (aF (aw (jK e) (I.ok.cab x c hfn hc)))).trans e1⟩
  ·obtain⟨o',e1⟩:=I.dh.there b o e hx
   exact⟨o',(hs.2 b (aF (aw (jK e) (I.ok.cab x c hfn hc)))).trans e1⟩
  ·by_cases hj:j=i
   ·subst hj
    rw[hi]at e1;cases e1
    rw[aD hiσ]at e2
    cases e2
    exact⟨u,r,.inr ⟨.inl hk,c,hc,tM⟩⟩
   ·rw[av (bf hj)]at e2
    obtain⟨u',r',q⟩:=hl j y v' e1 e2 e3
    refine⟨u',r',?_⟩
    rcases q with q | ⟨k,c',e,z'⟩
    ·exact .inl q
    ·refine .inr ⟨k,c',e,z'.sameBut hs ?_⟩
     rintro rfl
     exact hj (BP hN e1 (I.ok.inj _ _ _ e hc▸hi))
  ·by_cases hcc:c'=c
   ·subst hcc;exact⟨_,tM⟩
   ·obtain⟨w2,z2⟩:=I.cell y c' e
    exact⟨w2,z2.sameBut hs hcc⟩
  ·obtain⟨e,n,ne,nf,d⟩:=I.pin p hp
   refine⟨(hs.2 p.1 ?_).trans e,n,ne,nf,d⟩
   intro q
   rw[q,hoc]at e
   have q':oc=p.2:=aN e
   exact d w' (by rw[<- q'];exact hocd)
def lh {M:Model}{A:Around}{E:Value->Shared->Prop}{i:Nat}{x:Str}{v:V}{u:Value}{Q:Unit->Shared->Prop}(I:Inv X dg σ H s)(hN:X.N.Nodup)(hi:X.N[i]?=some x)(hx:Loc X.env.scope x)(r:eP v u)
 (h:∀ s',Inv X dg (σ.set i (some v)) H s'->Q () s') (hf:X.fn x=true\/X.env.scope.names.lookup x=some .local:=by first | exact .inl rfl | exact .inr rfl | assumption):wpAny M A (storeName X.env x u) Q E s :=
 ym I hN hi hx r (fun s' I' _=>h s' I') hf
def Inv.yK {s':Shared}{ch:List Addr}(I:Inv X dg σ H s)(ho:s'.os=s.os)(u:Un (x9 X.stack) ch H H' s.heap s'.heap)(eE:ot X.prog X.w H' s'.heap)(hg:AllBare s'.gens)
 (hch:∀ b∈ch,(b∈X.ex\/X.s₀.heap.objs.size<=b)/\b≠X.env.locals/\(∀ x c,X.env.cells.lookup x=some c->c≠b)/\∀ p∈X.pn++dg,p.1≠b):Inv X dg σ H' s':=by
 obtain⟨h',g',d',t',o'⟩:=s'
 have e:o'=s.os:=ho
 subst e
 exact I.call (g':=g') (t':=t') (d':=d') u eE hg hch
end
abbrev XK:=Value->Option Addr->Hp->Prop
abbrev St:=List (Option V)
abbrev VK:=V->Hp->Prop
abbrev TE:=St->Hp->VK->Prop
abbrev TT:=St->Hp->(Bool->Hp->Prop)->Prop
abbrev TA:=St->Hp->(List V->Hp->Prop)->Prop
structure Ends where
 nx:St->Hp->Prop
 rt:VK
 bk:St->Hp->Prop:=fun _ _=>False
 ct:St->Hp->Prop:=fun _ _=>False
abbrev TS:=Ends->St->Hp->Prop
def EP (X:Cx)(dg:List (Addr×Obj))(σ:St)(Q:VK)(u:Value)(s':Shared):Prop:=∃ v H',Inv X dg σ H' s'/\eP v u/\Q v H'
def TP (X:Cx)(dg:List (Addr×Obj))(σ:St)(Q:Bool->Hp->Prop)(b:Bool)(s':Shared):Prop:=∃ H',Inv X dg σ H' s'/\Q b H'
def AP (X:Cx)(dg:List (Addr×Obj))(σ:St)(Q:List V->Hp->Prop)(us:List Value)(s':Shared):Prop:=∃ vs H',Inv X dg σ H' s'/\eX vs us/\Q vs H'
def SP (X:Cx)(dg:List (Addr×Obj))(D:Ends)(f:Flow)(s':Shared):Prop :=
 match f with
 | .next=>∃ gd H',Inv X dg gd H' s'/\D.nx gd H'
 | .brk=>∃ gd H',Inv X dg gd H' s'/\D.bk gd H'
 | .cont=>∃ gd H',Inv X dg gd H' s'/\D.ct gd H'
 | .ret u=>∃ v gd H',Inv X dg gd H' s'/\eP v u/\D.rt v H'
def PE (X:Cx)(e:Expr)(t:TE):Prop :=
 ∀(dg:List (Addr×Obj)) (s:Shared) (σ:St) (H:Hp) (Q:VK),Inv X dg σ H s->t σ H Q->wpAny (model X.prog X.w) X.A (eval e X.env) (EP X dg σ Q) X.xe s
def PT (X:Cx)(e:Expr)(t:TT):Prop :=
 ∀(dg:List (Addr×Obj)) (s:Shared) (σ:St) (H:Hp) (Q:Bool->Hp->Prop),Inv X dg σ H s->t σ H Q->wpAny (model X.prog X.w) X.A (isTrue e X.env (eval e X.env)) (TP X dg σ Q) X.xe s
def PW (X:Cx)(e:Expr)(t:TT):Prop :=
 ∀(whole:Sem Value) (dg:List (Addr×Obj)) (s:Shared) (σ:St) (H:Hp) (Q:Bool->Hp->Prop),Inv X dg σ H s->t σ H Q->wpAny (model X.prog X.w) X.A (isTrue e X.env whole) (TP X dg σ Q) X.xe s
def PW.pt {X:Cx}{e:Expr}{t:TT}(h:PW X e t):PT X e t:=h _
def PA (X:Cx)(es:List Expr)(t:TA):Prop :=
 ∀(pos:Pos) (dg:List (Addr×Obj)) (s:Shared) (σ:St) (H:Hp) (Q:List V->Hp->Prop),Inv X dg σ H s->t σ H Q->wpAny (model X.prog X.w) X.A (spliced (backTo pos (starEach es X.env))) (AP X dg σ Q) X.xe s
def PS (X:Cx)(st:Stmt)(t:TS):Prop :=
 ∀(dg:List (Addr×Obj)) (s:Shared) (σ:St) (H:Hp) (D:Ends),Inv X dg σ H s->t D σ H->wpAny (model X.prog X.w) X.A (exec st X.env) (SP X dg D) X.xe s
def AV (X:Cx)(st:List Stmt)(t:TS):Prop :=
 ∀(dg:List (Addr×Obj)) (s:Shared) (σ:St) (H:Hp) (D:Ends),Inv X dg σ H s->t D σ H->wpAny (model X.prog X.w) X.A (execs st X.env) (SP X dg D) X.xe s
def fK {α:Type}{t:Sem α}{Q Q':α->Shared->Prop}{M:Model}{A:Around}{E:Value->Shared->Prop}{s:Shared}(h:wpAny M A t Q E s)(hQ:∀ a s,Q a s->Q' a s):wpAny M A t Q' E s:=bg h hQ fun _ _ x=>x
section
variable {X:Cx}
def bin {a b:Expr}{ta tb:TE}(ha:PE X a ta)(hb:PE X b tb){dg:List (Addr×Obj)}{s:Shared}{σ:St}{H:Hp}{R:V->V->Hp->Prop}(I:Inv X dg σ H s)(h:ta σ H fun x H1=>tb σ H1 fun y H2=>R x y H2)
 {α:Type} {Q:α->Shared->Prop} {f:Value->Value->Sem α}
 (hf:∀ v u s2 x y H2,Inv X dg σ H2 s2->eP x v->eP y u->R x y H2->wpAny (model X.prog X.w) X.A (f v u) Q X.xe s2) :
 wpAny (model X.prog X.w) X.A (eval a X.env) (fun v s₁=>wpAny (model X.prog X.w) X.A (eval b X.env) (fun u s₂=>wpAny (model X.prog X.w) X.A (f v u) Q X.xe s₂) X.xe s₁) X.xe s:=by
 refine fK (ha dg s σ H _ I h) fun v s1 qo=>?_
 obtain⟨x,H1,I1,r1,q1⟩:=qo
 refine fK (hb dg s1 σ H1 _ I1 q1) fun u s2 qK=>?_
 obtain⟨y,H2,I2,r2,q2⟩:=qK
 exact hf v u s2 x y H2 I2 r1 r2 q2
def tVar (i:Nat):TE:=fun σ H Q=>∃ v,σ[i]?=some (some v)/\Q v H
def tC (v:V):TE:=fun _ H Q=>Q v H
def zP {i:Nat}{x:Str}{pos:Pos}(hN:X.N[i]?=some x)(hv:Vis X.env.scope x)(hd:(x==("__debug__" : Str))=false:=by decide)(x8:(x==("__classdict__" : Str))=false:=by decide):PE X (.Name x pos) (tVar i):=by
 intro dg s σ H Q I h
 obtain⟨v,e,h⟩:=h
 obtain⟨m,hn,hl⟩:=I.loc
 obtain⟨u,r,l⟩:=hl i x v hN e hv
 have fin:EP X dg σ Q u s:=⟨v,H,I,r,h⟩
 rcases l with⟨hk,hm⟩ | ⟨hk,c,hc,uv⟩
 ·exact wpAny_Name (wpAny_loadName_local I.ok.kind hk hn hm fin) hd
 ·rcases hk with hk | hk
  ·exact wpAny_Name (wpAny_loadName_cell I.ok.kind hk hc uv fin) hd
  ·exact wpAny_Name (wpAny_loadName_free I.ok.kind hk hc uv fin x8) hd
def fM {i j pos}:PE X (.Constant (.int i) j pos) (tC (.int i)):=fun _ _ _ H _ I h=>wpAny_Constant_int ⟨.int i,H,I.tok _,⟨_,rfl⟩,h⟩
def pe_bl {b j pos}:PE X (.Constant (.bool b) j pos) (tC (.bl b)):=fun _ _ _ H _ I h=>Constant_bool ⟨.bl b,H,I,rfl,h⟩
def pe_non {j pos}:PE X (.Constant .none j pos) (tC .fV):=fun _ _ _ H _ I h=>Constant_none ⟨.fV,H,I,rfl,h⟩
def pe_str {x j pos}:PE X (.Constant (.str x) j pos) (tC (.str x)):=fun _ _ _ H _ I h=>Calls.Constant_str ⟨.str x,H,I.tok _,⟨_,rfl⟩,h⟩
def Gl (X:Cx)(x:Str):Prop:=X.env.kindOf x=some .globalImplicit
def nQ {E:Value->Shared->Prop}{dg:List (Addr×Obj)}{s:Shared}{σ:St}{H:Hp}{x:Str}{u:Value}{pos:Pos}{Q:Value->Shared->Prop}(I:Inv X dg σ H s)(hg:Gl X x)(hm:X.mg x=some u)(h:Q u s)
 (hd:(x==("__debug__" : Str))=false:=by decide):wpAny (model X.prog X.w) X.A (eval (.Name x pos) X.env) Q E s :=
 Calls.Name_function_global I.ok.kind hg (Calls.loadGlobal_global (by rw[I.ok.glob];exact I.mod.glob.keeps I.bk) hm h) hd
def pA {E:Value->Shared->Prop}{dg:List (Addr×Obj)}{s:Shared}{σ:St}{H:Hp}{x:Str}{u:Value}{pos:Pos}{Q:Value->Shared->Prop}(I:Inv X dg σ H s)(hg:Gl X x)(hm:X.mg x=none)(hv:bootBuiltins x=some u)(h:Q u s)
 (hn:x ≠ "__name__":=by decide) (hd:(x==("__debug__" : Str))=false:=by decide):wpAny (model X.prog X.w) X.A (eval (.Name x pos) X.env) Q E s:=by
 obtain⟨mb,h1,h2⟩:=I.mod.blt
 exact Calls.Name_function_global I.ok.kind hg (Calls.loadGlobal_builtin (by rw[I.ok.glob];exact I.mod.glob.keeps I.bk) hm (by rw[I.ok.blt];exact h1.keeps I.bk) ((h2 x hn).trans hv) h) hd
def Fo {x:Str}{v:V}{u:Value}{pos:Pos}(hg:Gl X x)(hm:X.mg x=some u)(r:eP v u)(hd:(x==("__debug__" : Str))=false:=by decide):PE X (.Name x pos) (tC v) :=
 fun _ _ _ H _ I h=>nQ I hg hm ⟨v,H,I,r,h⟩ hd
def ic {x:Str}{v:V}{u:Value}{pos:Pos}(hg:Gl X x)(hm:X.mg x=none)(hv:bootBuiltins x=some u)(r:eP v u)(hn:x ≠ "__name__":=by decide)(hd:(x==("__debug__" : Str))=false:=by decide):PE X (.Name x pos) (tC v) :=
 fun _ _ _ H _ I h=>pA I hg hm hv ⟨v,H,I,r,h⟩ hn hd
variable {a b:Expr}{ta tb:TE}{pos:Pos}
def PC (X:Cx)(op:CmpOp)(a b:Expr)(t:TE):Prop :=
 ∀(dg:List (Addr×Obj)) (s:Shared) (σ:St) (H:Hp) (Q:VK),Inv X dg σ H s->t σ H Q ->
  wpAny (model X.prog X.w) X.A (eval a X.env) (fun v s₁=>wpAny (model X.prog X.w) X.A (eval b X.env) (fun u s₂=>wpAny (model X.prog X.w) X.A (compareOp op v u) (EP X dg σ Q) X.xe s₂) X.xe s₁) X.xe s
def BQ (b:Expr){op:CmpOp}(h:op≠.In)(h2:op≠.NotIn):behindInMarks op b=false:=by
 have e1:(op==CmpOp.In)=false:=by cases op <;> first | rfl | exact absurd rfl h
 have e2:(op==CmpOp.NotIn)=false:=by cases op <;> first | rfl | exact absurd rfl h2
 cases b <;> simp[behindInMarks,e1,e2]
def tIsN (ta:TE):TE:=fun σ H Q=>ta σ H fun x H1=>Q (.bl (decide (x=.fV))) H1
def tNotN (ta:TE):TE:=fun σ H Q=>ta σ H fun x H1=>Q (.bl (!decide (x=.fV))) H1
def eP.BN {x:V}{v:Value}(r:eP x v):(v==Value.none)=decide (x=.fV):=by
 cases x with
 | fV=>cases r;rfl
 | bl _=>cases r;rfl
 | int _=>obtain⟨t,rfl⟩:=r;rfl
 | str _=>obtain⟨t,rfl⟩:=r;rfl
 | byt _=>obtain⟨t,rfl⟩:=r;rfl
 | flt _=>obtain⟨t,rfl⟩:=r;rfl
 | ref _=>cases r;rfl
 | ty _=>cases r;rfl
def pc_isN {j pos'}(ha:PE X a ta):PC X .Is a (.Constant .none j pos') (tIsN ta):=by
 intro dg s σ H Q I h
 refine fK (ha dg s σ H _ I h) fun v s1 rY=>?_
 obtain⟨x,H1,I1,r1,q1⟩:=rY
 exact Constant_none (is_none_gen ⟨.bl _,H1,I1,by rw[r1.BN];rfl,q1⟩)
def Fs {j pos'}(ha:PE X a ta):PC X .IsNot a (.Constant .none j pos') (tNotN ta):=by
 intro dg s σ H Q I h
 refine fK (ha dg s σ H _ I h) fun v s1 qJ=>?_
 obtain⟨x,H1,I1,r1,q1⟩:=qJ
 exact Constant_none (isnot_none_gen ⟨.bl _,H1,I1,by rw[r1.BN];rfl,q1⟩)
def tB (t:TE):TT:=fun σ H Q=>t σ H fun x H1=>∃ c,x=.bl c/\Q c H1
def pe_cmp {op:CmpOp}{t:TE}(h:PC X op a b t)(h1:behindInMarks op b=false:=by first | exact BQ _ (by decide) (by decide) | rfl):PE X (.Compare a [op] [b] pos) t:=fun dg s σ H Q I hw=>wpAny_Compare1 (h dg s σ H Q I hw) h1
def zO {op:CmpOp}{t:TE}(h:PC X op a b t)(h1:behindInMarks op b=false:=by first | exact BQ _ (by decide) (by decide) | rfl):PT X (.Compare a [op] [b] pos) (tB t):=by
 intro dg s σ H Q I hw
 refine wpAny_isTrue_Compare1 (fK (h dg s σ H _ I hw) fun v s1 h1=>fK h1 fun u s2 h2=>fK h2 fun c s3 qm=>?_) h1
 obtain⟨x,H1,I1,r1,q1⟩:=qm
 obtain⟨d,rfl,q⟩:=q1
 cases r1
 exact bJ ⟨H1,I1,q⟩
variable {tA tB':TT}{rest:List Expr}
def tAnd (t u:TT):TT:=fun σ H Q=>t σ H fun c H1=>if c=true then u σ H1 Q else Q false H1
def tOr (t u:TT):TT:=fun σ H Q=>t σ H fun c H1=>if c=true then Q true H1 else u σ H1 Q
def tNot (t:TT):TT:=fun σ H Q=>t σ H fun c H1=>Q (!c) H1
def pw_and1 (ha:PT X a tA):PW X (.BoolOp .And [a] pos) tA:=by
 intro wh dg s σ H Q I h
 refine isTrue_and (fK (ha dg s σ H Q I h) fun c s1 e=>?_)
 cases c with
 | true=>exact isTrue_and_nil e
 | false=>exact e
def pw_or1 (ha:PT X a tA):PW X (.BoolOp .Or [a] pos) tA:=by
 intro wh dg s σ H Q I h
 refine isTrue_or (fK (ha dg s σ H Q I h) fun c s1 e=>?_)
 cases c with
 | false=>exact isTrue_or_nil e
 | true=>exact e
def pw_and (ha:PT X a tA)(hb:PW X (.BoolOp .And (b::rest) pos) tB'):PW X (.BoolOp .And (a::b::rest) pos) (tAnd tA tB'):=by
 intro wh dg s σ H Q I h
 refine isTrue_and (fK (ha dg s σ H _ I h) fun c s1 qY=>?_)
 obtain⟨H1,I1,q1⟩:=qY
 cases c with
 | true=>exact hb wh dg s1 σ H1 Q I1 q1
 | false=>exact⟨H1,I1,q1⟩
def pw_or (ha:PT X a tA)(hb:PW X (.BoolOp .Or (b::rest) pos) tB'):PW X (.BoolOp .Or (a::b::rest) pos) (tOr tA tB'):=by
 intro wh dg s σ H Q I h
 refine isTrue_or (fK (ha dg s σ H _ I h) fun c s1 oK=>?_)
 obtain⟨H1,I1,q1⟩:=oK
 cases c with
 | true=>exact⟨H1,I1,q1⟩
 | false=>exact hb wh dg s1 σ H1 Q I1 q1
def pt_not (ha:PT X a tA):PT X (.UnaryOp .Not a pos) (tNot tA):=by
 intro dg s σ H Q I h
 exact isTrue_not (ha dg s σ H (fun c H1=>Q (!c) H1) I h)
def DY {op}{t:TE}(h:PE X a t):PE X (.BoolOp op [a] pos) t:=fun dg s σ H Q I hw=>BoolOp_one (h dg s σ H Q I hw)
def tIf (t:TT)(ta tb:TE):TE:=fun σ H Q=>t σ H fun c H1=>if c=true then ta σ H1 Q else tb σ H1 Q
def pe_ifExp {c:Expr}(hc:PT X c tA)(ha:PE X a ta)(hb:PE X b tb):PE X (.IfExp c a b pos) (tIf tA ta tb):=by
 intro dg s σ H Q I h
 refine wpAny_IfExp (fK (hc dg s σ H _ I h) fun d s1 qo=>?_)
 obtain⟨H1,I1,q1⟩:=qo
 cases d with
 | true=>exact ha dg s1 σ H1 Q I1 q1
 | false=>exact hb dg s1 σ H1 Q I1 q1
end
def pS (K:aa)(H:Hp)(a:Addr)(xs:List V):Prop :=
 Rd H a (.lst xs) \/
  ∃(o:Obj) (eK:Array Value) (n:Nat),K.lookup a=some o/\o.cls=.type "list"/\o.dict=none/\o.data=.seq eK n/\eK.size<=sizeLine/\eX xs eK.toList
def AS (K:aa)(H:Hp)(a:Addr)(xs:List V):Prop :=
 Rd H a (.tup xs) \/
  ∃(o:Obj) (eK:Array Value) (n:Nat),K.lookup a=some o/\o.cls=.type "tuple"/\o.data=.seq eK n/\eK.size<=sizeLine/\eX xs eK.toList
def absV:Value->Option V
 | .none=>some .fV
 | .bool b=>some (.bl b)
 | .int i _=>some (.int i)
 | .str x _=>some (.str x)
 | .bytes b _=>some (.byt b)
 | .float b _=>some (.flt b)
 | .ref a=>some (.ref a)
 | .type n=>some (.ty n)
 | _=>none
def eP.abs {x:V}{u:Value}(r:eP x u):absV u=some x:=by
 cases x with
 | fV=>cases r;rfl
 | bl _=>cases r;rfl
 | int _=>obtain⟨t,rfl⟩:=r;rfl
 | str _=>obtain⟨t,rfl⟩:=r;rfl
 | byt _=>obtain⟨t,rfl⟩:=r;rfl
 | flt _=>obtain⟨t,rfl⟩:=r;rfl
 | ref _=>cases r;rfl
 | ty _=>cases r;rfl
def eP.inj {x y:V}{u:Value}(r:eP x u)(q:eP y u):x=y:=aN (r.abs.symm.trans q.abs)
def eX.inj {xs ys:List V}{us:List Value}(h:eX xs us)(g:eX ys us):xs=ys:=by
 induction h generalizing ys with
 | nil=>cases g;rfl
 | cons r t ih =>
  cases g with
  | cons r' t'=>rw[r.inj r',ih t']
section
variable {X:Cx}{dg:List (Addr×Obj)}{σ:St}{H:Hp}{s:Shared}{a:Addr}{xs ys:List V}
def pS.of {K:aa}(h:H a=some (.lst xs)):pS K H a xs:=.inl (.inl h)
def AS.of {K:aa}(h:H a=some (.tup xs)):AS K H a xs:=.inl (.inl h)
def Inv.list (I:Inv X dg σ H s)(h:pS X.K H a xs):∃ eK:List Value,eX xs eK/\PlainL s.heap a eK.toArray/\xs.length<=sizeLine:=by
 rcases h with h | ⟨o,eK,n,hk,hc,hd,hs,hz,r⟩
 ·obtain⟨z,eK,n,r,e⟩:=h.ok I.eE
  exact⟨eK,r,⟨_,n,e,rfl,rfl,rfl⟩,z⟩
 ·refine⟨eK.toList,r,⟨o,n,I.qw a o hk,hc,hd,by simpa using hs⟩,?_⟩
  have e:=r.length
  simp only[bZ]at e
  omega
def Inv.tuple (I:Inv X dg σ H s)(h:AS X.K H a xs):∃ eK:List Value,eX xs eK/\IsTup s.heap a eK.toArray/\xs.length<=sizeLine:=by
 rcases h with h | ⟨o,eK,n,hk,hc,hs,hz,r⟩
 ·obtain⟨z,eK,r,p⟩:=h.ok I.eE
  exact⟨eK,r,p,z⟩
 ·refine⟨eK.toList,r,⟨o,I.qw a o hk,hc,n,by simpa using hs⟩,?_⟩
  have e:=r.length
  simp only[bZ]at e
  omega
def Inv.list_inj (I:Inv X dg σ H s)(h:pS X.K H a xs)(h':pS X.K H a ys):xs=ys:=by
 obtain⟨eK,r,⟨o,n,e,_,_,d⟩,_⟩:=I.list h
 obtain⟨its',r',⟨o',n',e',_,_,d'⟩,_⟩:=I.list h'
 rw[e]at e';cases e'
 rw[d]at d'
 injection d' with d1 _
 have:eK=its':=by simpa using bL Array.toList d1
 subst this
 exact r.inj r'
end
abbrev Cx.xJ (X:Cx)(E:Value->Shared->Prop):Cx:={ X with xe:=E}
abbrev Cx.nox (X:Cx):Cx:=X.xJ fun _ _=>False
def Cx.Ok.xJ {X:Cx}(ok:X.Ok)(E:Value->Shared->Prop):(X.xJ E).Ok :=
 ⟨ok.mod,ok.kind,ok.glob,ok.blt,ok.above,ok.inj,ok.has,ok.cab,ok.hd,ok.frames,ok.stk,ok.exf,ok.bs,ok.Ex,ok.BO,ok.Co,ok.qt,ok.frf⟩
def Cx.Ok.oX {X:Cx}{E:Value->Shared->Prop}(ok:(X.xJ E).Ok):X.Ok :=
 ⟨ok.mod,ok.kind,ok.glob,ok.blt,ok.above,ok.inj,ok.has,ok.cab,ok.hd,ok.frames,ok.stk,ok.exf,ok.bs,ok.Ex,ok.BO,ok.Co,ok.qt,ok.frf⟩
section
variable {X:Cx}{dg:List (Addr×Obj)}{σ:St}{H:Hp}{s:Shared}{E:Value->Shared->Prop}
def Inv.xJ (I:Inv X dg σ H s)(E:Value->Shared->Prop):Inv (X.xJ E) dg σ H s:=⟨I.ok.xJ E,I.os,I.bare,I.dh,I.loc,I.cell,I.free,I.jP,I.pin,I.eE,I.len⟩
def Inv.oX (I:Inv (X.xJ E) dg σ H s):Inv X dg σ H s:=⟨I.ok.oX,I.os,I.bare,I.dh,I.loc,I.cell,I.free,I.jP,I.pin,I.eE,I.len⟩
def SP.oX {D:Ends}{f:Flow}{s':Shared}(h:SP (X.xJ E) dg D f s'):SP X dg D f s':=by
 cases f with
 | next=>obtain⟨gd,H',I,q⟩:=h;exact⟨gd,H',I.oX,q⟩
 | brk=>obtain⟨gd,H',I,q⟩:=h;exact⟨gd,H',I.oX,q⟩
 | cont=>obtain⟨gd,H',I,q⟩:=h;exact⟨gd,H',I.oX,q⟩
 | ret u=>obtain⟨v,gd,H',I,r,q⟩:=h;exact⟨v,gd,H',I.oX,r,q⟩
def AV.nox {st:List Stmt}{t:TS}(h:AV X.nox st t):AV X st t:=fun dg s σ H D I hw =>
 bg (h dg s σ H D (I.xJ _) hw) (fun _ _ q=>q.oX) fun _ _ z=>False.elim z
end
section
variable {X:Cx}{st:Stmt}{rest:List Stmt}{t u:TS}{e:Expr}{te:TE}{pos:Pos}
def tNext:TS:=fun D σ H=>D.nx σ H
def tSeq (t u:TS):TS:=fun D σ H=>t { D with nx:=u D} σ H
def mi:AV X [] tNext:=fun _ _ σ H _ I h=>cU ⟨σ,H,I,h⟩
def gg (h1:PS X st t)(h2:AV X rest u):AV X (st::rest) (tSeq t u):=by
 intro dg s σ H D I h
 refine wpAny_execs_cons (fK (h1 dg s σ H { D with nx:=u D} I h) fun f s1 q=>?_)
 cases f with
 | next =>
  obtain⟨gd,H',I',q⟩:=q
  exact h2 dg s1 gd H' D I' q
 | ret v=>exact q
 | brk=>exact q
 | cont=>exact q
def jB (h1:PS X st t):AV X [st] t:=by
 intro dg s σ H D I h
 refine wpAny_execs_cons (fK (h1 dg s σ H D I h) fun f s1 q=>?_)
 cases f with
 | next=>exact cU q
 | ret v=>exact q
 | brk=>exact q
 | cont=>exact q
def Inv.quiet {dg:List (Addr×Obj)}{σ:St}{H:Hp}{s:Shared}(I:Inv X dg σ H s):interactive X.env=false:=by simp[interactive,I.ok.kind]
def tDrop (te:TE):TS:=fun D σ H=>te σ H fun _ H1=>D.nx σ H1
def ps_expr (he:PE X e te)(hs:swapsWith e none pos.line X.env=pure false:=by rfl):PS X (.Expr e pos) (tDrop te):=by
 intro dg s σ H D I h
 exact wpAny_Expr_any (fK (he dg s σ H _ I h) fun v s1 qK=>by obtain⟨x,H1,I1,r1,q1⟩:=qK;exact⟨σ,H1,I1,q1⟩) I.quiet hs
def tRet (te:TE):TS:=fun D σ H=>te σ H D.rt
def mC (he:PE X e te):PS X (.Return (some e) pos) (tRet te):=by
 intro dg s σ H D I h
 exact wpAny_Return_some (fK (he dg s σ H _ I h) fun v s1 rY=>by obtain⟨x,H1,I1,r1,q1⟩:=rY;exact⟨x,σ,H1,I1,r1,q1⟩)
def tIfS (c:TT)(t u:TS):TS:=fun D σ H=>c σ H fun b H1=>if b=true then t D σ H1 else u D σ H1
def ug {c:Expr}{a b:List Stmt}{tc:TT}(hc:PT X c tc)(ha:AV X a t)(hb:AV X b u):PS X (.If c a b pos) (tIfS tc t u):=by
 intro dg s σ H D I h
 refine wpAny_If (fK (hc dg s σ H _ I h) fun d s1 qJ=>?_)
 obtain⟨H1,I1,q1⟩:=qJ
 cases d with
 | true=>exact ha dg s1 σ H1 D I1 q1
 | false=>exact hb dg s1 σ H1 D I1 q1
end
abbrev TG:=V->St->Hp->(St->Hp->Prop)->Prop
abbrev yS:=List V->St->Hp->(St->Hp->Prop)->Prop
def PG (X:Cx)(target:Expr)(t:TG):Prop :=
 ∀(dg:List (Addr×Obj)) (s:Shared) (σ:St) (H:Hp) (v:V) (u:Value) (Q:St->Hp->Prop),Inv X dg σ H s->eP v u->t v σ H Q ->
  wpAny (model X.prog X.w) X.A (assign target X.env u) (fun _ s'=>∃ gd H',Inv X dg gd H' s'/\Q gd H') X.xe s
def PGs (X:Cx)(ts:List Expr)(t:yS):Prop :=
 ∀(dg:List (Addr×Obj)) (s:Shared) (σ:St) (H:Hp) (vs:List V) (us:List Value) (Q:St->Hp->Prop),Inv X dg σ H s->eX vs us->t vs σ H Q ->
  wpAny (model X.prog X.w) X.A (assignInOrder ((assignEach ts X.env).map (·.2)) us) (fun _ s'=>∃ gd H',Inv X dg gd H' s'/\Q gd H') X.xe s
abbrev EC:=V->V->V->Hp->(Hp->Prop)->Prop
def PSet (X:Cx)(t:EC):Prop :=
 ∀(dg:List (Addr×Obj)) (s:Shared) (σ:St) (H:Hp) (o i v:V) (ov iv u:Value) (Q:Hp->Prop),Inv X dg σ H s->eP o ov->eP i iv->eP v u->t o i v H Q ->
  wpAny (model X.prog X.w) X.A (setItem ov iv u) (fun _ s'=>∃ H',Inv X dg σ H' s'/\Q H') X.xe s
abbrev TIp:=V->V->Hp->VK->Prop
def PIp (X:Cx)(op:Operator)(t:TIp):Prop :=
 ∀(dg:List (Addr×Obj)) (s:Shared) (σ:St) (H:Hp) (x y:V) (v u:Value) (Q:VK),Inv X dg σ H s->eP x v->eP y u->t x y H Q ->
  wpAny (model X.prog X.w) X.A (inplaceOp op v u) (EP X dg σ Q) X.xe s
section
variable {X:Cx}{pos:Pos}
def r6 (i:Nat):TG:=fun v σ H Q=>Q (σ.set i (some v)) H
def vh {i:Nat}{x:Str}(hN:X.N.Nodup)(hi:X.N[i]?=some x)(hx:Loc X.env.scope x)(hf:X.fn x=true\/X.env.scope.names.lookup x=some .local:=by first | exact .inl rfl | exact .inr rfl | assumption):PG X (.Name x pos) (r6 i):=by
 intro dg s σ H v u Q I r h
 exact wpAny_assign_Name (lh I hN hi hx r (fun s' I'=>⟨_,H,I',h⟩) hf)
def gNil:yS:=fun vs σ H Q=>vs=[]/\Q σ H
def gCons (t:TG)(u:yS):yS:=fun vs σ H Q=>∃ v r,vs=v::r/\t v σ H fun gd H'=>u r gd H' Q
def pgs_nil:PGs X [] gNil:=by
 intro dg s σ H vs us Q I r h
 obtain⟨e,h⟩:=h
 subst e
 cases r
 exact assignInOrder_nil ⟨σ,H,I,h⟩
def pgs_cons {e:Expr}{es:List Expr}{t:TG}{u:yS}(h1:PG X e t)(h2:PGs X es u)
 (hs:(assignEach (e::es) X.env).map (·.2)=assign e X.env::(assignEach es X.env).map (·.2):=by rfl):PGs X (e::es) (gCons t u):=by
 intro dg s σ H vs us Q I r h
 obtain⟨v,vr,e1,h⟩:=h
 subst e1
 cases r with
 | cons r rr =>
  rw[hs]
  refine c4 (fK (h1 dg s σ H _ _ _ I r h) fun _ s1 qm=>?_)
  obtain⟨Bc,H1,I1,q1⟩:=qm
  exact h2 dg s1 Bc H1 _ _ Q I1 rr q1
def gTup (K:aa)(n:Nat)(t:yS):TG:=fun v σ H Q=>∃ a xs,v=.ref a/\AS K H a xs/\xs.length=n/\t xs σ H Q
def pg_tup {es:List Expr}{k:Nat}{t:yS}{n:Nat}(hc:X.calm=true)(h:PGs X es t)
 (hn:(assignEach es X.env).length=n:=by rfl) (Dy:(assignEach es X.env).findIdx? (·.1)=none:=by rfl):PG X (.Tuple es k pos) (gTup X.K n t):=by
 intro dg s σ H v u Q I r hw
 obtain⟨a,xs,e1,hq,hl,hw⟩:=hw
 subst e1
 cases r
 obtain⟨eK,rv,ht,hz⟩:=I.tuple hq
 refine assign_Tuple_tuple (I.ok.hd hc) ht (by simp[hn,<- hl,rv.length]) Dy fun h' hx=>?_
 have I1:Inv X dg σ H { s with heap:=h'}:=I.dj (t':=s.toks) fun b o e=>hx b o (aF (jK e)) e
 exact h dg _ σ H xs _ Q I1 (by simpa using rv) hw
def gSub (to ti:TE)(t:EC):TG:=fun v σ H Q=>to σ H fun o H1=>ti σ H1 fun i H2=>t o i v H2 fun H3=>Q σ H3
def wm {o i:Expr}{to ti:TE}{t:EC}(ho:PE X o to)(hi:PE X i ti)(hs:PSet X t)
 (ha:∀ v,assign (.Subscript o i pos) X.env v=(do
   let ov <- holding [v] (eval o X.env)
   let iv <- holding [v,ov] (eval i X.env)
   standAt pos
   holding [v,ov,iv] (setItem ov iv v)
   release [v,ov,iv] []):=by intro _;rfl):PG X (.Subscript o i pos) (gSub to ti t):=by
 intro dg s σ H v u Q I r h
 rw[ha]
 refine eI (bI (fK (ho dg s σ H _ I h) fun ov s1 qY=>?_))
 obtain⟨x,H1,I1,r1,q1⟩:=qY
 refine eI (bI (fK (hi dg s1 σ H1 _ I1 q1) fun iv s2 oK=>?_))
 obtain⟨y,H2,I2,r2,q2⟩:=oK
 refine eI (cP (eI (bI (fK (hs dg s2 σ H2 x y v ov iv u _ I2 r1 r2 r q2) fun _ s3 qo=>?_))))
 obtain⟨H3,I3,q3⟩:=qo
 exact wpAny_release ⟨σ,H3,I3,q3⟩
def tAsg (te:TE)(g:TG):TS:=fun D σ H=>te σ H fun x H1=>g x σ H1 D.nx
def tE {tg e:Expr}{te:TE}{g:TG}(he:PE X e te)(hg:PG X tg g)(hs:swapsWithSole [tg] e pos.line X.env=pure false:=by rfl)(hw:swappedStores [tg] e X.env=pure none:=by rfl)
 (h1:(assignEach [tg] X.env).map (·.2)=[assign tg X.env]:=by rfl):PS X (.Assign [tg] e pos) (tAsg te g):=by
 intro dg s σ H D I h
 refine wpAny_Assign_stores (fK (he dg s σ H _ I h) fun v s1 qK=>?_) hs hw
 obtain⟨x,H1,I1,r1,q1⟩:=qK
 rw[h1]
 exact fK (hg dg s1 σ H1 x v _ I1 r1 q1) fun _ s2 q=>q
def tw {i:Nat}{x:Str}{e:Expr}{te:TE}{pos':Pos}(hN:X.N.Nodup)(hi:X.N[i]?=some x)(hx:Loc X.env.scope x)(he:PE X e te)(hs:swapsWith e (some (.Name x pos')) pos.line X.env=pure false:=by rfl)(hf:X.fn x=true\/X.env.scope.names.lookup x=some .local:=by first | exact .inl rfl | exact .inr rfl | assumption) :
 PS X (.Assign [.Name x pos'] e pos) (tAsg te (r6 i)):=by
 intro dg s σ H D I h
 refine wpAny_Assign_Name (fK (he dg s σ H _ I h) fun v s1 rY=>?_) hs
 obtain⟨y,H1,I1,r1,q1⟩:=rY
 exact lh I1 hN hi hx r1 (fun s2 I2=>⟨_,H1,I2,q1⟩) hf
def tAug (i:Nat)(te:TE)(ti:TIp):TS:=fun D σ H=>∃ x,σ[i]?=some (some x)/\te σ H fun y H1=>ti x y H1 fun z H2=>D.nx (σ.set i (some z)) H2
def ps_aug {i:Nat}{x:Str}{e:Expr}{te:TE}{op:Operator}{ti:TIp}{pos':Pos}(hN:X.N.Nodup)(hi:X.N[i]?=some x)(hx:Loc X.env.scope x)(he:PE X e te)(ho:PIp X op ti)(hf:X.fn x=true\/X.env.scope.names.lookup x=some .local:=by first | exact .inl rfl | exact .inr rfl | assumption) :
 PS X (.AugAssign (.Name x pos') op e pos) (tAug i te ti):=by
 intro dg s σ H D I h
 obtain⟨v,e1,h⟩:=h
 obtain⟨m,hn,hl⟩:=I.loc
 have vis:Vis X.env.scope x:=by rcases hx with k | k;exact .inl k;exact .inr (.inl k)
 obtain⟨u,r,l⟩:=hl i x v hi e1 vis
 refine wpAny_AugAssign_Name ?_
 have go:wpAny (model X.prog X.w) X.A (eval e X.env) (fun w s₂=>wpAny (model X.prog X.w) X.A (inplaceOp op u w) (fun r s₃=>wpAny (model X.prog X.w) X.A (storeName X.env x r) (fun _=>SP X dg D .next) X.xe s₃) X.xe s₂) X.xe s:=by
  refine fK (he dg s σ H _ I h) fun w s1 qJ=>?_
  obtain⟨y,H1,I1,r1,q1⟩:=qJ
  refine fK (ho dg s1 σ H1 v y u w _ I1 r r1 q1) fun z s2 qm=>?_
  obtain⟨zv,H2,I2,r2,q2⟩:=qm
  exact lh I2 hN hi hx r2 (fun s3 I3=>⟨_,H2,I3,q2⟩) hf
 rcases l with⟨hk,hm⟩ | ⟨hk,c,hc,uv⟩
 ·exact wpAny_loadName_local I.ok.kind hk hn hm go
 ·rcases hk with hk | hk
  ·exact wpAny_loadName_cell I.ok.kind hk hc uv go
  ·rcases hx with k | k
   ·have:X.env.scope.names.lookup x=some .free:=hk
    rw[k]at this;cases this
   ·have:X.env.scope.names.lookup x=some .free:=hk
    rw[k]at this;cases this
def tAugS (to ti te:TE)(tget:V->V->Hp->VK->Prop)(tip:TIp)(tset:EC):TS:=fun D σ H=>to σ H fun o H1=>ti σ H1 fun i H2=>tget o i H2 fun x H3=>te σ H3 fun y H4=>tip x y H4 fun z H5=>tset o i z H5 fun H6=>D.nx σ H6
def PGet (X:Cx)(t:V->V->Hp->VK->Prop):Prop :=
 ∀(dg:List (Addr×Obj)) (s:Shared) (σ:St) (H:Hp) (o i:V) (ov iv:Value) (Q:VK),Inv X dg σ H s->eP o ov->eP i iv->t o i H Q ->
  wpAny (model X.prog X.w) X.A (getItem ov iv) (EP X dg σ Q) X.xe s
def ps_augS {o i e:Expr}{to ti te:TE}{tget:V->V->Hp->VK->Prop}{tip:TIp}{tset:EC}{op:Operator}{q9:Pos}(ho:PE X o to)(hi:PE X i ti)(hg:PGet X tget)(he:PE X e te)(hp:PIp X op tip)(hs:PSet X tset)
 (ha:∀ ov iv new,augStore i ov iv new=(do holding [new,ov,iv] (setItem ov iv new);release [new,ov,iv] [];pure .next):=by intros;rfl):PS X (.AugAssign (.Subscript o i q9) op e pos) (tAugS to ti te tget tip tset):=by
 intro dg s σ H D I h
 refine wpAny_AugAssign_SubscriptAny (fK (ho dg s σ H _ I h) fun ov s1 qY=>?_) ha
 obtain⟨x1,H1,I1,r1,q1⟩:=qY
 refine fK (hi dg s1 σ H1 _ I1 q1) fun iv s2 oK=>?_
 obtain⟨x2,H2,I2,r2,q2⟩:=oK
 refine fK (hg dg s2 σ H2 x1 x2 ov iv _ I2 r1 r2 q2) fun old s3 qo=>?_
 obtain⟨x3,H3,I3,r3,q3⟩:=qo
 refine fK (he dg s3 σ H3 _ I3 q3) fun v s4 qK=>?_
 obtain⟨x4,H4,I4,r4,q4⟩:=qK
 refine fK (hp dg s4 σ H4 x3 x4 old v _ I4 r3 r4 q4) fun new s5 rY=>?_
 obtain⟨x5,H5,I5,r5,q5⟩:=rY
 exact fK (hs dg s5 σ H5 x1 x2 x5 ov iv new _ I5 r1 r2 r5 q5) fun _ s6 qJ=>by obtain⟨H6,I6,q6⟩:=qJ;exact⟨σ,H6,I6,q6⟩
def ipI (f:Int->Int->Int):TIp:=fun x y H Q=>∃ i j,x=.int i/\y=.int j/\Q (.int (f i j)) H
def ip_add:PIp X .Add (ipI fun i j=>i+j):=by
 intro dg s σ H x y v u Q I r1 r2 h
 obtain⟨i,j,e1,e2,q⟩:=h
 subst e1;subst e2
 obtain⟨t,rfl⟩:=r1
 obtain⟨t',rfl⟩:=r2
 exact iadd_int ⟨.int _,H,I.tok _,⟨_,rfl⟩,q⟩
end
section
variable {X:Cx}{pos:Pos}
def tWhile (c:TT)(tb:TS):TS:=fun D σ H=>∃ W:Nat->St->Hp->Prop,(∃ m,W m σ H)/\∀ m σ H,W m σ H ->
 c σ H fun b H1=>if b=true then ∃ N:St->Hp->Prop,(∀ gd H',N gd H'->∃ m',m'<m/\W m' gd H')/\tb { D with nx:=N,ct:=N,bk:=D.nx} σ H1 else D.nx σ H1
def ps_while {c:Expr}{body:List Stmt}{tc:TT}{tb:TS}(hp:PassesOwn (model X.prog X.w) X.A X.env X.xe)(hc:PT X c tc)(hb:AV X body tb):PS X (.While c body [] pos) (tWhile tc tb):=by
 intro dg s σ H D I h
 obtain⟨W,⟨m0,w0⟩,turn⟩:=h
 refine wpAny_While (codeAny_whileLoop (fun n s'=>∃ gd H',Inv X dg gd H' s'/\W n gd H') ?_ m0 ⟨σ,H,I,w0⟩)
 rintro n s1 ⟨Bc,H1,I1,w1⟩
 refine cf hp (fK (hc dg s1 Bc H1 _ I1 (turn n Bc H1 w1)) fun b s2 qm=>?_)
 obtain⟨H2,I2,q2⟩:=qm
 cases b with
 | true =>
  obtain⟨N,hN,q2⟩:=q2
  rw[aj rfl]
  refine cf hp (fK (hb dg s2 Bc H2 _ I2 q2) fun f s3 q3=>?_)
  cases f with
  | next =>
   obtain⟨ES,H3,I3,n3⟩:=q3
   obtain⟨m',hm,w3⟩:=hN ES H3 n3
   exact⟨m',hm,ES,H3,I3,w3⟩
  | cont =>
   obtain⟨ES,H3,I3,n3⟩:=q3
   obtain⟨m',hm,w3⟩:=hN ES H3 n3
   exact⟨m',hm,ES,H3,I3,w3⟩
  | brk=>exact q3
  | ret v=>exact q3
 | false =>
  rw[ai aE]
  exact cU ⟨Bc,H2,I2,q2⟩
end
structure It where
 go:Nat->Hp->Prop
 yld:Nat->Hp->V->Hp->Prop
 stop:Nat->Hp->Prop
def ow (X:Cx)(dg:List (Addr×Obj))(H:Hp)(b:Addr):Prop :=
 H b=none/\b≠X.env.locals/\b∉X.fs/\(b∈X.ex\/X.s₀.heap.objs.size<=b)/\(∀ x c,X.env.cells.lookup x=some c->c≠b)/\∀ p∈X.pn++dg,p.1≠b
def Inv.Cb {X:Cx}{dg:List (Addr×Obj)}{σ:St}{H H':Hp}{s:Shared}{b:Addr}(I:Inv X dg σ H s)(hb:s.heap.objs.size<=b)(hn:H' b=none):ow X dg H' b:=by
 refine⟨hn,bo (aw I.lt hb),I.nofs hb,.inr (az I.sz hb),fun x c e z=>?_,fun p hp z=>?_⟩
 ·obtain⟨v,q⟩:=I.cell x c e
  exact absurd (aw q.lt (by rw[z];exact hb)) (bw _)
 ·exact absurd (aw (jK (I.pin p hp).1) (by rw[z];exact hb)) (bw _)
structure Turn (P:ae)(w:af)(K:aa)(tg:Expr)(J:It)(fp:List Addr)(it:Addr)(tn:Nat->Heap->Prop)(CM:Cx->Prop:=fun X=>X.calm=true):Prop where
 mem:it∈fp
 obj:∀ i h,tn i h->∀ b∈fp,∃ o,h.get? b=some o/\∀ v,o.data≠.cell v
 keep:∀ i h h',tn i h->(∀ b∈fp,∀ o,h.get? b=some o->h'.get? b=some o)->tn i h'
 item:∀(X:Cx),X.prog=P->X.w=w->X.K=K->CM X->∀(i:Nat) (dg:List (Addr×Obj)) (s:Shared) (σ:St) (H:Hp) (E:Value->Shared->Prop),Inv X dg σ H s->(∀ b∈fp,ow X dg H b)->tn i s.heap->J.go i H ->
  wpAny (model P w) X.A (pyNext (.ref it)) (fun r s1=>∃ u,r=some u /\
   wpAny (model P w) X.A (letOwnedTupleGo tg (.ref it) u) (fun _ s2=>∃ x H',Inv X dg σ H' s2/\eP x u/\J.yld i H x H'/\tn (i+1) s2.heap/\∀ b∈fp,H' b=none) E s1) E s
 done:∀(X:Cx),X.prog=P->X.w=w->X.K=K->CM X->∀(i:Nat) (dg:List (Addr×Obj)) (s:Shared) (σ:St) (H:Hp) (E:Value->Shared->Prop),Inv X dg σ H s->(∀ b∈fp,ow X dg H b)->tn i s.heap->J.stop i H ->
  wpAny (model P w) X.A (pyNext (.ref it)) (fun r s1=>r=none/\Inv X dg σ H s1) E s
 self:∀(A:Around) (i:Nat) (s:Shared) (Q:Value->Shared->Prop) (E:Value->Shared->Prop),tn i s.heap->Q (.ref it) s->wpAny (model P w) A (pyIter (.ref it)) Q E s
abbrev TI:=St->Hp->(It->Hp->Prop)->Prop
def PIE (X:Cx)(dg:List (Addr×Obj))(σ:St)(tg:Expr)(R:It->Hp->Prop)(itv:Value)(s2:Shared):Prop :=
 ∃(it:Addr) (fp:List Addr) (tn:Nat->Heap->Prop) (J:It) (H':Hp),itv=.ref it/\Inv X dg σ H' s2/\Turn X.prog X.w X.K tg J fp it tn/\tn 0 s2.heap/\(∀ b∈fp,ow X dg H' b)/\R J H'
def PI (X:Cx)(tg iter:Expr)(wi:TI):Prop :=
 ∀(dg:List (Addr×Obj)) (s:Shared) (σ:St) (H:Hp) (R:It->Hp->Prop),Inv X dg σ H s->wi σ H R ->
  wpAny (model X.prog X.w) X.A (eval iter X.env) (fun v s1=>wpAny (model X.prog X.w) X.A (pyIter v) (PIE X dg σ tg R) X.xe s1) X.xe s
def yE {M:Model}{A:Around}{E:Value->Shared->Prop}{s:Shared}{tg:Expr}{it:Addr}{u:Value}{o:Obj}{n:String}{vs:Array Value}{Q:Unit->Shared->Prop}(ho:s.heap.get? it=some o)(hc:o.cls=.type n)(hd:o.data=.fields vs)
 (hn:["enumerate", "zip", "dict_itemiterator", "dict_reverseitemiterator", "odict_iterator", "itertools.zip_longest", "itertools.pairwise"].contains n=false) (hQ:Q () s):wpAny M A (letOwnedTupleGo tg (.ref it) u) Q E s:=by
 unfold letOwnedTupleGo
 cases tg <;> first
  | exact ar hQ
  | (cases u <;> first
      | exact ar hQ
      | (refine eI (wpAny_load ho ?_)
         rw[hc,hd]
         show wpAny M A (if(["enumerate", "zip", "dict_itemiterator", "dict_reverseitemiterator", "odict_iterator", "itertools.zip_longest", "itertools.pairwise"].contains n&&vs[0]?==some (rawInt _))=true then _ else _) Q E s
         rw[ai (by intro h;rw[hn,Bool.false_and]at h;cases h)]
         exact ar hQ))
def Itl (K:aa)(a:Addr):It :=
 ⟨fun i H=>∃ xs x,pS K H a xs/\xs[i]?=some x,fun i H x H'=>H'=H/\∀ xs,pS K H a xs->xs[i]?=some x,fun i H=>∃ xs,pS K H a xs/\xs.length<=i⟩
def Itr (lo:Int)(n:Nat):It:=⟨fun i _=>i<n,fun i H x H'=>H'=H/\x=.int (lo+i),fun i _=>n<=i⟩
def turn_list {P:ae}{w:af}{K:aa}{tg:Expr}(a it:Addr):Turn P w K tg (Itl K a) [it] it (fun i h=>h.IsListIter it a i) where
 mem:=by simp
 obj:=fun i h st b hb=>by
  have e:b=it:=by simpa using hb
  subst e
  obtain⟨o,e,c,d⟩:=st
  exact⟨o,e,fun v z=>by rw[d]at z;cases z⟩
 keep:=fun i h h' st k=>st.at fun o e=>k it (by simp) o e
 item:=by
  intro X hP hw hK hc i dg s σ H E I hf st hg
  subst hP hw hK
  obtain⟨xs,x,hq,hx⟩:=hg
  obtain⟨eK,rv,p,hz⟩:=I.list hq
  obtain⟨u,hu,ru⟩:=rv.get hx
  obtain⟨f0,f1,f2,f3,f4,f5⟩:=hf it (by simp)
  refine wpAny_pyNext_list_item st p.isList (x:=u) (by simpa using hu) fun h' Bl sb=>?_
  have I1:Inv X dg σ H { s with heap:=h'}:=I.turned (t':=s.toks) (fun b o hb e=>(sb.2 b hb).trans e) f0 f1 f3 f4 f5
  obtain⟨o,e,c,d⟩:=id Bl
  exact⟨u,rfl,yE (s:={ s with heap:=h'}) e c d (by decide) ⟨x,H,I1,ru,⟨rfl,fun ys hy=>by rw[I.list_inj hy hq];exact hx⟩,Bl,fun b hb=>(hf b hb).1⟩⟩
 done:=by
  intro X hP hw hK hc i dg s σ H E I hf st hg
  subst hP hw hK
  obtain⟨xs,hq,hx⟩:=hg
  obtain⟨eK,rv,p,hz⟩:=I.list hq
  obtain⟨f0,f1,f2,f3,f4,f5⟩:=hf it (by simp)
  have hl:=rv.length
  exact wpAny_pyNext_list_end (I.ok.hd hc) st p.isList (by simp;omega) fun h' eb=>⟨rfl,I.turned (t':=s.toks) (fun b o hb e=>eb b o hb e) f0 f1 f3 f4 f5⟩
 self:=fun _ _ _ _ _ st h=>wpAny_pyIter_listiter st h
def nj {P:ae}{w:af}{K:aa}{tg:Expr}(it:Addr)(lo:Int)(n:Nat):Turn P w K tg (Itr lo n) [it] it (fun i h=>IsRangeIter h it (lo+(i:Nat)*1) ((n:Int) - (i:Nat)) 1) where
 mem:=by simp
 obj:=fun i h st b hb=>by
  have e:b=it:=by simpa using hb
  subst e
  exact⟨_,st,fun v z=>by
   have z':Data.fields _=Data.cell v:=z
   cases z'⟩
 keep:=fun i h h' st k=>k it (by simp) _ st
 item:=by
  intro X hP hw hK hc i dg s σ H E I hf st hg
  subst hP hw hK
  obtain⟨f0,f1,f2,f3,f4,f5⟩:=hf it (by simp)
  have W:=Walks.range (prog:=X.prog) (w:=X.w) (I.ok.hd hc) it lo 1 n
  refine W.item i s _ _ hg st fun v h' tk hv Bl kk=>?_
  obtain⟨t,rfl⟩:=hv
  have I1:Inv X dg σ H { s with heap:=h',toks:=tk}:=I.turned (fun b o hb e=>kk b o (by simpa using hb) e) f0 f1 f3 f4 f5
  refine⟨_,rfl,yE (s:={ s with heap:=h',toks:=tk}) (n := "range_iterator") Bl rfl rfl (by decide) ⟨.int (lo+i),H,I1,⟨t,?_⟩,⟨rfl,rfl⟩,Bl,fun b hb=>(hf b hb).1⟩⟩
  rw[Int.mul_one]
 done:=by
  intro X hP hw hK hc i dg s σ H E I hf st hg
  subst hP hw hK
  obtain⟨f0,f1,f2,f3,f4,f5⟩:=hf it (by simp)
  exact wpAny_pyNext_range_end (I.ok.hd hc) st (by have:n<=i:=hg;omega) fun h' eb=>⟨rfl,I.turned (t':=s.toks) (fun b o hb e=>eb b o hb e) f0 f1 f3 f4 f5⟩
 self:=fun _ _ _ _ _ st h=>wpAny_pyIter_rangeiter st h
section
variable {X:Cx}{tg:Expr}
def iList (K:aa)(tl:TE):TI:=fun σ H R=>tl σ H fun x H1=>∃ a,x=.ref a/\(∃ xs,pS K H1 a xs)/\R (Itl K a) H1
def pi_list {l:Expr}{tl:TE}(hl:PE X l tl):PI X tg l (iList X.K tl):=by
 intro dg s σ H R I h
 refine fK (hl dg s σ H _ I h) fun v s1 qY=>?_
 obtain⟨x,H1,I1,r1,q1⟩:=qY
 obtain⟨a,e,⟨xs,hq⟩,q⟩:=q1
 subst e
 cases r1
 obtain⟨eK,rv,p,hz⟩:=I1.list hq
 refine wpAny_pyIter_list p.isList ?_
 refine⟨s1.heap.objs.size,[s1.heap.objs.size],_,_,H1,rfl,I1.dj (t':=s1.toks) fun b o e=>jt _ e,turn_list a _,⟨_,aB _ rfl,rfl,rfl⟩,fun b hb=>?_,q⟩
 have e:b=s1.heap.objs.size:=by simpa using hb
 subst e
 exact I1.Cb (ah _) (I1.eE.fresh (ah _))
def Bw {dg:List (Addr×Obj)}{σ:St}{H:Hp}{s:Shared}{R:It->Hp->Prop}{E:Value->Shared->Prop}{lo hi:Int}{t u v:Tok}{tk:Nat}(I:Inv X dg σ H s)(h1:-(2 ^ 62)<=lo)(h2:lo<2 ^ 62)(h3:-(2 ^ 62)<=hi)(h4:hi<2 ^ 62)
 (q:R (Itr lo (hi - lo).toNat) H):wpAny (model X.prog X.w) X.A (pyIter (.ref s.heap.objs.size)) (PIE X dg σ tg R) E { s with heap:=s.heap.push { cls:=.type "range",data:=.fields #[.int lo t,.int hi u,.int 1 v]},toks:=tk}:=by
 refine wpAny_pyIter_range (IsRange.new ..) (small_one h1 h2 h3 h4) ?_
 have I1:Inv X dg σ H { s with heap:=s.heap.push { cls:=.type "range",data:=.fields #[.int lo t,.int hi u,.int 1 v]},toks:=tk}:=I.dj fun b o e=>jt _ e
 refine⟨(s.heap.push { cls:=.type "range",data:=.fields #[.int lo t,.int hi u,.int 1 v]}).objs.size,[(s.heap.push { cls:=.type "range",data:=.fields #[.int lo t,.int hi u,.int 1 v]}).objs.size],_,_,H,rfl,
  I1.dj (t':=tk) fun b o e=>jt _ e,nj _ lo (hi - lo).toNat,?_,fun b hb=>?_,q⟩
 ·have e1:lo+((0:Nat):Int)*1=lo:=by simp
  have e2:(((hi - lo).toNat:Nat):Int) - ((0:Nat):Int)=Builtin.Range.rangeSize lo hi 1:=by rw[rangeSize_one];split <;> omega
  show IsRangeIter _ _ (lo+((0:Nat):Int)*1) ((((hi - lo).toNat:Nat):Int) - ((0:Nat):Int)) 1
  rw[e1,e2]
  exact aB _ rfl
 ·have e:b=(s.heap.push { cls:=.type "range",data:=.fields #[.int lo t,.int hi u,.int 1 v]}).objs.size:=by simpa using hb
  subst e
  exact I1.Cb (ah _) (I1.eE.fresh (ah _))
def iRng1 (ta:TA):TI:=fun σ H R=>ta σ H fun vs H1=>∃ j:Int,vs=[.int j] /\ -(2 ^ 62)<=j/\j<2 ^ 62/\R (Itr 0 j.toNat) H1
def iRng2 (ta:TA):TI:=fun σ H R=>ta σ H fun vs H1=>∃ i j:Int,vs=[.int i,.int j]/\(-(2 ^ 62)<=i/\i<2 ^ 62 /\ -(2 ^ 62)<=j/\j<2 ^ 62)/\R (Itr i (j - i).toNat) H1
def pi_range1 {a:Expr}{ta:TA}{p pos:Pos}(hg:Gl X "range")(hm:X.mg "range"=none)(ha:PA X [a] ta)(hs:starEach [a] X.env=[(false,eval a X.env)]:=by rfl):PI X tg (.Call (.Name "range" p) [a] [] pos) (iRng1 ta):=by
 intro dg s σ H R I h
 refine Call_ (pA I hg hm boot_range (bz (fK (ha pos dg s σ H _ I h) fun us s1 oK=>?_) hs rfl))
 obtain⟨vs,H1,I1,r1,q1⟩:=oK
 obtain⟨j,e,q1,q2,q⟩:=q1
 subst e
 cases r1 with
 | cons r rr =>
  cases rr
  obtain⟨t,rfl⟩:=r
  exact call_range_1 (Bw I1 (by omega) (by omega) q1 q2 (by simpa using q))
def pi_range2 {a b:Expr}{ta:TA}{p pos:Pos}(hg:Gl X "range")(hm:X.mg "range"=none)(ha:PA X [a,b] ta)(hs:starEach [a,b] X.env=[(false,eval a X.env),(false,eval b X.env)]:=by rfl)(B9:starEach [b] X.env=[(false,eval b X.env)]:=by rfl) :
 PI X tg (.Call (.Name "range" p) [a,b] [] pos) (iRng2 ta):=by
 intro dg s σ H R I h
 refine Call_ (pA I hg hm boot_range (bz (fK (ha pos dg s σ H _ I h) fun us s1 qo=>?_) (by rw[hs,B9]) (by rw[B9];rfl)))
 obtain⟨vs,H1,I1,r1,q1⟩:=qo
 obtain⟨i,j,e,⟨q1,q2,q3,q4⟩,q⟩:=q1
 subst e
 cases r1 with
 | cons r rr =>
  cases rr with
  | cons r' rr =>
   cases rr
   obtain⟨t,rfl⟩:=r
   obtain⟨t',rfl⟩:=r'
   exact call_range_2 (Bw I1 q1 q2 q3 q4 q)
def tFor (wi:TI)(g:TG)(tb:TS):TS:=fun D σ H=>wi σ H fun J H1=>∃ W:Nat->Nat->St->Hp->Prop,(∃ m,W 0 m σ H1)/\∀ i m σ H,W i m σ H ->
 (J.stop i H/\D.nx σ H)\/(J.go i H/\∃ N:St->Hp->Prop,(∀ gd H',N gd H'->∃ m',m'<m/\W (i+1) m' gd H')/\∀ x H',J.yld i H x H'->g x σ H' fun mP H2=>tb { D with nx:=N,ct:=N,bk:=D.nx} mP H2)
def tF (fp:List Addr)(h:Heap):List (Addr×Obj):=fp.filterMap fun b=>(h.get? b).map fun o=>(b,o)
def jS {fp:List Addr}{h:Heap}{b:Addr}{o:Obj}(hb:b∈fp)(e:h.get? b=some o):(b,o)∈tF fp h:=List.mem_filterMap.mpr ⟨b,hb,by rw[e];rfl⟩
def of_pinsAt {fp:List Addr}{h:Heap}{p:Addr×Obj}(hp:p∈tF fp h):p.1∈fp/\h.get? p.1=some p.2:=by
 obtain⟨b,hb,e⟩:=List.mem_filterMap.mp hp
 cases q:h.get? b with
 | none=>rw[q]at e;cases e
 | some o =>
  rw[q]at e
  have e':(b,o)=p:=aN e
  subst e'
  exact⟨hb,q⟩
def Inv.pinned {dg:List (Addr×Obj)}{σ:St}{H:Hp}{s:Shared}{fp:List Addr}(I:Inv X dg σ H s)(hf:∀ b∈fp,ow X dg H b)(ho:∀ b∈fp,∃ o,s.heap.get? b=some o/\∀ v,o.data≠.cell v):Inv X (dg++tF fp s.heap) σ H s :=
 I.nO fun p hp=>(List.mem_append.mp hp).elim (fun z=>I.pin p (aH _ z)) fun z=>by
  obtain⟨hb,e⟩:=of_pinsAt z
  obtain⟨f0,f1,f2,_⟩:=hf p.1 hb
  obtain⟨o,e',d⟩:=ho p.1 hb
  rw[e]at e';cases e'
  exact⟨e,f0,f1,f2,d⟩
def Inv.oY {dg pl:List (Addr×Obj)}{σ:St}{H:Hp}{s:Shared}(I:Inv X (dg++pl) σ H s):Inv X dg σ H s:=I.nO fun p hp=>I.pin p (aH _ (bU _ hp))
def ps_for {iter:Expr}{body:List Stmt}{wi:TI}{g:TG}{tb:TS}{pos:Pos}(hp:PassesOwn (model X.prog X.w) X.A X.env X.xe)(hc:X.calm=true)(hi:PI X tg iter wi)(hg:PG X tg g)(hb:AV X body tb)
 (hs:∀ x,foldedSetIterable iter X.env x=pure x:=by intro _;rfl):PS X (.For tg iter body [] pos) (tFor wi g tb):=by
 intro dg s σ H D I h
 refine wpAny_For (fK (hi dg s σ H _ I h) fun v s1 h1=>fK h1 fun itv s2 h2=>?_) hs
 obtain⟨it,fp,tn,J,H2,e,I2,T,E7,f2,W,⟨m0,w0⟩,turn⟩:=h2
 subst e
 have vL:∀ {H':Hp},(∀ b∈fp,H' b=none)->∀ b∈fp,ow X dg H' b:=fun hn b hb=>⟨hn b hb,(f2 b hb).2⟩
 refine codeAny_forLoop_any (fun n s'=>∃ i gd H',Inv X dg gd H' s'/\tn i s'.heap/\(∀ b∈fp,H' b=none)/\W i n gd H') ?_ m0 ⟨0,σ,H2,I2,E7,fun b hb=>(f2 b hb).1,w0⟩
 rintro n s3 ⟨i,ES,H3,I3,st3,fr3,w3⟩
 rcases turn i n ES H3 w3 with⟨stop,qn⟩ | ⟨go,N,hN,step⟩
 ·refine cf hp (fK (T.done X rfl rfl rfl hc i dg s3 ES H3 X.xe I3 (vL fr3) st3 stop) fun r s4 qK=>?_)
  obtain⟨hr,I4⟩:=qK
  subst hr
  exact cU ⟨ES,H3,I4,qn⟩
 ·refine cf hp (fK (T.item X rfl rfl rfl hc i dg s3 ES H3 X.xe I3 (vL fr3) st3 go) fun r s4 rY=>?_)
  obtain⟨u,hr,h4⟩:=rY
  subst hr
  refine cf hp (fK h4 fun _ s5 qJ=>?_)
  obtain⟨x,H5,I5,r5,y5,st5,fr5⟩:=qJ
  have I5':=I5.pinned (vL fr5) (T.obj _ _ st5)
  refine cf hp (fK (hg _ s5 ES H5 x u _ I5' r5 (step x H5 y5)) fun _ s6 qm=>?_)
  obtain⟨σ6,H6,I6,q6⟩:=qm
  refine cf hp (fK (hb _ s6 σ6 H6 _ I6 q6) fun f s7 q7=>?_)
  have again:∀ {σ7:St} {H7:Hp},Inv X (dg++tF fp s5.heap) σ7 H7 s7->N σ7 H7->∃ m,m<n/\∃ i gd H',Inv X dg gd H' s7/\tn i s7.heap/\(∀ b∈fp,H' b=none)/\W i m gd H':=fun {σ7 H7} I7 n7=>by
   obtain⟨m',hm,w7⟩:=hN σ7 H7 n7
   refine⟨m',hm,i+1,σ7,H7,I7.oY,T.keep _ _ _ st5 fun b hb o e=>(I7.pin (b,o) (aH _ (aH _ (jS hb e)))).1,fun b hb=>?_,w7⟩
   obtain⟨o,e,d⟩:=T.obj _ _ st5 b hb
   exact(I7.pin (b,o) (aH _ (aH _ (jS hb e)))).2.1
  cases f with
  | next=>obtain⟨σ7,H7,I7,n7⟩:=q7;exact again I7 n7
  | cont=>obtain⟨σ7,H7,I7,n7⟩:=q7;exact again I7 n7
  | brk=>obtain⟨σ7,H7,I7,q7⟩:=q7;exact⟨σ7,H7,I7.oY,q7⟩
  | ret v=>obtain⟨x7,σ7,H7,I7,r7,q7⟩:=q7;exact⟨x7,σ7,H7,I7.oY,r7,q7⟩
end
abbrev R2:=V->V->Hp->VK->Prop
def jm (X:Cx)(f:Value->Value->Sem Value)(r:R2):Prop :=
 ∀(dg:List (Addr×Obj)) (s:Shared) (σ:St) (H:Hp) (x y:V) (v u:Value) (Q:VK),Inv X dg σ H s->eP x v->eP y u->r x y H Q ->
  wpAny (model X.prog X.w) X.A (f v u) (EP X dg σ Q) X.xe s
def UnR (X:Cx)(f:Value->Sem Value)(r:V->Hp->VK->Prop):Prop :=
 ∀(dg:List (Addr×Obj)) (s:Shared) (σ:St) (H:Hp) (x:V) (v:Value) (Q:VK),Inv X dg σ H s->eP x v->r x H Q ->
  wpAny (model X.prog X.w) X.A (f v) (EP X dg σ Q) X.xe s
def ia (X:Cx)(f:Value)(r:List V->Hp->VK->Prop):Prop :=
 ∀(dg:List (Addr×Obj)) (s:Shared) (σ:St) (H:Hp) (xs:List V) (us:List Value) (Q:VK),Inv X dg σ H s->eX xs us->r xs H Q ->
  wpAny (model X.prog X.w) X.A (call f us) (EP X dg σ Q) X.xe s
def tOp (r:R2)(ta tb:TE):TE:=fun σ H Q=>ta σ H fun x H1=>tb σ H1 fun y H2=>r x y H2 Q
def tUn (r:V->Hp->VK->Prop)(ta:TE):TE:=fun σ H Q=>ta σ H fun x H1=>r x H1 Q
def rI (C:Int->Int->Prop)(g:Int->Int->V):R2:=fun x y H Q=>∃ i j,x=.int i/\y=.int j/\C i j/\Q (g i j) H
def rI0 (g:Int->Int->V):R2:=fun x y H Q=>∃ i j,x=.int i/\y=.int j/\Q (g i j) H
def rU (g:Int->V):V->Hp->VK->Prop:=fun x H Q=>∃ i,x=.int i/\Q (g i) H
section
variable {X:Cx}{a b c:Expr}{ta tb tc:TE}{pos:Pos}
def binT (ha:PE X a ta)(hb:PE X b tb){dg:List (Addr×Obj)}{s:Shared}{σ:St}{H:Hp}{R:V->V->Hp->Prop}(I:Inv X dg σ H s)
 (h:ta σ H fun x H1=>tb σ H1 fun y H2=>R x y H2) {Q:Value->Shared->Prop} {f:Value->Value->Sem Value}
 (hf:∀ v u s2 x y H2,Inv X dg σ H2 s2->eP x v->eP y u->R x y H2->wpAny (model X.prog X.w) X.A (f v u) Q X.xe s2) :
 wpAny (model X.prog X.w) X.A (eval a X.env) (fun v s₁=>wpAny (model X.prog X.w) X.A (eval b X.env) (fun u s₂=>wpAny (model X.prog X.w) X.A (f v u) Q X.xe s₂) X.xe s₁) X.xe s:=by
 refine fK (ha dg s σ H _ I h) fun v s1 qY=>?_
 obtain⟨x,H1,I1,r1,q1⟩:=qY
 refine fK (hb dg s1 σ H1 _ I1 q1) fun u s2 oK=>?_
 obtain⟨y,H2,I2,r2,q2⟩:=oK
 exact hf v u s2 x y H2 I2 r1 r2 q2
def jj {op:Operator}{r:R2}(ho:jm X (binaryOp op) r)(ha:PE X a ta)(hb:PE X b tb):PE X (.BinOp a op b pos) (tOp r ta tb):=by
 intro dg s σ H Q I h
 exact wpAny_BinOp (binT ha hb I h fun v u s2 x y H2 I2 rx ry q=>ho dg s2 σ H2 x y v u Q I2 rx ry q)
def pe_un {op:UnaryOp}{r:V->Hp->VK->Prop}(ho:UnR X (unaryOp op) r)(ha:PE X a ta):PE X (.UnaryOp op a pos) (tUn r ta):=by
 intro dg s σ H Q I h
 exact UnaryOp_ (fK (ha dg s σ H _ I h) fun v s1 qo=>by obtain⟨x,H1,I1,r1,q1⟩:=qo;exact ho dg s1 σ H1 x v Q I1 r1 q1)
def opI {f:Value->Value->Sem Value}{C:Int->Int->Prop}{g:Int->Int->Int}
 (rule:∀(i j:Int) (t u:Tok) (s:Shared) (Q:Value->Shared->Prop) (E:Value->Shared->Prop),C i j->Q (.int (g i j) s.toks) { s with toks:=s.toks+1}->wpAny (model X.prog X.w) X.A (f (.int i t) (.int j u)) Q E s) :
 jm X f (rI C fun i j=>.int (g i j)):=by
 intro dg s σ H x y v u Q I rx ry h
 obtain⟨i,j,rfl,rfl,hc,q⟩:=h
 obtain⟨t,rfl⟩:=rx
 obtain⟨t',rfl⟩:=ry
 exact rule i j t t' s _ _ hc ⟨.int (g i j),H,I.tok _,⟨_,rfl⟩,q⟩
def opI0 {f:Value->Value->Sem Value}{g:Int->Int->Int}
 (rule:∀(i j:Int) (t u:Tok) (s:Shared) (Q:Value->Shared->Prop) (E:Value->Shared->Prop),Q (.int (g i j) s.toks) { s with toks:=s.toks+1}->wpAny (model X.prog X.w) X.A (f (.int i t) (.int j u)) Q E s) :
 jm X f (rI0 fun i j=>.int (g i j)):=by
 intro dg s σ H x y v u Q I rx ry h
 obtain⟨i,j,rfl,rfl,q⟩:=h
 obtain⟨t,rfl⟩:=rx
 obtain⟨t',rfl⟩:=ry
 exact rule i j t t' s _ _ ⟨.int (g i j),H,I.tok _,⟨_,rfl⟩,q⟩
def opB0 {f:Value->Value->Sem Value}{g:Int->Int->Bool}
 (rule:∀(i j:Int) (t u:Tok) (s:Shared) (Q:Value->Shared->Prop) (E:Value->Shared->Prop),Q (.bool (g i j)) s->wpAny (model X.prog X.w) X.A (f (.int i t) (.int j u)) Q E s) :
 jm X f (rI0 fun i j=>.bl (g i j)):=by
 intro dg s σ H x y v u Q I rx ry h
 obtain⟨i,j,rfl,rfl,q⟩:=h
 obtain⟨t,rfl⟩:=rx
 obtain⟨t',rfl⟩:=ry
 exact rule i j t t' s _ _ ⟨.bl (g i j),H,I,rfl,q⟩
def CDiv (i j:Int):Prop:=0<j/\j<1073741824
def CPow (i j:Int):Prop:=0<=j/\j<=1000000/\i.natAbs<2 ^ 64
def CMul (i j:Int):Prop:=(-(2 ^ 64)<i/\i<2 ^ 64)\/(-(2 ^ 64)<j/\j<2 ^ 64)
def CMul.ok {i j:Int}(h:CMul i j):IntMulOk i j:=by
 rcases h with⟨h1,h2⟩ | ⟨h1,h2⟩
 ·exact .of_left (intBits_le_64 h1 h2)
 ·exact .of_right (intBits_le_64 h1 h2)
def op_add:jm X (binaryOp .Add) (rI0 fun i j=>.int (i+j)):=opI0 fun _ _ _ _ _ _ _ q=>add_int q
def op_sub:jm X (binaryOp .Sub) (rI0 fun i j=>.int (i - j)):=opI0 fun _ _ _ _ _ _ _ q=>sub_int q
def op_mul:jm X (binaryOp .Mult) (rI CMul fun i j=>.int (i*j)):=opI fun _ _ _ _ _ _ _ hc q=>mul_int q hc.ok
def op_fdiv:jm X (binaryOp .FloorDiv) (rI CDiv fun i j=>.int (i / j)):=opI fun i j _ _ _ _ _ hc q=>by
 have h1:(0:Int)<j:=hc.1
 have h2:j<1073741824:=hc.2
 exact floordiv_int (by omega) (by rw[Int.fdiv_eq_ediv_of_nonneg i (by omega)];exact q) (.inl (PyProof.noPylong_small (by omega)))
def op_mod:jm X (binaryOp .Mod) (rI (fun _ j=>0<j) fun i j=>.int (i%j)):=opI fun i j _ _ _ _ _ hc q=>by
 have h1:(0:Int)<j:=hc
 exact mod_int' (by omega) (by rw[Int.fmod_eq_emod_of_nonneg i (by omega)];exact q)
def op_pow:jm X (binaryOp .Pow) (rI CPow fun i j=>.int (i ^ j.toNat)):=opI fun _ _ _ _ _ _ _ hc q=>pow_int_small hc.1 hc.2.1 hc.2.2 q
def unI {f:Value->Sem Value}{g:Int->Int}
 (rule:∀(i:Int) (t:Tok) (s:Shared) (Q:Value->Shared->Prop) (E:Value->Shared->Prop),Q (.int (g i) s.toks) { s with toks:=s.toks+1}->wpAny (model X.prog X.w) X.A (f (.int i t)) Q E s) :
 UnR X f (rU fun i=>.int (g i)):=by
 intro dg s σ H x v Q I rx h
 obtain⟨i,rfl,q⟩:=h
 obtain⟨t,rfl⟩:=rx
 exact rule i t s _ _ ⟨.int (g i),H,I.tok _,⟨_,rfl⟩,q⟩
def un_neg:UnR X (unaryOp .USub) (rU fun i=>.int (-i)):=unI fun _ _ _ _ _ q=>neg_int q
end
def scal:V->V->Bool
 | .fV,.fV=>true | .fV,.int _=>true | .int _,.fV=>true | .fV,.bl _=>true | .bl _,.fV=>true | .fV,.str _=>true | .str _,.fV=>true
 | .int _,.int _=>true | .bl _,.bl _=>true | .str _,.str _=>true | .byt _,.byt _=>true
 | .int _,.str _=>true | .str _,.int _=>true | .bl _,.str _=>true | .str _,.bl _=>true
 | _,_=>false
def rEq:R2:=fun x y H Q=>scal x y=true/\Q (.bl (decide (x=y))) H
def rNe:R2:=fun x y H Q=>scal x y=true/\Q (.bl (!decide (x=y))) H
def FW {i j:Int}:decide (V.int i=V.int j)=(i==j):=by
 rw[cD]
 simp
def dec_bl {i j:Bool}:decide (V.bl i=V.bl j)=(i==j):=by
 rw[cD]
 simp
def FV {i j:Str}:decide (V.str i=V.str j)=(i==j):=by
 rw[cD]
 simp
def FY {i j:Array UInt8}:decide (V.byt i=V.byt j)=(i.toList==j.toList):=by
 rw[cD]
 cases i
 cases j
 simp
section
variable {X:Cx}{a b c:Expr}{ta tb tc:TE}{pos:Pos}
def fH {dg:List (Addr×Obj)}{σ:St}{H:Hp}{s:Shared}{Q:VK}{k k':Bool}(I:Inv X dg σ H s)(q:Q (.bl k) H)(e:k=k'):EP X dg σ Q (.bool k') s:=by
 subst e
 exact⟨.bl k,H,I,rfl,q⟩
def op_eq:jm X (compareOp .Eq) rEq:=by
 intro dg s σ H x y v u Q I rx ry h
 obtain⟨hs,q⟩:=h
 cases x with
 | fV =>
  cases rx
  cases y with
  | fV=>cases ry;exact PySem.EqNone.eq_none_none (fH I q (by simp))
  | bl j=>cases ry;exact PySem.EqNone.eq_none_bool (fH I q (by simp))
  | int j=>obtain⟨t',rfl⟩:=ry;exact PySem.EqNone.eq_none_int (fH I q (by simp))
  | str j=>obtain⟨t',rfl⟩:=ry;exact PySem.EqNone.eq_none_str (fH I q (by simp))
  | _=>exact absurd (show false=true from hs) aE
 | bl i =>
  cases rx
  cases y with
  | fV=>cases ry;exact PySem.EqNone.eq_bool_none (fH I q (by simp))
  | bl j=>cases ry;exact eq_bool (fH I q dec_bl)
  | str j=>obtain⟨t',rfl⟩:=ry;exact PySem.EqMixed.eq_bool_str (fH I q (by simp))
  | _=>exact absurd (show false=true from hs) aE
 | int i =>
  obtain⟨t,rfl⟩:=rx
  cases y with
  | fV=>cases ry;exact PySem.EqNone.eq_int_none (fH I q (by simp))
  | int j=>obtain⟨t',rfl⟩:=ry;exact eq_int (fH I q FW)
  | str j=>obtain⟨t',rfl⟩:=ry;exact PySem.EqMixed.eq_int_str (fH I q (by simp))
  | _=>exact absurd (show false=true from hs) aE
 | str i =>
  obtain⟨t,rfl⟩:=rx
  cases y with
  | fV=>cases ry;exact PySem.EqNone.eq_str_none (fH I q (by simp))
  | bl j=>cases ry;exact PySem.EqMixed.eq_str_bool (fH I q (by simp))
  | int j=>obtain⟨t',rfl⟩:=ry;exact PySem.EqMixed.eq_str_int (fH I q (by simp))
  | str j=>obtain⟨t',rfl⟩:=ry;exact eq_str (fH I q FV)
  | _=>exact absurd (show false=true from hs) aE
 | byt i =>
  obtain⟨t,rfl⟩:=rx
  cases y with
  | byt j=>obtain⟨t',rfl⟩:=ry;exact W.eq_bytes (fH I q FY)
  | _=>exact absurd (show false=true from hs) aE
 | _=>cases y <;> exact absurd (show false=true from hs) aE
def op_ne:jm X (compareOp .NotEq) rNe:=by
 intro dg s σ H x y v u Q I rx ry h
 obtain⟨hs,q⟩:=h
 cases x with
 | fV =>
  cases rx
  cases y with
  | fV=>cases ry;exact PySem.EqNone.ne_none_none (fH I q (by simp))
  | bl j=>cases ry;exact PySem.EqNone.ne_none_bool (fH I q (by simp))
  | int j=>obtain⟨t',rfl⟩:=ry;exact PySem.EqNone.ne_none_int (fH I q (by simp))
  | str j=>obtain⟨t',rfl⟩:=ry;exact PySem.EqNone.ne_none_str (fH I q (by simp))
  | _=>exact absurd (show false=true from hs) aE
 | bl i =>
  cases rx
  cases y with
  | fV=>cases ry;exact PySem.EqNone.ne_bool_none (fH I q (by simp))
  | bl j=>cases ry;exact ne_bool (fH I q (bL not dec_bl))
  | str j=>obtain⟨t',rfl⟩:=ry;exact PySem.EqMixed.ne_bool_str (fH I q (by simp))
  | _=>exact absurd (show false=true from hs) aE
 | int i =>
  obtain⟨t,rfl⟩:=rx
  cases y with
  | fV=>cases ry;exact PySem.EqNone.ne_int_none (fH I q (by simp))
  | int j=>obtain⟨t',rfl⟩:=ry;exact ne_int (fH I q (bL not FW))
  | str j=>obtain⟨t',rfl⟩:=ry;exact PySem.EqMixed.ne_int_str (fH I q (by simp))
  | _=>exact absurd (show false=true from hs) aE
 | str i =>
  obtain⟨t,rfl⟩:=rx
  cases y with
  | fV=>cases ry;exact PySem.EqNone.ne_str_none (fH I q (by simp))
  | bl j=>cases ry;exact PySem.EqMixed.ne_str_bool (fH I q (by simp))
  | int j=>obtain⟨t',rfl⟩:=ry;exact PySem.EqMixed.ne_str_int (fH I q (by simp))
  | str j=>obtain⟨t',rfl⟩:=ry;exact ne_str (fH I q (bL not FV))
  | _=>exact absurd (show false=true from hs) aE
 | byt i =>
  obtain⟨t,rfl⟩:=rx
  cases y with
  | byt j=>obtain⟨t',rfl⟩:=ry;exact W.ne_bytes (fH I q (bL not FY))
  | _=>exact absurd (show false=true from hs) aE
 | _=>cases y <;> exact absurd (show false=true from hs) aE
def op_lt:jm X (compareOp .Lt) (rI0 fun i j=>.bl (decide (i<j))):=opB0 fun _ _ _ _ _ _ _ q=>lt_int q
def op_le:jm X (compareOp .LtE) (rI0 fun i j=>.bl (decide (i<=j))):=opB0 fun _ _ _ _ _ _ _ q=>le_int q
def op_gt:jm X (compareOp .Gt) (rI0 fun i j=>.bl (decide (j<i))):=opB0 fun _ _ _ _ _ _ _ q=>gt_int q
def op_ge:jm X (compareOp .GtE) (rI0 fun i j=>.bl (decide (j<=i))):=opB0 fun _ _ _ _ _ _ _ q=>ge_int q
def op_in_str:jm X (compareOp .In) (fun x y H Q=>∃ i j,x=.str i/\y=.str j/\Q (.bl (!(Builtin.Str.occurrences j i 0 j.length 1).isEmpty)) H):=by
 intro dg s σ H x y v u Q I rx ry h
 obtain⟨i,j,rfl,rfl,q⟩:=h
 obtain⟨t,rfl⟩:=rx
 obtain⟨t',rfl⟩:=ry
 exact in_str (fH I q rfl)
def jm.or {f:Value->Value->Sem Value}{r r':R2}(h:jm X f r)(h':jm X f r'):jm X f (fun x y H Q=>r x y H Q\/r' x y H Q):=by
 intro dg s σ H x y v u Q I rx ry q
 rcases q with q | q
 ·exact h dg s σ H x y v u Q I rx ry q
 ·exact h' dg s σ H x y v u Q I rx ry q
def gU (b:Expr){op:CmpOp}(h:op≠.In:=by decide)(h2:op≠.NotIn:=by decide):behindInMarks op b=false:=by
 have e1:(op==CmpOp.In)=false:=by cases op <;> first | rfl | exact absurd rfl h
 have e2:(op==CmpOp.NotIn)=false:=by cases op <;> first | rfl | exact absurd rfl h2
 cases b <;> simp[behindInMarks,e1,e2]
def rL {op:CmpOp}{r:R2}(ho:jm X (compareOp op) r)(ha:PE X a ta)(hb:PE X b tb)(hm:behindInMarks op b=false):PE X (.Compare a [op] [b] pos) (tOp r ta tb):=by
 intro dg s σ H Q I h
 exact wpAny_Compare1 (binT ha hb I h fun v u s2 x y H2 I2 rx ry q=>ho dg s2 σ H2 x y v u Q I2 rx ry q) hm
def tChain (r r':R2)(ta tb tc:TE):TE:=fun σ H Q=>ta σ H fun x H1=>tb σ H1 fun y H2=>r x y H2 fun z H3=>∃ k,z=.bl k /\
 (if k=true then tc σ H3 fun w' H4=>r' y w' H4 Q else Q (.bl false) H3)
def pe_chain {op op':CmpOp}{r r':R2}(ho:jm X (compareOp op) r)(wM:jm X (compareOp op') r')(ha:PE X a ta)(hb:PE X b tb)(hc:PE X c tc)
 (hm:lastMarks [op,op'] [b,c]=false:=by with_unfolding_all rfl):PE X (.Compare a [op,op'] [b,c] pos) (tChain r r' ta tb tc):=by
 intro dg s σ H Q I h
 refine Compare_chain (fK (ha dg s σ H _ I h) fun v s1 ⟨x,H1,I1,r1,q1⟩=>chain_link (fK (hb dg s1 σ H1 _ I1 q1) fun u s2 ⟨y,H2,I2,r2,q2⟩ =>
  fK (ho dg s2 σ H2 x y v u _ I2 r1 r2 q2) fun d s3 ⟨z,H3,I3,r3,k,e,q3⟩=>?_)) hm
 subst e
 cases r3
 refine bJ ?_
 cases k with
 | false=>exact ite_ff ⟨.bl false,H3,I3,rfl,q3⟩
 | true=>exact ite_tt (chain_last (fK (hc dg s3 σ H3 _ I3 q3) fun w' s4 rY=>by obtain⟨z',H4,I4,r4,q4⟩:=rY;exact wM dg s4 σ H4 y z' u w' Q I4 r2 r4 q4))
def qF:(sizeLine:Nat)<2 ^ 63:=by rw[sizeLine_eq];decide
def D0:jm X (binaryOp .Add) (fun x y H Q=>∃ i j,x=.str i/\y=.str j/\i.length+j.length<=sizeLine/\Q (.str (i++j)) H):=by
 intro dg s σ H x y v u Q I rx ry h
 obtain⟨i,j,rfl,rfl,hz,q⟩:=h
 obtain⟨t,rfl⟩:=rx
 obtain⟨t',rfl⟩:=ry
 exact add_str (fun t' tk=>⟨.str (i++j),H,I.tok _,⟨_,rfl⟩,q⟩) hz
def vals1 {x:V}{us:List Value}(r:eX [x] us):∃ u,us=[u]/\eP x u:=by
 cases r with
 | cons r1 r2=>cases r2;exact⟨_,rfl,r1⟩
def vals2 {x y:V}{us:List Value}(r:eX [x,y] us):∃ u w',us=[u,w']/\eP x u/\eP y w':=by
 cases r with
 | cons r1 r2 =>
  cases r2 with
  | cons r3 r4=>cases r4;exact⟨_,_,rfl,r1,r3⟩
def call_max2 (hc:X.calm=true):ia X (.builtin "max") (fun xs H Q=>∃ i j,xs=[.int i,.int j]/\Q (.int (if j>i then j else i)) H):=by
 intro dg s σ H xs us Q I r h
 obtain⟨i,j,rfl,q⟩:=h
 obtain⟨u,w',rfl,⟨t,rfl⟩,⟨t',rfl⟩⟩:=vals2 r
 refine max_two_ints (I.ok.hd hc) fun h' tk k=>⟨_,H,I.dj k,?_,q⟩
 by_cases hj:j>i
 ·rw[aj hj,aj hj];exact⟨_,rfl⟩
 ·rw[ai hj,ai hj];exact⟨_,rfl⟩
end
structure EF (h:Heap)(x dx C:Addr)(mA:Str->Option Value):Prop where
 obj:h.get? x=some (W.instObj C dx)
 ns:h.Ns1 dx mA
 ne:dx≠x
def lookIn_ns {h:Heap}{dx:Addr}{mA:Str->Option Value}(n:h.Ns1 dx mA):∃ od,h.get? dx=some od/\∀ name,W.lookIn name od=some (mA name):=by
 obtain⟨o,es,ep,ho,hd,hk,_,hm⟩:=n
 refine⟨o,ho,fun name=>?_⟩
 have e:=hm name
 unfold nsFind findBy at e
 rw[<- Array.find?_toList]at e
 unfold W.lookIn
 rw[hd]
 dsimp only
 split
 ·rename_i y q
  rw[q]at e
  exact bL some e
 ·rename_i q
  rw[q]at e
  have a:es.toList.any (·.refKey)=false:=by
   rw[List.any_eq_false]
   intro y hy
   obtain⟨z,t,hkey⟩:=hk y (Array.mem_toList_iff.mp hy)
   simp[DictEntry.refKey,hkey]
  have a':¬ es.toList.any (·.refKey)=true:=by rw[a];exact aE
  rw[ai a']
  exact bL some e
def EF.look {h:Heap}{x dx C:Addr}{mA:Str->Option Value}(I:EF h x dx C mA):∃ od,W.InstAt h x (W.instObj C dx) C (some od)/\∀ name,W.lookIn name od=some (mA name) :=
 let ⟨od,ho,hl⟩:=lookIn_ns I.ns
 ⟨od,⟨I.obj,rfl,rfl,ho⟩,hl⟩
section
variable {prog:ae}{w:af}{A:Around}{E:Value->Shared->Prop}{s:Shared}{K:aa}{x dx C f:Addr}{mA:Str->Option Value}{name:Str}{v:Value}
def get_map {expr:Bool}{Q:Value->Shared->Prop}(X:K.In s.heap)(I:EF s.heap x dx C mA)(hg:W.plainGet K C name=true)(hh:W.hasDictIn K C=true)
 (ha:W.findIn K (.ref C) name=some none) (hv:mA name=some v) (hv':W.handedIn v=true) (h:Q v { s with toks:=s.toks+1}) :
 wpAny (model prog w) A (getAttr (.ref x) name expr) Q E s:=by
 obtain⟨od,J,hl⟩:=I.look
 exact W.get_value X J (W.plainGet_of hg).1 (W.findObj_own hh ha rfl (by rw[hl,hv])) hv' h
def get_meth {pl:Sem Bool}{Q:Value×List Value->Shared->Prop}(X:K.In s.heap)(I:EF s.heap x dx C mA)(hg:W.plainGet K C name=true)
 (hf:W.findIn K (.ref C) name=some (some (.ref f))) (ht:W.isFn K (.ref f)=true) (hv:mA name=none) (h:Q (.ref f,[.ref x]) s) :
 wpAny (model prog w) A (getMethod (.ref x) name pl) Q E s:=by
 obtain⟨od,J,hl⟩:=I.look
 exact W.method_fn X J (W.plainGet_of hg).1 (W.plainGet_of hg).2 hf (beq_iff_eq.mp ht) (by show(W.lookIn name od).map (·.isSome)=some false;rw[hl,hv];rfl) h
def set_map {ns:List Str}{Q:Unit->Shared->Prop}(X:K.In s.heap)(I:EF s.heap x dx C mA)
 (hs:W.findIn K (.ref C) "__setattr__"=some (some (.builtin "object.__setattr__"))) (hp:W.plainOver K C=true) (ht:W.takerIn K C name=some none) (hh:W.hasDictIn K C=true)
 (hw:PySem.Within mA ns) (hsz:ns.length<=sizeLine)
 (h:∀ h',EF h' x dx C (fun y=>if y=name then some v else mA y)->Heap.SameBut dx s.heap h'->Q () { s with heap:=h',toks:=s.toks+2}) :
 wpAny (model prog w) A (setAttr (.ref x) name v) Q E s:=by
 obtain⟨od,J,hl⟩:=I.look
 refine W.set_plain X J hs (W.osa_open (s:={ s with toks:=s.toks+1}) (r:=none) X J hp ht fun b=>?_)
 obtain⟨cd,hc,hd'⟩:=W.any_some hh
 have hx:s.heap.get? x=some ⟨.ref C,some dx,.plain,#[]⟩:=I.obj
 refine eI (ar (eI (eI (wpAny_loadPart hx (eI (W.Looks.here (s:={ s with toks:=s.toks+1}) (W.looks_clsIn X hc) ?_))))))
 rw[hd']
 refine ar (a:=some dx) (eI (ar (eI ?_)))
 refine wpAny_nsSet1 (s:={ s with toks:=s.toks+1}) I.ns fun h' hn2 B9=>?_
 obtain⟨oD,esD,epD,hoD,hdD,hcD⟩:=hn2.count (PySem.Within.cons name v hw)
 refine eI (wpAny_lookBehind hoD (by rw[hdD];exact pastItsLine_dict (az hcD (by rw[aI];omega))) ?_)
 exact ar (h _ ⟨(B9.2 _ (bf I.ne)).trans I.obj,hn2,I.ne⟩ B9)
def make_map {R:Result->Shared->Prop}{vs:List Value}{kw:List (Str×Value)}(X:K.In s.heap)(hm:W.makesIn K C=true)
 (hi:W.findIn K (.ref C) "__init__"=some (some (.ref f))) (hf:W.typeIn K (.ref f)=some (.type "function"))
 (h:codeAny (model prog w) (A.under (.builtin "type.__call__" ⟨.ref C::vs,kw⟩)) (.call (.ref f) ⟨.ref (s.heap.objs.size+1)::vs,kw⟩) (W.InitBack (s.heap.objs.size+1) R)
   { s with heap:=(s.heap.push W.emptyDict).push (W.instObj C s.heap.objs.size)}) :
 codeAny (model prog w) A (.call (.ref C) ⟨vs,kw⟩) R s:=by
 obtain⟨hh,g,d,t,os⟩:=s
 exact W.make_core (W.makes_of X hm) (W.looks_findIn X hi) (fun self=>W.bind_fn X self hf) (.inl rfl) h
end
def lr (f:Str)(v:V):List (Str×V)->List (Str×V)
 | []=>[(f,v)]
 | (g,x)::r=>if g=f then(g,v)::r else(g,x)::lr f v r
def ui (f g:Str)(v:V):∀ fs:List (Str×V),(lr f v fs).lookup g=if g=f then some v else fs.lookup g
 | []=>by
  show List.lookup g [(f,v)]=_
  by_cases h:g=f
  ·have hb:(g==f)=true:=beq_iff_eq.mpr h
   simp only[List.lookup,hb,aj h]
  ·have hb:(g==f)=false:=beq_eq_false_iff_ne.mpr h
   simp only[List.lookup,hb,ai h]
 | (k,x)::r=>by
  have ih:=ui f g v r
  rw[show lr f v ((k,x)::r)=(if k=f then(k,v)::r else(k,x)::lr f v r)from rfl]
  by_cases hk:k=f
  ·rw[aj hk]
   by_cases h:g=k
   ·have hb:(g==k)=true:=beq_iff_eq.mpr h
    simp only[List.lookup,hb,aj (h.trans hk)]
   ·have hb:(g==k)=false:=beq_eq_false_iff_ne.mpr h
    simp only[List.lookup,hb,ai (fun e:g=f=>h (e.trans hk.symm))]
  ·rw[ai hk]
   by_cases h:g=k
   ·have hb:(g==k)=true:=beq_iff_eq.mpr h
    simp only[List.lookup,hb,ai (fun e:g=f=>hk (h.symm.trans e))]
   ·have hb:(g==k)=false:=beq_eq_false_iff_ne.mpr h
    simp only[List.lookup,hb]
    exact ih
def tI (f:Str)(v:V):∀ fs:List (Str×V),f∈(lr f v fs).map (·.1)/\∀ g,g∈fs.map (·.1)->g∈(lr f v fs).map (·.1)
 | []=>⟨by simp[lr],fun g h=>by simp at h⟩
 | (k,x)::r=>by
  obtain⟨i1,i2⟩:=tI f v r
  rw[show lr f v ((k,x)::r)=(if k=f then(k,v)::r else(k,x)::lr f v r)from rfl]
  by_cases hk:k=f
  ·rw[aj hk]
   subst hk
   exact⟨by simp,fun g h=>by simpa using h⟩
  ·rw[ai hk]
   refine⟨?_,fun g h=>?_⟩
   ·rw[ao]
    exact nV _ i1
   ·rw[ao]at h ⊢
    rcases List.mem_cons.mp h with e | e
    ·exact List.mem_cons.mpr (.inl e)
    ·exact nV _ (i2 g e)
def uk (f:Str)(v:V):∀ fs:List (Str×V),(lr f v fs).length<=fs.length+1
 | []=>by simp[lr]
 | (k,x)::r=>by
  have ih:=uk f v r
  rw[show lr f v ((k,x)::r)=(if k=f then(k,v)::r else(k,x)::lr f v r)from rfl]
  by_cases hk:k=f
  ·rw[aj hk,aI,aI];omega
  ·rw[ai hk,aI,aI];omega
def pT.some_of {v:V}{o:Option Value}(r:pT (some v) o):∃ u,o=some u/\eP v u:=by
 cases o with
 | none=>exact(show False from r).elim
 | some u=>exact⟨u,rfl,r⟩
def pT.none_of {o:Option Value}(r:pT none o):o=none:=by
 cases o with
 | none=>rfl
 | some u=>exact(show False from r).elim
def handed_of {v:V}{u:Value}(r:eP v u):W.handedIn u=true:=by
 cases v with
 | fV=>cases(show u=Value.none from r);rfl
 | bl b=>cases(show u=Value.bool b from r);rfl
 | int i=>obtain⟨t,e⟩:=(show ∃ t,u=Value.int i t from r);cases e;rfl
 | str x=>obtain⟨t,e⟩:=(show ∃ t,u=Value.str x t from r);cases e;rfl
 | byt b=>obtain⟨t,e⟩:=(show ∃ t,u=Value.bytes b t from r);cases e;rfl
 | flt b=>obtain⟨t,e⟩:=(show ∃ t,u=Value.float b t from r);cases e;rfl
 | ref a=>cases(show u=Value.ref a from r);rfl
 | ty n=>cases(show u=Value.type n from r);rfl
section
variable {P:ae}{w:af}{H H':Hp}{h h':Heap}{a C dx:Addr}{fs fs':List (Str×V)}
def vm (eE:ot P w H h)(e:H a=some (.ins C dx fs)):∃ mA,EF h a dx C mA/\(∀ f,pT (fs.lookup f) (mA f))/\PySem.Within mA (fs.map (·.1))/\fs.length<=1000/\H dx=some (.own a):=by
 obtain⟨d,z,ne,ob,mA,n,r,q⟩:=(show fJ P w H h a (.ins C dx fs)from eE a _ e)
 exact⟨mA,⟨ob,n,ne⟩,r,q,z,d⟩
end
structure xI (K:aa)(C:Addr):Prop where
 pg:W.plainGet K C Str.empty=true
 hd:W.hasDictIn K C=true
 po:W.plainOver K C=true
 sa:W.findIn K (.ref C) "__setattr__"=some (some (.builtin "object.__setattr__"))
def xI.get {K:aa}{C:Addr}(c:xI K C)(f:Str):W.plainGet K C f=true:=c.pg
def lG (K:aa)(C:Addr)(f:Str):Prop:=W.findIn K (.ref C) f=some none
def lG.taker {K:aa}{C:Addr}{f:Str}(n:lG K C f):W.takerIn K C f=some none:=by
 unfold W.takerIn
 rw[show W.findIn K (.ref C) f=some none from n]
 rfl
structure Meth (K:aa)(C:Addr)(m:Str)(f:Addr):Prop where
 at_:W.findIn K (.ref C) m=some (some (.ref f))
 fn:W.isFn K (.ref f)=true
 kp:W.keepIn K (.ref f)=true
section
variable {X:Cx}{dg:List (Addr×Obj)}{σ:St}{H:Hp}{s:Shared}{a C dx:Addr}{fs:List (Str×V)}{f:Str}{v:V}{A:Around}{E:Value->Shared->Prop}
def wO {b:Bool}{Q:Value->Shared->Prop}(I:Inv X dg σ H s)(e:H a=some (.ins C dx fs))(c:xI X.K C)(n:lG X.K C f)(l:fs.lookup f=some v)
 (h:∀ u s',Inv X dg σ H s'->eP v u->Q u s'):wpAny (model X.prog X.w) A (getAttr (.ref a) f b) Q E s:=by
 obtain⟨mA,O,r,_,_,_⟩:=vm I.eE e
 obtain⟨u,hu,ru⟩:=pT.some_of (v:=v) (o:=mA f) (by rw[<- l];exact r f)
 exact get_map I.qw O (c.get f) c.hd n hu (handed_of ru) (h u _ (I.tok _) ru)
def qL {m:Str}{g:Addr}{pl:Sem Bool}{Q:Value×List Value->Shared->Prop}(I:Inv X dg σ H s)(e:H a=some (.ins C dx fs))(c:xI X.K C)(k:Meth X.K C m g)(l:fs.lookup m=none)
 (h:Q (.ref g,[.ref a]) s):wpAny (model X.prog X.w) A (getMethod (.ref a) m pl) Q E s:=by
 obtain⟨mA,O,r,_,_,_⟩:=vm I.eE e
 have hn:mA m=none:=pT.none_of (by rw[<- l];exact r m)
 exact get_meth I.qw O (c.get m) k.at_ k.fn hn h
def vS {y:V}{u:Value}{Q:Unit->Shared->Prop}(I:Inv X dg σ H s)(e:H a=some (.ins C dx fs))(c:xI X.K C)(n:lG X.K C f)(hl:fs.length<1000)(ry:eP y u)
 (h:∀ s',Inv X dg σ (upd H a (.ins C dx (lr f y fs))) s'->Q () s'):wpAny (model X.prog X.w) A (setAttr (.ref a) f u) Q E s:=by
 obtain⟨mA,O,r,wi,_,ho⟩:=vm I.eE e
 have hz:(fs.map (·.1)).length<=sizeLine:=by rw[fF,sizeLine_eq];omega
 refine set_map I.qw O c.sa c.po n.taker c.hd wi hz fun h' O' sb=>h _ ?_
 have hd:∃ o,h'.get? dx=some o:=let ⟨o,_,_,e',_⟩:=O'.ns;⟨o,e'⟩
 refine I.write (x:=a) (e:=dx) (by rw[e];exact True.intro) (.inr ho) (fun b q hb z=>(sb.2 b hb).trans z) hd ?_
 refine⟨by rw[d9 O.ne];exact ho,?_,O.ne,O'.obj,_,O'.ns,fun g=>?_,fun g hg=>?_⟩
 ·have:=uk f y fs;omega
 ·show pT ((lr f y fs).lookup g) (if g=f then some u else mA g)
  rw[ui]
  by_cases q:g=f
  ·rw[aj q,aj q];exact ry
  ·rw[ai q,ai q];exact r g
 ·by_cases q:g=f
  ·rw[q];exact(tI f y fs).1
  ·refine(tI f y fs).2 g (wi g fun z=>hg ?_)
   show(if g=f then some u else mA g)=none
   rw[ai q];exact z
def Inv.made (I:Inv X dg σ H s):Inv X dg σ (upd (upd H s.heap.objs.size (.own (s.heap.objs.size+1))) (s.heap.objs.size+1) (.ins C s.heap.objs.size []))
 { s with heap:=(s.heap.push W.emptyDict).push (W.instObj C s.heap.objs.size)}:=by
 have e1:(s.heap.push W.emptyDict).get? s.heap.objs.size=some W.emptyDict:=aB s.heap rfl
 have e2:((s.heap.push W.emptyDict).push (W.instObj C s.heap.objs.size)).get? (s.heap.objs.size+1)=some (W.instObj C s.heap.objs.size):=by
  have:=aB (s.heap.push W.emptyDict) (o:=W.instObj C s.heap.objs.size) rfl
  rwa [ba]at this
 have e3:(s.heap.push W.emptyDict).Ns s.heap.objs.size (fun _=>none):=⟨W.emptyDict,#[],_,e1,rfl,(fun e he=>absurd he (by simp)),fun _=>rfl⟩
 have I1:=I.laid (a:=s.heap.objs.size) (o:=.own (s.heap.objs.size+1)) (h':=s.heap.push W.emptyDict) (t':=s.toks) (fun b u q=>jt _ q) (ah _) ⟨_,e1⟩
 refine I1.laid (a:=s.heap.objs.size+1) (o:=.ins C s.heap.objs.size []) (t':=s.toks) (fun b u q=>jt _ q) (Nat.le_of_eq (ba _ _)) ?_
 have ne:s.heap.objs.size≠s.heap.objs.size+1:=aF (bR _)
 refine⟨by rw[d9 ne,dW],aY _,ne,e2,fun _=>none,(Heap.Ns1.of_empty e3).at fun o q=>jt _ q,fun _=>True.intro,fun y hy=>absurd rfl hy⟩
def attr_of {prog:ae}{w:af}{env:Env}{e:Expr}{f:Str}{pos:Pos}{s:Shared}{Q:Value->Shared->Prop}(hb:attributeBase e f env (eval e env)=eval e env)
 (h:wpAny (model prog w) A (eval e env) (fun o s₁=>wpAny (model prog w) A (getAttr o f true) Q E s₁) E s):wpAny (model prog w) A (eval (.Attribute e f pos) env) Q E s :=
 Attribute_any_ h (by rw[arm_eval_Attribute,hb])
end
def tFld (K:aa)(ta:TE)(f:Str):TE:=fun σ H Q=>ta σ H fun x H1=>∃ a C dx fs v,x=.ref a/\H1 a=some (.ins C dx fs)/\xI K C/\lG K C f/\fs.lookup f=some v/\Q v H1
def sFld (K:aa)(ta tv:TE)(f:Str):TS:=fun D σ H=>tv σ H fun y H1=>ta σ H1 fun x H2=>∃ a C dx fs,x=.ref a/\H2 a=some (.ins C dx fs)/\xI K C/\lG K C f/\fs.length<1000 /\
 D.nx σ (upd H2 a (.ins C dx (lr f y fs)))
def InOp (X:Cx)(op:Operator)(rd:V->V->Hp->VK->Prop):Prop :=
 ∀(dg:List (Addr×Obj)) (s:Shared) (σ:St) (H:Hp) (x y:V) (u v:Value) (Q:VK),Inv X dg σ H s->eP x u->eP y v->rd x y H Q->wpAny (model X.prog X.w) X.A (inplaceOp op u v) (EP X dg σ Q) X.xe s
def Fg (K:aa)(ta tv:TE)(rd:V->V->Hp->VK->Prop)(f:Str):TS:=fun D σ H=>ta σ H fun x H1=>∃ a C dx fs v,x=.ref a/\H1 a=some (.ins C dx fs)/\xI K C/\lG K C f/\fs.lookup f=some v /\
 tv σ H1 fun y H2=>rd v y H2 fun z H3=>∃ dx' fs',H3 a=some (.ins C dx' fs')/\fs'.length<1000/\D.nx σ (upd H3 a (.ins C dx' (lr f z fs')))
section
variable {X:Cx}{o e value:Expr}{f:Str}{pos pos' q9:Pos}{ta tv:TE}
def pe_fld (he:PE X e ta)(hb:attributeBase e f X.env (eval e X.env)=eval e X.env):PE X (.Attribute e f pos) (tFld X.K ta f):=by
 intro dg s σ H Q I h
 refine attr_of hb (fK (he dg s σ H _ I h) fun u s1 qJ=>?_)
 obtain⟨x,H1,I1,rx,a,C,dx,fs,v,ex,ea,c,n,l,q⟩:=qJ
 subst ex
 obtain rfl:u=Value.ref a:=rx
 exact wO I1 ea c n l fun u' s2 I2 ru=>⟨v,H1,I2,ru,q⟩
def ps_fld (ha:PE X o ta)(hv:PE X value tv)(hs:swapsWith value (some (.Attribute o f pos')) pos.line X.env=pure false):PS X (.Assign [.Attribute o f pos'] value pos) (sFld X.K ta tv f):=by
 intro dg s σ H D I h
 refine plainObj_wpAny_Assign_Attribute (fK (hv dg s σ H _ I h) fun u s1 qm=>?_) hs
 obtain⟨y,H1,I1,ry,q⟩:=qm
 refine fK (ha dg s1 σ H1 _ I1 q) fun ov s2 qY=>?_
 obtain⟨x,H2,I2,rx,a,C,dx,fs,ex,ea,c,n,l,q2⟩:=qY
 subst ex
 obtain rfl:ov=Value.ref a:=rx
 exact vS I2 ea c n l ry fun s3 I3=>⟨σ,_,I3,q2⟩
def ps_fldaug {op:Operator}{rd:V->V->Hp->VK->Prop}(ha:PE X o ta)(hv:PE X value tv)(hop:InOp X op rd):PS X (.AugAssign (.Attribute o f q9) op value pos) (Fg X.K ta tv rd f):=by
 intro dg s σ H D I h
 refine wpAny_AugAssign_AttributeAny (fK (ha dg s σ H _ I h) fun ov s1 oK=>?_)
 obtain⟨x,H1,I1,rx,a,C,dx,fs,v,ex,ea,c,n,l,q⟩:=oK
 subst ex
 obtain rfl:ov=Value.ref a:=rx
 refine wO I1 ea c n l fun u s2 I2 ru=>fK (hv dg s2 σ H1 _ I2 q) fun w3 s3 qo=>?_
 obtain⟨y,H2,I3,ry,q3⟩:=qo
 refine fK (hop dg s3 σ H2 v y u w3 _ I3 ru ry q3) fun w4 s4 qK=>?_
 obtain⟨z,H3,I4,rz,dx',fs',ea',l',q4⟩:=qK
 exact vS I4 ea' c n l' rz fun s5 I5=>⟨σ,_,I5,q4⟩
def rAdd:V->V->Hp->VK->Prop:=fun x y H Q=>∃ i j,x=.int i/\y=.int j/\Q (.int (i+j)) H
def in_add:InOp X .Add rAdd:=by
 rintro dg s σ H x y u v Q I rx ry ⟨i,j,rfl,rfl,q⟩
 obtain⟨t,rfl⟩:=(show ∃ t,u=Value.int i t from rx)
 obtain⟨t',rfl⟩:=(show ∃ t',v=Value.int j t' from ry)
 exact PyProof.Rows.iadd_int ⟨.int (i+j),H,I.tok _,⟨_,rfl⟩,q⟩
def methcall_of {pl:Sem Bool}{m:Str}{apos:Pos}{args:List Expr}{dg:List (Addr×Obj)}{s:Shared}{σ:St}{H:Hp}{Q:Value->Shared->Prop}{te:TE}(he:PE X e te)(I:Inv X dg σ H s)
 (h:te σ H fun x H1=>∃ a C dx fs g,x=.ref a/\H1 a=some (.ins C dx fs)/\xI X.K C/\Meth X.K C m g/\fs.lookup m=none /\
   ∀ s1,Inv X dg σ H1 s1->wpAny (model X.prog X.w) X.A (callWith pos (.ref g) [.ref a] (backTo pos (starEach args X.env)) (backToKw pos (keywordEach [] X.env))) Q X.xe s1)
 (ht:eval (.Call (.Attribute e m apos) args [] pos) X.env=(do
   let ov <- eval e X.env
   standAt apos.atName
   let (f,first) <- holding [ov] (getMethod ov m pl)
   callWith pos f first (backTo pos (starEach args X.env)) (backToKw pos (keywordEach [] X.env)))) :
 wpAny (model X.prog X.w) X.A (eval (.Call (.Attribute e m apos) args [] pos) X.env) Q X.xe s:=by
 refine W.methodCall_KW (pl:=pl) (fK (he dg s σ H _ I h) fun u s1 rY=>?_) ht
 obtain⟨x,H1,I1,rx,a,C,dx,fs,g,ex,ea,c,k,l,q⟩:=rY
 subst ex
 obtain rfl:u=Value.ref a:=rx
 exact qL I1 ea c k l (q s1 I1)
end
section
variable {X:Cx}{dg:List (Addr×Obj)}{σ:St}{H:Hp}{s:Shared}{A:Around}{E:Value->Shared->Prop}{Q:Value->Shared->Prop}{c:Value}{b:Bool}
inductive iZ (K:aa)(H:Hp):V->Value->Prop where
 | fV:iZ K H .fV (.type "NoneType")
 | bl (x:Bool):iZ K H (.bl x) (.type "bool")
 | int (i:Int):iZ K H (.int i) (.type "int")
 | str (x:Str):iZ K H (.str x) (.type "str")
 | flt (x:UInt64):iZ K H (.flt x) (.type "float")
 | lst {a:Addr} {xs:List V} (e:H a=some (.lst xs)):iZ K H (.ref a) (.type "list")
 | ly {a:Addr} {o:Obj} {xs:List V} (e:H a=some (.ly o (.lst xs))):iZ K H (.ref a) (.type "list")
 | tup {a:Addr} {xs:List V} (e:H a=some (.tup xs)):iZ K H (.ref a) (.type "tuple")
 | dK {a:Addr} {kvs:List (Key×V)} (e:H a=some (.dK kvs)):iZ K H (.ref a) (.type "dict")
 | dT {a:Addr} {kvs:List (List Key×V)} (e:H a=some (.dT kvs)):iZ K H (.ref a) (.type "dict")
 | ins {a C dx:Addr} {fs:List (Str×V)} (e:H a=some (.ins C dx fs)) (cl:xI K C) (ha:W.findIn K (.ref C) "__class__"=some (some (.builtin "object.__class__")))
  (hn:W.specialIn K (.builtin "object.__class__") "__get__"=some (some (.builtin "getset_descriptor.__get__"))) (htk:W.takesIn K (.builtin "object.__class__")=some true)
  (hm:W.mroIn K C (.type "object")=some true):iZ K H (.ref a) (.ref C)
def isinst_ok {x:V}{u t:Value}(I:Inv X dg σ H s)(rx:eP x u)(ty:iZ X.K H x t)(e:W.kitOne X.K t c=some b)(h:∀ tk,Q (.bool b) { s with toks:=tk}) :
 wpAny (model X.prog X.w) A (call (.builtin "isinstance") [u,c]) Q E s:=by
 cases ty with
 | fV=>cases(show u=Value.none from rx);exact cu W.kitx_none I.qw True.intro e (fun z=>nomatch z) h
 | bl y=>cases(show u=Value.bool y from rx);exact cu W.kitx_bool I.qw True.intro e (fun z=>nomatch z) h
 | int i=>obtain⟨t,q⟩:=(show ∃ t,u=Value.int i t from rx);cases q;exact cu W.kitx_int I.qw True.intro e (fun z=>nomatch z) h
 | str y=>obtain⟨t,q⟩:=(show ∃ t,u=Value.str y t from rx);cases q;exact cu W.kitx_str I.qw True.intro e (fun z=>nomatch z) h
 | flt y=>obtain⟨t,q⟩:=(show ∃ t,u=Value.float y t from rx);cases q;exact cu W.kitx_float I.qw True.intro e (fun z=>nomatch z) h
 | @lst a xs ea =>
  cases(show u=Value.ref a from rx)
  obtain⟨_,_,n,_,h1⟩:=(show fJ X.prog X.w H s.heap a (.lst xs)from I.eE a _ ea)
  exact cu W.kitx_list I.qw ⟨_,h1,rfl⟩ e (fun z=>nomatch z) h
 | @ly a ob xs ea =>
  cases(show u=Value.ref a from rx)
  obtain⟨_,_,_,n,_,h1⟩:=(show fJ X.prog X.w H s.heap a (.ly ob (.lst xs))from I.eE a _ ea)
  exact cu W.kitx_list I.qw ⟨_,h1,rfl⟩ e (fun z=>nomatch z) h
 | @tup a xs ea =>
  cases(show u=Value.ref a from rx)
  obtain⟨_,_,_,p⟩:=(show fJ X.prog X.w H s.heap a (.tup xs)from I.eE a _ ea)
  obtain⟨o,h1,h2,_⟩:=p
  exact cu W.kitx_tuple I.qw ⟨o,h1,h2⟩ e (fun z=>nomatch z) h
 | @dK a kvs ea =>
  cases(show u=Value.ref a from rx)
  obtain⟨_,_,vs,_,p⟩:=(show fJ X.prog X.w H s.heap a (.dK kvs)from I.eE a _ ea)
  obtain⟨o,es,ep,h1,h2,_⟩:=p
  exact cu W.kitx_dict I.qw ⟨o,h1,h2.1⟩ e (fun z=>nomatch z) h
 | @dT a kvs ea =>
  cases(show u=Value.ref a from rx)
  obtain⟨_,_,xs,_,o,es,ep,h1,h2,_⟩:=(show fJ X.prog X.w H s.heap a (.dT kvs)from I.eE a _ ea)
  exact cu W.kitx_dict I.qw ⟨o,h1,h2.1⟩ e (fun z=>nomatch z) h
 | @ins a C dx fs ea cl ha hn htk hm =>
  cases(show u=Value.ref a from rx)
  obtain⟨mA,O,_⟩:=vm I.eE ea
  obtain⟨od,J,_⟩:=O.look
  exact cu (W.kitx_own (cl.get _) cl.hd ha hn htk hm) I.qw J e (fun z=>nomatch z) h
end
structure gZ (k:Nat)(A:Around):Prop where
 hd:A.handled=none
 dp:A.depth+3*k+5<recursionLimit
 un:A.units+16*k+200<cLine
def gZ.mono {j k:Nat}{A:Around}(r:gZ k A)(h:j<=k):gZ j A:=⟨r.hd,by have:=r.dp;omega,by have:=r.un;omega⟩
def gZ.deeper {k:Nat}{A:Around}(r:gZ (k+1) A)(env:Env):gZ k (A.deeper env) :=
 ⟨r.hd,by have:=r.dp;show A.depth+1+3*k+5<_;omega,by have:=r.un;show A.units+3+16*k+200<_;omega⟩
def D7 {A:Around}{C:Addr}{us:List Value}{kw:List (Str×Value)}:(A.under (.builtin "type.__call__" ⟨.ref C::us,kw⟩)).depth=A.depth+1:=by
 first | rfl | simp[Around.under,Code.weight,Code.isCreation,Code.isGuard,Code.isCaller,Code.frames,Code.isFrame,guardIds]
def D6 {A:Around}{C:Addr}{us:List Value}{kw:List (Str×Value)}:(A.under (.builtin "type.__call__" ⟨.ref C::us,kw⟩)).units=A.units+1:=by
 first | rfl | simp[Around.under,Code.cUnits,Code.frames,Code.isFrame]
def gZ.make {k:Nat}{A:Around}(r:gZ (k+1) A)(C:Addr)(us:List Value)(kw:List (Str×Value)):gZ k (A.under (.builtin "type.__call__" ⟨.ref C::us,kw⟩)) :=
 ⟨r.hd,by have:=r.dp;rw[D7];omega,by have:=r.un;rw[D6];omega⟩
def gZ.depth {k:Nat}{A:Around}(r:gZ k A):A.depth<recursionLimit:=by have:=r.dp;omega
def gZ.units {k:Nat}{A:Around}(r:gZ k A):A.units+64<cLine:=by have:=r.un;omega
def tNil:TA:=fun _ H Q=>Q [] H
def tCons (ta:TE)(tr:TA):TA:=fun σ H Q=>ta σ H fun x H1=>tr σ H1 fun xs H2=>Q (x::xs) H2
section
variable {X:Cx}{e:Expr}{es:List Expr}{te:TE}{t:TA}{pos:Pos}
def gh:PA X [] tNil:=fun _ _ _ _ H Q I h=>Calls.spliced_nil ⟨[],H,I,.nil,h⟩
def d8 (ha:PE X e te)(hr:PA X es t)(hs:starEach (e::es) X.env=(false,eval e X.env)::starEach es X.env:=by rfl):PA X (e::es) (tCons te t):=by
 intro pos dg s σ H Q I h
 rw[hs]
 show wpAny _ _ (spliced ((false,eval e X.env)::backTo pos (starEach es X.env))) _ _ s
 refine Calls.spliced_cons (fK (ha dg s σ H _ I h) fun u s1 qJ=>?_)
 obtain⟨x,H1,I1,r1,q1⟩:=qJ
 exact fK (hr pos dg s1 σ H1 _ I1 q1) fun us s2 qm=>by obtain⟨xs,H2,I2,r2,q2⟩:=qm;exact⟨x::xs,H2,I2,.cons r1 r2,q2⟩
def tTup (t:TA):TE:=fun σ H Q=>t σ H fun xs H1=>xs.length<=sizeLine/\∀ p,H1 p=none->Q (.ref p) (upd H1 p (.tup xs))
def tLst (t:TA):TE:=fun σ H Q=>t σ H fun xs H1=>xs.length<=sizeLine/\∀ p,H1 p=none->Q (.ref p) (upd H1 p (.lst xs))
def pe_tup {x1}(h:PA X es t):PE X (.Tuple es x1 pos) (tTup t):=by
 intro dg s σ H Q I hq
 refine wpAny_Tuple_spliced (fK (h pos dg s σ H _ I hq) fun us s1 ⟨xs,H1,I1,r,z,q⟩=>⟨by rw[<- r.length];exact z,?_⟩)
 have hf:H1 s1.heap.objs.size=none:=I1.eE.fresh (ah _)
 refine⟨.ref s1.heap.objs.size,upd H1 s1.heap.objs.size (.tup xs),I1.laid (t':=s1.toks) (fun b u e=>jt _ e) (ah _) ?_,rfl,q _ hf⟩
 exact⟨z,us,r,⟨_,aB _ rfl,rfl,_,rfl⟩⟩
def pe_lst (h:PA X es t):PE X (.List es pos) (tLst t):=by
 intro dg s σ H Q I hq
 refine wpAny_List_spliced (fK (h pos dg s σ H _ I hq) fun us s1 ⟨xs,H1,I1,r,z,q⟩=>⟨by rw[<- r.length];exact z,?_⟩)
 have hf:H1 s1.heap.objs.size=none:=I1.eE.fresh (ah _)
 refine⟨.ref s1.heap.objs.size,upd H1 s1.heap.objs.size (.lst xs),I1.laid (t':=s1.toks) (fun b u e=>jt _ e) (ah _) ?_,rfl,q _ hf⟩
 exact⟨z,us,0,r,aB _ rfl⟩
end
abbrev Sp:=List V->Hp->VK->XK->Prop
abbrev CXT:=List Env->Hp->Shared->XK->Value->Shared->Prop
structure A1 (P:ae)(w:af)(K:aa)(mg:Str->Option Value)(dh:Heap)(A:Around)(dA:List Env)(s:Shared)(H:Hp):Prop where
 frames:A.frames=some dA
 mod:Mod K mg dh
 bs:∀ b o,dh.get? b=some o->s.heap.get? b=some o/\H b=none
 Ex:dh.objs.size<=s.heap.objs.size
 qt:s.heap.FunFrames dh dA
 frf:∀ b∈x9 dA,H b=none
 eE:ot P w H s.heap
 bare:AllBare s.gens
def CE (dA:List Env)(P:ae)(w:af)(H:Hp)(s:Shared)(Q:VK)(u:Value)(s':Shared):Prop :=
 ∃ v H',s'.os=s.os/\AllBare s'.gens/\Un (x9 dA) [] H H' s.heap s'.heap/\ot P w H' s'.heap/\eP v u/\Q v H'
def CR (CX:CXT)(dA:List Env)(P:ae)(w:af)(H:Hp)(s:Shared)(Q:VK)(E:XK)(r:Result)(s':Shared):Prop :=
 match r with
 | .ok (.ret u)=>CE dA P w H s Q u s'
 | .ok _=>False
 | .error e=>CX dA H s E e s'
structure eF (P:ae)(w:af)(K:aa)(mg:Str->Option Value)(dh:Heap)(CX:CXT)(k:Nat)(f:Addr)(fd:ag)(ps:List Str)(sp:Sp):Prop where
 len:∀ vs H Q E,sp vs H Q E->vs.length=ps.length
 run:∀(A:Around) (dA:List Env) (s:Shared) (H:Hp) (args:Args) (us:List Value) (vs:List V) (Q:VK) (E:XK),gZ k A->A1 P w K mg dh A dA s H->BindsTo s fd args (ps.zip us)->eX vs us->sp vs H Q E ->
  codeAny (model P w) A (.call (.ref f) args) (CR CX dA P w H s Q E) s
def eF.mono {P:ae}{w:af}{K:aa}{mg:Str->Option Value}{dh:Heap}{CX:CXT}{j k:Nat}{f:Addr}{fd:ag}{ps:List Str}{sp:Sp}(F:eF P w K mg dh CX j f fd ps sp)(h:j<=k) :
 eF P w K mg dh CX k f fd ps sp:=⟨F.len,fun A dA s H args us vs Q E hr=>F.run A dA s H args us vs Q E (hr.mono h)⟩
def eF.imp {P:ae}{w:af}{K:aa}{mg:Str->Option Value}{dh:Heap}{CX:CXT}{k:Nat}{f:Addr}{fd:ag}{ps:List Str}{sp sp':Sp}(F:eF P w K mg dh CX k f fd ps sp)
 (h:∀ vs H Q E,sp' vs H Q E->sp vs H Q E):eF P w K mg dh CX k f fd ps sp' :=
 ⟨fun vs H Q E q=>F.len vs H Q E (h _ _ _ _ q),fun A dA s H args us vs Q E hr he hb hv hs=>F.run A dA s H args us vs Q E hr he hb hv (h _ _ _ _ hs)⟩
def A1.make {P:ae}{w:af}{K:aa}{mg:Str->Option Value}{dh:Heap}{A:Around}{dA:List Env}{s:Shared}{H:Hp}(e:A1 P w K mg dh A dA s H)(C:Addr)(us:List Value)(kw:List (Str×Value)) :
 A1 P w K mg dh (A.under (.builtin "type.__call__" ⟨.ref C::us,kw⟩)) dA s H:=⟨by first | exact e.frames | (simpa [Around.under,Code.envs,Code.isFrame,pushEnvs]using e.frames),e.mod,e.bs,e.Ex,e.qt,e.frf,e.eE,e.bare⟩
section
variable {X:Cx}{dg:List (Addr×Obj)}{σ:St}{H:Hp}{s s':Shared}
def Inv.env0 (I:Inv X dg σ H s):A1 X.prog X.w X.K X.mg X.dh X.A X.stack s H :=
 ⟨I.ok.frames,I.ok.mod,I.bs,az I.ok.Ex I.sz,I.stack,I.pZ,I.eE,I.bare⟩
def Inv.after {Q:VK}{u:Value}(I:Inv X dg σ H s)(h:CE X.stack X.prog X.w H s Q u s'):EP X dg σ Q u s':=by
 obtain⟨v,H',os,bare,un,eE,r,q⟩:=h
 obtain⟨hh,g,d,t,os'⟩:=s'
 obtain rfl:os'=s.os:=os
 exact⟨v,H',I.call (h':=hh) (g':=g) (d':=d) (t':=t) (ch:=[]) un eE bare (fun b z=>absurd z (by simp)),r,q⟩
end
def tCall (sp:Sp)(dvs:List V)(E:XK)(t:TA):TE:=fun σ H Q=>t σ H fun vs H1=>sp (vs++dvs) H1 Q E
def EV (C:Addr)(m:Str)(sp:Sp)(dvs:List V)(E:XK)(ta:TE)(t:TA):TE:=fun σ H Q=>ta σ H fun x H1=>∃ a dx fs,x=.ref a/\H1 a=some (.ins C dx fs)/\fs.lookup m=none /\
 t σ H1 fun vs H2=>sp (x::(vs++dvs)) H2 Q E
def tMake (C:Addr)(sp:Sp)(dvs:List V)(E:XK)(t:TA):TE:=fun σ H Q=>t σ H fun vs H1=>∀ x dx,H1 x=none->H1 dx=none->dx≠x ->
 sp (.ref x::(vs++dvs)) (upd (upd H1 dx (.own x)) x (.ins C dx [])) (fun v H2=>v=.fV/\Q (.ref x) H2) E
def Binds (K:aa)(fd:ag)(ps:List Str)(ds:List Value):Prop :=
 ∀(s:Shared) (us:List Value),K.In s.heap->(us++ds).length=ps.length->BindsTo s fd ⟨us,[]⟩ (ps.zip (us++ds))
def Binds.all {K:aa}{fd:ag}{ps:List Str}(h:∀ us:List Value,us.length=ps.length->bindArgs fd ⟨us,[]⟩=pure (ps.zip us)):Binds K fd ps []:=fun s us _ hl=>by
 rw[aQ]at hl ⊢
 exact .of_eq (h us hl)
def Passes (CX:CXT)(X:Cx)(E:XK):Prop:=∀(dg:List (Addr×Obj)) (σ:St) (H:Hp) (s:Shared) (e:Value) (s':Shared),Inv X dg σ H s->CX X.stack H s E e s'->X.xe e s'
section
variable {X:Cx}{CX:CXT}{k:Nat}{f C:Addr}{fd:ag}{ps:List Str}{sp:Sp}{dvs:List V}{ds:List Value}{E:XK}{x m:Str}{p pos apos:Pos}{e o:Expr}{es:List Expr}{ta:TE}{t:TA}
def zI {dg:List (Addr×Obj)}{σ:St}{H:Hp}{s:Shared}{Q:VK}{us:List Value}{vs:List V}(F:eF X.prog X.w X.K X.mg X.dh CX k f fd ps sp)(hr:gZ k X.A)(hb:Binds X.K fd ps ds)(hd:eX dvs ds)(hx:Passes CX X E)
 (I:Inv X dg σ H s) (r:eX vs us) (h:sp (vs++dvs) H Q E):wpAny (model X.prog X.w) X.A (call (.ref f) us) (EP X dg σ Q) X.xe s:=by
 have r2:eX (vs++dvs) (us++ds):=r.append hd
 have hl:(us++ds).length=ps.length:=by rw[<- r2.length];exact F.len _ _ _ _ h
 refine wpAny_call (codeAny_mono (F.run X.A X.stack s H ⟨us,[]⟩ (us++ds) (vs++dvs) Q E hr I.env0 (hb s us I.qw hl) r2 h) fun r s' hq=>?_)
 cases r with
 | error e=>exact hx dg σ H s e s' I hq
 | ok fl =>
  cases fl with
  | ret u=>exact I.after hq
  | next=>exact False.elim hq
  | brk=>exact False.elim hq
  | cont=>exact False.elim hq
def Fq (F:eF X.prog X.w X.K X.mg X.dh CX k f fd ps sp)(hr:gZ k X.A)(hg:Gl X x)(hm:X.mg x=some (.ref f))(hk:W.keepIn X.K (.ref f)=true)(hb:Binds X.K fd ps ds)(hd:eX dvs ds)(hx:Passes CX X E)
 (ha:PA X (e::es) t) (tL:(x==("__debug__" : Str))=false:=by decide) (he:starEach (e::es) X.env=(false,eval e X.env)::starEach es X.env:=by rfl) (kO:(backTo pos (starEach es X.env)).any (·.1)=false:=by rfl) :
 PE X (.Call (.Name x p) (e::es) [] pos) (tCall sp dvs E t):=by
 intro dg s σ H Q I h
 refine bQ (nQ I hg hm ?_ tL)
 refine W.callWith_K (h₀:=X.dh) I.ok.mod.kin hk (fK (ha pos dg s σ H _ I h) fun us s1 qo=>?_) he kO
 obtain⟨vs,H1,I1,r,q⟩:=qo
 refine⟨I1.qw,?_⟩
 exact zI F hr hb hd hx I1 r q
def zQ {pl:Sem Bool}(he:PE X o ta)(c:xI X.K C)(hm:Meth X.K C m f)(F:eF X.prog X.w X.K X.mg X.dh CX k f fd ps sp)(hr:gZ k X.A)(hb:Binds X.K fd ps ds)(hd:eX dvs ds)(hx:Passes CX X E)(ha:PA X (e::es) t)
 (Dy:starEach (e::es) X.env=(false,eval e X.env)::starEach es X.env:=by rfl) (kO:(backTo pos (starEach es X.env)).any (·.1)=false:=by rfl)
 (ht:eval (.Call (.Attribute o m apos) (e::es) [] pos) X.env=(do
   let ov <- eval o X.env
   standAt apos.atName
   let (f,first) <- holding [ov] (getMethod ov m pl)
   callWith pos f first (backTo pos (starEach (e::es) X.env)) (backToKw pos (keywordEach [] X.env))):=by rfl) :
 PE X (.Call (.Attribute o m apos) (e::es) [] pos) (EV C m sp dvs E ta t):=by
 intro dg s σ H Q I h
 refine W.methodCall_KW (pl:=pl) (fK (he dg s σ H _ I h) fun u s1 qK=>?_) ht
 obtain⟨x,H1,I1,rx,a,dx,fs,ex,ea,l,q⟩:=qK
 subst ex
 obtain rfl:u=Value.ref a:=rx
 refine qL I1 ea c hm l ?_
 refine W.callWith_K (first:=[.ref a]) (h₀:=X.dh) I.ok.mod.kin hm.kp (fK (ha pos dg s1 σ H1 _ I1 q) fun us s2 rY=>?_) Dy kO
 obtain⟨vs,H2,I2,r,q2⟩:=rY
 refine⟨I2.qw,?_⟩
 exact zI (us:=.ref a::us) (vs:=.ref a::vs) F hr hb hd hx I2 (.cons rfl r) q2
def pe_meth0 {pl:Sem Bool}(he:PE X o ta)(c:xI X.K C)(hm:Meth X.K C m f)(F:eF X.prog X.w X.K X.mg X.dh CX k f fd ps sp)(hr:gZ k X.A)(hb:Binds X.K fd ps ds)(hd:eX dvs ds)(hx:Passes CX X E)
 (ht:eval (.Call (.Attribute o m apos) [] [] pos) X.env=(do
   let ov <- eval o X.env
   standAt apos.atName
   let (f,first) <- holding [ov] (getMethod ov m pl)
   callWith pos f first (backTo pos (starEach [] X.env)) (backToKw pos (keywordEach [] X.env))):=by rfl) :
 PE X (.Call (.Attribute o m apos) [] [] pos) (EV C m sp dvs E ta tNil):=by
 intro dg s σ H Q I h
 refine W.methodCall_KW (pl:=pl) (fK (he dg s σ H _ I h) fun u s1 qJ=>?_) ht
 obtain⟨x,H1,I1,rx,a,dx,fs,ex,ea,l,q⟩:=qJ
 subst ex
 obtain rfl:u=Value.ref a:=rx
 refine qL I1 ea c hm l ?_
 exact W.callWith_K0 (first:=[.ref a]) I1.qw hm.kp (zI (us:=[.ref a]) (vs:=[.ref a]) F hr hb hd hx I1 (.cons rfl .nil) q)
structure Mk (K:aa)(C f:Addr):Prop where
 makes:W.makesIn K C=true
 init:W.findIn K (.ref C) "__init__"=some (some (.ref f))
 fn:W.isFn K (.ref f)=true
 kp:W.keepIn K (.ref C)=true
def run_make {dg:List (Addr×Obj)}{σ:St}{H:Hp}{s:Shared}{Q:VK}{us:List Value}{vs:List V}(M:Mk X.K C f)(F:eF X.prog X.w X.K X.mg X.dh CX k f fd ps sp)(hr:gZ (k+1) X.A)(hb:Binds X.K fd ps ds)(hd:eX dvs ds)
 (hx:Passes CX X E) (I:Inv X dg σ H s) (r:eX vs us)
 (h:∀ x dx,H x=none->H dx=none->dx≠x->sp (.ref x::(vs++dvs)) (upd (upd H dx (.own x)) x (.ins C dx [])) (fun v H2=>v=.fV/\Q (.ref x) H2) E) :
 wpAny (model X.prog X.w) X.A (call (.ref C) us) (EP X dg σ Q) X.xe s:=by
 have hq:=h (s.heap.objs.size+1) s.heap.objs.size (I.eE.fresh (Nat.le_succ _)) (I.eE.fresh (ah _)) (aF (bR _))
 have I2:=Inv.made (C:=C) I
 have r2:eX (V.ref (s.heap.objs.size+1)::(vs++dvs)) (Value.ref (s.heap.objs.size+1)::(us++ds)):=.cons rfl (r.append hd)
 have hl:(Value.ref (s.heap.objs.size+1)::us++ds).length=ps.length:=by
  have e:=r2.length
  rw[F.len _ _ _ _ hq]at e
  exact e.symm
 refine wpAny_call (make_map (f:=f) I.qw M.makes M.init (beq_iff_eq.mp M.fn) (codeAny_mono (F.run _ X.stack _ _ ⟨Value.ref (s.heap.objs.size+1)::us,[]⟩ (Value.ref (s.heap.objs.size+1)::(us++ds)) _ _ E (hr.make C us [])
  (I2.env0.make C us []) (hb _ (Value.ref (s.heap.objs.size+1)::us) I2.qw hl) r2 hq) fun r s' hq'=>?_))
 cases r with
 | error e=>exact hx dg σ _ _ e s' I2 hq'
 | ok fl =>
  cases fl with
  | ret u =>
   obtain⟨v,H',I3,rv,ev,q3⟩:=I2.after hq'
   subst ev
   exact⟨rv,⟨V.ref (s.heap.objs.size+1),H',I3,rfl,q3⟩⟩
  | next=>exact False.elim hq'
  | brk=>exact False.elim hq'
  | cont=>exact False.elim hq'
def Fm (M:Mk X.K C f)(F:eF X.prog X.w X.K X.mg X.dh CX k f fd ps sp)(hr:gZ (k+1) X.A)(hg:Gl X x)(hm:X.mg x=some (.ref C))(hb:Binds X.K fd ps ds)(hd:eX dvs ds)(hx:Passes CX X E)
 (ha:PA X (e::es) t) (tL:(x==("__debug__" : Str))=false:=by decide) (he:starEach (e::es) X.env=(false,eval e X.env)::starEach es X.env:=by rfl) (kO:(backTo pos (starEach es X.env)).any (·.1)=false:=by rfl) :
 PE X (.Call (.Name x p) (e::es) [] pos) (tMake C sp dvs E t):=by
 intro dg s σ H Q I h
 refine bQ (nQ I hg hm ?_ tL)
 refine W.callWith_K (h₀:=X.dh) I.ok.mod.kin M.kp (fK (ha pos dg s σ H _ I h) fun us s1 qm=>?_) he kO
 obtain⟨vs,H1,I1,r,q⟩:=qm
 refine⟨I1.qw,?_⟩
 exact run_make M F hr hb hd hx I1 r q
end
structure dH (N P:List Str)(sc:Scope):Prop where
 kind:sc.kind=.function
 co:sc.isCoroutine=false
 gen:sc.isGenerator=false
 nd:N.Nodup
 pre:N.take P.length=P
 par:∀ x∈P,sc.names.lookup x=some .local\/sc.names.lookup x=some .cell
 nofree:∀ y∈sc.names,y.2≠.free
def yM {kindOf:Str->Option NameKind}{x:Str}:∀ {binds:List (Str×Value)} {m:Str->Option Value},(∀ v,(x,v)∉binds)->bindL kindOf binds m x=m x
 | [],_,_=>rfl
 | (n,v)::r,m,h=>by
  unfold bindL
  rw[yM fun w hw=>h w (nV _ hw)]
  split
  ·have:x≠n:=by rintro rfl;exact h v aC
   simp[this]
  ·rfl
def yO {kindOf:Str->Option NameKind}{x:Str}:∀ {binds:List (Str×Value)} {m:Str->Option Value},(∀ v,(x,v)∉binds)->bindC kindOf binds m x=m x
 | [],_,_=>rfl
 | (n,v)::r,m,h=>by
  unfold bindC
  rw[yO fun w hw=>h w (nV _ hw)]
  split
  ·rfl
  ·have:x≠n:=by rintro rfl;exact h v aC
   simp[this]
def yN {kindOf:Str->Option NameKind}{x:Str}{v:Value}:∀ {P:List Str} {vs:List Value} {i:Nat} {m:Str->Option Value},P.Nodup->P[i]?=some x->vs[i]?=some v->kindOf x=some .local ->
 bindL kindOf (P.zip vs) m x=some v
 | [],_,_,_,_,h,_,_=>by simp at h
 | _::_,[],_,_,_,_,h,_=>by simp at h
 | p::P,w::vs,0,m,nd,h1,h2,hk=>by
  simp at h1 h2;subst h1;subst h2
  show bindL kindOf ((p,w)::P.zip vs) m p=_
  unfold bindL
  rw[yM fun v hv=>(List.nodup_cons.mp nd).1 (List.of_mem_zip hv).1,aj hk]
  simp
 | p::P,w::vs,i+1,m,nd,h1,h2,hk=>by
  show bindL kindOf ((p,w)::P.zip vs) m x=_
  unfold bindL
  exact yN (i:=i) (List.nodup_cons.mp nd).2 (by simpa using h1) (by simpa using h2) hk
def yP {kindOf:Str->Option NameKind}{x:Str}{v:Value}:∀ {P:List Str} {vs:List Value} {i:Nat} {m:Str->Option Value},P.Nodup->P[i]?=some x->vs[i]?=some v->kindOf x≠some .local ->
 bindC kindOf (P.zip vs) m x=some v
 | [],_,_,_,_,h,_,_=>by simp at h
 | _::_,[],_,_,_,_,h,_=>by simp at h
 | p::P,w::vs,0,m,nd,h1,h2,hk=>by
  simp at h1 h2;subst h1;subst h2
  show bindC kindOf ((p,w)::P.zip vs) m p=_
  unfold bindC
  rw[yO fun v hv=>(List.nodup_cons.mp nd).1 (List.of_mem_zip hv).1,ai hk]
  simp
 | p::P,w::vs,i+1,m,nd,h1,h2,hk=>by
  show bindC kindOf ((p,w)::P.zip vs) m x=_
  unfold bindC
  exact yP (i:=i) (List.nodup_cons.mp nd).2 (by simpa using h1) (by simpa using h2) hk
def start (N:List Str)(vs:List V):St:=vs.map some++List.replicate (N.length - vs.length) none
def oN (CX:CXT)(P:ae)(w:af)(K:aa)(mg:Str->Option Value)(dh:Heap)(N:List Str)(qual:Str)(scope:Scope)(f:Addr)(cd:Value)(A:Around)(dA:List Env)(s:Shared)(H:Hp)(E:XK):Cx where
 prog:=P
 w:=w
 K:=K
 mg:=mg
 dh:=dh
 A:=A.deeper (envOfC qual scope s.heap.objs.size f cd)
 N:=N
 s₀:=s
 H₀:=H
 env:=envOfC qual scope s.heap.objs.size f cd
 dA:=dA
 stack:=envOfC qual scope s.heap.objs.size f cd::dA
 ex:=[]
 calm:=true
 fn:=fun _=>true
 pn:=[]
 xe:=fun e s'=>wpAny (model P w) (A.deeper (envOfC qual scope s.heap.objs.size f cd)) (leaving (envOfC qual scope s.heap.objs.size f cd) e) (fun _ s''=>CX dA H s E e s'') (fun e' s''=>CX dA H s E e' s'') s'
def mY {sc:Scope}{n:Nat}{x:Str}(h:sc.names.lookup x=some .cell):∃ c,(cellsFrom n sc.names []).lookup x=some c:=by
 have q:=W.cellsFrom_some sc.names n [] (.inl h)
 exact Option.isSome_iff_exists.mp q
def yB {CX:CXT}{P:ae}{w:af}{K:aa}{mg:Str->Option Value}{dh:Heap}{N ps:List Str}{qual:Str}{scope:Scope}{f:Addr}{cd:Value}{A:Around}{dA:List Env}{s s1:Shared}{H:Hp}{E:XK}{us:List Value}{vs:List V}
 (S:dH N ps scope) (hd:A.handled=none) (e0:A1 P w K mg dh A dA s H) (hl:vs.length=ps.length) (r:eX vs us)
 (x:InCallC s s.heap.objs.size (bindL (envOfC qual scope s.heap.objs.size f cd).kindOf (ps.zip us) fun _=>none) (cellsFrom (s.heap.objs.size+1) scope.names []) (bindC (envOfC qual scope s.heap.objs.size f cd).kindOf (ps.zip us) fun _=>none) s1) :
 Inv (oN CX P w K mg dh N qual scope f cd A dA s H E) [] (start N vs) H s1:=by
 have kO:ps.length<=N.length:=by have:=bL List.length S.pre;rw[aS]at this;omega
 obtain⟨h1,tk,rfl,hk⟩:=x.done
 have noA:∀ b:Addr,b∉(oN CX P w K mg dh N qual scope f cd A dA s H E).ex:=fun b z=>absurd (show b∈([]:List Addr)from z) (by simp)
 refine⟨⟨e0.mod,S.kind,rfl,rfl,ah _,fun y z c h1 h2=>?_,fun y hy=>?_,fun y c _ h=>?_,fun _=>hd,Around.frames_deeper e0.frames,.inr ⟨rfl,rfl⟩,fun b z=>absurd z (noA b),e0.bs,e0.Ex,fun b _ _=>noA b,fun b z=>absurd z (noA b),e0.qt,e0.frf⟩,
  rfl,e0.bare,Un.dj hk,⟨_,x.toInCall.ns,fun i y v h1 h2 h3=>?_⟩,fun y c h=>⟨_,x.cell y c h⟩,e0.eE.fresh (ah _),fun y c h=>?_,fun p hp=>absurd (show p∈([]:List (Addr×Obj))from hp) (by simp),e0.eE.dj hk,?_⟩
 ·exact name_of_addr x.apart (cn h1) (cn h2)
 ·have hy:scope.names.lookup y=some .cell\/scope.names.lookup y=some .free:=hy
  rcases hy with hy | hy
  ·exact mY hy
  ·exact absurd rfl (S.nofree _ (cn hy))
 ·exact Nat.le_of_lt (x.above y c (cn h))
 ·have hi:i<vs.length:=by
   unfold start at h2
   by_cases hi:i<vs.length
   ·exact hi
   ·rw[qx (by simpa using hi)]at h2
    rw[List.getElem?_replicate]at h2
    split at h2 <;> cases h2
  have ha:vs[i]?=some v:=by
   unfold start at h2
   rw[uU (by simpa using hi),uw]at h2
   cases e:vs[i]? with
   | none=>rw[e]at h2;cases h2
   | some a=>rw[e]at h2;cases h2;rfl
  obtain⟨u,hu,rv⟩:=r.get ha
  have hp:ps[i]?=some y:=by
   rw[<- S.pre,bx (by omega)];exact h1
  have ndP:ps.Nodup:=by rw[<- S.pre];exact S.nd.sublist (List.take_sublist _ _)
  refine⟨u,rv,?_⟩
  rcases S.par y (Ak hp)with k | k
  ·exact .inl ⟨k,yN ndP hp hu k⟩
  ·obtain⟨c,e⟩:=mY (n:=s.heap.objs.size+1) k
   refine .inr ⟨.inl k,c,e,?_⟩
   have q:=x.cell y c e
   rw[yP ndP hp hu (by show scope.names.lookup y≠_;rw[k];decide)]at q
   exact q
 ·exact e0.eE.fresh (Nat.le_of_lt (x.above y c (cn h)))
 ·unfold start
  show _=N.length
  rw[lx,fF,aP]
  omega
def fn_of {CX:CXT}{P:ae}{w:af}{K:aa}{mg:Str->Option Value}{dh:Heap}{k:Nat}{f:Addr}{name qual:Str}{params:Arguments}{body:List Stmt}{scope:Scope}{dV kV doc pm fR ct oc:Value}{an od:Option Addr}
 {osl:Array (Option Value)} {N ps:List Str} {sp:Sp} (lk:K.lookup f=some ⟨oc,od,.func (W.fnOf name qual params body scope dV kV doc pm an fR ct),osl⟩) (x8:W.codeIn K fR qual=true) (S:dH N ps scope)
 (len:∀ vs H Q E,sp vs H Q E->vs.length=ps.length)
 (pB:∀(A:Around) (dA:List Env) (s:Shared) (H:Hp) (vs:List V) (Q:VK) (E:XK),gZ k (A.deeper (envOfC qual scope s.heap.objs.size f fR))->sp vs H Q E ->
   ∃ t,AV (oN CX P w K mg dh N qual scope f fR A dA s H E) body t/\t { nx:=fun _ H'=>Q .fV H',rt:=Q} (start N vs) H) :
 eF P w K mg dh CX (k+1) f (W.fnOf name qual params body scope dV kV doc pm an fR ct) ps sp:=by
 refine⟨len,fun A dA s H args us vs Q E hr e0 hb r hsp=>?_⟩
 have hl:=len _ _ _ _ hsp
 have KX:K.In s.heap:=e0.mod.kin.keeps fun b o e=>(e0.bs b o e).1
 have lim:s.heap.NoLimit:=e0.mod.nolimit.keeps fun b o e=>(e0.bs b o e).1
 have hkind:∀ y∈ps.zip us,scope.names.lookup y.1=some .local\/(scope.names.lookup y.1=some .cell/\((cellsFrom (s.heap.objs.size+1) scope.names []).lookup y.1).isSome=true):=fun⟨n,v⟩ hy=>by
  rcases S.par n (List.of_mem_zip hy).1 with q | q
  ·exact .inl q
  ·exact .inr ⟨q,W.cellsFrom_some _ _ _ (.inl q)⟩
 refine codeAny_call_function hr.depth (KX _ _ lk) rfl S.co S.gen rfl (W.codeRec_of KX x8) (hb _ _ _ _ ?_)
 refine wpAny_newFunctionEnv_cells S.kind hkind fun env he s1 x=>?_
 subst he
 refine⟨lim.keeps x.toInCall.keep,codeAny_func ?_⟩
 obtain⟨t,ht,hq⟩:=pB A dA s H vs Q E (hr.deeper _) hsp
 have I:Inv (oN CX P w K mg dh N qual scope f fR A dA s H E) [] (start N vs) H s1:=yB S hr.hd e0 hl r x
 refine bg (ht [] s1 (start N vs) H _ I hq) (fun fl s' hs=>?_) fun e s' hs=>hs
 have fin:∀ {gd:St} {H':Hp} {v:V} {u:Value},Inv (oN CX P w K mg dh N qual scope f fR A dA s H E) [] gd H' s'->eP v u->Q v H'->CE dA P w H s Q u s' :=
  fun {gd H' v u} J rv q=>⟨v,H',J.os,J.bare,J.dh,J.eE,rv,q⟩
 cases fl with
 | ret u =>
  obtain⟨v,gd,H',J,rv,q⟩:=hs
  exact fin J rv q
 | next =>
  obtain⟨gd,H',J,q⟩:=hs
  exact fin (v:=V.fV) (u:=Value.none) J rfl q
 | brk =>
  obtain⟨_,_,_,q⟩:=hs
  exact False.elim q
 | cont =>
  obtain⟨_,_,_,q⟩:=hs
  exact False.elim q
section
variable {X:Cx}{x:Str}{p pos:Pos}{e:Expr}{es:List Expr}{t:TA}{id T:String}{r:List V->Hp->VK->Prop}
def tCB (r:List V->Hp->VK->Prop)(t:TA):TE:=fun σ H Q=>t σ H fun vs H1=>r vs H1 Q
def fG (hc:ia X (.builtin id) r)(hg:Gl X x)(hm:X.mg x=none)(hv:bootBuiltins x=some (.builtin id))(ha:PA X (e::es) t)(hn:x ≠ "__name__":=by decide)(tL:(x==("__debug__" : Str))=false:=by decide)
 (he:starEach (e::es) X.env=(false,eval e X.env)::starEach es X.env:=by rfl) (kO:(backTo pos (starEach es X.env)).any (·.1)=false:=by rfl):PE X (.Call (.Name x p) (e::es) [] pos) (tCB r t):=by
 intro dg s σ H Q I h
 refine bQ (pA I hg hm hv ?_ hn tL)
 exact PyProof.Rows.callWith_builtin1 (fK (ha pos dg s σ H _ I h) fun us s1 qY=>by obtain⟨vs,H1,I1,r1,q1⟩:=qY;exact hc dg s1 σ H1 vs us Q I1 r1 q1) he kO
def yt (hc:ia X (.type T) r)(hg:Gl X x)(hm:X.mg x=none)(hv:bootBuiltins x=some (.type T))(ha:PA X (e::es) t)(hn:x ≠ "__name__":=by decide)(tL:(x==("__debug__" : Str))=false:=by decide)
 (he:starEach (e::es) X.env=(false,eval e X.env)::starEach es X.env:=by rfl) (kO:(backTo pos (starEach es X.env)).any (·.1)=false:=by rfl):PE X (.Call (.Name x p) (e::es) [] pos) (tCB r t):=by
 intro dg s σ H Q I h
 refine bQ (pA I hg hm hv ?_ hn tL)
 exact bz (fK (ha pos dg s σ H _ I h) fun us s1 oK=>by obtain⟨vs,H1,I1,r1,q1⟩:=oK;exact hc dg s1 σ H1 vs us Q I1 r1 q1) he kO
end
end L2
namespace HT
open PySem PyProof.Rows
section
variable {prog:ae}{w:af}{A:Around}{E:Value->Shared->Prop}{s:Shared}
def cat_tup {t b:Addr}{vs ws:List Value}{Q:Value->Shared->Prop}(ht:IsTup s.heap t vs.toArray)(hb:IsTup s.heap b ws.toArray)(hv:vs≠[])
 (h1:ws=[]->Q (.ref t) s) (h2:ws≠[]->Q (.ref s.heap.objs.size) { s with heap:=s.heap.push { cls:=.type "tuple",data:=.seq (vs++ws).toArray}})
 (hsz:vs.length+ws.length<=sizeLine):wpAny (model prog w) A (binaryOp .Add (.ref t) (.ref b)) Q E s:=by
 obtain⟨⟨cls,dd,data,sl⟩,ho,hc,n,hd⟩:=id ht
 obtain⟨⟨cls2,dd2,data2,sl2⟩,ho2,hc2,n2,hd2⟩:=id hb
 simp only at hc hd hc2 hd2
 subst hc hd hc2 hd2
 have e:vs.toArray++ws.toArray=(vs++ws).toArray:=by simp
 by_cases hw:ws=[]
 ·exact concat_meets ⟨_,ho,rfl⟩ ⟨_,ho2,rfl⟩ noFill_tuple_add seq_tuple_add PySem.F.slot_tuple_add PySem.F.entry_tuple_add (PySem.F.args_tuple_add_2 _ _)
   (tuple_addW1 t b vs.toArray ws.toArray n n2 dd dd2 sl sl2 (by simpa using hv) (by simp[hw])) ⟨ho,ho2,h1 hw⟩
 ·refine concat_meets ⟨_,ho,rfl⟩ ⟨_,ho2,rfl⟩ noFill_tuple_add seq_tuple_add PySem.F.slot_tuple_add PySem.F.entry_tuple_add (PySem.F.args_tuple_add_2 _ _)
   (tuple_addW2 t b vs.toArray ws.toArray n n2 dd dd2 sl sl2 (by simpa using hv) (by simpa using hw) (by rw[aA,aA];exact hsz)) ⟨ho,ho2,?_⟩
  rw[e]
  exact h2 hw
def ib (n d:Nat):Option Int->Nat
 | none=>d
 | some v=>if v<0 then(v+(n:Int)).toNat else min v.toNat n
def rH (n d:Nat):ib n d none=d:=rfl
def l9 (n d k:Nat):ib n d (some (k:Int))=min k n:=by
 show(if(k:Int)<0 then((k:Int)+(n:Int)).toNat else min (k:Int).toNat n)=min k n
 rw[ai (by omega),gxK]
def we (n d:Nat)(hd:d<=n)(o:Option Int):ib n d o<=n:=by
 cases o with
 | none=>exact hd
 | some v =>
  show(if v<0 then(v+(n:Int)).toNat else min v.toNat n)<=n
  by_cases hv:v<0
  ·rw[aj hv];omega
  ·rw[ai hv];exact Nat.min_le_right _ _
def Gf (v:Int)(n d:Nat):(if v<0 then max (v+(n:Int)) 0 else min v (n:Int))=((ib n d (some v):Nat):Int):=by
 show(if v<0 then max (v+(n:Int)) 0 else min v (n:Int))=(((if v<0 then(v+(n:Int)).toNat else min v.toNat n):Nat):Int)
 by_cases hv:v<0
 ·simp only[aj hv];omega
 ·simp only[ai hv];omega
def EB (lo hi:Option Int)(n:Nat):Builtin.Slice.sliceAdjust lo hi 1 (n:Int)=(((ib n 0 lo:Nat):Int),((ib n n hi:Nat):Int)):=by
 have h1:¬ ((1:Int)<0):=by omega
 unfold Builtin.Slice.sliceAdjust
 simp only[h1,if_false]
 refine Prod.ext ?_ ?_
 ·cases lo with
  | none=>rfl
  | some v=>exact Gf v n 0
 ·cases hi with
  | none=>rfl
  | some v=>exact Gf v n n
def DW (i j:Nat):Builtin.Slice.slicePlaces (i:Int) (j:Int) 1=j - i:=by
 unfold Builtin.Slice.slicePlaces
 have h1:(1:Int)>0:=by omega
 simp only[h1,if_true,Int.ediv_one]
 split <;> omega
def vR {v:Value}{o:Option Int}{Q:Option Int->Shared->Prop}(p:IsPart v o)(h:Q o s):wpAny (model prog w) A (Builtin.Slice.slicePartIndex v) Q E s:=by
 cases p with
 | none=>exact slicePart_none h
 | int i t=>exact slicePart_int h
def tj {sl:Addr}{vl vu:Value}{lo hi:Option Int}{n:Nat}{Q:Int×Int×Nat->Shared->Prop}(hs:s.heap.IsSliceOf sl vl vu .none)(pl:IsPart vl lo)(pu:IsPart vu hi)
 (h:Q (((ib n 0 lo:Nat):Int),1,ib n n hi - ib n 0 lo) s):wpAny (model prog w) A (Builtin.Slice.sliceApplied (.ref sl) (pure (n:Int))) Q E s:=by
 obtain⟨os,hos,hcs,hds⟩:=id hs
 unfold Builtin.Slice.sliceApplied Builtin.Slice.sliceFields
 refine eI (eI (aW hos hds (x:=vl) rfl (eI (aW hos hds (x:=vu) rfl (eI (aW hos hds (x:=.none) rfl (ar ?_)))))))
 refine eI (slicePart_none ?_)
 show wpAny _ _ (if((1:Int)==0)=true then _ else _) _ _ s
 rw[ai (by decide)]
 refine eI (vR pl (eI (vR pu (eI (ar ?_)))))
 show wpAny _ _ (match Builtin.Slice.sliceAdjust lo hi 1 (n:Int)with | (lo,hi)=>pure (lo,(1:Int),Builtin.Slice.slicePlaces lo hi 1)) _ _ s
 rw[EB lo hi n]
 show wpAny _ _ (pure (((ib n 0 lo:Nat):Int),(1:Int),Builtin.Slice.slicePlaces ((ib n 0 lo:Nat):Int) ((ib n n hi:Nat):Int) 1)) _ _ s
 rw[DW]
 exact ar h
def pick_gen (xs:Array Value)(i k:Nat):((List.range k).filterMap fun(m:Nat)=>xs[((i:Int)+(m:Int)*1).toNat]?).toArray=((xs.toList.drop i).take k).toArray:=by
 have e:(fun(m:Nat)=>xs[((i:Int)+(m:Int)*1).toNat]?)=fun m=>xs[i+m]?:=by
  funext m
  have:((i:Int)+(m:Int)*1).toNat=i+m:=by omega
  rw[this]
 rw[e]
 have:=pick_run xs i k
 rw[List.filterMap_map]at this
 have e2:((fun x=>xs[x]?) ∘ fun x=>i+x)=fun m=>xs[i+m]?:=rfl
 rw[e2]at this
 rw[this]
def r0 {t sl:Addr}{items:Array Value}{vl vu:Value}{lo hi:Option Int}{Q:Value->Shared->Prop}(ht:IsTup s.heap t items)(hs:s.heap.IsSliceOf sl vl vu .none)(pl:IsPart vl lo)(pu:IsPart vu hi)
 (hw:¬ (ib items.size 0 lo=0/\ib items.size items.size hi=items.size))
 (h:Q (.ref s.heap.objs.size) { s with heap:=s.heap.push { cls:=.type "tuple",data:=.seq ((items.toList.drop (ib items.size 0 lo)).take (ib items.size items.size hi - ib items.size 0 lo)).toArray}})
 (hsz:items.size<=sizeLine):wpAny (model prog w) A (getItem (.ref t) (.ref sl)) Q E s:=by
 have FG:sizeOk (.seq ((items.toList.drop (ib items.size 0 lo)).take (ib items.size items.size hi - ib items.size 0 lo)).toArray):=by
  show((items.toList.drop (ib items.size 0 lo)).take (ib items.size items.size hi - ib items.size 0 lo)).toArray.size<=sizeLine
  rw[aA,aS,bS,bZ]
  omega
 have hj:ib items.size items.size hi<=items.size:=we _ _ (ah _) hi
 obtain⟨os,hos,hcs,hds⟩:=id hs
 have hTs:s.TypeIs (.ref sl) "slice":=⟨os,hos,hcs⟩
 unfold getItem
 try with_reducible refine bI ?_
 first | refine eI (ar ?_) | skip
 refine eI (wpAny_sequenceKey ht.typeIs (by decide) ?_)
 refine eI (bC (name:=Str.ofString "__getitem__") ht.typeIs PyProof.Rows.slot_tuple_getitem
  (bP PyProof.Rows.slot_tuple_getitem ht.typeIs entry_tuple_getitem ?_ (args_tuple_getitem _ _)))
 show wpAny _ _ (Builtin.Tuple.tupleItemsOf (.ref t) >>= _) _ _ s
 refine eI (tupleItemsOf_ ht ?_)
 refine eI (wpAny_typeOf hTs ?_)
 rw[aj (by decide)]
 refine eI (tj hs pl pu ?_)
 have hno:¬ ((((ib items.size 0 lo:Nat):Int)==0&&(1:Int)==1&&(ib items.size items.size hi - ib items.size 0 lo)==items.size)=true):=by
  intro q
  rw[aO,aO]at q
  have q1:((ib items.size 0 lo:Nat):Int)=0:=eq_of_beq q.1.1
  have q2:ib items.size items.size hi - ib items.size 0 lo=items.size:=eq_of_beq q.2
  exact hw ⟨by omega,by omega⟩
 show wpAny _ _ (if(((ib items.size 0 lo:Nat):Int)==0&&(1:Int)==1&&(ib items.size items.size hi - ib items.size 0 lo)==items.size)=true then _ else _) _ _ s
 rw[ai hno,pick_gen]
 first
  | exact eI (m:=Builtin.Tuple.tupleExact _) (a6 (ar ⟨_,rfl,ar h⟩) FG)
  | exact eI (m:=Builtin.Tuple.tupleExact _) (a6 (eI (ar (ar ⟨_,rfl,ar h⟩))) FG)
  | exact eI (eI (m:=Builtin.Tuple.tupleExact _) (a6 (ar (ar ⟨_,rfl,ar h⟩)) FG))
  | exact eI (eI (m:=Builtin.Tuple.tupleExact _) (a6 (ar ⟨_,rfl,ar h⟩) FG))
end
end HT
namespace L2
open PySem PySem.Spec PyProof.Rows
abbrev TO:=St->Hp->(Option Int->Hp->Prop)->Prop
def PO (X:Cx)(e:Option Expr)(t:TO):Prop :=
 ∀(dg:List (Addr×Obj)) (s:Shared) (σ:St) (H:Hp) (Q:Option Int->Hp->Prop),Inv X dg σ H s->t σ H Q ->
  wpAny (model X.prog X.w) X.A (evalPart e X.env) (fun u s'=>∃ o H',Inv X dg σ H' s'/\IsPart u o/\Q o H') X.xe s
def tNoPart:TO:=fun _ H Q=>Q none H
section
variable {X:Cx}{e:Expr}{te:TE}{lo hi:Option Expr}{tl th:TO}{pos p2:Pos}
def po_none:PO X none tNoPart:=by
 intro dg s σ H Q I h
 rw[evalPart_none]
 exact ar ⟨none,H,I,.none,h⟩
def SlR (X:Cx)(r:V->Option Int->Option Int->Hp->VK->Prop):Prop :=
 ∀(dg:List (Addr×Obj)) (s:Shared) (σ:St) (H:Hp) (x:V) (v vl vu:Value) (lo hi:Option Int) (sl:Addr) (Q:VK),Inv X dg σ H s->eP x v->s.heap.IsSliceOf sl vl vu .none->IsPart vl lo->IsPart vu hi->r x lo hi H Q ->
  ∃ T id,typeLookup (.type T) "__getitem__"=pure (some (.builtin id))/\s.TypeIs v T/\wpAny (model X.prog X.w) X.A (getItem v (.ref sl)) (EP X dg σ Q) X.xe s
def tSl (r:V->Option Int->Option Int->Hp->VK->Prop)(te:TE)(tl th:TO):TE:=fun σ H Q=>te σ H fun x H1=>tl σ H1 fun l H2=>th σ H2 fun u H3=>r x l u H3 Q
def BD {r:V->Option Int->Option Int->Hp->VK->Prop}(hr:SlR X r)(he:PE X e te)(hl:PO X lo tl)(hu:PO X hi th):PE X (.Subscript e (.Slice lo hi none p2) pos) (tSl r te tl th):=by
 intro dg s σ H Q I h
 refine Subscript_ (fK (he dg s σ H _ I h) fun v s1 qo=>?_)
 obtain⟨x,H1,I1,r1,q1⟩:=qo
 refine wpAny_Slice (fK (hl dg s1 σ H1 _ I1 q1) fun vl s2 qK=>?_)
 obtain⟨l,H2,I2,pl,q2⟩:=qK
 refine fK (hu dg s2 σ H2 _ I2 q2) fun vu s3 rY=>?_
 obtain⟨u,H3,I3,pu,q3⟩:=rY
 rw[evalPart_none]
 refine ar ?_
 have I4:Inv X dg σ H3 { s3 with heap:=s3.heap.push { cls:=.type "slice",data:=.fields #[vl,vu,.none]}}:=I3.dj (t':=s3.toks) fun b ob q=>jt _ q
 obtain⟨T,id,hT,ht,hg⟩:=hr dg { s3 with heap:=s3.heap.push { cls:=.type "slice",data:=.fields #[vl,vu,.none]}} σ H3 x v vl vu l u s3.heap.objs.size Q I4 r1 (Heap.IsSliceOf.new ..) pl pu q3
 show wpAny (model X.prog X.w) X.A (subscriptTail e (.Slice lo hi none p2) v (.ref s3.heap.objs.size)) (EP X dg σ Q) X.xe { s3 with heap:=s3.heap.push { cls:=.type "slice",data:=.fields #[vl,vu,.none]}}
 exact tail_any (ops:=[.ref s3.heap.objs.size,v]) ht hT hg (by with_unfolding_all rfl)
def AF (xs:List V)(lo hi:Option Int):List V:=(xs.drop (HT.ib xs.length 0 lo)).take (HT.ib xs.length xs.length hi - HT.ib xs.length 0 lo)
def uC (xs:List V)(lo hi:Option Int):(AF xs lo hi).length<=xs.length:=by
 unfold AF
 rw[aS,bS]
 omega
def rSlT (K:aa):V->Option Int->Option Int->Hp->VK->Prop:=fun x lo hi H Q=>∃ a xs,x=.ref a/\AS K H a xs /\
 ¬ (HT.ib xs.length 0 lo=0/\HT.ib xs.length xs.length hi=xs.length)/\∀ p,H p=none->Q (.ref p) (upd H p (.tup (AF xs lo hi)))
def sl_tup:SlR X (rSlT X.K):=by
 intro dg s σ H x v vl vu lo hi sl Q I rx hs pl pu h
 obtain⟨a,xs,rfl,hx,hw,q⟩:=h
 cases rx
 obtain⟨eK,r,ht,hz⟩:=I.tuple hx
 have hlen:eK.toArray.size=xs.length:=by rw[aA];exact r.length.symm
 refine⟨"tuple",_,PyProof.Rows.slot_tuple_getitem.lookup,ht.typeIs,?_⟩
 refine HT.r0 ht hs pl pu (by rw[hlen];exact hw) ?_ (by rw[hlen];exact hz)
 rw[hlen]
 refine⟨.ref s.heap.objs.size,_,I.laid (t':=s.toks) (o:=.tup (AF xs lo hi)) (fun b ob q=>jt _ q) (ah _) ?_,rfl,q _ (I.eE.fresh (ah _))⟩
 exact⟨az (uC xs lo hi) hz,_,(r.drop (HT.ib xs.length 0 lo)).take (HT.ib xs.length xs.length hi - HT.ib xs.length 0 lo),IsTup.new _ _⟩
def rCatT (K:aa):R2:=fun x y H Q=>∃ a b xs ys,x=.ref a/\y=.ref b/\AS K H a xs/\AS K H b ys/\xs≠[]/\xs.length+ys.length<=sizeLine /\
 (ys=[]->Q (.ref a) H)/\(ys≠[]->∀ p,H p=none->Q (.ref p) (upd H p (.tup (xs++ys))))
def eX.Ae {xs:List V}{us:List Value}(r:eX xs us):us=[]↔xs=[]:=by
 cases r with
 | nil=>simp
 | cons _ _=>simp
def Fv:jm X (binaryOp .Add) (rCatT X.K):=by
 intro dg s σ H x y v u Q I rx ry h
 obtain⟨a,b,xs,ys,rfl,rfl,ha,hb,hx,hz,q1,q2⟩:=h
 cases rx
 cases ry
 obtain⟨eK,r1,p1,_⟩:=I.tuple ha
 obtain⟨qG,r2,p2,_⟩:=I.tuple hb
 refine HT.cat_tup p1 p2 (fun z=>hx (r1.Ae.mp z)) (fun z=>⟨.ref a,H,I,rfl,q1 (r2.Ae.mp z)⟩) (fun z=>?_) (by rw[<- r1.length,<- r2.length];exact hz)
 refine⟨.ref s.heap.objs.size,_,I.laid (t':=s.toks) (o:=.tup (xs++ys)) (fun b ob q=>jt _ q) (ah _) ?_,rfl,q2 (fun w=>z (r2.Ae.mpr w)) _ (I.eE.fresh (ah _))⟩
 exact⟨by rw[lx];exact hz,_,r1.append r2,IsTup.new _ _⟩
end
def ixN (n:Nat)(i:Int):Option Nat:=if 0<=i then(if i<n then some i.toNat else none)else if -(n:Int)<=i then some (i+n).toNat else none
def qV {α:Type}(xs:List α)(i:Int):Option α:=(ixN xs.length i).bind fun j=>xs[j]?
def FC {n:Nat}{i:Int}{j:Nat}(h:ixN n i=some j):seqIndex? i n=some j/\j<n /\ -(n:Int)<=i/\i<n:=by
 unfold ixN at h
 by_cases h0:0<=i
 ·rw[aj h0]at h
  by_cases h1:i<n
  ·rw[aj h1]at h
   have e:i.toNat=j:=aN h
   exact⟨by rw[seqIndex_of h0 h1,e],by omega,by omega,h1⟩
  ·rw[ai h1]at h;cases h
 ·rw[ai h0]at h
  by_cases h1:-(n:Int)<=i
  ·rw[aj h1]at h
   have e:(i+n).toNat=j:=aN h
   exact⟨by rw[seqIndex_neg (by omega) h1,e],by omega,h1,by omega⟩
  ·rw[ai h1]at h;cases h
def AO {α:Type}{xs:List α}{i:Int}{v:α}(h:qV xs i=some v):∃ j,seqIndex? i xs.length=some j/\xs[j]?=some v/\j<xs.length /\ -(xs.length:Int)<=i/\i<xs.length:=by
 unfold qV at h
 cases e:ixN xs.length i with
 | none=>rw[e]at h;cases h
 | some j =>
  rw[e]at h
  obtain⟨h1,h2,h3,h4⟩:=FC e
  exact⟨j,h1,h,h2,h3,h4⟩
def kQ {α:Type}{xs:List α}{j:Nat}{v:α}(h:xs[j]?=some v):qV xs (j:Int)=some v:=by
 have hj:j<xs.length:=(lK h).1
 have e:ixN xs.length (j:Int)=some j:=by
  unfold ixN
  rw[aj (by omega),aj (by omega)];simp
 unfold qV;rw[e];exact h
def AU (b:Expr):Prop:=∀ o i,subscripted b false o i=operate [o,i] (getItem o i)
def IxR (X:Cx)(r:R2):Prop :=
 ∀(value slice:Expr) (dg:List (Addr×Obj)) (s:Shared) (σ:St) (H:Hp) (x y:V) (v u:Value) (Q:VK),Inv X dg σ H s->eP x v->eP y u->r x y H Q ->
  subscripted slice false v u=operate [v,u] (getItem v u)->wpAny (model X.prog X.w) X.A (subscriptTail value slice v u) (EP X dg σ Q) X.xe s
def MtR (X:Cx)(id:String)(r:V->List V->Hp->VK->Prop):Prop :=
 ∀(dg:List (Addr×Obj)) (s:Shared) (σ:St) (H:Hp) (x:V) (xs:List V) (v:Value) (us:List Value) (Q:VK),Inv X dg σ H s->eP x v->eX xs us->r x xs H Q ->
  wpAny (model X.prog X.w) X.A (call (.builtin id) (v::us)) (EP X dg σ Q) X.xe s
section
variable {X:Cx}{a b:Expr}{ta tb:TE}{pos:Pos}
def IxR.or {r r':R2}(h:IxR X r)(h':IxR X r'):IxR X (fun x y H Q=>r x y H Q\/r' x y H Q):=by
 intro value slice dg s σ H x y v u Q I rx ry q hs
 rcases q with q | q
 ·exact h value slice dg s σ H x y v u Q I rx ry q hs
 ·exact h' value slice dg s σ H x y v u Q I rx ry q hs
def pe {r:R2}(hr:IxR X r)(ha:PE X a ta)(hb:PE X b tb)(hs:AU b):PE X (.Subscript a b pos) (tOp r ta tb):=by
 intro dg s σ H Q I h
 exact Subscript_ (binT ha hb I h fun v u s2 x y H2 I2 rx ry q=>hr a b dg s2 σ H2 x y v u Q I2 rx ry q (hs _ _))
def rIxL (K:aa):R2:=fun x y H Q=>∃ p xs i v,x=.ref p/\y=.int i/\pS K H p xs/\qV xs i=some v/\Q v H
def rIxT (K:aa):R2:=fun x y H Q=>∃ p xs i v,x=.ref p/\y=.int i/\AS K H p xs/\qV xs i=some v/\Q v H
def rIxS:R2:=fun x y H Q=>∃ z i c,x=.str z/\y=.int i/\z.length<=sizeLine/\qV z.cps.toList i=some c/\Q (.str ⟨#[c]⟩) H
def ix_list:IxR X (rIxL X.K):=by
 intro value slice dg s σ H x y v u Q I rx ry h hs
 obtain⟨p,xs,i,z,rfl,rfl,hq,he,q⟩:=h
 cases rx
 obtain⟨t,rfl⟩:=ry
 obtain⟨eK,r,pl,hz⟩:=I.list hq
 obtain⟨j,h1,h2,h3,h4,h5⟩:=AO he
 obtain⟨w,ew,Bu⟩:=r.get h2
 have hl:=r.length
 have hn:=qF
 have fin:EP X dg σ Q w s:=⟨z,H,I,Bu,q⟩
 by_cases h0:0<=i
 ·have hj:i.toNat=j:=by
   rw[seqIndex_of h0 h5]at h1
   exact aN h1
  exact item_listR pl.isList h0 (by omega) (by rw[hj];simpa using ew) fin hs
 ·have hj:(i+(eK.toArray.size:Int)).toNat=j:=by
   rw[seqIndex_neg (by omega) h4]at h1
   rw[aA,<- hl]
   exact aN h1
  exact subscriptTail_builtinR (x:=w) pl.isList.typeIs slot_list_getitem.lookup
   (wpAny_getItem_list_neg (Q:=fun r s'=>r=w/\EP X dg σ Q r s') pl.isList (by omega) (by rw[aA]<;> omega) (by omega) (by rw[hj];simpa using ew) ⟨rfl,fin⟩) hs
def ix_tup:IxR X (rIxT X.K):=by
 intro value slice dg s σ H x y v u Q I rx ry h hs
 obtain⟨p,xs,i,z,rfl,rfl,hq,he,q⟩:=h
 cases rx
 obtain⟨t,rfl⟩:=ry
 obtain⟨eK,r,pl,hz⟩:=I.tuple hq
 obtain⟨j,h1,h2,h3,h4,h5⟩:=AO he
 obtain⟨w,ew,Bu⟩:=r.get h2
 have hl:=r.length
 have hn:=qF
 have fin:EP X dg σ Q w s:=⟨z,H,I,Bu,q⟩
 exact subscriptTail_builtinR (x:=w) pl.typeIs slot_tuple_getitem.lookup
  (getItem_tuple (j:=j) (Q:=fun r s'=>r=w/\EP X dg σ Q r s') pl (by omega) (by omega) (by rw[aA,<- hl];exact h1) (by simpa using ew) ⟨rfl,fin⟩) hs
def ix_str:IxR X rIxS:=by
 intro value slice dg s σ H x y v u Q I rx ry h hs
 obtain⟨z,i,c,rfl,rfl,hz,he,q⟩:=h
 obtain⟨t,rfl⟩:=rx
 obtain⟨t',rfl⟩:=ry
 obtain⟨j,h1,h2,h3,h4,h5⟩:=AO he
 have hl:z.cps.toList.length=z.length:=by simp[Str.length]
 rw[hl]at h1 h4 h5
 have hn:=qF
 exact tail_any (typeIs_str s z t) slot_str_getitem.lookup (getItem_str (c:=c) (by
  have e1:decide (i < -(2 ^ 63:Int))=false:=au (by omega)
  have e2:decide (i≥2 ^ 63)=false:=au (by omega)
  rw[e1,e2,Bool.or_false]) (by rw[h1];simpa using h2) ⟨.str ⟨#[c]⟩,H,I.tok _,⟨_,rfl⟩,q⟩) hs
def rIx (K:aa):R2:=fun x y H Q=>rIxL K x y H Q\/rIxT K x y H Q\/rIxS x y H Q
def ix_seq:IxR X (rIx X.K):=ix_list.or (ix_tup.or ix_str)
def D5 (eK:List Value)(n j:Nat)(u:Value):Obj.mapSeq (·.setIfInBounds j u) { cls:=.type "list",data:=.seq eK.toArray n}={ cls:=.type "list",data:=.seq (eK.set j u).toArray n}:=by
 simp[Obj.mapSeq]
def Inv.lst {dg:List (Addr×Obj)}{σ:St}{H:Hp}{s:Shared}{p:Addr}{xs:List V}(I:Inv X dg σ H s)(h:H p=some (.lst xs)) :
 ∃(eK:List Value) (n:Nat),eX xs eK/\s.heap.get? p=some { cls:=.type "list",data:=.seq eK.toArray n}/\xs.length<=sizeLine:=by
 obtain⟨z,eK,n,r,e⟩:=I.eE p _ h
 exact⟨eK,n,r,e,z⟩
def Inv.lstUpd {dg:List (Addr×Obj)}{σ:St}{H:Hp}{s:Shared}{p:Addr}{xs ys:List V}{eK its':List Value}{n n':Nat}{f:Obj->Obj}(I:Inv X dg σ H s)(h:H p=some (.lst xs))
 (ho:s.heap.get? p=some { cls:=.type "list",data:=.seq eK.toArray n}) (hf:f { cls:=.type "list",data:=.seq eK.toArray n}={ cls:=.type "list",data:=.seq its'.toArray n'}) (r:eX ys its') (hz:ys.length<=sizeLine) (t:Nat) :
 Inv X dg σ (upd H p (.lst ys)) { s with heap:=s.heap.update p f,toks:=t}:=by
 have e:(s.heap.update p f).get? p=some { cls:=.type "list",data:=.seq its'.toArray n'}:=by
  rw[cc f ho (by rw[hf]<;> rfl),hf]
 refine I.write (x:=p) (e:=p) (by rw[h];trivial) (.inl rfl) (fun b u hb q=>(bq _ _ (bf hb)).trans q) ⟨_,e⟩ ?_
 exact⟨hz,its',n',r,e⟩
def rSetL:V->V->V->Hp->(Hp->Prop)->Prop:=fun o i v H Q=>∃ p xs k j,o=.ref p/\i=.int k/\H p=some (.lst xs)/\ixN xs.length k=some j/\Q (upd H p (.lst (xs.set j v)))
def set_list:PSet X rSetL:=by
 intro dg s σ H o i v ov iv u Q I ro ri rv h
 obtain⟨p,xs,k,j,rfl,rfl,hp,hj,q⟩:=h
 cases ro
 obtain⟨t,rfl⟩:=ri
 obtain⟨eK,n,r,ho,hz⟩:=I.lst hp
 obtain⟨h1,h2,h3,h4⟩:=FC hj
 have hl:=r.length
 have hn:=qF
 have I':Inv X dg σ (upd H p (.lst (xs.set j v))) { s with heap:=s.heap.update p (Obj.mapSeq (·.setIfInBounds j u))} :=
  I.lstUpd hp ho (D5 eK n j u) (r.set rv j) (by rw[aL];exact hz) s.toks
 by_cases h0:0<=k
 ·have hk:k.toNat=j:=by
   rw[seqIndex_of h0 h4]at h1
   exact aN h1
  exact W.ki_setAt ho h0 (by omega) (by rw[aA,<- hl];exact h4) (by rw[hk];exact⟨_,I',q⟩)
 ·have hk:(k+(eK.toArray.size:Int)).toNat=j:=by
   rw[seqIndex_neg (by omega) h3]at h1
   rw[aA,<- hl]
   exact aN h1
  exact W.ki_setBack ho (by omega) (by rw[aA,<- hl];exact h3) (by omega) (by rw[hk];exact⟨_,I',q⟩)
def za (lo hi:Option Int)(n:Nat):(sliceBounds lo hi none n).1=((HT.ib n 0 lo:Nat):Int)/\(sliceBounds lo hi none n).2.1=((HT.ib n n hi:Nat):Int)/\(sliceBounds lo hi none n).2.2=1:=by
 refine⟨?_,?_,rfl⟩
 ·cases lo with
  | none=>simp[sliceBounds,HT.ib]
  | some i =>
   simp only[sliceBounds,HT.ib,Option.getD_none,show(1:Int)>0 by decide,if_true]
   by_cases h:i<0
   ·simp only[h,if_true]<;> omega
   ·simp only[h,if_false]<;> omega
 ·cases hi with
  | none=>simp[sliceBounds,HT.ib]
  | some i =>
   simp only[sliceBounds,HT.ib,Option.getD_none,show(1:Int)>0 by decide,if_true]
   by_cases h:i<0
   ·simp only[h,if_true]<;> omega
   ·simp only[h,if_false]<;> omega
def xN (eK:List Value)(lo hi:Option Int):slicePick eK.toArray lo hi none=((eK.drop (HT.ib eK.length 0 lo)).take (HT.ib eK.length eK.length hi - HT.ib eK.length 0 lo)).toArray:=by
 obtain⟨h1,h2,h3⟩:=za lo hi eK.toArray.size
 unfold slicePick
 rw[h1,h2,h3]
 simp only[sliceRange_one,pick_run,aA]<;> rfl
def rSlL (K:aa):V->Option Int->Option Int->Hp->VK->Prop:=fun x lo hi H Q=>∃ a xs,x=.ref a/\pS K H a xs/\∀ p,H p=none->Q (.ref p) (upd H p (.lst (AF xs lo hi)))
def sl_list:SlR X (rSlL X.K):=by
 intro dg s σ H x v vl vu lo hi sl Q I rx hs pl pu h
 obtain⟨a,xs,rfl,hx,q⟩:=h
 cases rx
 obtain⟨eK,r,ht,hz⟩:=I.list hx
 have hlen:=r.length
 refine⟨"list",_,slot_list_getitem.lookup,ht.isList.typeIs,?_⟩
 refine wpAny_getItem_list_slice ht.isList hs pl pu .none (by simp) ?_ (by rw[aA]<;> omega)
 rw[xN,<- hlen]
 refine⟨.ref s.heap.objs.size,_,I.laid (t':=s.toks) (o:=.lst (AF xs lo hi)) (fun b ob q=>jt _ q) (ah _) ?_,rfl,q _ (I.eE.fresh (ah _))⟩
 exact⟨az (uC xs lo hi) hz,_,0,(r.drop (HT.ib xs.length 0 lo)).take (HT.ib xs.length xs.length hi - HT.ib xs.length 0 lo),aB _ rfl⟩
def kD:V->Bool
 | .fV=>true
 | .bl _=>true
 | .int _=>true
 | .str _=>true
 | _=>false
def eqV:V->V->Bool
 | .fV,.fV=>true
 | .bl a,.bl b=>a==b
 | .bl a,.int b=>(if a then 1 else 0)==b
 | .int a,.bl b=>a==(if b then 1 else 0)
 | .int a,.int b=>a==b
 | .str a,.str b=>a==b
 | _,_=>false
def eqAt_V {A:Around}{s:Shared}{y x:V}{u v:Value}(ry:eP y u)(rx:eP x v)(fy:kD y=true)(fx:kD x=true):SeqAt.EqAt A s u v (eqV y x):=by
 cases y with
 | fV =>
  cases ry
  cases x with
  | fV=>cases rx;exact SeqAt.EqAt.same _
  | bl b=>cases rx;exact SeqAt.EqAt.none_bool b
  | int b=>obtain⟨t,rfl⟩:=rx;exact SeqAt.EqAt.none_int b t
  | str b=>obtain⟨t,rfl⟩:=rx;exact SeqAt.EqAt.none_str b t
  | _=>exact absurd (show false=true from fx) aE
 | bl a =>
  cases ry
  cases x with
  | fV=>cases rx;exact SeqAt.EqAt.bool_none a
  | bl b=>cases rx;exact SeqAt.EqAt.bool_bool a b
  | int b=>obtain⟨t,rfl⟩:=rx;exact SeqAt.EqAt.bool_int a b t
  | str b=>obtain⟨t,rfl⟩:=rx;exact SeqAt.EqAt.bool_str a b t
  | _=>exact absurd (show false=true from fx) aE
 | int a =>
  obtain⟨t',rfl⟩:=ry
  cases x with
  | fV=>cases rx;exact SeqAt.EqAt.int_none a t'
  | bl b=>cases rx;exact SeqAt.EqAt.int_bool a t' b
  | int b=>obtain⟨t,rfl⟩:=rx;exact SeqAt.EqAt.int_int a t' b t
  | str b=>obtain⟨t,rfl⟩:=rx;exact SeqAt.EqAt.int_str a t' b t
  | _=>exact absurd (show false=true from fx) aE
 | str a =>
  obtain⟨t',rfl⟩:=ry
  cases x with
  | fV=>cases rx;exact SeqAt.EqAt.str_none a t'
  | bl b=>cases rx;exact SeqAt.EqAt.str_bool a t' b
  | int b=>obtain⟨t,rfl⟩:=rx;exact SeqAt.EqAt.str_int a t' b t
  | str b=>obtain⟨t,rfl⟩:=rx;exact SeqAt.EqAt.str_str a t' b t
  | _=>exact absurd (show false=true from fx) aE
 | _=>exact absurd (show false=true from fy) aE
def Eo (x:V)(u:Value):Bool:=match u with
 | .none=>eqV .fV x
 | .bool b=>eqV (.bl b) x
 | .int i _=>eqV (.int i) x
 | .str z _=>eqV (.str z) x
 | _=>false
def eqU_of {x y:V}{u:Value}(r:eP y u)(f:kD y=true):Eo x u=eqV y x:=by
 cases y with
 | fV=>cases r;rfl
 | bl b=>cases r;rfl
 | int i=>obtain⟨t,rfl⟩:=r;rfl
 | str z=>obtain⟨t,rfl⟩:=r;rfl
 | _=>exact absurd (show false=true from f) aE
def sN {x:V}:∀ {xs:List V} {us:List Value},eX xs us->xs.all kD=true->us.any (Eo x)=xs.any fun y=>eqV y x
 | _,_,.nil,_=>rfl
 | y::xs,u::us,.cons r t,f=>by
  rw[cQ,aO]at f
  rw[bt,bt,eqU_of r f.1,sN t f.2]
def pj {A:Around}{s:Shared}{x:V}{v:Value}(rx:eP x v)(fx:kD x=true):∀ {xs:List V} {us:List Value},eX xs us->xs.all kD=true->∀ u∈us,SeqAt.EqAt A s u v (Eo x u)
 | _,_,.nil,_=>fun u hu=>by cases hu
 | y::xs,u::us,.cons r t,f=>fun u' hu=>by
  rw[cQ,aO]at f
  rcases List.mem_cons.mp hu with rfl | hu
  ·rw[eqU_of r f.1];exact eqAt_V r rx f.1 fx
  ·exact pj rx fx t f.2 u' hu
def inV (x:V)(xs:List V):Bool:=xs.any fun y=>eqV y x
def rIn (K:aa)(neg:Bool):R2:=fun x y H Q=>∃ p xs,y=.ref p/\(pS K H p xs\/AS K H p xs)/\kD x=true/\xs.all kD=true/\Q (.bl (if neg then !inV x xs else inV x xs)) H
def op_in_seq:jm X (compareOp .In) (rIn X.K false):=by
 intro dg s σ H x y v u Q I rx ry h
 obtain⟨p,xs,rfl,hq,fx,fs,q⟩:=h
 cases ry
 rcases hq with hq | hq
 ·obtain⟨eK,r,pl,hz⟩:=I.list hq
  refine SeqAt.in_listAt (Eo x) pl.isList (fun w hw=>pj rx fx r fs w (by simpa using hw)) ⟨.bl _,H,I,rfl,?_⟩
  rw[show eK.toArray.any (Eo x)=eK.any (Eo x) by simp,sN r fs]
  exact q
 ·obtain⟨eK,r,pl,hz⟩:=I.tuple hq
  refine SeqAt.in_tupleAt (Eo x) pl (fun w hw=>pj rx fx r fs w (by simpa using hw)) ⟨.bl _,H,I,rfl,?_⟩
  rw[show eK.toArray.any (Eo x)=eK.any (Eo x) by simp,sN r fs]
  exact q
def zS:jm X (compareOp .NotIn) (rIn X.K true):=by
 intro dg s σ H x y v u Q I rx ry h
 obtain⟨p,xs,rfl,hq,fx,fs,q⟩:=h
 cases ry
 rcases hq with hq | hq
 ·obtain⟨eK,r,pl,hz⟩:=I.list hq
  refine SeqAt.notIn_listAt (Eo x) pl.isList (fun w hw=>pj rx fx r fs w (by simpa using hw)) ⟨.bl _,H,I,rfl,?_⟩
  rw[show eK.toArray.any (Eo x)=eK.any (Eo x) by simp,sN r fs]
  exact q
 ·obtain⟨eK,r,pl,hz⟩:=I.tuple hq
  refine SeqAt.notIn_tupleAt (Eo x) pl (fun w hw=>pj rx fx r fs w (by simpa using hw)) ⟨.bl _,H,I,rfl,?_⟩
  rw[show eK.toArray.any (Eo x)=eK.any (Eo x) by simp,sN r fs]
  exact q
def zR:jm X (compareOp .NotIn) (fun x y H Q=>∃ i j,x=.str i/\y=.str j/\Q (.bl (!(!(Builtin.Str.occurrences j i 0 j.length 1).isEmpty))) H):=by
 intro dg s σ H x y v u Q I rx ry h
 obtain⟨i,j,rfl,rfl,q⟩:=h
 obtain⟨t,rfl⟩:=rx
 obtain⟨t',rfl⟩:=ry
 exact notIn_str ⟨.bl _,H,I,rfl,q⟩
def AL:ia X (.builtin "len") (fun xs H Q=>∃ p ys,xs=[.ref p]/\(pS X.K H p ys\/AS X.K H p ys)/\Q (.int ys.length) H):=by
 intro dg s σ H xs us Q I r h
 obtain⟨p,ys,rfl,hq,q⟩:=h
 obtain⟨u,rfl,rx⟩:=vals1 r
 cases rx
 have hn:=qF
 rcases hq with hq | hq
 ·obtain⟨eK,r',pl,hz⟩:=I.list hq
  have hlen:=r'.length
  exact Calls.call_len_list pl.isList (by simp only[aA]<;> omega) ⟨.int ys.length,H,I.tok _,⟨s.toks+1,by rw[aA,hlen]⟩,q⟩
 ·obtain⟨eK,r',pl,hz⟩:=I.tuple hq
  have hlen:=r'.length
  exact len_tuple pl (by simp only[aA]<;> omega) ⟨.int ys.length,H,I.tok _,⟨s.toks+1,by rw[aA,hlen]⟩,q⟩
def AK:ia X (.builtin "len") (fun xs H Q=>∃ z,xs=[.str z]/\z.length<=sizeLine/\Q (.int z.length) H):=by
 intro dg s σ H xs us Q I r h
 obtain⟨z,rfl,hz,q⟩:=h
 obtain⟨u,rfl,t,rfl⟩:=vals1 r
 have hn:=qF
 exact len_str (by omega) ⟨.int z.length,H,I.tok _,⟨_,rfl⟩,q⟩
def ia.or {f:Value}{r r':List V->Hp->VK->Prop}(h:ia X f r)(h':ia X f r'):ia X f (fun xs H Q=>r xs H Q\/r' xs H Q):=by
 intro dg s σ H xs us Q I rs q
 rcases q with q | q
 ·exact h dg s σ H xs us Q I rs q
 ·exact h' dg s σ H xs us Q I rs q
def AJ:ia X (.type "list") (fun xs H Q=>∃ p ys,xs=[.ref p]/\(pS X.K H p ys\/AS X.K H p ys)/\∀ l,H l=none->Q (.ref l) (upd H l (.lst ys))):=by
 intro dg s σ H xs us Q I r h
 obtain⟨p,ys,rfl,hq,q⟩:=h
 obtain⟨u,rfl,rx⟩:=vals1 r
 cases rx
 have fin:∀(eK:List Value),eX ys eK->ys.length<=sizeLine->∀(h':Heap) (c':Nat),(∀ b o',s.heap.get? b=some o'->h'.get? b=some o') ->
  h'.get? s.heap.objs.size=some { cls:=.type "list",dict:=none,data:=.seq eK.toArray c',slots:=#[]}->EP X dg σ Q (.ref s.heap.objs.size) { s with heap:=h'}:=fun eK r' hz h' c' kp e =>
  ⟨.ref s.heap.objs.size,_,I.laid (t':=s.toks) kp (ah _) (show fJ X.prog X.w _ h' _ (.lst ys)from⟨hz,eK,c',r',e⟩),rfl,q _ (I.eE.fresh (ah _))⟩
 rcases hq with hq | hq
 ·obtain⟨eK,r',pl,hz⟩:=I.list hq
  have hlen:=r'.length
  obtain⟨o,ho,hc,n,hd⟩:=pl.isList
  exact call_list_seq p (.inl rfl) ho hc hd (fun h' c' kp e=>fin eK r' hz h' c' kp e) (by simp only[aA]<;> omega)
 ·obtain⟨eK,r',pl,hz⟩:=I.tuple hq
  have hlen:=r'.length
  obtain⟨o,ho,hc,n,hd⟩:=pl
  exact call_list_seq p (.inr rfl) ho hc hd (fun h' c' kp e=>fin eK r' hz h' c' kp e) (by simp only[aA]<;> omega)
def tyV (K:aa)(T:String)(x:V)(H:Hp):Prop:=match x with
 | .str _=>T = "str"
 | .int _=>T = "int"
 | .ref p=>(T = "list"/\∃ xs,pS K H p xs)\/(T = "tuple"/\∃ o,K.lookup p=some o/\o.cls=.type "tuple"/\o.dict=none) \/
  (T = "dict"/\((∃ kvs,H p=some (.dK kvs))\/∃ kvs,H p=some (.dT kvs)))\/(T = "set"/\∃ S n,H p=some (.set S n))
 | _=>False
def tyV_is {dg:List (Addr×Obj)}{σ:St}{H:Hp}{s:Shared}{T:String}{x:V}{v:Value}(I:Inv X dg σ H s)(r:eP x v)(ty:tyV X.K T x H) :
 s.TypeIs v T/\∀ a,v=.ref a->∃ ob,s.heap.get? a=some ob/\ob.dict=none:=by
 cases x with
 | str z =>
  obtain⟨t,rfl⟩:=r
  cases(show T = "str" from ty)
  exact⟨typeIs_str s z t,fun _ e=>nomatch e⟩
 | int i =>
  obtain⟨t,rfl⟩:=r
  cases(show T = "int" from ty)
  exact⟨typeIs_int s i t,fun _ e=>nomatch e⟩
 | ref p =>
  cases r
  rcases ty with⟨rfl,xs,hq⟩ | ⟨rfl,o,hk,hc,hd⟩ | ⟨rfl,hk⟩ | ⟨rfl,S,n,hk⟩
  ·obtain⟨eK,_,pl,_⟩:=I.list hq
   refine⟨pl.isList.typeIs,fun a e=>?_⟩
   cases e
   obtain⟨o,n,e,c,hd,_⟩:=pl
   exact⟨o,e,hd⟩
  ·refine⟨⟨o,I.qw p o hk,hc⟩,fun a e=>?_⟩
   cases e
   exact⟨o,I.qw _ o hk,hd⟩
  ·have z:∃ o,s.heap.get? p=some o/\o.ExactDict:=by
    rcases hk with⟨kvs,hk⟩ | ⟨kvs,hk⟩
    ·obtain⟨_,_,_,_,o,_,_,e,ex,_⟩:=I.eE p _ hk
     exact⟨o,e,ex⟩
    ·obtain⟨_,_,_,_,o,_,_,e,ex,_⟩:=I.eE p _ hk
     exact⟨o,e,ex⟩
   obtain⟨o,e,ex⟩:=z
   refine⟨⟨o,e,ex.1⟩,fun a e2=>?_⟩
   cases e2
   exact⟨o,e,ex.2.1⟩
  ·obtain⟨o,_,_,_,e,ex,_⟩:=I.eE p _ hk
   refine⟨⟨o,e,ex.1⟩,fun a e2=>?_⟩
   cases e2
   exact⟨o,e,ex.2.1⟩
 | _=>exact False.elim ty
def tBM (K:aa)(T:String)(r:V->List V->Hp->VK->Prop)(to:TE)(t:TA):TE:=fun σ H Q=>to σ H fun x H1=>tyV K T x H1/\t σ H1 fun xs H2=>r x xs H2 Q
variable {o e:Expr}{es:List Expr}{to:TE}{t:TA}{name:Str}{apos gy:Pos}{T id:String}{r:V->List V->Hp->VK->Prop}
def pe_bm (pa:PlainAttrs T)(slot:Slot T name id)(hty:typeOf (.builtin id)=pure (.type "method_descriptor"))(hm:MtR X id r)(ho:PE X o to)(ha:PA X (e::es) t)
 (mV:attributeBase o name X.env (eval o X.env)=eval o X.env:=by rfl)
 (hfew:((backTo gy (starEach (e::es) X.env)).all (fun x=>!x.1)&&(backToKw gy (keywordEach [] X.env)).all (fun x=>x.1.isSome)
   && decide ((e::es).length+([]:List Keyword).length+(if([]:List Keyword).isEmpty then 0 else 1)<30))=true:=by rfl)
 (mU:(apos.endLine==gy.line)=true:=by rfl) (hs:starEach (e::es) X.env=(false,eval e X.env)::starEach es X.env:=by rfl) (Eb:(backTo gy (starEach es X.env)).any (·.1)=false:=by rfl) :
 PE X (.Call (.Attribute o name apos) (e::es) [] gy) (tBM X.K T r to t):=by
 intro dg s σ H Q I h
 refine wpAny_Call_method_late mV hfew mU rfl (fK (ho dg s σ H _ I h) fun v s1 qJ=>?_)
 obtain⟨x,H1,I1,r1,ty,q1⟩:=qJ
 obtain⟨h1,h2⟩:=tyV_is I1 r1 ty
 refine⟨T,id,pa,slot,hty,h1,h2,?_⟩
 have hA:=ha gy dg s1 σ H1 _ I1 q1
 rw[hs]at hA ⊢
 refine cA (by show(false||(backTo gy (starEach es X.env)).any (·.1))=false;rw[Eb]<;> rfl) (Calls.evalArgs_plain ?_)
 exact fK hA fun us s2 qm=>by obtain⟨vs,H2,I2,r2,q2⟩:=qm;exact hm dg s2 σ H2 x vs v us Q I2 r1 r2 q2
end
def MtM (X:Cx)(id:String)(r:V->List V->Hp->VK->Prop):Prop :=
 ∀(dg:List (Addr×Obj)) (s:Shared) (σ:St) (H:Hp) (x:V) (xs:List V) (v:Value) (us:List Value) (Q:VK),Inv X dg σ H s->eP x v->eX xs us->r x xs H Q ->
  wpAny (model X.prog X.w) X.A (call (.builtin id) (v::us)) (EP X dg σ Q) X.xe s
def eX.one {x:V}{us:List Value}(h:eX [x] us):∃ u,us=[u]/\eP x u:=by
 cases h with
 | cons r t=>cases t;exact⟨_,rfl,r⟩
def eX.two {x y:V}{us:List Value}(h:eX [x,y] us):∃ u v,us=[u,v]/\eP x u/\eP y v:=by
 cases h with
 | cons r t=>obtain⟨v,rfl,q⟩:=eX.one t;exact⟨_,v,rfl,r,q⟩
section
variable {X:Cx}{dg:List (Addr×Obj)}{σ:St}{H:Hp}{s:Shared}{l b:Addr}{xs ys zs:List V}
def Inv.lset {eK its':List Value}{n:Nat}{f:Array Value->Array Value}{t':Nat}(I:Inv X dg σ H s)(hH:H l=some (.lst xs))
 (e:s.heap.get? l=some { cls:=.type "list",data:=.seq eK.toArray n}) (hf:f eK.toArray=its'.toArray) (hv:eX ys its') (hz:ys.length<=sizeLine) :
 Inv X dg σ (upd H l (.lst ys)) { s with heap:=s.heap.update l (Obj.mapSeq f),toks:=t'}:=by
 have q:=PySem.IsL.update e f
 rw[hf]at q
 refine I.write (x:=l) (e:=l) (by rw[hH];exact trivial) (.inl rfl) (fun b' u hb hu=>(bq s.heap (Obj.mapSeq f) (bf hb)).trans hu) ⟨_,q⟩ ?_
 exact⟨hz,its',_,hv,q⟩
def Inv.lnew {eK:List Value}{t':Nat}(I:Inv X dg σ H s)(hv:eX ys eK)(hz:ys.length<=sizeLine) :
 Inv X dg σ (upd H s.heap.objs.size (.lst ys)) { s with heap:=s.heap.push { cls:=.type "list",data:=.seq eK.toArray},toks:=t'} :=
 I.laid (fun _ _ q=>jt _ q) (ah _) ⟨hz,eK,0,hv,aB _ rfl⟩
def Inv.fresh (I:Inv X dg σ H s):H s.heap.objs.size=none:=I.eE.fresh (ah _)
def Inv.wG (I:Inv X dg σ H s)(hH:H l=some (.lst xs)):xs.length<=sizeLine/\∃(eK:List Value) (n:Nat),eX xs eK/\xs.length=eK.length/\s.heap.get? l=some { cls:=.type "list",data:=.seq eK.toArray n}:=by
 obtain⟨z,eK,n,r,e⟩:=I.eE l _ hH
 exact⟨z,eK,n,r,r.length,e⟩
def wC {n:Nat}(h:n<=sizeLine):Builtin.List.listTooLong n=false:=by
 unfold Builtin.List.listTooLong
 exact au (by omega)
end
section
variable {X:Cx}
def rAppend:V->List V->Hp->VK->Prop:=fun x vs H Q=>∃ l xs y,x=.ref l/\vs=[y]/\H l=some (.lst xs)/\xs.length<sizeLine/\Q .fV (upd H l (.lst (xs++[y])))
def mt_append:MtM X "list.append" rAppend:=by
 intro dg s σ H x vs v us Q I rx rv h
 obtain⟨l,xs,y,rfl,rfl,hH,hz,q⟩:=h
 cases rx
 obtain⟨u,rfl,ru⟩:=rv.one
 obtain⟨z,eK,n,r,hl,e⟩:=I.wG hH
 refine call_meets F.slot_list_append ⟨_,e,rfl⟩ F.entry_list_append (F.args_list_append_2 _ _) (PySem.list_append l eK.toArray n u (by rw[aA];omega)) ⟨e,?_⟩
 refine⟨.fV,_,I.lset (its':=eK++[u]) hH e (by simp) (r.append (.cons ru .nil)) ?_,rfl,q⟩
 rw[lx,aU]
 omega
def rExtend:V->List V->Hp->VK->Prop:=fun x vs H Q=>∃ l b xs zs,x=.ref l/\vs=[.ref b]/\H l=some (.lst xs)/\H b=some (.lst zs)/\xs.length+zs.length<=sizeLine/\Q .fV (upd H l (.lst (xs++zs)))
def mt_extend:MtM X "list.extend" rExtend:=by
 intro dg s σ H x vs v us Q I rx rv h
 obtain⟨l,b,xs,zs,rfl,rfl,hH,hB,hz,q⟩:=h
 cases rx
 obtain⟨u,rfl,ru⟩:=rv.one
 cases ru
 obtain⟨z,eK,n,r,hl,e⟩:=I.wG hH
 obtain⟨z2,qG,n2,r2,hl2,e2⟩:=I.wG hB
 have hsz:eK.toArray.size+qG.toArray.size<=sizeLine:=by rw[aA,aA];omega
 have hlong:¬ (!eK.toArray.isEmpty&&Builtin.List.listTooLong (eK.toArray.size+qG.toArray.size))=true:=by
  rw[wC hsz,Bool.and_false]
  exact aE
 refine call_meets F.slot_list_extend ⟨_,e,rfl⟩ F.entry_list_extend (F.args_list_extend_2 _ _)
  (AutoSeq1.list_extend_list_list_0 l eK.toArray n b qG.toArray n2 hlong (by rw[aA];omega) (by omega)) ⟨e,e2,?_⟩
 refine⟨.fV,_,I.lset (its':=eK++qG) hH e (by simp) (r.append r2) ?_,rfl,q⟩
 rw[lx]
 omega
def rCat:R2:=fun x y H Q=>∃ l b xs zs,x=.ref l/\y=.ref b/\H l=some (.lst xs)/\H b=some (.lst zs)/\xs.length+zs.length<=sizeLine/\∀ p,H p=none->Q (.ref p) (upd H p (.lst (xs++zs)))
def op_cat:jm X (binaryOp .Add) rCat:=by
 intro dg s σ H x y v u Q I rx ry h
 obtain⟨l,b,xs,zs,rfl,rfl,hH,hB,hz,q⟩:=h
 cases rx
 cases ry
 obtain⟨z,eK,n,r,hl,e⟩:=I.wG hH
 obtain⟨z2,qG,n2,r2,hl2,e2⟩:=I.wG hB
 refine PySem.P.add_list e e2 ?_ (by rw[aA,aA];omega)
 have ea:eK.toArray++qG.toArray=(eK++qG).toArray:=by simp
 rw[ea]
 exact⟨.ref _,_,I.lnew (t':=s.toks) (r.append r2) (by rw[lx];omega),rfl,q _ I.fresh⟩
end
section
variable {prog:ae}{w:af}{A:Around}{E:Value->Shared->Prop}{s:Shared}
def splice_eq (eK qG:List Value)(a c:Nat):eK.toArray.extract 0 a++qG.toArray++eK.toArray.extract c eK.toArray.size=(eK.take a++qG++eK.drop c).toArray:=by
 apply Array.toList_inj.mp
 first
  | (simp
     exact aX (by simp))
  | simp[aX]
  | simp
end
end L2
namespace Att
open PySem PySem.W PySem.Calls PyProof.Rows
def uT {P:Params}{h:Heap}:∀(ns:List Int) (vs:List Value),WellAll P h vs (ns.map WData.int)->IntsAre vs ns:=by
 intro ns
 induction ns with
 | nil =>
  intro vs w
  rw[List.map_nil]at w
  cases w
  exact .nil
 | cons n ns ih =>
  intro vs w
  rw[ao]at w
  cases w with
  | cons a b =>
   cases a
   exact .cons _ _ (ih _ b)
def script_of {l:OpenLaw}{n:Nat}(hn:l.most=some n){P:Params}{h:Heap}{args:List WData}{vals:List Value}
 (hpre:l.row.toRowW.claim.pre args=true) (hwl:WellAll P h vals args) :
 ∃ a vs ns,vals=[Value.ref a]/\args=[WData.list (ns.map WData.int)]/\h.get? a=some { cls:=.type "list",data:=.seq vs.toArray}/\IntsAre vs ns/\ns.length<=n:=by
 have hsh:WShape.hasAll [] args [.list .int]=true:=(pre_splitW hpre).1
 have hc:l.pre.holds [] { args:=args}=true:=(pre_splitW hpre).2
 obtain⟨d,r,rfl,h1,h2⟩:=hasAllW_cons hsh
 obtain rfl:=hasAllW_nil h2
 obtain⟨xs,rfl,h3⟩:=hasW_list h1
 obtain⟨ns,rfl⟩:=items_int h3
 have hlen:ns.length<=n:=by
  unfold OpenLaw.pre at hc
  have h4:(WTm.not (.lt (.lit (.int (n:Int))) (.len (.arg 0)))).holds [] { args:=[.list (ns.map .int)]}=true:=by
   have h4:=(holds_andW hc).1
   rw[hn]at h4
   exact h4
  have h5:=condW_of h4 (w_not (w_lt w_lit (w_len_list (w_arg rfl))))
  rw[fF]at h5
  refine Nat.le_of_not_lt fun q=>?_
  have q':(n:Int)<((ns.length:Nat):Int):=by omega
  first
   | (rw[ak q']at h5;exact absurd h5 (by decide))
   | (simp at h5;omega)
 cases hwl with
 | cons w1 w2 =>
  cases w2
  cases w1 with
  | list ho hall=>exact⟨_,_,ns,rfl,rfl,ho,uT ns _ hall,hlen⟩
def post_true (l:OpenLaw)(args:List WData):l.row.toRowW.claim.post args (.bool true) args=true :=
 postW_of (r:=l.row.toRowW) (X:=(true==true))
  (show WShape.has [] (.bool true) .bool=true by first | rfl | decide | simp[WShape.has,WShape.arms,WShape.armsAll])
  (show(WTm.eq .res (.lit (.bool true))).value [] { args:=args,res:=some (.bool true),after:=args}=some (.bool (true==true))from w_eq_bool (w_res rfl) w_lit) rfl
def CP {l:OpenLaw}{n:Nat}{q:ae}{loose:List Str}{XP:(Str->Option Value)->Heap->Prop}{YP:af->Heap->Prop}{d:DefRec}
 (hn:l.most=some n) (hdf:d.params.defaults=[])
 (call:∀(w:af) (s₀ s₁:Shared) (mg mb:Str->Option Value) (fa:Addr) (o:Obj) (pm cd doc:Value) (a:Addr) (vs:List Value) (ns:List Int),
   Ground q loose [] XP w s₀ mg mb s₁.heap->YP w s₁.heap ->
   s₁.heap.get? fa=some o->o.data=.func (docDef d.name d.params d.body d.scope pm cd doc)->s₁.heap.CodeRec cd d.name->mg d.name=some (.ref fa) ->
   s₁.heap.get? a=some { cls:=.type "list",data:=.seq vs.toArray}->IntsAre vs ns->ns.length<=n->s₁.gens=#[] ->
   codeAny (model l.prog w) callerA (.call (.ref fa) ⟨[.ref a],[]⟩) (fun r s'=>r=.ok (.ret (.bool true))/\OldK s₁.heap s'.heap/\s'.os=s₁.os/\AllBare s'.gens) s₁) :
 WalkO q loose XP YP l.row.toRowW d [] (fun f vs=>PySem.call f vs):=by
 intro w s₀ s₁ mg mb G Y fa o pm cd doc dV kV ho hd x8 hD hmg hg args vals as hpre hlay hrd hwl hlo
 obtain rfl:dV=.none:=Dflts.none hD hdf
 obtain rfl:kV=.none:=Dflts.noKw hD
 obtain⟨a,vs,ns,rfl,rfl,hobj,hints,hlen⟩:=script_of hn hpre hwl
 refine enter_call (codeAny_mono (call w s₀ s₁ mg mb fa o pm cd doc a vs ns G Y ho (fd_plain hd) x8 hmg hobj hints hlen hg) fun r s' hq=>?_)
 obtain⟨rfl,h2,h3,h4⟩:=hq
 exact⟨.inl ⟨.bool true,.bool true,[],rfl,fun _=>rfl,.bool true,post_true l _,fun _=>⟨List.Pairwise.nil,fun _ hm=>(nomatch hm)⟩⟩,h2,h3,h4⟩
end Att
namespace L2
open PySem PySem.Spec PyProof.Rows
def vals_ints {vs:List Value}{ns:List Int}(h:IntsAre vs ns):eX (ns.map V.int) vs:=by
 induction h with
 | nil=>exact .nil
 | cons n t h ih=>exact .cons ⟨t,rfl⟩ ih
def Only (H:Hp):Prop:=∀ b,H b=none\/∃ o xs,H b=some (.ly o (.lst xs))
def law_call {P:ae}{w:af}{K:aa}{mg mb:Str->Option Value}{CX:CXT}{k:Nat}{fa a:Addr}{fd:ag}{x:Str}{sp:Sp}{s₁:Shared}{vs:List Value}{ns:List Int}
 (KX:K.In s₁.heap) (hns:s₁.heap.Ns mainGlobals mg) (hb:s₁.heap.Ns builtinsNs mb) (hbb:∀ x:Str,x ≠ "__name__"->mb x=bootBuiltins x) (hlim:s₁.heap.NoLimit) (hg:s₁.gens=#[])
 (ha:s₁.heap.get? a=some { cls:=.type "list",data:=.seq vs.toArray}) (hi:IntsAre vs ns) (hl:ns.length<=sizeLine) (hr:gZ k callerA)
 (F:∀ dh:Heap,K.In dh->dh.Ns mainGlobals mg->eF P w K mg dh CX k fa fd [x] sp) (hbind:∀(s:Shared) (u:Value),BindsTo s fd ⟨[u],[]⟩ [(x,u)])
 (hsp:∀ H:Hp,Only H->pS K H a (ns.map V.int)->sp [.ref a] H (fun v _=>v=.bl true) fun _ _ _=>False)
 (hCX:∀ H e s',CX [] H s₁ (fun _ _ _=>False) e s'->False) :
 codeAny (model P w) callerA (.call (.ref fa) ⟨[.ref a],[]⟩) (fun r s'=>r=.ok (.ret (.bool true))/\OldK s₁.heap s'.heap/\s'.os=s₁.os/\AllBare s'.gens) s₁:=by
 have rv:=vals_ints hi
 have lenV:=hi.length
 have core:∀ H:Hp,Only H->pS K H a (ns.map V.int)->ot P w H s₁.heap->(∀ b,H b≠none->b=a)->(H a≠none->K.lookup a=none) ->
  codeAny (model P w) callerA (.call (.ref fa) ⟨[.ref a],[]⟩) (fun r s'=>r=.ok (.ret (.bool true))/\OldK s₁.heap s'.heap/\s'.os=s₁.os/\AllBare s'.gens) s₁:=by
  intro H hO hS eE hA hK
  have base_of:∀ {b:Addr} {o:Obj},s₁.heap.get? b=some o->H b=none->(Aj s₁.heap H).get? b=some o:=fun e n=>hidT_get e n
  have noA:∀ {b:Addr} {o:Obj} {es:Array DictEntry} {ep:Nat},s₁.heap.get? b=some o->o.data=.dict es ep->H b=none:=fun {b o es ep} e d=>by
   cases q:H b with
   | none=>rfl
   | some u =>
    have e':b=a:=hA b (by rw[q];simp)
    subst e'
    rw[ha]at e;cases e
    have d':Data.seq vs.toArray _=Data.dict es ep:=d
    cases d'
  have nsK:∀ {b:Addr} {m:Str->Option Value},s₁.heap.Ns b m->(Aj s₁.heap H).Ns b m:=fun {b m} qY=>by obtain⟨o,es,ep,e,d,r⟩:=qY;exact⟨o,es,ep,base_of e (noA e d),d,r⟩
  have hKb:K.In (Aj s₁.heap H):=fun b o e=>base_of (KX b o e) (by
   cases q:H b with
   | none=>rfl
   | some u =>
    have e':b=a:=hA b (by rw[q];simp)
    subst e'
    rw[hK (by rw[q];simp)]at e;cases e)
  have hM:Mod K mg (Aj s₁.heap H):=⟨hKb,nsK hns,⟨mb,nsK hb,hbb⟩,let ⟨mc,h1,h2⟩:=hlim;⟨mc,nsK h1,h2⟩⟩
  have e0:A1 P w K mg (Aj s₁.heap H) callerA [] s₁ H:=⟨rfl,hM,fun b o e=>of_hidT e,Nat.le_of_eq (hidT_size _ _),trivial,fun b hb=>absurd (show b∈([]:List Addr)from hb) (by simp),eE,.of_eq hg⟩
  refine codeAny_mono ((F _ hKb (nsK hns)).run callerA [] s₁ H ⟨[.ref a],[]⟩ [.ref a] [.ref a] _ _ hr e0 (hbind s₁ (.ref a)) (.cons rfl .nil) (hsp H hO hS)) fun r s' h=>?_
  cases r with
  | error e=>exact(hCX H e s' h).elim
  | ok fl =>
   cases fl with
   | next=>exact False.elim h
   | brk=>exact False.elim h
   | cont=>exact False.elim h
   | ret u =>
    obtain⟨v,H',os,bare,un,hok',r',q⟩:=h
    have q':v=.bl true:=q
    subst q'
    obtain rfl:u=Value.bool true:=r'
    refine⟨rfl,OldK.of_keep fun b o e=>?_,os,bare⟩
    cases q:H b with
    | none=>exact un.keep b o e q (by intro z;exact absurd (show b∈([]:List Addr)from z) (by simp)) (by simp)
    | some u =>
     rcases hO b with z | ⟨ob,xs,z⟩
     ·rw[q]at z;cases z
     ·have z2:=un.oM b ob _ z
      obtain⟨e1,_⟩:=eE b _ z
      obtain⟨e2,_⟩:=hok' b _ z2
      rw[e]at e1;cases e1
      exact e2
 cases hk:K.lookup a with
 | some o =>
  have e:=KX a o hk
  rw[ha]at e
  cases e
  refine core (fun _=>none) (fun _=>.inl rfl) (.inr ⟨_,vs.toArray,_,hk,rfl,rfl,rfl,by rw[aA,lenV];exact hl,by simpa using rv⟩) (fun b u z=>by have z':(none:Option HO)=some u:=z;cases z') (fun b z=>absurd rfl z) fun z=>absurd rfl z
 | none =>
  refine core (fun b=>if b=a then some (.ly { cls:=.type "list",data:=.seq vs.toArray} (.lst (ns.map V.int)))else none) (fun b=>?_) (.inl (.inr ⟨{ cls:=.type "list",data:=.seq vs.toArray},aj rfl⟩)) (fun b u z=>?_) (fun b z=>?_) fun _=>hk
  ·by_cases hb:b=a
   ·exact .inr ⟨_,_,aj hb⟩
   ·exact .inl (ai hb)
  ·by_cases hb:b=a
   ·have z':=(aj hb).symm.trans z
    cases z'
    subst hb
    exact⟨ha,by rw[fF];exact hl,vs,_,rv,ha⟩
   ·have z':=(ai hb).symm.trans z
    cases z'
  ·by_cases hb:b=a
   ·exact hb
   ·exact absurd (ai hb) z
def walk_of {l:W.OpenLaw}{n k:Nat}{q:ae}{loose:List Str}{XP:(Str->Option Value)->Heap->Prop}{YP:af->Heap->Prop}{d:DefRec}{K:Params->aa}{CX:af->CXT}{sp:af->Sp}{x:Str}
 (hn:l.most=some n) (hn2:n<=sizeLine) (hdf:d.params.defaults=[]) (hr:gZ k callerA)
 (hY:∀(w:af) (h:Heap),YP w h->(K w.params).In h)
 (F:∀(w:af) (mg:Str->Option Value) (fa:Addr) (h:Heap),(K w.params).In h->h.Ns mainGlobals mg->mg d.name=some (.ref fa) ->
   ∃ fd:ag,(∀(s:Shared) (u:Value),BindsTo s fd ⟨[u],[]⟩ [(x,u)]) /\
    ∀ dh:Heap,(K w.params).In dh->dh.Ns mainGlobals mg->eF l.prog w (K w.params) mg dh (CX w) k fa fd [x] (sp w))
 (hsp:∀(w:af) (H:Hp) (a:Addr) (ns:List Int),ns.length<=n->Only H->pS (K w.params) H a (ns.map V.int)->sp w [.ref a] H (fun v _=>v=.bl true) fun _ _ _=>False)
 (hCX:∀(w:af) (H:Hp) (s:Shared) (e:Value) (s':Shared),CX w [] H s (fun _ _ _=>False) e s'->False) :
 W.WalkO q loose XP YP l.row.toRowW d [] (fun f vs=>PySem.call f vs):=by
 refine Att.CP hn hdf fun w s₀ s₁ mg mb fa o pm cd doc a vs ns G Y ho hd x8 hmg hobj hints hlen hg=>?_
 have KX:=hY w _ Y
 obtain⟨fd,hb,hF⟩:=F w mg fa _ KX G.T.g hmg
 exact law_call KX G.T.g G.T.b G.T.builtins G.T.nolimit hg hobj hints (az hlen hn2) hr hF hb (fun H hO hS=>hsp w H a ns hlen hO hS) fun H e s'=>hCX w H s₁ e s'
def iq (s:Stmt):Arguments:=match s with
 | .FunctionDef _ a _ _ _ _ _ _ _ _=>a
 | _=>{ posonlyargs:=[],args:=[],vararg:=none,kwonlyargs:=[],kw_defaults:=[],kwarg:=none,defaults:=[]}
def gI (s:Stmt):List Stmt:=match s with
 | .FunctionDef _ _ b _ _ _ _ _ _ _=>b
 | _=>[]
def dw (s:Stmt):Scope:=match s with
 | .FunctionDef _ _ _ _ _ _ sc _ _ _=>sc
 | _=>{ kind:=.function,names:=[],isGenerator:=false,isCoroutine:=false}
abbrev jM:CXT:=fun _ _ _ _ _ _=>False
abbrev E0:XK:=fun _ _ _=>False
def Ft {X:Cx}:Passes jM X E0:=fun _ _ _ _ _ _ _ h=>h.elim
structure gL (K:aa)(x qual:Str)(st:Stmt)(f:Addr)(fd:ag):Prop where
 ex:∃(oc:Value) (od:Option Addr) (kV doc pm:Value) (an:Option Addr) (fR ct:Value) (osl:Array (Option Value)),
  fd=W.fnOf x qual (iq st) (gI st) (dw st) .none kV doc pm an fR ct/\K.lookup f=some ⟨oc,od,.func fd,osl⟩/\W.codeIn K fR qual=true
 kp:W.keepIn K (.ref f)=true
section
variable {P:ae}{w:af}{K:aa}{mg:Str->Option Value}{dh:Heap}
def gL.ok {x qual:Str}{st:Stmt}{f:Addr}{fd:ag}{N ps:List Str}{k:Nat}{sp:Sp}(F:gL K x qual st f fd)(S:dH N ps (dw st))(len:∀ vs H Q E,sp vs H Q E->vs.length=ps.length)
 (pB:∀(fR:Value) (A:Around) (dA:List Env) (s:Shared) (H:Hp) (vs:List V) (Q:VK) (E:XK),gZ k (A.deeper (envOfC qual (dw st) s.heap.objs.size f fR))->sp vs H Q E ->
   ∃ t,AV (oN jM P w K mg dh N qual (dw st) f fR A dA s H E).nox (gI st) t/\t { nx:=fun _ H'=>Q .fV H',rt:=Q} (start N vs) H):eF P w K mg dh jM (k+1) f fd ps sp:=by
 obtain⟨oc,od,kV,doc,pm,an,fR,ct,osl,rfl,lk,x8⟩:=F.ex
 refine fn_of lk x8 S len fun A dA s H vs Q E hr hsp=>?_
 obtain⟨t,h,q⟩:=pB fR A dA s H vs Q E hr hsp
 exact⟨t,h.nox,q⟩
def gL.binds {x qual:Str}{st:Stmt}{f:Addr}{fd:ag}{ps:List Str}(F:gL K x qual st f fd)
 (h:∀(kV doc pm:Value) (an:Option Addr) (fR ct:Value) (us:List Value),us.length=ps.length->bindArgs (W.fnOf x qual (iq st) (gI st) (dw st) .none kV doc pm an fR ct) ⟨us,[]⟩=pure (ps.zip us)):Binds K fd ps []:=by
 obtain⟨oc,od,kV,doc,pm,an,fR,ct,osl,rfl,lk,x8⟩:=F.ex
 exact .all (h kV doc pm an fR ct)
def fun_mk {x qual:Str}{st:Stmt}{f:Addr}{oc:Value}{od an:Option Addr}{osl:Array (Option Value)}{kV doc pm fR ct:Value}(l:K.lookup f=some ⟨oc,od,.func (W.fnOf x qual (iq st) (gI st) (dw st) .none kV doc pm an fR ct),osl⟩)
 (c:W.codeIn K fR qual=true) (k:W.keepIn K (.ref f)=true):gL K x qual st f (W.fnOf x qual (iq st) (gI st) (dw st) .none kV doc pm an fR ct):=⟨⟨oc,od,kV,doc,pm,an,fR,ct,osl,rfl,l,c⟩,k⟩
end
def fE {A:Around}{k:Nat}(hr:gZ k A):A.units+1<cLine:=b7 (Nat.add_le_add_left (by decide:1<=64) _) hr.units
section
variable {X:Cx}
def pv (i:Nat){x:Str}{pos:Pos}(hN:X.N[i]?=some x:=by rfl)(hv:Vis X.env.scope x:=by first | exact Or.inl rfl | exact Or.inr (Or.inl rfl) | exact Or.inr (Or.inr rfl))(hd:(x==("__debug__" : Str))=false:=by decide)
 (x8:(x==("__classdict__" : Str))=false:=by decide):PE X (.Name x pos) (tVar i):=zP hN hv hd x8
end
def gG (H H':Hp):Prop:=∀ b o,H b=some o->H' b=some o
def gG.refl (H:Hp):gG H H:=fun _ _ h=>h
def gG.trans {H H1 H2:Hp}(a:gG H H1)(b:gG H1 H2):gG H H2:=fun c o h=>b c o (a c o h)
def gG.free {H H':Hp}(e:gG H H'){l:Addr}(h:H' l=Option.none):H l=Option.none:=by
 cases q:H l with
 | none=>rfl
 | some o =>
  rw[e l o q]at h
  cases h
end L2
namespace L2
open PySem PySem.W PyProof.Rows
noncomputable abbrev EU:=Fast.tw14082659384304107361
noncomputable abbrev vH:=Fast.tw14364793385576792824
noncomputable abbrev DB:=Fast.tw4187177175401517315
noncomputable abbrev S00 (w:af)(os:OsState):Shared:=⟨boot_heap w.params,#[],boot_drawn,boot_toks,os⟩
def boot_size (P:Params):((boot_heap P).isNs mainGlobals,(boot_heap P).objs.size,(boot_heap P).nsMap mainGlobals "__annotations__")=(true,11,some (.ref 6)):=by kernel_rfl
def left_of {p q:ae}{loose:List Str}{Xt:Shared->Bool}{α:Type}{Yf:Shared->α}{Ya:af->α}{N M:Nat}
 (e:opening p=plainProg p.main.scope.names) (hN:Nat.ble 600 N=true) (f:∀ s,fenceModules? p s=some s) (le:Nat.ble M N=true)
 (h:∀(w:af) (os:OsState),(EU vH p w 11 (some (.ref 6)) M (S00 w os) (topStub p)).map (fun s =>
   (staticsOk (importedModules p.main.body) (boot_heap w.params) s.heap&&namesBound p s.heap&&gensDone s&&laidKept (boot_heap w.params) s.heap,DB q loose (importedModules p.main.body) Xt true s,Yf s))=some (true,openGood q loose,Ya w)) :
 LeftO p q loose Xt Yf Ya N:=fun w=>by
 obtain⟨⟨h0,gs,d,k,os⟩,e1,e2⟩:=Option.map_eq_some_iff.mp (boot_open e hN f w)
 obtain⟨rfl,rfl,rfl,rfl⟩:h0=boot_heap w.params/\gs=#[]/\d=boot_drawn/\k=boot_toks:=by simpa using e2
 have b:=boot_size w.params
 simp only[Prod.mk.injEq]at b
 obtain⟨s1,r,e3⟩:=Option.map_eq_some_iff.mp (h w os)
 simp only[Prod.mk.injEq]at e3
 have r':topRun treeTable p w 11 (some (.ref 6)) M (S00 w os) (topStub p)=some s1:=by
  rw[show topRun=EU from Fast.te14082659384304107361,show treeTable=vH from Fast.te14364793385576792824];exact r
 have r2:=topRun_mono (N - M) _ _ _ _ r'
 rw[show M+(N - M)=N by have:=Nat.le_of_ble_eq_true le;omega]at r2
 have t:topFrom treeTable p w N ⟨boot_heap w.params,#[],boot_drawn,boot_toks,os⟩=some s1:=by
  unfold topFrom
  dsimp only
  rw[b.1,b.2.1,b.2.2,r2]
  show(match staticsOk (importedModules p.main.body) (boot_heap w.params) s1.heap&&namesBound p s1.heap&&gensDone s1&&laidKept (boot_heap w.params) s1.heap with | true=>_ | false=>_)=_
  rw[e3.1]
 unfold openEnds
 rw[e1]
 show(topFrom treeTable p w N _).map _=_
 rw[t]
 refine bL some (Prod.ext ?_ e3.2.2)
 rw[<- e3.2.1]
 exact congrFun (congrFun (congrFun (congrFun (congrFun (congrFun Fast.te4187177175401517315 q) loose) (importedModules p.main.body)) Xt) true) s1
def iF (P:Params)(x:Str)(t:Nat)(v:Value):DictEntry:=⟨PyData.keyHash P x,.str x t,v⟩
def mainO (P:Params)(nm:Str)(t:Nat)(es:List (Str×Nat×Value)):Obj:=⟨.type "dict",none,.dict ((([("__name__",165,.str nm t),("__doc__",166,.none),("__package__",167,.none),("__loader__",168,.builtin "__main__.__loader__#opaque"),("__spec__",169,.none),("__annotations__",170,.ref 6),("__builtins__",171,.ref 4),("__file__",173,.str "/claim/cut.py" 172),("__cached__",174,.none)]:List (Str×Nat×Value))++es).map fun e=>iF P e.1 e.2.1 e.2.2).toArray (es.length+9),#[]⟩
abbrev sS (x:String):Str:=Str.ofString x
abbrev me (x:String)(t:Nat)(v:Value):Str×Nat×Value:=(Str.ofString x,t,v)
abbrev ko (a:Addr)(o:Obj):Addr×Obj:=(a,o)
abbrev sr (a:Addr):Option (Option Value):=some (some (.ref a))
abbrev sn:Option (Option Value):=some none
def fnQ (x q:Str)(s:Stmt)(pm:Value)(c:Addr):Obj:=⟨.type "function",none,.func (fnOf x q (iq s) (gI s) (dw s) .none .none .none pm none (.ref c) .none),#[]⟩
def coQ (x q:Str)(t l a r1 r2:Nat)(v1 v2:Value)(r3 t2:Nat):Obj:=⟨.type "code",none,.fields #[.str x t,.str q (t+1),.str "/claim/cut.py" (t+2),.int l 0,.int a 0,.int 0 0,.int 0 0,.int 3 0,.ref r1,.bool true,.int 181 0,.ref r2,.none,v1,v2,.ref r3,.int t2 0,.int l 0,.str "/claim/cut.py" (t2+1)],#[]⟩
def fun_of {K:Frag}{x q:Str}{s:Stmt}{f c:Addr}{pm:Value}(l:K.lookup f=some (fnQ x q s pm c):=by kernel_rfl)(c':codeIn K (.ref c) q=true:=by kernel_rfl)(k:keepIn K (.ref f)=true:=by kernel_rfl):gL K x q s f (fnOf x q (iq s) (gI s) (dw s) .none .none .none pm none (.ref c) .none):=fun_mk l c' k
def bn1 {α:Type}{P:List α->Prop}(h:∀ a,P [a])(us:List α)(e:us.length=1):P us:=by
 obtain⟨a,rfl⟩:=List.length_eq_one_iff.mp e
 exact h a
def bnS {α:Type}{P:List α->Prop}{n:Nat}(h:∀ a us,us.length=n->P (a::us))(us:List α)(e:us.length=n+1):P us:=by
 cases us with
 | nil=>cases e
 | cons a us=>exact h a us (Nat.succ.inj e)
def clsBody (s:Stmt):List Stmt:=match s with
 | .ClassDef _ _ _ b _ _ _ _ _ _ _=>b
 | _=>[]
def defPos (s:Stmt):Pos:=match s with
 | .FunctionDef _ _ _ _ _ _ _ _ _ p=>p
 | _=>⟨0,0,0,0⟩
end L2
namespace L2
open PySem PySem.Spec PyProof.Rows
def jF (cells:List (Str×Addr)):List (Str×NameKind)->List (Str×Addr)->List (Str×Addr)
 | [],acc=>acc
 | (n,k)::r,acc=>if k==.free then jF cells r ((n,(cells.lookup n).getD 0)::acc)else jF cells r acc
def qP {env:Env}(f:Str×NameKind->List (Str×Addr)->Sem (ForInStep (List (Str×Addr))))
 (hf:∀ n k cs,f (n,k) cs=if k==.free then(do let a <- cellOf env n;pure (.yield ((n,a)::cs)))else pure (.yield cs)) :
 ∀(names:List (Str×NameKind)) (acc:List (Str×Addr)),(∀ y∈names,y.2=.free->∃ c,env.cells.lookup y.1=some c) ->
  forIn names acc f=pure (jF env.cells names acc)
 | [],acc,_=>by rw[List.forIn_nil];rfl
 | (n,k)::r,acc,h=>by
  rw[List.forIn_cons,hf]
  unfold jF
  have hr:∀ y∈r,y.2=.free->∃ c,env.cells.lookup y.1=some c:=fun y hy=>h y (nV _ hy)
  by_cases hk:(k==NameKind.free)=true
  ·rw[aj hk,aj hk]
   obtain⟨c,hc⟩:=h (n,k) aC (by simpa using hk)
   have tM:env.cells.lookup n=some c:=hc
   have e:cellOf env n=pure c:=by unfold cellOf;rw[tM]
   rw[e,tM,pure_bind,pure_bind]
   exact qP f hf r _ hr
  ·rw[ai hk,ai hk,pure_bind]
   exact qP f hf r _ hr
def j6 {scope:Scope}{env:Env}(h:∀ y∈scope.names,y.2=.free->∃ c,env.cells.lookup y.1=some c):closureFor scope env=pure (jF env.cells scope.names []):=by
 simp only[closureFor]
 rw[qP (env:=env) _ (fun n k cs=>by
  by_cases hk:(k==NameKind.free)=true
  ·simp only[hk,if_true]
  ·simp only[Bool.not_eq_true]at hk;simp only[hk,c9,if_false]) scope.names [] h]
 rfl
def n6 {cells:List (Str×Addr)}:∀ {names:List (Str×NameKind)} {acc:List (Str×Addr)},(∀ y∈names,y.2=.free->∃ c,cells.lookup y.1=some c) ->
 ∀ n c,(n,c)∈jF cells names acc->(n,c)∈acc\/cells.lookup n=some c
 | [],acc,_,n,c,h=>.inl h
 | (m,k)::r,acc,hf,n,c,h=>by
  unfold jF at h
  have hr:∀ y∈r,y.2=.free->∃ c,cells.lookup y.1=some c:=fun y hy=>hf y (nV _ hy)
  split at h
  ·rename_i hk
   rcases n6 hr n c h with h | h
   ·rcases List.mem_cons.mp h with e | h
    ·cases e
     obtain⟨c,hc⟩:=hf (m,k) aC (by simpa using hk)
     have tM:cells.lookup m=some c:=hc
     exact .inr (by rw[tM];rfl)
    ·exact .inl h
   ·exact .inr h
  ·exact n6 hr n c h
def qQ {cells:List (Str×Addr)}:∀(names:List (Str×NameKind)) (acc:List (Str×Addr)) (n:Str),(acc.lookup n).isSome=true->((jF cells names acc).lookup n).isSome=true
 | [],acc,n,h=>h
 | (m,k)::r,acc,n,h=>by
  unfold jF
  split
  ·refine qQ r _ n ?_
   rw[cL]
   cases n==m
   ·exact h
   ·rfl
  ·exact qQ r _ n h
def n8 {cells:List (Str×Addr)}:∀(names:List (Str×NameKind)) (acc:List (Str×Addr)) (n:Str),(n,NameKind.free)∈names->((jF cells names acc).lookup n).isSome=true
 | (m,k)::r,acc,n,h=>by
  unfold jF
  rcases List.mem_cons.mp h with e | h
  ·cases e
   refine qQ r _ m ?_
   simp
  ·split
   ·exact n8 r _ n h
   ·exact n8 r _ n h
def j8:∀(names:List (Str×NameKind)) (n:Nat) (a b:List (Str×Addr)),cellsFrom n names (a++b)=cellsFrom n names a++b
 | [],_,_,_=>rfl
 | (m,k)::r,n,a,b=>by
  unfold cellsFrom
  split
  ·exact j8 r (n+1) ((m,n)::a) b
  ·exact j8 r n a b
def ml {M:Model}{A:Around}{E:Value->Shared->Prop}{s:Shared}{scope:Scope}{cl:List (Str×Addr)}{env:Env}{Q:Env->Shared->Prop}
 (h:Q (newEnv scope s.heap.objs.size env.globals (cellsFrom (s.heap.objs.size+1) scope.names cl) env.qual none .none (some env) builtinsNs) { s with heap:=pushCells (s.heap.push { cls:=.type "dict",data:=.dict #[]}) scope.names}) :
 wpAny M A (newFunctionEnv scope env.globals cl [] env.qual none .none (some env)) Q E s:=by
 simp only[newFunctionEnv,Option.isSome_some,if_true]
 refine eI (wpAny_alloc ?_)
 refine eI (wpAny_layCells _ (fun name kind cells=>by cases hkc:kind==NameKind.cell <;> simp[hkc]) _ _ _ _ ?_)
 rw[show({ s with heap:=s.heap.push { cls:=.type "dict",data:=.dict #[]}}:Shared).heap.objs.size=s.heap.objs.size+1 from ba ..]
 rw[List.forIn_nil]
 exact eI (ar (ar h))
def fL (js:List (Option Nat))(σ:St):St:=js.map fun o=>o.bind fun j=>(σ[j]?).join
def AI (XN:List Str)(xsc:Scope)(N:List Str)(js:List (Option Nat))(sc:Scope):Bool :=
 (sc.kind==.function)&&(sc.names.all fun y=>(y.2 != .local)||(sc.names.lookup y.1==some .local)) &&
 (sc.names.all fun y=>(y.2 != .free)||(xsc.names.lookup y.1==some .cell)||(xsc.names.lookup y.1==some .free)) &&
 (js.length==N.length)&&decide N.Nodup &&
 ((N.zip js).all fun p=>match p.2 with
   | none=>true
   | some j=>XN[j]?==some p.1&&sc.names.contains (p.1,NameKind.free)&&sc.names.lookup p.1==some .free&&!(sc.names.contains (p.1,NameKind.cell)))
structure ip (X:Cx)(N:List Str)(js:List (Option Nat))(sc:Scope):Prop where
 kind:sc.kind=.function
 loc:∀ y∈sc.names,y.2=.local->sc.names.lookup y.1=some .local
 free:∀ y∈sc.names,y.2=.free->X.env.kindOf y.1=some .cell\/X.env.kindOf y.1=some .free
 len:js.length=N.length
 nd:N.Nodup
 slot:∀(i:Nat) (x:Str) (j:Nat),N[i]?=some x->js[i]?=some (some j)->X.N[j]?=some x/\(x,NameKind.free)∈sc.names/\sc.names.lookup x=some .free/\(x,NameKind.cell)∉sc.names
def compOk {X:Cx}{XN:List Str}{xsc:Scope}{N:List Str}{js:List (Option Nat)}{sc:Scope}(h:AI XN xsc N js sc=true)(hN:X.N=XN:=by rfl)(hs:X.env.scope=xsc:=by rfl):ip X N js sc:=by
 subst hN;subst hs
 unfold AI at h
 simp only[aO,cw,Bool.or_eq_true,bne_iff_ne,beq_iff_eq,bc]at h
 obtain⟨⟨⟨⟨⟨h1,h2⟩,h3⟩,h4⟩,h5⟩,h6⟩:=h
 refine⟨h1,fun y hy e=>(h2 y hy).resolve_left fun z=>z e,fun y hy e=>?_,h4,h5,fun i x j e1 e2=>?_⟩
 ·rcases h3 y hy with(z | z) | z
  ·exact absurd e z
  ·exact .inl z
  ·exact .inr z
 ·have hm:(x,some j)∈N.zip js:=List.mem_iff_getElem?.mpr ⟨i,by rw[List.getElem?_zip_eq_some];exact⟨e1,e2⟩⟩
  have q:=h6 _ hm
  simp only[aO,beq_iff_eq,List.contains_iff_mem,Bool.not_eq_true',List.contains_eq_mem,bc,decide_eq_false_iff_not]at q
  exact⟨q.1.1.1,q.1.1.2,q.1.2,q.2⟩
def j7:∀(names:List (Str×NameKind)) (n:Nat) (acc:List (Str×Addr)) (x:Str) (c:Addr),(x,c)∈cellsFrom n names acc->(x,NameKind.cell)∈names\/(x,c)∈acc
 | [],_,_,_,_,h=>.inr h
 | (m,k)::r,n,acc,x,c,h=>by
  unfold cellsFrom at h
  split at h
  ·rename_i hk
   rcases j7 r _ _ x c h with h | h
   ·exact .inl (nV _ h)
   ·rcases List.mem_cons.mp h with e | h
    ·cases e
     have hk':k=NameKind.cell:=by simpa using hk
     exact .inl (by rw[hk'];exact aC)
    ·exact .inr h
  ·rcases j7 r _ _ x c h with h | h
   ·exact .inl (nV _ h)
   ·exact .inr h
def uj {α β:Type}(g:Str->α->β):∀(l:List (Str×α)) (x:Str),(l.map fun p=>(p.1,g p.1 p.2)).lookup x=(l.lookup x).map (g x)
 | [],_=>rfl
 | (n,k)::r,x=>by
  rw[ao,cL,cL]
  cases hb:x==n with
  | true=>rw[beq_iff_eq.mp hb];rfl
  | false=>exact uj g r x
def tu (env:Env)(x:Str)(k:NameKind):NameKind:=if(k==.free&&env.scope.kind==.function&&env.kindOf x==some .cell)then .cell else k
def jC {sc:Scope}{env:Env}{x:Str}:(relabel sc env).names.lookup x=(sc.names.lookup x).map (tu env x):=by
 rw[<- uj]
 unfold relabel
 congr 1
 refine bY fun p _=>?_
 obtain⟨n,k⟩:=p
 show(if _ then _ else _)=(n,tu env n k)
 unfold tu
 split <;> rfl
def Bv {env:Env}{x:Str}{k:NameKind}(h:tu env x k=.cell\/tu env x k=.free):k=.cell\/k=.free:=by
 unfold tu at h
 split at h
 ·rename_i q
  simp only[aO,beq_iff_eq]at q
  exact .inr q.1.1
 ·exact h
def yo {env:Env}{x:Str}:tu env x .free=.cell\/tu env x .free=.free:=by
 unfold tu
 split
 ·exact .inl rfl
 ·exact .inr rfl
def lL (sc:Scope)(C:Addr)(env:Env):Env where
 scope:=relabel sc env
 locals:=C
 globals:=env.globals
 cells:=cellsFrom (C+1) sc.names (jF env.cells sc.names [])
 qual:=env.qual
 func:=none
 code:=env.code
 frame:=env.frame
 builtins:=env.builtins
def kZ (X:Cx)(N:List Str)(sc:Scope)(fp:List Addr)(s:Shared)(H:Hp):Cx where
 prog:=X.prog
 w:=X.w
 K:=X.K
 mg:=X.mg
 dh:=X.dh
 A:=X.A
 N:=N
 s₀:=s
 H₀:=H
 env:=lL sc (s.heap.objs.size+1) X.env
 dA:=X.stack
 stack:=X.stack
 ex:=fp
 fn:=fun x=>sc.names.lookup x==some .cell
 calm:=X.calm
 pn:=[]
 xe:=fun _ _=>False
def rZ (sc:Scope)(h:Heap):Heap:=pushCells ((h.push { cls:=.type "list",dict:=none,data:=.seq ([]:List Value).toArray}).push { cls:=.type "dict",data:=.dict #[]}) sc.names
def uu {sc:Scope}{h:Heap}:∀ b o,h.get? b=some o->(rZ sc h).get? b=some o:=fun b o e=>cV _ _ b o (jt _ (jt _ e))
def heapC_acc {sc:Scope}{h:Heap}:(rZ sc h).get? h.objs.size=some { cls:=.type "list",dict:=none,data:=.seq ([]:List Value).toArray} :=
 cV _ _ _ _ (jt _ (aB _ rfl))
def wQ {js:List (Option Nat)}{σ:St}{i:Nat}{v:V}(h:(fL js σ)[i]?=some (some v)):∃ j,js[i]?=some (some j)/\σ[j]?=some (some v):=by
 unfold fL at h
 rw[uw]at h
 cases e:js[i]? with
 | none=>rw[e]at h;cases h
 | some o =>
  rw[e]at h
  cases o with
  | none=>cases h
  | some j =>
   refine⟨j,rfl,?_⟩
   have h':(σ[j]?).join=some v:=aN h
   cases q:σ[j]? with
   | none=>rw[q]at h';cases h'
   | some z=>rw[q]at h';have:z=some v:=h';rw[this]
section
variable {X:Cx}{dg:List (Addr×Obj)}{σ:St}{H:Hp}{s:Shared}{N:List Str}{js:List (Option Nat)}{sc:Scope}{fp:List Addr}
def inv_comp (I:Inv X dg σ H s)(hc:ip X N js sc)(hf:∀ b∈fp,ow X dg H b)(ho:∀ b∈fp,∃ o,s.heap.get? b=some o)(tk:Nat) :
 Inv (kZ X N sc fp s H) [] (fL js σ) H { s with heap:=rZ sc s.heap,toks:=tk}:=by
 have hC:(s.heap.push { cls:=.type "list",dict:=none,data:=.seq ([]:List Value).toArray}).objs.size=s.heap.objs.size+1:=ba ..
 have freeX:∀ y∈sc.names,y.2=.free->∃ c,X.env.cells.lookup y.1=some c:=fun y hy e=>I.ok.has y.1 (hc.free y hy e)
 have ok:=cellsFrom_ok sc.names ((s.heap.push { cls:=.type "list",dict:=none,data:=.seq ([]:List Value).toArray}).push { cls:=.type "dict",data:=.dict #[]}) (s.heap.objs.size+1+1) [] ⟨fun _ _ hm=>(nomatch hm),List.Pairwise.nil⟩
  (by rw[ba,hC];exact ah _)
 rw[ba,hC]at ok
 have eC:(lL sc (s.heap.objs.size+1) X.env).cells=cellsFrom (s.heap.objs.size+1+1) sc.names []++jF X.env.cells sc.names []:=j8 sc.names _ [] _
 have lk:∀ x c,(lL sc (s.heap.objs.size+1) X.env).cells.lookup x=some c->(x,c)∈cellsFrom (s.heap.objs.size+1+1) sc.names []\/X.env.cells.lookup x=some c:=fun x c e=>by
  rw[eC]at e
  rcases List.mem_append.mp (mem_of_lookup e)with h | h
  ·exact .inl h
  ·rcases n6 freeX x c h with h | h
   ·cases h
   ·exact .inr h
 have big:∀(x:Str) (c:Nat),(x,c)∈cellsFrom (s.heap.objs.size+1+1) sc.names []->s.heap.objs.size+1+1<=c:=fun x c h=>(ok.empty x c h).2
 have small:∀(x:Str) (c:Nat),X.env.cells.lookup x=some c->c<s.heap.objs.size:=fun x c h=>let ⟨_,q⟩:=I.cell x c h;q.lt
 have has:∀ x,((lL sc (s.heap.objs.size+1) X.env).kindOf x=some .cell\/(lL sc (s.heap.objs.size+1) X.env).kindOf x=some .free)->∃ c,(lL sc (s.heap.objs.size+1) X.env).cells.lookup x=some c:=fun x h=>by
  have h':(relabel sc X.env).names.lookup x=some .cell\/(relabel sc X.env).names.lookup x=some .free:=h
  rw[jC]at h'
  rw[eC,c8]
  cases q:sc.names.lookup x with
  | none=>rw[q]at h';rcases h' with h' | h' <;> cases h'
  | some k =>
   rw[q]at h'
   have hk:=Bv (env:=X.env) (x:=x) (k:=k) (h'.elim (fun z=>.inl (aN z)) fun z=>.inr (aN z))
   rcases hk with rfl | rfl
   ·obtain⟨c,tM⟩:=mY (n:=s.heap.objs.size+1+1) q
    exact⟨c,by rw[tM];rfl⟩
   ·have z:=n8 (cells:=X.env.cells) sc.names [] x (mem_of_lookup q)
    obtain⟨c,tM⟩:=Option.isSome_iff_exists.mp z
    cases q2:(cellsFrom (s.heap.objs.size+1+1) sc.names []).lookup x with
    | none=>exact⟨c,by rw[tM];rfl⟩
    | some d=>exact⟨d,rfl⟩
 have okY:(kZ X N sc fp s H).Ok:=by
  refine⟨I.ok.mod,hc.kind,I.ok.glob,I.ok.blt,Nat.le_succ _,fun x y c h1 h2=>?_,has,fun x c hx h=>?_,I.ok.hd,I.ok.frames,.inl rfl,fun b hb=>⟨?_,fun x c h=>?_⟩,I.bs,az I.ok.Ex I.sz,fun b o e hb=>?_,fun b hb hs=>?_,I.stack,I.pZ⟩
  ·rcases lk x c h1 with g1 | g1 <;> rcases lk y c h2 with g2 | g2
   ·exact name_of_addr ok.apart g1 g2
   ·exact absurd (aw (small _ _ g2) (az (a9 _ 2) (big _ _ g1))) (bw _)
   ·exact absurd (aw (small _ _ g1) (az (a9 _ 2) (big _ _ g2))) (bw _)
   ·exact I.ok.inj x y c g1 g2
  ·have B8:sc.names.lookup x=some .cell:=by simpa [kZ]using hx
   have h':(lL sc (s.heap.objs.size+1) X.env).cells.lookup x=some c:=h
   rw[eC,c8]at h'
   obtain⟨c2,tM⟩:=mY (n:=s.heap.objs.size+1+1) B8
   rw[tM]at h'
   have e:c2=c:=aN h'
   subst e
   exact az (a9 _ 2) (big _ _ (mem_of_lookup tM))
  ·obtain⟨o,e⟩:=ho b hb
   exact aF (bp (jK e))
  ·obtain⟨o,e⟩:=ho b hb
   have l:=jK e
   rcases lk x c h with g | g
   ·exact bo (aw l (az (a9 _ 2) (big _ _ g)))
   ·exact(hf b hb).2.2.2.2.1 x c g
  ·rcases(hf b hb).2.2.2.1 with z | z
   ·exact I.ok.BO b o e z
   ·exact absurd (aw (jK e) (az I.ok.Ex z)) (bw _)
  ·rcases List.mem_cons.mp (I.vJ b hs)with z | z
   ·exact(hf b hb).2.1 z
   ·exact(hf b hb).2.2.1 z
 have rQ:∀ b u,s.heap.get? b=some u->(rZ sc s.heap).get? b=some u:=uu
 have nsC:(rZ sc s.heap).Ns (s.heap.objs.size+1) fun _=>none:=by
  have q:=(Heap.Ns.new (s.heap.push { cls:=.type "list",dict:=none,data:=.seq ([]:List Value).toArray}) (.type "dict")).keeps (cV sc.names _)
  rw[hC]at q
  exact q
 refine⟨okY,rfl,I.bare,Un.dj rQ,⟨_,nsC,fun i x v e1 e2 e3=>?_⟩,fun x c h=>?_,I.eE.fresh (Nat.le_succ _),fun x c h=>?_,fun p hp=>absurd (show p∈([]:List (Addr×Obj))from hp) (by simp),I.eE.dj rQ,?_⟩
 ·obtain⟨j,hj,hv⟩:=wQ e2
  obtain⟨g1,g2,g3,g4⟩:=hc.slot i x j e1 hj
  have kx:=hc.free _ g2 rfl
  obtain⟨m,hn,hl⟩:=I.loc
  obtain⟨u,r,l⟩:=hl j x v g1 hv (.inr kx)
  refine⟨u,r,?_⟩
  rcases l with⟨z,_⟩ | ⟨_,c,hcc,uv⟩
  ·have z':X.env.kindOf x=some .local:=z
   rcases kx with k | k <;> (have k':X.env.kindOf x=_:=k;rw[z']at k';cases k')
  ·have kY:(lL sc (s.heap.objs.size+1) X.env).kindOf x=some .cell\/(lL sc (s.heap.objs.size+1) X.env).kindOf x=some .free:=by
    show(relabel sc X.env).names.lookup x=some .cell\/(relabel sc X.env).names.lookup x=some .free
    rw[jC,g3]
    rcases yo (env:=X.env) (x:=x)with q | q
    ·exact .inl (show some (tu X.env x .free)=_ by rw[q])
    ·exact .inr (show some (tu X.env x .free)=_ by rw[q])
   obtain⟨c',h'⟩:=has x kY
   refine .inr ⟨kY,c',h',?_⟩
   rcases lk x c' h' with g | g
   ·rcases j7 _ _ _ _ _ g with z | z
    ·exact absurd z g4
    ·cases z
   ·rw[hcc]at g;cases g
    exact uv.keeps rQ
 ·rcases lk x c h with g | g
  ·exact⟨_,(ok.empty x c g).1⟩
  ·obtain⟨v,q⟩:=I.cell x c g
   exact⟨v,q.keeps rQ⟩
 ·rcases lk x c h with g | g
  ·exact I.eE.fresh (az (a9 _ 2) (big _ _ g))
  ·exact I.jP x c g
 ·show(fL js σ).length=N.length
  unfold fL
  rw[fF];exact hc.len
end
section
variable {X:Cx}{dg:List (Addr×Obj)}{σ:St}{H:Hp}{s:Shared}
def Inv.adopt {D:Addr}{ys:List V}{eK:List Value}{n:Nat}(I:Inv X dg σ H s)(hn:H D=none)(hL:D≠X.env.locals)(h1:X.s₀.heap.objs.size<=D)(h2:∀ x c,X.env.cells.lookup x=some c->c≠D)(h3:∀ p∈X.pn++dg,p.1≠D)
 (e:s.heap.get? D=some { cls:=.type "list",data:=.seq eK.toArray n}) (r:eX ys eK) (hz:ys.length<=sizeLine):Inv X dg σ (upd H D (.lst ys)) s:=by
 have ne:∀ b,b∉[D]->b≠D:=fun b h z=>h (by simp[z])
 refine I.step (g':=s.gens) (d':=s.drawn) (t':=s.toks) (h':=s.heap) (ch:=[D]) (fun b hb=>?_) (fun b o _ _ _ q _=>q) (fun b o _ _ _ q _=>⟨o.slots,q⟩) (fun b o hb q z=>by rw[d9 (ne b hb)];exact z) (fun b o _ q=>⟨o,q⟩)
  (fun b xs q=>by rw[d9 (eY q hn)];exact q) (fun b o u q=>by rw[d9 (eY q hn)];exact q) (fun b ps q=>⟨#[],by rw[d9 (eY q hn),q];simp⟩) (fun m q=>q) (fun b u q=>?_) I.bare
 ·have z:b=D:=by simpa using hb
  subst z
  exact⟨.inr h1,hL,h2,h3⟩
 ·by_cases hb:b=D
  ·subst hb;rw[dW]at q;cases q
   exact⟨hz,eK,n,r,e⟩
  ·rw[d9 hb]at q
   exact(I.eE b u q).vK (fun c v _ z=>z) (fun c z=>by rw[d9 (eY z hn)];exact z) fun c xs z=>by rw[d9 (eY z hn)];exact z
def PTs (X:Cx)(ifs:List Expr)(t:TT):Prop :=
 ∀(dg:List (Addr×Obj)) (s:Shared) (σ:St) (H:Hp) (Q:Bool->Hp->Prop),Inv X dg σ H s->t σ H Q ->
  wpAny (model X.prog X.w) X.A (forIn ifs true fun c r=>if r=true then do let ok <- isTrue c X.env (eval c X.env);pure (ForInStep.yield ok)else pure (ForInStep.yield r)) (TP X dg σ Q) X.xe s
def tYes:TT:=fun _ H Q=>Q true H
def Fl:PTs X [] tYes:=fun _ _ _ H _ I h=>wpAny_tests_nil ⟨H,I,h⟩
def pts_one {c:Expr}{t:TT}(h:PT X c t):PTs X [c] t:=fun dg s σ H Q I q=>wpAny_tests_one (h dg s σ H Q I q)
def Ext (σ gd:St):Prop:=σ.length=gd.length/\∀(i:Nat) v,σ[i]?=some (some v)->gd[i]?=some (some v)
def Ext.own2 {v u:Option V}{r:St}:Ext (none::none::r) (v::u::r):=⟨rfl,fun i z h=>by
 match i,h with
 | 0,h=>simp at h
 | 1,h=>simp at h
 | i+2,h=>simpa using h⟩
def wComp (js:List (Option Nat))(g:TG)(tt:TT)(te:TE)(J:It)(σ:St)(H1:Hp)(fin:List V->Hp->Prop):Prop :=
 ∃ W:Nat->Nat->List V->Hp->Prop,(∃ m,W 0 m [] H1)/\∀ i m ys H,W i m ys H ->
  (J.stop i H/\fin ys H)\/(J.go i H/\∀ x H',J.yld i H x H'->g x (fL js σ) H' fun mP H2=>Ext (fL js σ) mP/\tt mP H2 fun b H3 =>
    if b=true then te mP H3 fun y H4=>ys.length<sizeLine/\∃ m',m'<m/\W (i+1) m' (ys++[y]) H4 else ∃ m',m'<m/\W (i+1) m' ys H3)
def AH {prog:ae}{w:af}{A:Around}{R:Result->Shared->Prop}{s:Shared}{elt target iter:Expr}{ifs:List Expr}{scope:Scope}{pos:Pos}{it acc:Value}{env:Env}(I:Nat->Shared->Prop)
 (turn:∀ n s,I n s->wpAny (model prog w) A (pyNext it) (fun r s₁=>match r with
   | none=>R (.ok .next) s₁
   | some v=>wpAny (model prog w) A (letOwnedTupleGo target it v) (fun _ Bk=>wpAny (model prog w) A (assign target env v) (fun _ s₂ =>
    wpAny (model prog w) A (forIn ifs true fun c r=>if r=true then do let ok <- isTrue c env (eval c env);pure (ForInStep.yield ok)else pure (ForInStep.yield r)) (fun ok s₃ =>
     if ok=true then wpAny (model prog w) A (eval elt env) (fun x s₄ =>
      wpAny (model prog w) A (call (.builtin "list.append") [acc,x]) (fun _ s₅=>∃ m,m<n/\I m s₅) (fun _ _=>False) s₄) (fun _ _=>False) s₃
     else ∃ m,m<n/\I m s₃) (fun _ _=>False) s₂) (fun _ _=>False) Bk) (fun _ _=>False) s₁) (fun _ _=>False) s)
 (n:Nat) (h:I n s) :
 codeAny (model prog w) A (.compLoop (.ListComp elt [⟨target,iter,ifs,0⟩] scope pos) 0 it acc env) R s:=by
 refine codeAny_loop rfl I (fun n s hI=>?_) n h
 show wpAny _ A ((compTurn (.ListComp elt [⟨target,iter,ifs,0⟩] scope pos) 0 it acc env).onRaise (fun x=>do noteFrame x env;theTreesLotGoes x)) _ _ s
 refine wpAny_noted ?_
 rw[compTurn_list]
 refine eI (cP (eI (bg (turn n s hI) (fun r s₁ h₁=>?_) fun _ _ h'=>h'.elim)))
 cases r with
 | none=>exact ar h₁
 | some v =>
  refine eI (bg h₁ (fun _ Bk h₁'=>?_) fun _ _ h'=>h'.elim)
  refine eI (bg h₁' (fun _ s₂ h₂=>eI (bg h₂ (fun ok s₃ h₃=>?_) fun _ _ h'=>h'.elim)) fun _ _ h'=>h'.elim)
  cases ok with
  | false=>exact ar ⟨rfl,h₃⟩
  | true =>
   exact eI (eI (bg h₃ (fun x s₄ h₄=>eI (bg h₄ (fun _ s₅ h₅=>ar (ar ⟨rfl,h₅⟩)) fun _ _ h'=>h'.elim)) fun _ _ h'=>h'.elim))
variable {N:List Str}{js:List (Option Nat)}{sc:Scope}{fp:List Addr}{tg elt iter:Expr}{ifs:List Expr}{g:TG}{tt:TT}{te:TE}
def lobj (eK:List Value)(n:Nat):Obj:={ cls:=.type "list",data:=.seq eK.toArray n}
def qO {J:It}{it:Addr}{tn:Nat->Heap->Prop}{pos:Pos}{R:Result->Shared->Prop}{fin:List V->Hp->Prop}{tk:Nat}(I:Inv X dg σ H s)(hc:ip X N js sc){CM:Cx->Prop}(calm:CM (kZ X N sc fp s H))
 (T:Turn X.prog X.w X.K tg J fp it tn CM) (st:tn 0 s.heap) (hf:∀ b∈fp,ow X dg H b)
 (hg:PG (kZ X N sc fp s H) tg g) (ht:PTs (kZ X N sc fp s H) ifs tt) (he:PE (kZ X N sc fp s H) elt te) (q:wComp js g tt te J σ H fin)
 (hR:∀ s' H' ys m,Inv X dg σ (upd H' s.heap.objs.size (.lst ys)) s'->H' s.heap.objs.size=none->fin ys H'->s'.heap.Ns (s.heap.objs.size+1) m->H' (s.heap.objs.size+1)=none->R (.ok .next) s') :
 codeAny (model X.prog X.w) X.A (.compStart (.ListComp elt [⟨tg,iter,ifs,0⟩] sc pos) 0 (.ref it) (.ref s.heap.objs.size) (lL sc (s.heap.objs.size+1) X.env)) R { s with heap:=rZ sc s.heap,toks:=tk}:=by
 have hob:∀ b∈fp,∃ o,s.heap.get? b=some o:=fun b hb=>let ⟨o,e,_⟩:=T.obj 0 s.heap st b hb;⟨o,e⟩
 have I0:=inv_comp I hc hf hob tk
 have okY:=I0.ok
 obtain⟨W,⟨m0,w0⟩,turn⟩:=q
 have small:∀ b∈fp,b≠s.heap.objs.size:=fun b hb=>let ⟨o,e⟩:=hob b hb;aF (jK e)
 have vL:∀ {eK:List Value} {k:Nat} {H':Hp},(∀ b∈fp,H' b=none)->∀ b∈fp,ow (kZ X N sc fp s H) [(s.heap.objs.size,lobj eK k)] H' b:=fun {eK k H'} hn b hb =>
  ⟨hn b hb,(okY.exf b hb).1,okY.Co b hb,.inl hb,(okY.exf b hb).2,fun p hp=>by
   have e:p=(s.heap.objs.size,lobj eK k):=by simpa [kZ]using hp
   rw[e];exact(small b hb).symm⟩
 have st0:tn 0 (rZ sc s.heap):=T.keep 0 _ _ st fun b _ o e=>uu b o e
 have I1:Inv (kZ X N sc fp s H) [(s.heap.objs.size,lobj [] 0)] (fL js σ) H { s with heap:=rZ sc s.heap,toks:=tk}:=I0.nO fun p hp=>by
  have e:p=(s.heap.objs.size,lobj [] 0):=by simpa using hp
  subst e
  refine⟨heapC_acc,I.eE.fresh (ah _),aF (bR _),fun z=>?_,fun v z=>by cases z⟩
  obtain⟨_,o,ho,_⟩:=okY.qt.mem z
  exact bw _ (jK ho)
 have loop:codeAny (model X.prog X.w) X.A (.compLoop (.ListComp elt [⟨tg,iter,ifs,0⟩] sc pos) 0 (.ref it) (.ref s.heap.objs.size) (lL sc (s.heap.objs.size+1) X.env)) R { s with heap:=rZ sc s.heap,toks:=tk}:=by
  refine AH (fun n s'=>∃ i ys eK k H',Inv (kZ X N sc fp s H) [(s.heap.objs.size,lobj eK k)] (fL js σ) H' s'/\tn i s'.heap/\(∀ b∈fp,H' b=none)/\eX ys eK/\ys.length<=sizeLine/\W i n ys H') ?_ m0
   ⟨0,[],[],0,H,I1,st0,fun b hb=>(hf b hb).1,.nil,aY _,w0⟩
  rintro n s3 ⟨i,ys,eK,k,H3,I3,st3,fr3,rv,hz,w3⟩
  have len:=rv.length
  rcases turn i n ys H3 w3 with⟨stop,qf⟩ | ⟨go,step⟩
  ·refine fK (T.done (kZ X N sc fp s H) rfl rfl rfl calm i _ s3 _ H3 _ I3 (vL fr3) st3 stop) fun r s4 oK=>?_
   obtain⟨hr,I4⟩:=oK
   subst hr
   show R (.ok .next) s4
   have hD:=I4.pin (s.heap.objs.size,lobj eK k) (aH _ aC)
   obtain⟨m,hns,_⟩:=I4.loc
   have IX:Inv X dg σ H3 s4:=I.yK (ch:=fp) I4.os I4.dh I4.eE I4.bare fun b hb=>by
    obtain⟨f0,f1,f2,f3,f4,f5⟩:=hf b hb
    exact⟨f3,f1,f4,f5⟩
   have neD:∀(b:Addr) (o:Obj),s.heap.get? b=some o->b≠s.heap.objs.size:=fun b o e=>aF (jK e)
   refine hR s4 H3 ys m (IX.adopt hD.2.1 (bo I.lt) I.sz (fun x c e=>?_) (fun p hp=>neD _ _ (I.pin p hp).1) hD.1 rv hz) hD.2.1 qf hns I4.free
   obtain⟨v,q⟩:=I.cell x c e
   exact aF q.lt
  ·refine fK (T.item (kZ X N sc fp s H) rfl rfl rfl calm i _ s3 _ H3 _ I3 (vL fr3) st3 go) fun r s4 qo=>?_
   obtain⟨u,hr,h4⟩:=qo
   subst hr
   refine fK h4 fun _ s5 qK=>?_
   obtain⟨x,H5,I5,r5,y5,st5,fr5⟩:=qK
   have I5':=I5.pinned (vL fr5) (T.obj _ _ st5)
   refine fK (hg _ s5 _ H5 x u _ I5' r5 (step x H5 y5)) fun _ s6 ⟨σ6,H6,I6,⟨ext6,q6⟩⟩=>?_
   refine fK (ht _ s6 σ6 H6 _ I6 q6) fun b s7 rY=>?_
   obtain⟨H7,I7,q7⟩:=rY
   have back:∀ {s':Shared} {H':Hp},Inv (kZ X N sc fp s H) ([(s.heap.objs.size,lobj eK k)]++tF fp s5.heap) σ6 H' s'->tn (i+1) s'.heap/\(∀ b∈fp,H' b=none)/\Inv (kZ X N sc fp s H) [(s.heap.objs.size,lobj eK k)] (fL js σ) H' s':=fun {s' H'} I'=>by
    refine⟨T.keep _ _ _ st5 fun b hb o e=>(I'.pin (b,o) (aH _ (aH _ (jS hb e)))).1,fun b hb=>?_,(I'.weak ext6.1 ext6.2).oY⟩
    obtain⟨o,e,d⟩:=T.obj _ _ st5 b hb
    exact(I'.pin (b,o) (aH _ (aH _ (jS hb e)))).2.1
   cases b with
   | false =>
    rw[ai aE]at q7 ⊢
    obtain⟨m',hm,w7⟩:=q7
    obtain⟨t7,f7,I7'⟩:=back I7
    exact⟨m',hm,i+1,ys,eK,k,H7,I7',t7,f7,rv,hz,w7⟩
   | true =>
    rw[aj rfl]at q7 ⊢
    refine fK (he _ s7 σ6 H7 _ I7 q7) fun y s8 qJ=>?_
    obtain⟨yv,H8,I8,ry,sU,m',hm,w8⟩:=qJ
    obtain⟨t8,f8,I8'⟩:=back I8
    have hD:=I8'.pin (s.heap.objs.size,lobj eK k) (aH _ aC)
    have eD:s8.heap.get? s.heap.objs.size=some { cls:=.type "list",data:=.seq eK.toArray k}:=hD.1
    refine call_meets F.slot_list_append ⟨_,eD,rfl⟩ F.entry_list_append (F.args_list_append_2 _ _) (PySem.list_append s.heap.objs.size eK.toArray k y (by rw[aA];omega)) ⟨eD,?_⟩
    have q:=PySem.IsL.update eD (·.push y)
    have epush:eK.toArray.push y=(eK++[y]).toArray:=by simp
    have keep:∀(b:Addr) (o:Obj),b≠s.heap.objs.size->s8.heap.get? b=some o->(s8.heap.update s.heap.objs.size (Obj.mapSeq (·.push y))).get? b=some o:=fun b o hb e=>(bq s8.heap (Obj.mapSeq (·.push y)) (bf hb)).trans e
    have cellD:∀ x c,(kZ X N sc fp s H).env.cells.lookup x=some c->c≠s.heap.objs.size:=fun x c e z=>by
     obtain⟨v,o,ho,hd⟩:=I8'.cell x c e
     rw[z,eD]at ho;cases ho
     cases hd
    have I9:Inv (kZ X N sc fp s H) [] (fL js σ) H8 { s8 with heap:=s8.heap.update s.heap.objs.size (Obj.mapSeq (·.push y))} :=
     (I8'.nO (pins':=[]) fun p hp=>absurd hp (by simp)).turned (t':=s8.toks) keep hD.2.1 hD.2.2.1 (.inr (ah _)) cellD (fun p hp=>absurd (show p∈([]:List (Addr×Obj))from hp) (by simp))
    rw[epush]at q
    obtain⟨k',q'⟩:∃ k',(s8.heap.update s.heap.objs.size (Obj.mapSeq (·.push y))).get? s.heap.objs.size=some (lobj (eK++[y]) k'):=⟨_,q⟩
    refine⟨m',hm,i+1,ys++[yv],eK++[y],k',H8,I9.nO fun p hp=>?_,T.keep _ _ _ t8 fun b hb o e=>keep b o (small b hb) e,f8,rv.append (.cons ry .nil),by rw[lx,aU];omega,w8⟩
    have e:p=(s.heap.objs.size,lobj (eK++[y]) k'):=by simpa using hp
    subst e
    exact⟨q',hD.2.1,hD.2.2.1,hD.2.2.2.1,fun v z=>by cases z⟩
 exact codeAny_compStart_list loop (T.self _ 0 _ _ _ st0 loop)
def E4 (wi:TI)(js:List (Option Nat))(g:TG)(tt:TT)(te:TE):TE:=fun σ H Q=>wi σ H fun J H1=>wComp js g tt te J σ H1 fun ys H'=>∀ D,H' D=none->Q (.ref D) (upd H' D (.lst ys))
def Fp {wi:TI}{pos:Pos}(hc:ip X N js sc)(calm:X.calm=true)(hi:PI X tg iter wi)(hg:∀ fp s H,PG (kZ X N sc fp s H) tg g)(ht:∀ fp s H,PTs (kZ X N sc fp s H) ifs tt)(he:∀ fp s H,PE (kZ X N sc fp s H) elt te)
 (hs:∀ x,foldedSetIterable iter X.env x=pure x:=by intro _;rfl):PE X (.ListComp elt [⟨tg,iter,ifs,0⟩] sc pos) (E4 wi js g tt te):=by
 intro dg s σ H Q I h
 rw[eval_ListComp]
 refine ck (use:=none) rfl hs (j6 fun y hy e=>I.ok.has y.1 (hc.free y hy e)) hc.kind hc.loc (fK (hi dg s σ H _ I h) fun v s1 h1=>fK h1 fun itv s2 h2=>?_)
 obtain⟨it,fp,tn,J,H2,e,I2,T,E7,f2,q⟩:=h2
 subst e
 refine a6 (ml ?_)
 have hC:(s2.heap.push { cls:=.type "list",dict:=none,data:=.seq ([]:List Value).toArray}).objs.size=s2.heap.objs.size+1:=ba ..
 simp only[hC]
 refine qO (tk:=s2.toks) I2 hc calm T E7 f2 (hg fp s2 H2) (ht fp s2 H2) (he fp s2 H2) q fun s' H' ys m IX nD qf nC hn=>?_
 refine⟨m,nC,fun h' sb=>?_⟩
 have A9:∀(b:Addr) (o:Obj),s2.heap.get? b=some o->b≠s2.heap.objs.size+1:=fun b o e=>aF (bp (jK e))
 have IY:Inv X dg σ (upd H' s2.heap.objs.size (.lst ys)) { s' with heap:=h'}:=IX.turned (t':=s'.toks) (it:=s2.heap.objs.size+1) (fun b o hb e=>(sb.2 b hb).trans e) (by rw[d9 (bo (bR _))];exact hn)
  (bo (bp I2.lt)) (.inr (bB I2.sz)) (fun x c e=>let ⟨v,z⟩:=I2.cell x c e;aF (bp z.lt)) (fun p hp=>A9 _ _ (I2.pin p hp).1)
 exact⟨.ref _,_,IY,rfl,qf _ nD⟩
def DU {wi:TI}{pos pos' vM:Pos}{i:Nat}{x:Str}(hc:ip X N js sc)(calm:X.calm=true)(hN:X.N.Nodup)(B8:X.N[i]?=some x)(hx:Loc X.env.scope x)(hi:PI X tg iter wi)(hg:∀ fp s H,PG (kZ X N sc fp s H) tg g)
 (ht:∀ fp s H,PTs (kZ X N sc fp s H) ifs tt) (he:∀ fp s H,PE (kZ X N sc fp s H) elt te) (hsw:swapsWith (.ListComp elt [⟨tg,iter,ifs,0⟩] sc pos) (some (.Name x pos')) vM.line X.env=pure true:=by rfl)
 (hs:∀ x,foldedSetIterable iter X.env x=pure x:=by intro _;rfl) (hf:X.fn x=true\/X.env.scope.names.lookup x=some .local:=by first | exact .inl rfl | exact .inr rfl | assumption) :
 PS X (.Assign [.Name x pos'] (.ListComp elt [⟨tg,iter,ifs,0⟩] sc pos) vM) (tAsg (E4 wi js g tt te) (r6 i)):=by
 intro dg s σ H D I h
 rw[exec_Assign_Name_used _ _ _ _ hsw]
 refine eI (cP (eI ?_))
 show wpAny _ X.A (do let _ <- comprehension (.ListComp elt [⟨tg,iter,ifs,0⟩] sc pos) sc X.env _ (newList []) false (eval iter X.env) (some (assign (.Name x pos') X.env))) _ _ s
 refine eI (bg (ck (use:=some (assign (.Name x pos') X.env)) (Q:=fun _ s'=>SP X dg D .next s') rfl hs (j6 fun y hy e=>I.ok.has y.1 (hc.free y hy e)) hc.kind hc.loc
  (fK (hi dg s σ H _ I h) fun v s1 h1=>fK h1 fun itv s2 h2=>?_)) (fun _ s' hq=>ar (ar hq)) fun _ _ e=>e)
 obtain⟨it,fp,tn,J,H2,e,I2,T,E7,f2,q⟩:=h2
 subst e
 refine a6 (ml ?_)
 have hC:(s2.heap.push { cls:=.type "list",dict:=none,data:=.seq ([]:List Value).toArray}).objs.size=s2.heap.objs.size+1:=ba ..
 simp only[hC]
 refine qO (tk:=s2.toks) I2 hc calm T E7 f2 (hg fp s2 H2) (ht fp s2 H2) (he fp s2 H2) q fun s' H' ys m IX nD qf nC hn=>?_
 have A9:∀(b:Addr) (o:Obj),s2.heap.get? b=some o->b≠s2.heap.objs.size+1:=fun b o e=>aF (bp (jK e))
 have hnC:upd H' s2.heap.objs.size (.lst ys) (s2.heap.objs.size+1)=none:=by rw[d9 (bo (bR _))];exact hn
 show wpAny _ X.A (assign (.Name x pos') X.env (.ref s2.heap.objs.size)) _ _ s'
 refine wpAny_assign_Name (ym (v:=.ref s2.heap.objs.size) IX hN B8 hx rfl (fun s'' IZ ch=>?_) hf)
 obtain⟨a,sba,ha⟩:=ch
 have hac:s2.heap.objs.size+1≠a:=by
  rcases ha with z | z
  ·rw[z];exact bo (bp I2.lt)
  ·obtain⟨v,z⟩:=I2.cell x a z
   exact bo (bp z.lt)
 refine⟨m,nC.sameBut sba hac,fun h' sb=>?_⟩
 have IY:Inv X dg (σ.set i (some (.ref s2.heap.objs.size))) (upd H' s2.heap.objs.size (.lst ys)) { s'' with heap:=h'}:=IZ.turned (t':=s''.toks) (it:=s2.heap.objs.size+1) (fun b o hb e=>(sb.2 b hb).trans e) hnC
  (bo (bp I2.lt)) (.inr (bB I2.sz)) (fun x c e=>let ⟨v,z⟩:=I2.cell x c e;aF (bp z.lt)) (fun p hp=>A9 _ _ (I2.pin p hp).1)
 exact⟨_,_,IY,qf _ nD⟩
end
open Builtin Builtin.Str
def gN {α:Type}(xs:List α)(lo hi:Option Int):List α:=(xs.drop (HT.ib xs.length 0 lo)).take (HT.ib xs.length xs.length hi - HT.ib xs.length 0 lo)
def clip_lo (n:Nat)(lo:Option Int):(match lo with | none=>(0:Int) | some i=>max 0 (min (if i<0 then i+(n:Int)else i) (n:Int)))=((HT.ib n 0 lo:Nat):Int):=by
 cases lo with
 | none=>rfl
 | some i=>unfold HT.ib;dsimp only;split <;> omega
def clip_hi (n:Nat)(hi:Option Int):(match hi with | none=>(n:Int) | some i=>max 0 (min (if i<0 then i+(n:Int)else i) (n:Int)))=((HT.ib n n hi:Nat):Int):=by
 cases hi with
 | none=>rfl
 | some i=>unfold HT.ib;dsimp only;split <;> omega
def nu (lo hi:Option Int)(n:Nat):strSliceIndices lo hi 1 n=sliceRange ((HT.ib n 0 lo:Nat):Int) ((HT.ib n n hi:Nat):Int) 1:=by
 rw[<- clip_lo,<- clip_hi]
 unfold strSliceIndices
 cases lo <;> cases hi <;> rfl
def sliced_eq (x:Str)(lo hi:Option Int):(strSliceIndices lo hi 1 x.length).filterMap (x.cps[·]?)=gN x.cps.toList lo hi:=by
 have hl:x.cps.toList.length=x.length:=by simp[Str.length]
 unfold gN
 rw[hl]
 have ha:=HT.we x.length 0 (aY _) lo
 have hb:=HT.we x.length x.length (ah _) hi
 by_cases hab:HT.ib x.length 0 lo<=HT.ib x.length x.length hi
 ·rw[<- StrLaws.sliced_plain x hab hb,nu,nu]
  congr 2
  ·rw[HT.l9,cC ha]
  ·rw[HT.l9,cC hb]
 ·rw[nu]
  have e:HT.ib x.length x.length hi - HT.ib x.length 0 lo=0:=by omega
  rw[e,List.take_zero]
  unfold sliceRange
  have h1:¬ (((HT.ib x.length 0 lo:Nat):Int)<((HT.ib x.length x.length hi:Nat):Int)):=by omega
  simp[h1]
def CD {α:Type}(xs:List α)(lo hi:Option Int):(gN xs lo hi).length<=xs.length:=by
 unfold gN
 rw[aS,bS]
 omega
section
variable {X:Cx}
def rSlS:V->Option Int->Option Int->Hp->VK->Prop:=fun x lo hi H Q=>∃ z:Str,x=.str z/\z.length<=sizeLine/\Q (.str ⟨(gN z.cps.toList lo hi).toArray⟩) H
def sl_str:SlR X rSlS:=by
 intro dg s σ H x v vl vu lo hi sl Q I rx hs pl pu h
 obtain⟨z,rfl,hz,q⟩:=h
 obtain⟨t,rfl⟩:=rx
 refine⟨"str",_,F.slot_str_getitem.lookup,typeIs_str _ _ _,?_⟩
 obtain⟨l,el⟩:∃ l:Option (Int×Tok),vl=partValue l/\l.map (·.1)=lo:=by
  cases pl with
  | none=>exact⟨none,rfl,rfl⟩
  | int i t=>exact⟨some (i,t),rfl,rfl⟩
 obtain⟨u,eu⟩:∃ u:Option (Int×Tok),vu=partValue u/\u.map (·.1)=hi:=by
  cases pu with
  | none=>exact⟨none,rfl,rfl⟩
  | int i t=>exact⟨some (i,t),rfl,rfl⟩
 obtain⟨rfl,el⟩:=el
 obtain⟨rfl,eu⟩:=eu
 refine wpAny_getItem_str_slice (l:=l) (u:=u) (st:=none) hs rfl ?_
 unfold sliceMade
 have e:slicePicked z l u none=strSliceIndices lo hi 1 z.length:=by unfold slicePicked;rw[el,eu];rfl
 rw[e,sliced_eq]
 by_cases hc:(((none:Option (Int×Tok)).map (·.1)).getD 1==1&&(strSliceIndices lo hi 1 z.length).length==z.length)=true
 ·rw[aj hc]
  refine⟨.str z,H,I,⟨_,rfl⟩,?_⟩
  have tM:(strSliceIndices lo hi 1 z.length).length=z.length:=by simpa using hc
  have hl:z.cps.toList.length=z.length:=by simp[Str.length]
  have h3:gN z.cps.toList lo hi=z.cps.toList:=by
   rw[nu]at tM
   unfold sliceRange at tM
   have ha:=HT.we z.length 0 (aY _) lo
   have hb:=HT.we z.length z.length (ah _) hi
   rw[fF,gxJ]at tM
   unfold gN
   rw[hl]
   by_cases sU:((HT.ib z.length 0 lo:Nat):Int)<((HT.ib z.length z.length hi:Nat):Int)
   ·simp[sU]at tM
    have a0:HT.ib z.length 0 lo=0:=by omega
    have b0:HT.ib z.length z.length hi=z.length:=by omega
    rw[a0,b0,List.drop_zero,Nat.sub_zero,<- hl,List.take_length]
   ·simp[sU]at tM
    have z0:z.cps.toList=[]:=List.length_eq_zero_iff.mp (by omega)
    rw[z0];simp
  have e2:(⟨(gN z.cps.toList lo hi).toArray⟩:Str)=z:=by rw[h3]
  rw[e2]at q
  exact q
 ·rw[ai hc]
  refine⟨?_,.str _,H,I.tok _,⟨_,rfl⟩,q⟩
  have hl:z.cps.toList.length=z.length:=by simp[Str.length]
  have:=CD z.cps.toList lo hi
  show(gN z.cps.toList lo hi).toArray.size<=sizeLine
  rw[aA]
  omega
def yi:∀ {ys:List Str} {us:List Value},eX (ys.map V.str) us->StrsAre us ys
 | [],_,h=>by cases h;exact .nil
 | y::r,_,h=>by
  cases h with
  | cons a b=>obtain⟨t,rfl⟩:=a;exact .cons _ _ (yi b)
def uy:∀(ys:List Str) (acc:Array Nat),ys.foldl (fun acc p=>acc++(#[]:Array Nat)++p.cps) acc=acc++(ys.map (·.cps.toList)).flatten.toArray
 | [],acc=>by simp
 | y::r,acc=>by
  rw[List.foldl_cons,uy r,ao,List.flatten_cons]
  apply Array.toList_inj.mp
  simp
def Ea (z:Str)(hz:z.cps=#[])(ys:List Str):Txt.join z ys=⟨(ys.map (·.cps.toList)).flatten.toArray⟩:=by
 unfold Txt.join glued
 rw[hz]
 congr 1
 cases ys with
 | nil=>rfl
 | cons y r =>
  show List.foldl _ y.cps r=_
  rw[uy,ao,List.flatten_cons]
  apply Array.toList_inj.mp
  simp
def rJoin (K:aa):V->List V->Hp->VK->Prop:=fun x vs H Q=>∃(z:Str) (l:Addr) (ys:List Str),x=.str z/\z.cps=#[]/\vs=[.ref l]/\pS K H l (ys.map V.str)/\(ys.map (·.length)).sum<=16777216/\Q (.str ⟨(ys.map (·.cps.toList)).flatten.toArray⟩) H
def mt_join:MtR X "str.join" (rJoin X.K):=by
 intro dg s σ H x vs v us Q I rx rv h
 obtain⟨z,l,ys,rfl,hz,rfl,hl,hs,q⟩:=h
 obtain⟨t,rfl⟩:=rx
 obtain⟨u,rfl,ru⟩:=rv.one
 cases ru
 obtain⟨eK,r,p,_⟩:=I.list hl
 have zl:z.length=0:=by unfold Str.length;rw[hz];rfl
 refine join_list p.isList (ys:=ys) (by simpa using yi r) (by rw[zl];omega) fun t' k=>?_
 rw[Ea z hz]
 exact⟨.str _,H,I.tok _,⟨_,rfl⟩,q⟩
def Fj (c:Nat):∀(n:Nat) (acc:Array Nat),(List.replicate n #[c]).foldl (·++·) acc=acc++(List.replicate n c).toArray
 | 0,acc=>by simp
 | n+1,acc=>by
  rw[List.replicate_succ,List.foldl_cons,Fj c n,List.replicate_succ]
  apply Array.toList_inj.mp
  simp
def mul_one (c:Nat)(n:Int):Txt.mul ⟨#[c]⟩ n=⟨(List.replicate n.toNat c).toArray⟩:=by
 unfold Txt.mul
 by_cases h1:n<1
 ·rw[aj h1]
  have e:n.toNat=0:=by omega
  rw[e];rfl
 ·rw[ai h1]
  by_cases h2:(n==1||(⟨#[c]⟩:Str).length==0)=true
  ·rw[aj h2]
   have e:n=1:=by simpa [Str.length]using h2
   rw[e];rfl
  ·rw[ai h2]
   congr 1
   have:=Fj c n.toNat #[]
   rw[this]
   apply Array.toList_inj.mp
   simp
def DZ:jm X (binaryOp .Mult) (fun x y H Q=>∃(c:Nat) (n:Int),x=.str ⟨#[c]⟩/\y=.int n /\ -1000000<=n/\n<=1000000/\Q (.str ⟨(List.replicate n.toNat c).toArray⟩) H):=by
 intro dg s σ H x y v u Q I rx ry h
 obtain⟨c,n,rfl,rfl,h1,h2,q⟩:=h
 obtain⟨t,rfl⟩:=rx
 obtain⟨t',rfl⟩:=ry
 refine SB.mul ⟨?_,fun hn _=>?_,fun hn _=>?_⟩ fun t' k=>?_
 ·rw[au (by omega),au (by omega)];rfl
 ·have e:((⟨#[c]⟩:Str).length:Int)=1:=rfl
  rw[e]
  have:(1:Int)<=(2 ^ 63 - 1) / n:=(Int.le_ediv_iff_mul_le (by omega)).mpr (by omega)
  omega
 ·have e:(⟨#[c]⟩:Str).length=1:=rfl
  rw[e]
  unfold tooLong sizeLine
  rw[au (by omega)]
 ·rw[mul_one]
  exact⟨.str _,H,I.tok _,⟨_,rfl⟩,q⟩
def yJ (c:Nat):∀ l:List Nat,countIn (.str ⟨#[c]⟩) (l.map fun n=>PyData.str ⟨#[n]⟩)=((l.count c:Nat):Int)
 | []=>rfl
 | n::r=>by
  have h:=cnt_cons c n r
  unfold cnt at h
  rw[h,yJ c r,cX]
  by_cases e:n=c
  ·rw[aj e,aj (by simpa using e)];omega
  ·rw[ai e,ai (by simpa using e)];omega
def rCount:V->List V->Hp->VK->Prop:=fun x vs H Q=>∃(z:Str) (c:Nat),x=.str z/\vs=[.str ⟨#[c]⟩]/\Q (.int ((z.cps.toList.count c:Nat):Int)) H
def mt_count:MtR X "str.count" rCount:=by
 intro dg s σ H x vs v us Q I rx rv h
 obtain⟨z,c,rfl,rfl,q⟩:=h
 obtain⟨t,rfl⟩:=rx
 obtain⟨u,rfl,ru⟩:=rv.one
 obtain⟨t',rfl⟩:=ru
 refine SC.count ?_
 rw[count_is,yJ]
 exact⟨.int _,H,I.tok _,⟨_,rfl⟩,q⟩
def Its (l:List Nat):It:=⟨fun i _=>i<l.length,fun i H x H'=>H'=H/\∃ c,l[i]?=some c/\x=.str ⟨#[c]⟩,fun i _=>i=l.length⟩
def Bf {P:ae}{w:af}{K:aa}{tg:Expr}{it:Addr}{z:Str}{n:String}{St:Nat->Heap->Prop}
 (W:∀ A':Around,A'.handled=none->Walks P w A' it [it] [it] z.cps.size (SignAt z) St) (hn:["enumerate", "zip", "dict_itemiterator", "dict_reverseitemiterator", "odict_iterator", "itertools.zip_longest", "itertools.pairwise"].contains n=false)
 (ob:∀ i h,St i h->∃ o vs,h.get? it=some o/\o.cls=.type n/\o.data=.fields vs) (slf:∀(A:Around) (i:Nat) (s:Shared) (Q:Value->Shared->Prop) (E:Value->Shared->Prop),St i s.heap->Q (.ref it) s->wpAny (model P w) A (pyIter (.ref it)) Q E s):Turn P w K tg (Its z.cps.toList) [it] it St where
 mem:=by simp
 obj:=fun i h st b hb=>by
  have e:b=it:=by simpa using hb
  subst e
  obtain⟨o,vs,e,c,d⟩:=ob i h st
  exact⟨o,e,fun v z=>by rw[d]at z;cases z⟩
 keep:=fun i h h' st k=>(W { handled:=none,depth:=0,units:=0,frames:=none} rfl).frame i h h' st k
 item:=by
  intro X hP hw hK hc i dg s σ H E I hf st hg
  subst hP hw hK
  obtain⟨f0,f1,f2,f3,f4,f5⟩:=hf it (by simp)
  have hg':i<z.cps.toList.length:=hg
  refine(W X.A (I.ok.hd hc)).item i s _ _ (by simpa using hg') st fun v h' tk hv Bl kk=>?_
  obtain⟨c,u,hcc,rfl⟩:=hv
  have I1:Inv X dg σ H { s with heap:=h',toks:=tk}:=I.turned (fun b o hb e=>kk b o (by simpa using hb) e) f0 f1 f3 f4 f5
  obtain⟨o,vs,e,c',d⟩:=ob _ _ Bl
  refine⟨_,rfl,yE (s:={ s with heap:=h',toks:=tk}) (n:=n) e c' d hn ⟨.str ⟨#[c]⟩,H,I1,⟨u,rfl⟩,⟨rfl,c,by simpa using hcc,rfl⟩,Bl,fun b hb=>(hf b hb).1⟩⟩
 done:=by
  intro X hP hw hK hc i dg s σ H E I hf st hg
  subst hP hw hK
  obtain⟨f0,f1,f2,f3,f4,f5⟩:=hf it (by simp)
  have e:i=z.cps.size:=by have:i=z.cps.toList.length:=hg;simpa using this
  subst e
  exact(W X.A (I.ok.hd hc)).done s _ _ st fun h' tk eb=>⟨rfl,I.turned (t':=tk) (fun b o hb e=>eb b o (by simpa using hb) e) f0 f1 f3 f4 f5⟩
 self:=slf
def iStr (tl:TE):TI:=fun σ H R=>tl σ H fun x H1=>∃ z:Str,x=.str z/\R (Its z.cps.toList) H1
def pi_str {tg l:Expr}{tl:TE}(hl:PE X l tl):PI X tg l (iStr tl):=by
 intro dg s σ H R I h
 refine fK (hl dg s σ H _ I h) fun v s1 qm=>?_
 obtain⟨x,H1,I1,r1,z,e,q⟩:=qm
 subst e
 obtain⟨t,rfl⟩:=r1
 have fp:∀ b∈[s1.heap.objs.size],ow X dg H1 b:=fun b hb=>by
  have e:b=s1.heap.objs.size:=by simpa using hb
  subst e
  exact I1.Cb (ah _) (I1.eE.fresh (ah _))
 have kp:∀(o:Obj),Inv X dg σ H1 { s1 with heap:=s1.heap.push o}:=fun o=>I1.dj (t':=s1.toks) fun b o' e=>jt _ e
 cases ha:z.cps.all (·<128)
 ·refine wpAny_pyIter_wide ha ⟨s1.heap.objs.size,[s1.heap.objs.size],fun i h=>h.IsStrIter s1.heap.objs.size "str_iterator" z t i,_,H1,rfl,kp _,Bf (n := "str_iterator") (fun A' hA=>Walks.strWide hA _ z t) (by decide) (fun i h st=>let ⟨o,a,b,c⟩:=st;⟨o,_,a,b,c⟩) (fun _ _ _ _ _ st h=>wpAny_pyIter_striter_wide st h),⟨_,aB _ rfl,rfl,rfl⟩,fp,q⟩
 ·refine wpAny_pyIter_ascii ha ⟨s1.heap.objs.size,[s1.heap.objs.size],fun i h=>h.IsStrIter s1.heap.objs.size "str_ascii_iterator" z t i,_,H1,rfl,kp _,Bf (n := "str_ascii_iterator") (fun A' hA=>Walks.strAscii hA _ z t) (by decide) (fun i h st=>let ⟨o,a,b,c⟩:=st;⟨o,_,a,b,c⟩) (fun _ _ _ _ _ st h=>wpAny_pyIter_striter_ascii st h),⟨_,aB _ rfl,rfl,rfl⟩,fp,q⟩
def call_isi:ia X (.builtin "isinstance") (fun vs H Q=>∃ x T t b,vs=[x,.ty T]/\iZ X.K H x t/\W.kitOne X.K t (.type T)=some b/\Q (.bl b) H):=by
 intro dg s σ H vs us Q I rv h
 obtain⟨x,T,t,b,rfl,ty,e,q⟩:=h
 obtain⟨u,w',rfl,r1,r2⟩:=vals2 rv
 cases r2
 exact isinst_ok I r1 ty e fun tk=>⟨.bl b,H,I.tok tk,rfl,q⟩
end
end L2
namespace L2
open PySem PySem.Spec PyProof.Rows
open Builtin Builtin.Str
section
variable {X:Cx}
def jm.imp {f:Value->Value->Sem Value}{r r':R2}(h:jm X f r)(hi:∀ x y H Q,r' x y H Q->r x y H Q):jm X f r':=fun dg s σ H x y v u Q I r1 r2 q=>h dg s σ H x y v u Q I r1 r2 (hi x y H Q q)
def PE.imp {e:Expr}{t t':TE}(h:PE X e t)(hi:∀ σ H Q,t' σ H Q->t σ H Q):PE X e t':=fun dg s σ H Q I q=>h dg s σ H Q I (hi σ H Q q)
def PT.imp {e:Expr}{t t':TT}(h:PT X e t)(hi:∀ σ H Q,t' σ H Q->t σ H Q):PT X e t':=fun dg s σ H Q I q=>h dg s σ H Q I (hi σ H Q q)
def PG.imp {e:Expr}{t t':TG}(h:PG X e t)(hi:∀ v σ H Q,t' v σ H Q->t v σ H Q):PG X e t':=fun dg s σ H v u Q I r q=>h dg s σ H v u Q I r (hi v σ H Q q)
def PGs.imp {e:List Expr}{t t':yS}(h:PGs X e t)(hi:∀ v σ H Q,t' v σ H Q->t v σ H Q):PGs X e t':=fun dg s σ H v u Q I r q=>h dg s σ H v u Q I r (hi v σ H Q q)
def PS.imp {e:Stmt}{t t':TS}(h:PS X e t)(hi:∀ D σ H,t' D σ H->t D σ H):PS X e t':=fun dg s σ H D I q=>h dg s σ H D I (hi D σ H q)
def ia.imp {f:Value}{r r':List V->Hp->VK->Prop}(h:ia X f r)(hi:∀ vs H Q,r' vs H Q->r vs H Q):ia X f r':=fun dg s σ H vs us Q I rv q=>h dg s σ H vs us Q I rv (hi vs H Q q)
def MtR.imp {id:String}{r r':V->List V->Hp->VK->Prop}(h:MtR X id r)(hi:∀ x vs H Q,r' x vs H Q->r x vs H Q):MtR X id r':=fun dg s σ H x vs v us Q I r1 rv q=>h dg s σ H x vs v us Q I r1 rv (hi x vs H Q q)
def cVar (i:Nat):TE:=fun σ H Q=>match σ[i]? with | some (some v)=>Q v H | _=>False
def jO (i:Nat){x:Str}{pos:Pos}(hN:X.N[i]?=some x:=by rfl)(hv:Vis X.env.scope x:=by first | exact Or.inl rfl | exact Or.inr (Or.inl rfl) | exact Or.inr (Or.inr rfl))(hd:(x==("__debug__" : Str))=false:=by decide)
 (x8:(x==("__classdict__" : Str))=false:=by decide):PE X (.Name x pos) (cVar i):=(zP (i:=i) hN hv hd x8).imp fun σ H Q q=>by
 unfold cVar at q
 split at q
 ·rename_i v e;exact⟨v,e,q⟩
 ·exact q.elim
def rAddC:R2:=fun x y H Q=>match x,y with
 | .int i,.int j=>Q (.int (i+j)) H
 | .str i,.str j=>i.length+j.length<=sizeLine/\Q (.str (i++j)) H
 | .ref l,.ref b=>∃ xs zs,H l=some (.lst xs)/\H b=some (.lst zs)/\xs.length+zs.length<=sizeLine/\∀ p,H p=none->Q (.ref p) (upd H p (.lst (xs++zs)))
 | _,_=>False
def addC:jm X (binaryOp .Add) rAddC:=(op_add.or (D0.or op_cat)).imp fun x y H Q q=>by
 unfold rAddC at q
 split at q
 ·exact .inl ⟨_,_,rfl,rfl,q⟩
 ·exact .inr (.inl ⟨_,_,rfl,rfl,q.1,q.2⟩)
 ·obtain⟨xs,zs,a,b,c,d⟩:=q;exact .inr (.inr ⟨_,_,xs,zs,rfl,rfl,a,b,c,d⟩)
 ·exact q.elim
def rI2 (C:Int->Int->Prop)(g:Int->Int->V):R2:=fun x y H Q=>match x,y with
 | .int i,.int j=>C i j/\Q (g i j) H
 | _,_=>False
def zL (g:Int->Int->V):R2:=fun x y H Q=>match x,y with
 | .int i,.int j=>Q (g i j) H
 | _,_=>False
def jm.i2 {f:Value->Value->Sem Value}{C:Int->Int->Prop}{g:Int->Int->V}(h:jm X f (rI C g)):jm X f (rI2 C g):=h.imp fun x y H Q q=>by
 unfold rI2 at q
 split at q
 ·exact⟨_,_,rfl,rfl,q.1,q.2⟩
 ·exact q.elim
def jm.i2' {f:Value->Value->Sem Value}{g:Int->Int->V}(h:jm X f (rI0 g)):jm X f (zL g):=h.imp fun x y H Q q=>by
 unfold zL at q
 split at q
 ·exact⟨_,_,rfl,rfl,q⟩
 ·exact q.elim
def subC:jm X (binaryOp .Sub) (zL fun i j=>.int (i - j)):=op_sub.i2'
def rMulC:R2:=fun x y H Q=>match x,y with
 | .int i,.int j=>CMul i j/\Q (.int (i*j)) H
 | .str z,.int n=>∃ c:Nat,z=⟨#[c]⟩ /\ -1000000<=n/\n<=1000000/\Q (.str ⟨(List.replicate n.toNat c).toArray⟩) H
 | _,_=>False
def mulC:jm X (binaryOp .Mult) rMulC:=(op_mul.or DZ).imp fun x y H Q q=>by
 unfold rMulC at q
 split at q
 ·exact .inl ⟨_,_,rfl,rfl,q.1,q.2⟩
 ·obtain⟨c,rfl,a,b,d⟩:=q;exact .inr ⟨c,_,rfl,rfl,a,b,d⟩
 ·exact q.elim
def divC:jm X (binaryOp .FloorDiv) (rI2 CDiv fun i j=>.int (i / j)):=op_fdiv.i2
def BU:jm X (binaryOp .Mod) (rI2 (fun _ j=>0<j) fun i j=>.int (i%j)):=op_mod.i2
def powC:jm X (binaryOp .Pow) (rI2 CPow fun i j=>.int (i ^ j.toNat)):=op_pow.i2
def ltC:jm X (compareOp .Lt) (zL fun i j=>.bl (decide (i<j))):=op_lt.i2'
def leC:jm X (compareOp .LtE) (zL fun i j=>.bl (decide (i<=j))):=op_le.i2'
def gtC:jm X (compareOp .Gt) (zL fun i j=>.bl (decide (j<i))):=op_gt.i2'
def geC:jm X (compareOp .GtE) (zL fun i j=>.bl (decide (j<=i))):=op_ge.i2'
def rEqC (neg:Bool):R2:=fun x y H Q=>match x,y with
 | .int i,.int j=>Q (.bl (neg != decide (i=j))) H
 | .str i,.str j=>Q (.bl (neg != decide (i=j))) H
 | .bl i,.bl j=>Q (.bl (neg != decide (i=j))) H
 | _,_=>False
def tP {p q:Prop}[Decidable p][Decidable q](h:p↔q):decide p=decide q:=by
 by_cases hp:p
 ·rw[ak hp,ak (h.mp hp)]
 ·rw[au hp,au fun z=>hp (h.mpr z)]
def dI {i j:Int}:decide (V.int i=V.int j)=decide (i=j):=tP (by simp)
def dS {i j:Str}:decide (V.str i=V.str j)=decide (i=j):=tP (by simp)
def dB {i j:Bool}:decide (V.bl i=V.bl j)=decide (i=j):=tP (by simp)
def eqC:jm X (compareOp .Eq) (rEqC false):=op_eq.imp fun x y H Q q=>by
 unfold rEqC at q
 split at q
 ·exact⟨rfl,by rw[dI];simpa using q⟩
 ·exact⟨rfl,by rw[dS];simpa using q⟩
 ·exact⟨rfl,by rw[dB];simpa using q⟩
 ·exact q.elim
def A9:jm X (compareOp .NotEq) (rEqC true):=op_ne.imp fun x y H Q q=>by
 unfold rEqC at q
 split at q
 ·exact⟨rfl,by rw[dI];simpa using q⟩
 ·exact⟨rfl,by rw[dS];simpa using q⟩
 ·exact⟨rfl,by rw[dB];simpa using q⟩
 ·exact q.elim
def cT (t:TE):TT:=fun σ H Q=>t σ H fun x H1=>match x with | .bl c=>Q c H1 | _=>False
end
def bK (Q:Bool->Hp->Prop):VK:=fun x H1=>match x with | .bl c=>Q c H1 | _=>False
section
variable {X:Cx}{a b e:Expr}{t ta tb:TE}{pos:Pos}
def cB (t:TE):TT:=fun σ H Q=>t σ H (bK Q)
def mh {op:CmpOp}{r:R2}(ho:jm X (compareOp op) r)(ha:PE X a ta)(hb:PE X b tb)(hm:behindInMarks op b=false):PT X (.Compare a [op] [b] pos) (cB (tOp r ta tb)):=by
 intro dg s σ H Q I h
 have hE:=rL (pos:=pos) ho ha hb hm
 refine wpAny_isTrue_Compare1 ?_ hm
 refine binT ha hb I h fun v u s2 x y H2 I2 rx ry q=>?_
 refine fK (ho _ s2 σ H2 x y v u _ I2 rx ry q) fun c s3 qY=>?_
 obtain⟨z,H3,I3,r3,q3⟩:=qY
 cases z with
 | bl d=>cases r3;exact bJ ⟨H3,I3,q3⟩
 | _=>exact(show False from q3).elim
def rK (h:PE X e t)(he:∀ whole,isTrue e X.env whole=(do let v <- whole;standAt e.pos;holding [v] (truthy v)):=by intro _;rfl):PT X e (cB t):=by
 intro dg s σ H Q I hw
 refine isTrue_plain (fK (h dg s σ H _ I hw) fun v s1 oK=>?_) (he _)
 obtain⟨x,H1,I1,r1,q1⟩:=oK
 cases x with
 | bl d=>cases r1;exact bJ ⟨H1,I1,q1⟩
 | _=>exact(show False from q1).elim
def cAnd (ta tb:TE):TE:=fun σ H Q=>ta σ H fun x H1=>match x with | .bl c=>if c=true then tb σ H1 Q else Q (.bl false) H1 | _=>False
def cNot (ta:TE):TE:=fun σ H Q=>ta σ H fun x H1=>match x with | .bl c=>Q (.bl (!c)) H1 | _=>False
def vi {rest:List Expr}(ha:PE X a ta)(hb:PE X (.BoolOp .And (b::rest) pos) tb):PE X (.BoolOp .And (a::b::rest) pos) (cAnd ta tb):=by
 intro dg s σ H Q I h
 refine BoolOp_and (fK (ha dg s σ H _ I h) fun v s1 qo=>?_)
 obtain⟨x,H1,I1,r1,q1⟩:=qo
 cases x with
 | bl c =>
  cases r1
  refine bJ ?_
  cases c with
  | true=>exact hb dg s1 σ H1 Q I1 q1
  | false=>exact⟨.bl false,H1,I1,rfl,q1⟩
 | _=>exact(show False from q1).elim
def pe_notC (ha:PE X a ta):PE X (.UnaryOp .Not a pos) (cNot ta):=by
 intro dg s σ H Q I h
 refine UnaryOp_ (fK (ha dg s σ H _ I h) fun v s1 qK=>?_)
 obtain⟨x,H1,I1,r1,q1⟩:=qK
 cases x with
 | bl c=>cases r1;exact not_of (bJ ⟨.bl (!c),H1,I1,rfl,q1⟩)
 | _=>exact(show False from q1).elim
def opt {α:Type}(o:Option α)(k:α->Prop):Prop:=match o with | some v=>k v | none=>False
def gD {α:Type}{o:Option α}{k:α->Prop}(h:opt o k):∃ v,o=some v/\k v:=by
 cases o with
 | none=>exact h.elim
 | some v=>exact⟨v,rfl,h⟩
def rIxC:R2:=fun x y H Q=>match x,y with
 | .ref p,.int i=>∃ xs,(H p=some (.lst xs)\/H p=some (.tup xs))/\opt (qV xs i) fun v=>Q v H
 | .str z,.int i=>z.length<=sizeLine/\opt (qV z.cps.toList i) fun c=>Q (.str ⟨#[c]⟩) H
 | _,_=>False
def IxR.imp {r r':R2}(h:IxR X r)(hi:∀ x y H Q,r' x y H Q->r x y H Q):IxR X r':=fun value slice dg s σ H x y v u Q I r1 r2 q=>h value slice dg s σ H x y v u Q I r1 r2 (hi x y H Q q)
def ixC:IxR X rIxC:=ix_seq.imp fun x y H Q q=>by
 unfold rIxC at q
 split at q
 ·obtain⟨xs,h,q⟩:=q
  obtain⟨v,e,q⟩:=gD q
  rcases h with h | h
  ·exact .inl ⟨_,xs,_,v,rfl,rfl,pS.of h,e,q⟩
  ·exact .inr (.inl ⟨_,xs,_,v,rfl,rfl,AS.of h,e,q⟩)
 ·obtain⟨hz,q⟩:=q
  obtain⟨v,e,q⟩:=gD q
  exact .inr (.inr ⟨_,_,v,rfl,rfl,hz,e,q⟩)
 ·exact q.elim
def rSlC:V->Option Int->Option Int->Hp->VK->Prop:=fun x lo hi H Q=>match x with
 | .ref p=>∃ xs,H p=some (.lst xs)/\∀ l,H l=none->Q (.ref l) (upd H l (.lst (AF xs lo hi)))
 | .str z=>z.length<=sizeLine/\Q (.str ⟨(gN z.cps.toList lo hi).toArray⟩) H
 | _=>False
def slC:SlR X rSlC:=by
 intro dg s σ H x v vl vu lo hi sl Q I rx hs pl pu h
 unfold rSlC at h
 split at h
 ·obtain⟨xs,h1,h2⟩:=h
  exact sl_list dg s σ H _ v vl vu lo hi sl Q I rx hs pl pu ⟨_,xs,rfl,pS.of h1,h2⟩
 ·exact sl_str dg s σ H _ v vl vu lo hi sl Q I rx hs pl pu ⟨_,rfl,h.1,h.2⟩
 ·exact h.elim
def cNo:TO:=fun _ H Q=>Q none H
def cPart (t:TE):TO:=fun σ H Q=>t σ H fun x H1=>match x with | .int i=>Q (some i) H1 | _=>False
def po_noC:PO X none cNo:=po_none
def po_someC {te:TE}(h:PE X e te):PO X (some e) (cPart te):=by
 intro dg s σ H Q I hw
 rw[evalPart_some]
 refine fK (h dg s σ H _ I hw) fun u s1 rY=>?_
 obtain⟨x,H1,I1,r1,q1⟩:=rY
 cases x with
 | int i=>obtain⟨t,rfl⟩:=r1;exact⟨some i,H1,I1,.int i t,q1⟩
 | _=>exact(show False from q1).elim
def rLenC:List V->Hp->VK->Prop:=fun vs H Q=>match vs with
 | [.ref p]=>∃ xs,(H p=some (.lst xs)\/H p=some (.tup xs))/\Q (.int xs.length) H
 | [.str z]=>z.length<=sizeLine/\Q (.int z.length) H
 | _=>False
def lenC:ia X (.builtin "len") rLenC:=(AL.or AK).imp fun vs H Q q=>by
 unfold rLenC at q
 split at q
 ·obtain⟨xs,h,q⟩:=q
  rcases h with h | h
  ·exact .inl ⟨_,xs,rfl,.inl (pS.of h),q⟩
  ·exact .inl ⟨_,xs,rfl,.inr (AS.of h),q⟩
 ·exact .inr ⟨_,rfl,q.1,q.2⟩
 ·exact q.elim
def rSetC:EC:=fun o i v H Q=>match o,i with
 | .ref p,.int k=>∃ xs,H p=some (.lst xs)/\opt (ixN xs.length k) fun j=>Q (upd H p (.lst (xs.set j v)))
 | _,_=>False
def setC:PSet X rSetC:=by
 intro dg s σ H o i v ov iv u Q I ro ri rv h
 unfold rSetC at h
 split at h
 ·obtain⟨xs,hx,q⟩:=h
  obtain⟨j,e,q⟩:=gD q
  exact set_list dg s σ H _ _ v ov iv u Q I ro ri rv ⟨_,xs,_,j,rfl,rfl,hx,e,q⟩
 ·exact h.elim
def rGetC:V->V->Hp->VK->Prop:=fun o i H Q=>match o,i with
 | .ref p,.int k=>∃ xs,H p=some (.lst xs)/\0<=k/\opt (xs[k.toNat]?) fun v=>Q v H
 | _,_=>False
def getC:PGet X rGetC:=by
 intro dg s σ H o i ov iv Q I ro ri h
 unfold rGetC at h
 split at h
 ·obtain⟨xs,hx,h0,q⟩:=h
  obtain⟨v,e,q⟩:=gD q
  cases ro
  obtain⟨t,rfl⟩:=ri
  obtain⟨z,eK,n,r,hl,ho⟩:=I.wG hx
  obtain⟨w,ew,Bu⟩:=r.get e
  have sU:=(lK e).1
  have hn:=qF
  exact wpAny_getItem_list (x:=w) (⟨_,ho,rfl,n,rfl⟩:s.heap.IsList _ eK.toArray) h0 (by omega) (by simpa using ew) ⟨v,H,I,Bu,q⟩
 ·exact h.elim
def ipC (f:Int->Int->Int):TIp:=fun x y H Q=>match x,y with | .int i,.int j=>Q (.int (f i j)) H | _,_=>False
def FE:PIp X .Add (ipC fun i j=>i+j):=by
 intro dg s σ H x y v u Q I r1 r2 h
 unfold ipC at h
 split at h
 ·exact ip_add dg s σ H _ _ v u Q I r1 r2 ⟨_,_,rfl,rfl,h⟩
 ·exact h.elim
def cTup (n:Nat)(t:yS):TG:=fun v σ H Q=>match v with | .ref a=>∃ xs,H a=some (.tup xs)/\xs.length=n/\t xs σ H Q | _=>False
def cCons (t:TG)(u:yS):yS:=fun vs σ H Q=>match vs with | v::r=>t v σ H fun gd H'=>u r gd H' Q | []=>False
def cNil:yS:=fun vs σ H Q=>match vs with | []=>Q σ H | _=>False
def fX {es:List Expr}{k:Nat}{t:yS}{n:Nat}(hc:X.calm=true)(h:PGs X es t)(hn:(assignEach es X.env).length=n:=by rfl)(Dy:(assignEach es X.env).findIdx? (·.1)=none:=by rfl):PG X (.Tuple es k pos) (cTup n t) :=
 (pg_tup (pos:=pos) (k:=k) hc h hn Dy).imp fun v σ H Q q=>by
  unfold cTup at q
  split at q
  ·obtain⟨xs,a,b,c⟩:=q;exact⟨_,xs,rfl,AS.of a,b,c⟩
  ·exact q.elim
def dG {es:List Expr}{t:TG}{u:yS}(h1:PG X e t)(h2:PGs X es u)(hs:(assignEach (e::es) X.env).map (·.2)=assign e X.env::(assignEach es X.env).map (·.2):=by rfl):PGs X (e::es) (cCons t u) :=
 (pgs_cons h1 h2 hs).imp fun v σ H Q q=>by
  unfold cCons at q
  split at q
  ·exact⟨_,_,rfl,q⟩
  ·exact q.elim
def fB:PGs X [] cNil:=pgs_nil.imp fun v σ H Q q=>by
 unfold cNil at q
 split at q
 ·exact⟨rfl,q⟩
 ·exact q.elim
def DS:V->List V->Hp->VK->Prop:=fun x vs H Q=>match x,vs with
 | .str z,[.ref l]=>z.cps=#[]/\∃ ys:List Str,H l=some (.lst (ys.map V.str))/\(ys.map (·.length)).sum<=16777216/\Q (.str ⟨(ys.map (·.cps.toList)).flatten.toArray⟩) H
 | _,_=>False
def BY:MtR X "str.join" DS:=mt_join.imp fun x vs H Q q=>by
 unfold DS at q
 split at q
 ·obtain⟨a,ys,b,c,d⟩:=q;exact⟨_,_,ys,rfl,a,rfl,pS.of b,c,d⟩
 ·exact q.elim
def zM:V->List V->Hp->VK->Prop:=fun x vs H Q=>match x,vs with
 | .str z,[.str y]=>∃ c:Nat,y=⟨#[c]⟩/\Q (.int ((z.cps.toList.count c:Nat):Int)) H
 | _,_=>False
def countC:MtR X "str.count" zM:=mt_count.imp fun x vs H Q q=>by
 unfold zM at q
 split at q
 ·obtain⟨c,rfl,q⟩:=q;exact⟨_,c,rfl,rfl,q⟩
 ·exact q.elim
def rIsiC (K:aa):List V->Hp->VK->Prop:=fun vs H Q=>match vs with
 | [x,.ty T]=>∃ t b,iZ K H x t/\W.kitOne K t (.type T)=some b/\Q (.bl b) H
 | _=>False
def rT:ia X (.builtin "isinstance") (rIsiC X.K):=call_isi.imp fun vs H Q q=>by
 unfold rIsiC at q
 split at q
 ·obtain⟨t,b,h1,h2,h3⟩:=q;exact⟨_,_,t,b,rfl,h1,h2,h3⟩
 ·exact q.elim
def DR (K:aa):List V->Hp->VK->Prop:=fun vs H Q=>match vs with
 | [.ref p]=>∃ ys,pS K H p ys/\∀ l,H l=none->Q (.ref l) (upd H l (.lst ys))
 | _=>False
def listC:ia X (.type "list") (DR X.K):=AJ.imp fun vs H Q q=>by
 unfold DR at q
 split at q
 ·obtain⟨ys,h1,h2⟩:=q;exact⟨_,ys,rfl,.inl h1,h2⟩
 ·exact q.elim
def rMaxC:List V->Hp->VK->Prop:=fun vs H Q=>∃ i j,vs=[.int i,.int j]/\Q (.int (max i j)) H
def maxC (hc:X.calm=true):ia X (.builtin "max") rMaxC:=(call_max2 hc).imp fun vs H Q q=>by
 obtain⟨i,j,rfl,q⟩:=q
 refine⟨_,_,rfl,?_⟩
 have e:(if j>i then j else i)=max i j:=by split <;> omega
 rw[e];exact q
end
def mT {c A B:Prop}[Decidable c](h1:c->A)(h2:¬ c->B):if decide c=true then A else B:=by
 by_cases h:c
 ·rw[aj (ak h)];exact h1 h
 ·rw[ai (by simp[h])];exact h2 h
def FD {c A B:Prop}[Decidable c](h1:¬ c->A)(h2:c->B):if(true != decide c)=true then A else B:=by
 by_cases h:c
 ·rw[ai (by simp[h])];exact h2 h
 ·rw[aj (by simp[h])];exact h1 h
def wK {c A B:Prop}[Decidable c](h1:c->A)(h2:¬ c->B):if(false != decide c)=true then A else B:=by
 by_cases h:c
 ·rw[aj (by simp[h])];exact h1 h
 ·rw[ai (by simp[h])];exact h2 h
def CNx (n i:Nat)(Pv:Nat->List V->Hp->Prop)(ys:List V):VK:=fun y H4=>ys.length<sizeLine/\∃ m',m'<n - i/\(m'=n - (i+1)/\i+1<=n/\Pv (i+1) (ys++[y]) H4)
def cnx {n i:Nat}{Pv:Nat->List V->Hp->Prop}{ys:List V}{y:V}{H:Hp}(hi:i<n)(hl:ys.length<sizeLine)(p:Pv (i+1) (ys++[y]) H):CNx n i Pv ys y H:=⟨hl,n - (i+1),by omega,rfl,hi,p⟩
def CSk (n i:Nat)(Pv:Nat->List V->Hp->Prop)(ys:List V)(H3:Hp):Prop:=∃ m',m'<n - i/\(m'=n - (i+1)/\i+1<=n/\Pv (i+1) ys H3)
end L2
namespace L2
open PySem PySem.Spec PyProof.Rows
structure oU (P:ae)(w:af)(K:aa)(mg:Str->Option Value)(dh:Heap)(x:Str)(k:Nat)(ps:List Str)(sp:Sp):Prop where
 ex:∃ f fd,eF P w K mg dh jM k f fd ps sp/\mg x=some (.ref f)/\W.keepIn K (.ref f)=true/\Binds K fd ps []
def wq {X:Cx}{x:Str}{p pos:Pos}{e:Expr}{es:List Expr}{t:TA}{k:Nat}{ps:List Str}{sp:Sp}(C:oU X.prog X.w X.K X.mg X.dh x k ps sp)(hr:gZ k X.A)(hg:Gl X x)(ha:PA X (e::es) t)
 (tL:(x==("__debug__" : Str))=false:=by decide) (he:starEach (e::es) X.env=(false,eval e X.env)::starEach es X.env:=by rfl) (kO:(backTo pos (starEach es X.env)).any (·.1)=false:=by rfl) :
 PE X (.Call (.Name x p) (e::es) [] pos) (tCall sp [] E0 t):=by
 obtain⟨f,fd,F,hm,hk,hb⟩:=C.ex
 exact Fq F hr hg hm hk hb .nil Ft ha tL he kO
def tCut (t u:TS):TS:=fun D σ H=>∃ M:St->Hp->Prop,t { D with nx:=M} σ H/\∀ gd H',M gd H'->u D gd H'
def pss_cut {X:Cx}{st:Stmt}{rest:List Stmt}{t u:TS}(h1:PS X st t)(h2:AV X rest u):AV X (st::rest) (tCut t u):=by
 intro dg s σ H D I h
 obtain⟨M,a,b⟩:=h
 refine wpAny_execs_cons (fK (h1 dg s σ H { D with nx:=M} I a) fun f s1 q=>?_)
 cases f with
 | next =>
  obtain⟨gd,H',I',q⟩:=q
  exact h2 dg s1 gd H' D I' (b gd H' q)
 | ret v=>exact q
 | brk=>exact q
 | cont=>exact q
def SB (b:Addr)(H H':Hp):Prop:=∀ c o,c≠b->H c=some o->H' c=some o
def SB.trans {b:Addr}{H H1 H2:Hp}(h:SB b H H1)(h':SB b H1 H2):SB b H H2:=fun c o n e=>h' c o n (h c o n e)
def dn {α:Type}{o:Option α}{k:α->Prop}{v:α}(e:o=some v)(h:k v):opt o k:=by rw[e];exact h
def OB (b:Addr)(H H':Hp):Prop:=∀ c,c≠b->H' c=H c
def OB.refl {b:Addr}{H:Hp}:OB b H H:=fun _ _=>rfl
def OB.upd {b:Addr}{H H':Hp}{o:HO}(h:OB b H H'):OB b H (L2.upd H' b o):=fun c n=>by rw[d9 n];exact h c n
def pM:(0:Int)<2147483647:=by decide
def pN:(0:Int)<1000000007:=by decide
def OX (l:List Nat):Prop:=∀ c∈l,c=111\/c=120
def OX.of {l:List Nat}(h:l.all (fun c=>c==111||c==120)=true):OX l:=fun c hc=>by
 have:=List.all_eq_true.mp h c hc
 simpa using this
def OX.app {a b:List Nat}(ha:OX a)(hb:OX b):OX (a++b):=fun c h=>(List.mem_append.mp h).elim (ha c) (hb c)
def OX.rep {c n:Nat}(h:c=111\/c=120):OX (List.replicate n c):=fun d hd=>by rw[(List.mem_replicate.mp hd).2];exact h
def xr {l:List Nat}{v:Int}(h0:0<=v)(h1:v<l.length):∃ c,qV l v=some c/\c∈l:=by
 have sU:v.toNat<l.length:=by omega
 refine⟨l[v.toNat],?_,cM _⟩
 have q:=kQ (xs:=l) (j:=v.toNat) (v:=l[v.toNat]) (ux sU)
 rwa [Int.toNat_of_nonneg h0]at q
def om (a b:List Nat):((⟨a.toArray⟩:Str)++(⟨b.toArray⟩:Str))=⟨(a++b).toArray⟩:=by
 show(⟨a.toArray++b.toArray⟩:Str)=_
 congr 1
 simp
def D8 (a:List Nat):(⟨a.toArray⟩:Str).length=a.length:=by simp[Str.length]
def nW:∀ l:List Nat,((l.map fun c=>(⟨#[c]⟩:Str)).map (·.cps.toList)).flatten=l
 | []=>rfl
 | c::r=>by rw[ao,ao,List.flatten_cons,nW r];rfl
def pY:∀ l:List Nat,((l.map fun c=>(⟨#[c]⟩:Str)).map (·.length)).sum=l.length
 | []=>rfl
 | c::r=>by
  rw[ao,ao,List.sum_cons,pY r]
  show 1+r.length=r.length+1
  omega
def spLaw (K:aa):Sp:=fun vs H Q _=>∃(a:Addr) (ns:List Int),vs=[.ref a]/\pS K H a (ns.map V.int)/\ns.length<=63/\∀ H',Q (.bl true) H'
def fne (b:Bool):(false != b)=b:=by cases b <;> rfl
def tne (b:Bool):(true != b)=!b:=by cases b <;> rfl
def hJ (K:aa)(T:String):W.kitOne K (.type T) (.type T)=some true:=by unfold W.kitOne;simp
def mL (c:Bool)(h:Heap)(it a:Addr)(k:Nat):Prop:=if c=true then h.IsTupleIter it a k else h.IsListIter it a k
def uX (c:Bool)(h:Heap)(a:Addr)(eK:Array Value):Prop:=if c=true then h.IsTuple a eK else h.IsList a eK
def mL.extBut {c:Bool}{h h':Heap}{it a b:Addr}{k:Nat}(x:mL c h it a k)(hs:Heap.ExtBut b h h')(hab:it≠b):mL c h' it a k:=by
 cases c with
 | true=>exact Heap.IsTupleIter.extBut x hs hab
 | false=>exact Heap.IsListIter.extBut x hs hab
def uX.extBut {c:Bool}{h h':Heap}{a b:Addr}{eK:Array Value}(x:uX c h a eK)(hs:Heap.ExtBut b h h')(hab:a≠b):uX c h' a eK:=by
 cases c with
 | true=>exact Heap.IsTuple.extBut x hs hab
 | false=>exact Heap.IsList.extBut x hs hab
def uX.lt {c:Bool}{h:Heap}{a:Addr}{eK:Array Value}(x:uX c h a eK):a≠h.objs.size:=by
 cases c with
 | true=>obtain⟨o,e,_⟩:=x;exact aF (jK e)
 | false=>obtain⟨o,e,_⟩:=x;exact aF (jK e)
def mL.ex {c:Bool}{h:Heap}{it a:Addr}{k:Nat}(x:mL c h it a k):∃ o,h.get? it=some o:=by
 cases c with
 | true=>obtain⟨o,e,_⟩:=x;exact⟨o,e⟩
 | false=>obtain⟨o,e,_⟩:=x;exact⟨o,e⟩
def mL.data {c:Bool}{h:Heap}{it a:Addr}{k:Nat}(x:mL c h it a k):∃ o,h.get? it=some o/\∀ v,o.data≠.cell v:=by
 cases c with
 | true=>obtain⟨o,e,_,d⟩:=x;exact⟨o,e,fun v z=>by rw[d]at z;cases z⟩
 | false=>obtain⟨o,e,_,d⟩:=x;exact⟨o,e,fun v z=>by rw[d]at z;cases z⟩
def mL.at {c:Bool}{h h':Heap}{it a:Addr}{k:Nat}(x:mL c h it a k)(e:∀ o,h.get? it=some o->h'.get? it=some o):mL c h' it a k:=by
 cases c with
 | true=>obtain⟨o,q,r⟩:=x;exact⟨o,e o q,r⟩
 | false=>obtain⟨o,q,r⟩:=x;exact⟨o,e o q,r⟩
section
variable {prog:ae}{w:af}{A:Around}{E:Value->Shared->Prop}{s:Shared}
def D3 {it t:Addr}{i:Nat}{items}{x:Value}{Q:Value->Shared->Prop}(hit:s.heap.IsTupleIter it t i)(ht:s.heap.IsTuple t items)(hx:items[i]?=some x)
 (hQ:∀ h',h'.IsTupleIter it t (i+1)->Heap.SameBut it s.heap h'->Q x { s with heap:=h'}):wpAny (model prog w) A (Builtin.SmallTypes.nextOf (.ref it)) Q E s:=by
 obtain⟨o,ho,hc,hd⟩:=id hit
 obtain⟨ol,hol,_,nl,hdl⟩:=ht
 unfold Builtin.SmallTypes.nextOf
 refine eI (bC (name:=Str.ofString "__next__") hit.typeIs b8 (bP b8 hit.typeIs F.entry_tuple_iterator_next ?_ (F.args_tuple_iterator_next_1 _)))
 show wpAny _ _ (field (.ref it) 0 >>= _) _ _ s
 refine eI (aW ho hd (x:=.ref t) rfl ?_)
 show wpAny _ _ (if(Value.ref t==Value.none)=true then _ else _) _ _ s
 rw[ai (show ¬ ((Value.ref t==Value.none)=true)from aE)]
 show wpAny _ _ (field (.ref it) 1 >>= _) _ _ s
 refine eI (aW ho hd (x:=.int i 0) rfl ?_)
 show wpAny _ _ (seqItems? (.ref t) >>= _) _ _ s
 refine eI (bT hol hdl ?_)
 simp only[gxK,hx]
 refine eI (cG ho hd (by simp) (ar ⟨x,rfl,ar (hQ _ ?_ (Heap.SameBut.update ..))⟩))
 exact⟨_,cc _ ho (Obj.isFreed_of_fields (c6 hd _)),(Obj.cls_mapFields ..).trans hc,by rw[c6 hd];simp[rawInt]⟩
def nextT_end {it t:Addr}{i:Nat}{items}{Q:Value->Shared->Prop}(hh:A.handled=none)(hit:s.heap.IsTupleIter it t i)(ht:s.heap.IsTuple t items)(hx:items[i]?=none)
 (hE:∀ h' e,Heap.ExtBut it s.heap h'->(∃ o,h'.get? e=some o/\o.cls=.type "StopIteration")->E (.ref e) { s with heap:=h'}):wpAny (model prog w) A (Builtin.SmallTypes.nextOf (.ref it)) Q E s:=by
 obtain⟨o,ho,hc,hd⟩:=id hit
 obtain⟨ol,hol,_,nl,hdl⟩:=ht
 unfold Builtin.SmallTypes.nextOf
 refine eI (bC (name:=Str.ofString "__next__") hit.typeIs b8 (bP b8 hit.typeIs F.entry_tuple_iterator_next ?_ (F.args_tuple_iterator_next_1 _)))
 show wpAny _ _ (field (.ref it) 0 >>= _) _ _ s
 refine eI (aW ho hd (x:=.ref t) rfl ?_)
 show wpAny _ _ (if(Value.ref t==Value.none)=true then _ else _) _ _ s
 rw[ai (show ¬ ((Value.ref t==Value.none)=true)from aE)]
 show wpAny _ _ (field (.ref it) 1 >>= _) _ _ s
 refine eI (aW ho hd (x:=.int i 0) rfl ?_)
 show wpAny _ _ (seqItems? (.ref t) >>= _) _ _ s
 refine eI (bT hol hdl ?_)
 simp only[gxK,hx]
 refine eI (wpAny_rule (eI (cG ho hd (by simp) ?_)))
 show wpAny _ _ (newExc (.type "StopIteration") [] >>= _) _ _ _
 refine eI ?_
 simp only[newExc,newTuple]
 refine eI (a6 ?_ (by size_fits))
 refine eI (m:=firstArgMember _ _) (wpAny_of_eq (a:=Value.none) (by first | rfl | (simp only[firstArgMember];rfl)) ?_)
 refine a6 ?_ (by size_fits)
 simp only[raiseNew]
 refine eI (wpAny_handled ?_)
 first | rw[show A.in1.handled=none from hh] | rw[hh]
 refine eI (ar (wpAny_throw ?_))
 exact hE _ _ (((Heap.SameBut.update ..).extBut.push _).push _) ⟨_,aB _ rfl,rfl⟩
def wD {c:Bool}{it l:Addr}{i:Nat}{items:Array Value}{x:Value}{Q:Value->Shared->Prop}(hit:mL c s.heap it l i)(hl:uX c s.heap l items)(hx:items[i]?=some x)
 (hQ:∀ h',mL c h' it l (i+1)->Heap.SameBut it s.heap h'->Q x { s with heap:=h'}):wpAny (model prog w) A (Builtin.SmallTypes.nextOf (.ref it)) Q E s:=by
 cases c with
 | true=>exact D3 hit hl hx hQ
 | false=>exact wpAny_nextOf_list_item hit hl hx hQ
def nextG_end {c:Bool}{it l:Addr}{i:Nat}{items:Array Value}{Q:Value->Shared->Prop}(hh:A.handled=none)(hit:mL c s.heap it l i)(hl:uX c s.heap l items)(hx:items[i]?=none)
 (hE:∀ h' e,Heap.ExtBut it s.heap h'->(∃ o,h'.get? e=some o/\o.cls=.type "StopIteration")->E (.ref e) { s with heap:=h'}):wpAny (model prog w) A (Builtin.SmallTypes.nextOf (.ref it)) Q E s:=by
 cases c with
 | true=>exact nextT_end hh hit hl hx hE
 | false=>exact wpAny_nextOf_list_end hh hit hl hx hE
structure ZS (c:Bool)(z TI TO i1 i2 l1 l2:Addr)(f a b:Value)(k1 k2:Nat)(xs ys:Array Value)(h:Heap):Prop where
 z:IsZip h z TI TO f
 ti:IsPair h TI (.ref i1) (.ref i2)
 to:IsPair h TO a b
 n1:mL c h i1 l1 k1
 n2:mL c h i2 l2 k2
 q1:uX c h l1 xs
 q2:uX c h l2 ys
def ZK (z TO i1 i2:Addr)(h h':Heap):Prop:=∀ d o,d≠z->d≠TO->d≠i1->d≠i2->h.get? d=some o->h'.get? d=some o
def ZK.trans {z TO i1 i2:Addr}{h h1 h2:Heap}(a:ZK z TO i1 i2 h h1)(b:ZK z TO i1 i2 h1 h2):ZK z TO i1 i2 h h2:=fun d o q1 q2 q3 q4 e=>b d o q1 q2 q3 q4 (a d o q1 q2 q3 q4 e)
section
variable {c:Bool}{z TI TO i1 i2 l1 l2:Addr}{f f' a b x y:Value}{k1 k2:Nat}{xs ys:Array Value}{h h':Heap}
def ZS.mz (S:ZS c z TI TO i1 i2 l1 l2 f a b k1 k2 xs ys h)(D:ZipApart z TI TO i1 i2 l1 l2)(e:IsZip h' z TI TO f')(k:Heap.ExtBut z h h'):ZS c z TI TO i1 i2 l1 l2 f' a b k1 k2 xs ys h' :=
 ⟨e,k _ _ D.TIz S.ti,k _ _ D.TOz S.to,S.n1.extBut k D.i1z,S.n2.extBut k D.i2z,S.q1.extBut k D.l1z,S.q2.extBut k D.l2z⟩
def ZS.m1 {j:Nat}(S:ZS c z TI TO i1 i2 l1 l2 f a b k1 k2 xs ys h)(D:ZipApart z TI TO i1 i2 l1 l2)(e:mL c h' i1 l1 j)(k:Heap.ExtBut i1 h h'):ZS c z TI TO i1 i2 l1 l2 f a b j k2 xs ys h' :=
 ⟨k _ _ D.i1z.symm S.z,k _ _ D.TIi1 S.ti,k _ _ D.TOi1 S.to,e,S.n2.extBut k D.i12.symm,S.q1.extBut k D.l1i1,S.q2.extBut k D.l2i1⟩
def ZS.m2 {j:Nat}(S:ZS c z TI TO i1 i2 l1 l2 f a b k1 k2 xs ys h)(D:ZipApart z TI TO i1 i2 l1 l2)(e:mL c h' i2 l2 j)(k:Heap.ExtBut i2 h h'):ZS c z TI TO i1 i2 l1 l2 f a b k1 j xs ys h' :=
 ⟨k _ _ D.i2z.symm S.z,k _ _ D.TIi2 S.ti,k _ _ D.TOi2 S.to,S.n1.extBut k D.i12,e,S.q1.extBut k D.l1i2,S.q2.extBut k D.l2i2⟩
def ZS.mo (S:ZS c z TI TO i1 i2 l1 l2 f a b k1 k2 xs ys h)(D:ZipApart z TI TO i1 i2 l1 l2)(e:IsPair h' TO x y)(k:Heap.ExtBut TO h h'):ZS c z TI TO i1 i2 l1 l2 f x y k1 k2 xs ys h' :=
 ⟨k _ _ D.TOz.symm S.z,k _ _ D.TITO S.ti,e,S.n1.extBut k D.TOi1.symm,S.n2.extBut k D.TOi2.symm,S.q1.extBut k D.l1TO,S.q2.extBut k D.l2TO⟩
def ZS.push (S:ZS c z TI TO i1 i2 l1 l2 f a b k1 k2 xs ys h)(o:Obj):ZS c z TI TO i1 i2 l1 l2 f a b k1 k2 xs ys (h.push o) :=
 ⟨jt _ S.z,jt _ S.ti,jt _ S.to,S.n1.at fun _ e=>jt _ e,S.n2.at fun _ e=>jt _ e,
  S.q1.extBut (b:=h.objs.size) (fun _ _ _ e=>jt _ e) (S.q1.lt),S.q2.extBut (b:=h.objs.size) (fun _ _ _ e=>jt _ e) (S.q2.lt)⟩
def zk_z (k:Heap.ExtBut z h h'):ZK z TO i1 i2 h h':=fun d o q _ _ _ e=>k d o q e
def zk_o (k:Heap.ExtBut TO h h'):ZK z TO i1 i2 h h':=fun d o _ q _ _ e=>k d o q e
def zk_1 (k:Heap.ExtBut i1 h h'):ZK z TO i1 i2 h h':=fun d o _ _ q _ e=>k d o q e
def zk_2 (k:Heap.ExtBut i2 h h'):ZK z TO i1 i2 h h':=fun d o _ _ _ q e=>k d o q e
end
section
variable {c:Bool}{z TI TO i1 i2 l1 l2:Addr}{k1 k2:Nat}{xs ys:Array Value}{x y a b:Value}
def zip_turn {Q:Value->Shared->Prop}(D:ZipApart z TI TO i1 i2 l1 l2)(S:ZS c z TI TO i1 i2 l1 l2 .none a b k1 k2 xs ys s.heap)(hx:xs[k1]?=some x)(hy:ys[k2]?=some y)
 (hQ:∀ h',ZS c z TI TO i1 i2 l1 l2 (rawInt s.heap.objs.size) x y (k1+1) (k2+1) xs ys h'->IsPair h' s.heap.objs.size x y->ZK z TO i1 i2 s.heap h'->Q (.ref s.heap.objs.size) { s with heap:=h'}) :
 wpAny (model prog w) A (Builtin.«zip.__next__» ⟨[.ref z],[]⟩) (fun fin s'=>∃ v,fin=.done (.ret v)/\Q v s') E s:=by
 refine eI (ar (eI (aW S.z rfl (x:=.bool false) rfl (eI (aW S.z rfl (x:=.ref TI) rfl (eI (bT S.ti rfl ?_)))))))
 refine eI (m:=Builtin.SmallTypes.ownedTupleIsFree (.ref z)) (eI (aW S.z rfl (x:=.none) rfl (ar ?_)))
 refine eI (wpAny_rule (eI (aW S.z rfl (x:=.ref TO) rfl (eI (cx S.z (by simp) fun g1 e1 t1=>?_)))))
 have S1:=S.mz D (f':=.ellipsis) e1 t1.extBut
 refine eI ?_
 rw[show(#[Value.ref i1,Value.ref i2]:Array Value).toList.zipIdx=[(.ref i1,0),(.ref i2,1)]from rfl,List.forIn_cons]
 refine eI (eI (wpAny_onRaise (eI (wD S1.n1 S1.q1 hx fun g2 e2 t2=>ar ?_))))
 have S2:=S1.m1 D e2 t2.extBut
 refine eI (bT S2.to rfl (eI (wpAny_updateSeq_pair S2.to fun g3 e3 t3=>eI (wpAny_letGo (ar ?_)))))
 have S3:=S2.mo D (x:=x) (y:=b) e3 t3.extBut
 dsimp only
 rw[List.forIn_cons]
 refine eI (eI (wpAny_onRaise (eI (wD S3.n2 S3.q2 hy fun g4 e4 t4=>ar ?_))))
 have S4:=S3.m2 D e4 t4.extBut
 refine eI (bT S4.to rfl (eI (wpAny_updateSeq_pair S4.to fun g5 e5 t5=>eI (wpAny_letGo (ar ?_)))))
 have S5:=S4.mo D (x:=x) (y:=y) e5 t5.extBut
 dsimp only
 rw[List.forIn_nil]
 have sz:g5.objs.size=s.heap.objs.size:=t5.1.trans (t4.1.trans (t3.1.trans (t2.1.trans t1.1)))
 refine ar (eI (bT S5.to rfl (eI (wpAny_newTuple ?_))))
 have S6:=S5.push { cls:=.type "tuple",data:=.seq #[x,y]}
 refine eI (m:=Builtin.SmallTypes.ownedTupleHandOut (.ref z) (.ref g5.objs.size)) (eI (cx S6.z (by simp) fun g7 e7 t7=>?_))
 have S7:=S6.mz D (f':=rawInt g5.objs.size) e7 t7.extBut
 refine cx S7.z (by simp) fun g8 e8 t8=>?_
 have S8:=S7.mz D (f':=rawInt g5.objs.size) e8 t8.extBut
 have zlt:g5.objs.size≠z:=bo (jK S5.z)
 have hT:IsPair g8 g5.objs.size x y:=t8.extBut _ _ zlt (t7.extBut _ _ zlt (aB _ rfl))
 have kk:ZK z TO i1 i2 s.heap g8:=((((((zk_z t1.extBut).trans (zk_1 t2.extBut)).trans (zk_o t3.extBut)).trans (zk_2 t4.extBut)).trans (zk_o t5.extBut)).trans (fun d o _ _ _ _ e=>jt _ e)).trans ((zk_z t7.extBut).trans (zk_z t8.extBut))
 rw[sz]at S8 hT
 refine ar ⟨_,rfl,?_⟩
 show Q (.ref g5.objs.size) _
 rw[sz]
 exact hQ g8 S8 hT kk
def zip_over {Q:Fin->Shared->Prop}(hh:A.handled=none)(D:ZipApart z TI TO i1 i2 l1 l2)(S:ZS c z TI TO i1 i2 l1 l2 .none a b k1 k2 xs ys s.heap)(hx:xs[k1]?=none)
 (hE:∀ h' e,ZK z TO i1 i2 s.heap h'->(∃ o,h'.get? e=some o/\o.cls=.type "StopIteration")->E (.ref e) { s with heap:=h'}) :
 wpAny (model prog w) A (Builtin.«zip.__next__» ⟨[.ref z],[]⟩) Q E s:=by
 refine eI (ar (eI (aW S.z rfl (x:=.bool false) rfl (eI (aW S.z rfl (x:=.ref TI) rfl (eI (bT S.ti rfl ?_)))))))
 refine eI (m:=Builtin.SmallTypes.ownedTupleIsFree (.ref z)) (eI (aW S.z rfl (x:=.none) rfl (ar ?_)))
 refine eI (wpAny_rule (eI (aW S.z rfl (x:=.ref TO) rfl (eI (cx S.z (by simp) fun g1 e1 t1=>?_)))))
 have S1:=S.mz D (f':=.ellipsis) e1 t1.extBut
 refine eI ?_
 rw[show(#[Value.ref i1,Value.ref i2]:Array Value).toList.zipIdx=[(.ref i1,0),(.ref i2,1)]from rfl,List.forIn_cons]
 refine eI (eI (wpAny_onRaise (eI (nextG_end hh S1.n1 S1.q1 hx fun g2 e t2 he=>?_))))
 obtain⟨oe,hoe,hce⟩:=he
 have hz2:IsZip g2 z TI TO .ellipsis:=t2 _ _ D.i1z.symm S1.z
 have hez:e≠z:=fun q=>by subst q;rw[hz2]at hoe;cases hoe;simp at hce
 exact cx hz2 (by simp) fun g3 _ t3=>hE g3 e (((zk_z t1.extBut).trans (zk_1 t2)).trans (zk_z t3.extBut)) ⟨oe,t3.extBut _ _ hez hoe,hce⟩
def zip_item {Q:Option Value->Shared->Prop}(D:ZipApart z TI TO i1 i2 l1 l2)(S:ZS c z TI TO i1 i2 l1 l2 .none a b k1 k2 xs ys s.heap)(hx:xs[k1]?=some x)(hy:ys[k2]?=some y)
 (hQ:∀ h',ZS c z TI TO i1 i2 l1 l2 (rawInt s.heap.objs.size) x y (k1+1) (k2+1) xs ys h'->IsPair h' s.heap.objs.size x y->ZK z TO i1 i2 s.heap h'->Q (some (.ref s.heap.objs.size)) { s with heap:=h'}) :
 wpAny (model prog w) A (pyNext (.ref z)) Q E s:=by
 have ty:s.TypeIs (.ref z) "zip":=⟨_,S.z,rfl⟩
 unfold pyNext
 exact eI (wpAny_attempt (bC (name:=Str.ofString "__next__") ty F.slot_zip_next (bP F.slot_zip_next ty F.entry_zip_next (zip_turn D S hx hy fun h' a1 a2 a3=>ar (hQ h' a1 a2 a3)) (F.args_zip_next_1 _))))
def zip_end {Q:Option Value->Shared->Prop}(hh:A.handled=none)(D:ZipApart z TI TO i1 i2 l1 l2)(S:ZS c z TI TO i1 i2 l1 l2 .none a b k1 k2 xs ys s.heap)(hx:xs[k1]?=none)
 (hQ:∀ h',ZK z TO i1 i2 s.heap h'->Q none { s with heap:=h'}):wpAny (model prog w) A (pyNext (.ref z)) Q E s:=by
 have ty:s.TypeIs (.ref z) "zip":=⟨_,S.z,rfl⟩
 unfold pyNext
 refine eI (wpAny_attempt (bC (name:=Str.ofString "__next__") ty F.slot_zip_next (bP F.slot_zip_next ty F.entry_zip_next (zip_over hh D S hx fun h' e hk he=>?_) (F.args_zip_next_1 _))))
 obtain⟨o,ho,hc⟩:=he
 exact eI (wpAny_isInstance (T := "StopIteration") (b:=true) ⟨o,ho,hc⟩ isSubtype_stop (ar (hQ _ hk)))
end
end
def CY (c:Bool)(H:Hp)(a:Addr)(xs:List V):Prop:=if c=true then H a=some (.tup xs)else H a=some (.lst xs)
def CY.inj {c:Bool}{H:Hp}{a:Addr}{xs ys:List V}(h:CY c H a xs)(h':CY c H a ys):xs=ys:=by
 cases c with
 | true=>have h1:H a=some (.tup xs):=h;have h2:H a=some (.tup ys):=h';rw[h1]at h2;cases h2;rfl
 | false=>have h1:H a=some (.lst xs):=h;have h2:H a=some (.lst ys):=h';rw[h1]at h2;cases h2;rfl
def CY.ex {c:Bool}{H:Hp}{a:Addr}{xs:List V}(h:CY c H a xs):∃ o,H a=some o:=by
 cases c with
 | true=>exact⟨_,h⟩
 | false=>exact⟨_,h⟩
def CY.val {X:Cx}{dg:List (Addr×Obj)}{σ:St}{H:Hp}{s:Shared}{c:Bool}{a:Addr}{xs:List V}(I:Inv X dg σ H s)(h:CY c H a xs):∃ eK:List Value,eX xs eK/\uX c s.heap a eK.toArray:=by
 cases c with
 | true =>
  obtain⟨_,eK,r,p⟩:=(show fJ X.prog X.w H s.heap a (.tup xs)from I.eE a _ h)
  exact⟨eK,r,p⟩
 | false =>
  obtain⟨_,eK,n,r,_,e⟩:=I.wG h
  exact⟨eK,r,⟨_,e,rfl,n,rfl⟩⟩
def Itz (c:Bool)(a1 a2:Addr):It :=
 ⟨fun i H=>∃ xs ys x y,CY c H a1 xs/\CY c H a2 ys/\xs[i]?=some x/\ys[i]?=some y,
  fun i H v H'=>∃ T x y,v=.ref T/\H T=none/\H'=upd H T (.tup [x,y])/\(∀ xs,CY c H a1 xs->xs[i]?=some x)/\(∀ ys,CY c H a2 ys->ys[i]?=some y),
  fun i H=>∃ xs ys,CY c H a1 xs/\CY c H a2 ys/\xs.length<=i⟩
section
variable {X:Cx}{dg:List (Addr×Obj)}{σ:St}{H:Hp}{s:Shared}
def Inv.turnT {ch:List Addr}{h'':Heap}{x y:V}{u v:Value}(I:Inv X dg σ H s)(fr:∀ b∈ch,ow X dg H b)(D9:∀ b o,b∉ch->s.heap.get? b=some o->h''.get? b=some o)(hT':IsPair h'' s.heap.objs.size u v)(ru:eP x u)(rv:eP y v) :
 Inv X dg σ (upd H s.heap.objs.size (.tup [x,y])) { s with heap:=h''}:=by
 have hn:H s.heap.objs.size=none:=I.eE.fresh (ah _)
 refine I.step (g':=s.gens) (d':=s.drawn) (t':=s.toks) (h':=h'') (ch:=ch) (fun b hb=>?_) (fun b o _ _ hb e _=>D9 b o hb e) (fun b o _ _ hb e _=>⟨o.slots,D9 b o hb e⟩)
  (fun b o hb e n=>by rw[d9 (aF (jK e))];exact n) (fun b o hb e=>⟨o,D9 b o hb e⟩)
  (fun b zs e=>by rw[d9 (eY e hn)];exact e) (fun b o u e=>by rw[d9 (eY e hn)];exact e) (fun b ps e=>⟨#[],by rw[d9 (eY e hn),e];simp⟩) (fun m hm=>?_) (fun b o e=>?_) I.bare
 ·obtain⟨f0,f1,f2,f3,f4,f5⟩:=fr b hb
  exact⟨f3,f1,f4,f5⟩
 ·obtain⟨o,es,ep,ho,rr⟩:=hm
  exact⟨o,es,ep,D9 _ o (fun q=>(fr _ q).2.1 rfl) ho,rr⟩
 ·by_cases hb:b=s.heap.objs.size
  ·subst hb;rw[dW]at e;cases e
   exact⟨by show 2<=sizeLine;decide,[u,v],.cons ru (.cons rv .nil),⟨_,hT',rfl,0,rfl⟩⟩
  ·rw[d9 hb]at e
   refine(I.eE b o e).vK (fun d v' hd q=>D9 d v' (fun hm=>?_) q) (fun d q=>by rw[d9 (eY q hn)];exact q) fun d zs q=>by rw[d9 (eY q hn)];exact q
   have nn:=(fr d hm).1
   rcases hd with rfl | hd
   ·rw[nn]at e;cases e
   ·rw[nn]at hd;cases hd
def Inv.turnK {ch:List Addr}{h'':Heap}(I:Inv X dg σ H s)(fr:∀ b∈ch,ow X dg H b)(D9:∀ b o,b∉ch->s.heap.get? b=some o->h''.get? b=some o):Inv X dg σ H { s with heap:=h''}:=by
 refine I.step (g':=s.gens) (d':=s.drawn) (t':=s.toks) (h':=h'') (ch:=ch) (fun b hb=>?_) (fun b o _ _ hb e _=>D9 b o hb e) (fun b o _ _ hb e _=>⟨o.slots,D9 b o hb e⟩)
  (fun b o hb e n=>n) (fun b o hb e=>⟨o,D9 b o hb e⟩) (fun b zs e=>e) (fun b o u e=>e) (fun b ps e=>⟨#[],by rw[e];simp⟩) (fun m hm=>?_) (fun b o e=>?_) I.bare
 ·obtain⟨f0,f1,f2,f3,f4,f5⟩:=fr b hb
  exact⟨f3,f1,f4,f5⟩
 ·obtain⟨o,es,ep,ho,rr⟩:=hm
  exact⟨o,es,ep,D9 _ o (fun q=>(fr _ q).2.1 rfl) ho,rr⟩
 ·refine(I.eE b o e).vK (fun d v' hd q=>D9 d v' (fun hm=>?_) q) (fun d q=>q) fun d zs q=>q
  have nn:=(fr d hm).1
  rcases hd with rfl | hd
  ·rw[nn]at e;cases e
  ·rw[nn]at hd;cases hd
end
def turn_zip {P:ae}{w:af}{K:aa}{elts:List Expr}{kk:Nat}{q9:Pos}{c:Bool}{z TI TO i1 i2 l1 l2:Addr}(D:ZipApart z TI TO i1 i2 l1 l2) :
 Turn P w K (.Tuple elts kk q9) (Itz c l1 l2) [z,TI,TO,i1,i2] z (fun i h=>IsZip h z TI TO .none/\IsPair h TI (.ref i1) (.ref i2)/\(∃ a b,IsPair h TO a b)/\mL c h i1 l1 i/\mL c h i2 l2 i) where
 mem:=by simp
 obj:=fun i h st b hb=>by
  obtain⟨hz,hTI,⟨a,b',hTO⟩,h1,h2⟩:=st
  simp only[bH,br,cI]at hb
  rcases hb with rfl | rfl | rfl | rfl | rfl
  ·exact⟨_,hz,fun v q=>by cases q⟩
  ·exact⟨_,hTI,fun v q=>by cases q⟩
  ·exact⟨_,hTO,fun v q=>by cases q⟩
  ·exact h1.data
  ·exact h2.data
 keep:=fun i h h' st k=>by
  obtain⟨hz,hTI,⟨a,b',hTO⟩,h1,h2⟩:=st
  exact⟨k z (by simp) _ hz,k TI (by simp) _ hTI,⟨a,b',k TO (by simp) _ hTO⟩,h1.at fun o e=>k i1 (by simp) o e,h2.at fun o e=>k i2 (by simp) o e⟩
 item:=by
  intro X hP hw hK hc i dg s σ H E I hf st hg
  subst hP hw hK
  obtain⟨hz,hTI,⟨a,b',hTO⟩,h1,h2⟩:=st
  obtain⟨xs,ys,x,y,q1,q2,ex,ey⟩:=hg
  obtain⟨us,r1,p1⟩:=q1.val I
  obtain⟨ws,r2,p2⟩:=q2.val I
  obtain⟨u,eu,ru⟩:=r1.get ex
  obtain⟨v,ev,rv⟩:=r2.get ey
  refine zip_item D ⟨hz,hTI,hTO,h1,h2,p1,p2⟩ (by simpa using eu) (by simpa using ev) fun h' S' hT hk=>?_
  refine⟨_,rfl,wpAny_letOwnedTupleGo_zip S'.z fun h'' e'' t''=>?_⟩
  have S'':=S'.mz D (f':=.none) e'' t''.extBut
  have Tz:s.heap.objs.size≠z:=bo (jK hz)
  have hT':IsPair h'' s.heap.objs.size u v:=t''.extBut _ _ Tz hT
  have kp:ZK z TO i1 i2 s.heap h'':=hk.trans (zk_z t''.extBut)
  have hn:H s.heap.objs.size=none:=I.eE.fresh (ah _)
  have fr:∀ b∈[z,TO,i1,i2],ow X dg H b:=fun b hb=>hf b (by
   simp only[bH,br,cI]at hb ⊢
   rcases hb with q | q | q | q <;> simp[q])
  have D9:∀ b o,b∉[z,TO,i1,i2]->s.heap.get? b=some o->h''.get? b=some o:=fun b o hb e=>kp b o (fun q=>hb (by simp[q])) (fun q=>hb (by simp[q])) (fun q=>hb (by simp[q])) (fun q=>hb (by simp[q])) e
  have I1:Inv X dg σ (upd H s.heap.objs.size (.tup [x,y])) { s with heap:=h''}:=I.turnT fr D9 hT' ru rv
  refine⟨.ref s.heap.objs.size,_,I1,rfl,⟨_,x,y,rfl,hn,rfl,fun zs q=>by rw[q.inj q1];exact ex,fun zs q=>by rw[q.inj q2];exact ey⟩,⟨S''.z,S''.ti,⟨_,_,S''.to⟩,S''.n1,S''.n2⟩,fun b hb=>?_⟩
  obtain⟨o,e,_⟩:∃ o,s.heap.get? b=some o/\True:=by
   simp only[bH,br,cI]at hb
   rcases hb with rfl | rfl | rfl | rfl | rfl
   ·exact⟨_,hz,trivial⟩
   ·exact⟨_,hTI,trivial⟩
   ·exact⟨_,hTO,trivial⟩
   ·obtain⟨o,e⟩:=h1.ex;exact⟨o,e,trivial⟩
   ·obtain⟨o,e⟩:=h2.ex;exact⟨o,e,trivial⟩
  rw[d9 (aF (jK e))]
  exact(hf b hb).1
 done:=by
  intro X hP hw hK hc i dg s σ H E I hf st hg
  subst hP hw hK
  obtain⟨hz,hTI,⟨a,b',hTO⟩,h1,h2⟩:=st
  obtain⟨xs,ys,q1,q2,hx⟩:=hg
  obtain⟨us,r1,p1⟩:=q1.val I
  obtain⟨ws,r2,p2⟩:=q2.val I
  have hl:=r1.length
  refine zip_end (I.ok.hd hc) D ⟨hz,hTI,hTO,h1,h2,p1,p2⟩ (by simp;omega) fun h' hk=>⟨rfl,?_⟩
  have fr:∀ b∈[z,TO,i1,i2],ow X dg H b:=fun b hb=>hf b (by
   simp only[bH,br,cI]at hb ⊢
   rcases hb with q | q | q | q <;> simp[q])
  have D9:∀ b o,b∉[z,TO,i1,i2]->s.heap.get? b=some o->h'.get? b=some o:=fun b o hb e=>hk b o (fun q=>hb (by simp[q])) (fun q=>hb (by simp[q])) (fun q=>hb (by simp[q])) (fun q=>hb (by simp[q])) e
  exact I.turnK fr D9
 self:=fun _ _ _ _ _ st h=>wpAny_pyIter_zip st.1 h
def qD (a:Addr):Obj:={ cls:=.type "tuple_iterator",data:=.fields #[.ref a,.int 0 0]}
def zH (l1 l2:Addr)(h:Heap):Heap :=
 ((((h.push (qD l1)).push (qD l2)).push { cls:=.type "tuple",data:=.seq #[.ref h.objs.size,.ref (h.push (qD l1)).objs.size]}).push { cls:=.type "tuple",data:=.seq #[.none,.none]}).push
  { cls:=.type "zip",data:=.fields #[.none,.bool false,.bool false,.ref ((h.push (qD l1)).push (qD l2)).objs.size,.ref (((h.push (qD l1)).push (qD l2)).push { cls:=.type "tuple",data:=.seq #[.ref h.objs.size,.ref (h.push (qD l1)).objs.size]}).objs.size]}
def zip_newT (l1 l2:Addr)(xs ys:Array Value):Meets (Builtin.«zip.__new__» ⟨[.type "zip",.ref l1,.ref l2],[]⟩) (fun _ R s=>s.heap.IsTuple l1 xs/\s.heap.IsTuple l2 ys /\
 R (.ok (.ret (.ref (s.heap.objs.size+4)))) { s with heap:=zH l1 l2 s.heap}) :=
 .of_wp fun prog w A R s h=>by
  obtain⟨hp,g,d,tk,os⟩:=s;obtain⟨hl1,hl2,h⟩:=h
  have hsub:=sub_zip
  have t1:Heap.IsTuple (Shared.heap ⟨hp,g,d,tk,os⟩) l1 xs:=hl1
  have t2:Heap.IsTuple (Shared.heap ⟨hp.push { cls:=.type "tuple_iterator",data:=.fields #[.ref l1,.int 0 0]},g,d,tk,os⟩) l2 ys:=Heap.IsTuple.push hl2 _
  wp_walk using wpAny_pyIter_tuple t1,wpAny_pyIter_tuple t2
  refine⟨_,rfl,?_⟩
  have e:hp.objs.size+4=((((hp.push (qD l1)).push (qD l2)).push { cls:=.type "tuple",data:=.seq #[.ref hp.objs.size,.ref (hp.push (qD l1)).objs.size]}).push { cls:=.type "tuple",data:=.seq #[.none,.none]}).objs.size:=by
   simp only[ba]
  have h':R (.ok (.ret (.ref (hp.objs.size+4)))) _:=h
  rw[e]at h'
  exact h'
def zip_made {prog:ae}{w:af}{A:Around}{E:Value->Shared->Prop}{s:Shared}{c:Bool}{l1 l2:Addr}{xs ys:Array Value}{Q:Value->Shared->Prop}(p1:uX c s.heap l1 xs)(p2:uX c s.heap l2 ys)
 (h:∀ h',IsZip h' (s.heap.objs.size+4) (s.heap.objs.size+2) (s.heap.objs.size+3) .none->IsPair h' (s.heap.objs.size+2) (.ref s.heap.objs.size) (.ref (s.heap.objs.size+1))->IsPair h' (s.heap.objs.size+3) .none .none ->
   mL c h' s.heap.objs.size l1 0->mL c h' (s.heap.objs.size+1) l2 0->(∀ b o,s.heap.get? b=some o->h'.get? b=some o)->Q (.ref (s.heap.objs.size+4)) { s with heap:=h'}) :
 wpAny (model prog w) A (call (.type "zip") [.ref l1,.ref l2]) Q E s:=by
 cases c with
 | false=>exact call_zip_2 p1 p2 fun h' a1 a2 a3 a4 a5 _ a7=>h h' a1 a2 a3 a4 a5 a7
 | true =>
  refine callType_new F.called_zip (by decide) (F.typeCall_zip_2 _ _) (F.newCall_zip_2 _ _) (fun obj=>F.args_object_init_3 obj _ _) F.entry_zip_new (zip_newT l1 l2 xs ys) ⟨p1,p2,?_⟩
  have z1:(s.heap.push (qD l1)).objs.size=s.heap.objs.size+1:=ba ..
  have z2:((s.heap.push (qD l1)).push (qD l2)).objs.size=s.heap.objs.size+2:=by rw[ba,z1]
  have z3:(((s.heap.push (qD l1)).push (qD l2)).push { cls:=.type "tuple",data:=.seq #[.ref s.heap.objs.size,.ref (s.heap.push (qD l1)).objs.size]}).objs.size=s.heap.objs.size+3:=by rw[ba,z2]
  have z4:((((s.heap.push (qD l1)).push (qD l2)).push { cls:=.type "tuple",data:=.seq #[.ref s.heap.objs.size,.ref (s.heap.push (qD l1)).objs.size]}).push { cls:=.type "tuple",data:=.seq #[.none,.none]}).objs.size=s.heap.objs.size+4:=by rw[ba,z3]
  have g0:(zH l1 l2 s.heap).get? s.heap.objs.size=some (qD l1):=jt _ (jt _ (jt _ (jt _ (aB _ rfl))))
  have g1:(zH l1 l2 s.heap).get? (s.heap.push (qD l1)).objs.size=some (qD l2):=jt _ (jt _ (jt _ (aB _ rfl)))
  have g2:(zH l1 l2 s.heap).get? ((s.heap.push (qD l1)).push (qD l2)).objs.size=some _:=jt _ (jt _ (aB _ rfl))
  have g3:(zH l1 l2 s.heap).get? (((s.heap.push (qD l1)).push (qD l2)).push { cls:=.type "tuple",data:=.seq #[.ref s.heap.objs.size,.ref (s.heap.push (qD l1)).objs.size]}).objs.size=some _:=jt _ (aB _ rfl)
  have g4:(zH l1 l2 s.heap).get? ((((s.heap.push (qD l1)).push (qD l2)).push { cls:=.type "tuple",data:=.seq #[.ref s.heap.objs.size,.ref (s.heap.push (qD l1)).objs.size]}).push { cls:=.type "tuple",data:=.seq #[.none,.none]}).objs.size=some _:=aB _ rfl
  rw[z1]at g1
  rw[z2,z1]at g2
  rw[z3]at g3
  rw[z4,z2,z3]at g4
  exact⟨⟨_,g4,rfl⟩,h _ g4 g2 g3 ⟨_,g0,rfl,rfl⟩ ⟨_,g1,rfl,rfl⟩ fun b o e=>jt _ (jt _ (jt _ (jt _ (jt _ e))))⟩
section
variable {X:Cx}
def iZip (ta:TA):TI:=fun σ H R=>ta σ H fun vs H1=>match vs with
 | [.ref a,.ref b]=>∃(c:Bool) (xs ys:List V),CY c H1 a xs/\CY c H1 b ys/\R (Itz c a b) H1
 | _=>False
def pi_zip {elts:List Expr}{kk:Nat}{q9:Pos}{a b:Expr}{ta:TA}{p pos:Pos}(hg:Gl X "zip")(hm:X.mg "zip"=none)(ha:PA X [a,b] ta)(hs:starEach [a,b] X.env=[(false,eval a X.env),(false,eval b X.env)]:=by rfl)(B9:starEach [b] X.env=[(false,eval b X.env)]:=by rfl) :
 PI X (.Tuple elts kk q9) (.Call (.Name "zip" p) [a,b] [] pos) (iZip ta):=by
 intro dg s σ H R I h
 refine Call_ (pA I hg hm boot_zip (bz (fK (ha pos dg s σ H _ I h) fun us s1 qJ=>?_) (by rw[hs,B9]) (by rw[B9];rfl)))
 obtain⟨vs,H1,I1,r1,q1⟩:=qJ
 try dsimp only at q1
 split at q1
 ·rename_i l1 l2
  obtain⟨c,xs,ys,q1,q2,q⟩:=q1
  obtain⟨u1,u2,rfl,e1,e2⟩:=r1.two
  cases e1;cases e2
  obtain⟨us,r1,p1⟩:=q1.val I1
  obtain⟨ws,r2,p2⟩:=q2.val I1
  have lt:∀ {l:Addr} {o:HO},H1 l=some o->l<s1.heap.objs.size:=fun e=>I1.eE.lt e
  obtain⟨o1,w1⟩:=q1.ex
  obtain⟨o2,w2⟩:=q2.ex
  refine zip_made p1 p2 fun h' hz hTI hTO n1 n2 kp=>wpAny_pyIter_zip hz ?_
  have I2:Inv X dg σ H1 { s1 with heap:=h'}:=I1.dj (t':=s1.toks) kp
  refine⟨s1.heap.objs.size+4,_,_,_,H1,rfl,I2,turn_zip (c:=c) (zipApart_new (lt w1) (lt w2)),⟨hz,hTI,⟨_,_,hTO⟩,n1,n2⟩,fun b hb=>?_,q⟩
  have hb':s1.heap.objs.size<=b:=by
   simp only[bH,br,cI]at hb
   rcases hb with e | e | e | e | e <;> subst e
   ·exact a9 ..
   ·exact a9 ..
   ·exact a9 ..
   ·exact ah _
   ·exact a9 ..
  exact I1.Cb hb' (I1.eE.fresh hb')
 ·exact q1.elim
def Bz (g:List Bool->Bool):List V->Hp->VK->Prop:=fun vs H Q=>match vs with
 | [.ref p]=>∃ bs:List Bool,H p=some (.lst (bs.map V.bl))/\Q (.bl (g bs)) H
 | _=>False
def range_all (bs:List Bool):(List.range bs.length).all (fun i=>bs.getD i true)=bs.all id:=by
 rw[cD,cw,cw]
 constructor
 ·intro h b hb
  obtain⟨i,hi,e⟩:=cp hb
  have:=h i (by simpa using hi)
  rw[aZ,ux hi,e]at this
  exact this
 ·intro h i hi
  have hi':i<bs.length:=by simpa using hi
  rw[aZ,ux hi']
  exact h _ (cM _)
def allC (hc:X.calm=true):ia X (.builtin "all") (Bz fun bs=>bs.all id):=by
 intro dg s σ H vs us Q I rv h
 unfold Bz at h
 split at h
 ·rename_i p
  obtain⟨bs,hp,q⟩:=h
  obtain⟨u,rfl,ru⟩:=rv.one
  cases ru
  obtain⟨z,eK,n,r,hl,e⟩:=I.wG hp
  have isl:s.heap.IsList p eK.toArray:=⟨_,e,rfl,n,rfl⟩
  have lt:p≠s.heap.objs.size:=aF (jK e)
  refine call_all_walk (wpAny_pyIter_list isl ⟨_,_,_,_,_,_,fun i=>bs.getD i true,rfl,Walks.list (A:=X.A.in1) (I.ok.hd hc) s.heap.objs.size p lt eK.toArray,⟨⟨_,aB _ rfl,rfl,rfl⟩,isl.push _⟩,?_,fun h' tk kp=>?_⟩)
  ·intro i v s' Q' E' hv hq
   have hv':eK[i]?=some v:=by simpa using hv
   have hb:∃ b,bs[i]?=some b/\v=.bool b:=by
    cases eb:(bs.map V.bl)[i]? with
    | none=>have:=r.none_of eb;rw[hv']at this;cases this
    | some y =>
     obtain⟨u,hu,ry⟩:=r.get eb
     rw[hv']at hu;cases hu
     rw[uw]at eb
     cases e2:bs[i]? with
     | none=>rw[e2]at eb;cases eb
     | some b=>rw[e2]at eb;cases eb;exact⟨b,rfl,ry⟩
   obtain⟨b,eb,rfl⟩:=hb
   have e3:bs.getD i true=b:=by rw[aZ,eb];rfl
   have hq':Q' (bs.getD i true) s':=hq
   rw[e3]at hq'
   exact bJ hq'
  ·have I2:Inv X dg σ H { s with heap:=h',toks:=tk}:=I.dj fun b o e'=>kp b o (by simpa using aF (jK e')) (jt _ e')
   have len:eK.toArray.size=bs.length:=by rw[aA,<- hl,fF]
   rw[len,range_all]
   exact⟨.bl _,H,I2,rfl,q⟩
 ·exact h.elim
def rEqN:R2:=fun x y H Q=>match x,y with
 | .fV,.fV=>Q (.bl true) H
 | .int i,.int j=>Q (.bl (decide (i=j))) H
 | .str i,.str j=>Q (.bl (decide (i=j))) H
 | .bl i,.bl j=>Q (.bl (decide (i=j))) H
 | _,_=>False
def eqN:jm X (compareOp .Eq) rEqN:=op_eq.imp fun x y H Q q=>by
 unfold rEqN at q
 split at q
 ·exact⟨rfl,by simpa using q⟩
 ·exact⟨rfl,by rw[dI];exact q⟩
 ·exact⟨rfl,by rw[dS];exact q⟩
 ·exact⟨rfl,by rw[dB];exact q⟩
 ·exact q.elim
end
section
variable {js:List (Option Nat)}{g:TG}{tt:TT}{te:TE}{σ:St}{H:Hp}{fin:List V->Hp->Prop}
def Ge {c:Bool}{a1 a2:Addr}{xs zs:List V}(hn:xs.length=zs.length)(Pv:Nat->List V->Hp->Prop)(h0:Pv 0 [] H)(hl:∀ i ys H,Pv i ys H->CY c H a1 xs/\CY c H a2 zs)
 (hs:∀ i x y ys H T,i<xs.length->xs[i]?=some x->zs[i]?=some y->Pv i ys H->H T=none->g (.ref T) (fL js σ) (upd H T (.tup [x,y])) fun mP H2=>Ext (fL js σ) mP/\tt mP H2 fun b H3=>if b=true then te mP H3 (CNx xs.length i Pv ys)else CSk xs.length i Pv ys H3)
 (hd:∀ ys H,Pv xs.length ys H->fin ys H):wComp js g tt te (Itz c a1 a2) σ H fin:=by
 refine⟨fun i m ys H=>m=xs.length - i/\i<=xs.length/\Pv i ys H,⟨xs.length,by simp,aY _,h0⟩,?_⟩
 rintro i m ys H ⟨rfl,hi,p⟩
 obtain⟨q1,q2⟩:=hl i ys H p
 by_cases sU:i<xs.length
 ·refine .inr ⟨⟨xs,zs,xs[i],zs[i]'(by omega),q1,q2,by simp[sU],by simp[show i<zs.length by omega]⟩,fun v H' yl=>?_⟩
  obtain⟨T,x,y,rfl,hT,rfl,h1,h2⟩:=yl
  exact hs i x y ys H T sU (h1 xs q1) (h2 zs q2) p hT
 ·have e:i=xs.length:=by omega
  subst e
  exact .inl ⟨⟨xs,zs,q1,q2,ah _⟩,hd ys H p⟩
end
inductive DV where
 | fV | bl (b:Bool) | int (i:Int) | str (z:Str) | lst (ds:List DV) | tup (ds:List DV)
mutual
def dep:DV->Nat
 | .lst ds=>yc ds+1
 | .tup ds=>yc ds+1
 | _=>0
def yc:List DV->Nat
 | []=>0
 | d::ds=>max (dep d) (yc ds)
end
mutual
def wid:DV->Nat
 | .lst ds=>max ds.length (xK ds)
 | .tup ds=>max ds.length (xK ds)
 | _=>0
def xK:List DV->Nat
 | []=>0
 | d::ds=>max (wid d) (xK ds)
end
mutual
def Is (H:Hp):DV->V->Prop
 | .fV,v=>v=.fV
 | .bl b,v=>v=.bl b
 | .int i,v=>v=.int i
 | .str z,v=>v=.str z
 | .lst ds,v=>∃ p vs,v=.ref p/\H p=some (.lst vs)/\kn H ds vs
 | .tup ds,v=>∃ p vs,v=.ref p/\H p=some (.tup vs)/\kn H ds vs
def kn (H:Hp):List DV->List V->Prop
 | [],vs=>vs=[]
 | d::ds,vs=>∃ v r,vs=v::r/\Is H d v/\kn H ds r
end
mutual
def Is.mono {H H':Hp}(s:gG H H'):∀(d:DV) (v:V),Is H d v->Is H' d v
 | .fV,_,h=>h
 | .bl _,_,h=>h
 | .int _,_,h=>h
 | .str _,_,h=>h
 | .lst ds,_,h=>by
  obtain⟨p,vs,e,hp,q⟩:=h
  exact⟨p,vs,e,s _ _ hp,kn.mono s ds vs q⟩
 | .tup ds,_,h=>by
  obtain⟨p,vs,e,hp,q⟩:=h
  exact⟨p,vs,e,s _ _ hp,kn.mono s ds vs q⟩
def kn.mono {H H':Hp}(s:gG H H'):∀(ds:List DV) (vs:List V),kn H ds vs->kn H' ds vs
 | [],_,h=>h
 | d::ds,_,h=>by
  obtain⟨v,r,e,h1,h2⟩:=h
  exact⟨v,r,e,Is.mono s d v h1,kn.mono s ds r h2⟩
end
def kn.len {H:Hp}:∀ {ds:List DV} {vs:List V},kn H ds vs->vs.length=ds.length
 | [],_,h=>by rw[show _=[]from h];rfl
 | d::ds,_,h=>by obtain⟨v,r,rfl,_,h2⟩:=h;rw[aI,aI,kn.len h2]
def kn.get {H:Hp}:∀ {ds:List DV} {vs:List V} {i:Nat} {v:V},kn H ds vs->vs[i]?=some v->∃ d,ds[i]?=some d/\Is H d v
 | [],_,i,v,h,e=>by rw[show _=[]from h]at e;simp at e
 | d::ds,_,0,v,h,e=>by
  obtain⟨v',r,rfl,h1,h2⟩:=h
  simp at e;subst e;exact⟨d,rfl,h1⟩
 | d::ds,_,i+1,v,h,e=>by
  obtain⟨v',r,rfl,h1,h2⟩:=h
  obtain⟨d',e1,e2⟩:=kn.get (i:=i) h2 (by simpa using e)
  exact⟨d',by simpa using e1,e2⟩
def xh:∀ {ds:List DV} {i:Nat} {d:DV},ds[i]?=some d->dep d<=yc ds
 | d::ds,0,d',h=>by simp at h;subst h;unfold yc;omega
 | d::ds,i+1,d',h=>by have:=xh (ds:=ds) (i:=i) (by simpa using h);unfold yc;omega
def vG:∀ {ds:List DV} {i:Nat} {d:DV},ds[i]?=some d->wid d<=xK ds
 | d::ds,0,d',h=>by simp at h;subst h;unfold xK;omega
 | d::ds,i+1,d',h=>by have:=vG (ds:=ds) (i:=i) (by simpa using h);unfold xK;omega
def sY (n:Nat):Sp:=fun vs H Q _=>match vs with
 | [x,y]=>∃ d,dep d<=n/\wid d<sizeLine/\Is H d x/\Is H d y/\∀ H',gG H H'->Q (.bl true) H'
 | _=>False
def spNo:Sp:=fun _ _ _ _=>False
def spS:Nat->Sp
 | 0=>spNo
 | n+1=>sY n
def gG.upd {H:Hp}{p:Addr}{o:HO}(h:H p=none):gG H (L2.upd H p o):=fun b u e=>by rw[d9 (eY e h)];exact e
def AG {α:Type}{l:List α}{n:Int}(h:0<=n):gN l none (some n)=l.take n.toNat:=by
 obtain⟨m,rfl⟩:∃ m:Nat,n=(m:Int):=⟨n.toNat,by omega⟩
 unfold gN
 rw[HT.l9,HT.rH,List.drop_zero,Nat.sub_zero,gxK]
 by_cases hm:m<=l.length
 ·rw[cC hm]
 ·rw[Nat.min_eq_right (by omega),List.take_length,aX (by omega)]
def tT {α:Type}{l:List α}{n:Int}(h:0<=n):gN l (some n) none=l.drop n.toNat:=by
 obtain⟨m,rfl⟩:∃ m:Nat,n=(m:Int):=⟨n.toNat,by omega⟩
 unfold gN
 rw[HT.l9,HT.rH,gxK]
 by_cases hm:m<=l.length
 ·rw[cC hm,aX (by rw[bS];omega)]
 ·rw[Nat.min_eq_right (by omega),cz (ah _),cz (by omega),List.take_nil]
end L2
namespace L2
open PySem PySem.Spec PyProof.Rows
section
variable {X:Cx}
def By:V->List V->Hp->VK->Prop:=fun x vs H Q=>∃ l y xs,x=.ref l/\vs=[y]/\H l=some (.lst xs)/\xs.length<sizeLine/\Q .fV (upd H l (.lst (xs++[y])))
def appendC:MtR X "list.append" By:=MtR.imp mt_append fun x vs H Q q=>by
 obtain⟨l,y,xs,rfl,rfl,a,b,c⟩:=q
 exact⟨_,xs,_,rfl,rfl,a,b,c⟩
end
def oq (H:Hp):List V->List (Nat×Nat)->Prop:=Paired fun v r=>∃ p,v=.ref p/\H p=some (.tup [.int r.1,.int r.2])
def TupS (H H':Hp):Prop:=∀ p xs,H p=some (.tup xs)->H' p=some (.tup xs)
def TupS.trans {H H1 H2:Hp}(a:TupS H H1)(b:TupS H1 H2):TupS H H2:=fun p xs h=>b p xs (a p xs h)
def oq.mono {H H':Hp}(t:TupS H H'):∀ {vs:List V} {rs:List (Nat×Nat)},oq H vs rs->oq H' vs rs
 | _,_,.nil=>.nil
 | _,_,.cons ⟨p,e,h⟩ r=>.cons ⟨p,e,t _ _ h⟩ (oq.mono t r)
def dvp (r:Nat×Nat):DV:=.tup [.int r.1,.int r.2]
def oq.all {H:Hp}:∀ {vs:List V} {rs:List (Nat×Nat)},oq H vs rs->kn H (rs.map dvp) vs
 | _,_,.nil=>rfl
 | _,_,.cons ⟨p,e,h⟩ r=>⟨_,_,rfl,⟨p,_,e,h,_,_,rfl,rfl,_,_,rfl,rfl,rfl⟩,oq.all r⟩
def rr (l:List Nat):Nat->Nat×List (Nat×Nat)
 | 0=>(0,[])
 | i+1=>if l[i]?=some 120 then(i+1,if(rr l i).1<i then(rr l i).2++[((rr l i).1,i)]else(rr l i).2)else rr l i
inductive D where
 | fV | bl (b:Bool) | int (i:Int) | str (z:Str) | lst (ds:List D) | tup (ds:List D) | iD (ks:List Key) (ds:List D) | mr (k:Nat) | obj (C:Addr) (ns:List Str) (ds:List D) | lD (ks:List Key) (ds:List D) | fn (a:Addr)
inductive MO where
 | box | lst (ds:List D) | iD (ks:List Key) (ds:List D) | nX (o:Obj) (kvs:List (Key×V)) (ds:List D) | ins (C:Addr) (ns:List Str) (ds:List D) | dtu (ks:List (List Key)) (ds:List D) | gx (φ:List Addr) (H:Hp) | exc (c:Value)
abbrev MS:=List MO
def Ag (μ:MS)(k:Nat):Option (List D):=match μ[k]? with | some (.lst ds)=>some ds | _=>none
def qE {μ:MS}{k:Nat}{ds:List D}(h:Ag μ k=some ds):μ[k]?=some (.lst ds):=by
 unfold Ag at h
 split at h
 ·cases h;assumption
 ·cases h
def lu {μ:MS}{k:Nat}{ds:List D}(h:μ[k]?=some (.lst ds)):Ag μ k=some ds:=by unfold Ag;rw[h]
def Af {μ:MS}{ds:List D}:Ag (μ++[.lst ds]) μ.length=some ds:=lu (by rw[qx (ah _),aT];rfl)
abbrev DE:=List (Option D)
mutual
def iL (φ:List Addr)(H:Hp):D->V->Prop
 | .fV,v=>v=.fV
 | .bl b,v=>v=.bl b
 | .int i,v=>v=.int i
 | .str z,v=>v=.str z
 | .lst ds,v=>∃ p vs,v=.ref p/\p∉φ/\H p=some (.lst vs)/\d7 φ H ds vs
 | .tup ds,v=>∃ p vs,v=.ref p/\p∉φ/\H p=some (.tup vs)/\d7 φ H ds vs
 | .iD ks ds,v=>∃ p kvs vs,v=.ref p/\p∉φ/\H p=some (.dK kvs)/\kvs.map (·.1)=ks/\vs=kvs.map (·.2)/\d7 φ H ds vs
 | .mr k,v=>∃ p,φ[k]?=some p/\v=.ref p
 | .obj C ns ds,v=>∃ p dx fs vs,v=.ref p/\p∉φ/\H p=some (.ins C dx fs)/\fs.map (·.1)=ns/\vs=fs.map (·.2)/\d7 φ H ds vs
 | .lD ks ds,v=>∃ p o kvs vs,v=.ref p/\p∉φ/\H p=some (.ly o (.dK kvs))/\kvs.map (·.1)=ks/\vs=kvs.map (·.2)/\d7 φ H ds vs
 | .fn a,v=>v=.ref a
def d7 (φ:List Addr)(H:Hp):List D->List V->Prop
 | [],vs=>vs=[]
 | d::ds,vs=>∃ v r,vs=v::r/\iL φ H d v/\d7 φ H ds r
end
structure Fr (φ:List Addr)(H:Hp)(eR:List Addr)(H':Hp):Prop where
 ext:∃ ψ,eR=φ++ψ/\∀ c∈ψ,H c=none
 keep:∀ c o,c∉φ->H c=some o->H' c=some o
 dom:∀ c,H' c=none->H c=none
def Fr.refl (φ:List Addr)(H:Hp):Fr φ H φ H:=⟨⟨[],by simp,fun _ h=>nomatch h⟩,fun _ _ _ h=>h,fun _ h=>h⟩
def Fr.trans {φ eM iN:List Addr}{H H1 H2:Hp}(a:Fr φ H eM H1)(b:Fr eM H1 iN H2):Fr φ H iN H2:=by
 obtain⟨⟨ψ,rfl,hψ⟩,k1,d1⟩:=a
 obtain⟨⟨χ,rfl,hχ⟩,k2,d2⟩:=b
 refine⟨⟨ψ++χ,by simp,fun c hc=>?_⟩,fun c o hc e=>k2 c o (fun h=>?_) (k1 c o hc e),fun c h=>d1 c (d2 c h)⟩
 ·rcases List.mem_append.mp hc with h | h
  ·exact hψ c h
  ·exact d1 c (hχ c h)
 ·rcases List.mem_append.mp h with h | h
  ·exact hc h
  ·rw[hψ c h]at e;cases e
def Fr.same {φ:List Addr}{H H':Hp}(h:gG H H'):Fr φ H φ H':=⟨⟨[],by simp,fun _ h=>nomatch h⟩,fun c o _ e=>h c o e,fun c e=>h.free e⟩
def Fr.new {φ:List Addr}{H:Hp}{p:Addr}{o:HO}(h:H p=none):Fr φ H φ (upd H p o):=.same (gG.upd h)
def Fr.put {φ:List Addr}{H:Hp}{p:Addr}{o:HO}(h:p∈φ):Fr φ H φ (upd H p o) :=
 ⟨⟨[],by simp,fun _ h=>nomatch h⟩,fun c u hc e=>by rw[d9 (show c≠p from fun z=>hc (by rw[z];exact h))];exact e,fun c e=>by
  unfold upd at e
  split at e
  ·cases e
  ·exact e⟩
def Fr.snoc {φ:List Addr}{H:Hp}{p:Addr}(h:H p=none):Fr φ H (φ++[p]) H:=⟨⟨[p],rfl,fun c hc=>by rw[List.mem_singleton.mp hc];exact h⟩,fun _ _ _ e=>e,fun _ e=>e⟩
def Fr.yw {φ eR:List Addr}{H H':Hp}(f:Fr φ H eR H'){p:Addr}{o:HO}(h:p∉φ)(e:H p=some o):p∉eR:=by
 obtain⟨⟨ψ,rfl,hψ⟩,_,_⟩:=f
 intro hc
 rcases List.mem_append.mp hc with q | q
 ·exact h q
 ·rw[hψ p q]at e;cases e
def Fr.get {φ eR:List Addr}{H H':Hp}(f:Fr φ H eR H'){k:Nat}{p:Addr}(h:φ[k]?=some p):eR[k]?=some p:=by
 obtain⟨⟨ψ,rfl,hψ⟩,_,_⟩:=f
 rw[uU (lK h).1];exact h
mutual
def iL.mono {φ eR:List Addr}{H H':Hp}(f:Fr φ H eR H'):∀ {d:D} {v:V},iL φ H d v->iL eR H' d v
 | .fV,_,h=>h
 | .bl _,_,h=>h
 | .int _,_,h=>h
 | .str _,_,h=>h
 | .lst _,_,h=>by obtain⟨p,vs,e,n,hp,q⟩:=h;exact⟨p,vs,e,f.yw n hp,f.keep _ _ n hp,d7.mono f q⟩
 | .tup _,_,h=>by obtain⟨p,vs,e,n,hp,q⟩:=h;exact⟨p,vs,e,f.yw n hp,f.keep _ _ n hp,d7.mono f q⟩
 | .iD _ _,_,h=>by obtain⟨p,kvs,vs,e,n,hp,q1,q2,q⟩:=h;exact⟨p,kvs,vs,e,f.yw n hp,f.keep _ _ n hp,q1,q2,d7.mono f q⟩
 | .mr _,_,h=>by obtain⟨p,e,q⟩:=h;exact⟨p,f.get e,q⟩
 | .obj _ _ _,_,h=>by obtain⟨p,dx,fs,vs,e,n,hp,q1,q2,q⟩:=h;exact⟨p,dx,fs,vs,e,f.yw n hp,f.keep _ _ n hp,q1,q2,d7.mono f q⟩
 | .lD _ _,_,h=>by obtain⟨p,dx,fs,vs,e,n,hp,q1,q2,q⟩:=h;exact⟨p,dx,fs,vs,e,f.yw n hp,f.keep _ _ n hp,q1,q2,d7.mono f q⟩
 | .fn _,_,h=>h
def d7.mono {φ eR:List Addr}{H H':Hp}(f:Fr φ H eR H'):∀ {ds:List D} {vs:List V},d7 φ H ds vs->d7 eR H' ds vs
 | [],_,h=>h
 | _::_,_,h=>by obtain⟨v,r,e,h1,h2⟩:=h;exact⟨v,r,e,iL.mono f h1,d7.mono f h2⟩
end
def d7.len {φ:List Addr}{H:Hp}:∀ {ds:List D} {vs:List V},d7 φ H ds vs->vs.length=ds.length
 | [],_,h=>by rw[show _=[]from h];rfl
 | d::ds,_,h=>by obtain⟨v,r,rfl,_,h2⟩:=h;rw[aI,aI,d7.len h2]
def d7.get {φ:List Addr}{H:Hp}:∀ {ds:List D} {vs:List V} {i:Nat} {d:D},d7 φ H ds vs->ds[i]?=some d->∃ v,vs[i]?=some v/\iL φ H d v
 | [],_,i,d,h,e=>by simp at e
 | d::ds,_,0,d',h,e=>by obtain⟨v',r,rfl,h1,h2⟩:=h;simp at e;subst e;exact⟨v',rfl,h1⟩
 | d::ds,_,i+1,d',h,e=>by
  obtain⟨v',r,rfl,h1,h2⟩:=h
  obtain⟨v,e1,e2⟩:=d7.get (i:=i) h2 (by simpa using e)
  exact⟨v,by simpa using e1,e2⟩
def d7.getV {φ:List Addr}{H:Hp}{ds:List D}{vs:List V}{i:Nat}{v:V}(h:d7 φ H ds vs)(e:vs[i]?=some v):∃ d,ds[i]?=some d/\iL φ H d v:=by
 have hl:=h.len
 have hi:=(lK e).1
 obtain⟨u,e1,e2⟩:=h.get (d:=ds[i]'(by omega)) (ux (by omega))
 rw[e]at e1;cases e1
 exact⟨_,ux (by omega),e2⟩
def d7.app {φ:List Addr}{H:Hp}:∀ {ds es:List D} {vs us:List V},d7 φ H ds vs->d7 φ H es us->d7 φ H (ds++es) (vs++us)
 | [],_,_,_,h,g=>by rw[show _=[]from h];exact g
 | d::ds,es,_,us,h,g=>by obtain⟨v,r,rfl,h1,h2⟩:=h;exact⟨v,r++us,rfl,h1,h2.app g⟩
def d7.take {φ:List Addr}{H:Hp}:∀ {ds:List D} {vs:List V} (n:Nat),d7 φ H ds vs->d7 φ H (ds.take n) (vs.take n)
 | _,_,0,_=>rfl
 | [],_,n+1,h=>by rw[show _=[]from h];rfl
 | d::ds,_,n+1,h=>by obtain⟨v,r,rfl,h1,h2⟩:=h;exact⟨v,r.take n,rfl,h1,h2.take n⟩
def d7.drop {φ:List Addr}{H:Hp}:∀ {ds:List D} {vs:List V} (n:Nat),d7 φ H ds vs->d7 φ H (ds.drop n) (vs.drop n)
 | _,_,0,h=>h
 | [],_,n+1,h=>by rw[show _=[]from h];rfl
 | d::ds,_,n+1,h=>by obtain⟨v,r,rfl,h1,h2⟩:=h;exact h2.drop n
def d7.set {φ:List Addr}{H:Hp}{d:D}{v:V}(hd:iL φ H d v):∀ {ds:List D} {vs:List V} (n:Nat),d7 φ H ds vs->d7 φ H (ds.set n d) (vs.set n v)
 | [],_,n,h=>by rw[show _=[]from h];cases n <;> rfl
 | e::ds,_,0,h=>by obtain⟨w,r,rfl,h1,h2⟩:=h;exact⟨v,r,rfl,hd,h2⟩
 | e::ds,_,n+1,h=>by obtain⟨w,r,rfl,h1,h2⟩:=h;exact⟨w,r.set n v,rfl,h1,h2.set hd n⟩
def d7.bls {φ:List Addr}{H:Hp}:∀ {ns:List Bool} {vs:List V},d7 φ H (ns.map D.bl) vs->vs=ns.map V.bl
 | [],_,h=>h
 | n::ns,_,h=>by obtain⟨v,r,rfl,h1,h2⟩:=h;rw[show v=.bl n from h1,d7.bls h2];rfl
def d7.strs {φ:List Addr}{H:Hp}:∀ {ns:List Str} {vs:List V},d7 φ H (ns.map D.str) vs->vs=ns.map V.str
 | [],_,h=>h
 | n::ns,_,h=>by obtain⟨v,r,rfl,h1,h2⟩:=h;rw[show v=.str n from h1,d7.strs h2];rfl
def BxF (φ:List Addr)(H:Hp)(b:Addr):Prop:=∃(q:Addr) (ns:List Int) (i r z:Int),H b=some (.lst [.ref q,.int i,.int r,.int z])/\H q=some (.lst (ns.map V.int))/\q∉φ/\0<=i/\0<=z/\z<2147483647
def kE (p:Addr)(c:Value)(h:Heap):Prop:=∃ oe vs,h.get? p=some oe/\oe.cls=c/\oe.dict=none/\oe.data=.fields vs/\vs[2]?=some .none
def yg (φ:List Addr)(H:Hp):MO->Addr->Prop
 | .box,p=>BxF φ H p
 | .lst ds,p=>∃ vs,H p=some (.lst vs)/\d7 φ H ds vs
 | .iD ks ds,p=>∃ kvs vs,H p=some (.dK kvs)/\kvs.map (·.1)=ks/\vs=kvs.map (·.2)/\d7 φ H ds vs
 | .nX o kvs ds,p=>H p=some (.ly o (.dK kvs))/\d7 φ H ds (kvs.map (·.2))
 | .ins C ns ds,p=>∃ dx fs,H p=some (.ins C dx fs)/\fs.map (·.1)=ns/\d7 φ H ds (fs.map (·.2))
 | .dtu ks ds,p=>∃ kvs,H p=some (.dT kvs)/\kvs.map (·.1)=ks/\d7 φ H ds (kvs.map (·.2))
 | .gx eG H0,p=>Fr eG H0 φ H/\H p=H0 p/\(∃ o,H p=some o)/\∀ zs,H p≠some (.tup zs)
 | .exc c,p=>H p=some (.ext (kE p c))
structure eJ (φ:List Addr)(H:Hp)(μ:MS):Prop where
 nd:φ.Nodup
 len:φ.length=μ.length
 at_:∀(k:Nat) (m:MO),μ[k]?=some m->∃ p,φ[k]?=some p/\yg φ H m p
def yg.mono {φ eR:List Addr}{H H':Hp}(f:Fr φ H eR H'){m:MO}{p:Addr}(s:∀ o,H p=some o->H' p=some o)(h:yg φ H m p):yg eR H' m p:=by
 cases m with
 | box=>obtain⟨q,ns,i,r,z,h1,h2,h3,h4⟩:=h;exact⟨q,ns,i,r,z,s _ h1,f.keep _ _ h3 h2,f.yw h3 h2,h4⟩
 | lst ds=>obtain⟨vs,h1,h2⟩:=h;exact⟨vs,s _ h1,h2.mono f⟩
 | iD ks ds=>obtain⟨kvs,vs,h1,h2,h3,h4⟩:=h;exact⟨kvs,vs,s _ h1,h2,h3,h4.mono f⟩
 | nX o kvs ds=>exact⟨s _ h.1,h.2.mono f⟩
 | ins C ns ds=>obtain⟨dx,fs,h1,h2,h3⟩:=h;exact⟨dx,fs,s _ h1,h2,h3.mono f⟩
 | dtu ks ds=>obtain⟨kvs,h1,h2,h3⟩:=h;exact⟨kvs,s _ h1,h2,h3.mono f⟩
 | gx eG H0=>obtain⟨h1,h2,⟨o,h3⟩,h4⟩:=h;exact⟨h1.trans f,(s _ h3).trans (h3.symm.trans h2),⟨o,s _ h3⟩,fun zs e=>h4 zs (h3.trans ((s _ h3).symm.trans e))⟩
 | exc c=>exact s _ h
def yg.ex {φ:List Addr}{H:Hp}{m:MO}{p:Addr}(h:yg φ H m p):∃ o,H p=some o:=by
 cases m with
 | box=>obtain⟨q,ns,i,r,z,h1,_⟩:=h;exact⟨_,h1⟩
 | lst ds=>obtain⟨vs,h1,_⟩:=h;exact⟨_,h1⟩
 | iD ks ds=>obtain⟨kvs,vs,h1,_⟩:=h;exact⟨_,h1⟩
 | nX o kvs ds=>exact⟨_,h.1⟩
 | ins C ns ds=>obtain⟨dx,fs,h1,_⟩:=h;exact⟨_,h1⟩
 | dtu ks ds=>obtain⟨kvs,h1,_⟩:=h;exact⟨_,h1⟩
 | gx eG H0=>exact h.2.2.1
 | exc c=>exact⟨_,h⟩
def eJ.same {φ:List Addr}{H H':Hp}{μ:MS}(h:eJ φ H μ)(s:gG H H'):eJ φ H' μ :=
 ⟨h.nd,h.len,fun k m e=>let ⟨p,e1,e2⟩:=h.at_ k m e;⟨p,e1,e2.mono (.same s) fun o q=>s _ _ q⟩⟩
def eJ.mem {φ:List Addr}{H:Hp}{μ:MS}(h:eJ φ H μ){p:Addr}(hp:p∈φ):∃ o,H p=some o:=by
 obtain⟨k,hk,e⟩:=cp hp
 obtain⟨q,e1,e2⟩:=h.at_ k (μ[k]'(by have:=h.len;omega)) (ux _)
 rw[ux hk,e]at e1
 cases e1
 exact e2.ex
def eJ.fresh {φ:List Addr}{H:Hp}{μ:MS}(h:eJ φ H μ){p:Addr}(hp:H p=none):p∉φ:=fun q=>by
 obtain⟨o,e⟩:=h.mem q
 rw[hp]at e;cases e
def eJ.snoc {φ:List Addr}{H:Hp}{μ:MS}{m:MO}{p:Addr}{o:HO}(h:eJ φ H μ)(hp:H p=none)(hm:yg (φ++[p]) (upd H p o) m p):eJ (φ++[p]) (upd H p o) (μ++[m])/\Fr φ H (φ++[p]) (upd H p o):=by
 have f1:Fr φ H (φ++[p]) H:=.snoc hp
 have f:Fr φ H (φ++[p]) (upd H p o):=⟨f1.ext,fun c u hc e=>gG.upd hp _ _ e,fun c e=>(gG.upd hp).free e⟩
 refine⟨⟨?_,by rw[lx,lx,h.len];rfl,fun k n e=>?_⟩,f⟩
 ·rw[bF]
  exact⟨h.nd,by simp,fun a ha b hb=>by rw[List.mem_singleton.mp hb];intro z;exact h.fresh hp (by rw[<- z];exact ha)⟩
 ·by_cases hk:k<μ.length
  ·rw[uU hk]at e
   obtain⟨q,e1,e2⟩:=h.at_ k n e
   exact⟨q,f.get e1,e2.mono f fun u eu=>gG.upd hp _ _ eu⟩
  ·have hk':k=μ.length:=by
    have:=(lK e).1
    rw[lx,aU]at this
    omega
   subst hk'
   rw[qx (ah _),aT]at e
   cases e
   exact⟨p,by rw[qx (by rw[h.len];exact ah _),h.len,aT];rfl,hm⟩
def eJ.put {φ:List Addr}{H:Hp}{μ:MS}{m:MO}{p:Addr}{o:HO}{k:Nat}(h:eJ φ H μ)(hk:φ[k]?=some p)(hm:yg φ (upd H p o) m p):eJ φ (upd H p o) (μ.set k m):=by
 have hp:p∈φ:=Ak hk
 have f:Fr φ H φ (upd H p o):=.put hp
 refine⟨h.nd,by rw[aL];exact h.len,fun j n e=>?_⟩
 by_cases hj:k=j
 ·subst hj
  have hl:k<μ.length:=by have:=(lK hk).1;have:=h.len;omega
  rw[aD hl]at e
  cases e
  exact⟨p,hk,hm⟩
 ·rw[av hj]at e
  obtain⟨q,e1,e2⟩:=h.at_ j n e
  refine⟨q,e1,e2.mono f fun u eu=>?_⟩
  rw[d9]
  ·exact eu
  ·intro z
   subst z
   have a1:=lK hk
   have a2:=lK e1
   obtain⟨i1,r1⟩:=a1
   obtain⟨i2,r2⟩:=a2
   rcases Nat.lt_or_gt_of_ne hj with z | z
   ·exact List.pairwise_iff_getElem.mp h.nd k j i1 i2 z (r1.trans r2.symm)
   ·exact List.pairwise_iff_getElem.mp h.nd j k i2 i1 z (r2.trans r1.symm)
def i8 (φ:List Addr)(H:Hp)(ρ:DE)(σ:St):Prop:=ρ.length=σ.length/\∀(i:Nat) (d:D),ρ[i]?=some (some d)->∃ v,σ[i]?=some (some v)/\iL φ H d v
def i8.mono {φ eR:List Addr}{H H':Hp}{ρ:DE}{σ:St}(f:Fr φ H eR H')(h:i8 φ H ρ σ):i8 eR H' ρ σ:=⟨h.1,fun i d e=>let ⟨v,a,b⟩:=h.2 i d e;⟨v,a,b.mono f⟩⟩
def i8.set {φ:List Addr}{H:Hp}{ρ:DE}{σ:St}{d:D}{v:V}(h:i8 φ H ρ σ)(hd:iL φ H d v)(i:Nat):i8 φ H (ρ.set i (some d)) (σ.set i (some v)):=by
 refine⟨by rw[aL,aL];exact h.1,fun j e hj=>?_⟩
 by_cases hij:i=j
 ·subst hij
  have hl:i<ρ.length:=by have:=(lK hj).1;rwa [aL]at this
  rw[aD hl]at hj
  cases hj
  exact⟨v,aD (by rw[<- h.1];exact hl),hd⟩
 ·rw[av hij]at hj
  obtain⟨u,a,b⟩:=h.2 j e hj
  exact⟨u,by rw[av hij];exact a,b⟩
def lv (μ:MS):D->Option (List D)
 | .lst ds=>some ds
 | .mr k=>Ag μ k
 | _=>none
def lc:D->List D->MS->Prop
 | .mr k,ds=>fun μ=>Ag μ k=some ds
 | _,_=>fun _=>True
def qu {φ:List Addr}{H:Hp}{μ:MS}{d:D}{v:V}{ds:List D}(M:eJ φ H μ)(i:iL φ H d v)(h:lv μ d=some ds):∃ p vs,v=.ref p/\H p=some (.lst vs)/\d7 φ H ds vs:=by
 cases d with
 | lst es=>cases h;obtain⟨p,vs,rfl,_,hp,ha⟩:=i;exact⟨p,vs,rfl,hp,ha⟩
 | mr k =>
  obtain⟨p,hp,rfl⟩:=i
  have e:=qE (show Ag μ k=some ds from h)
  obtain⟨q,e1,vs,hv,ha⟩:=M.at_ k _ e
  rw[hp]at e1;cases e1
  exact⟨p,vs,rfl,hv,ha⟩
 | _=>cases h
def lv_stay {φ eR:List Addr}{H H':Hp}{μ μ':MS}{d:D}{p:Addr}{ds:List D}(M:eJ φ H μ)(i:iL φ H d (.ref p))(h:lv μ d=some ds)(f:Fr φ H eR H')(M':eJ eR H' μ')(c:lc d ds μ'):∃ vs,H' p=some (.lst vs)/\d7 eR H' ds vs:=by
 cases d with
 | lst es=>cases h;obtain⟨p',vs,e,n,hp,ha⟩:=i;cases e;exact⟨vs,f.keep _ _ n hp,ha.mono f⟩
 | mr k =>
  obtain⟨p',hp,e⟩:=i
  cases e
  obtain⟨q,e1,vs,hv,ha⟩:=M'.at_ k _ (qE c)
  rw[f.get hp]at e1;cases e1
  exact⟨vs,hv,ha⟩
 | _=>cases h
abbrev DK:=D->MS->Prop
abbrev De:=DE->MS->DK->Prop
abbrev DA:=DE->MS->(List D->MS->Prop)->Prop
abbrev Dt:=DE->MS->(Bool->MS->Prop)->Prop
def tZ (φ:List Addr)(H:Hp)(K:DK)(Q:VK):Prop:=∀ d μ' eR v H',K d μ'->Fr φ H eR H'->eJ eR H' μ'->iL eR H' d v->Q v H'
def tZ.mono {φ eM:List Addr}{H H1:Hp}{K:DK}{Q:VK}(h:tZ φ H K Q)(f:Fr φ H eM H1):tZ eM H1 K Q:=fun d μ' eR v H' k g m i=>h d μ' eR v H' k (f.trans g) m i
def tD (w:De):TE:=fun σ H Q=>∃ φ ρ μ K,i8 φ H ρ σ/\eJ φ H μ/\w ρ μ K/\tZ φ H K Q
def tDA (w:DA):TA:=fun σ H Q=>∃ φ ρ μ K,i8 φ H ρ σ/\eJ φ H μ/\w ρ μ K/\∀ ds μ' eR vs H',K ds μ'->Fr φ H eR H'->eJ eR H' μ'->d7 eR H' ds vs->Q vs H'
def xM (w:Dt):TT:=fun σ H Q=>∃ φ ρ μ K,i8 φ H ρ σ/\eJ φ H μ/\w ρ μ K/\∀ b μ' eR H',K b μ'->Fr φ H eR H'->eJ eR H' μ'->Q b H'
section
variable {X:Cx}{a b e:Expr}{pos:Pos}
abbrev PD (X:Cx)(e:Expr)(w:De):Prop:=PE X e (tD w)
def dVar (i:Nat):De:=fun ρ μ K=>match ρ[i]? with | some (some d)=>K d μ | _=>False
def dC (d:D):De:=fun _ μ K=>K d μ
def dv (i:Nat){x:Str}{pos:Pos}(hN:X.N[i]?=some x:=by rfl)(hv:Vis X.env.scope x:=by first | exact Or.inl rfl | exact Or.inr (Or.inl rfl) | exact Or.inr (Or.inr rfl))(hd:(x==("__debug__" : Str))=false:=by decide)
 (x8:(x==("__classdict__" : Str))=false:=by decide):PD X (.Name x pos) (dVar i):=(zP (i:=i) hN hv hd x8).imp fun σ H Q q=>by
 obtain⟨φ,ρ,μ,K,E,M,w,L⟩:=q
 unfold dVar at w
 split at w
 ·rename_i d hd
  obtain⟨v,e,r⟩:=E.2 i d hd
  exact⟨v,e,L d μ φ v H w (.refl _ _) M r⟩
 ·exact w.elim
def dq {i j pos}:PD X (.Constant (.int i) j pos) (dC (.int i)):=fM.imp fun σ H Q qm=>by obtain⟨φ,ρ,μ,K,E,M,w,L⟩:=qm;exact L _ _ φ _ H w (.refl _ _) M rfl
def tS {b j pos}:PD X (.Constant (.bool b) j pos) (dC (.bl b)):=pe_bl.imp fun σ H Q qY=>by obtain⟨φ,ρ,μ,K,E,M,w,L⟩:=qY;exact L _ _ φ _ H w (.refl _ _) M rfl
def d_non {j pos}:PD X (.Constant .none j pos) (dC .fV):=pe_non.imp fun σ H Q oK=>by obtain⟨φ,ρ,μ,K,E,M,w,L⟩:=oK;exact L _ _ φ _ H w (.refl _ _) M rfl
def dE {x j pos}:PD X (.Constant (.str x) j pos) (dC (.str x)):=pe_str.imp fun σ H Q qo=>by obtain⟨φ,ρ,μ,K,E,M,w,L⟩:=qo;exact L _ _ φ _ H w (.refl _ _) M rfl
abbrev uY:=D->D->MS->DK->Prop
def AE (ro:uY)(wa wb:De):De:=fun ρ μ K=>wa ρ μ fun x dX=>wb ρ dX fun y fw=>ro x y fw K
def oO (r:R2)(ro:uY):Prop:=∀ φ H x y dx dy μ K Q,eJ φ H μ->iL φ H dx x->iL φ H dy y->ro dx dy μ K->tZ φ H K Q->r x y H Q
def EW {r:R2}{ro:uY}{wa wb:De}(so:oO r ro){σ:St}{H:Hp}{Q:VK}(h:tD (AE ro wa wb) σ H Q):tOp r (tD wa) (tD wb) σ H Q:=by
 obtain⟨φ,ρ,μ,K,E,M,w,L⟩:=h
 refine⟨φ,ρ,μ,_,E,M,w,fun d1 dX eM v1 H1 k1 f1 M1 i1=>?_⟩
 refine⟨eM,ρ,dX,_,E.mono f1,M1,k1,fun d2 fw iN v2 H2 k2 f2 M2 i2=>?_⟩
 exact so iN H2 v1 v2 d1 d2 fw K Q M2 (i1.mono f2) i2 k2 (L.mono (f1.trans f2))
def tR {op:Operator}{r:R2}{ro:uY}{wa wb:De}(h:jm X (binaryOp op) r)(so:oO r ro)(ha:PD X a wa)(hb:PD X b wb):PD X (.BinOp a op b pos) (AE ro wa wb):=(jj h ha hb).imp fun σ H Q q=>EW so q
def uz {op:CmpOp}{r:R2}{ro:uY}{wa wb:De}(h:jm X (compareOp op) r)(so:oO r ro)(ha:PD X a wa)(hb:PD X b wb)(hm:behindInMarks op b=false):PD X (.Compare a [op] [b] pos) (AE ro wa wb):=(rL h ha hb hm).imp fun σ H Q q=>EW so q
def d_ix {r:R2}{ro:uY}{wa wb:De}(h:IxR X r)(so:oO r ro)(ha:PD X a wa)(hb:PD X b wb)(hs:AU b):PD X (.Subscript a b pos) (AE ro wa wb):=(pe h ha hb hs).imp fun σ H Q q=>EW so q
def qM (w:De):Dt:=fun ρ μ K=>w ρ μ fun d μ'=>match d with | .bl b=>K b μ' | _=>False
def tD_bool {w:De}{σ:St}{H:Hp}{Q:Bool->Hp->Prop}(h:xM (qM w) σ H Q):cB (tD w) σ H Q:=by
 obtain⟨φ,ρ,μ,K,E,M,k,L⟩:=h
 refine⟨φ,ρ,μ,_,E,M,k,fun d μ' eR v H' k' f M' i=>?_⟩
 cases d with
 | bl b=>cases(show v=_ from i);exact L b μ' eR H' k' f M'
 | _=>exact k'.elim
def gJ {w:De}(h:PD X e w)(he:∀ whole,isTrue e X.env whole=(do let v <- whole;standAt e.pos;holding [v] (truthy v)):=by intro _;rfl):PT X e (xM (qM w)):=(rK h he).imp fun σ H Q q=>tD_bool q
def nZ {op:CmpOp}{r:R2}{ro:uY}{wa wb:De}(h:jm X (compareOp op) r)(so:oO r ro)(ha:PD X a wa)(hb:PD X b wb)(hm:behindInMarks op b=false):PT X (.Compare a [op] [b] pos) (xM (qM (AE ro wa wb))) :=
 (mh h ha hb hm).imp fun σ H Q q=>by
  obtain⟨φ,ρ,μ,K,E,M,k,L⟩:=q
  refine EW so ⟨φ,ρ,μ,_,E,M,k,fun d μ' eR v H' k' f M' i=>?_⟩
  cases d with
  | bl b=>cases(show v=_ from i);exact L b μ' eR H' k' f M'
  | _=>exact k'.elim
def dIsN (neg:Bool)(w:De):De:=fun ρ μ K=>w ρ μ fun d μ'=>match d with | .fV=>K (.bl (!neg)) μ' | _=>K (.bl neg) μ'
def isN_of {φ:List Addr}{H:Hp}{d:D}{v:V}(i:iL φ H d v):decide (v=V.fV)=(match d with | .fV=>true | _=>false):=by
 cases d with
 | fV=>cases(show v=_ from i);rfl
 | bl _=>cases(show v=_ from i);rfl
 | int _=>cases(show v=_ from i);rfl
 | str _=>cases(show v=_ from i);rfl
 | lst _=>obtain⟨p,vs,rfl,_⟩:=i;rfl
 | tup _=>obtain⟨p,vs,rfl,_⟩:=i;rfl
 | iD _ _=>obtain⟨p,kvs,vs,rfl,_⟩:=i;rfl
 | mr _=>obtain⟨p,_,rfl⟩:=i;rfl
 | obj _ _ _=>obtain⟨p,dx,fs,vs,rfl,_⟩:=i;rfl
 | lD _ _=>obtain⟨p,dx,fs,vs,rfl,_⟩:=i;rfl
 | fn _=>cases(show v=_ from i);rfl
def tD_isN {w:De}{σ:St}{H:Hp}{Q:VK}(h:tD (dIsN false w) σ H Q):tIsN (tD w) σ H Q:=by
 obtain⟨φ,ρ,μ,K,E,M,k,L⟩:=h
 refine⟨φ,ρ,μ,_,E,M,k,fun d μ' eR v H' k' f M' i=>?_⟩
 show Q (.bl _) H'
 rw[isN_of i]
 cases d <;> exact L _ μ' eR _ H' k' f M' rfl
def EX {w:De}{σ:St}{H:Hp}{Q:VK}(h:tD (dIsN true w) σ H Q):tNotN (tD w) σ H Q:=by
 obtain⟨φ,ρ,μ,K,E,M,k,L⟩:=h
 refine⟨φ,ρ,μ,_,E,M,k,fun d μ' eR v H' k' f M' i=>?_⟩
 show Q (.bl _) H'
 rw[isN_of i]
 cases d <;> exact L _ μ' eR _ H' k' f M' rfl
end
end L2
namespace L2
open PySem PySem.Spec PyProof.Rows
section
variable {X:Cx}{a b e:Expr}{es:List Expr}{pos:Pos}
def PA.imp {es:List Expr}{t t':TA}(h:PA X es t)(hi:∀ σ H Q,t' σ H Q->t σ H Q):PA X es t':=fun pos dg s σ H Q I q=>h pos dg s σ H Q I (hi σ H Q q)
def AV.imp {st:List Stmt}{t t':TS}(h:AV X st t)(hi:∀ D σ H,t' D σ H->t D σ H):AV X st t':=fun dg s σ H D I q=>h dg s σ H D I (hi D σ H q)
def dNil:DA:=fun _ μ K=>K [] μ
def uA (wa:De)(wr:DA):DA:=fun ρ μ K=>wa ρ μ fun x dX=>wr ρ dX fun xs fw=>K (x::xs) fw
abbrev uP (X:Cx)(es:List Expr)(w:DA):Prop:=PA X es (tDA w)
def fo:uP X [] dNil:=gh.imp fun σ H Q qK=>by obtain⟨φ,ρ,μ,K,E,M,w,L⟩:=qK;exact L [] μ φ [] H w (.refl _ _) M rfl
def dr {wa:De}{wr:DA}(ha:PD X e wa)(hr:uP X es wr)(hs:starEach (e::es) X.env=(false,eval e X.env)::starEach es X.env:=by rfl):uP X (e::es) (uA wa wr):=(d8 ha hr hs).imp fun σ H Q q=>by
 obtain⟨φ,ρ,μ,K,E,M,w,L⟩:=q
 refine⟨φ,ρ,μ,_,E,M,w,fun d1 dX eM v1 H1 k1 f1 M1 i1=>?_⟩
 refine⟨eM,ρ,dX,_,E.mono f1,M1,k1,fun ds fw iN vs H2 k2 f2 M2 i2=>?_⟩
 exact L _ fw iN _ H2 k2 (f1.trans f2) M2 ⟨v1,vs,rfl,i1.mono f2,i2⟩
def al_lst {φ:List Addr}{H:Hp}{μ:MS}{K:DK}{Q:VK}{ds:List D}{vs:List V}{p:Addr}(L:tZ φ H K Q)(M:eJ φ H μ)(h:d7 φ H ds vs)(k:K (.lst ds) μ)(hp:H p=none):Q (.ref p) (upd H p (.lst vs)) :=
 L _ μ φ _ _ k (.new hp) (M.same (gG.upd hp)) ⟨p,vs,rfl,M.fresh hp,dW,h.mono (.new hp)⟩
def Ey {φ:List Addr}{H:Hp}{μ:MS}{K:DK}{Q:VK}{ds:List D}{vs:List V}{p:Addr}(L:tZ φ H K Q)(M:eJ φ H μ)(h:d7 φ H ds vs)(k:K (.tup ds) μ)(hp:H p=none):Q (.ref p) (upd H p (.tup vs)) :=
 L _ μ φ _ _ k (.new hp) (M.same (gG.upd hp)) ⟨p,vs,rfl,M.fresh hp,dW,h.mono (.new hp)⟩
def al_mr {φ:List Addr}{H:Hp}{μ:MS}{K:DK}{Q:VK}{ds:List D}{vs:List V}{p:Addr}(L:tZ φ H K Q)(M:eJ φ H μ)(h:d7 φ H ds vs)(k:K (.mr μ.length) (μ++[.lst ds]))(hp:H p=none):Q (.ref p) (upd H p (.lst vs)):=by
 have f:Fr φ H (φ++[p]) (upd H p (.lst vs)):=⟨(Fr.snoc (φ:=φ) hp).ext,fun c u _ e=>gG.upd hp _ _ e,fun c e=>(gG.upd hp).free e⟩
 obtain⟨M',_⟩:=M.snoc (m:=.lst ds) (o:=.lst vs) hp ⟨vs,dW,h.mono f⟩
 exact L _ _ _ _ _ k f M' ⟨p,by rw[qx (by rw[M.len];exact ah _),M.len,aT];rfl,rfl⟩
def nL (m:Bool)(ds:List D)(μ:MS)(K:DK):Prop:=match m with | false=>K (.lst ds) μ | true=>K (.mr μ.length) (μ++[.lst ds])
def Ez {m:Bool}{φ:List Addr}{H:Hp}{μ:MS}{K:DK}{Q:VK}{ds:List D}{vs:List V}{p:Addr}(L:tZ φ H K Q)(M:eJ φ H μ)(h:d7 φ H ds vs)(k:nL m ds μ K)(hp:H p=none):Q (.ref p) (upd H p (.lst vs)):=by
 cases m with
 | false=>exact al_lst L M h k hp
 | true=>exact al_mr L M h k hp
def dLst (m:Bool)(w:DA):De:=fun ρ μ K=>w ρ μ fun ds dX=>ds.length<=sizeLine/\nL m ds dX K
def dTup (w:DA):De:=fun ρ μ K=>w ρ μ fun ds dX=>ds.length<=sizeLine/\K (.tup ds) dX
def iM {w:DA}(m:Bool)(h:uP X es w):PD X (.List es pos) (dLst m w):=(pe_lst h).imp fun σ H Q ⟨φ,ρ,μ,K,E,M,w,L⟩ =>
 ⟨φ,ρ,μ,_,E,M,w,fun ds dX eM vs H1 k1 f1 M1 i1=>⟨by rw[i1.len];exact k1.1,fun p hp=>Ez (L.mono f1) M1 i1 k1.2 hp⟩⟩
def fW {w:DA}{x1}(h:uP X es w):PD X (.Tuple es x1 pos) (dTup w):=(pe_tup h).imp fun σ H Q ⟨φ,ρ,μ,K,E,M,w,L⟩ =>
 ⟨φ,ρ,μ,_,E,M,w,fun ds dX eM vs H1 k1 f1 M1 i1=>⟨by rw[i1.len];exact k1.1,fun p hp=>Ey (L.mono f1) M1 i1 k1.2 hp⟩⟩
abbrev jg:=List D->MS->DK->Prop
def gO (f:jg):Sp:=fun vs H Q _=>∃ φ ds μ K,d7 φ H ds vs/\eJ φ H μ/\f ds μ K/\tZ φ H K Q
def yI (f:jg)(w:DA):De:=fun ρ μ K=>w ρ μ fun ds dX=>f ds dX K
def d_call {f:jg}{w:DA}{x:Str}{p:Pos}{k:Nat}{ps:List Str}(C:oU X.prog X.w X.K X.mg X.dh x k ps (gO f))(hr:gZ k X.A)(hg:Gl X x)(ha:uP X (e::es) w)
 (tL:(x==("__debug__" : Str))=false:=by decide) (he:starEach (e::es) X.env=(false,eval e X.env)::starEach es X.env:=by rfl) (kO:(backTo pos (starEach es X.env)).any (·.1)=false:=by rfl) :
 PD X (.Call (.Name x p) (e::es) [] pos) (yI f w):=(wq C hr hg ha tL he kO).imp fun σ H Q ⟨φ,ρ,μ,K,E,M,w,L⟩ =>
 ⟨φ,ρ,μ,_,E,M,w,fun ds dX eM vs H1 k1 f1 M1 i1=>by show gO f (vs++[]) H1 Q E0;rw[aQ];exact⟨eM,ds,dX,K,i1,M1,k1,L.mono f1⟩⟩
def mJ (r:List V->Hp->VK->Prop)(f:jg):Prop:=∀ φ H vs ds μ K Q,eJ φ H μ->d7 φ H ds vs->f ds μ K->tZ φ H K Q->r vs H Q
def tD_cb {r:List V->Hp->VK->Prop}{f:jg}{w:DA}(so:mJ r f){σ:St}{H:Hp}{Q:VK}(h:tD (yI f w) σ H Q):tCB r (tDA w) σ H Q:=by
 obtain⟨φ,ρ,μ,K,E,M,w,L⟩:=h
 exact⟨φ,ρ,μ,_,E,M,w,fun ds dX eM vs H1 k1 f1 M1 i1=>so eM H1 vs ds dX K Q M1 i1 k1 (L.mono f1)⟩
def qz {r:List V->Hp->VK->Prop}{f:jg}{w:DA}{id:String}{x:Str}{p:Pos}(hc:ia X (.builtin id) r)(so:mJ r f)(hg:Gl X x)(hm:X.mg x=none)(hv:bootBuiltins x=some (.builtin id))(ha:uP X (e::es) w)(hn:x ≠ "__name__":=by decide)(tL:(x==("__debug__" : Str))=false:=by decide)
 (he:starEach (e::es) X.env=(false,eval e X.env)::starEach es X.env:=by rfl) (kO:(backTo pos (starEach es X.env)).any (·.1)=false:=by rfl):PD X (.Call (.Name x p) (e::es) [] pos) (yI f w) :=
 (fG hc hg hm hv ha hn tL he kO).imp fun σ H Q q=>tD_cb so q
def CA {r:List V->Hp->VK->Prop}{f:jg}{w:DA}{T:String}{x:Str}{p:Pos}(hc:ia X (.type T) r)(so:mJ r f)(hg:Gl X x)(hm:X.mg x=none)(hv:bootBuiltins x=some (.type T))(ha:uP X (e::es) w)(hn:x ≠ "__name__":=by decide)(tL:(x==("__debug__" : Str))=false:=by decide)
 (he:starEach (e::es) X.env=(false,eval e X.env)::starEach es X.env:=by rfl) (kO:(backTo pos (starEach es X.env)).any (·.1)=false:=by rfl):PD X (.Call (.Name x p) (e::es) [] pos) (yI f w) :=
 (yt hc hg hm hv ha hn tL he kO).imp fun σ H Q q=>tD_cb so q
abbrev DMt:=D->List D->MS->DK->Prop
def SoMt (K:aa)(T:String)(r:V->List V->Hp->VK->Prop)(f:DMt):Prop:=∀ φ H x vs d ds μ K' Q,eJ φ H μ->iL φ H d x->d7 φ H ds vs->f d ds μ K'->tZ φ H K' Q->r x vs H Q
def TyD (T:String)(μ:MS):D->Prop
 | .str _=>T = "str"
 | .lst _=>T = "list"
 | .iD _ _=>T = "dict"
 | .mr k=>match μ[k]? with | some (.lst _)=>T = "list" | some (.iD _ _)=>T = "dict" | _=>False
 | _=>False
def TyD.is {Kf:aa}{T:String}{φ:List Addr}{H:Hp}{μ:MS}{d:D}{v:V}(M:eJ φ H μ)(i:iL φ H d v)(h:TyD T μ d):tyV Kf T v H:=by
 cases d with
 | str z=>cases(show v=_ from i);exact h
 | lst ds=>obtain⟨p,vs,rfl,_,hp,_⟩:=i;exact .inl ⟨h,vs,pS.of hp⟩
 | iD ks ds=>obtain⟨p,kvs,vs,rfl,_,hp,_⟩:=i;exact .inr (.inr (.inl ⟨h,.inl ⟨kvs,hp⟩⟩))
 | mr k =>
  obtain⟨p,hp,rfl⟩:=i
  unfold TyD at h
  dsimp only at h
  cases e:μ[k]? with
  | none=>rw[e]at h;exact h.elim
  | some m =>
   obtain⟨q,e1,e2⟩:=M.at_ k m e
   rw[hp]at e1;cases e1
   rw[e]at h
   cases m with
   | box=>exact h.elim
   | lst ds=>obtain⟨vs,hv,_⟩:=e2;exact .inl ⟨h,vs,pS.of hv⟩
   | iD ks ds=>obtain⟨kvs,vs,hv,_⟩:=e2;exact .inr (.inr (.inl ⟨h,.inl ⟨kvs,hv⟩⟩))
   | _=>exact h.elim
 | _=>exact(show False from h).elim
def dMt (T:String)(f:DMt)(wo:De)(w:DA):De:=fun ρ μ K=>wo ρ μ fun x dX=>TyD T dX x/\w ρ dX fun ds fw=>f x ds fw K
def Az {o:Expr}{name:Str}{apos gy:Pos}{T id:String}{r:V->List V->Hp->VK->Prop}{f:DMt}{wo:De}{w:DA}(pa:PlainAttrs T)(slot:Slot T name id)(hty:typeOf (.builtin id)=pure (.type "method_descriptor"))(hm:MtR X id r)(so:SoMt X.K T r f)(ho:PD X o wo)(ha:uP X (e::es) w)
 (mV:attributeBase o name X.env (eval o X.env)=eval o X.env:=by rfl)
 (hfew:((backTo gy (starEach (e::es) X.env)).all (fun x=>!x.1)&&(backToKw gy (keywordEach [] X.env)).all (fun x=>x.1.isSome)
   && decide ((e::es).length+([]:List Keyword).length+(if([]:List Keyword).isEmpty then 0 else 1)<30))=true:=by rfl)
 (mU:(apos.endLine==gy.line)=true:=by rfl) (hs:starEach (e::es) X.env=(false,eval e X.env)::starEach es X.env:=by rfl) (Eb:(backTo gy (starEach es X.env)).any (·.1)=false:=by rfl) :
 PD X (.Call (.Attribute o name apos) (e::es) [] gy) (dMt T f wo w):=(pe_bm pa slot hty hm ho ha mV hfew mU hs Eb).imp fun σ H Q q=>by
 obtain⟨φ,ρ,μ,K,E,M,w,L⟩:=q
 refine⟨φ,ρ,μ,_,E,M,w,fun d1 dX eM v1 H1 k1 f1 M1 i1=>⟨TyD.is M1 i1 k1.1,?_⟩⟩
 exact⟨eM,ρ,dX,_,E.mono f1,M1,k1.2,fun ds fw iN vs H2 k2 f2 M2 i2=>so iN H2 v1 vs d1 ds fw K Q M2 (i1.mono f2) i2 k2 (L.mono (f1.trans f2))⟩
def dAnd (wa wb:De):De:=fun ρ μ K=>wa ρ μ fun x dX=>match x with | .bl c=>if c=true then wb ρ dX K else K (.bl false) dX | _=>False
def dNot (wa:De):De:=fun ρ μ K=>wa ρ μ fun x dX=>match x with | .bl c=>K (.bl (!c)) dX | _=>False
def CC {rest:List Expr}{wa wb:De}(ha:PD X a wa)(hb:PD X (.BoolOp .And (b::rest) pos) wb):PD X (.BoolOp .And (a::b::rest) pos) (dAnd wa wb):=(vi ha hb).imp fun σ H Q q=>by
 obtain⟨φ,ρ,μ,K,E,M,w,L⟩:=q
 refine⟨φ,ρ,μ,_,E,M,w,fun d1 dX eM v1 H1 k1 f1 M1 i1=>?_⟩
 cases d1 with
 | bl c =>
  cases(show v1=_ from i1)
  cases c with
  | true=>exact⟨eM,ρ,dX,_,E.mono f1,M1,k1,L.mono f1⟩
  | false=>exact L _ dX eM _ H1 k1 f1 M1 rfl
 | _=>exact k1.elim
def FZ {op}{w:De}(h:PD X a w):PD X (.BoolOp op [a] pos) w:=DY h
def d_not {wa:De}(ha:PD X a wa):PD X (.UnaryOp .Not a pos) (dNot wa):=(pe_notC ha).imp fun σ H Q q=>by
 obtain⟨φ,ρ,μ,K,E,M,w,L⟩:=q
 refine⟨φ,ρ,μ,_,E,M,w,fun d1 dX eM v1 H1 k1 f1 M1 i1=>?_⟩
 cases d1 with
 | bl c=>cases(show v1=_ from i1);exact L _ dX eM _ H1 k1 f1 M1 rfl
 | _=>exact k1.elim
def dNeg (wa:De):De:=fun ρ μ K=>wa ρ μ fun x dX=>match x with | .int i=>K (.int (-i)) dX | _=>False
def Ga {wa:De}(ha:PD X a wa):PD X (.UnaryOp .USub a pos) (dNeg wa):=(pe_un un_neg ha).imp fun σ H Q q=>by
 obtain⟨φ,ρ,μ,K,E,M,w,L⟩:=q
 refine⟨φ,ρ,μ,_,E,M,w,fun d1 dX eM v1 H1 k1 f1 M1 i1=>?_⟩
 cases d1 with
 | int c=>cases(show v1=_ from i1);exact⟨c,rfl,L _ dX eM _ H1 k1 f1 M1 rfl⟩
 | _=>exact k1.elim
def dtAnd (t u:Dt):Dt:=fun ρ μ K=>t ρ μ fun c dX=>if c=true then u ρ dX K else K false dX
def dtOr (t u:Dt):Dt:=fun ρ μ K=>t ρ μ fun c dX=>if c=true then K true dX else u ρ dX K
def dtNot (t:Dt):Dt:=fun ρ μ K=>t ρ μ fun c dX=>K (!c) dX
abbrev PDT (X:Cx)(e:Expr)(w:Dt):Prop:=PT X e (xM w)
def tDT_and {t u:Dt}{σ:St}{H:Hp}{Q:Bool->Hp->Prop}(h:xM (dtAnd t u) σ H Q):tAnd (xM t) (xM u) σ H Q:=by
 obtain⟨φ,ρ,μ,K,E,M,w,L⟩:=h
 refine⟨φ,ρ,μ,_,E,M,w,fun b dX eM H1 k1 f1 M1=>?_⟩
 cases b with
 | true=>exact⟨eM,ρ,dX,_,E.mono f1,M1,k1,fun b fw iN H2 k2 f2 M2=>L b fw iN H2 k2 (f1.trans f2) M2⟩
 | false=>exact L _ dX eM H1 k1 f1 M1
def tDT_or {t u:Dt}{σ:St}{H:Hp}{Q:Bool->Hp->Prop}(h:xM (dtOr t u) σ H Q):tOr (xM t) (xM u) σ H Q:=by
 obtain⟨φ,ρ,μ,K,E,M,w,L⟩:=h
 refine⟨φ,ρ,μ,_,E,M,w,fun b dX eM H1 k1 f1 M1=>?_⟩
 cases b with
 | false=>exact⟨eM,ρ,dX,_,E.mono f1,M1,k1,fun b fw iN H2 k2 f2 M2=>L b fw iN H2 k2 (f1.trans f2) M2⟩
 | true=>exact L _ dX eM H1 k1 f1 M1
abbrev PDW (X:Cx)(e:Expr)(w:Dt):Prop:=PW X e (xM w)
def PW.imp {e:Expr}{t t':TT}(h:PW X e t)(hi:∀ σ H Q,t' σ H Q->t σ H Q):PW X e t':=fun wh dg s σ H Q I q=>h wh dg s σ H Q I (hi σ H Q q)
def iP {t:Dt}(h:PDT X a t):PDW X (.BoolOp .And [a] pos) t:=pw_and1 h
def jN {t:Dt}(h:PDT X a t):PDW X (.BoolOp .Or [a] pos) t:=pw_or1 h
def kj {rest:List Expr}{t u:Dt}(ha:PDT X a t)(hb:PDW X (.BoolOp .And (b::rest) pos) u):PDW X (.BoolOp .And (a::b::rest) pos) (dtAnd t u):=(pw_and ha hb).imp fun σ H Q q=>tDT_and q
def nk {rest:List Expr}{t u:Dt}(ha:PDT X a t)(hb:PDW X (.BoolOp .Or (b::rest) pos) u):PDW X (.BoolOp .Or (a::b::rest) pos) (dtOr t u):=(pw_or ha hb).imp fun σ H Q q=>tDT_or q
def lg {t:Dt}(h:PDT X a t):PDT X (.UnaryOp .Not a pos) (dtNot t):=(pt_not h).imp fun σ H Q q=>by
 obtain⟨φ,ρ,μ,K,E,M,w,L⟩:=q
 exact⟨φ,ρ,μ,_,E,M,w,fun b dX eM H1 k1 f1 M1=>L _ dX eM H1 k1 f1 M1⟩
def dIf (t:Dt)(wa wb:De):De:=fun ρ μ K=>t ρ μ fun c dX=>if c=true then wa ρ dX K else wb ρ dX K
def xi {c:Expr}{t:Dt}{wa wb:De}(hc:PDT X c t)(ha:PD X a wa)(hb:PD X b wb):PD X (.IfExp c a b pos) (dIf t wa wb):=(pe_ifExp hc ha hb).imp fun σ H Q q=>by
 obtain⟨φ,ρ,μ,K,E,M,w,L⟩:=q
 refine⟨φ,ρ,μ,_,E,M,w,fun b dX eM H1 k1 f1 M1=>?_⟩
 cases b with
 | true=>exact⟨eM,ρ,dX,_,E.mono f1,M1,k1,L.mono f1⟩
 | false=>exact⟨eM,ρ,dX,_,E.mono f1,M1,k1,L.mono f1⟩
def d_isN {j pos'}{w:De}(h:PD X a w):PD X (.Compare a [.Is] [.Constant .none j pos'] pos) (dIsN false w):=(pe_cmp (pc_isN h)).imp fun σ H Q q=>tD_isN q
def d_notN {j pos'}{w:De}(h:PD X a w):PD X (.Compare a [.IsNot] [.Constant .none j pos'] pos) (dIsN true w):=(pe_cmp (Fs h)).imp fun σ H Q q=>EX q
def E5 {w:De}{t:TE}{σ:St}{H:Hp}{Q:Bool->Hp->Prop}(hi:∀ Q,tD w σ H Q->t σ H Q)(h:xM (qM w) σ H Q):tB t σ H Q:=by
 obtain⟨φ,ρ,μ,K,E,M,k,L⟩:=h
 refine hi _ ⟨φ,ρ,μ,_,E,M,k,fun d μ' eR v H' k' f M' i=>?_⟩
 cases d with
 | bl b=>cases(show v=_ from i);exact⟨b,rfl,L b μ' eR H' k' f M'⟩
 | _=>exact k'.elim
def t_isN {j pos'}{w:De}(h:PD X a w):PDT X (.Compare a [.Is] [.Constant .none j pos'] pos) (qM (dIsN false w)):=(zO (pc_isN h)).imp fun σ H Q q=>E5 (fun Q q=>tD_isN q) q
def yX {j pos'}{w:De}(h:PD X a w):PDT X (.Compare a [.IsNot] [.Constant .none j pos'] pos) (qM (dIsN true w)):=(zO (Fs h)).imp fun σ H Q q=>E5 (fun Q q=>EX q) q
end
structure DN where
 nx:DE->MS->Prop
 rt:DK
 bk:DE->MS->Prop:=fun _ _=>False
 ct:DE->MS->Prop:=fun _ _=>False
abbrev Ds:=DN->DE->MS->Prop
def LiS (φ:List Addr)(H:Hp)(k:DE->MS->Prop)(q:St->Hp->Prop):Prop:=∀ iO μ' eR gd H',k iO μ'->Fr φ H eR H'->i8 eR H' iO gd->eJ eR H' μ'->q gd H'
def LiS.mono {φ eM:List Addr}{H H1:Hp}{k:DE->MS->Prop}{q:St->Hp->Prop}(h:LiS φ H k q)(f:Fr φ H eM H1):LiS eM H1 k q:=fun iO μ' eR gd H' a b c d=>h iO μ' eR gd H' a (f.trans b) c d
structure LiN (φ:List Addr)(H:Hp)(N:DN)(E:Ends):Prop where
 nx:LiS φ H N.nx E.nx
 rt:tZ φ H N.rt E.rt
 bk:LiS φ H N.bk E.bk
 ct:LiS φ H N.ct E.ct
def LiN.mono {φ eM:List Addr}{H H1:Hp}{N:DN}{E:Ends}(h:LiN φ H N E)(f:Fr φ H eM H1):LiN eM H1 N E:=⟨h.nx.mono f,h.rt.mono f,h.bk.mono f,h.ct.mono f⟩
def tDS (w:Ds):TS:=fun E σ H=>∃ φ ρ μ N,i8 φ H ρ σ/\eJ φ H μ/\w N ρ μ/\LiN φ H N E
abbrev xA (X:Cx)(st:Stmt)(w:Ds):Prop:=PS X st (tDS w)
abbrev EE (X:Cx)(st:List Stmt)(w:Ds):Prop:=AV X st (tDS w)
section
variable {X:Cx}{a b e:Expr}{es:List Expr}{pos:Pos}{st:Stmt}{rest:List Stmt}
def dNx:Ds:=fun N ρ μ=>N.nx ρ μ
def dSeq (t u:Ds):Ds:=fun N ρ μ=>t { N with nx:=fun iO μ'=>u N iO μ'} ρ μ
def dCut (t u:Ds):Ds:=fun N ρ μ=>∃ M:DE->MS->Prop,t { N with nx:=M} ρ μ/\∀ iO μ',M iO μ'->u N iO μ'
def eQ:EE X [] dNx:=mi.imp fun E σ H rY=>by obtain⟨φ,ρ,μ,N,A,M,w,L⟩:=rY;exact L.nx ρ μ φ σ H w (.refl _ _) A M
def du {t u:Ds}(h1:xA X st t)(h2:EE X rest u):EE X (st::rest) (dSeq t u):=(gg h1 h2).imp fun E σ H ⟨φ,ρ,μ,N,A,M,w,L⟩ =>
 ⟨φ,ρ,μ,_,A,M,w,⟨fun iO μ' eR gd H' k f A' M'=>⟨eR,iO,μ',N,A',M',k,L.mono f⟩,L.rt,L.bk,L.ct⟩⟩
def CO {t u:Ds}(h1:xA X st t)(h2:EE X rest u):EE X (st::rest) (dCut t u):=(gg h1 h2).imp fun E σ H ⟨φ,ρ,μ,N,A,M,⟨P,w1,w2⟩,L⟩ =>
 ⟨φ,ρ,μ,_,A,M,w1,⟨fun iO μ' eR gd H' k f A' M'=>⟨eR,iO,μ',N,A',M',w2 iO μ' k,L.mono f⟩,L.rt,L.bk,L.ct⟩⟩
def dD {t:Ds}(h:xA X st t):EE X [st] t:=jB h
def dExpr (w:De):Ds:=fun N ρ μ=>w ρ μ fun _ μ'=>N.nx ρ μ'
def gC {w:De}(h:PD X e w)(hs:swapsWith e none pos.line X.env=pure false:=by rfl):xA X (.Expr e pos) (dExpr w):=(ps_expr h hs).imp fun E σ H qJ=>by obtain⟨φ,ρ,μ,N,A,M,w,L⟩:=qJ;exact⟨φ,ρ,μ,_,A,M,w,fun d dX eM v1 H1 k1 f1 M1 i1=>L.nx ρ dX eM σ H1 k1 f1 (A.mono f1) M1⟩
def dRet (w:De):Ds:=fun N ρ μ=>w ρ μ N.rt
def dY {w:De}(h:PD X e w):xA X (.Return (some e) pos) (dRet w):=(mC h).imp fun E σ H qm=>by obtain⟨φ,ρ,μ,N,A,M,w,L⟩:=qm;exact⟨φ,ρ,μ,_,A,M,w,L.rt⟩
def dIfS (c:Dt)(t u:Ds):Ds:=fun N ρ μ=>c ρ μ fun b dX=>if b=true then t N ρ dX else u N ρ dX
def fA {c:Expr}{body orelse:List Stmt}{t:Dt}{u v:Ds}(hc:PDT X c t)(h1:EE X body u)(h2:EE X orelse v):xA X (.If c body orelse pos) (dIfS t u v):=(ug hc h1 h2).imp fun E σ H ⟨φ,ρ,μ,N,A,M,w,L⟩ =>
 ⟨φ,ρ,μ,_,A,M,w,fun b dX eM H1 k1 f1 M1=>by
  cases b with
  | true=>exact⟨eM,ρ,dX,N,A.mono f1,M1,k1,L.mono f1⟩
  | false=>exact⟨eM,ρ,dX,N,A.mono f1,M1,k1,L.mono f1⟩⟩
def dSet (i:Nat)(w:De):Ds:=fun N ρ μ=>w ρ μ fun d μ'=>N.nx (ρ.set i (some d)) μ'
def s_set {i:Nat}{x:Str}{w:De}{pos':Pos}(hN:X.N.Nodup)(hi:X.N[i]?=some x)(hx:Loc X.env.scope x)(he:PD X e w)(hf:X.fn x=true\/X.env.scope.names.lookup x=some .local:=by first | exact .inl rfl | exact .inr rfl | assumption)
 (hsw:swapsWith e (some (.Name x pos')) pos.line X.env=pure false:=by rfl):xA X (.Assign [.Name x pos'] e pos) (dSet i w):=(tw (pos:=pos) (pos':=pos') hN hi hx he hsw hf).imp fun E σ H ⟨φ,ρ,μ,N,A,M,w,L⟩ =>
 ⟨φ,ρ,μ,_,A,M,w,fun d dX eM v1 H1 k1 f1 M1 i1=>L.nx _ dX eM _ H1 k1 f1 ((A.mono f1).set i1 i) M1⟩
abbrev DG:=D->DE->MS->(DE->MS->Prop)->Prop
abbrev DGs:=List D->DE->MS->(DE->MS->Prop)->Prop
def SoG (g:TG)(w:DG)(S:List Nat):Prop:=∀ φ H ρ σ μ d v K,i8 φ H ρ σ->eJ φ H μ->iL φ H d v->w d ρ μ K->g v σ H fun mP H2=>H2=H/\mP.length=σ.length/\(∀ i,i∉S->mP[i]?=σ[i]?)/\∃ kT,i8 φ H kT mP/\K kT μ
def SoGs (g:yS)(w:DGs)(S:List Nat):Prop:=∀ φ H ρ σ μ ds vs K,i8 φ H ρ σ->eJ φ H μ->d7 φ H ds vs->w ds ρ μ K->g vs σ H fun mP H2=>H2=H/\mP.length=σ.length/\(∀ i,i∉S->mP[i]?=σ[i]?)/\∃ kT,i8 φ H kT mP/\K kT μ
def ng (g:TG):Prop:=∀ v σ H Q Q',(∀ gd H',Q gd H'->Q' gd H')->g v σ H Q->g v σ H Q'
def xB (g:yS):Prop:=∀ v σ H Q Q',(∀ gd H',Q gd H'->Q' gd H')->g v σ H Q->g v σ H Q'
def Ax (i:Nat):DG:=fun d ρ μ K=>K (ρ.set i (some d)) μ
def dgTup (n:Nat)(t:DGs):DG:=fun d ρ μ K=>match d with | .tup ds=>ds.length=n/\t ds ρ μ K | _=>False
def dgCons (t:DG)(u:DGs):DGs:=fun ds ρ μ K=>match ds with | d::r=>t d ρ μ fun iO μ'=>u r iO μ' K | []=>False
def dgNil:DGs:=fun ds ρ μ K=>match ds with | []=>K ρ μ | _=>False
def dQ (i:Nat):SoG (r6 i) (Ax i) [i]:=fun φ H ρ σ μ d v K E M h w=>⟨rfl,aL,fun j hj=>av (fun z=>hj (by simp[z])),_,E.set h i,w⟩
def dk (i:Nat):ng (r6 i):=fun v σ H Q Q' h q=>h _ _ q
def gT:SoGs cNil dgNil []:=fun φ H ρ σ μ ds vs K E M h w=>by
 cases ds with
 | nil=>cases(show vs=[]from h);exact⟨rfl,rfl,fun _ _=>rfl,ρ,E,w⟩
 | cons d r=>exact w.elim
def dP:xB cNil:=fun v σ H Q Q' h q=>by
 cases v with
 | nil=>exact h _ _ q
 | cons x r=>exact q
def dz {g:TG}{u:yS}(h1:ng g)(h2:xB u):xB (cCons g u):=fun v σ H Q Q' h q=>by
 cases v with
 | nil=>exact q
 | cons x r=>exact h1 _ _ _ _ _ (fun gd H' q'=>h2 _ _ _ _ _ h q') q
def gV {n:Nat}{u:yS}(h2:xB u):ng (cTup n u):=fun v σ H Q Q' h q=>by
 cases v with
 | ref a=>obtain⟨xs,e,l,q⟩:=q;exact⟨xs,e,l,h2 _ _ _ _ _ h q⟩
 | _=>exact q
def dU {g:TG}{u:yS}{w:DG}{y:DGs}{S T:List Nat}(h1:SoG g w S)(m1:ng g)(h2:SoGs u y T)(m2:xB u):SoGs (cCons g u) (dgCons w y) (S++T):=fun φ H ρ σ μ ds vs K E M h k=>by
 cases ds with
 | nil=>exact k.elim
 | cons d r =>
  obtain⟨v,vr,rfl,hd,hr⟩:=h
  refine m1 _ _ _ _ _ (fun Bc H1 qY=>?_) (h1 φ H ρ σ μ d v _ E M hd k)
  obtain⟨e1,l1,n1,ρ1,E1,k1⟩:=qY
  subst e1
  refine m2 _ _ _ _ _ (fun mP H2 oK=>?_) (h2 φ H1 ρ1 Bc μ r vr K E1 M hr k1)
  obtain⟨e2,l2,n2,kT,E2,k2⟩:=oK
  refine⟨e2,l2.trans l1,fun i hi=>?_,kT,E2,k2⟩
  rw[n2 i (fun z=>hi (aH _ z)),n1 i (fun z=>hi (bU _ z))]
def gS {n:Nat}{u:yS}{y:DGs}{S:List Nat}(h2:SoGs u y S):SoG (cTup n u) (dgTup n y) S:=fun φ H ρ σ μ d v K E M h k=>by
 cases d with
 | tup ds =>
  obtain⟨p,vs,rfl,hn,hp,ha⟩:=h
  exact⟨vs,hp,by rw[ha.len];exact k.1,h2 φ H ρ σ μ ds vs K E M ha k.2⟩
 | _=>exact k.elim
structure Tg (X:Cx)(tg:Expr)(g:TG)(w:DG)(S:List Nat):Prop where
 pg:PG X tg g
 so:SoG g w S
 mo:ng g
def dAsg (w:De)(g:DG):Ds:=fun N ρ μ=>w ρ μ fun d dX=>g d ρ dX N.nx
def jy {tg:Expr}{w:De}{g:TG}{y:DG}{S:List Nat}(he:PD X e w)(hg:Tg X tg g y S)(hs:swapsWithSole [tg] e pos.line X.env=pure false:=by rfl)(hw:swappedStores [tg] e X.env=pure none:=by rfl)
 (h1:(assignEach [tg] X.env).map (·.2)=[assign tg X.env]:=by rfl):xA X (.Assign [tg] e pos) (dAsg w y):=(tE he hg.pg hs hw h1).imp fun E σ H ⟨φ,ρ,μ,N,A,M,w,L⟩ =>
 ⟨φ,ρ,μ,_,A,M,w,fun d dX eM v1 H1 k1 f1 M1 i1=>hg.mo _ _ _ _ _ (fun mP H2 ⟨e2,_,_,kT,E2,k2⟩=>by subst e2;exact L.nx kT dX eM mP _ k2 f1 E2 M1) (hg.so eM H1 ρ σ dX d v1 _ (A.mono f1) M1 i1 k1)⟩
def SoSet (t:EC)(w:D->D->D->MS->(MS->Prop)->Prop):Prop:=∀ φ H o i v dO di d μ K Q,eJ φ H μ->iL φ H dO o->iL φ H di i->iL φ H d v->w dO di d μ K->(∀ μ' H',K μ'->Fr φ H φ H'->eJ φ H' μ'->Q H')->t o i v H Q
def dsetL:D->D->D->MS->(MS->Prop)->Prop:=fun o i d μ K=>match o,i with
 | .mr k,.int j=>opt (Ag μ k) fun ds=>opt (ixN ds.length j) fun n=>K (μ.set k (.lst (ds.set n d)))
 | _,_=>False
def so_set:SoSet rSetC dsetL:=fun φ H o i v dO di d μ K Q M hO hi hd w q=>by
 unfold dsetL at w
 split at w
 ·rename_i k j
  obtain⟨ds,em,w⟩:=gD w
  have em:=qE em
  obtain⟨p,hp,rfl⟩:=hO
  cases(show i=_ from hi)
  obtain⟨p',e1,vs,hv,ha⟩:=M.at_ k _ em
  rw[hp]at e1;cases e1
  obtain⟨n,en,w⟩:=gD w
  refine⟨vs,hv,dn (v:=n) (by rw[ha.len];exact en) ?_⟩
  have f:Fr φ H φ (upd H p (.lst (vs.set n v))):=.put (Ak hp)
  exact q _ _ w f (M.put hp ⟨_,dW,(ha.set hd n).mono f⟩)
 ·exact w.elim
def dAsgS (w wo wi:De):Ds:=fun N ρ μ=>w ρ μ fun d dX=>wo ρ dX fun o fw=>wi ρ fw fun i oI=>dsetL o i d oI fun ET=>N.nx ρ ET
def s_asgS {o i:Expr}{w wo wi:De}{pos':Pos}(he:PD X e w)(ho:PD X o wo)(hi:PD X i wi)
 (ha:∀ v,assign (.Subscript o i pos') X.env v=(do
   let ov <- holding [v] (eval o X.env)
   let iv <- holding [v,ov] (eval i X.env)
   standAt pos'
   holding [v,ov,iv] (setItem ov iv v)
   release [v,ov,iv] []):=by intro _;rfl) (hs:swapsWithSole [.Subscript o i pos'] e pos.line X.env=pure false:=by rfl) (hw:swappedStores [.Subscript o i pos'] e X.env=pure none:=by rfl)
 (h1:(assignEach [.Subscript o i pos'] X.env).map (·.2)=[assign (.Subscript o i pos') X.env]:=by rfl):xA X (.Assign [.Subscript o i pos'] e pos) (dAsgS w wo wi):=(tE he (wm ho hi setC ha) hs hw h1).imp fun E σ H hq=>by
 obtain⟨φ,ρ,μ,N,A,M,w,L⟩:=hq
 refine⟨φ,ρ,μ,_,A,M,w,fun d dX eM v1 H1 k1 f1 M1 i1=>?_⟩
 refine⟨eM,ρ,dX,_,A.mono f1,M1,k1,fun d2 fw iN v2 H2 k2 f2 M2 i2=>?_⟩
 refine⟨iN,ρ,fw,_,A.mono (f1.trans f2),M2,k2,fun d3 oI yU v3 H3 k3 f3 M3 i3=>?_⟩
 exact so_set yU H3 _ _ _ d2 d3 d oI _ _ M3 (i2.mono f3) i3 (i1.mono (f2.trans f3)) k3 fun μ' H' k4 f4 M4=>L.nx ρ μ' yU σ H' k4 ((f1.trans (f2.trans f3)).trans f4) (A.mono ((f1.trans (f2.trans f3)).trans f4)) M4
def SoIp (t:TIp)(ro:uY):Prop:=∀ φ H x y dx dy μ K Q,eJ φ H μ->iL φ H dx x->iL φ H dy y->ro dx dy μ K->tZ φ H K Q->t x y H Q
def dAug (i:Nat)(w:De)(ro:uY):Ds:=fun N ρ μ=>match ρ[i]? with | some (some x)=>w ρ μ fun y dX=>ro x y dX fun z fw=>N.nx (ρ.set i (some z)) fw | _=>False
def s_aug {i:Nat}{x:Str}{w:De}{op:Operator}{ti:TIp}{ro:uY}{pos':Pos}(hN:X.N.Nodup)(hi:X.N[i]?=some x)(hx:Loc X.env.scope x)(he:PD X e w)(ho:PIp X op ti)(so:SoIp ti ro)(hf:X.fn x=true\/X.env.scope.names.lookup x=some .local:=by first | exact .inl rfl | exact .inr rfl | assumption) :
 xA X (.AugAssign (.Name x pos') op e pos) (dAug i w ro):=(ps_aug (pos:=pos) (pos':=pos') hN hi hx he ho hf).imp fun E σ H hq=>by
 obtain⟨φ,ρ,μ,N,A,M,w,L⟩:=hq
 unfold dAug at w
 split at w
 ·rename_i d hd
  obtain⟨v,hv,hdv⟩:=A.2 i d hd
  refine⟨v,hv,φ,ρ,μ,_,A,M,w,fun d1 dX eM v1 H1 k1 f1 M1 i1=>?_⟩
  exact so eM H1 _ _ d d1 dX _ _ M1 (hdv.mono f1) i1 k1 fun d2 fw iN v2 H2 k2 f2 M2 i2=>L.nx _ fw iN _ H2 k2 (f1.trans f2) ((A.mono (f1.trans f2)).set i2 i) M2
 ·exact w.elim
def dWhile (c:Dt)(b:Ds):Ds:=fun N ρ μ=>∃ W:Nat->DE->MS->Prop,(∃ m,W m ρ μ)/\∀ m ρ μ,W m ρ μ ->
 c ρ μ fun t dX=>if t=true then b { N with nx:=fun iO μ'=>∃ m',m'<m/\W m' iO μ',ct:=fun iO μ'=>∃ m',m'<m/\W m' iO μ',bk:=N.nx} ρ dX else N.nx ρ dX
def Fd {c:Expr}{body:List Stmt}{t:Dt}{u:Ds}(hp:PassesOwn (model X.prog X.w) X.A X.env X.xe)(hc:PDT X c t)(hb:EE X body u):xA X (.While c body [] pos) (dWhile t u):=(ps_while hp hc hb).imp fun E σ H ⟨φ,ρ,μ,N,A,M,⟨W,⟨m0,w0⟩,turn⟩,L⟩=>by
 refine⟨fun m gd H'=>∃ eR iO μ',Fr φ H eR H'/\i8 eR H' iO gd/\eJ eR H' μ'/\W m iO μ',⟨m0,φ,ρ,μ,.refl _ _,A,M,w0⟩,?_⟩
 rintro m gd H' ⟨eR,iO,μ',f',A',M',w'⟩
 refine⟨eR,iO,μ',_,A',M',turn m iO μ' w',fun b dX eM H1 k1 f1 M1=>?_⟩
 cases b with
 | true =>
  refine⟨fun mP H2=>∃ m',m'<m/\∃ iN kT fw,Fr φ H iN H2/\i8 iN H2 kT mP/\eJ iN H2 fw/\W m' kT fw,fun mP H2 q=>q,eM,iO,dX,_,A'.mono f1,M1,k1,?_⟩
  have nx:LiS eM H1 (fun iO μ'=>∃ m',m'<m/\W m' iO μ') fun mP H2=>∃ m',m'<m/\∃ iN kT fw,Fr φ H iN H2/\i8 iN H2 kT mP/\eJ iN H2 fw/\W m' kT fw:=fun kT fw iN mP H2 ⟨m',hm,w2⟩ f2 A2 M2=>⟨m',hm,iN,kT,fw,(f'.trans f1).trans f2,A2,M2,w2⟩
  exact⟨nx,L.rt.mono (f'.trans f1),L.nx.mono (f'.trans f1),nx⟩
 | false=>exact L.nx iO dX eM gd H1 k1 (f'.trans f1) (A'.mono f1) M1
def Wk (J:It)(φ:List Addr)(H:Hp)(ds:List D)(c:MS->Prop):Prop:=∀ eR H' μ',Fr φ H eR H'->eJ eR H' μ'->c μ'->∀ i,
 (∀ d,ds[i]?=some d->J.go i H'/\∀ x H'',J.yld i H' x H''->Fr eR H' eR H''/\eJ eR H'' μ'/\iL eR H'' d x)/\(i=ds.length->J.stop i H')
abbrev DI:=DE->MS->(List D->(MS->Prop)->MS->Prop)->Prop
def tDI (w:DI):TI:=fun σ H R=>∃ φ ρ μ K,i8 φ H ρ σ/\eJ φ H μ/\w ρ μ K/\∀ ds c μ' eR J H',K ds c μ'->Fr φ H eR H'->eJ eR H' μ'->Wk J eR H' ds c->R J H'
abbrev ED (X:Cx)(tg iter:Expr)(w:DI):Prop:=PI X tg iter (tDI w)
def PI.imp {tg iter:Expr}{t t':TI}(h:PI X tg iter t)(hi:∀ σ H Q,t' σ H Q->t σ H Q):PI X tg iter t':=fun dg s σ H Q I q=>h dg s σ H Q I (hi σ H Q q)
def ya (g:DG)(b:Ds)(N:DN)(c:MS->Prop):List D->DE->MS->Prop
 | [],ρ,μ=>c μ/\N.nx ρ μ
 | d::ds,ρ,μ=>c μ/\g d ρ μ fun kT fw=>b { N with nx:=fun iO μ'=>ya g b N c ds iO μ',ct:=fun iO μ'=>ya g b N c ds iO μ',bk:=N.nx} kT fw
def dFor (wi:DI)(g:DG)(b:Ds):Ds:=fun N ρ μ=>wi ρ μ fun ds c dX=>ya g b N c ds ρ dX
def ud {tg iter:Expr}{body:List Stmt}{wi:DI}{g:TG}{y:DG}{S:List Nat}{u:Ds}(hp:PassesOwn (model X.prog X.w) X.A X.env X.xe)(hc:X.calm=true)(hi:ED X tg iter wi)(hg:Tg X tg g y S)(hb:EE X body u)
 (hs:∀ x,foldedSetIterable iter X.env x=pure x:=by intro _;rfl):xA X (.For tg iter body [] pos) (dFor wi y u):=(ps_for hp hc hi hg.pg hb hs).imp fun E σ H hq=>by
 obtain⟨φ,ρ,μ,N,A,M,w,L⟩:=hq
 refine⟨φ,ρ,μ,_,A,M,w,fun ds c dX eM J H1 k1 f1 M1 wk=>?_⟩
 refine⟨fun i m gd H'=>m=ds.length - i/\i<=ds.length/\∃ eR iO μ',Fr eM H1 eR H'/\i8 eR H' iO gd/\eJ eR H' μ'/\ya y u N c (ds.drop i) iO μ',⟨ds.length,rfl,aY _,eM,ρ,dX,.refl _ _,A.mono f1,M1,k1⟩,?_⟩
 rintro i m gd H' ⟨rfl,hi,eR,iO,μ',f',A',M',w'⟩
 by_cases sU:i<ds.length
 ·rw[cN sU]at w'
  obtain⟨c',w'⟩:=w'
  obtain⟨go,yld⟩:=(wk eR H' μ' f' M' c' i).1 ds[i] (ux sU)
  refine .inr ⟨go,fun mP H2=>∃ iN kT fw,Fr eM H1 iN H2/\i8 iN H2 kT mP/\eJ iN H2 fw/\ya y u N c (ds.drop (i+1)) kT fw,fun mP H2 q=>⟨ds.length - (i+1),by omega,rfl,sU,q⟩,fun x H2 hy=>?_⟩
  obtain⟨f2,M2,i2⟩:=yld x H2 hy
  refine hg.mo _ _ _ _ _ (fun ES H3 qm=>?_) (hg.so eR H2 iO gd μ' _ x _ (A'.mono f2) M2 i2 w')
  obtain⟨e3,_,_,ρ3,E3,k3⟩:=qm
  subst e3
  refine⟨eR,ρ3,μ',_,E3,M2,k3,?_⟩
  have nx:LiS eR H3 (fun iO μ'=>ya y u N c (ds.drop (i+1)) iO μ') fun mP H2=>∃ iN kT fw,Fr eM H1 iN H2/\i8 iN H2 kT mP/\eJ iN H2 fw/\ya y u N c (ds.drop (i+1)) kT fw:=fun kT fw iN mP H2 w2 g2 A2 N2=>⟨iN,kT,fw,(f'.trans f2).trans g2,A2,N2,w2⟩
  have ff:=f1.trans (f'.trans f2)
  exact⟨nx,L.rt.mono ff,L.nx.mono ff,nx⟩
 ·have e:i=ds.length:=by omega
  subst e
  rw[List.drop_length]at w'
  exact .inl ⟨(wk eR H' μ' f' M' w'.1 _).2 rfl,L.nx iO μ' eR gd H' w'.2 (f1.trans f') A' M'⟩
end
def nr (js:List (Option Nat))(ρ:DE):DE:=js.map fun o=>o.bind fun j=>(ρ[j]?).join
def i8.fL {φ:List Addr}{H:Hp}{ρ:DE}{σ:St}(h:i8 φ H ρ σ)(js:List (Option Nat)):i8 φ H (nr js ρ) (fL js σ):=by
 refine⟨by unfold nr L2.fL;rw[fF,fF],fun i d e=>?_⟩
 unfold nr at e
 rw[uw]at e
 unfold L2.fL
 rw[uw]
 cases q:js[i]? with
 | none=>rw[q]at e;cases e
 | some o =>
  rw[q]at e
  cases o with
  | none=>cases e
  | some j =>
   have e':(ρ[j]?).join=some d:=aN e
   have e2:ρ[j]?=some (some d):=by
    cases z:ρ[j]? with
    | none=>rw[z]at e';cases e'
    | some y=>rw[z]at e';have:y=some d:=e';rw[this]
   obtain⟨v,hv,hd⟩:=h.2 j d e2
   refine⟨v,?_,hd⟩
   show some ((σ[j]?).join)=_
   rw[hv];rfl
def dItem (ρ:DE)(y:DG)(t:Dt)(w:De)(d:D)(μ:MS)(K:Option D->MS->Prop):Prop:=y d ρ μ fun kT fw=>t kT fw fun b oI=>if b=true then w kT oI (fun z ET=>K (some z) ET)else K none oI
def sD (it:D->MS->(Option D->MS->Prop)->Prop)(c:MS->Prop):List D->MS->(List D->MS->Prop)->Prop
 | [],μ,K=>c μ/\K [] μ
 | d::ds,μ,K=>c μ/\it d μ fun o dX=>sD it c ds dX fun ys fw=>K (o.toList++ys) fw
def pf (S:List Nat)(js:List (Option Nat)):Bool:=S.all fun i=>js[i]?==some none
def ext_of {js:List (Option Nat)}{σ mP:St}{S:List Nat}(ho:pf S js=true)(hl:mP.length=(fL js σ).length)(hn:∀ i,i∉S->mP[i]?=(fL js σ)[i]?):Ext (fL js σ) mP:=by
 refine⟨hl.symm,fun i v e=>?_⟩
 by_cases hi:i∈S
 ·have q:=List.all_eq_true.mp ho i hi
  have q':js[i]?=some none:=by simpa using q
  obtain⟨j,e1,_⟩:=wQ e
  rw[q']at e1;cases e1
 ·rw[hn i hi];exact e
def uB (m:Bool)(wi:DI)(js:List (Option Nat))(y:DG)(t:Dt)(w:De):De:=fun ρ μ K=>wi ρ μ fun ds c dX=>ds.length<=sizeLine/\sD (dItem (nr js ρ) y t w) c ds dX fun ys fw=>nL m ys fw K
def yY {m:Bool}{wi:DI}{js:List (Option Nat)}{g:TG}{y:DG}{S:List Nat}{t:Dt}{w:De}(so:SoG g y S)(mo:ng g)(ho:pf S js=true){σ:St}{H:Hp}{Q:VK}(h:tD (uB m wi js y t w) σ H Q):E4 (tDI wi) js g (xM t) (tD w) σ H Q:=by
 obtain⟨φ,ρ,μ,K,A,M,k,L⟩:=h
 refine⟨φ,ρ,μ,_,A,M,k,fun ds c dX eM J H1 k1 f1 M1 wk=>?_⟩
 obtain⟨hz,k1⟩:=k1
 refine⟨fun i n ys H'=>n=ds.length - i/\i<=ds.length/\ys.length<=i/\∃ eR zs μ',Fr eM H1 eR H'/\d7 eR H' zs ys/\eJ eR H' μ'/\sD (dItem (nr js ρ) y t w) c (ds.drop i) μ' fun r fw=>nL m (zs++r) fw K,
  ⟨ds.length,rfl,aY _,aY _,eM,[],dX,.refl _ _,rfl,M1,k1⟩,?_⟩
 rintro i n ys H' ⟨rfl,hi,hy,eR,zs,μ',f',Z',M',w'⟩
 by_cases sU:i<ds.length
 ·rw[cN sU]at w'
  obtain⟨c',w'⟩:=w'
  obtain⟨go,yld⟩:=(wk eR H' μ' f' M' c' i).1 ds[i] (ux sU)
  refine .inr ⟨go,fun x H2 hy2=>?_⟩
  obtain⟨f2,M2,i2⟩:=yld x H2 hy2
  have E2:i8 eR H2 (nr js ρ) (fL js σ):=((A.mono (f1.trans (f'.trans f2))).fL js)
  refine mo _ _ _ _ _ (fun ES H3 qY=>?_) (so eR H2 _ _ μ' _ x _ E2 M2 i2 w')
  obtain⟨e3,l3,n3,ρ3,E3,k3⟩:=qY
  refine⟨ext_of ho l3 n3,?_⟩
  subst e3
  refine⟨eR,ρ3,μ',_,E3,M2,k3,fun b ET φ4 H4 k4 f4 M4=>?_⟩
  have ff:=f'.trans (f2.trans f4)
  cases b with
  | true =>
   refine⟨φ4,ρ3,ET,_,E3.mono f4,M4,k4,fun d5 μ5 φ5 v5 H5 k5 f5 M5 i5=>⟨by omega,ds.length - (i+1),by omega,rfl,sU,by rw[lx,aU];omega,φ5,zs++[d5],μ5,ff.trans f5,(Z'.mono (f2.trans (f4.trans f5))).app ⟨v5,[],rfl,i5,rfl⟩,M5,?_⟩⟩
   have e:(fun r fw=>nL m (zs++[d5]++r) fw K)=fun r fw=>nL m (zs++((some d5).toList++r)) fw K:=by funext r fw;rw[aM];rfl
   rw[e]
   exact k5
  | false =>
   exact⟨ds.length - (i+1),by omega,rfl,sU,by omega,φ4,zs,ET,ff,Z'.mono (f2.trans f4),M4,k4⟩
 ·have e:i=ds.length:=by omega
  subst e
  rw[List.drop_length]at w'
  refine .inl ⟨(wk eR H' μ' f' M' w'.1 _).2 rfl,fun p hp=>?_⟩
  have q:nL m (zs++[]) μ' K:=w'.2
  rw[aQ]at q
  exact Ez (L.mono (f1.trans f')) M' Z' q hp
section
variable {X:Cx}{a b e:Expr}{es:List Expr}{pos:Pos}
variable {N:List Str}{js:List (Option Nat)}{sc:Scope}{tg elt iter:Expr}{ifs:List Expr}{g:TG}{y:DG}{S:List Nat}{t:Dt}{w:De}
abbrev yf (X:Cx)(ifs:List Expr)(t:Dt):Prop:=PTs X ifs (xM t)
def PTs.imp {ifs:List Expr}{t t':TT}(h:PTs X ifs t)(hi:∀ σ H Q,t' σ H Q->t σ H Q):PTs X ifs t':=fun dg s σ H Q I q=>h dg s σ H Q I (hi σ H Q q)
def dYes:Dt:=fun _ μ K=>K true μ
def kr:yf X [] dYes:=Fl.imp fun σ H Q oK=>by obtain⟨φ,ρ,μ,K,A,M,k,L⟩:=oK;exact L true μ φ H k (.refl _ _) M
def sV {c:Expr}(h:PDT X c t):yf X [c] t:=pts_one h
def d_comp (m:Bool){wi:DI}(hc:ip X N js sc)(calm:X.calm=true)(so:SoG g y S)(mo:ng g)(ho:pf S js=true)(hi:ED X tg iter wi)(hg:∀ fp s H,PG (kZ X N sc fp s H) tg g)(ht:∀ fp s H,yf (kZ X N sc fp s H) ifs t)(he:∀ fp s H,PD (kZ X N sc fp s H) elt w)
 (hs:∀ x,foldedSetIterable iter X.env x=pure x:=by intro _;rfl):PD X (.ListComp elt [⟨tg,iter,ifs,0⟩] sc pos) (uB m wi js y t w):=(Fp hc calm hi hg ht he hs).imp fun σ H Q q=>yY so mo ho q
def s_setComp (m:Bool){wi:DI}{pos' vM:Pos}{i:Nat}{x:Str}(hc:ip X N js sc)(calm:X.calm=true)(so:SoG g y S)(mo:ng g)(ho:pf S js=true)(hN:X.N.Nodup)(B8:X.N[i]?=some x)(hx:Loc X.env.scope x)(hi:ED X tg iter wi)(hg:∀ fp s H,PG (kZ X N sc fp s H) tg g)
 (ht:∀ fp s H,yf (kZ X N sc fp s H) ifs t) (he:∀ fp s H,PD (kZ X N sc fp s H) elt w) (hsw:swapsWith (.ListComp elt [⟨tg,iter,ifs,0⟩] sc pos) (some (.Name x pos')) vM.line X.env=pure true:=by rfl)
 (hs:∀ x,foldedSetIterable iter X.env x=pure x:=by intro _;rfl) (hf:X.fn x=true\/X.env.scope.names.lookup x=some .local:=by first | exact .inl rfl | exact .inr rfl | assumption) :
 xA X (.Assign [.Name x pos'] (.ListComp elt [⟨tg,iter,ifs,0⟩] sc pos) vM) (dSet i (uB m wi js y t w)):=(DU hc calm hN B8 hx hi hg ht he hsw hs hf).imp fun E σ H ⟨φ,ρ,μ,N,A,M,w,L⟩ =>
 yY so mo ho ⟨φ,ρ,μ,_,A,M,w,fun d dX eM v1 H1 k1 f1 M1 i1=>L.nx _ dX eM _ H1 k1 f1 ((A.mono f1).set i1 i) M1⟩
def dItL (w:De):DI:=fun ρ μ K=>w ρ μ fun d dX=>opt (lv dX d) fun ds=>K ds (lc d ds) dX
def wk_list {Kf:aa}{p:Addr}{φ:List Addr}{H:Hp}{ds:List D}{c:MS->Prop}(h:∀ eR H' μ',Fr φ H eR H'->eJ eR H' μ'->c μ'->∃ vs,H' p=some (.lst vs)/\d7 eR H' ds vs):Wk (Itl Kf p) φ H ds c:=fun eR H' μ' f M c' i=>by
 obtain⟨vs,hp,ha⟩:=h eR H' μ' f M c'
 refine⟨fun d hd=>?_,fun hi=>⟨vs,pS.of hp,by rw[ha.len,hi];exact ah _⟩⟩
 obtain⟨v,hv,hi⟩:=ha.get hd
 refine⟨⟨vs,v,pS.of hp,hv⟩,fun x H'' hy=>?_⟩
 obtain⟨rfl,hy⟩:=hy
 have e:=hy vs (pS.of hp)
 rw[hv]at e;cases e
 exact⟨.refl _ _,M,hi⟩
def i_list {w:De}(h:PD X a w):ED X tg a (dItL w):=(pi_list h).imp fun σ H Q hq=>by
 obtain⟨φ,ρ,μ,K,A,M,k,L⟩:=hq
 refine⟨φ,ρ,μ,_,A,M,k,fun d dX eM v1 H1 k1 f1 M1 i1=>?_⟩
 obtain⟨ds,el,k1⟩:=gD k1
 obtain⟨p,vs,rfl,hp,ha⟩:=qu M1 i1 el
 exact⟨p,rfl,⟨vs,pS.of hp⟩,L ds _ dX eM _ H1 k1 f1 M1 (wk_list fun eR H' μ' f M c=>lv_stay M1 i1 el f M c)⟩
def kN (lo:Int)(n:Nat):List D:=(List.range n).map fun i=>D.int (lo+(i:Nat))
def Bd {lo:Int}{n:Nat}{φ:List Addr}{H:Hp}:Wk (Itr lo n) φ H (kN lo n) fun _=>True:=fun eR H' μ' f M _ i=>by
 have hl:(kN lo n).length=n:=by unfold kN;rw[fF,gxJ]
 refine⟨fun d hd=>?_,fun hi=>by rw[hl]at hi;exact Nat.le_of_eq hi.symm⟩
 have hi:i<n:=by have:=(lK hd).1;omega
 refine⟨hi,fun x H'' hy=>?_⟩
 obtain⟨rfl,rfl⟩:=hy
 refine⟨.refl _ _,M,?_⟩
 unfold kN at hd
 rw[uw,cO hi]at hd
 cases hd
 rfl
def dItR1 (w:DA):DI:=fun ρ μ K=>w ρ μ fun ds dX=>match ds with
 | [.int j] => -(2 ^ 62)<=j/\j<2 ^ 62/\K (kN 0 j.toNat) (fun _=>True) dX
 | _=>False
def dItR2 (w:DA):DI:=fun ρ μ K=>w ρ μ fun ds dX=>match ds with
 | [.int i,.int j]=>(-(2 ^ 62)<=i/\i<2 ^ 62 /\ -(2 ^ 62)<=j/\j<2 ^ 62)/\K (kN i (j - i).toNat) (fun _=>True) dX
 | _=>False
def iX {w:DA}{p:Pos}(hg:Gl X "range")(hm:X.mg "range"=none)(ha:uP X [a] w)(hs:starEach [a] X.env=[(false,eval a X.env)]:=by rfl):ED X tg (.Call (.Name "range" p) [a] [] pos) (dItR1 w):=(pi_range1 hg hm ha hs).imp fun σ H Q hq=>by
 obtain⟨φ,ρ,μ,K,A,M,k,L⟩:=hq
 refine⟨φ,ρ,μ,_,A,M,k,fun ds dX eM vs H1 k1 f1 M1 i1=>?_⟩
 split at k1
 ·obtain⟨v,r,rfl,h1,h2⟩:=i1
  cases(show v=_ from h1);cases(show r=[]from h2)
  exact⟨_,rfl,k1.1,k1.2.1,L _ _ dX eM _ H1 k1.2.2 f1 M1 Bd⟩
 ·exact k1.elim
def B6 {w:DA}{p:Pos}(hg:Gl X "range")(hm:X.mg "range"=none)(ha:uP X [a,b] w)(hs:starEach [a,b] X.env=[(false,eval a X.env),(false,eval b X.env)]:=by rfl)(B9:starEach [b] X.env=[(false,eval b X.env)]:=by rfl):ED X tg (.Call (.Name "range" p) [a,b] [] pos) (dItR2 w):=(pi_range2 hg hm ha hs B9).imp fun σ H Q hq=>by
 obtain⟨φ,ρ,μ,K,A,M,k,L⟩:=hq
 refine⟨φ,ρ,μ,_,A,M,k,fun ds dX eM vs H1 k1 f1 M1 i1=>?_⟩
 split at k1
 ·obtain⟨v,r,rfl,h1,u,r',rfl,h2,h3⟩:=i1
  cases(show v=_ from h1);cases(show u=_ from h2);cases(show r'=[]from h3)
  exact⟨_,_,rfl,k1.1,L _ _ dX eM _ H1 k1.2 f1 M1 Bd⟩
 ·exact k1.elim
def dItS (w:De):DI:=fun ρ μ K=>w ρ μ fun d dX=>match d with
 | .str z=>K (z.cps.toList.map fun c=>D.str ⟨#[c]⟩) (fun _=>True) dX
 | _=>False
def i_str {w:De}(h:PD X a w):ED X tg a (dItS w):=(pi_str h).imp fun σ H Q hq=>by
 obtain⟨φ,ρ,μ,K,A,M,k,L⟩:=hq
 refine⟨φ,ρ,μ,_,A,M,k,fun d dX eM v1 H1 k1 f1 M1 i1=>?_⟩
 split at k1
 ·rename_i z
  cases(show v1=_ from i1)
  refine⟨z,rfl,L _ _ dX eM _ H1 k1 f1 M1 fun eR H' μ' f M _ i=>⟨fun d hd=>?_,fun hi=>by rw[fF]at hi;exact hi⟩⟩
  have hi:i<z.cps.toList.length:=by have:=(lK hd).1;rwa [fF]at this
  refine⟨hi,fun x H'' hy=>?_⟩
  obtain⟨rfl,c,hc,rfl⟩:=hy
  rw[uw,hc]at hd
  cases hd
  exact⟨.refl _ _,M,rfl⟩
 ·exact k1.elim
end
mutual
def xG (n:Nat):D->Prop
 | .lst ds=>qa n ds
 | .tup ds=>qa n ds
 | .iD _ ds=>qa n ds
 | .mr k=>k<n
 | .obj _ _ ds=>qa n ds
 | .lD _ ds=>qa n ds
 | _=>True
def qa (n:Nat):List D->Prop
 | []=>True
 | d::ds=>xG n d/\qa n ds
end
def Dv (n:Nat):MO->Prop
 | .box=>True
 | .lst ds=>qa n ds
 | .iD _ ds=>qa n ds
 | .nX _ _ ds=>qa n ds
 | .ins _ _ ds=>qa n ds
 | .dtu _ ds=>qa n ds
 | .gx eG _=>eG.length<=n
 | .exc _=>True
def Fr.takeN {eG φ:List Addr}{H0 H:Hp}{n:Nat}(f:Fr eG H0 φ H)(h:eG.length<=n):Fr eG H0 (φ.take n) H:=by
 obtain⟨⟨ψ,rfl,hψ⟩,k,d⟩:=f
 exact⟨⟨ψ.take (n - eG.length),by rw[List.take_append,aX h],fun c hc=>hψ c (aR hc)⟩,k,d⟩
def Fr.late {eG φ:List Addr}{H0 H:Hp}{j:Nat}{p:Addr}(f:Fr eG H0 φ H)(h:eG.length<=j)(hp:φ[j]?=some p):H0 p=none:=by
 obtain⟨⟨ψ,rfl,hψ⟩,k,d⟩:=f
 rw[qx h]at hp
 exact hψ p (Ak hp)
def Fr.takeP {eG φ:List Addr}{H0 H:Hp}{n:Nat}{p:Addr}(f:Fr eG H0 φ H)(h:eG.length<=n)(hp:H0 p=none):Fr eG H0 (φ.take n++[p]) H:=by
 obtain⟨⟨ψ,e,hψ⟩,k,d⟩:=f.takeN h
 exact⟨⟨ψ++[p],by rw[e,aM],fun c hc=>by rcases List.mem_append.mp hc with z | z;exact hψ c z;rw[List.mem_singleton.mp z];exact hp⟩,k,d⟩
mutual
def iL.iY {n:Nat}{φ:List Addr}{H:Hp}:∀ {d:D} {v:V},xG n d->iL φ H d v->iL (φ.take n) H d v
 | .fV,_,_,h=>h
 | .bl _,_,_,h=>h
 | .int _,_,_,h=>h
 | .str _,_,_,h=>h
 | .lst _,_,m,h=>by obtain⟨p,vs,e,nn,hp,q⟩:=h;exact⟨p,vs,e,fun z=>nn (aR z),hp,d7.iY m q⟩
 | .tup _,_,m,h=>by obtain⟨p,vs,e,nn,hp,q⟩:=h;exact⟨p,vs,e,fun z=>nn (aR z),hp,d7.iY m q⟩
 | .iD _ _,_,m,h=>by obtain⟨p,kvs,vs,e,nn,hp,q1,q2,q⟩:=h;exact⟨p,kvs,vs,e,fun z=>nn (aR z),hp,q1,q2,d7.iY m q⟩
 | .mr k,_,m,h=>by obtain⟨p,e,q⟩:=h;exact⟨p,by rw[bx m];exact e,q⟩
 | .obj _ _ _,_,m,h=>by obtain⟨p,dx,fs,vs,e,nn,hp,q1,q2,q⟩:=h;exact⟨p,dx,fs,vs,e,fun z=>nn (aR z),hp,q1,q2,d7.iY m q⟩
 | .lD _ _,_,m,h=>by obtain⟨p,dx,fs,vs,e,nn,hp,q1,q2,q⟩:=h;exact⟨p,dx,fs,vs,e,fun z=>nn (aR z),hp,q1,q2,d7.iY m q⟩
 | .fn _,_,_,h=>h
def d7.iY {n:Nat}{φ:List Addr}{H:Hp}:∀ {ds:List D} {vs:List V},qa n ds->d7 φ H ds vs->d7 (φ.take n) H ds vs
 | [],_,_,h=>h
 | _::_,_,m,h=>by obtain⟨v,r,e,h1,h2⟩:=h;exact⟨v,r,e,iL.iY m.1 h1,d7.iY m.2 h2⟩
end
def eJ.iY {n:Nat}{φ:List Addr}{H:Hp}{μ:MS}(h:eJ φ H μ)(hm:∀(k:Nat) (m:MO),k<n->μ[k]?=some m->Dv n m):eJ (φ.take n) H (μ.take n):=by
 refine⟨h.nd.sublist (List.take_sublist _ _),by rw[aS,aS,h.len],fun k m e=>?_⟩
 have hk:k<n:=by have:=(lK e).1;rw[aS]at this;omega
 rw[bx hk]at e
 obtain⟨p,e1,e2⟩:=h.at_ k m e
 refine⟨p,by rw[bx hk];exact e1,?_⟩
 have hb:=hm k m hk e
 cases m with
 | box=>obtain⟨q,ns,i,r,z,h1,h2,h3,h4⟩:=e2;exact⟨q,ns,i,r,z,h1,h2,fun z=>h3 (aR z),h4⟩
 | lst ds=>obtain⟨vs,h1,h2⟩:=e2;exact⟨vs,h1,h2.iY hb⟩
 | iD ks ds=>obtain⟨kvs,vs,h1,h2,h3,h4⟩:=e2;exact⟨kvs,vs,h1,h2,h3,h4.iY hb⟩
 | nX o kvs ds=>exact⟨e2.1,e2.2.iY hb⟩
 | ins C ns ds=>obtain⟨dx,fs,h1,h2,h3⟩:=e2;exact⟨dx,fs,h1,h2,h3.iY hb⟩
 | dtu ks ds=>obtain⟨kvs,h1,h2,h3⟩:=e2;exact⟨kvs,h1,h2,h3.iY hb⟩
 | gx eG H0=>exact⟨e2.1.takeN hb,e2.2⟩
 | exc c=>exact e2
mutual
def iL.bound {φ:List Addr}{H:Hp}:∀ {d:D} {v:V},iL φ H d v->xG φ.length d
 | .fV,_,_=>True.intro
 | .bl _,_,_=>True.intro
 | .int _,_,_=>True.intro
 | .str _,_,_=>True.intro
 | .lst _,_,h=>by obtain⟨p,vs,e,nn,hp,q⟩:=h;exact d7.bound q
 | .tup _,_,h=>by obtain⟨p,vs,e,nn,hp,q⟩:=h;exact d7.bound q
 | .iD _ _,_,h=>by obtain⟨p,kvs,vs,e,nn,hp,q1,q2,q⟩:=h;exact d7.bound q
 | .mr k,_,h=>by obtain⟨p,e,q⟩:=h;exact(lK e).1
 | .obj _ _ _,_,h=>by obtain⟨p,dx,fs,vs,e,nn,hp,q1,q2,q⟩:=h;exact d7.bound q
 | .lD _ _,_,h=>by obtain⟨p,dx,fs,vs,e,nn,hp,q1,q2,q⟩:=h;exact d7.bound q
 | .fn _,_,_=>True.intro
def d7.bound {φ:List Addr}{H:Hp}:∀ {ds:List D} {vs:List V},d7 φ H ds vs->qa φ.length ds
 | [],_,_=>True.intro
 | _::_,_,h=>by obtain⟨v,r,e,h1,h2⟩:=h;exact⟨iL.bound h1,d7.bound h2⟩
end
def eJ.bound {φ:List Addr}{H:Hp}{μ:MS}(h:eJ φ H μ):∀(k:Nat) (m:MO),μ[k]?=some m->Dv μ.length m:=fun k m e=>by
 obtain⟨p,e1,e2⟩:=h.at_ k m e
 rw[<- h.len]
 cases m with
 | box=>exact True.intro
 | lst ds=>obtain⟨vs,h1,h2⟩:=e2;exact h2.bound
 | iD ks ds=>obtain⟨kvs,vs,h1,h2,h3,h4⟩:=e2;exact h4.bound
 | nX o kvs ds=>exact e2.2.bound
 | ins C ns ds=>obtain⟨dx,fs,h1,h2,h3⟩:=e2;exact h3.bound
 | dtu ks ds=>obtain⟨kvs,h1,h2,h3⟩:=e2;exact h3.bound
 | gx eG H0=>obtain⟨⟨ψ,e,_⟩,_⟩:=e2.1;show eG.length<=φ.length;rw[e,lx];omega
 | exc c=>exact True.intro
def jQ {n:Nat}{eR:List Addr}{p q:Addr}(hp:p∈eR)(h:q∉eR):q∉eR.take n++[p]:=fun z=>by
 rcases List.mem_append.mp z with z | z
 ·exact h (aR z)
 ·exact h (by rw[List.mem_singleton.mp z];exact hp)
mutual
def iL.addP {n:Nat}{eR:List Addr}{H:Hp}{p:Addr}(hp:p∈eR):∀ {d:D} {v:V},xG n d->iL eR H d v->iL (eR.take n++[p]) H d v
 | .fV,_,_,h=>h
 | .bl _,_,_,h=>h
 | .int _,_,_,h=>h
 | .str _,_,_,h=>h
 | .lst _,_,m,h=>by obtain⟨q,vs,e,nn,hq,z⟩:=h;exact⟨q,vs,e,jQ hp nn,hq,d7.oH hp m z⟩
 | .tup _,_,m,h=>by obtain⟨q,vs,e,nn,hq,z⟩:=h;exact⟨q,vs,e,jQ hp nn,hq,d7.oH hp m z⟩
 | .iD _ _,_,m,h=>by obtain⟨q,kvs,vs,e,nn,hq,q1,q2,z⟩:=h;exact⟨q,kvs,vs,e,jQ hp nn,hq,q1,q2,d7.oH hp m z⟩
 | .mr k,_,m,h=>by
  obtain⟨q,e,z⟩:=h
  have hk:k<(eR.take n).length:=by rw[aS];have:=(lK e).1;have m':k<n:=m;omega
  exact⟨q,by rw[uU hk,bx m];exact e,z⟩
 | .obj _ _ _,_,m,h=>by obtain⟨q,dx,fs,vs,e,nn,hq,q1,q2,z⟩:=h;exact⟨q,dx,fs,vs,e,jQ hp nn,hq,q1,q2,d7.oH hp m z⟩
 | .lD _ _,_,m,h=>by obtain⟨q,dx,fs,vs,e,nn,hq,q1,q2,z⟩:=h;exact⟨q,dx,fs,vs,e,jQ hp nn,hq,q1,q2,d7.oH hp m z⟩
 | .fn _,_,_,h=>h
def d7.oH {n:Nat}{eR:List Addr}{H:Hp}{p:Addr}(hp:p∈eR):∀ {ds:List D} {vs:List V},qa n ds->d7 eR H ds vs->d7 (eR.take n++[p]) H ds vs
 | [],_,_,h=>h
 | _::_,_,m,h=>by obtain⟨v,r,e,h1,h2⟩:=h;exact⟨v,r,e,iL.addP hp m.1 h1,d7.oH hp m.2 h2⟩
end
def uZ (R:D->D->Prop)(ds es:List D):Prop:=ds.length=es.length/\∀(i:Nat) (a b:D),ds[i]?=some a->es[i]?=some b->R a b
def CZ (n:Nat)(μ:MS):Nat->D->D->Prop
 | 0,d,d'=>d'=d/\xG n d
 | k+1,d,d'=>(d'=d/\xG n d)\/(∃ j ds es,d=.mr j/\n<=j/\μ[j]?=some (.lst ds)/\d'=.lst es/\uZ (CZ n μ k) ds es)\/(∃ ds es,d=.lst ds/\d'=.lst es/\uZ (CZ n μ k) ds es)\/(∃ ds es,d=.tup ds/\d'=.tup es/\uZ (CZ n μ k) ds es)\/(∃ j ks ds es,d=.mr j/\n<=j/\μ[j]?=some (.iD ks ds)/\d'=.iD ks es/\uZ (CZ n μ k) ds es)
def d7.wB {φ:List Addr}{H:Hp}:∀ {ds:List D} {vs:List V},ds.length=vs.length->(∀(i:Nat) (d:D) (v:V),ds[i]?=some d->vs[i]?=some v->iL φ H d v)->d7 φ H ds vs
 | [],vs,hl,_=>by cases vs with
  | nil=>rfl
  | cons v r=>simp at hl
 | d::ds,vs,hl,h=>by cases vs with
  | nil=>simp at hl
  | cons v r=>exact⟨v,r,rfl,h 0 d v rfl rfl,d7.wB (by simpa using hl) fun i a b e1 e2=>h (i+1) a b (by simpa using e1) (by simpa using e2)⟩
def CZ.is {n:Nat}{φ:List Addr}{H:Hp}{μ:MS}(M:eJ φ H μ)(Du:∀ {j:Nat} {p:Addr},n<=j->φ[j]?=some p->p∉φ.take n):∀ {k:Nat} {d d':D} {v:V},CZ n μ k d d'->iL φ H d v->iL (φ.take n) H d' v:=by
 intro k
 induction k with
 | zero=>intro d d' v h i;obtain⟨rfl,hb⟩:=h;exact i.iY hb
 | succ k ih =>
  have all:∀ {ds es:List D} {vs:List V},uZ (CZ n μ k) ds es->d7 φ H ds vs->d7 (φ.take n) H es vs:=fun {ds es vs} ha hd =>
   d7.wB (by rw[hd.len,ha.1]) fun i b v e1 e2=>by
    obtain⟨a,e3,hv⟩:=hd.getV e2
    exact ih (ha.2 i a b e3 e1) hv
  intro d d' v h i
  rcases h with⟨rfl,hb⟩ | ⟨j,ds,es,rfl,hj,e,rfl,ha⟩ | ⟨ds,es,rfl,rfl,ha⟩ | ⟨ds,es,rfl,rfl,ha⟩ | ⟨j,ks,ds,es,rfl,hj,e,rfl,ha⟩
  ·exact i.iY hb
  ·obtain⟨p,hp,rfl⟩:=i
   obtain⟨p',e1,vs,hv,hd⟩:=M.at_ j _ e
   rw[hp]at e1;cases e1
   exact⟨p,vs,rfl,Du hj hp,hv,all ha hd⟩
  ·obtain⟨p,vs,rfl,hn,hp,hd⟩:=i
   exact⟨p,vs,rfl,fun z=>hn (aR z),hp,all ha hd⟩
  ·obtain⟨p,vs,rfl,hn,hp,hd⟩:=i
   exact⟨p,vs,rfl,fun z=>hn (aR z),hp,all ha hd⟩
  ·obtain⟨p,hp,rfl⟩:=i
   obtain⟨p',e1,kvs,vs,hv,h1,h2,hd⟩:=M.at_ j _ e
   rw[hp]at e1;cases e1
   exact⟨p,kvs,vs,rfl,Du hj hp,hv,h1,h2,all ha hd⟩
def xD (n:Nat)(μ:MS):Nat->D->D->Prop
 | 0,d,d'=>d'=d/\xG n d
 | k+1,d,d'=>(d'=d/\xG n d)\/(∃ j ds es,d=.mr j/\n<=j/\μ[j]?=some (.lst ds)/\d'=.lst es/\uZ (xD n μ k) ds es)\/(∃ ds es,d=.lst ds/\d'=.lst es/\uZ (xD n μ k) ds es)\/(∃ ds es,d=.tup ds/\d'=.tup es/\uZ (xD n μ k) ds es)\/(∃ j o kvs ds es,d=.mr j/\n<=j/\μ[j]?=some (.nX o kvs ds)/\d'=.lD (kvs.map (·.1)) es/\uZ (xD n μ k) ds es)\/(∃ j C ns ds es,d=.mr j/\n<=j/\μ[j]?=some (.ins C ns ds)/\d'=.obj C ns es/\uZ (xD n μ k) ds es)
def xD.is {n:Nat}{φ:List Addr}{H:Hp}{μ:MS}(M:eJ φ H μ)(Du:∀ {j:Nat} {p:Addr},n<=j->φ[j]?=some p->p∉φ.take n):∀ {k:Nat} {d d':D} {v:V},xD n μ k d d'->iL φ H d v->iL (φ.take n) H d' v:=by
 intro k
 induction k with
 | zero=>intro d d' v h i;obtain⟨rfl,hb⟩:=h;exact i.iY hb
 | succ k ih =>
  have all:∀ {ds es:List D} {vs:List V},uZ (xD n μ k) ds es->d7 φ H ds vs->d7 (φ.take n) H es vs:=fun {ds es vs} ha hd =>
   d7.wB (by rw[hd.len,ha.1]) fun i b v e1 e2=>by
    obtain⟨a,e3,hv⟩:=hd.getV e2
    exact ih (ha.2 i a b e3 e1) hv
  intro d d' v h i
  rcases h with⟨rfl,hb⟩ | ⟨j,ds,es,rfl,hj,e,rfl,ha⟩ | ⟨ds,es,rfl,rfl,ha⟩ | ⟨ds,es,rfl,rfl,ha⟩ | ⟨j,o,kvs,ds,es,rfl,hj,e,rfl,ha⟩ | ⟨j,C,ns,ds,es,rfl,hj,e,rfl,ha⟩
  ·exact i.iY hb
  ·obtain⟨p,hp,rfl⟩:=i
   obtain⟨p',e1,vs,hv,hd⟩:=M.at_ j _ e
   rw[hp]at e1;cases e1
   exact⟨p,vs,rfl,Du hj hp,hv,all ha hd⟩
  ·obtain⟨p,vs,rfl,hn,hp,hd⟩:=i
   exact⟨p,vs,rfl,fun z=>hn (aR z),hp,all ha hd⟩
  ·obtain⟨p,vs,rfl,hn,hp,hd⟩:=i
   exact⟨p,vs,rfl,fun z=>hn (aR z),hp,all ha hd⟩
  ·obtain⟨p,hp,rfl⟩:=i
   obtain⟨p',e1,hv,hd⟩:=M.at_ j _ e
   rw[hp]at e1;cases e1
   exact⟨p,o,kvs,_,rfl,Du hj hp,hv,rfl,rfl,all ha hd⟩
  ·obtain⟨p,hp,rfl⟩:=i
   obtain⟨p',e1,dx,fs,hv,h1,hd⟩:=M.at_ j _ e
   rw[hp]at e1;cases e1
   exact⟨p,dx,fs,_,rfl,Du hj hp,hv,h1,rfl,all ha hd⟩
inductive Fz (n:Nat)(K:DK):DK where
 | keep {d μ} (k:K d μ):Fz n K d μ
 | drop {d μ} (hd:xG n d) (hm:∀(j:Nat) (m:MO),j<n->μ[j]?=some m->Dv n m) (k:K d (μ.take n)):Fz n K d μ
 | lst {j ds μ} (hj:n<=j) (e:μ[j]?=some (.lst ds)) (hd:qa n ds) (hm:∀(j:Nat) (m:MO),j<n->μ[j]?=some m->Dv n m) (k:K (.lst ds) (μ.take n)):Fz n K (.mr j) μ
 | one {j ds μ} (hj:n<=j) (e:μ[j]?=some (.lst ds)) (hd:qa n ds) (hm:∀(j:Nat) (m:MO),j<n->μ[j]?=some m->Dv n m) (k:K (.mr n) (μ.take n++[.lst ds])):Fz n K (.mr j) μ
 | deep {f d d' μ} (e:CZ n μ f d d') (hm:∀(j:Nat) (m:MO),j<n->μ[j]?=some m->Dv n m) (k:K d' (μ.take n)):Fz n K d μ
 | iD {j ks ds μ} (hj:n<=j) (e:μ[j]?=some (.iD ks ds)) (hd:qa n ds) (hm:∀(j:Nat) (m:MO),j<n->μ[j]?=some m->Dv n m) (k:K (.iD ks ds) (μ.take n)):Fz n K (.mr j) μ
 | obj {j C ns ds μ} (hj:n<=j) (e:μ[j]?=some (.ins C ns ds)) (hd:qa n ds) (hm:∀(j:Nat) (m:MO),j<n->μ[j]?=some m->Dv n m) (k:K (.obj C ns ds) (μ.take n)):Fz n K (.mr j) μ
 | lD {j o kvs ds μ} (hj:n<=j) (e:μ[j]?=some (.nX o kvs ds)) (hd:qa n ds) (hm:∀(j:Nat) (m:MO),j<n->μ[j]?=some m->Dv n m) (k:K (.lD (kvs.map (·.1)) ds) (μ.take n)):Fz n K (.mr j) μ
 | deepQ {f d d' μ} (e:xD n μ f d d') (hm:∀(j:Nat) (m:MO),j<n->μ[j]?=some m->Dv n m) (k:K d' (μ.take n)):Fz n K d μ
def tZ.fz {φ:List Addr}{H:Hp}{μ:MS}{K:DK}{Q:VK}(M:eJ φ H μ)(L:tZ φ H K Q):tZ φ H (Fz μ.length K) Q:=fun d μ' eR v H' k f M' i=>by
 have FN:eR.take μ.length=φ:=by
  obtain⟨⟨ψ,rfl,_⟩,_,_⟩:=f
  rw[<- M.len,aV]
 have f0:Fr φ H (eR.take μ.length) H':=by
  rw[FN]
  exact⟨⟨[],by simp,fun _ h=>nomatch h⟩,f.keep,f.dom⟩
 have Du:∀ {j:Nat} {p:Addr},μ.length<=j->eR[j]?=some p->p∉eR.take μ.length:=fun {j p} hj e hp=>by
  obtain⟨i,hi,ei⟩:=cp hp
  rw[aS]at hi
  rw[List.getElem_take]at ei
  obtain⟨hj',ej⟩:=lK e
  exact List.pairwise_iff_getElem.mp M'.nd i j (by omega) hj' (by omega) (ei.trans ej.symm)
 cases k with
 | keep k=>exact L d μ' eR v H' k f M' i
 | drop hd hm k=>exact L d _ _ v H' k f0 (M'.iY hm) (i.iY hd)
 | @lst j ds _ hj e hd hm k =>
  obtain⟨p,hp,rfl⟩:=i
  obtain⟨p',e1,vs,hv,ha⟩:=M'.at_ j _ e
  rw[hp]at e1;cases e1
  exact L _ _ _ _ H' k f0 (M'.iY hm) ⟨p,vs,rfl,Du hj hp,hv,ha.iY hd⟩
 | @one j ds _ hj e hd hm k =>
  obtain⟨p,hp,rfl⟩:=i
  obtain⟨p',e1,vs,hv,ha⟩:=M'.at_ j _ e
  rw[hp]at e1;cases e1
  have M0:=M'.iY hm
  have hpn:p∉φ:=by have:=Du hj hp;rwa [FN]at this
  have hH:H p=none:=by
   obtain⟨⟨ψ,rfl,hψ⟩,_,_⟩:=f
   refine hψ p ?_
   have q:=Ak hp
   rcases List.mem_append.mp q with q | q
   ·exact absurd q hpn
   ·exact q
  have M1:eJ (eR.take μ.length) H' (μ'.take μ.length):=M0
  rw[FN]at M1
  have f1:Fr φ H (φ++[p]) H':=⟨⟨[p],rfl,fun c hc=>by rw[List.mem_singleton.mp hc];exact hH⟩,f.keep,f.dom⟩
  have len:(μ'.take μ.length).length=μ.length:=by rw[<- M1.len,M.len]
  have pin:p∈eR:=Ak hp
  have hdv:d7 (φ++[p]) H' ds vs:=by
   have q:=d7.oH pin hd ha
   rwa [FN]at q
  have M2:eJ (φ++[p]) H' (μ'.take μ.length++[.lst ds]):=by
   refine⟨?_,by rw[lx,lx,M1.len];rfl,fun k m ek=>?_⟩
   ·rw[bF]
    exact⟨M.nd,by simp,fun a ha b hb=>by rw[List.mem_singleton.mp hb];intro z;exact hpn (by rw[<- z];exact ha)⟩
   ·by_cases hk:k<μ.length
    ·rw[uU (by rw[len];exact hk)]at ek
     rw[bx hk]at ek
     obtain⟨q,e1,e2⟩:=M'.at_ k m ek
     have e1':φ[k]?=some q:=by rw[<- FN,bx hk];exact e1
     refine⟨q,by rw[uU (by rw[M.len];exact hk)];exact e1',?_⟩
     have hb:=hm k m hk ek
     cases m with
     | box =>
      obtain⟨b,ns,i,r,z,h1,h2,h3,h4⟩:=e2
      exact⟨b,ns,i,r,z,h1,h2,by have:=jQ (n:=μ.length) pin h3;rwa [FN]at this,h4⟩
     | lst es=>obtain⟨us,h1,h2⟩:=e2;exact⟨us,h1,by have:=d7.oH pin hb h2;rwa [FN]at this⟩
     | iD ks es=>obtain⟨kvs,us,h1,h2,h3,h4⟩:=e2;exact⟨kvs,us,h1,h2,h3,by have:=d7.oH pin hb h4;rwa [FN]at this⟩
     | nX o kvs es=>exact⟨e2.1,by have:=d7.oH pin hb e2.2;rwa [FN]at this⟩
     | ins C ns es=>obtain⟨dx,fs,h1,h2,h3⟩:=e2;exact⟨dx,fs,h1,h2,by have:=d7.oH pin hb h3;rwa [FN]at this⟩
     | dtu ks es=>obtain⟨kvs,h1,h2,h3⟩:=e2;exact⟨kvs,h1,h2,by have:=d7.oH pin hb h3;rwa [FN]at this⟩
     | gx eG H0=>exact⟨by have:=e2.1.takeP (n:=μ.length) hb (p:=p) (e2.1.late (az hb hj) hp);rwa [FN]at this,e2.2⟩
     | exc c=>exact e2
    ·have hk':k=μ.length:=by
      have:=(lK ek).1
      rw[lx,aU,len]at this
      omega
     subst hk'
     rw[qx (by rw[len];exact ah _),len,aT]at ek
     cases ek
     exact⟨p,by rw[qx (by rw[M.len];exact ah _),M.len,aT];rfl,vs,hv,hdv⟩
  exact L _ _ _ _ H' k f1 M2 ⟨p,by rw[qx (by rw[M.len];exact ah _),M.len,aT];rfl,rfl⟩
 | @deep f' d d' _ e hm k=>exact L _ _ _ _ H' k f0 (M'.iY hm) (e.is M' Du i)
 | @iD j ks ds _ hj e hd hm k =>
  obtain⟨p,hp,rfl⟩:=i
  obtain⟨p',e1,kvs,vs,hv,h1,h2,ha⟩:=M'.at_ j _ e
  rw[hp]at e1;cases e1
  exact L _ _ _ _ H' k f0 (M'.iY hm) ⟨p,kvs,vs,rfl,Du hj hp,hv,h1,h2,ha.iY hd⟩
 | @obj j C ns ds _ hj e hd hm k =>
  obtain⟨p,hp,rfl⟩:=i
  obtain⟨p',e1,dx,fs,h1,h2,h3⟩:=M'.at_ j _ e
  rw[hp]at e1;cases e1
  exact L _ _ _ _ H' k f0 (M'.iY hm) ⟨p,dx,fs,_,rfl,Du hj hp,h1,h2,rfl,h3.iY hd⟩
 | @lD j o kvs ds _ hj e hd hm k =>
  obtain⟨p,hp,rfl⟩:=i
  obtain⟨p',e1,h1,h3⟩:=M'.at_ j _ e
  rw[hp]at e1;cases e1
  exact L _ _ _ _ H' k f0 (M'.iY hm) ⟨p,o,kvs,_,rfl,Du hj hp,h1,rfl,rfl,h3.iY hd⟩
 | @deepQ f' d d' _ e hm k=>exact L _ _ _ _ H' k f0 (M'.iY hm) (e.is M' Du i)
def DM (n:Nat)(K:DK):DN:={ nx:=fun _ μ'=>Fz n K .fV μ',rt:=fun d μ'=>Fz n K d μ'}
def o5 (N:List Str)(ds:List D):DE:=ds.map some++List.replicate (N.length - ds.length) none
def i8.start {φ:List Addr}{H:Hp}{N:List Str}{ds:List D}{vs:List V}(h:d7 φ H ds vs):i8 φ H (o5 N ds) (start N vs):=by
 have hl:=h.len
 unfold o5 L2.start
 refine⟨by simp[hl],fun i d e=>?_⟩
 by_cases hi:i<ds.length
 ·rw[uU (by rw[fF];exact hi),uw]at e
  have e':ds[i]?=some d:=by
   cases q:ds[i]? with
   | none=>rw[q]at e;cases e
   | some z=>rw[q]at e;cases e;rfl
  obtain⟨v,hv,hd⟩:=h.get e'
  exact⟨v,by rw[uU (by rw[fF];omega),uw,hv];rfl,hd⟩
 ·rw[qx (by rw[fF];omega)]at e
  have:=Ak e
  have:=List.eq_of_mem_replicate this
  cases this
section
variable {P:ae}{w:af}{K:aa}{mg:Str->Option Value}{dh:Heap}
def gL.oJ {x qual:Str}{st:Stmt}{f:Addr}{fd:ag}{N ps:List Str}{k:Nat}{fs:jg}(F:gL K x qual st f fd)(S:dH N ps (dw st))(len:∀ ds μ Kd,fs ds μ Kd->ds.length=ps.length)
 (pB:∀(fR:Value) (A:Around) (dA:List Env) (s:Shared) (H:Hp) (E:XK),gZ k (A.deeper (envOfC qual (dw st) s.heap.objs.size f fR)) ->
   ∃ W,EE (oN jM P w K mg dh N qual (dw st) f fR A dA s H E).nox (gI st) W/\∀ ds μ Kd,(∀(j:Nat) (m:MO),μ[j]?=some m->Dv μ.length m)->qa μ.length ds->fs ds μ Kd->W (DM μ.length Kd) (o5 N ds) μ):eF P w K mg dh jM (k+1) f fd ps (gO fs):=by
 refine F.ok S (fun vs H Q E h=>?_) (fun fR A dA s H vs Q E hr h=>?_)
 ·obtain⟨φ,ds,μ,Kd,ha,M,hf,L⟩:=h
  rw[ha.len];exact len ds μ Kd hf
 ·obtain⟨φ,ds,μ,Kd,ha,M,hf,L⟩:=h
  obtain⟨W,hW,q⟩:=pB fR A dA s H E hr
  refine⟨_,hW,φ,o5 N ds,μ,DM μ.length Kd,.start ha,M,q ds μ Kd M.bound (by rw[<- M.len];exact ha.bound) hf,⟨fun iO μ' eR gd H' k' f' A' M'=>?_,L.fz M,fun _ _ _ _ _ k' _ _ _=>k'.elim,fun _ _ _ _ _ k' _ _ _=>k'.elim⟩⟩
  exact L.fz M .fV μ' eR .fV H' k' f' M' rfl
end
end L2
namespace L2
open PySem PySem.Spec PyProof.Rows
def tZ.val {φ:List Addr}{H:Hp}{μ:MS}{K:DK}{Q:VK}{d:D}{v:V}(L:tZ φ H K Q)(M:eJ φ H μ)(k:K d μ)(i:iL φ H d v):Q v H:=L d μ φ v H k (.refl _ _) M i
def dAdd (m:Bool):uY:=fun x y μ K=>match x,y with
 | .int i,.int j=>K (.int (i+j)) μ
 | .str i,.str j=>i.length+j.length<=sizeLine/\K (.str (i++j)) μ
 | x,y=>opt (lv μ x) fun xs=>opt (lv μ y) fun ys=>xs.length+ys.length<=sizeLine/\nL m (xs++ys) μ K
def so_add {m:Bool}:oO rAddC (dAdd m):=fun φ H x y dx dy μ K Q M hx hy k L=>by
 unfold dAdd at k
 split at k
 ·cases(show x=_ from hx);cases(show y=_ from hy);exact L.val M k rfl
 ·cases(show x=_ from hx);cases(show y=_ from hy);exact⟨k.1,L.val M k.2 rfl⟩
 ·obtain⟨xs,ex,k⟩:=gD k
  obtain⟨ys,ey,k⟩:=gD k
  obtain⟨p,vx,rfl,hp,ax⟩:=qu M hx ex
  obtain⟨q,vy,rfl,hq,ay⟩:=qu M hy ey
  exact⟨vx,vy,hp,hq,by rw[ax.len,ay.len];exact k.1,fun l hl=>Ez L M (ax.app ay) k.2 hl⟩
def dI2 (C:Int->Int->Prop)(g:Int->Int->D):uY:=fun x y μ K=>match x,y with
 | .int i,.int j=>C i j/\K (g i j) μ
 | _,_=>False
def xk (g:Int->Int->D):uY:=fun x y μ K=>match x,y with
 | .int i,.int j=>K (g i j) μ
 | _,_=>False
def E9 {C:Int->Int->Prop}{g:Int->Int->Int}:oO (rI2 C fun i j=>.int (g i j)) (dI2 C fun i j=>.int (g i j)):=fun φ H x y dx dy μ K Q M hx hy k L=>by
 unfold dI2 at k
 split at k
 ·cases(show x=_ from hx);cases(show y=_ from hy);exact⟨k.1,L.val M k.2 rfl⟩
 ·exact k.elim
def so_i2' {g:Int->Int->Int}:oO (zL fun i j=>.int (g i j)) (xk fun i j=>.int (g i j)):=fun φ H x y dx dy μ K Q M hx hy k L=>by
 unfold xk at k
 split at k
 ·cases(show x=_ from hx);cases(show y=_ from hy);exact L.val M k rfl
 ·exact k.elim
def sZ {g:Int->Int->Bool}:oO (zL fun i j=>.bl (g i j)) (xk fun i j=>.bl (g i j)):=fun φ H x y dx dy μ K Q M hx hy k L=>by
 unfold xk at k
 split at k
 ·cases(show x=_ from hx);cases(show y=_ from hy);exact L.val M k rfl
 ·exact k.elim
def dMul:uY:=fun x y μ K=>match x,y with
 | .int i,.int j=>CMul i j/\K (.int (i*j)) μ
 | .str z,.int n=>∃ c:Nat,z=⟨#[c]⟩ /\ -1000000<=n/\n<=1000000/\K (.str ⟨(List.replicate n.toNat c).toArray⟩) μ
 | _,_=>False
def vN:oO rMulC dMul:=fun φ H x y dx dy μ K Q M hx hy k L=>by
 unfold dMul at k
 split at k
 ·cases(show x=_ from hx);cases(show y=_ from hy);exact⟨k.1,L.val M k.2 rfl⟩
 ·cases(show x=_ from hx);cases(show y=_ from hy)
  obtain⟨c,rfl,h1,h2,k⟩:=k
  exact⟨c,rfl,h1,h2,L.val M k rfl⟩
 ·exact k.elim
def dEqS (neg:Bool):uY:=fun x y μ K=>match x,y with
 | .int i,.int j=>K (.bl (neg != decide (i=j))) μ
 | .str i,.str j=>K (.bl (neg != decide (i=j))) μ
 | .bl i,.bl j=>K (.bl (neg != decide (i=j))) μ
 | _,_=>False
def vO {neg:Bool}:oO (rEqC neg) (dEqS neg):=fun φ H x y dx dy μ K Q M hx hy k L=>by
 unfold dEqS at k
 split at k
 ·cases(show x=_ from hx);cases(show y=_ from hy);exact L.val M k rfl
 ·cases(show x=_ from hx);cases(show y=_ from hy);exact L.val M k rfl
 ·cases(show x=_ from hx);cases(show y=_ from hy);exact L.val M k rfl
 ·exact k.elim
def dIx:uY:=fun x y μ K=>match x,y with
 | .str z,.int i=>z.length<=sizeLine/\opt (qV z.cps.toList i) fun c=>K (.str ⟨#[c]⟩) μ
 | .tup ds,.int i=>opt (qV ds i) fun d=>K d μ
 | x,.int i=>opt (lv μ x) fun ds=>opt (qV ds i) fun d=>K d μ
 | _,_=>False
def d7.qV {φ:List Addr}{H:Hp}{ds:List D}{vs:List V}{i:Int}{d:D}(h:d7 φ H ds vs)(e:qV ds i=some d):∃ v,qV vs i=some v/\iL φ H d v:=by
 unfold L2.qV at e ⊢
 rw[h.len]
 cases q:ixN ds.length i with
 | none=>rw[q]at e;cases e
 | some j=>rw[q]at e;exact h.get e
def so_ix:oO rIxC dIx:=fun φ H x y dx dy μ K Q M hx hy k L=>by
 unfold dIx at k
 split at k
 ·cases(show x=_ from hx);cases(show y=_ from hy)
  obtain⟨c,e,k'⟩:=gD k.2
  exact⟨k.1,dn e (L.val M k' rfl)⟩
 ·cases(show y=_ from hy)
  obtain⟨d,e,k⟩:=gD k
  obtain⟨p,vs,rfl,_,hp,ha⟩:=hx
  obtain⟨v,ev,iv⟩:=ha.qV e
  exact⟨vs,.inr hp,dn ev (L.val M k iv)⟩
 ·cases(show y=_ from hy)
  obtain⟨ds,el,k⟩:=gD k
  obtain⟨d,e,k⟩:=gD k
  obtain⟨p,vs,rfl,hp,ha⟩:=qu M hx el
  obtain⟨v,ev,iv⟩:=ha.qV e
  exact⟨vs,.inl hp,dn ev (L.val M k iv)⟩
 ·exact k.elim
abbrev DO:=DE->MS->(Option Int->MS->Prop)->Prop
def tDO (w:DO):TO:=fun σ H Q=>∃ φ ρ μ K,i8 φ H ρ σ/\eJ φ H μ/\w ρ μ K/\∀ o μ' eR H',K o μ'->Fr φ H eR H'->eJ eR H' μ'->Q o H'
def dNo:DO:=fun _ μ K=>K none μ
def dPart (w:De):DO:=fun ρ μ K=>w ρ μ fun d dX=>match d with | .int i=>K (some i) dX | _=>False
def cutD (ds:List D)(lo hi:Option Int):List D:=(ds.drop (HT.ib ds.length 0 lo)).take (HT.ib ds.length ds.length hi - HT.ib ds.length 0 lo)
def dSlc (m:Bool)(w:De)(l h:DO):De:=fun ρ μ K=>w ρ μ fun x dX=>l ρ dX fun lo fw=>h ρ fw fun hi oI=>match x with
 | .str z=>z.length<=sizeLine/\K (.str ⟨(gN z.cps.toList lo hi).toArray⟩) oI
 | x=>opt (lv oI x) fun ds=>nL m (cutD ds lo hi) oI K
section
variable {X:Cx}{a b e:Expr}{es:List Expr}{pos:Pos}
def PO.imp {e:Option Expr}{t t':TO}(h:PO X e t)(hi:∀ σ H Q,t' σ H Q->t σ H Q):PO X e t':=fun dg s σ H Q I q=>h dg s σ H Q I (hi σ H Q q)
def rO:PO X none (tDO dNo):=po_noC.imp fun σ H Q qm=>by obtain⟨φ,ρ,μ,K,A,M,k,L⟩:=qm;exact L none μ φ H k (.refl _ _) M
def iQ {w:De}(h:PD X e w):PO X (some e) (tDO (dPart w)):=(po_someC h).imp fun σ H Q ⟨φ,ρ,μ,K,A,M,k,L⟩ =>
 ⟨φ,ρ,μ,_,A,M,k,fun d dX eM v1 H1 k1 f1 M1 i1=>by
  cases d with
  | int i=>cases(show v1=_ from i1);exact L _ dX eM H1 k1 f1 M1
  | _=>exact k1.elim⟩
def d7.cut {φ:List Addr}{H:Hp}{ds:List D}{vs:List V}(h:d7 φ H ds vs)(lo hi:Option Int):d7 φ H (cutD ds lo hi) (AF vs lo hi):=by
 unfold cutD AF
 rw[h.len]
 exact(h.drop _).take _
def j5 (m:Bool){lo hi:Option Expr}{w:De}{l h:DO}{p:Pos}(ha:PD X a w)(hl:PO X lo (tDO l))(hh:PO X hi (tDO h)):PD X (.Subscript a (.Slice lo hi none p) pos) (dSlc m w l h):=(BD slC ha hl hh).imp fun σ H Q hq=>by
 obtain⟨φ,ρ,μ,K,A,M,k,L⟩:=hq
 refine⟨φ,ρ,μ,_,A,M,k,fun d dX eM v1 H1 k1 f1 M1 i1=>?_⟩
 refine⟨eM,ρ,dX,_,A.mono f1,M1,k1,fun lo fw iN H2 k2 f2 M2=>?_⟩
 refine⟨iN,ρ,fw,_,A.mono (f1.trans f2),M2,k2,fun hi oI yU H3 k3 f3 M3=>?_⟩
 have i3:=i1.mono (f2.trans f3)
 have L3:=L.mono (f1.trans (f2.trans f3))
 split at k3
 ·cases(show v1=_ from i3);exact⟨k3.1,L3.val M3 k3.2 rfl⟩
 ·obtain⟨ds,el,k⟩:=gD k3
  obtain⟨p,vs,rfl,hp,ha⟩:=qu M3 i3 el
  exact⟨vs,hp,fun l hl=>Ez L3 M3 (ha.cut lo hi) k hl⟩
end
def fLen:jg:=fun ds μ K=>match ds with
 | [.str z]=>z.length<=sizeLine/\K (.int z.length) μ
 | [.tup xs]=>K (.int xs.length) μ
 | [x]=>opt (lv μ x) fun xs=>K (.int xs.length) μ
 | _=>False
def so_len:mJ rLenC fLen:=fun φ H vs ds μ K Q M h k L=>by
 unfold fLen at k
 split at k
 ·obtain⟨v,r,rfl,h1,h2⟩:=h;cases(show r=[]from h2);cases(show v=_ from h1);exact⟨k.1,L.val M k.2 rfl⟩
 ·obtain⟨v,r,rfl,h1,h2⟩:=h;cases(show r=[]from h2)
  obtain⟨p,vs,rfl,_,hp,ha⟩:=h1
  exact⟨vs,.inr hp,by rw[ha.len];exact L.val M k rfl⟩
 ·obtain⟨v,r,rfl,h1,h2⟩:=h;cases(show r=[]from h2)
  obtain⟨xs,el,k⟩:=gD k
  obtain⟨p,vs,rfl,hp,ha⟩:=qu M h1 el
  exact⟨vs,.inl hp,by rw[ha.len];exact L.val M k rfl⟩
 ·exact k.elim
def fMax:jg:=fun ds μ K=>match ds with | [.int i,.int j]=>K (.int (max i j)) μ | _=>False
def DH:mJ rMaxC fMax:=fun φ H vs ds μ K Q M h k L=>by
 unfold fMax at k
 split at k
 ·obtain⟨v,r,rfl,h1,u,r',rfl,h2,h3⟩:=h;cases(show r'=[]from h3);cases(show v=_ from h1);cases(show u=_ from h2);exact⟨_,_,rfl,L.val M k rfl⟩
 ·exact k.elim
def fMaxL:jg:=fun ds μ K=>match ds with
 | [x]=>∃ ns:List Int,lv μ x=some (ns.map D.int)/\ns≠[]/\∀ m,m∈ns->(∀ y∈ns,y<=m)->K (.int m) μ
 | _=>False
def fAll (g:List Bool->Bool):jg:=fun ds μ K=>match ds with
 | [x]=>∃ bs:List Bool,lv μ x=some (bs.map D.bl)/\K (.bl (g bs)) μ
 | _=>False
def y4 {g:List Bool->Bool}:mJ (Bz g) (fAll g):=fun φ H vs ds μ K Q M h k L=>by
 unfold fAll at k
 split at k
 ·obtain⟨v,r,rfl,h1,h2⟩:=h;cases(show r=[]from h2)
  obtain⟨bs,el,k⟩:=k
  obtain⟨p,vs,rfl,hp,ha⟩:=qu M h1 el
  exact⟨bs,by rw[hp,ha.bls],L.val M k rfl⟩
 ·exact k.elim
def fList (m:Bool):jg:=fun ds μ K=>match ds with
 | [x]=>opt (lv μ x) fun xs=>nL m xs μ K
 | _=>False
def so_list {Kf:aa}{m:Bool}:mJ (DR Kf) (fList m):=fun φ H vs ds μ K Q M h k L=>by
 unfold fList at k
 split at k
 ·obtain⟨v,r,rfl,h1,h2⟩:=h;cases(show r=[]from h2)
  obtain⟨xs,el,k⟩:=gD k
  obtain⟨p,vs,rfl,hp,ha⟩:=qu M h1 el
  exact⟨vs,pS.of hp,fun l hl=>Ez L M ha k hl⟩
 ·exact k.elim
def fJoin:DMt:=fun d ds μ K=>match d,ds with
 | .str z,[x]=>z.cps=#[]/\∃ ys:List Str,lv μ x=some (ys.map D.str)/\(ys.map (·.length)).sum<=16777216/\K (.str ⟨(ys.map (·.cps.toList)).flatten.toArray⟩) μ
 | _,_=>False
def rk {Kf:aa}:SoMt Kf "str" DS fJoin:=fun φ H x vs d ds μ K Q M hx h k L=>by
 unfold fJoin at k
 split at k
 ·cases(show x=_ from hx)
  obtain⟨v,r,rfl,h1,h2⟩:=h;cases(show r=[]from h2)
  obtain⟨hz,ys,el,hs,k⟩:=k
  obtain⟨p,vs,rfl,hp,ha⟩:=qu M h1 el
  exact⟨hz,ys,by rw[hp,ha.strs],hs,L.val M k rfl⟩
 ·exact k.elim
def fCount:DMt:=fun d ds μ K=>match d,ds with
 | .str z,[.str y]=>∃ c:Nat,y=⟨#[c]⟩/\K (.int ((z.cps.toList.count c:Nat):Int)) μ
 | _,_=>False
def Bm {Kf:aa}:SoMt Kf "str" zM fCount:=fun φ H x vs d ds μ K Q M hx h k L=>by
 unfold fCount at k
 split at k
 ·cases(show x=_ from hx)
  obtain⟨v,r,rfl,h1,h2⟩:=h;cases(show r=[]from h2);cases(show v=_ from h1)
  obtain⟨c,rfl,k⟩:=k
  exact⟨c,rfl,L.val M k rfl⟩
 ·exact k.elim
def mr_at {φ:List Addr}{H:Hp}{μ:MS}{k:Nat}{x:V}{ds:List D}(M:eJ φ H μ)(hx:iL φ H (.mr k) x)(e:μ[k]?=some (.lst ds)):∃ p vs,x=.ref p/\φ[k]?=some p/\H p=some (.lst vs)/\d7 φ H ds vs:=by
 obtain⟨p,hp,rfl⟩:=hx
 obtain⟨q,e1,vs,hv,ha⟩:=M.at_ k _ e
 rw[hp]at e1;cases e1
 exact⟨p,vs,rfl,hp,hv,ha⟩
def mr_put {φ:List Addr}{H:Hp}{μ:MS}{K:DK}{Q:VK}{k:Nat}{p:Addr}{ds:List D}{vs:List V}{d:D}{v:V}(L:tZ φ H K Q)(M:eJ φ H μ)(hp:φ[k]?=some p)(ha:d7 φ H ds vs)(hd:iL φ H d v)(kk:K d (μ.set k (.lst ds))):Q v (upd H p (.lst vs)):=by
 have f:Fr φ H φ (upd H p (.lst vs)):=.put (Ak hp)
 exact L d _ φ v _ kk f (M.put hp ⟨_,dW,ha.mono f⟩) (hd.mono f)
def FL:DMt:=fun d ds μ K=>match d,ds with
 | .mr k,[y]=>opt (Ag μ k) fun xs=>xs.length<sizeLine/\K .fV (μ.set k (.lst (xs++[y])))
 | _,_=>False
def yn {Kf:aa}:SoMt Kf "list" By FL:=fun φ H x vs d ds μ K Q M hx h k L=>by
 unfold FL at k
 split at k
 ·obtain⟨xs,em,k⟩:=gD k
  ·obtain⟨p,us,rfl,hp,hv,ha⟩:=mr_at M hx (qE em)
   obtain⟨v,r,rfl,h1,h2⟩:=h;cases(show r=[]from h2)
   exact⟨_,_,us,rfl,rfl,hv,by rw[ha.len];exact k.1,mr_put (d:=.fV) (v:=.fV) L M hp (ha.app (show d7 φ H [_] [v]from⟨v,[],rfl,h1,rfl⟩)) rfl k.2⟩
 ·exact k.elim
def so_ipI {f:Int->Int->Int}:SoIp (ipC f) (xk fun i j=>.int (f i j)):=fun φ H x y dx dy μ K Q M hx hy k L=>by
 unfold xk at k
 split at k
 ·cases(show x=_ from hx);cases(show y=_ from hy);exact L.val M k rfl
 ·exact k.elim
mutual
def deq:D->D->Bool
 | .fV,.fV=>true
 | .bl a,.bl b=>a==b
 | .bl a,.int b=>(if a then 1 else 0)==b
 | .int a,.bl b=>a==(if b then 1 else 0)
 | .int a,.int b=>a==b
 | .str a,.str b=>a==b
 | .lst xs,.lst ys=>deqL xs ys
 | .tup xs,.tup ys=>deqL xs ys
 | _,_=>false
def deqL:List D->List D->Bool
 | [],[]=>true
 | x::xs,y::ys=>deq x y&&deqL xs ys
 | _,_=>false
end
end L2
namespace L2
open PySem PySem.Spec PyProof.Rows
def Am:D->Bool
 | .fV=>true
 | .bl _=>true
 | .int _=>true
 | .str _=>true
 | _=>false
section
variable {X:Cx}
def Bx (neg:Bool):R2:=fun x y H Q=>match x,y with
 | .str z,.str t=>∃ c:Nat,z=⟨#[c]⟩/\Q (.bl (neg != decide (c∈t.cps.toList))) H
 | x,.ref p=>∃ xs,(H p=some (.lst xs)\/H p=some (.tup xs))/\kD x=true/\xs.all kD=true/\Q (.bl (neg != inV x xs)) H
 | _,_=>False
def inC:jm X (compareOp .In) (Bx false):=(op_in_str.or op_in_seq).imp fun x y H Q q=>by
 unfold Bx at q
 split at q
 ·obtain⟨c,rfl,q⟩:=q
  exact .inl ⟨_,_,rfl,rfl,by rw[StrLaws.found_one];rw[fne]at q;exact q⟩
 ·obtain⟨xs,h,h1,h2,q⟩:=q
  rw[fne]at q
  rcases h with h | h
  ·exact .inr ⟨_,xs,rfl,.inl (pS.of h),h1,h2,q⟩
  ·exact .inr ⟨_,xs,rfl,.inr (AS.of h),h1,h2,q⟩
 ·exact q.elim
def notInC:jm X (compareOp .NotIn) (Bx true):=(zR.or zS).imp fun x y H Q q=>by
 unfold Bx at q
 split at q
 ·obtain⟨c,rfl,q⟩:=q
  exact .inl ⟨_,_,rfl,rfl,by rw[StrLaws.found_one];rw[tne]at q;exact q⟩
 ·obtain⟨xs,h,h1,h2,q⟩:=q
  rw[tne]at q
  rcases h with h | h
  ·exact .inr ⟨_,xs,rfl,.inl (pS.of h),h1,h2,q⟩
  ·exact .inr ⟨_,xs,rfl,.inr (AS.of h),h1,h2,q⟩
 ·exact q.elim
end
def dIn (neg:Bool):uY:=fun x y μ K=>match x,y with
 | .str z,.str t=>∃ c:Nat,z=⟨#[c]⟩/\K (.bl (neg != decide (c∈t.cps.toList))) μ
 | x,y=>opt (lv μ y) fun ds=>Am x=true/\ds.all Am=true/\K (.bl (neg != ds.any fun d=>deq d x)) μ
def Ei {φ:List Addr}{H:Hp}{d:D}{v:V}(i:iL φ H d v)(h:Am d=true):kD v=true:=by
 cases d <;> first | exact(Bool.noConfusion (show false=true from h)) | (cases(show v=_ from i);rfl)
def flt_eq {φ:List Addr}{H:Hp}{d e:D}{v u:V}(i:iL φ H d v)(j:iL φ H e u)(h:Am d=true)(h':Am e=true):eqV v u=deq d e:=by
 cases d <;> first
  | exact(Bool.noConfusion (show false=true from h))
  | (cases(show v=_ from i)
     cases e <;> first
      | exact(Bool.noConfusion (show false=true from h'))
      | (cases(show u=_ from j);unfold eqV deq;rfl))
def Al {φ:List Addr}{H:Hp}{x:D}{v:V}(i:iL φ H x v)(hx:Am x=true):∀ {ds:List D} {vs:List V},d7 φ H ds vs->ds.all Am=true->vs.all kD=true/\inV v vs=ds.any fun d=>deq d x
 | [],_,h,_=>by cases(show _=[]from h);exact⟨rfl,rfl⟩
 | d::ds,_,h,f=>by
  obtain⟨u,r,rfl,h1,h2⟩:=h
  rw[cQ,aO]at f
  obtain⟨a,b⟩:=Al i hx h2 f.2
  unfold inV at b ⊢
  rw[cQ,bt,bt,a,b,Ei h1 f.1,flt_eq h1 i f.1 hx]
  exact⟨rfl,rfl⟩
def so_in {neg:Bool}:oO (Bx neg) (dIn neg):=fun φ H x y dx dy μ K Q M hx hy k L=>by
 unfold dIn at k
 split at k
 ·cases(show x=_ from hx);cases(show y=_ from hy)
  obtain⟨c,rfl,k⟩:=k
  exact⟨c,rfl,L.val M k rfl⟩
 ·obtain⟨ds,el,f1,f2,k⟩:=gD k
  obtain⟨p,vs,rfl,hp,ha⟩:=qu M hy el
  obtain⟨a,b⟩:=Al hx f1 ha f2
  have fx:=Ei hx f1
  have key:∃ xs,(H p=some (.lst xs)\/H p=some (.tup xs))/\kD x=true/\xs.all kD=true/\Q (.bl (neg != inV x xs)) H:=⟨vs,.inl hp,fx,a,by rw[b];exact L.val M k rfl⟩
  unfold Bx
  cases x <;> exact key
def range_any (bs:List Bool):(List.range bs.length).any (fun i=>bs.getD i false)=bs.any id:=by
 rw[cD,List.any_eq_true,List.any_eq_true]
 constructor
 ·rintro⟨i,hi,e⟩
  have hi':i<bs.length:=by simpa using hi
  rw[aZ,ux hi']at e
  exact⟨_,cM hi',e⟩
 ·rintro⟨b,hb,e⟩
  obtain⟨i,hi,e2⟩:=cp hb
  refine⟨i,by simpa using hi,?_⟩
  rw[aZ,ux hi,e2]
  exact e
def anyC {X:Cx}(hc:X.calm=true):ia X (.builtin "any") (Bz fun bs=>bs.any id):=by
 intro dg s σ H vs us Q I rv h
 unfold Bz at h
 split at h
 ·rename_i p
  obtain⟨bs,hp,q⟩:=h
  obtain⟨u,rfl,ru⟩:=rv.one
  cases ru
  obtain⟨z,eK,n,r,hl,e⟩:=I.wG hp
  have isl:s.heap.IsList p eK.toArray:=⟨_,e,rfl,n,rfl⟩
  have lt:p≠s.heap.objs.size:=aF (jK e)
  refine call_any_walk (wpAny_pyIter_list isl ⟨_,_,_,_,_,_,fun i=>bs.getD i false,rfl,Walks.list (A:=X.A.in1) (I.ok.hd hc) s.heap.objs.size p lt eK.toArray,⟨⟨_,aB _ rfl,rfl,rfl⟩,isl.push _⟩,?_,fun h' tk kp=>?_⟩)
  ·intro i v s' Q' E' hv hq
   have hv':eK[i]?=some v:=by simpa using hv
   have hb:∃ b,bs[i]?=some b/\v=.bool b:=by
    cases eb:(bs.map V.bl)[i]? with
    | none=>have:=r.none_of eb;rw[hv']at this;cases this
    | some y =>
     obtain⟨u,hu,ry⟩:=r.get eb
     rw[hv']at hu;cases hu
     rw[uw]at eb
     cases e2:bs[i]? with
     | none=>rw[e2]at eb;cases eb
     | some b=>rw[e2]at eb;cases eb;exact⟨b,rfl,ry⟩
   obtain⟨b,eb,rfl⟩:=hb
   have e3:bs.getD i false=b:=by rw[aZ,eb];rfl
   have hq':Q' (bs.getD i false) s':=hq
   rw[e3]at hq'
   exact bJ hq'
  ·have I2:Inv X dg σ H { s with heap:=h',toks:=tk}:=I.dj fun b o e'=>kp b o (by simpa using aF (jK e')) (jt _ e')
   have len:eK.toArray.size=bs.length:=by rw[aA,<- hl,fF]
   rw[len,range_any]
   exact⟨.bl _,H,I2,rfl,q⟩
 ·exact h.elim
def BxQ (H:Hp)(b q:Addr):Prop:=∃(ns:List Int) (i r z:Int),H b=some (.lst [.ref q,.int i,.int r,.int z])/\H q=some (.lst (ns.map V.int))/\q≠b/\0<=i/\0<=z/\z<2147483647
def u0:Sp:=fun vs H Q _=>match vs with
 | [.ref b,.int n]=>∃ q,BxQ H b q/\0<n/\n<1073741824/\∀ v H',0<=v->v<n->BxQ H' b q->OB b H H'->Q (.int v) H'
 | _=>False
def ua {vs:List V}{H:Hp}{Q:VK}{E:XK}(h:u0 vs H Q E):∃ b n q,vs=[.ref b,.int n]/\BxQ H b q/\0<n/\n<1073741824/\∀ v H',0<=v->v<n->BxQ H' b q->OB b H H'->Q (.int v) H':=by
 unfold u0 at h
 split at h
 ·obtain⟨q,h⟩:=h;exact⟨_,_,q,rfl,h⟩
 ·exact h.elim
def FK:jg:=fun ds μ K=>match ds with
 | [.mr k,.int n]=>μ[k]?=some .box/\0<n/\n<1073741824/\∀ v,0<=v->v<n->K (.int v) μ
 | _=>False
def take_imp {vs:List V}{H:Hp}{Q:VK}{E:XK}(h:gO FK vs H Q E):u0 vs H Q E:=by
 obtain⟨φ,ds,μ,K,ha,M,k,L⟩:=h
 unfold FK at k
 split at k
 ·rename_i kk n
  obtain⟨v,r,rfl,h1,u,r',rfl,h2,h3⟩:=ha
  cases(show r'=[]from h3);cases(show u=_ from h2)
  obtain⟨b,hb,rfl⟩:=h1
  obtain⟨em,hn,hn2,k⟩:=k
  obtain⟨b',e1,q,ns,i,r,z,g1,g2,g3,g4,g5,g6⟩:=M.at_ kk _ em
  rw[hb]at e1;cases e1
  have bin:b∈φ:=Ak hb
  have qb:q≠b:=fun e=>g3 (by rw[e];exact bin)
  refine⟨q,⟨ns,i,r,z,g1,g2,qb,g4,g5,g6⟩,hn,hn2,fun v H' v0 v1 B' ob=>?_⟩
  obtain⟨ns',i',r',z',b1,b2,b3,b4,b5,b6⟩:=B'
  have f:Fr φ H φ H':=⟨⟨[],by simp,fun _ h=>nomatch h⟩,fun c o hc e=>(ob c (fun e'=>hc (by rw[e'];exact bin))).trans e,fun c e=>by
   by_cases hc:c=b
   ·rw[hc,b1]at e;cases e
   ·rw[<- ob c hc];exact e⟩
  refine L _ μ φ _ H' (k v v0 v1) f ⟨M.nd,M.len,fun j m ej=>?_⟩ rfl
  by_cases hj:j=kk
  ·subst hj
   rw[em]at ej;cases ej
   exact⟨b,hb,q,ns',i',r',z',b1,b2,g3,b4,b5,b6⟩
  ·obtain⟨p,e1,e2⟩:=M.at_ j m ej
   refine⟨p,e1,e2.mono f fun o eo=>?_⟩
   have pb:p≠b:=fun e=>by
    subst e
    obtain⟨i1,r1⟩:=lK hb
    obtain⟨i2,r2⟩:=lK e1
    rcases Nat.lt_or_gt_of_ne hj with z | z
    ·exact List.pairwise_iff_getElem.mp M.nd j kk i2 i1 z (r2.trans r1.symm)
    ·exact List.pairwise_iff_getElem.mp M.nd kk j i1 i2 z (r1.trans r2.symm)
   rw[ob p pb];exact eo
 ·exact k.elim
def y3 (K:aa):Sp:=fun vs H Q _=>match vs with
 | [.ref a]=>∃ ns:List Int,pS K H a (ns.map V.int)/\∀ b q H',BxQ H' b q->H b=none->H q=none->gG H H'->Q (.ref b) H'
 | _=>False
def box_start {H:Hp}{b q:Addr}(h:BxQ H b q):eJ [b] H [.box]:=by
 obtain⟨ns,i,r,z,h1,h2,h3,h4,h5,h6⟩:=h
 refine⟨by simp,rfl,fun k m e=>?_⟩
 cases k with
 | zero=>cases e;exact⟨b,rfl,q,ns,i,r,z,h1,h2,by simpa using h3,h4,h5,h6⟩
 | succ k=>simp at e
mutual
def oA:Nat->D->Prop
 | n+1,.lst ds=>ds.length<=100000/\smL n ds
 | n+1,.tup ds=>ds.length<=100000/\smL n ds
 | 0,.lst _=>False
 | 0,.tup _=>False
 | _,.iD _ _=>False
 | _,.mr _=>False
 | _,.obj _ _ _=>False
 | _,.lD _ _=>False
 | _,.fn _=>False
 | _,_=>True
def smL:Nat->List D->Prop
 | _,[]=>True
 | n,d::ds=>oA n d/\smL n ds
end
def y9 {n:Nat}:∀ {ds:List D},(∀ d∈ds,oA n d)->smL n ds
 | [],_=>by unfold smL;trivial
 | d::ds,h=>by unfold smL;exact⟨h d aC,y9 fun x hx=>h x (nV _ hx)⟩
def vQ {n:Nat}{ds:List D}(hl:ds.length<=100000)(h:∀ d∈ds,oA n d):oA (n+1) (.lst ds):=by unfold oA;exact⟨hl,y9 h⟩
def tf {n:Nat}{ds:List D}(hl:ds.length<=100000)(h:∀ d∈ds,oA n d):oA (n+1) (.tup ds):=by unfold oA;exact⟨hl,y9 h⟩
def ku {n:Nat}{i:Int}:oA n (.int i):=by cases n <;> (unfold oA;trivial)
def jd {n:Nat}{i:Str}:oA n (.str i):=by cases n <;> (unfold oA;trivial)
def sm_bl {n:Nat}{i:Bool}:oA n (.bl i):=by cases n <;> (unfold oA;trivial)
def sm_ints {n:Nat}{ns:List Int}(h:ns.length<=100000):oA (n+1) (.lst (ns.map D.int)):=vQ (by rw[fF];exact h) fun d hd=>by
 obtain⟨i,_,rfl⟩:=List.mem_map.mp hd;exact ku
mutual
def sX:D->DV
 | .fV=>.fV
 | .bl b=>.bl b
 | .int i=>.int i
 | .str z=>.str z
 | .lst ds=>.lst (o3 ds)
 | .tup ds=>.tup (o3 ds)
 | _=>.fV
def o3:List D->List DV
 | []=>[]
 | d::ds=>sX d::o3 ds
end
def sW:∀ ds:List D,(o3 ds).length=ds.length
 | []=>rfl
 | d::ds=>by unfold o3;rw[aI,aI,sW ds]
mutual
def o6 {φ:List Addr}{H:Hp}:∀ {n:Nat} {d:D},oA n d->(∀ v,iL φ H d v->Is H (sX d) v)/\dep (sX d)<=n/\wid (sX d)<=100000:=fun {n d} h=>by
 cases d with
 | lst ds =>
  cases n with
  | zero=>exact absurd h (by unfold oA;exact id)
  | succ n =>
   unfold oA at h
   obtain⟨a,b,c⟩:=y6 (φ:=φ) (H:=H) h.2
   refine⟨fun v hv=>?_,?_,?_⟩
   ·obtain⟨p,vs,rfl,_,hp,q⟩:=hv
    unfold sX
    exact⟨p,vs,rfl,hp,a vs q⟩
   ·unfold sX dep;omega
   ·have:=sW ds
    unfold sX wid;omega
 | tup ds =>
  cases n with
  | zero=>exact absurd h (by unfold oA;exact id)
  | succ n =>
   unfold oA at h
   obtain⟨a,b,c⟩:=y6 (φ:=φ) (H:=H) h.2
   refine⟨fun v hv=>?_,?_,?_⟩
   ·obtain⟨p,vs,rfl,_,hp,q⟩:=hv
    unfold sX
    exact⟨p,vs,rfl,hp,a vs q⟩
   ·unfold sX dep;omega
   ·have:=sW ds
    unfold sX wid;omega
 | fV=>exact⟨fun v hv=>hv,aY _,aY _⟩
 | bl b=>exact⟨fun v hv=>hv,aY _,aY _⟩
 | int b=>exact⟨fun v hv=>hv,aY _,aY _⟩
 | str b=>exact⟨fun v hv=>hv,aY _,aY _⟩
 | iD _ _=>exact absurd h (by cases n <;> (unfold oA;exact id))
 | mr _=>exact absurd h (by cases n <;> (unfold oA;exact id))
 | obj _ _ _=>exact absurd h (by cases n <;> (unfold oA;exact id))
 | lD _ _=>exact absurd h (by cases n <;> (unfold oA;exact id))
 | fn _=>exact absurd h (by cases n <;> (unfold oA;exact id))
def y6 {φ:List Addr}{H:Hp}:∀ {n:Nat} {ds:List D},smL n ds->(∀ vs,d7 φ H ds vs->kn H (o3 ds) vs)/\yc (o3 ds)<=n/\xK (o3 ds)<=100000:=fun {n ds} h=>by
 cases ds with
 | nil=>exact⟨fun vs hv=>hv,aY _,aY _⟩
 | cons d ds =>
  unfold smL at h
  obtain⟨a,b,c⟩:=o6 (φ:=φ) (H:=H) h.1
  obtain⟨a',b',c'⟩:=y6 (φ:=φ) (H:=H) h.2
  refine⟨fun vs hv=>?_,?_,?_⟩
  ·obtain⟨v,r,rfl,h1,h2⟩:=hv
   unfold o3
   exact⟨v,r,rfl,a v h1,a' r h2⟩
  ·unfold o3 yc;omega
  ·unfold o3 xK;omega
end
def frzD (μ:MS):D->Option D
 | .mr k=>(Ag μ k).map .lst
 | x=>some x
def FI {φ:List Addr}{H:Hp}{μ:MS}{x d:D}{v:V}{n:Nat}(M:eJ φ H μ)(e:frzD μ x=some d)(hs:oA n d)(h:iL φ H x v):Is H (sX d) v:=by
 cases x with
 | mr k =>
  obtain⟨p,hp,rfl⟩:=h
  have e':(Ag μ k).map D.lst=some d:=e
  cases q:Ag μ k with
  | none=>rw[q]at e';cases e'
  | some ds =>
   rw[q]at e';cases e'
   obtain⟨p',e1,vs,hv,ha⟩:=M.at_ k _ (qE q)
   rw[hp]at e1;cases e1
   cases n with
   | zero=>exact absurd hs (by unfold oA;exact id)
   | succ n =>
    unfold oA at hs
    unfold sX
    exact⟨p,vs,rfl,hv,(y6 (φ:=φ) (H:=H) hs.2).1 vs ha⟩
 | fV=>cases e;exact(o6 (φ:=φ) (H:=H) hs).1 v h
 | bl b=>cases e;exact(o6 (φ:=φ) (H:=H) hs).1 v h
 | int b=>cases e;exact(o6 (φ:=φ) (H:=H) hs).1 v h
 | str b=>cases e;exact(o6 (φ:=φ) (H:=H) hs).1 v h
 | lst b=>cases e;exact(o6 (φ:=φ) (H:=H) hs).1 v h
 | tup b=>cases e;exact(o6 (φ:=φ) (H:=H) hs).1 v h
 | obj _ _ _=>cases e;exact(o6 (φ:=φ) (H:=H) hs).1 v h
 | lD _ _=>cases e;exact(o6 (φ:=φ) (H:=H) hs).1 v h
 | fn _=>cases e;exact(o6 (φ:=φ) (H:=H) hs).1 v h
 | iD _ _=>cases e;exact absurd hs (by cases n <;> (unfold oA;exact id))
def fSame:jg:=fun ds μ K=>match ds with
 | [x,y]=>∃ d,frzD μ x=some d/\frzD μ y=some d/\oA 5 d/\K (.bl true) μ
 | _=>False
def same_imp {vs:List V}{H:Hp}{Q:VK}{E:XK}(h:gO fSame vs H Q E):sY 5 vs H Q E:=by
 obtain⟨φ,ds,μ,K,ha,M,k,L⟩:=h
 unfold fSame at k
 split at k
 ·obtain⟨v,r,rfl,h1,u,r',rfl,h2,h3⟩:=ha
  cases(show r'=[]from h3)
  obtain⟨d,e1,e2,hs,k⟩:=k
  obtain⟨a,b,c⟩:=o6 (φ:=φ) (H:=H) hs
  exact⟨sX d,b,b7 c (by decide),FI M e1 hs h1,FI M e2 hs h2,fun H' S=>L _ μ φ _ H' k (.same S) (M.same S) rfl⟩
 ·exact k.elim
def jD {g:DG}{b:Ds}{N:DN}{c:MS->Prop}(Pv:List D->DE->MS->Prop):∀ {ds:List D} {ρ:DE} {μ:MS},Pv ds ρ μ->(∀ d ds' ρ μ,Pv (d::ds') ρ μ->c μ/\∀(nx:DE->MS->Prop),(∀ iO μ',Pv ds' iO μ'->nx iO μ')->g d ρ μ fun kT fw=>b { N with nx:=nx,ct:=nx,bk:=N.nx} kT fw)->(∀ ρ μ,Pv [] ρ μ->c μ/\N.nx ρ μ)->ya g b N c ds ρ μ
 | [],ρ,μ,h,hs,hd=>hd ρ μ h
 | d::ds,ρ,μ,h,hs,hd=>by
  obtain⟨c',st⟩:=hs d ds ρ μ h
  exact⟨c',st _ fun iO μ' h'=>jD Pv h' hs hd⟩
end L2
namespace L2
open PySem PySem.Spec PyProof.Rows
structure ir (mg:Str->Option Value):Prop where
 len:mg "len"=none
 range:mg "range"=none
 list:mg "list"=none
 isinstance:mg "isinstance"=none
 max:mg "max"=none
 min:mg "min"=none
 bool:mg "bool"=none
 tuple:mg "tuple"=none
 str:mg "str"=none
 int:mg "int"=none
 all:mg "all"=none
 any:mg "any"=none
 zip:mg "zip"=none
 enumerate:mg "enumerate"=none
 reversed:mg "reversed"=none
 dict:mg "dict"=none
 sorted:mg "sorted"=none
abbrev txt (l:List Nat):Str:=⟨l.toArray⟩
def Cm:jg:=fun ds μ K=>match ds with
 | [.mr k,.int n]=>μ[k]?=some .box/\1<=n/\n<=1000/\∀ l:List Nat,l.length=n.toNat->OX l->K (.str (txt l)) μ
 | _=>False
abbrev Tk:=List Nat×Int
def jq (t:Tk):D:=.tup [.str (txt t.1),.int t.2]
def sz {n:Nat}(h:n<=100000):n<=sizeLine:=az h (by decide)
def cutN (l:List Nat)(a b:Int):List Nat:=gN l (some a) (some b)
def bad (ts:List Tk)(p:Int×Int):Bool:=ts.all fun t=>decide (120∈cutN t.1 p.1 p.2)
def qg {α:Type}(g:α->D)(P:α->Prop){it:D->MS->(Option D->MS->Prop)->Prop}{c:MS->Prop}{μ:MS}(hc:c μ):∀ {ds:List D} {K:List D->MS->Prop},(∀ d∈ds,∀(K':Option D->MS->Prop),(∀ a,P a->K' (some (g a)) μ)->it d μ K')->(∀ as:List α,as.length=ds.length->(∀ a∈as,P a)->K (as.map g) μ)->sD it c ds μ K
 | [],K,_,k=>⟨hc,k [] rfl fun _ h=>nomatch h⟩
 | d::ds,K,h,k=>⟨hc,h d aC _ fun a ha=>qg g P hc (fun x hx=>h x (nV _ hx)) fun as hl hp=>k (a::as) (by rw[aI,aI,hl]) fun x hx=>by
  rcases List.mem_cons.mp hx with e | e
  ·rw[e];exact ha
  ·exact hp x e⟩
def Fi (lo:Int)(n:Nat):kN lo n=((List.range n).map fun i=>lo+(i:Nat)).map D.int:=by unfold kN;rw[aG];rfl
def iz (lo:Int)(n:Nat):(kN lo n).length=n:=by unfold kN;rw[fF,gxJ]
def sM {α β:Type}{g:α->β}{xs:List α}{i:Nat}{a:α}(h:xs[i]?=some a):qV (xs.map g) (i:Int)=some (g a):=kQ (by rw[uw,h];rfl)
def lM (l:List Nat):(txt l).length=l.length:=D8 l
def n5 {α:Type}(l:List α)(lo hi:Option Int):(gN l lo hi).length<=l.length:=CD l lo hi
def sm_tk {n:Nat}(t:Tk):oA (n+1) (jq t):=by
 unfold jq
 refine tf (by simp) fun d hd=>?_
 simp only[bH,br,cI]at hd
 rcases hd with rfl | rfl
 ·exact jd
 ·exact ku
def sm_tks {n:Nat}{ts:List Tk}(h:ts.length<=100000):oA (n+2) (.lst (ts.map jq)):=vQ (by rw[fF];exact h) fun d hd=>by
 obtain⟨t,_,rfl⟩:=List.mem_map.mp hd;exact sm_tk t
def gb {μ:MS}{x y:MO}:(μ++[x]).set μ.length y=μ++[y]:=by
 rw[List.set_append_right _ _ (ah _),aT];rfl
def law_env {m:Nat}{b:Addr}{H:Hp}{x:Option V}:i8 [b] H (none::some (.mr 0)::List.replicate m none) (x::some (.ref b)::List.replicate m none):=by
 refine⟨by simp,fun i d e=>?_⟩
 cases i with
 | zero=>cases e
 | succ i =>
  cases i with
  | zero=>cases e;exact⟨_,rfl,b,rfl,rfl⟩
  | succ i =>
   have:=List.eq_of_mem_replicate (Ak (show(List.replicate m (none:Option D))[i]?=some (some d)from e))
   cases this
def lawN:DN:={ nx:=fun _ _=>False,rt:=fun d _=>d=.bl true}
def law_go {m:Nat}{b q a:Addr}{H:Hp}{Q:VK}{W:Ds}(B:BxQ H b q)(w:W lawN (none::some (.mr 0)::List.replicate m none) [.box])(k:∀ H',Q (.bl true) H'):tDS W { nx:=fun _ H'=>Q .fV H',rt:=Q} (some (.ref a)::some (.ref b)::List.replicate m none) H :=
 ⟨[b],_,[.box],lawN,law_env,box_start B,w,⟨fun _ _ _ _ _ z=>z.elim,fun d μ' eR v H' kd _ _ i=>by cases(show d=.bl true from kd);cases(show v=_ from i);exact k H',fun _ _ _ _ _ z=>z.elim,fun _ _ _ _ _ z=>z.elim⟩⟩
section
variable {κ:Type}[DecidableEq κ]
def mQ (kvs:List (κ×V))(k:κ):Option V:=(kvs.find? fun kv=>decide (kv.1=k)).map (·.2)
def putK (kvs:List (κ×V))(k:κ)(v:V):List (κ×V) :=
 if(kvs.any fun kv=>decide (kv.1=k))=true then kvs.map (fun kv=>if kv.1=k then(kv.1,v)else kv)else kvs++[(k,v)]
def qy (kvs:List (κ×V))(k:κ):List (κ×V):=kvs.filter fun kv=>decide (kv.1≠k)
def oV {p:κ×V}{r:List (κ×V)}{k:κ}(e:p.1=k):mQ (p::r) k=some p.2:=by simp[mQ,bu,e]
def oW {p:κ×V}{r:List (κ×V)}{k:κ}(e:¬ p.1=k):mQ (p::r) k=mQ r k:=by simp[mQ,bu,e]
def Be (k:κ):∀ kvs:List (κ×V),(kvs.any fun kv=>decide (kv.1=k))=(mQ kvs k).isSome
 | []=>rfl
 | p::r=>by
  rw[bt]
  by_cases e:p.1=k
  ·simp only[oV e,ak e,Bool.true_or,Option.isSome_some]
  ·rw[oW e,au e,Bool.false_or];exact Be k r
def pq (kvs:List (κ×V))(k:κ)(v:V):(putK kvs k v).length<=kvs.length+1:=by
 unfold putK
 split
 ·rw[fF];omega
 ·rw[lx,aI,bX];omega
def pT.kX {o:Option V}{u:Option Value}(r:pT o u):o.isSome=u.isSome:=by
 cases o with
 | none=>cases u with
  | none=>rfl
  | some _=>exact(show False from r).elim
 | some _=>cases u with
  | none=>exact(show False from r).elim
  | some _=>rfl
def KV.val {kvs:List (κ×V)}{vs:List (κ×Value)}(r:KV kvs vs)(k:κ):pT (mQ kvs k) (valueAt vs k):=by
 unfold KV at r
 induction r with
 | nil=>exact True.intro
 | @cons p q ps qs h t ih =>
  obtain⟨h1,h2⟩:=h
  by_cases e:p.1=k
  ·have e':q.1=k:=h1.symm.trans e
   have b:valueAt (q::qs) k=some q.2:=by simp[valueAt,bu,e']
   rw[oV e,b];exact h2
  ·have e':¬ q.1=k:=fun z=>e (h1.trans z)
   have b:valueAt (q::qs) k=valueAt qs k:=by simp[valueAt,bu,e']
   rw[oW e,b];exact ih
def KV.any {kvs:List (κ×V)}{vs:List (κ×Value)}(r:KV kvs vs)(k:κ):(kvs.any fun kv=>decide (kv.1=k))=vs.any fun kv=>decide (kv.1=k):=by
 unfold KV at r
 induction r with
 | nil=>rfl
 | cons h t ih=>rw[bt,bt,ih,h.1]
def KV.repl {kvs:List (κ×V)}{vs:List (κ×Value)}(r:KV kvs vs)(k:κ){y:V}{u:Value}(ry:eP y u) :
 KV (kvs.map fun kv=>if kv.1=k then(kv.1,y)else kv) (vs.map fun kv=>if kv.1=k then(kv.1,u)else kv):=by
 unfold KV at r ⊢
 induction r with
 | nil=>exact .nil
 | @cons p q ps qs h t ih =>
  rw[ao,ao]
  refine .cons ?_ ih
  obtain⟨h1,h2⟩:=h
  by_cases e:p.1=k
  ·rw[aj e,aj (h1.symm.trans e)];exact⟨h1,ry⟩
  ·rw[ai e,ai (fun z=>e (h1.trans z))];exact⟨h1,h2⟩
def KV.put {kvs:List (κ×V)}{vs:List (κ×Value)}(r:KV kvs vs)(k:κ){y:V}{u:Value}(ry:eP y u):KV (putK kvs k y) (stored vs k u):=by
 unfold putK stored
 rw[r.any k]
 by_cases e:(vs.any fun kv=>decide (kv.1=k))=true
 ·rw[aj e,aj e];exact r.repl k ry
 ·rw[ai e,ai e];exact Paired.snoc r ⟨rfl,ry⟩
def KV.drop {kvs:List (κ×V)}{vs:List (κ×Value)}(r:KV kvs vs)(k:κ):KV (qy kvs k) (without vs k):=by
 unfold KV at r ⊢
 unfold qy without
 induction r with
 | nil=>exact .nil
 | @cons p q ps qs h t ih =>
  obtain⟨h1,h2⟩:=h
  rw[bb,bb]
  by_cases e:p.1=k
  ·have a:¬ decide (p.1≠k)=true:=by simp[e]
   have b:¬ decide (q.1≠k)=true:=by simp[h1.symm.trans e]
   rw[ai a,ai b];exact ih
  ·have e':¬ q.1=k:=fun z=>e (h1.trans z)
   have a:decide (p.1≠k)=true:=by simp[e]
   have b:decide (q.1≠k)=true:=by simp[e']
   rw[aj a,aj b];exact .cons ⟨h1,h2⟩ ih
def KV.length {kvs:List (κ×V)}{vs:List (κ×Value)}(r:KV kvs vs):kvs.length=vs.length:=Paired.length r
def Cs (kvs:List (κ×V))(k:κ):(qy kvs k).length<=kvs.length:=bG _ _
end
def rS {P:ae}{w:af}{k:Key}{u:Value}(r:eP (kV k) u):(fh P w).is k u=true:=by
 cases k with
 | inl i=>obtain⟨t,e⟩:=(show ∃ t,u=Value.int i t from r);subst e;exact BW P w i t
 | inr x=>obtain⟨t,e⟩:=(show ∃ t,u=Value.str x t from r);subst e;exact BV P w x t
def yz {P:ae}{w:af}:∀ {ks:List Key} {us:List Value},eX (ks.map kV) us->ItemsAre (fh P w) ks us
 | [],_,r=>by rw[List.map_nil]at r;cases r;exact .nil
 | k::ks,_,r=>by
  rw[ao]at r
  cases r with
  | cons h t=>exact .cons (rS h) (yz t)
abbrev KT (H:Hp):List (List Key×V)->List (List Key×Addr×Value)->Prop:=Paired fun p q=>p.1=q.1/\H q.2.1=some (.tup (p.1.map kV))/\eP p.2 q.2.2
def KT.val {H:Hp}{kvs:List (List Key×V)}{xs:List (List Key×Addr×Value)}(r:KT H kvs xs)(k:List Key):pT (mQ kvs k) ((atKey xs k).map (·.2)):=by
 induction r with
 | nil=>exact True.intro
 | @cons p q ps qs h t ih =>
  obtain⟨h1,_,h2⟩:=h
  by_cases e:p.1=k
  ·have e':q.1=k:=h1.symm.trans e
   have b:atKey (q::qs) k=some q.2:=by simp[atKey,bu,e']
   rw[oV e,b];exact h2
  ·have e':¬ q.1=k:=fun z=>e (h1.trans z)
   have b:atKey (q::qs) k=atKey qs k:=by simp[atKey,bu,e']
   rw[oW e,b];exact ih
def KT.repl {H:Hp}{kvs:List (List Key×V)}{xs:List (List Key×Addr×Value)}(r:KT H kvs xs)(k:List Key){y:V}{u:Value}(ry:eP y u) :
 KT H (kvs.map fun kv=>if kv.1=k then(kv.1,y)else kv) (xs.map (putAt k u)):=by
 induction r with
 | nil=>exact .nil
 | @cons p q ps qs h t ih =>
  rw[ao,ao]
  refine .cons ?_ ih
  obtain⟨h1,h2,h3⟩:=h
  unfold putAt
  by_cases e:p.1=k
  ·rw[aj e,aj (h1.symm.trans e)];exact⟨h1,h2,ry⟩
  ·rw[ai e,ai (fun z=>e (h1.trans z))];exact⟨h1,h2,h3⟩
def KT.put {H:Hp}{kvs:List (List Key×V)}{xs:List (List Key×Addr×Value)}(r:KT H kvs xs)(k:List Key){b:Addr}{y:V}{u:Value}(hb:H b=some (.tup (k.map kV)))(ry:eP y u) :
 KT H (putK kvs k y) (storedH xs k b u):=by
 have e:(kvs.any fun kv=>decide (kv.1=k))=(atKey xs k).isSome:=by
  rw[Be,(r.val k).kX,bA]
 unfold putK storedH
 rw[e]
 by_cases q:(atKey xs k).isSome=true
 ·rw[aj q,aj q];exact r.repl k ry
 ·rw[ai q,ai q];exact Paired.snoc r ⟨rfl,hb,ry⟩
def KT.keeps {H H':Hp}{kvs:List (List Key×V)}{xs:List (List Key×Addr×Value)}(r:KT H kvs xs)(ht:∀ b ys,H b=some (.tup ys)->H' b=some (.tup ys)):KT H' kvs xs :=
 Paired.mapP r fun _ _ z=>⟨z.1,ht _ _ z.2.1,z.2.2⟩
section
variable {P:ae}{w:af}{H:Hp}{h:Heap}{a:Addr}
def rd_of {u:HO}(ok:ot P w H h)(e:Rd H a u):fJ P w H h a u:=e.ok ok
def mv {kvs:List (Key×V)}(ok:ot P w H h)(e:Rd H a (.dK kvs)):kvs.length<=sizeLine/\(a==sysModules)=false/\∃ vs,KV kvs vs/\h.DictOf (fh P w) a vs :=
 show fJ P w H h a (.dK kvs)from rd_of ok e
def FT {kvs:List (Key×V)}(ok:ot P w H h)(e:H a=some (.dK kvs)):kvs.length<=sizeLine/\(a==sysModules)=false/\∃ vs,KV kvs vs/\h.DictOf (fh P w) a vs:=mv ok (.inl e)
def wI {ks:List Key}(ok:ot P w H h)(e:H a=some (.tup (ks.map kV))):(tupleKind (fh P w)).is h ks a:=by
 obtain⟨_,eK,r,o,h1,h2,n,h3⟩:=(show fJ P w H h a (.tup (ks.map kV))from ok a _ e)
 exact⟨o,eK.toArray,n,h1,h2,h3,by simpa using yz r⟩
def yH {kvs:List (List Key×V)}(ok:ot P w H h)(e:Rd H a (.dT kvs)):kvs.length<=sizeLine/\(a==sysModules)=false /\
 ∃ xs,KT H kvs xs/\h.DictOfH (tupleKind (fh P w)) a xs:=by
 obtain⟨z,y,xs,r,o,es,ep,h1,h2,h3,h4,h5⟩:=(show fJ P w H h a (.dT kvs)from rd_of ok e)
 refine⟨z,y,xs,r,o,es,ep,h1,h2,h3,h4,fun x hx=>?_,h5⟩
 have all:∀ {l:List (List Key×V)} {m:List (List Key×Addr×Value)},KT H l m->∀ x∈m,(tupleKind (fh P w)).is h x.1 x.2.1:=by
  intro l m q
  induction q with
  | nil=>intro x hx;exact nomatch hx
  | @cons p q ps qs hq t ih =>
   intro x hx
   rcases List.mem_cons.mp hx with e | hx
   ·subst e
    exact wI ok (by rw[<- hq.1];exact hq.2.1)
   ·exact ih x hx
 exact all r x hx
def dt_of {kvs:List (List Key×V)}(ok:ot P w H h)(e:H a=some (.dT kvs)):kvs.length<=sizeLine/\(a==sysModules)=false /\
 ∃ xs,KT H kvs xs/\h.DictOfH (tupleKind (fh P w)) a xs:=yH ok (.inl e)
end
def Dc (H:Hp)(a:Addr)(y:V)(r:Option V):Prop :=
 (∃ kvs k,Rd H a (.dK kvs)/\y=kV k/\r=mQ kvs k)\/∃ kvs k b,Rd H a (.dT kvs)/\y=.ref b/\H b=some (.tup (k.map kV))/\r=mQ kvs k
def DPut (H:Hp)(a:Addr)(y v:V)(H':Hp):Prop :=
 (∃ kvs k,H a=some (.dK kvs)/\y=kV k/\kvs.length<sizeLine/\H'=upd H a (.dK (putK kvs k v))) \/
 ∃ kvs k b,H a=some (.dT kvs)/\y=.ref b/\H b=some (.tup (k.map kV))/\kvs.length<sizeLine/\H'=upd H a (.dT (putK kvs k v))
def DPut.k {H:Hp}{a:Addr}{kvs:List (Key×V)}{k:Key}{v:V}(e:H a=some (.dK kvs))(hl:kvs.length<sizeLine):DPut H a (kV k) v (upd H a (.dK (putK kvs k v))):=.inl ⟨kvs,k,e,rfl,hl,rfl⟩
section
variable {X:Cx}{dg:List (Addr×Obj)}{σ:St}{H:Hp}{s:Shared}{a:Addr}{y v:V}{u r:Value}{o:Option V}{A:Around}{E:Value->Shared->Prop}
def Inv.big (I:Inv X dg σ H s):sysModules<s.heap.objs.size:=by
 have h:mainGlobals<s.heap.objs.size:=(I.mod.glob.keeps I.bk).lt
 exact Nat.lt_trans (by decide) h
def d_getItem {Q:Value->Shared->Prop}(hu:A.units+1<cLine)(I:Inv X dg σ H s)(g:Dc H a y (some v))(ry:eP y u)(h:∀ w' s',Inv X dg σ H s'->eP v w'->Q w' s') :
 wpAny (model X.prog X.w) A (getItem (.ref a) u) Q E s:=by
 rcases g with⟨kvs,k,e,ey,l⟩ | ⟨kvs,k,b,e,ey,eb,l⟩
 ·subst ey
  obtain⟨z,hd,vs,rel,dd⟩:=mv I.eE e
  obtain⟨w',hw,Bu⟩:=pT.some_of (v:=v) (o:=valueAt vs k) (by rw[l];exact rel.val k)
  exact wpAny_getItem_of (rS ry) dd.mapOf hw (h w' _ (I.tok _) Bu)
 ·subst ey
  cases(show u=Value.ref b from ry)
  obtain⟨z,hd,xs,rel,dd⟩:=yH I.eE e
  obtain⟨w',hw,Bu⟩:=pT.some_of (v:=v) (o:=(atKey xs k).map (·.2)) (by rw[l];exact rel.val k)
  obtain⟨p,hp,hp2⟩:=Option.map_eq_some_iff.mp hw
  refine wpAny_getItem_heap (cZ hu) (wI I.eE eb) dd hp ?_
  rw[hp2]
  exact h w' _ (I.tok _) Bu
def d_in {Q:Value->Shared->Prop}(hu:A.units+1<cLine)(I:Inv X dg σ H s)(g:Dc H a y o)(ry:eP y u)(h:∀ s',Inv X dg σ H s'->Q (.bool o.isSome) s') :
 wpAny (model X.prog X.w) A (compareOp .In u (.ref a)) Q E s:=by
 rcases g with⟨kvs,k,e,ey,l⟩ | ⟨kvs,k,b,e,ey,eb,l⟩
 ·subst ey
  obtain⟨z,hd,vs,rel,dd⟩:=mv I.eE e
  refine wpAny_in_of (rS ry) hd dd.mapOf ?_
  rw[<- (rel.val k).kX,<- l]
  exact h _ (I.tok _)
 ·subst ey
  cases(show u=Value.ref b from ry)
  obtain⟨z,hd,xs,rel,dd⟩:=yH I.eE e
  refine wpAny_in_heap (cZ hu) (wI I.eE eb) hd dd ?_
  have q:=(rel.val k).kX
  rw[bA]at q
  rw[<- q,<- l]
  exact h _ (I.tok _)
def d_notIn {Q:Value->Shared->Prop}(hu:A.units+1<cLine)(I:Inv X dg σ H s)(g:Dc H a y o)(ry:eP y u)(h:∀ s',Inv X dg σ H s'->Q (.bool (!o.isSome)) s') :
 wpAny (model X.prog X.w) A (compareOp .NotIn u (.ref a)) Q E s:=by
 rcases g with⟨kvs,k,e,ey,l⟩ | ⟨kvs,k,b,e,ey,eb,l⟩
 ·subst ey
  obtain⟨z,hd,vs,rel,dd⟩:=mv I.eE e
  refine wpAny_notIn_of (rS ry) hd dd.mapOf ?_
  rw[<- (rel.val k).kX,<- l]
  exact h _ (I.tok _)
 ·subst ey
  cases(show u=Value.ref b from ry)
  obtain⟨z,hd,xs,rel,dd⟩:=yH I.eE e
  refine wpAny_notIn_heap (cZ hu) (wI I.eE eb) hd dd ?_
  have q:=(rel.val k).kX
  rw[bA]at q
  rw[<- q,<- l]
  exact h _ (I.tok _)
def qe {h':Heap}{t':Nat}{ob:HO}(I:Inv X dg σ H s)(mu:Mut (H a))(hs:Heap.SameBut a s.heap h')(he:∃ q,h'.get? a=some q)(new:fJ X.prog X.w (upd H a ob) h' a ob) :
 Inv X dg σ (upd H a ob) { s with heap:=h',toks:=t'} :=
 I.write (x:=a) (e:=a) mu (.inl rfl) (fun b q hb z=>(hs.2 b hb).trans z) he new
def tO {P:ae}{w:af}{H':Hp}{h':Heap}{kvs:List (Key×V)}{vs:List (Key×Value)}(z:kvs.length<=sizeLine)(hd:(a==sysModules)=false)(rel:KV kvs vs)(dd:h'.DictOf (fh P w) a vs) :
 fJ P w H' h' a (.dK kvs):=⟨z,hd,vs,rel,dd⟩
def d_setItem {H':Hp}{Q:Unit->Shared->Prop}(hu:A.units+1<cLine)(I:Inv X dg σ H s)(g:DPut H a y v H')(ry:eP y u)(rv:eP v r)(h:∀ s',Inv X dg σ H' s'->Q () s') :
 wpAny (model X.prog X.w) A (setItem (.ref a) u r) Q E s:=by
 rcases g with⟨kvs,k,e,ey,l,eH⟩ | ⟨kvs,k,b,e,ey,eb,l,eH⟩
 ·subst ey eH
  obtain⟨z,hd,vs,rel,dd⟩:=FT I.eE e
  have hz:vs.length<=sizeLine:=by rw[<- rel.length];exact z
  have hl:(putK kvs k v).length<=sizeLine:=by have:=pq kvs k v;omega
  refine wpAny_setItem_pairs (hsz:=hz) (rS ry) dd fun h' Cz hs=>h _ ?_
  have he:∃ q,h'.get? a=some q:=let ⟨q,_,_,hq,_⟩:=Cz;⟨q,hq⟩
  exact qe I (by rw[e];exact True.intro) hs he (tO hl hd (rel.put k rv) Cz)
 ·subst ey eH
  cases(show u=Value.ref b from ry)
  obtain⟨z,hd,xs,rel,dd⟩:=dt_of I.eE e
  have hz:xs.length<=sizeLine:=by rw[<- Paired.length rel];exact z
  have hl:(putK kvs k v).length<=sizeLine:=by have:=pq kvs k v;omega
  refine wpAny_setItem_heap (hsz:=hz) (cZ hu) (wI I.eE eb) dd fun h' Cz hs=>h _ ?_
  obtain⟨q,es,ep,hq,h2,h3,h4,_,h5⟩:=Cz
  refine qe I (by rw[e];exact True.intro) hs ⟨q,hq⟩ ⟨hl,hd,_,(rel.put k eb rv).keeps fun c ys ec=>?_,q,es,ep,hq,h2,h3,h4,h5⟩
  rw[d9 (ne_of ec e (fun z=>nomatch z))]
  exact ec
end
section
variable {X:Cx}{dg:List (Addr×Obj)}{σ:St}{H:Hp}{s:Shared}{a:Addr}{kvs:List (Key×V)}{k:Key}{u:Value}{A:Around}{E:Value->Shared->Prop}
def d_delItem {Q:Unit->Shared->Prop}(I:Inv X dg σ H s)(e:H a=some (.dK kvs))(ry:eP (kV k) u)(l:(mQ kvs k).isSome=true)(h:∀ s',Inv X dg σ (upd H a (.dK (qy kvs k))) s'->Q () s') :
 wpAny (model X.prog X.w) A (delItem (.ref a) u) Q E s:=by
 obtain⟨z,hd,vs,rel,dd⟩:=FT I.eE e
 refine wpAny_delItem_slot dd.typeIs (by decide) PySem.F.slot_dict_delitem
  (call_meetsIn PySem.F.slot_dict_delitem dd.typeIs PySem.F.entry_dict_delitem (PySem.F.args_dict_delitem_2 _ _) (meets_dict_delitem_pairs (fh X.prog X.w) a (rS ry)) ⟨vs,dd,by rw[<- rel.length];exact z,by rw[<- (rel.val k).kX];exact l,fun h' Cz hs=>h _ ?_⟩)
 have he:∃ q,h'.get? a=some q:=let ⟨q,_,_,hq,_⟩:=Cz;⟨q,hq⟩
 exact qe I (by rw[e];exact True.intro) hs he (tO (az (Cs kvs k) z) hd (rel.drop k) Cz)
def d_pop {v:V}{more:List Value}{Q:Value->Shared->Prop}(I:Inv X dg σ H s)(e:H a=some (.dK kvs))(ry:eP (kV k) u)(l:mQ kvs k=some v)(hm:more=[]\/∃ x,more=[x])
 (h:∀ w' s',Inv X dg σ (upd H a (.dK (qy kvs k))) s'->eP v w'->Q w' s'):wpAny (model X.prog X.w) A (call (.builtin "dict.pop") (.ref a::u::more)) Q E s:=by
 obtain⟨z,hd,vs,rel,dd⟩:=FT I.eE e
 obtain⟨w',hw,Bu⟩:=pT.some_of (v:=v) (o:=valueAt vs k) (by rw[<- l];exact rel.val k)
 have hp:(keyPart u).isSome=true:=by
  cases k with
  | inl i=>obtain⟨t,q⟩:=(show ∃ t,u=Value.int i t from ry);subst q;rfl
  | inr x=>obtain⟨t,q⟩:=(show ∃ t,u=Value.str x t from ry);subst q;rfl
 have ha:argsOk "dict.pop" ⟨.ref a::u::more,[]⟩:=by
  rcases hm with q | ⟨x,q⟩
  ·subst q;exact PySem.F.args_dict_pop_2 _ _
  ·subst q;exact PySem.F.args_dict_pop_3 _ _ _
 refine call_meetsIn PySem.F.slot_dict_pop dd.typeIs PySem.F.entry_dict_pop ha (meets_dict_pop_there (fh X.prog X.w) a (rS ry) more hm hp)
  ⟨vs,w',dd,by rw[<- rel.length];exact z,hw,fun h' Cz hs=>h w' _ ?_ Bu⟩
 have he:∃ q,h'.get? a=some q:=let ⟨q,_,_,hq,_⟩:=Cz;⟨q,hq⟩
 exact qe I (by rw[e];exact True.intro) hs he (tO (az (Cs kvs k) z) hd (rel.drop k) Cz)
def d_len {Q:Value->Shared->Prop}(I:Inv X dg σ H s)(e:Rd H a (.dK kvs))(h:∀ t s',Inv X dg σ H s'->Q (.int kvs.length t) s'):wpAny (model X.prog X.w) A (call (.builtin "len") [.ref a]) Q E s:=by
 obtain⟨z,hd,vs,rel,dd⟩:=mv I.eE e
 refine call_len_dict hd dd (by rw[<- rel.length];rw[sizeLine_eq]at z;omega) ?_
 rw[<- rel.length]
 exact h _ _ (I.tok _)
end
def NoSl (i:Expr):Prop:=∀ ov iv,subscripted i false ov iv=operate [ov,iv] (getItem ov iv)
def E6 {prog:ae}{w:af}{A:Around}{E:Value->Shared->Prop}{s:Shared}{env:Env}{value slice:Expr}{pos:Pos}{T id:String}{Q:Value->Shared->Prop}
 (hl:typeLookup (.type T) "__getitem__"=pure (some (.builtin id))) (hs:NoSl slice)
 (h:wpAny (model prog w) A (eval value env) (fun o s₁=>wpAny (model prog w) A (eval slice env) (fun i s₂=>s₂.TypeIs o T/\wpAny (model prog w) A (getItem o i) Q E s₂) E s₁) E s) :
 wpAny (model prog w) A (eval (.Subscript value slice pos) env) Q E s:=by
 refine Subscript_ (bg h (fun o s₁ h₁=>bg h₁ (fun i s₂ h₂=>?_) fun _ _ x=>x) fun _ _ x=>x)
 obtain⟨hT,h₂⟩:=h₂
 unfold subscriptTail
 refine eI ?_
 rw[getitemInPython_of_ne hT.not_modules]
 refine eI (wpAny_specialOf hT hl ?_)
 have fin:wpAny (model prog w) A (subscripted slice false o i) (fun r s₃=>wpAny (model prog w) A (letTemporaryGo value o r >>= fun _=>pure r) Q E s₃) E s₂:=by
  rw[hs o i]
  exact wpAny_operating (bg h₂ (fun r s₃ h₃=>eI (wpAny_letTemporaryGo (ar h₃))) fun _ _ x=>x)
 first
  | exact ar (eI fin)
  | exact eI (ar (eI fin))
  | exact eI fin
def Cv {X:Cx}{dg:List (Addr×Obj)}{σ:St}{H:Hp}{s:Shared}{a:Addr}{y:V}{o:Option V}(I:Inv X dg σ H s)(g:Dc H a y o):s.TypeIs (.ref a) "dict":=by
 rcases g with⟨kvs,k,e,_,_⟩ | ⟨kvs,k,b,e,_,_,_⟩
 ·obtain⟨_,_,vs,_,dd⟩:=mv I.eE e
  exact dd.typeIs
 ·obtain⟨_,_,xs,_,dd⟩:=yH I.eE e
  exact dd.typeIs
def tDGet (td ty:TE):TE:=fun σ H Q=>td σ H fun x H1=>ty σ H1 fun y H2=>∃ a v,x=.ref a/\Dc H2 a y (some v)/\Q v H2
def tDIn (ty td:TE):TE:=fun σ H Q=>ty σ H fun y H1=>td σ H1 fun x H2=>∃ a o,x=.ref a/\Dc H2 a y o/\Q (.bl o.isSome) H2
def EZ (ty td:TE):TE:=fun σ H Q=>ty σ H fun y H1=>td σ H1 fun x H2=>∃ a o,x=.ref a/\Dc H2 a y o/\Q (.bl (!o.isSome)) H2
def sDPut (td ty tv:TE):TS:=fun D σ H=>tv σ H fun v H1=>td σ H1 fun x H2=>ty σ H2 fun y H3=>∃ a H4,x=.ref a/\DPut H3 a y v H4/\D.nx σ H4
section
variable {X:Cx}{o i e value:Expr}{pos pos' q9:Pos}{td ty tv:TE}
def pe_dget (hu:X.A.units+1<cLine)(ho:PE X o td)(hi:PE X i ty)(hs:NoSl i):PE X (.Subscript o i pos) (tDGet td ty):=by
 intro dg s σ H Q I h
 refine E6 PySem.F.slot_dict_getitem.lookup hs (fK (ho dg s σ H _ I h) fun u s1 oK=>?_)
 obtain⟨x,H1,I1,rx,q1⟩:=oK
 refine fK (hi dg s1 σ H1 _ I1 q1) fun iv s2 qo=>?_
 obtain⟨y,H2,I2,ry,a,v,ex,g,q2⟩:=qo
 subst ex
 obtain rfl:u=Value.ref a:=rx
 exact⟨Cv I2 g,d_getItem hu I2 g ry fun w' s3 I3 Bu=>⟨v,H2,I3,Bu,q2⟩⟩
def pc_din (hu:X.A.units+1<cLine)(hi:PE X i ty)(ho:PE X o td):PC X .In i o (tDIn ty td):=by
 intro dg s σ H Q I h
 refine fK (hi dg s σ H _ I h) fun iv s1 qK=>?_
 obtain⟨y,H1,I1,ry,q1⟩:=qK
 refine fK (ho dg s1 σ H1 _ I1 q1) fun u s2 rY=>?_
 obtain⟨x,H2,I2,rx,a,ov,ex,g,q2⟩:=rY
 subst ex
 obtain rfl:u=Value.ref a:=rx
 exact d_in hu I2 g ry fun s3 I3=>⟨.bl ov.isSome,H2,I3,rfl,q2⟩
def pc_dnotin (hu:X.A.units+1<cLine)(hi:PE X i ty)(ho:PE X o td):PC X .NotIn i o (EZ ty td):=by
 intro dg s σ H Q I h
 refine fK (hi dg s σ H _ I h) fun iv s1 qJ=>?_
 obtain⟨y,H1,I1,ry,q1⟩:=qJ
 refine fK (ho dg s1 σ H1 _ I1 q1) fun u s2 qm=>?_
 obtain⟨x,H2,I2,rx,a,ov,ex,g,q2⟩:=qm
 subst ex
 obtain rfl:u=Value.ref a:=rx
 exact d_notIn hu I2 g ry fun s3 I3=>⟨.bl (!ov.isSome),H2,I3,rfl,q2⟩
def ps_dput (hu:X.A.units+1<cLine)(ho:PE X o td)(hi:PE X i ty)(hv:PE X value tv)(hs:swapsWith value (some (.Subscript o i pos')) pos.line X.env=pure false) :
 PS X (.Assign [.Subscript o i pos'] value pos) (sDPut td ty tv):=by
 intro dg s σ H D I h
 refine wpAny_Assign_Subscript (fK (hv dg s σ H _ I h) fun r s1 qY=>?_) hs
 obtain⟨v,H1,I1,rv,q1⟩:=qY
 refine fK (ho dg s1 σ H1 _ I1 q1) fun u s2 oK=>?_
 obtain⟨x,H2,I2,rx,q2⟩:=oK
 refine fK (hi dg s2 σ H2 _ I2 q2) fun iv s3 qo=>?_
 obtain⟨y,H3,I3,ry,a,H4,ex,g,q3⟩:=qo
 subst ex
 obtain rfl:u=Value.ref a:=rx
 exact d_setItem hu I3 g ry rv fun s4 I4=>⟨σ,H4,I4,q3⟩
end
def Cu {P:ae}{w:af}{H:Hp}(h:Heap)(hb:sysModules<h.objs.size):fJ P w H (h.push { cls:=.type "dict",data:=.dict #[]}) h.objs.size (.dK []) :=
 ⟨aY _,beq_eq_false_iff_ne.mpr (bf (aF hb)),[],.nil,Heap.DictOf.new h⟩
def tDNewK:TE:=fun _ H Q=>∀ p,H p=none->Q (.ref p) (upd H p (.dK []))
section
variable {X:Cx}{pos:Pos}
def pe_dnewK:PE X (.Dict [] [] pos) tDNewK:=fun dg s σ H Q I h =>
 wpAny_Dict_empty ⟨.ref s.heap.objs.size,_,I.laid (a:=s.heap.objs.size) (o:=.dK []) (t':=s.toks) (fun _ _ q=>jt _ q) (ah _) (Cu s.heap I.big),rfl,h _ (I.eE.fresh (ah _))⟩
end
structure M1 (X:Cx)(o:Expr)(m:Str)(apos:Pos)(e:Expr)(gy:Pos):Prop where
 dh:attributeBase o m X.env (eval o X.env)=eval o X.env
 iT:((backTo gy (starEach [e] X.env)).all (fun x=>!x.1)&&(backToKw gy (keywordEach [] X.env)).all (fun x=>x.1.isSome)
  && decide (([e]:List Expr).length+([]:List Keyword).length+(if([]:List Keyword).isEmpty then 0 else 1)<30))=true
 line:(apos.endLine==gy.line)=true
 trees:backTo gy (starEach [e] X.env)=[(false,eval e X.env)]
structure M2 (X:Cx)(o:Expr)(m:Str)(apos:Pos)(e f:Expr)(gy:Pos):Prop where
 dh:attributeBase o m X.env (eval o X.env)=eval o X.env
 iT:((backTo gy (starEach [e,f] X.env)).all (fun x=>!x.1)&&(backToKw gy (keywordEach [] X.env)).all (fun x=>x.1.isSome)
  && decide (([e,f]:List Expr).length+([]:List Keyword).length+(if([]:List Keyword).isEmpty then 0 else 1)<30))=true
 line:(apos.endLine==gy.line)=true
 trees:backTo gy (starEach [e,f] X.env)=[(false,eval e X.env),(false,eval f X.env)]
def IsD (H:Hp)(a:Addr):Prop:=(∃ kvs,Rd H a (.dK kvs))\/∃ kvs,Rd H a (.dT kvs)
def isD_at {X:Cx}{dg:List (Addr×Obj)}{σ:St}{H:Hp}{s:Shared}{a:Addr}(I:Inv X dg σ H s)(d:IsD H a) :
 s.TypeIs (.ref a) "dict"/\(∀ b,Value.ref a=.ref b->∃ ob,s.heap.get? b=some ob/\ob.dict=none)/\(a==sysModules)=false:=by
 rcases d with⟨kvs,e⟩ | ⟨kvs,e⟩
 ·obtain⟨_,hd,vs,_,dd⟩:=mv I.eE e
  refine⟨dd.typeIs,fun b q=>?_,hd⟩
  cases q
  obtain⟨ob,_,_,h1,h2,_⟩:=dd
  exact⟨ob,h1,h2.2.1⟩
 ·obtain⟨_,hd,xs,_,dd⟩:=yH I.eE e
  refine⟨dd.typeIs,fun b q=>?_,hd⟩
  cases q
  obtain⟨ob,_,_,h1,h2,_⟩:=dd
  exact⟨ob,h1,h2.2.1⟩
def tDPop1 (td ty:TE):TE:=fun σ H Q=>td σ H fun x H1=>∃ a,x=.ref a/\IsD H1 a/\ty σ H1 fun y H2=>∃ kvs k v,H2 a=some (.dK kvs)/\y=kV k/\mQ kvs k=some v/\Q v (upd H2 a (.dK (qy kvs k)))
section
variable {X:Cx}{o e f:Expr}{apos gy:Pos}{td ty tx:TE}
def pe_dpop1 (ho:PE X o td)(he:PE X e ty)(m:M1 X o "pop" apos e gy):PE X (.Call (.Attribute o "pop" apos) [e] [] gy) (tDPop1 td ty):=by
 intro dg s σ H Q I h
 refine wpAny_Call_method m.dh m.iT m.line PySem.F.plainAttrs_dict PySem.F.slot_dict_pop PySem.F.type_dict_pop (fK (ho dg s σ H _ I h) fun u s1 qK=>?_)
 obtain⟨x,H1,I1,rx,a,ex,d,q1⟩:=qK
 subst ex
 obtain rfl:u=Value.ref a:=rx
 obtain⟨t1,t2,_⟩:=isD_at I1 d
 refine⟨t1,t2,?_⟩
 rw[m.trees]
 refine cA rfl (Calls.evalArgs_plain (Calls.spliced_cons (fK (he dg s1 σ H1 _ I1 q1) fun iv s2 rY=>?_)))
 obtain⟨y,H2,I2,ry,kvs,k,v,ea,ey,l,q2⟩:=rY
 refine Calls.spliced_nil ?_
 subst ey
 exact d_pop I2 ea ry l (.inl rfl) fun w' s3 I3 Bu=>⟨v,_,I3,Bu,q2⟩
end
section
variable {X:Cx}{dg:List (Addr×Obj)}{σ:St}{H:Hp}{s:Shared}{a:Addr}{kvs:List (Key×V)}{A:Around}{E:Value->Shared->Prop}
def d_copyOf {Q:Value->Shared->Prop}(I:Inv X dg σ H s)(e:Rd H a (.dK kvs))(h:∀ p s',H p=none->Inv X dg σ (upd H p (.dK kvs)) s'->Q (.ref p) s'):wpAny (model X.prog X.w) A (call (.type "dict") [.ref a]) Q E s:=by
 obtain⟨z,hd,vs,rel,dd⟩:=mv I.eE e
 refine kt_call_dict hd dd (by rw[<- rel.length];exact z) fun h' Cz hs=>?_
 refine h _ _ (I.eE.fresh (ah _)) (I.laid (a:=s.heap.objs.size) (o:=.dK kvs) (t':=s.toks) (fun b q hq=>?_) (ah _) (tO z (beq_eq_false_iff_ne.mpr (bf (aF I.big))) rel Cz))
 exact(hs.2 b (aF (jK hq))).trans (jt _ hq)
end
def xH (X:Cx)(N:List Str)(sc:Scope)(fp:List Addr)(s:Shared)(H:Hp):Cx where
 prog:=X.prog
 w:=X.w
 K:=X.K
 mg:=X.mg
 dh:=X.dh
 A:=X.A
 N:=N
 s₀:=s
 H₀:=H
 env:=lL sc s.heap.objs.size X.env
 dA:=X.stack
 stack:=X.stack
 ex:=fp
 fn:=fun x=>sc.names.lookup x==some .cell
 calm:=X.calm
 pn:=[]
 xe:=fun _ _=>False
def wN (sc:Scope)(h:Heap):Heap:=pushCells (h.push { cls:=.type "dict",data:=.dict #[]}) sc.names
def ur {sc:Scope}{h:Heap}:∀ b o,h.get? b=some o->(wN sc h).get? b=some o:=fun b o e=>cV _ _ b o (jt _ e)
section
variable {X:Cx}{dg:List (Addr×Obj)}{σ:St}{H:Hp}{s:Shared}{N:List Str}{js:List (Option Nat)}{sc:Scope}{fp:List Addr}
def inv_compE (I:Inv X dg σ H s)(hc:ip X N js sc)(hf:∀ b∈fp,ow X dg H b)(ho:∀ b∈fp,∃ o,s.heap.get? b=some o)(tk:Nat) :
 Inv (xH X N sc fp s H) [] (fL js σ) H { s with heap:=wN sc s.heap,toks:=tk}:=by
 have freeX:∀ y∈sc.names,y.2=.free->∃ c,X.env.cells.lookup y.1=some c:=fun y hy e=>I.ok.has y.1 (hc.free y hy e)
 have ok:=cellsFrom_ok sc.names (s.heap.push { cls:=.type "dict",data:=.dict #[]}) (s.heap.objs.size+1) [] ⟨fun _ _ hm=>(nomatch hm),List.Pairwise.nil⟩
  (by rw[ba];exact ah _)
 rw[ba]at ok
 have eC:(lL sc s.heap.objs.size X.env).cells=cellsFrom (s.heap.objs.size+1) sc.names []++jF X.env.cells sc.names []:=j8 sc.names _ [] _
 have lk:∀ x c,(lL sc s.heap.objs.size X.env).cells.lookup x=some c->(x,c)∈cellsFrom (s.heap.objs.size+1) sc.names []\/X.env.cells.lookup x=some c:=fun x c e=>by
  rw[eC]at e
  rcases List.mem_append.mp (mem_of_lookup e)with h | h
  ·exact .inl h
  ·rcases n6 freeX x c h with h | h
   ·cases h
   ·exact .inr h
 have big:∀(x:Str) (c:Nat),(x,c)∈cellsFrom (s.heap.objs.size+1) sc.names []->s.heap.objs.size+1<=c:=fun x c h=>(ok.empty x c h).2
 have small:∀(x:Str) (c:Nat),X.env.cells.lookup x=some c->c<s.heap.objs.size:=fun x c h=>let ⟨_,q⟩:=I.cell x c h;q.lt
 have has:∀ x,((lL sc s.heap.objs.size X.env).kindOf x=some .cell\/(lL sc s.heap.objs.size X.env).kindOf x=some .free)->∃ c,(lL sc s.heap.objs.size X.env).cells.lookup x=some c:=fun x h=>by
  have h':(relabel sc X.env).names.lookup x=some .cell\/(relabel sc X.env).names.lookup x=some .free:=h
  rw[jC]at h'
  rw[eC,c8]
  cases q:sc.names.lookup x with
  | none=>rw[q]at h';rcases h' with h' | h' <;> cases h'
  | some k =>
   rw[q]at h'
   have hk:=Bv (env:=X.env) (x:=x) (k:=k) (h'.elim (fun z=>.inl (aN z)) fun z=>.inr (aN z))
   rcases hk with rfl | rfl
   ·obtain⟨c,tM⟩:=mY (n:=s.heap.objs.size+1) q
    exact⟨c,by rw[tM];rfl⟩
   ·have z:=n8 (cells:=X.env.cells) sc.names [] x (mem_of_lookup q)
    obtain⟨c,tM⟩:=Option.isSome_iff_exists.mp z
    cases q2:(cellsFrom (s.heap.objs.size+1) sc.names []).lookup x with
    | none=>exact⟨c,by rw[tM];rfl⟩
    | some d=>exact⟨d,rfl⟩
 have okY:(xH X N sc fp s H).Ok:=by
  refine⟨I.ok.mod,hc.kind,I.ok.glob,I.ok.blt,ah _,fun x y c h1 h2=>?_,has,fun x c hx h=>?_,I.ok.hd,I.ok.frames,.inl rfl,fun b hb=>⟨?_,fun x c h=>?_⟩,I.bs,az I.ok.Ex I.sz,fun b o e hb=>?_,fun b hb hs=>?_,I.stack,I.pZ⟩
  ·rcases lk x c h1 with g1 | g1 <;> rcases lk y c h2 with g2 | g2
   ·exact name_of_addr ok.apart g1 g2
   ·exact absurd (aw (small _ _ g2) (az (a9 _ 1) (big _ _ g1))) (bw _)
   ·exact absurd (aw (small _ _ g1) (az (a9 _ 1) (big _ _ g2))) (bw _)
   ·exact I.ok.inj x y c g1 g2
  ·have B8:sc.names.lookup x=some .cell:=by simpa [xH]using hx
   have h':(lL sc s.heap.objs.size X.env).cells.lookup x=some c:=h
   rw[eC,c8]at h'
   obtain⟨c2,tM⟩:=mY (n:=s.heap.objs.size+1) B8
   rw[tM]at h'
   have e:c2=c:=aN h'
   subst e
   exact az (a9 _ 1) (big _ _ (mem_of_lookup tM))
  ·obtain⟨o,e⟩:=ho b hb
   exact aF (jK e)
  ·obtain⟨o,e⟩:=ho b hb
   have l:=jK e
   rcases lk x c h with g | g
   ·exact bo (aw l (az (a9 _ 1) (big _ _ g)))
   ·exact(hf b hb).2.2.2.2.1 x c g
  ·rcases(hf b hb).2.2.2.1 with z | z
   ·exact I.ok.BO b o e z
   ·exact absurd (aw (jK e) (az I.ok.Ex z)) (bw _)
  ·rcases List.mem_cons.mp (I.vJ b hs)with z | z
   ·exact(hf b hb).2.1 z
   ·exact(hf b hb).2.2.1 z
 have rQ:∀ b u,s.heap.get? b=some u->(wN sc s.heap).get? b=some u:=ur
 have nsC:(wN sc s.heap).Ns s.heap.objs.size fun _=>none:=by
  have q:=(Heap.Ns.new s.heap (.type "dict")).keeps (cV sc.names _)
  exact q
 refine⟨okY,rfl,I.bare,Un.dj rQ,⟨_,nsC,fun i x v e1 e2 e3=>?_⟩,fun x c h=>?_,I.eE.fresh (ah _),fun x c h=>?_,fun p hp=>absurd (show p∈([]:List (Addr×Obj))from hp) (by simp),I.eE.dj rQ,?_⟩
 ·obtain⟨j,hj,hv⟩:=wQ e2
  obtain⟨g1,g2,g3,g4⟩:=hc.slot i x j e1 hj
  have kx:=hc.free _ g2 rfl
  obtain⟨m,hn,hl⟩:=I.loc
  obtain⟨u,r,l⟩:=hl j x v g1 hv (.inr kx)
  refine⟨u,r,?_⟩
  rcases l with⟨z,_⟩ | ⟨_,c,hcc,uv⟩
  ·have z':X.env.kindOf x=some .local:=z
   rcases kx with k | k <;> (have k':X.env.kindOf x=_:=k;rw[z']at k';cases k')
  ·have kY:(lL sc s.heap.objs.size X.env).kindOf x=some .cell\/(lL sc s.heap.objs.size X.env).kindOf x=some .free:=by
    show(relabel sc X.env).names.lookup x=some .cell\/(relabel sc X.env).names.lookup x=some .free
    rw[jC,g3]
    rcases yo (env:=X.env) (x:=x)with q | q
    ·exact .inl (show some (tu X.env x .free)=_ by rw[q])
    ·exact .inr (show some (tu X.env x .free)=_ by rw[q])
   obtain⟨c',h'⟩:=has x kY
   refine .inr ⟨kY,c',h',?_⟩
   rcases lk x c' h' with g | g
   ·rcases j7 _ _ _ _ _ g with z | z
    ·exact absurd z g4
    ·cases z
   ·rw[hcc]at g;cases g
    exact uv.keeps rQ
 ·rcases lk x c h with g | g
  ·exact⟨_,(ok.empty x c g).1⟩
  ·obtain⟨v,q⟩:=I.cell x c g
   exact⟨v,q.keeps rQ⟩
 ·rcases lk x c h with g | g
  ·exact I.eE.fresh (az (a9 _ 1) (big _ _ g))
  ·exact I.jP x c g
 ·show(fL js σ).length=N.length
  unfold fL
  rw[fF];exact hc.len
end
def ye {prog:ae}{w:af}{A:Around}{R:Result->Shared->Prop}{s:Shared}{kx vx target iter:Expr}{ifs:List Expr}{scope:Scope}{pos:Pos}{it:Value}{D:Addr}{env:Env}(I:Nat->Shared->Prop)
 (turn:∀ n s,I n s->wpAny (model prog w) A (pyNext it) (fun r s₁=>match r with
   | none=>R (.ok .next) s₁
   | some v=>wpAny (model prog w) A (letOwnedTupleGo target it v) (fun _ Bk=>wpAny (model prog w) A (assign target env v) (fun _ s₂ =>
    wpAny (model prog w) A (forIn ifs true fun c r=>if r=true then do let ok <- isTrue c env (eval c env);pure (ForInStep.yield ok)else pure (ForInStep.yield r)) (fun ok s₃ =>
     if ok=true then wpAny (model prog w) A (eval kx env) (fun kv s₄=>wpAny (model prog w) A (eval vx env) (fun vv s₅ =>
      wpAny (model prog w) A (dictSet D kv vv) (fun _ s₆=>∃ m,m<n/\I m s₆) (fun _ _=>False) s₅) (fun _ _=>False) s₄) (fun _ _=>False) s₃
     else ∃ m,m<n/\I m s₃) (fun _ _=>False) s₂) (fun _ _=>False) Bk) (fun _ _=>False) s₁) (fun _ _=>False) s)
 (n:Nat) (h:I n s) :
 codeAny (model prog w) A (.compLoop (.DictComp kx vx [⟨target,iter,ifs,0⟩] scope pos) 0 it (.ref D) env) R s:=by
 refine codeAny_loop rfl I (fun n s hI=>?_) n h
 show wpAny _ A ((compTurn (.DictComp kx vx [⟨target,iter,ifs,0⟩] scope pos) 0 it (.ref D) env).onRaise (fun x=>do noteFrame x env;theTreesLotGoes x)) _ _ s
 refine wpAny_noted ?_
 rw[compTurn_dict]
 refine eI (cP (eI (bg (turn n s hI) (fun r s₁ h₁=>?_) fun _ _ h'=>h'.elim)))
 cases r with
 | none=>exact ar h₁
 | some v =>
  refine eI (bg h₁ (fun _ Bk h₁'=>?_) fun _ _ h'=>h'.elim)
  refine eI (bg h₁' (fun _ s₂ h₂=>eI (bg h₂ (fun ok s₃ h₃=>?_) fun _ _ h'=>h'.elim)) fun _ _ h'=>h'.elim)
  cases ok with
  | false=>exact ar ⟨rfl,h₃⟩
  | true =>
   exact eI (eI (bg h₃ (fun x s₄ h₄=>eI (bI (bg h₄ (fun y s₅ h₅=>eI (cP (bI (bg h₅ (fun _ s₆ h₆=>ar ⟨rfl,h₆⟩) fun _ _ h'=>h'.elim)))) fun _ _ h'=>h'.elim))) fun _ _ h'=>h'.elim))
def wCompD (js:List (Option Nat))(g:TG)(tt:TT)(tk tv:TE)(J:It)(σ:St)(D:Addr)(H1:Hp)(fin:List (Key×V)->Hp->Prop):Prop :=
 ∃ W:Nat->Nat->List (Key×V)->Hp->Prop,(∃ m,W 0 m [] H1)/\∀ i m kvs H,W i m kvs H ->
  (J.stop i H/\fin kvs H)\/(J.go i H/\∀ x H',J.yld i H x H'->g x (fL js σ) H' fun mP H2=>Ext (fL js σ) mP/\tt mP H2 fun b H3 =>
    if b=true then tk mP H3 fun k H4=>tv mP H4 fun v H5=>∃(kk:Key) (kvs':List (Key×V)),k=kV kk/\H5 D=some (.dK kvs')/\kvs'.length<sizeLine/\∃ m',m'<m/\W (i+1) m' (putK kvs' kk v) (upd H5 D (.dK (putK kvs' kk v)))else ∃ m',m'<m/\W (i+1) m' kvs H3)
section
variable {X:Cx}{dg:List (Addr×Obj)}{σ:St}{H:Hp}{s:Shared}
def dict_set {A:Around}{E:Value->Shared->Prop}{a:Addr}{kvs:List (Key×V)}{k:Key}{u r:Value}{v:V}{Q:Unit->Shared->Prop}(I:Inv X dg σ H s)(e:H a=some (.dK kvs))(l:kvs.length<sizeLine)(ry:eP (kV k) u)(rv:eP v r)
 (h:∀ s',Inv X dg σ (upd H a (.dK (putK kvs k v))) s'->Q () s'):wpAny (model X.prog X.w) A (dictSet a u r) Q E s:=by
 obtain⟨z,hd,vs,rel,dd⟩:=FT I.eE e
 have hz:vs.length<=sizeLine:=by rw[<- rel.length];exact z
 have hl:(putK kvs k v).length<=sizeLine:=by have:=pq kvs k v;omega
 refine wpAny_dictSet_pairs (hsz:=hz) (rS ry) dd fun h' Cz hs=>h _ ?_
 have he:∃ q,h'.get? a=some q:=let ⟨q,_,_,hq,_⟩:=Cz;⟨q,hq⟩
 exact qe I (by rw[e];exact True.intro) hs he (tO hl hd (rel.put k rv) Cz)
variable {N:List Str}{js:List (Option Nat)}{sc:Scope}{fp:List Addr}{tg kx vx iter:Expr}{ifs:List Expr}{g:TG}{tt:TT}{tk tv:TE}
def CH {J:It}{it D:Addr}{tn:Nat->Heap->Prop}{pos:Pos}{R:Result->Shared->Prop}{fin:List (Key×V)->Hp->Prop}{tok:Nat}(I:Inv X dg σ H s)(hc:ip X N js sc)(calm:X.calm=true)
 (T:Turn X.prog X.w X.K tg J fp it tn) (st:tn 0 s.heap) (hf:∀ b∈fp,ow X dg H b)
 (hg:PG (xH X N sc fp s H) tg g) (ht:PTs (xH X N sc fp s H) ifs tt) (hk:PE (xH X N sc fp s H) kx tk) (hv:PE (xH X N sc fp s H) vx tv) (q:wCompD js g tt tk tv J σ D H fin)
 (hR:∀ s' H' kvs m,Inv X dg σ H' s'->fin kvs H'->s'.heap.Ns s.heap.objs.size m->H' s.heap.objs.size=none->R (.ok .next) s') :
 codeAny (model X.prog X.w) X.A (.compStart (.DictComp kx vx [⟨tg,iter,ifs,0⟩] sc pos) 0 (.ref it) (.ref D) (lL sc s.heap.objs.size X.env)) R { s with heap:=wN sc s.heap,toks:=tok}:=by
 have hob:∀ b∈fp,∃ o,s.heap.get? b=some o:=fun b hb=>let ⟨o,e,_⟩:=T.obj 0 s.heap st b hb;⟨o,e⟩
 have I0:=inv_compE I hc hf hob tok
 have okY:=I0.ok
 obtain⟨W,⟨m0,w0⟩,turn⟩:=q
 have vL:∀ {H':Hp},(∀ b∈fp,H' b=none)->∀ b∈fp,ow (xH X N sc fp s H) [] H' b:=fun {H'} hn b hb =>
  ⟨hn b hb,(okY.exf b hb).1,okY.Co b hb,.inl hb,(okY.exf b hb).2,fun p hp=>absurd (show p∈([]:List (Addr×Obj))from hp) (by simp)⟩
 have st0:tn 0 (wN sc s.heap):=T.keep 0 _ _ st fun b _ o e=>ur b o e
 have loop:codeAny (model X.prog X.w) X.A (.compLoop (.DictComp kx vx [⟨tg,iter,ifs,0⟩] sc pos) 0 (.ref it) (.ref D) (lL sc s.heap.objs.size X.env)) R { s with heap:=wN sc s.heap,toks:=tok}:=by
  refine ye (fun n s'=>∃ i kvs H',Inv (xH X N sc fp s H) [] (fL js σ) H' s'/\tn i s'.heap/\(∀ b∈fp,H' b=none)/\W i n kvs H') ?_ m0
   ⟨0,[],H,I0,st0,fun b hb=>(hf b hb).1,w0⟩
  rintro n s3 ⟨i,kvs,H3,I3,st3,fr3,w3⟩
  rcases turn i n kvs H3 w3 with⟨stop,qf⟩ | ⟨go,step⟩
  ·refine fK (T.done (xH X N sc fp s H) rfl rfl rfl calm i _ s3 _ H3 _ I3 (vL fr3) st3 stop) fun r s4 qJ=>?_
   obtain⟨hr,I4⟩:=qJ
   subst hr
   show R (.ok .next) s4
   obtain⟨m,hns,_⟩:=I4.loc
   have IX:Inv X dg σ H3 s4:=I.yK (ch:=fp) I4.os I4.dh I4.eE I4.bare fun b hb=>by
    obtain⟨f0,f1,f2,f3,f4,f5⟩:=hf b hb
    exact⟨f3,f1,f4,f5⟩
   exact hR s4 H3 kvs m IX qf hns I4.free
  ·refine fK (T.item (xH X N sc fp s H) rfl rfl rfl calm i _ s3 _ H3 _ I3 (vL fr3) st3 go) fun r s4 qm=>?_
   obtain⟨u,hr,h4⟩:=qm
   subst hr
   refine fK h4 fun _ s5 qY=>?_
   obtain⟨x,H5,I5,r5,y5,st5,fr5⟩:=qY
   have I5':=I5.pinned (vL fr5) (T.obj _ _ st5)
   refine fK (hg _ s5 _ H5 x u _ I5' r5 (step x H5 y5)) fun _ s6 ⟨σ6,H6,I6,⟨ext6,q6⟩⟩=>?_
   refine fK (ht _ s6 σ6 H6 _ I6 q6) fun b s7 oK=>?_
   obtain⟨H7,I7,q7⟩:=oK
   have back:∀ {s':Shared} {H':Hp},Inv (xH X N sc fp s H) ([]++tF fp s5.heap) σ6 H' s'->tn (i+1) s'.heap/\(∀ b∈fp,H' b=none)/\Inv (xH X N sc fp s H) [] (fL js σ) H' s':=fun {s' H'} I'=>by
    refine⟨T.keep _ _ _ st5 fun b hb o e=>(I'.pin (b,o) (aH _ (aH _ (jS hb e)))).1,fun b hb=>?_,(I'.weak ext6.1 ext6.2).oY⟩
    obtain⟨o,e,d⟩:=T.obj _ _ st5 b hb
    exact(I'.pin (b,o) (aH _ (aH _ (jS hb e)))).2.1
   cases b with
   | false =>
    obtain⟨m',hm,w7⟩:=q7
    obtain⟨t7,f7,I7'⟩:=back I7
    exact⟨m',hm,i+1,kvs,H7,I7',t7,f7,w7⟩
   | true =>
    refine fK (hk _ s7 σ6 H7 _ I7 q7) fun y s8 qo=>?_
    obtain⟨yk,H8,I8,ry,q8⟩:=qo
    refine fK (hv _ s8 σ6 H8 _ I8 q8) fun z s9 qK=>?_
    obtain⟨zv,H9,I9,rz,kk,kvs',ek,eD,hl,m',hm,w9⟩:=qK
    subst ek
    refine dict_set (X:=xH X N sc fp s H) I9 eD hl ry rz fun s10 I10=>?_
    obtain⟨t8,f8,I8'⟩:=back I10
    exact⟨m',hm,i+1,_,_,I8',t8,f8,w9⟩
 exact codeAny_compStart_dict loop (T.self _ 0 _ _ _ st0 loop)
def tCompD (wi:TI)(js:List (Option Nat))(g:TG)(tt:TT)(tk tv:TE):TE:=fun σ H Q=>wi σ H fun J H1=>∀ D,H1 D=none->wCompD js g tt tk tv J σ D (upd H1 D (.dK [])) fun _ H'=>Q (.ref D) H'
end
def nT:D->Option Key
 | .int i=>some (.inl i)
 | .str z=>some (.inr z)
 | _=>none
def nS {φ:List Addr}{H:Hp}{d:D}{v:V}{k:Key}(e:nT d=some k)(i:iL φ H d v):v=kV k:=by
 cases d with
 | int n=>cases e;exact i
 | str z=>cases e;exact i
 | _=>cases e
def dput (kvs:List (Key×D))(k:Key)(d:D):List (Key×D):=if(kvs.any fun kv=>decide (kv.1=k))=true then kvs.map (fun kv=>if kv.1=k then(kv.1,d)else kv)else kvs++[(k,d)]
def pI (kvs:List (Key×D))(k:Key):Option D:=(kvs.find? fun kv=>decide (kv.1=k)).map (·.2)
def dput_len (kvs:List (Key×D))(k:Key)(d:D):(dput kvs k d).length<=kvs.length+1:=by
 unfold dput
 split
 ·rw[fF];omega
 ·rw[lx,aU];omega
def dItemD (ρ:DE)(y:DG)(t:Dt)(wk wv:De)(d:D)(μ:MS)(K:Option (Key×D)->MS->Prop):Prop:=y d ρ μ fun kT fw=>t kT fw fun b oI=>if b=true then wk kT oI fun kd ET=>opt (nT kd) fun k=>wv kT ET fun v μ5=>K (some (k,v)) μ5 else K none oI
def Fr.noext {φ eR:List Addr}{H H':Hp}(f:Fr φ H eR H')(hl:eR.length=φ.length):eR=φ:=by
 obtain⟨⟨ψ,rfl,_⟩,_,_⟩:=f
 rw[lx]at hl
 have:ψ=[]:=List.length_eq_zero_iff.mp (by omega)
 rw[this,aQ]
section
variable {X:Cx}{a b e:Expr}{es:List Expr}{pos:Pos}
variable {N:List Str}{js:List (Option Nat)}{sc:Scope}{tg kx vx iter:Expr}{ifs:List Expr}{g:TG}{y:DG}{S:List Nat}{t:Dt}{wk wv:De}
def xg {φ:List Addr}{H:Hp}{ks:List Key}:∀ {ds:List D} {kvs:List (Key×V)} {k:Key} {d:D},kvs.map (·.1)=ks->d7 φ H ds (kvs.map (·.2))->pI (ks.zip ds) k=some d->∃ v,mQ kvs k=some v/\iL φ H d v:=by
 intro ds kvs
 induction kvs generalizing ks ds with
 | nil=>intro k d h1 h2 h3;cases h1;cases h3
 | cons p kvs ih =>
  intro k d h1 h2 h3
  cases ks with
  | nil=>cases h1
  | cons k0 ks =>
   cases ds with
   | nil=>cases(show _=_ from h2)
   | cons d0 ds =>
    obtain⟨v,r,e,h4,h5⟩:=h2
    simp only[ao,bO]at h1 e
    obtain⟨rfl,rfl⟩:=e
    obtain⟨rfl,h1⟩:=h1
    rw[c7]at h3
    unfold pI at h3
    rw[bu]at h3
    by_cases hk:p.1=k
    ·simp only[hk,decide_true]at h3
     cases h3
     exact⟨p.2,oV hk,h4⟩
    ·simp only[hk,decide_false]at h3
     obtain⟨v,a,b⟩:=ih h1 h5 (k:=k) (d:=d) h3
     exact⟨v,by rw[oW hk];exact a,b⟩
end
def clN (l:List Nat)(e:Nat):Nat:=e+((l.drop e).takeWhile (·==111)).length
def farF (es:List Int)(l:List Nat)(e:Int):Int:=(es.filter fun x=>decide (x<=(clN l e.toNat:Int))).foldl max e
structure RowOk (es row:List Int):Prop where
 len:row.length=es.length
 mem:∀ x∈row,x∈es
def zip_parts {α β:Type}:∀ l:List (α×β),(l.map (·.1)).zip (l.map (·.2))=l
 | []=>rfl
 | p::l=>by rw[ao,ao,c7,zip_parts l]
section
variable {X:Cx}{N:List Str}{sc:Scope}{js:List (Option Nat)}{tg iter kx vx:Expr}{ifs:List Expr}{g:TG}{tt:TT}{tk tv:TE}
def pe_compD {wi:TI}{pos:Pos}(hc:ip X N js sc)(calm:X.calm=true)(hi:PI X tg iter wi)(hg:∀ fp s H,PG (xH X N sc fp s H) tg g)
 (ht:∀ fp s H,PTs (xH X N sc fp s H) ifs tt) (hk:∀ fp s H,PE (xH X N sc fp s H) kx tk) (hv:∀ fp s H,PE (xH X N sc fp s H) vx tv)
 (hs:∀ x,foldedSetIterable iter X.env x=pure x:=by intro _;rfl):PE X (.DictComp kx vx [⟨tg,iter,ifs,0⟩] sc pos) (tCompD wi js g tt tk tv):=by
 intro dg s σ H Q I h
 rw[show eval (.DictComp kx vx [⟨tg,iter,ifs,0⟩] sc pos) X.env=comprehension (.DictComp kx vx [⟨tg,iter,ifs,0⟩] sc pos) sc X.env (firstIterPos [⟨tg,iter,ifs,0⟩] pos) newDict (firstAsync [⟨tg,iter,ifs,0⟩]) (firstIter [⟨tg,iter,ifs,0⟩] X.env)from rfl]
 refine ck (use:=none) rfl hs (j6 fun y hy e=>I.ok.has y.1 (hc.free y hy e)) hc.kind hc.loc (fK (hi dg s σ H _ I h) fun v s1 h1=>fK h1 fun itv s2 h2=>?_)
 obtain⟨it,fp,tn,J,H2,e,I2,T,E7,f2,q⟩:=h2
 subst e
 refine a6 (ml ?_)
 have hD:H2 s2.heap.objs.size=none:=I2.eE.fresh (ah _)
 have I3:Inv X dg σ (upd H2 s2.heap.objs.size (.dK [])) { s2 with heap:=s2.heap.push { cls:=.type "dict",data:=.dict #[]}}:=I2.laid (t':=s2.toks) (fun _ _ q=>jt _ q) (ah _) (Cu s2.heap I2.big)
 have hC:(s2.heap.push { cls:=.type "dict",data:=.dict #[]}).objs.size=s2.heap.objs.size+1:=ba ..
 have st3:tn 0 (s2.heap.push { cls:=.type "dict",data:=.dict #[]}):=T.keep 0 _ _ E7 fun b _ o e=>jt _ e
 have hob:∀ b∈fp,b≠s2.heap.objs.size:=fun b hb=>let ⟨o,e,_⟩:=T.obj 0 s2.heap E7 b hb;aF (jK e)
 have f3:∀ b∈fp,ow X dg (upd H2 s2.heap.objs.size (.dK [])) b:=fun b hb=>⟨by rw[d9 (hob b hb)];exact(f2 b hb).1,(f2 b hb).2⟩
 refine CH (s:={ s2 with heap:=s2.heap.push { cls:=.type "dict",data:=.dict #[]}}) (tok:=s2.toks) I3 hc calm T st3 f3 (hg fp _ _) (ht fp _ _) (hk fp _ _) (hv fp _ _) (q s2.heap.objs.size hD) fun s' H' kvs m IX qf nC hn=>?_
 have sU:s2.heap.objs.size<(s2.heap.push { cls:=.type "dict",data:=.dict #[]}).objs.size:=by rw[hC];exact bR _
 have A9:∀(b:Addr) (o:Obj),s2.heap.get? b=some o->b≠(s2.heap.push { cls:=.type "dict",data:=.dict #[]}).objs.size:=fun b o e=>aF (Nat.lt_trans (jK e) sU)
 refine⟨m,nC,fun h' sb=>?_⟩
 have IY:Inv X dg σ H' { s' with heap:=h'}:=IX.turned (t':=s'.toks) (it:=(s2.heap.push { cls:=.type "dict",data:=.dict #[]}).objs.size) (fun b o hb e=>(sb.2 b hb).trans e) hn
  (bo (Nat.lt_trans I2.lt sU)) (.inr (Nat.le_of_lt (b7 I2.sz sU))) (fun x c e=>let ⟨v,z⟩:=I2.cell x c e;aF (Nat.lt_trans z.lt sU)) (fun p hp=>A9 _ _ (I2.pin p hp).1)
 exact⟨.ref _,_,IY,rfl,qf⟩
variable {y:DG}{S:List Nat}{t:Dt}{wk wv:De}
end
def kW (lo:Int)(n:Nat):kN lo (n+1)=.int lo::kN (lo+1) n:=by
 unfold kN
 rw[List.range_succ_eq_map,ao,aG]
 congr 1
 ·simp
 ·refine bY fun i _=>?_
  show D.int (lo+((i+1:Nat):Int))=_
  congr 1
  omega
def gH {μ g:MS}(hm:∀(j:Nat) (m:MO),μ[j]?=some m->Dv μ.length m):∀(j:Nat) (m:MO),j<μ.length->(μ++g)[j]?=some m->Dv μ.length m:=fun j m hj e=>by
 rw[uU hj]at e;exact hm j m e
def lvM_ty {μ:MS}{k:Nat}{ds:List D}(h:Ag μ k=some ds):TyD "list" μ (.mr k):=by show(match μ[k]? with | some (.lst _) => "list" = "list" | some (.iD _ _) => "list" = "dict" | _=>False);rw[qE h]
def Gd {α:Type}(g:α->D)(ts:List α)(k:Nat):cutD (ts.map g) none (some (k:Int))=(ts.take k).map g:=by
 unfold cutD
 rw[HT.rH,HT.l9,fF,List.drop_zero,Nat.sub_zero,<- List.map_take]
 congr 1
 rcases Nat.le_total k ts.length with h | h
 ·rw[cC h]
 ·rw[Nat.min_eq_right h,aX (ah _),aX h]
end L2
namespace L2
end L2
namespace L2
open PySem PySem.Spec PyProof.Rows
def Rises (row:List Int):Prop:=∀(i j:Nat) (a b:Int),i<=j->row[i]?=some a->row[j]?=some b->a<=b
structure RowGood (es:List Int)(ts:List Tk)(a:Int)(row:List Int):Prop where
 ok:RowOk es row
 up:Rises row
 ge:∀(i:Nat) (x e:Int),row[i]?=some x->es[i]?=some e->e<=x
 far:∀(i:Nat) (x e:Int),row[i]?=some x->es[i]?=some e->∀ t∈ts,t.2<=a->farF es t.1 e<=x
structure GoodTo (es:List Int)(ts:List Tk)(a:Int)(row:List Int)(k:Nat):Prop where
 mem:∀(i:Nat) (x:Int),i<k->row[i]?=some x->x∈es
 up:∀(i j:Nat) (x y:Int),i<=j->j<k->row[i]?=some x->row[j]?=some y->x<=y
 ge:∀(i:Nat) (x e:Int),i<k->row[i]?=some x->es[i]?=some e->e<=x
 far:∀(i:Nat) (x e:Int),i<k->row[i]?=some x->es[i]?=some e->∀ t∈ts,t.2<=a->farF es t.1 e<=x
def GoodTo.all {es:List Int}{ts:List Tk}{a:Int}{row:List Int}(g:GoodTo es ts a row row.length)(hl:row.length=es.length):RowGood es ts a row:=by
 have lt:∀ {i:Nat} {x:Int},row[i]?=some x->i<row.length:=fun e=>(lK e).1
 exact⟨⟨hl,fun x hx=>by obtain⟨i,hi,e⟩:=cp hx;exact g.mem i x hi (by rw[ux hi,e])⟩,fun i j x y hij e1 e2=>g.up i j x y hij (lt e2) e1 e2,fun i x e e1 e2=>g.ge i x e (lt e1) e1 e2,fun i x e e1 e2=>g.far i x e (lt e1) e1 e2⟩
def iJ {α:Type}{it:D->MS->(Option D->MS->Prop)->Prop}{c:MS->Prop}{μ:MS}(hc:c μ)(g:α->D)(f:α->Option D):∀ {xs:List α} {K:List D->MS->Prop},(∀ x∈xs,∀(K':Option D->MS->Prop),K' (f x) μ->it (g x) μ K')->K (xs.filterMap f) μ->sD it c (xs.map g) μ K
 | [],K,_,k=>⟨hc,k⟩
 | x::xs,K,h,k=>⟨hc,h x aC _ (iJ hc g f (fun y hy=>h y (nV _ hy)) (by
  cases e:f x with
  | none=>rw[List.filterMap_cons_none e]at k;exact k
  | some y=>rw[List.filterMap_cons_some e]at k;exact k))⟩
def qh {α:Type}{it:D->MS->(Option D->MS->Prop)->Prop}{c:MS->Prop}{μ:MS}(hc:c μ)(g f:α->D){xs:List α}{K:List D->MS->Prop}(h:∀ x∈xs,∀(K':Option D->MS->Prop),K' (some (f x)) μ->it (g x) μ K')(k:K (xs.map f) μ):sD it c (xs.map g) μ K:=by
 refine iJ hc g (fun x=>some (f x)) h ?_
 rw[List.filterMap_eq_map']
 exact k
def atI_maps {α:Type}{g:α->D}{xs:List α}{k:Nat}{x:α}(h:xs[k]?=some x):qV (xs.map g) (k:Int)=some (g x):=sM h
end L2
namespace L2
end L2
namespace L2
open PySem PySem.Spec PyProof.Rows
def gZ.le {j k:Nat}{A:Around}(r:gZ k A)(h:j<=k:=by first | decide | exact ah _ | omega):gZ j A:=r.mono h
def lo {sc:Scope}{x:Str}(h:Loc sc x:=by first | exact Or.inl rfl | exact Or.inr rfl):Loc sc x:=h
def lvM_at {μ g:MS}{i:Nat}{ds:List D}(h:g[i]?=some (.lst ds)):Ag (μ++g) (μ.length+i)=some ds:=lu (by rw[qx (by omega),bW];exact h)
def jR {n:Nat}:∀ {ds:List D},(∀ d∈ds,xG n d)->qa n ds
 | [],_=>by unfold qa;trivial
 | d::ds,h=>by unfold qa;exact⟨h d aC,jR fun x hx=>h x (nV _ hx)⟩
end L2
namespace L2
end L2
namespace L2
open PySem PySem.Spec PyProof.Rows
def joinT (a b:Tk)(p:Int):Tk:=(a.1.take p.toNat++b.1.drop p.toNat,max a.2 b.2+1)
def vw:jg:=fun ds μ K=>match ds with
 | [.tup [.str z,.int a],.tup [.str y,.int b],.int p]=>∃ x u:Tk,z=txt x.1/\a=x.2/\y=txt u.1/\b=u.2/\0<=p/\x.1.length<=1000/\u.1.length<=1000/\K (jq (joinT x u p)) μ
 | _=>False
def at0 {μ:MS}{x:List D}{y:MO}:Ag (μ++[.lst x,y]) μ.length=some x:=lvM_at (μ:=μ) (g:=[.lst x,y]) (i:=0) rfl
section
variable {X:Cx}{e:Expr}{pos:Pos}
def dDNew:De:=fun _ μ K=>K (.mr μ.length) (μ++[.iD [] []])
def AD:PD X (.Dict [] [] pos) dDNew:=pe_dnewK.imp fun σ H Q ⟨φ,ρ,μ,K,A,M,k,L⟩=>fun p hp=>by
 obtain⟨M',f⟩:=M.snoc (o:=.dK []) (m:=.iD [] []) hp ⟨[],[],dW,rfl,rfl,rfl⟩
 exact L _ _ _ _ _ k f M' ⟨p,by rw[qx (by rw[M.len];exact ah _),M.len,aT];rfl,rfl⟩
end
def Itd (a:Addr)(o:Obj)(kvs:List (Key×V)):It:=⟨fun i H=>i<kvs.length/\H a=some (.ly o (.dK kvs)),fun i H x H'=>H'=H/\∃ p,kvs[i]?=some p/\x=kV p.1,fun i H=>kvs.length<=i/\H a=some (.ly o (.dK kvs))⟩
def kV_of {k:Key}{u:Value}(h:wJ k u=true):eP (kV k) u:=by
 rcases gz h with⟨i,t,rfl,rfl⟩ | ⟨x,t,rfl,rfl⟩
 ·exact⟨t,rfl⟩
 ·exact⟨t,rfl⟩
def Fu {κ:Type}{kvs:List (κ×V)}{vs:List (κ×Value)}(h:KV kvs vs):∀ {i:Nat} {p:κ×V},kvs[i]?=some p->∃ v,vs[i]?=some (p.1,v):=by
 unfold KV at h
 induction h with
 | nil=>intro i p e;simp at e
 | @cons a b as bs r _ ih =>
  intro i p e
  cases i with
  | zero =>
   simp at e
   subst e
   refine⟨b.2,?_⟩
   rw[r.1];rfl
  | succ i=>exact ih (by simpa using e)
def turn_dict {P:ae}{w:af}{K:aa}{tg:Expr}(a it:Addr){o:Obj}{kvs:List (Key×V)}{vs:List (Key×Value)}{ep:Nat}(kv:KV kvs vs)(hd:∀ h:Heap,h.get? a=some o->h.DictAt (fh P w) a vs ep) :
 Turn P w K tg (Itd a o kvs) [it] it (fun i h=>h.IsKeyIter it a i vs.length ep) where
 mem:=by simp
 obj:=fun i h st b hb=>by
  have e:b=it:=by simpa using hb
  subst e
  obtain⟨o,e,c,d⟩:=st
  exact⟨o,e,fun v z=>by rw[d]at z;cases z⟩
 keep:=fun i h h' st k=>st.at fun o e=>k it (by simp) o e
 item:=by
  intro X hP hw hK hc i dg s σ H E I hf st hg
  subst hP hw hK
  obtain⟨hi,hq⟩:=hg
  obtain⟨p,hp⟩:∃ p,kvs[i]?=some p:=⟨_,ux hi⟩
  obtain⟨v,hv⟩:=Fu kv hp
  have ho:s.heap.get? a=some o:=(show fJ X.prog X.w H s.heap a (.ly o (.dK kvs))from I.eE a _ hq).1
  obtain⟨f0,f1,f2,f3,f4,f5⟩:=hf it (by simp)
  refine wpAny_pyNext_dict_item st (hd _ ho) hv fun key h' hkey Bl sb=>?_
  have I1:Inv X dg σ H { s with heap:=h'}:=I.turned (t':=s.toks) (fun b o hb e=>(sb.2 b hb).trans e) f0 f1 f3 f4 f5
  obtain⟨oi,e,c,d⟩:=id Bl
  exact⟨key,rfl,yE (s:={ s with heap:=h'}) e c d (by decide) ⟨kV p.1,H,I1,kV_of hkey,⟨rfl,p,hp,rfl⟩,Bl,fun b hb=>(hf b hb).1⟩⟩
 done:=by
  intro X hP hw hK hc i dg s σ H E I hf st hg
  subst hP hw hK
  obtain⟨hi,hq⟩:=hg
  have ho:s.heap.get? a=some o:=(show fJ X.prog X.w H s.heap a (.ly o (.dK kvs))from I.eE a _ hq).1
  obtain⟨f0,f1,f2,f3,f4,f5⟩:=hf it (by simp)
  have hl:=KV.length kv
  exact wpAny_pyNext_dict_end (I.ok.hd hc) st (hd _ ho) (List.getElem?_eq_none_iff.mpr (by omega)) fun h' eb=>⟨rfl,I.turned (t':=s.toks) (fun b o hb e=>eb b o hb e) f0 f1 f3 f4 f5⟩
 self:=fun _ _ _ _ _ st h=>wpAny_pyIter_keyiter st h
def freeze {X:Cx}{dg:List (Addr×Obj)}{σ:St}{H:Hp}{s:Shared}{a:Addr}{kvs:List (Key×V)}(I:Inv X dg σ H s)(e:Rd H a (.dK kvs)):∃ o vs ep,KV kvs vs/\(∀ h:Heap,h.get? a=some o->h.DictAt (fh X.prog X.w) a vs ep)/\s.heap.DictAt (fh X.prog X.w) a vs ep/\(a==sysModules)=false/\Inv X dg σ (upd H a (.ly o (.dK kvs))) s:=by
 obtain⟨z,hd,vs,rel,dd⟩:=mv I.eE e
 obtain⟨ep,da⟩:=dd.dictAt
 obtain⟨o,es,ho,r⟩:=id da
 refine⟨o,vs,ep,rel,fun h e=>⟨o,es,e,r⟩,da,hd,?_⟩
 rcases e with e | ⟨o',e⟩
 ·exact qe (t':=s.toks) I (by rw[e];exact True.intro) ⟨rfl,fun b _=>rfl⟩ ⟨o,ho⟩ ⟨ho,tO z hd rel dd⟩
 ·have wM:s.heap.get? a=some o':=(show fJ X.prog X.w H s.heap a (.ly o' (.dK kvs))from I.eE a _ e).1
  rw[ho]at wM
  cases wM
  have:upd H a (.ly o (.dK kvs))=H:=by
   funext b
   unfold upd
   split
   ·rename_i q;rw[q,e]
   ·rfl
  rw[this];exact I
section
variable {X:Cx}{tg:Expr}
def iDict (tl:TE):TI:=fun σ H R=>tl σ H fun v H1=>∃ a kvs,v=.ref a/\((H1 a=some (.dK kvs)/\∀ o,R (Itd a o kvs) (upd H1 a (.ly o (.dK kvs))))\/∃ o,H1 a=some (.ly o (.dK kvs))/\R (Itd a o kvs) H1)
def pi_dict {l:Expr}{tl:TE}(hl:PE X l tl):PI X tg l (iDict tl):=by
 intro dg s σ H R I h
 refine fK (hl dg s σ H _ I h) fun v s1 hq=>?_
 obtain⟨x,H1,I1,r1,q1⟩:=hq
 obtain⟨a,kvs,e,q⟩:=q1
 subst e
 cases r1
 obtain⟨o,vs,ep,kv,hd,da,hs,I2,q⟩:∃ o vs ep,KV kvs vs/\(∀ h:Heap,h.get? a=some o->h.DictAt (fh X.prog X.w) a vs ep)/\s1.heap.DictAt (fh X.prog X.w) a vs ep/\(a==sysModules)=false/\Inv X dg σ (upd H1 a (.ly o (.dK kvs))) s1/\R (Itd a o kvs) (upd H1 a (.ly o (.dK kvs))):=by
  rcases q with⟨e,q⟩ | ⟨o,e,q⟩
  ·obtain⟨o,vs,ep,kv,hd,da,hs,I2⟩:=freeze I1 (.inl e)
   exact⟨o,vs,ep,kv,hd,da,hs,I2,q o⟩
  ·obtain⟨o',vs,ep,kv,hd,da,hs,I2⟩:=freeze I1 (.inr ⟨o,e⟩)
   have ho:s1.heap.get? a=some o:=(show fJ X.prog X.w H1 s1.heap a (.ly o (.dK kvs))from I1.eE a _ e).1
   have wM:s1.heap.get? a=some o':=(show fJ X.prog X.w _ s1.heap a (.ly o' (.dK kvs))from I2.eE a _ dW).1
   rw[ho]at wM
   cases wM
   have:upd H1 a (.ly o (.dK kvs))=H1:=by
    funext b
    unfold upd
    split
    ·rename_i q;rw[q,e]
    ·rfl
   exact⟨o,vs,ep,kv,hd,da,hs,I2,by rw[this];exact q⟩
 refine wpAny_pyIter_dict hs da ?_
 refine⟨s1.heap.objs.size,[s1.heap.objs.size],_,_,_,rfl,I2.dj (t':=s1.toks) fun b o e=>jt _ e,turn_dict a _ kv hd,⟨_,aB _ rfl,rfl,rfl⟩,fun b hb=>?_,q⟩
 have e:b=s1.heap.objs.size:=by simpa using hb
 subst e
 exact I2.Cb (ah _) (I2.eE.fresh (ah _))
end
def nR:Key->D
 | .inl i=>.int i
 | .inr z=>.str z
def Ah {φ:List Addr}{H:Hp}(k:Key):iL φ H (nR k) (kV k):=by cases k <;> rfl
def uW (μ:MS)(k:Nat):Option (List Key×List D):=match μ[k]? with | some (.iD ks ds)=>some (ks,ds) | some (.nX _ kvs ds)=>some (kvs.map (·.1),ds) | _=>none
def Aw {φ:List Addr}{H:Hp}{μ:MS}{k:Nat}{ks:List Key}{ds:List D}{v:V}(M:eJ φ H μ)(i:iL φ H (.mr k) v)(h:uW μ k=some (ks,ds)):∃ p kvs,φ[k]?=some p/\v=.ref p/\Rd H p (.dK kvs)/\kvs.map (·.1)=ks/\d7 φ H ds (kvs.map (·.2)):=by
 obtain⟨p,hp,rfl⟩:=i
 unfold uW at h
 split at h
 ·rename_i e;cases h
  obtain⟨q,e1,kvs,vs,h1,h2,h3,h4⟩:=M.at_ k _ e
  rw[hp]at e1;cases e1
  subst h3
  exact⟨p,kvs,hp,rfl,.inl h1,h2,h4⟩
 ·rename_i e;cases h
  obtain⟨q,e1,h1,h4⟩:=M.at_ k _ e
  rw[hp]at e1;cases e1
  exact⟨p,_,hp,rfl,.inr ⟨_,h1⟩,rfl,h4⟩
 ·cases h
def Cq {φ:List Addr}{H:Hp}{ks:List Key}:∀ {ds:List D} {kvs:List (Key×V)} (k:Key),kvs.map (·.1)=ks->d7 φ H ds (kvs.map (·.2))->(pI (ks.zip ds) k=none/\mQ kvs k=none)\/∃ d v,pI (ks.zip ds) k=some d/\mQ kvs k=some v/\iL φ H d v:=by
 intro ds kvs
 induction kvs generalizing ks ds with
 | nil=>intro k h1 h2;cases h1;exact .inl ⟨rfl,rfl⟩
 | cons p kvs ih =>
  intro k h1 h2
  cases ks with
  | nil=>cases h1
  | cons k0 ks =>
   cases ds with
   | nil=>cases(show _=_ from h2)
   | cons d0 ds =>
    obtain⟨v,r,e,h4,h5⟩:=h2
    simp only[ao,bO]at h1 e
    obtain⟨rfl,rfl⟩:=e
    obtain⟨rfl,h1⟩:=h1
    rw[c7]
    unfold pI
    rw[bu]
    by_cases hk:p.1=k
    ·simp only[hk,decide_true]
     exact .inr ⟨_,_,rfl,oV hk,h4⟩
    ·simp only[hk,decide_false]
     rw[oW hk]
     exact ih k h1 h5
def Ct {φ:List Addr}{H:Hp}{k:Key}{d:D}{v:V}(hd:iL φ H d v){kd:List (Key×D)}{kv:List (Key×V)}(e:kv.map (·.1)=kd.map (·.1))(ha:d7 φ H (kd.map (·.2)) (kv.map (·.2))):(putK kv k v).map (·.1)=(dput kd k d).map (·.1)/\d7 φ H ((dput kd k d).map (·.2)) ((putK kv k v).map (·.2)):=by
 have ea:(kv.any fun p=>decide (p.1=k))=kd.any fun p=>decide (p.1=k):=by
  have:(kv.map (·.1)).any (fun x=>decide (x=k))=(kd.map (·.1)).any fun x=>decide (x=k):=by rw[e]
  rw[List.any_map,List.any_map]at this
  exact this
 unfold putK dput
 rw[ea]
 by_cases q:(kd.any fun p=>decide (p.1=k))=true
 ·rw[aj q,aj q]
  clear q ea
  induction kd generalizing kv with
  | nil =>
   cases kv with
   | nil=>exact⟨rfl,rfl⟩
   | cons _ _=>cases e
  | cons p kd ih =>
   cases kv with
   | nil=>cases e
   | cons p' kv =>
    simp only[ao,bO]at e
    obtain⟨v0,r,e2,h4,h5⟩:=ha
    simp only[ao,bO]at e2
    obtain⟨rfl,rfl⟩:=e2
    obtain⟨i1,i2⟩:=ih e.2 h5
    by_cases hk:p.1=k
    ·have hk':p'.1=k:=by rw[e.1,hk]
     simp only[ao,aj hk,aj hk']
     exact⟨by rw[i1,e.1],_,_,rfl,hd,i2⟩
    ·have hk':¬ p'.1=k:=by rw[e.1];exact hk
     simp only[ao,ai hk,ai hk']
     exact⟨by rw[i1,e.1],_,_,rfl,h4,i2⟩
 ·rw[ai q,ai q,aK,aK,aK,aK]
  exact⟨by rw[e];rfl,ha.app ⟨v,[],rfl,hd,rfl⟩⟩
section
variable {X:Cx}{a b e:Expr}{pos:Pos}
def ixM (μ:MS)(j:Nat)(y:D):Option (Option D):=(uW μ j).bind fun q=>(nT y).map fun k=>pI (q.1.zip q.2) k
def ixM_ex {μ:MS}{j:Nat}{y:D}{o:Option D}(h:ixM μ j y=some o):∃ ks ds k,uW μ j=some (ks,ds)/\nT y=some k/\pI (ks.zip ds) k=o:=by
 unfold ixM at h
 cases e:uW μ j with
 | none=>rw[e]at h;cases h
 | some q =>
  rw[e]at h
  cases e2:nT y with
  | none=>rw[e2]at h;cases h
  | some k=>rw[e2]at h;cases h;exact⟨q.1,q.2,k,rfl,rfl,rfl⟩
def dIxKM:uY:=fun x y μ K=>match x with
 | .mr j=>∃ d,ixM μ j y=some (some d)/\K d μ
 | _=>False
def dAsgKM (w wo wi:De):Ds:=fun N ρ μ=>w ρ μ fun d dX=>wo ρ dX fun o fw=>wi ρ fw fun i oI=>match o with
 | .mr j=>∃ kd Dw:List (Key×D),oI[j]?=some (.iD (kd.map (·.1)) (kd.map (·.2)))/\kd.length<sizeLine/\(nT i).map (fun k=>dput kd k d)=some Dw/\N.nx ρ (oI.set j (.iD (Dw.map (·.1)) (Dw.map (·.2))))
 | _=>False
def jx {o i:Expr}{w wo wi:De}{pos':Pos}(hu:X.A.units+1<cLine)(he:PD X e w)(ho:PD X o wo)(hi:PD X i wi)(hs:swapsWith e (some (.Subscript o i pos')) pos.line X.env=pure false:=by rfl) :
 xA X (.Assign [.Subscript o i pos'] e pos) (dAsgKM w wo wi):=(ps_dput hu ho hi he hs).imp fun E σ H hq=>by
 obtain⟨φ,ρ,μ,N,A,M,w,L⟩:=hq
 refine⟨φ,ρ,μ,_,A,M,w,fun d dX eM v1 H1 k1 f1 M1 i1=>?_⟩
 refine⟨eM,ρ,dX,_,A.mono f1,M1,k1,fun d2 fw iN v2 H2 k2 f2 M2 i2=>?_⟩
 refine⟨iN,ρ,fw,_,A.mono (f1.trans f2),M2,k2,fun d3 oI yU v3 H3 k3 f3 M3 i3=>?_⟩
 cases d2 with
 | mr j =>
  obtain⟨kd,Dw,em,hl,ek',k3⟩:=k3
  obtain⟨k,ek,rfl⟩:=Option.map_eq_some_iff.mp ek'
  obtain⟨p,hp,rfl⟩:=i2.mono f3
  obtain⟨p',e1,kvs,vs,hv,h1,h2,ha⟩:=M3.at_ j _ em
  rw[hp]at e1;cases e1
  subst h2
  cases nS ek i3
  have f4:Fr yU H3 yU (upd H3 p (.dK (putK kvs k v1))):=.put (Ak hp)
  obtain⟨g1,g2⟩:=Ct (k:=k) ((i1.mono (f2.trans f3)).mono f4) h1 (ha.mono f4)
  refine⟨p,_,rfl,DPut.k hv (by have:=bL List.length h1;rw[fF,fF]at this;omega),?_⟩
  have M4:=M3.put (k:=j) (p:=p) (o:=.dK (putK kvs k v1)) (m:=.iD ((dput kd k d).map (·.1)) ((dput kd k d).map (·.2))) hp ⟨putK kvs k v1,_,dW,g1,rfl,g2⟩
  exact L.nx ρ _ yU σ _ k3 ((f1.trans (f2.trans f3)).trans f4) (A.mono ((f1.trans (f2.trans f3)).trans f4)) M4
 | _=>exact k3.elim
def DT:List V->Hp->VK->Prop:=fun vs H Q=>match vs with
 | [.ref a]=>∃ kvs,Rd H a (.dK kvs)/\∀ p,H p=none->Q (.ref p) (upd H p (.dK kvs))
 | _=>False
def dictC:ia X (.type "dict") DT:=by
 intro dg s σ H xs us Q I r h
 unfold DT at h
 split at h
 ·rename_i a
  obtain⟨kvs,rd,q⟩:=h
  cases r with
  | cons r1 r2 =>
   cases r2
   cases r1
   exact d_copyOf I rd fun p s' hp I'=>⟨.ref p,_,I',rfl,q p hp⟩
 ·exact h.elim
end
def jnT (l1 l2:List Nat)(p:Int):List Nat:=l1.take p.toNat++l2.drop p.toNat
def jnT_low {l1 l2:List Nat}{p:Int}{k:Nat}(h:p<=l1.length)(hk:(k:Int)<p):(jnT l1 l2 p)[k]?=l1[k]?:=by
 unfold jnT
 rw[uU (by rw[aS];omega),List.getElem?_take,aj (by omega)]
def jnT_high {l1 l2:List Nat}{p:Int}{k:Nat}(h0:0<=p)(h:p<=l1.length)(hk:p<=(k:Int)):(jnT l1 l2 p)[k]?=l2[k]?:=by
 unfold jnT
 rw[qx (by rw[aS];omega),aS,List.getElem?_drop]
 congr 1;omega
def jnT_len {l1 l2:List Nat}{p:Int}(h0:0<=p)(h1:p<=l1.length)(h:l1.length=l2.length):(jnT l1 l2 p).length=l1.length:=by
 unfold jnT
 rw[lx,aS,bS];omega
def jnT_ox {l1 l2:List Nat}{p:Int}(h1:OX l1)(h2:OX l2):OX (jnT l1 l2 p):=fun c hc=>by
 rcases List.mem_append.mp hc with q | q
 ·exact h1 c (aR q)
 ·exact h2 c (List.mem_of_mem_drop q)
end L2
namespace L2
open PySem PySem.Spec PyProof.Rows PySem.SeqAt
end L2
namespace L2
open PySem PySem.Spec PyProof.Rows
def cutD_from {α:Type}(g:α->D)(ts:List α)(k:Nat):cutD (ts.map g) (some (k:Int)) none=(ts.drop k).map g:=by
 unfold cutD
 rw[HT.l9,HT.rH,fF,<- List.map_drop,<- List.map_take]
 by_cases q:k<=ts.length
 ·rw[cC q,aX (by rw[bS];omega)]
 ·rw[cz (by omega),cz (by omega),List.take_nil]
def lJ (C:Addr)(μ:MS)(k:Nat):Option (List Str×List D):=match μ[k]? with | some (.ins C' ns ds)=>if C'=C then some (ns,ds)else none | _=>none
def rW {C:Addr}{μ:MS}{k:Nat}{q:List Str×List D}(h:lJ C μ k=some q):μ[k]?=some (.ins C q.1 q.2):=by
 unfold lJ at h
 split at h
 ·rename_i C' ns ds e
  by_cases z:C'=C
  ·rw[aj z]at h;cases h;rw[e,z]
  ·rw[ai z]at h;cases h
 ·cases h
def fT {C:Addr}{μ:MS}{k:Nat}{ns:List Str}{ds:List D}(h:μ[k]?=some (.ins C ns ds)):lJ C μ k=some (ns,ds):=by unfold lJ;rw[h];exact aj rfl
def mn (f:Str):List Str->List D->Option D
 | n::ns,d::ds=>if n=f then some d else mn f ns ds
 | _,_=>none
def putN (f:Str)(d:D):List Str->List D->List Str×List D
 | n::ns,e::ds=>if n=f then(n::ns,d::ds)else(n::(putN f d ns ds).1,e::(putN f d ns ds).2)
 | _,_=>([f],[d])
def rP {φ:List Addr}{H:Hp}{f:Str}{d:D}:∀ {fs:List (Str×V)} {ds:List D},d7 φ H ds (fs.map (·.2))->mn f (fs.map (·.1)) ds=some d->∃ v,fs.lookup f=some v/\iL φ H d v
 | [],ds,h,e=>by cases ds <;> cases e
 | (n,x)::fs,ds,h,e=>by
  cases ds with
  | nil=>cases e
  | cons d0 ds =>
   obtain⟨v,r,e1,h1,h2⟩:=h
   simp only[ao,bO]at e1
   obtain⟨rfl,rfl⟩:=e1
   simp only[ao,mn]at e
   rw[cL]
   by_cases q:n=f
   ·rw[aj q]at e;cases e
    subst q
    exact⟨x,by simp,h1⟩
   ·rw[ai q]at e
    have:(f==n)=false:=beq_eq_false_iff_ne.mpr fun z=>q z.symm
    simp only[this]
    exact rP h2 e
def wH {φ:List Addr}{H:Hp}{f:Str}:∀ {fs:List (Str×V)} {ds:List D},d7 φ H ds (fs.map (·.2))->mn f (fs.map (·.1)) ds=none->fs.lookup f=none
 | [],ds,h,e=>rfl
 | (n,x)::fs,ds,h,e=>by
  cases ds with
  | nil=>cases(show _=_ from h)
  | cons d0 ds =>
   obtain⟨v,r,e1,h1,h2⟩:=h
   simp only[ao,bO]at e1
   obtain⟨rfl,rfl⟩:=e1
   simp only[ao,mn]at e
   rw[cL]
   by_cases q:n=f
   ·rw[aj q]at e;cases e
   ·rw[ai q]at e
    have:(f==n)=false:=beq_eq_false_iff_ne.mpr fun z=>q z.symm
    simp only[this]
    exact wH h2 e
def zN {φ:List Addr}{H:Hp}{f:Str}{d:D}{v:V}(hd:iL φ H d v):∀ {fs:List (Str×V)} {ds:List D},d7 φ H ds (fs.map (·.2))->(lr f v fs).map (·.1)=(putN f d (fs.map (·.1)) ds).1/\d7 φ H (putN f d (fs.map (·.1)) ds).2 ((lr f v fs).map (·.2))
 | [],ds,h=>by cases ds <;> exact⟨rfl,v,[],rfl,hd,rfl⟩
 | (n,x)::fs,ds,h=>by
  cases ds with
  | nil=>cases(show _=_ from h)
  | cons d0 ds =>
   obtain⟨v',r,e1,h1,h2⟩:=h
   simp only[ao,bO]at e1
   obtain⟨rfl,rfl⟩:=e1
   simp only[lr,ao,putN]
   by_cases q:n=f
   ·rw[aj q,aj q]
    exact⟨rfl,_,_,rfl,hd,h2⟩
   ·rw[ai q,ai q]
    obtain⟨i1,i2⟩:=zN hd h2
    exact⟨by simp only[ao,i1],_,_,rfl,h1,i2⟩
section
variable {X:Cx}{a b e o:Expr}{es:List Expr}{pos:Pos}{C:Addr}
def dFld (C:Addr)(f:Str)(w:De):De:=fun ρ μ K=>w ρ μ fun x dX=>match x with
 | .mr k=>∃ d,(lJ C dX k).bind (fun q=>mn f q.1 q.2)=some d/\K d dX
 | .obj C' ns ds=>C'=C/\∃ d,mn f ns ds=some d/\K d dX
 | _=>False
def eW {f:Str}{w:De}(c:xI X.K C)(n:lG X.K C f)(h:PD X e w)(hb:attributeBase e f X.env (eval e X.env)=eval e X.env:=by rfl):PD X (.Attribute e f pos) (dFld C f w):=(pe_fld h hb).imp fun σ H Q hq=>by
 obtain⟨φ,ρ,μ,K,A,M,k,L⟩:=hq
 refine⟨φ,ρ,μ,_,A,M,k,fun d1 dX eM v1 H1 k1 f1 M1 i1=>?_⟩
 cases d1 with
 | mr j =>
  obtain⟨d,e1,k1⟩:=k1
  obtain⟨q,e2,e3⟩:=Option.bind_eq_some_iff.mp e1
  obtain⟨p,hp,rfl⟩:=i1
  obtain⟨p',e4,dx,fs,h1,h2,h3⟩:=M1.at_ j _ (rW e2)
  rw[hp]at e4;cases e4
  rw[<- h2]at e3
  obtain⟨v,l,iv⟩:=rP h3 e3
  exact⟨p,C,dx,fs,v,rfl,h1,c,n,l,L _ dX eM v H1 k1 f1 M1 iv⟩
 | obj C' ns ds =>
  obtain⟨rfl,d,e3,k1⟩:=k1
  obtain⟨p,dx,fs,vs,rfl,_,h1,h2,rfl,h3⟩:=i1
  rw[<- h2]at e3
  obtain⟨v,l,iv⟩:=rP h3 e3
  exact⟨p,_,dx,fs,v,rfl,h1,c,n,l,L _ dX eM v H1 k1 f1 M1 iv⟩
 | _=>exact k1.elim
def dSFld (C:Addr)(f:Str)(w wo:De):Ds:=fun N ρ μ=>w ρ μ fun d dX=>wo ρ dX fun x fw=>match x with
 | .mr k=>∃ q q':List Str×List D,lJ C fw k=some q/\putN f d q.1 q.2=q'/\q.1.length<1000/\N.nx ρ (fw.set k (.ins C q'.1 q'.2))
 | _=>False
def vZ {f:Str}{w wo:De}{pos':Pos}(c:xI X.K C)(n:lG X.K C f)(he:PD X e w)(ho:PD X o wo)(hs:swapsWith e (some (.Attribute o f pos')) pos.line X.env=pure false:=by rfl):xA X (.Assign [.Attribute o f pos'] e pos) (dSFld C f w wo) :=
 (ps_fld ho he hs).imp fun E σ H hq=>by
 obtain⟨φ,ρ,μ,N,A,M,k,L⟩:=hq
 refine⟨φ,ρ,μ,_,A,M,k,fun d dX eM v1 H1 k1 f1 M1 i1=>?_⟩
 refine⟨eM,ρ,dX,_,A.mono f1,M1,k1,fun d2 fw iN v2 H2 k2 f2 M2 i2=>?_⟩
 cases d2 with
 | mr j =>
  obtain⟨q,_,e2,rfl,hl,k2⟩:=k2
  obtain⟨p,hp,rfl⟩:=i2
  obtain⟨p',e4,dx,fs,h1,h2,h3⟩:=M2.at_ j _ (rW e2)
  rw[hp]at e4;cases e4
  have f4:Fr iN H2 iN (upd H2 p (.ins C dx (lr f v1 fs))):=.put (Ak hp)
  obtain⟨g1,g2⟩:=zN (f:=f) ((i1.mono f2).mono f4) (h3.mono f4)
  rw[h2]at g1 g2
  refine⟨p,C,dx,fs,rfl,h1,c,n,by rw[<- h2,fF]at hl;exact hl,?_⟩
  exact L.nx ρ _ iN σ _ k2 ((f1.trans f2).trans f4) (A.mono ((f1.trans f2).trans f4)) (M2.put hp ⟨dx,_,dW,g1,g2⟩)
 | _=>exact k2.elim
structure xE (P:ae)(w:af)(K:aa)(mg:Str->Option Value)(dh:Heap)(C:Addr)(m:Str)(k:Nat)(ps:List Str)(sp:Sp):Prop where
 ex:∃ f fd,eF P w K mg dh jM k f fd ps sp/\Meth K C m f/\Binds K fd ps []
def ue (C:Addr)(m:Str)(μ:MS):D->Prop
 | .mr k=>(lJ C μ k).map (fun q=>mn m q.1 q.2)=some none
 | .obj C' ns es=>C'=C/\mn m ns es=none
 | _=>False
def wg {m:Str}{φ:List Addr}{H:Hp}{μ:MS}{d:D}{v:V}(M:eJ φ H μ)(i:iL φ H d v)(h:ue C m μ d):∃ p dx fs,v=.ref p/\H p=some (.ins C dx fs)/\fs.lookup m=none:=by
 cases d with
 | mr j =>
  obtain⟨q,e2,e3⟩:=Option.map_eq_some_iff.mp (show(lJ C μ j).map (fun q=>mn m q.1 q.2)=some none from h)
  obtain⟨p,hp,rfl⟩:=i
  obtain⟨p',e4,dx,fs,h1,h2,h3⟩:=M.at_ j _ (rW e2)
  rw[hp]at e4;cases e4
  rw[<- h2]at e3
  exact⟨p,dx,fs,rfl,h1,wH h3 e3⟩
 | obj C' ns es =>
  obtain⟨rfl,e3⟩:=(show C'=C/\mn m ns es=none from h)
  obtain⟨p,dx,fs,vs0,rfl,_,h1,h2,rfl,h3⟩:=i
  rw[<- h2]at e3
  exact⟨p,dx,fs,rfl,h1,wH h3 e3⟩
 | _=>exact(show False from h).elim
def dMeth (C:Addr)(m:Str)(f:jg)(wo:De)(w:DA):De:=fun ρ μ K=>wo ρ μ fun x dX=>ue C m dX x/\w ρ dX fun ds fw=>f (x::ds) fw K
def tD_meth {m:Str}{f:jg}{wo:De}{w:DA}{σ:St}{H:Hp}{Q:VK}(h:tD (dMeth C m f wo w) σ H Q):EV C m (gO f) [] E0 (tD wo) (tDA w) σ H Q:=by
 obtain⟨φ,ρ,μ,K,A,M,k,L⟩:=h
 refine⟨φ,ρ,μ,_,A,M,k,fun d1 dX eM v1 H1 k1 f1 M1 i1=>?_⟩
 obtain⟨p,dx,fs,rfl,h1,h2⟩:=wg M1 i1 k1.1
 refine⟨p,dx,fs,rfl,h1,h2,eM,ρ,dX,_,A.mono f1,M1,k1.2,fun ds fw iN vs H2 k2 f2 M2 i2=>?_⟩
 show gO f (.ref p::(vs++[])) H2 Q E0
 rw[aQ]
 exact⟨iN,d1::ds,fw,K,⟨_,vs,rfl,iL.mono f2 i1,i2⟩,M2,k2,L.mono (f1.trans f2)⟩
def d_meth {m:Str}{f:jg}{wo:De}{w:DA}{apos:Pos}{pl:Sem Bool}{k:Nat}{ps:List Str}(CM:xE X.prog X.w X.K X.mg X.dh C m k ps (gO f))(c:xI X.K C)(hr:gZ k X.A)(ho:PD X o wo)(ha:uP X (e::es) w)
 (Dy:starEach (e::es) X.env=(false,eval e X.env)::starEach es X.env:=by rfl) (kO:(backTo pos (starEach es X.env)).any (·.1)=false:=by rfl)
 (ht:eval (.Call (.Attribute o m apos) (e::es) [] pos) X.env=(do
   let ov <- eval o X.env
   standAt apos.atName
   let (f,first) <- holding [ov] (getMethod ov m pl)
   callWith pos f first (backTo pos (starEach (e::es) X.env)) (backToKw pos (keywordEach [] X.env))):=by rfl) :
 PD X (.Call (.Attribute o m apos) (e::es) [] pos) (dMeth C m f wo w):=by
 obtain⟨f',fd,F,hm,hb⟩:=CM.ex
 exact(zQ ho c hm F hr hb .nil Ft ha Dy kO ht).imp fun σ H Q hq=>tD_meth hq
def gw {m:Str}{f:jg}{wo:De}{apos:Pos}{pl:Sem Bool}{k:Nat}{ps:List Str}(CM:xE X.prog X.w X.K X.mg X.dh C m k ps (gO f))(c:xI X.K C)(hr:gZ k X.A)(ho:PD X o wo)
 (ht:eval (.Call (.Attribute o m apos) [] [] pos) X.env=(do
   let ov <- eval o X.env
   standAt apos.atName
   let (f,first) <- holding [ov] (getMethod ov m pl)
   callWith pos f first (backTo pos (starEach [] X.env)) (backToKw pos (keywordEach [] X.env))):=by rfl) :
 PD X (.Call (.Attribute o m apos) [] [] pos) (dMeth C m f wo dNil):=by
 obtain⟨f',fd,F,hm,hb⟩:=CM.ex
 refine(pe_meth0 ho c hm F hr hb .nil Ft ht).imp fun σ H Q hq=>?_
 obtain⟨φ,ρ,μ,K,A,M,k,L⟩:=hq
 refine⟨φ,ρ,μ,_,A,M,k,fun d1 dX eM v1 H1 k1 f1 M1 i1=>?_⟩
 obtain⟨p,dx,fs,rfl,h1,h2⟩:=wg M1 i1 k1.1
 exact⟨p,dx,fs,rfl,h1,h2,eM,[d1],dX,K,⟨_,[],rfl,i1,rfl⟩,M1,k1.2,L.mono f1⟩
structure CalI (P:ae)(w:af)(K:aa)(mg:Str->Option Value)(dh:Heap)(x:Str)(C:Addr)(k:Nat)(ps:List Str)(sp:Sp):Prop where
 ex:∃ f fd,eF P w K mg dh jM k f fd ps sp/\Mk K C f/\mg x=some (.ref C)/\Binds K fd ps []
def dMake (C:Addr)(f:jg)(w:DA):De:=fun ρ μ K=>w ρ μ fun ds dX=>f (.mr dX.length::ds) (dX++[.ins C [] []]) fun d fw=>d=.fV/\K (.mr dX.length) fw
def tD_make {f:jg}{w:DA}{σ:St}{H:Hp}{Q:VK}(h:tD (dMake C f w) σ H Q):tMake C (gO f) [] E0 (tDA w) σ H Q:=by
 obtain⟨φ,ρ,μ,K,A,M,k,L⟩:=h
 refine⟨φ,ρ,μ,_,A,M,k,fun ds dX eM vs H1 k1 f1 M1 i1 x dx hx hdx ne=>?_⟩
 have S1:gG H1 (upd H1 dx (.own x)):=gG.upd hdx
 have B8:upd H1 dx (.own x) x=none:=by rw[d9 (bf ne)];exact hx
 have fa:Fr eM H1 eM (upd H1 dx (.own x)):=.same S1
 obtain⟨M2,f2⟩:=(M1.same S1).snoc (m:=.ins C [] []) (o:=.ins C dx []) B8 ⟨dx,[],dW,rfl,rfl⟩
 have f3:=fa.trans f2
 have hin:iL (eM++[x]) (upd (upd H1 dx (.own x)) x (.ins C dx [])) (.mr dX.length) (.ref x):=⟨x,by rw[qx (by rw[M1.len];exact ah _),M1.len,aT];rfl,rfl⟩
 show gO f (.ref x::(vs++[])) _ _ E0
 rw[aQ]
 refine⟨eM++[x],.mr dX.length::ds,dX++[.ins C [] []],_,⟨_,vs,rfl,hin,i1.mono f3⟩,M2,k1,fun d oI yU v H3 k3 f4 M3 i3=>?_⟩
 obtain⟨rfl,k3⟩:=k3
 exact⟨i3,L _ oI yU _ H3 k3 ((f1.trans f3).trans f4) M3 (hin.mono f4)⟩
def pK {x:Str}{f:jg}{w:DA}{p:Pos}{k:Nat}{ps:List Str}(CI:CalI X.prog X.w X.K X.mg X.dh x C k ps (gO f))(hr:gZ (k+1) X.A)(hg:Gl X x)(ha:uP X (e::es) w)
 (tL:(x==("__debug__" : Str))=false:=by decide) (he:starEach (e::es) X.env=(false,eval e X.env)::starEach es X.env:=by rfl) (kO:(backTo pos (starEach es X.env)).any (·.1)=false:=by rfl) :
 PD X (.Call (.Name x p) (e::es) [] pos) (dMake C f w):=by
 obtain⟨f',fd,F,M,hm,hb⟩:=CI.ex
 exact(Fm M F hr hg hm hb .nil Ft ha tL he kO).imp fun σ H Q hq=>tD_make hq
def fN {P:ae}{w:af}{K:aa}{mg:Str->Option Value}{dh h:Heap}{x q:Str}{st:Stmt}{f:Addr}{fd:ag}{k:Nat}{ps:List Str}{sp:Sp}(G:K.In h)(N:h.Ns mainGlobals mg)(F:gL K x q st f fd)(ok:eF P w K mg dh jM k f fd ps sp)(hb:Binds K fd ps [])
 (a:W.nsIn K mainGlobals x=some (some (.ref f)):=by kernel_rfl):oU P w K mg dh x k ps sp:=⟨f,fd,ok,bV G N a,F.kp,hb⟩
def mw {P:ae}{w:af}{K:aa}{mg:Str->Option Value}{dh:Heap}{C:Addr}{x q:Str}{st:Stmt}{f:Addr}{fd:ag}{k:Nat}{ps:List Str}{sp:Sp}(F:gL K x q st f fd)(ok:eF P w K mg dh jM k f fd ps sp)(hb:Binds K fd ps [])
 (a:W.findIn K (.ref C) x=some (some (.ref f)):=by kernel_rfl) (i:W.isFn K (.ref f)=true:=by kernel_rfl):xE P w K mg dh C x k ps sp:=⟨f,fd,ok,⟨a,i,F.kp⟩,hb⟩
def cali_of {P:ae}{w:af}{K:aa}{mg:Str->Option Value}{dh h:Heap}{C:Addr}{y q:Str}{st:Stmt}{f:Addr}{fd:ag}{k:Nat}{ps:List Str}{sp:Sp}(G:K.In h)(N:h.Ns mainGlobals mg)(F:gL K "__init__" q st f fd)(ok:eF P w K mg dh jM k f fd ps sp)(hb:Binds K fd ps [])
 (n:W.nsIn K mainGlobals y=some (some (.ref C)):=by kernel_rfl) (a:W.findIn K (.ref C) "__init__"=some (some (.ref f)):=by kernel_rfl) (i:W.isFn K (.ref f)=true:=by kernel_rfl) (m:W.makesIn K C=true:=by kernel_rfl) (p:W.keepIn K (.ref C)=true:=by kernel_rfl):CalI P w K mg dh y C k ps sp:=⟨f,fd,ok,⟨m,a,i,p⟩,bV G N n,hb⟩
end
def bmN:List Str:=["places", "rows", "tables", "whole", "counts"]
abbrev At (g:Heap)(b:Addr):Prop:=∃ u,g.get? b=some u
structure Kp (g:Heap)(l:List Env)(h h':Heap):Prop where
 other:∀ b o,h.get? b=some o->At g b->b∉x9 l->h'.get? b=some o
 slot:∀ b o,h.get? b=some o->At g b->b∈x9 l->∃ sl,h'.get? b=some { o with slots:=sl}
def Kp.trans {g:Heap}{l:List Env}{h1 h2 h3:Heap}(a:Kp g l h1 h2)(b:Kp g l h2 h3):Kp g l h1 h3 :=
 ⟨fun c o q lt hc=>b.other c o (a.other c o q lt hc) lt hc,fun c o q lt hc=>by
  obtain⟨sl,e⟩:=a.slot c o q lt hc
  obtain⟨sl',e'⟩:=b.slot c _ e lt hc
  exact⟨sl',e'⟩⟩
def Kp.any {g:Heap}{l:List Env}{h h':Heap}(a:Kp g l h h'){b:Addr}{o:Obj}(q:h.get? b=some o)(lt:At g b):∃ sl,h'.get? b=some { o with slots:=sl}:=by
 by_cases hb:b∈x9 l
 ·exact a.slot b o q lt hb
 ·exact⟨o.slots,a.other b o q lt hb⟩
def Kp.of {g:Heap}{l:List Env}{h h':Heap}(k:∀ b o,h.get? b=some o->At g b->h'.get? b=some o):Kp g l h h':=⟨fun b o q lt _=>k b o q lt,fun b o q lt _=>⟨o.slots,k b o q lt⟩⟩
abbrev Gk (g h:Heap):Prop:=∀ b,At g b->At h b
def Kp.gk {g:Heap}{l:List Env}{h h':Heap}(a:Kp g l h h')(k:Gk g h):Gk g h':=fun b hb=>by
 obtain⟨o,e⟩:=k b hb
 obtain⟨sl,e'⟩:=a.any e hb
 exact⟨_,e'⟩
def Gk.fresh {g h:Heap}(k:Gk g h):g.get? h.objs.size=none:=by
 cases q:g.get? h.objs.size with
 | none=>rfl
 | some o=>obtain⟨o',e⟩:=k _ ⟨o,q⟩;exact absurd (jK e) (bw _)
def at_ne {g:Heap}{b c:Addr}(h:At g b)(hc:g.get? c=none):c≠b:=fun z=>by obtain⟨u,e⟩:=h;rw[<- z,hc]at e;cases e
def A0 (g:Heap)(e:Addr)(cls fl:Value)(h:Heap):Prop:=∃(oe:Obj) (vs:Array Value) (T:Addr) (oT:Obj) (ts:Array Value),(h.get? e=some oe/\(oe.cls=cls/\oe.dict=none)/\oe.data=.fields vs/\vs[1]?=some (.ref T)/\vs[2]?=some .none)/\(g.get? T=none/\T≠e/\h.get? T=some oT/\oT.data=.fields ts/\ts[3]?=some fl)/\g.get? e=none
section
variable {M:Model}{A:Around}{E:Value->Shared->Prop}{s:Shared}
def yG {dh:Heap}{env:Env}{dA:List Env}{L e:Addr}{oe:Obj}{vs:Array Value}{head:Value}{hadNext:Bool}{g:Heap}{Q:Unit->Shared->Prop}
 (hfr:A.frames=some (env::dA)) (hl:s.heap.FunFrames dh (env::dA)) (hf:env.frame=some L) (he:s.heap.get? e=some oe) (hdi:oe.dict=none) (hd:oe.data=.fields vs) (h1:1<vs.size) (h2:vs[2]?=some .none) (hn:g.get? e=none) (hs:Gk g s.heap)
 (h:∀ h',A0 g e oe.cls (rawInt L) h'->Kp g (env::dA) s.heap h'->Q () { s with heap:=h'}) :
 wpAny M A (do let a <- frameOf env;let pl <- entryPlaceOf L hadNext;let b <- EntryCells.newEntry head a .none (rawInt L) .none pl;setField (.ref e) 1 b) Q E s:=by
 have hene:e∉(env::dA).filterMap (·.frame):=fun hm=>by
  obtain⟨_,o,ho,hnf⟩:=hl.mem hm
  rw[he]at ho;injection ho with ho;subst ho;exact hnf vs hd
 refine eI (wpAny_frameOf_fun hfr hl hf fun m x=>?_)
 refine eI (wpAny_entryPlaceOf fun pl kO=>?_)
 unfold EntryCells.newEntry newFields
 refine eI (a6 ?_ (kO.sizeOk5 _ _ _ _ _))
 obtain⟨rec,hrec⟩:∃ rec:Obj,rec={ cls:=.type "traceback",dict:=none,data:=.fields ([head,.ref L,.none,rawInt L,.none]++(if pl.isEmpty then List.replicate 6 Value.none else pl)).toArray}:=⟨_,rfl⟩
 rw[<- hrec]
 have e1:m.get? e=some oe:=(x.2.1 e hene).trans he
 have e2:=jt rec e1
 have hT:(m.push rec).get? m.objs.size=some rec:=aB m (by rw[hrec];rfl)
 have hTe:m.objs.size≠e:=bo (jK e1)
 have hd3:=c6 hd (·.setIfInBounds 1 (Value.ref m.objs.size))
 have e3:=cc (Obj.mapFields (·.setIfInBounds 1 (Value.ref m.objs.size))) e2 (Obj.isFreed_of_fields hd3)
 refine cG e2 hd h1 (h _ ⟨_,_,m.objs.size,rec,_,⟨e3,⟨Obj.cls_mapFields _ _,by show(Obj.mapFields _ oe).dict=none;unfold Obj.mapFields;split <;> exact hdi⟩,hd3,by simp[h1],by rw[Array.getElem?_setIfInBounds_ne (by decide)];exact h2⟩,⟨by rw[x.1];exact hs.fresh,hTe,?_,by rw[hrec],?_⟩,hn⟩ ⟨fun b o q lt hb=>?_,fun b o q lt hb=>?_⟩)
 ·rw[bq _ _ (bf hTe)];exact hT
 ·first | (simp;done) | (rcases kO with rfl | ⟨_,_,_,_,_,_,_,rfl⟩<;> simp)
 ·rw[bq _ _ (at_ne lt hn)]
  exact jt _ ((x.2.1 b hb).trans q)
 ·obtain⟨sl,q'⟩:=x.2.2 b o q
  exact⟨sl,by rw[bq _ _ (at_ne lt hn)];exact jt _ q'⟩
def D2 {dh:Heap}{env:Env}{dA:List Env}{L e:Addr}{oe:Obj}{vs:Array Value}{g:Heap}{Q:Unit->Shared->Prop}
 (hfr:A.frames=some (env::dA)) (hl:s.heap.FunFrames dh (env::dA)) (hf:env.frame=some L) (he:s.heap.get? e=some oe) (hdi:oe.dict=none) (hd:oe.data=.fields vs) (h1:vs[1]?=some .none) (h2:vs[2]?=some .none) (hn:g.get? e=none) (hs:Gk g s.heap)
 (h:∀ h',A0 g e oe.cls (rawInt L) h'->Kp g (env::dA) s.heap h'->Q () { s with heap:=h'}):wpAny M A (noteFrame (.ref e) env) Q E s:=by
 unfold noteFrame
 simp only[hf]
 refine eI (aW he hd h1 ?_)
 rw[ai (by decide)]
 exact yG hfr hl hf he hdi hd (Array.getElem?_eq_some_iff.mp h1).1 h2 hn hs h
def yx {dh:Heap}{env:Env}{dA:List Env}{L e:Addr}{cls:Value}{g:Heap}{Q:Unit->Shared->Prop}
 (hfr:A.frames=some (env::dA)) (hl:s.heap.FunFrames dh (env::dA)) (hf:env.frame=some L) (hs:Gk g s.heap) (x:A0 g e cls .none s.heap)
 (h:∀ h',A0 g e cls (rawInt L) h'->Kp g (env::dA) s.heap h'->Q () { s with heap:=h'}):wpAny M A (noteFrame (.ref e) env) Q E s:=by
 obtain⟨oe,vs,T,oT,ts,⟨he,hc,hd,h1,h2⟩,⟨hn,hTe,hT,hdT,h3⟩,hne⟩:=x
 unfold noteFrame
 simp only[hf]
 refine eI (aW he hd h1 ?_)
 rw[aj (show(Value.ref T != Value.none)=true from by simp)]
 refine eI (aW hT hdT h3 ?_)
 rw[ai (show ¬ ((Value.none==rawInt L)=true)from by simp[rawInt])]
 refine eI (cG hT hdT (Array.getElem?_eq_some_iff.mp h3).1 ?_)
 have other:∀ b,b≠T->(s.heap.update T (Obj.mapFields (·.setIfInBounds 3 Value.none))).get? b=s.heap.get? b:=fun b hb=>bq _ _ (bf hb)
 have ff:(s.heap.update T (Obj.mapFields (·.setIfInBounds 3 Value.none))).FunFrames dh (env::dA):=hl.of_keeps fun b o q nf=>⟨o,(other b fun z=>by rw[z,hT]at q;cases q;exact nf _ hdT).trans q,rfl⟩
 have k0:Kp g (env::dA) s.heap (s.heap.update T (Obj.mapFields (·.setIfInBounds 3 Value.none))):=Kp.of fun b o q lt=>(other b (bf (at_ne lt hn))).trans q
 exact yG (g:=g) hfr ff hf ((other e (bf hTe)).trans he) hc.2 hd (Array.getElem?_eq_some_iff.mp h1).1 h2 hne (k0.gk hs) fun h' a k=>h h' (hc.1▸a) (k0.trans k)
def mq {l:List Env}{e:Addr}{cls fl:Value}{g:Heap}{Q:Unit->Shared->Prop}(x:A0 g e cls fl s.heap)
 (h:∀ h',A0 g e cls .none h'->Kp g l s.heap h'->(∀ b o,s.heap.get? b=some o->(∀ vs,o.data≠.fields vs)->h'.get? b=some o)->Q () { s with heap:=h'}):wpAny M A (setFlight (.ref e) none) Q E s:=by
 obtain⟨oe,vs,T,oT,ts,⟨he,hc,hd,h1,h2⟩,⟨hn,hTe,hT,hdT,h3⟩,hne⟩:=x
 unfold setFlight
 refine eI (aW he hd h1 ?_)
 rw[aj (show(Value.ref T != Value.none)=true from by simp)]
 have h3s:=(Array.getElem?_eq_some_iff.mp h3).1
 have hd3:=c6 hdT (·.setIfInBounds 3 ((none:Option Addr).elim Value.none fun f=>rawInt f))
 have other:∀ b,b≠T->(s.heap.update T (Obj.mapFields (·.setIfInBounds 3 ((none:Option Addr).elim Value.none fun f=>rawInt f)))).get? b=s.heap.get? b:=fun b hb=>bq _ _ (bf hb)
 refine cG hT hdT h3s (h _ ⟨oe,vs,T,_,_,⟨(other e (bf hTe)).trans he,hc,hd,h1,h2⟩,⟨hn,hTe,cc _ hT (Obj.isFreed_of_fields hd3),hd3,by simp[h3s]⟩,hne⟩ (Kp.of fun b o q lt=>(other b (bf (at_ne lt hn))).trans q) fun b o q nf=>(other b fun z=>by rw[z,hT]at q;cases q;exact nf _ hdT).trans q)
end
def k9 (P:ae)(w:af):CXT:=fun dA H s E ev s'=>∃(e:Addr) (cls:Value) (H':Hp) (g:Heap),ev=.ref e/\s'.os=s.os/\AllBare s'.gens/\Un (x9 dA) [] H H' s.heap s'.heap/\ot P w H' s'.heap/\(Gk s.heap g/\(∀ b,H' b≠none->At g b)/\Gk g s'.heap)/\A0 g e cls .none s'.heap/\E cls none H'
def at_of {P:ae}{w:af}{H:Hp}{h:Heap}{a:Addr}{o:HO}(x:ot P w H h)(e:H a=some o):At h a:=by
 have x:=x a o e
 cases o with
 | lst xs=>obtain⟨_,_,_,_,e⟩:=x;exact⟨_,e⟩
 | tup xs=>obtain⟨_,_,_,_,e,_⟩:=x;exact⟨_,e⟩
 | dK kvs=>obtain⟨_,_,_,_,o,_,_,e,_⟩:=x;exact⟨_,e⟩
 | dT kvs=>obtain⟨_,_,_,_,o,_,_,e,_⟩:=x;exact⟨_,e⟩
 | set S n=>obtain⟨o,_,_,_,e,_⟩:=x;exact⟨_,e⟩
 | ins C dx fs=>obtain⟨_,_,_,e,_⟩:=x;exact⟨_,e⟩
 | own y=>obtain⟨_,e⟩:=x;exact⟨_,e⟩
 | xd fs=>obtain⟨_,⟨_,_,_,e,_⟩,_⟩:=x;exact⟨_,e⟩
 | rng lo hi=>obtain⟨_,_,_,e⟩:=x;exact⟨_,e⟩
 | ly ob u=>obtain⟨e,_⟩:=x;exact⟨_,e⟩
 | tbl ps=>exact⟨_,(show h.get? a=some _ from x)⟩
 | met f y=>exact⟨_,(show h.get? a=some _ from x)⟩
 | ext φ=>obtain⟨_,⟨_,e⟩,_⟩:=x;exact⟨_,e⟩
def Ec {P:ae}{w:af}{g h h':Heap}{l:List Env}{H:Hp}(x:ot P w H h)(hb:∀ b,H b≠none->At g b/\b∉x9 l)(k:Kp g l h h'):ot P w H h':=fun a o e =>
 (x a o e).vK (fun b u hb' q=>by
   have hn:H b≠none:=by rcases hb' with rfl | z <;> intro y <;> simp_all
   exact k.other b u q (hb b hn).1 (hb b hn).2) (fun _ q=>q) fun _ _ q=>q
section
variable {X:Cx}{dg:List (Addr×Obj)}{σ:St}{H H':Hp}{s:Shared}{g h1 h2:Heap}
def Inv.exit (I:Inv X dg σ H s)(hx:X.ex=[])(u:Un (x9 X.stack) [] H H' s.heap h1)(hg:Gk s.heap g)(k:Kp g X.stack h1 h2):Un X.fs [] X.H₀ H' X.s₀.heap h2:=by
 have nx:∀ b,b∉X.ex:=fun b z=>by rw[hx]at z;cases z
 have nn:∀ b:Addr,b∉([]:List Addr):=fun b z=>by cases z
 have atg:∀ b o,X.s₀.heap.get? b=some o->At g b:=fun b o e=>by
  obtain⟨o',e'⟩:=I.dh.there b o e (nx b)
  exact hg b ⟨o',e'⟩
 refine⟨fun b o e n hb _=>?_,fun b o e n hb _=>?_,fun b o e n _=>?_,fun b o e _=>?_,fun b xs e=>u.oZ b xs (I.dh.oZ b xs e),fun b o xs e=>u.oM b o xs (I.dh.oM b o xs e),fun b ps e=>?_⟩
 ·have e1:=I.dh.keep b o e n hb (nx b)
  have n1:=I.dh.free b o e n (nx b)
  have hs:b∉x9 X.stack:=fun z=>by
   rcases List.mem_cons.mp (I.vJ b z)with y | y
   ·exact absurd y (aF (aw (jK e) I.ok.above))
   ·exact hb y
  exact k.other b o (u.keep b o e1 n1 hs (nn b)) (atg b o e) hs
 ·obtain⟨sl,e1⟩:=I.dh.slot b o e n hb (nx b)
  have n1:=I.dh.free b o e n (nx b)
  obtain⟨sl2,e2⟩:=u.any e1 n1 (nn b)
  obtain⟨sl3,e3⟩:=k.any e2 (atg b o e)
  exact⟨sl3,e3⟩
 ·obtain⟨o',e1⟩:=I.dh.there b o e (nx b)
  exact u.free b o' e1 (I.dh.free b o e n (nx b)) (nn b)
 ·obtain⟨o',e1⟩:=I.dh.there b o e (nx b)
  obtain⟨o2,e2⟩:=u.there b o' e1 (nn b)
  obtain⟨sl,e3⟩:=k.any e2 (atg b o e)
  exact⟨_,e3⟩
 ·obtain⟨m1,e1⟩:=I.dh.o4 b ps e
  obtain⟨m2,e2⟩:=u.o4 b _ e1
  exact⟨m1++m2,by rw[e2,Array.append_assoc]⟩
end
section
variable {P:ae}{w:af}{K:aa}{mg:Str->Option Value}{dh:Heap}{N:List Str}{qual:Str}{scope:Scope}{f:Addr}{cd:Value}{A:Around}{dA:List Env}{s₀ s:Shared}{H₀ H:Hp}{E:XK}{dg:List (Addr×Obj)}{σ:St}
def flies:Passes (k9 P w) (oN (k9 P w) P w K mg dh N qual scope f cd A dA s₀ H₀ E) E:=fun dg σ H s ev s' I c=>by
 obtain⟨e,cls,H',g,rfl,os,bare,un,eE,⟨g1,g2,g3⟩,ex,hE⟩:=c
 have I2:=I.yK (s':=s') (ch:=[]) os un eE bare (fun b z=>absurd z (by simp))
 have hfr:(oN (k9 P w) P w K mg dh N qual scope f cd A dA s₀ H₀ E).A.frames=some (envOfC qual scope s₀.heap.objs.size f cd::dA):=I.ok.frames
 show wpAny _ _ (leaving _ (.ref e)) _ _ s'
 unfold leaving
 refine eI (yx hfr I2.stack rfl g3 ex fun h1 x1 k1=>?_)
 refine mq (l:=envOfC qual scope s₀.heap.objs.size f cd::dA) x1 fun h2 x2 k2 _=>?_
 have k:=k1.trans k2
 exact⟨e,cls,H',g,rfl,os.trans I.os,bare,I.exit rfl un g1 k,Ec eE (fun b hb=>⟨g2 b hb,fun z=>hb (I2.pZ b z)⟩) k,⟨fun b hb=>by
  obtain⟨o,e0⟩:=hb
  obtain⟨o',e1⟩:=I.dh.there b o e0 (by simp[oN])
  exact g1 b ⟨o',e1⟩,g2,k.gk g3⟩,x2,hE⟩
def raises {h':Heap}{e:Addr}{cls:Value}{vs:List Value}(I:Inv (oN (k9 P w) P w K mg dh N qual scope f cd A dA s₀ H₀ E) dg σ H s)(x:Heap.MadeExcOf s.heap h' e cls vs)(hE:E cls none H):(oN (k9 P w) P w K mg dh N qual scope f cd A dA s₀ H₀ E).xe (.ref e) { s with heap:=h'}:=by
 have hfr:(oN (k9 P w) P w K mg dh N qual scope f cd A dA s₀ H₀ E).A.frames=some (envOfC qual scope s₀.heap.objs.size f cd::dA):=I.ok.frames
 obtain⟨t,he,htn,ht⟩:=x.there
 have ff:h'.FunFrames dh (envOfC qual scope s₀.heap.objs.size f cd::dA):=(show s.heap.FunFrames dh _ from I.stack).of_keeps fun b o q _=>⟨o,x.keeps b o q,rfl⟩
 have gk:Gk s.heap h':=fun b qJ=>by obtain⟨o,q⟩:=qJ;exact⟨o,x.keeps b o q⟩
 show wpAny _ _ (leaving _ (.ref e)) _ _ _
 unfold leaving
 refine eI (D2 (s:={ s with heap:=h'}) (g:=s.heap) hfr ff rfl he rfl rfl rfl rfl x.new gk fun h1 x1 k1=>?_)
 refine mq (l:=envOfC qual scope s₀.heap.objs.size f cd::dA) x1 fun h2 x2 k2 _=>?_
 have k:=k1.trans k2
 have un:Un (x9 (envOfC qual scope s₀.heap.objs.size f cd::dA)) [] H H s.heap h':=Un.dj x.keeps
 have eE:ot P w H h':=(show ot P w H s.heap from I.eE).dj x.keeps
 refine⟨e,cls,H,s.heap,rfl,I.os,I.bare,I.exit rfl un (fun b hb=>hb) k,Ec eE (fun b hb=>⟨?_,fun z=>hb (I.pZ b z)⟩) k,⟨fun b hb=>?_,fun b hb=>?_,k.gk gk⟩,x2,hE⟩
 ·cases q:H b with
  | none=>exact absurd q hb
  | some o=>exact at_of (show ot P w H s.heap from I.eE) q
 ·obtain⟨o,e0⟩:=hb
  obtain⟨o',e1⟩:=I.dh.there b o e0 (by simp[oN])
  exact⟨o',e1⟩
 ·cases q:H b with
  | none=>exact absurd q hb
  | some o=>exact at_of (show ot P w H s.heap from I.eE) q
end
abbrev DX:=Value->MS->Prop
def sQ (φ:List Addr)(H:Hp)(Kx:DX)(E:XK):Prop:=∀ c μ' eR H',Kx c μ'->Fr φ H eR H'->eJ eR H' μ'->E c none H'
def sQ.mono {φ eM:List Addr}{H H1:Hp}{Kx:DX}{E:XK}(h:sQ φ H Kx E)(f:Fr φ H eM H1):sQ eM H1 Kx E:=fun c μ' eR H' k g M=>h c μ' eR H' k (f.trans g) M
abbrev i7:=List D->MS->DK->DX->Prop
def iw (f:i7):Sp:=fun vs H Q E=>∃ φ ds μ K Kx,d7 φ H ds vs/\eJ φ H μ/\f ds μ K Kx/\tZ φ H K Q/\sQ φ H Kx E
structure qW (P:ae)(w:af)(K:aa)(mg:Str->Option Value)(dh:Heap)(x:Str)(k:Nat)(ps:List Str)(sp:Sp):Prop where
 ex:∃ f fd,eF P w K mg dh (k9 P w) k f fd ps sp/\mg x=some (.ref f)/\W.keepIn K (.ref f)=true/\Binds K fd ps []
structure Rz (X:Cx)(eG:List Addr)(H0:Hp)(Kx:DX):Prop where
 ex:∃ E:XK,sQ eG H0 Kx E/\Passes (k9 X.prog X.w) X E
structure Rm (X:Cx)(eG:List Addr)(H0:Hp)(Kx:DX):Prop where
 ex:∃ E:XK,sQ eG H0 Kx E/\Passes (k9 X.prog X.w) X E/\∀(dg:List (Addr×Obj)) (σ:St) (H:Hp) (s:Shared) (h':Heap) (e:Addr) (cls:Value) (vs:List Value),Inv X dg σ H s->Heap.MadeExcOf s.heap h' e cls vs->E cls none H->X.xe (.ref e) { s with heap:=h'}
def Rm.z {X:Cx}{eG:List Addr}{H0:Hp}{Kx:DX}(h:Rm X eG H0 Kx):Rz X eG H0 Kx:=let ⟨E,a,b,_⟩:=h.ex;⟨E,a,b⟩
def eJ.hist {φ eG:List Addr}{H H0:Hp}{μ:MS}(M:eJ φ H μ)(e:μ[0]?=some (.gx eG H0)):Fr eG H0 φ H:=let ⟨_,_,h⟩:=M.at_ 0 _ e;h.1
def yg.nt {φ:List Addr}{H:Hp}{m:MO}{p:Addr}(h:yg φ H m p)(zs:List V):H p≠some (.tup zs):=fun e=>by
 cases m with
 | box=>obtain⟨q,ns,i,r,z,h1,_⟩:=h;rw[e]at h1;cases h1
 | lst ds=>obtain⟨vs,h1,_⟩:=h;rw[e]at h1;cases h1
 | iD ks ds=>obtain⟨kvs,vs,h1,_⟩:=h;rw[e]at h1;cases h1
 | nX o kvs ds=>have h1:=h.1;rw[e]at h1;cases h1
 | ins C ns ds=>obtain⟨dx,fs,h1,_⟩:=h;rw[e]at h1;cases h1
 | dtu ks ds=>obtain⟨kvs,h1,_⟩:=h;rw[e]at h1;cases h1
 | gx eG H0=>exact h.2.2.2 zs e
 | exc c=>rw[show _=_ from h]at e;cases e
def eJ.ghost {φ:List Addr}{H:Hp}{μ:MS}{m:MO}(M:eJ φ H μ)(e:μ[0]?=some m):eJ φ H (μ.set 0 (.gx φ H)):=by
 have h0:0<μ.length:=(lK e).1
 refine⟨M.nd,by rw[aL];exact M.len,fun k n en=>?_⟩
 by_cases hk:k=0
 ·subst hk
  rw[aD h0]at en
  cases en
  obtain⟨p,e1,e2⟩:=M.at_ 0 m e
  exact⟨p,e1,.refl _ _,rfl,e2.ex,e2.nt⟩
 ·rw[av (bf hk)]at en
  exact M.at_ k n en
def eJ.back {φ eR:List Addr}{H H':Hp}{μ μ':MS}{m:MO}(M:eJ φ H μ)(e:μ[0]?=some m)(M':eJ eR H' μ')(e':μ'[0]?=some (.gx φ H)):eJ eR H' (μ'.set 0 m):=by
 have h0:0<μ'.length:=(lK e').1
 refine⟨M'.nd,by rw[aL];exact M'.len,fun k n en=>?_⟩
 by_cases hk:k=0
 ·subst hk
  rw[aD h0]at en
  cases en
  obtain⟨p',e1,f,hp,_⟩:=M'.at_ 0 _ e'
  obtain⟨p,e2,im⟩:=M.at_ 0 m e
  have:=f.get e2
  rw[e1]at this
  cases this
  exact⟨p',e1,im.mono f fun o q=>hp.trans q⟩
 ·rw[av (bf hk)]at en
  exact M'.at_ k n en
def gK (eG:List Addr)(H0:Hp)(m:MO)(K:DK):DK:=fun d μ'=>μ'[0]?=some (.gx eG H0)/\K d (μ'.set 0 m)
def gX (eG:List Addr)(H0:Hp)(m:MO)(K:DX):DX:=fun c μ'=>μ'[0]?=some (.gx eG H0)/\K c (μ'.set 0 m)
def tZ.ghost {φ:List Addr}{H:Hp}{μ:MS}{m:MO}{K:DK}{Q:VK}(L:tZ φ H K Q)(M:eJ φ H μ)(e:μ[0]?=some m):tZ φ H (gK φ H m K) Q:=fun d μ' eR v H' ⟨e',k⟩ f M' i=>L d _ eR v H' k f (M.back e M' e') i
def sQ.ghost {φ:List Addr}{H:Hp}{μ:MS}{m:MO}{K:DX}{Q:XK}(L:sQ φ H K Q)(M:eJ φ H μ)(e:μ[0]?=some m):sQ φ H (gX φ H m K) Q:=fun c μ' eR H' ⟨e',k⟩ f M'=>L c _ eR H' k f (M.back e M' e')
section
variable {X:Cx}{e:Expr}{es:List Expr}{pos:Pos}{eG:List Addr}{H0:Hp}{Kx:DX}
def dCallX (eG:List Addr)(H0:Hp)(Kx:DX)(f:i7)(w:DA):De:=fun ρ μ K=>w ρ μ fun ds dX=>dX[0]?=some (.gx eG H0)/\f ds dX K Kx
def kP {f:i7}{w:DA}{x:Str}{p:Pos}{k:Nat}{ps:List Str}(Z:Rz X eG H0 Kx)(C:qW X.prog X.w X.K X.mg X.dh x k ps (iw f))(hr:gZ k X.A)(hg:Gl X x)(ha:uP X (e::es) w)
 (tL:(x==("__debug__" : Str))=false:=by decide) (he:starEach (e::es) X.env=(false,eval e X.env)::starEach es X.env:=by rfl) (kO:(backTo pos (starEach es X.env)).any (·.1)=false:=by rfl) :
 PD X (.Call (.Name x p) (e::es) [] pos) (dCallX eG H0 Kx f w):=by
 obtain⟨E,LX,hp⟩:=Z.ex
 obtain⟨f',fd,F,hm,hk,hb⟩:=C.ex
 exact(Fq F hr hg hm hk hb .nil hp ha tL he kO).imp fun σ H Q ⟨φ,ρ,μ,K,Ee,M,w,L⟩ =>
  ⟨φ,ρ,μ,_,Ee,M,w,fun ds dX eM vs H1 k1 f1 M1 i1=>by show iw f (vs++[]) H1 Q E;rw[aQ];exact⟨eM,ds,dX,K,Kx,i1,M1,k1.2,L.mono f1,LX.mono (M1.hist k1.1)⟩⟩
def dRaise (eG:List Addr)(H0:Hp)(Kx:DX)(C:Addr)(w:DA):Ds:=fun _ ρ μ=>w ρ μ fun ds dX=>ds.length<=sizeLine/\dX[0]?=some (.gx eG H0)/\Kx (.ref C) dX
def iH {w:DA}{x:Str}{C:Addr}{bm bmN:List Value}{B Bn newId nid initId inN:String}{np gy:Pos}(Z:Rm X eG H0 Kx)(hc:X.calm=true)(O:OwnCls x C bm newId X.mg X.dh)(Fn:ExcBaseFacts Bn newId inN bmN)(hBn:bm.contains (.type Bn)=true)
 (FB:ExcBaseFacts B nid initId bm) (hg:Gl X x) (ha:uP X (e::es) w) (hd:(x==("__debug__" : Str))=false:=by decide)
 (he:starEach (e::es) X.env=(false,eval e X.env)::starEach es X.env:=by rfl) (kO:(backTo gy (starEach es X.env)).any (·.1)=false:=by rfl) :
 xA X (.Raise (some (.Call (.Name x np) (e::es) [] gy)) none pos) (dRaise eG H0 Kx C w):=fun dg s σ H D I hq=>by
 obtain⟨φ,ρ,μ,N,A,M,k,L⟩:=hq
 obtain⟨E,LX,hp,mk⟩:=Z.ex
 obtain⟨tl,Na,nm,q,bs,hdct,sn,sub,ab,col,dd,k0,k1,k2,k3,k5,mN,hC,hN,hni,T⟩:=O.obj
 refine wpAny_Raise_call_subU (C:=C) (nm:=nm) (q:=q) (N:=Na) (bs:=bs) (bm:=tl) (hdct:=hdct) (sn:=sn) (sub:=sub) (ab:=ab) (col:=col) (dd:=dd) (k0:=k0) (k1:=k1) (k2:=k2) (k3:=k3) (k5:=k5)
  Fn hBn FB (mN:=mN) (T.hasType FB.hasBase) (I.ok.hd hc) (by rw[he];show(false||(backTo gy (starEach es X.env)).any (·.1))=false;rw[kO];rfl) hni (nQ I hg O.bound ⟨rfl,?_⟩ hd)
 have h:=ha gy dg s σ H (fun vs H1=>vs.length<=sizeLine/\E (.ref C) none H1) I ⟨φ,ρ,μ,_,A,M,k,fun ds dX eM vs H1 k1 f1 M1 i1=>⟨by rw[i1.len];exact k1.1,LX (.ref C) dX eM H1 k1.2.2 (M1.hist k1.2.1) M1⟩⟩
 rw[he]at h ⊢
 refine Calls.evalArgs_plain (bg h (fun us s2 qm=>by obtain⟨vs,H1,I1,r1,q1⟩:=qm;exact⟨rfl,by rw[<- r1.length];exact q1.1,I1.bk _ _ hC,hN.keeps I1.bk,T.keeps I1.bk,fun h' e' mx=>mk dg σ H1 s2 h' e' _ _ I1 mx q1.2⟩) fun _ _ y=>y)
end
def FX (n:Nat)(K:DX):DX:=fun c μ'=>K c μ'\/((∀(j:Nat) (m:MO),j<n->μ'[j]?=some m->Dv n m)/\K c (μ'.take n))
def sQ.fx {φ:List Addr}{H:Hp}{μ:MS}{K:DX}{E:XK}(M:eJ φ H μ)(L:sQ φ H K E):sQ φ H (FX μ.length K) E:=fun c μ' eR H' k f M'=>by
 rcases k with k | ⟨hm,k⟩
 ·exact L c μ' eR H' k f M'
 ·have FN:eR.take μ.length=φ:=by
   obtain⟨⟨ψ,rfl,_⟩,_,_⟩:=f
   rw[<- M.len,aV]
  have f0:Fr φ H (eR.take μ.length) H':=by
   rw[FN]
   exact⟨⟨[],by simp,fun _ h=>nomatch h⟩,f.keep,f.dom⟩
  exact L c _ _ H' k f0 (M'.iY hm)
section
variable {P:ae}{w:af}{K:aa}{mg:Str->Option Value}{dh:Heap}
def gL.rN {x qual:Str}{st:Stmt}{f:Addr}{fd:ag}{N ps:List Str}{k:Nat}{fs:i7}(F:gL K x qual st f fd)(S:dH N ps (dw st))(len:∀ ds μ Kd Kx,fs ds μ Kd Kx->ds.length=ps.length/\∃ m,μ[0]?=some m)
 (pB:∀(fR:Value) (A:Around) (dA:List Env) (s:Shared) (H:Hp) (E:XK),gZ k (A.deeper (envOfC qual (dw st) s.heap.objs.size f fR))->∀(eG:List Addr) (Kb:DX),Rm (oN (k9 P w) P w K mg dh N qual (dw st) f fR A dA s H E) eG H Kb ->
   ∃ W,EE (oN (k9 P w) P w K mg dh N qual (dw st) f fR A dA s H E) (gI st) W/\∀ ds μ m Kd Kx,(∀(j:Nat) (m':MO),(μ.set 0 (.gx eG H))[j]?=some m'->Dv (μ.set 0 (.gx eG H)).length m')->qa (μ.set 0 (.gx eG H)).length ds->μ[0]?=some m->fs ds μ Kd Kx->Kb=FX (μ.set 0 (.gx eG H)).length (gX eG H m Kx) ->
    W (DM (μ.set 0 (.gx eG H)).length (gK eG H m Kd)) (o5 N ds) (μ.set 0 (.gx eG H))):eF P w K mg dh (k9 P w) (k+1) f fd ps (iw fs):=by
 obtain⟨oc,od,kV,doc,pm,an,fR,ct,osl,rfl,lk,x8⟩:=F.ex
 refine fn_of lk x8 S (fun vs H Q E h=>?_) fun A dA s H vs Q E hr hsp=>?_
 ·obtain⟨φ,ds,μ,Kd,Kx,ha,M,hf,L,LX⟩:=h
  rw[ha.len];exact(len ds μ Kd Kx hf).1
 ·obtain⟨φ,ds,μ,Kd,Kx,ha,M,hf,L,LX⟩:=hsp
  obtain⟨_,m,em⟩:=len ds μ Kd Kx hf
  have Mg:=M.ghost em
  have Lg:=(L.ghost M em).fz Mg
  obtain⟨W,hW,q⟩:=pB fR A dA s H E hr φ (FX (μ.set 0 (.gx φ H)).length (gX φ H m Kx)) ⟨E,(LX.ghost M em).fx Mg,flies,fun dg σ H' s' h' e cls vs I x hE=>raises I x hE⟩
  refine⟨_,hW,φ,o5 N ds,μ.set 0 (.gx φ H),DM (μ.set 0 (.gx φ H)).length (gK φ H m Kd),.start ha,Mg,q ds μ m Kd Kx Mg.bound (by rw[<- Mg.len];exact ha.bound) em hf rfl,⟨fun iO μ' eR gd H' k' f' A' M'=>?_,Lg,fun _ _ _ _ _ k' _ _ _=>k'.elim,fun _ _ _ _ _ k' _ _ _=>k'.elim⟩⟩
  exact Lg .fV μ' eR .fV H' k' f' M' rfl
end
def yb:entryFor table "proto.unchain"=some Builtin.«proto.unchain»:=entryFor_of_tree (by kernel_rfl)
section
variable {prog:ae}{w:af}{A:Around}{E:Value->Shared->Prop}{s:Shared}
def zK {α:Type}{e h:Addr}{oh oe:Obj}{vs ws:Array Value}{Q:α->Shared->Prop}(hh:A.handled=some (.ref h))(hne:h≠e)(ho:s.heap.get? h=some oh)(hd:oh.data=.fields vs)(h2:vs[2]?=some .none)(he:s.heap.get? e=some oe)(hde:oe.data=.fields ws)(h2e:2<ws.size)
 (hE:E (.ref e) { s with heap:=s.heap.update e (Obj.mapFields (·.setIfInBounds 2 (.ref h)))}):wpAny (model prog w) A (raiseNew (.ref e):Sem α) Q E s:=by
 unfold raiseNew
 refine eI (wpAny_handled ?_)
 rw[hh]
 dsimp only
 rw[aj (show(Value.ref h != Value.ref e)=true from by simp[hne])]
 refine eI (bI (wpAny_runValue (codeAny_builtin yb ?_)))
 unfold Builtin.«proto.unchain»
 dsimp only
 refine eI (aW ho hd h2 ?_)
 rw[aj (by decide)]
 refine eI (ar (ar ?_))
 exact eI (show wpAny _ _ (setField (.ref e) 2 (.ref h)) _ _ _ from cG he hde h2e (wpAny_throw hE))
def DP {it h:Addr}{oh:Obj}{vs:Array Value}{x left step:Int}{Q:Option Value->Shared->Prop}(hh:A.handled=some (.ref h))(ho:s.heap.get? h=some oh)(hd:oh.data=.fields vs)(h2:vs[2]?=some .none)(hit:IsRangeIter s.heap it x left step)(hleft:left<=0)
 (hQ:∀ h',(∀ b o,s.heap.get? b=some o->h'.get? b=some o)->Q none { s with heap:=h'}):wpAny (model prog w) A (pyNext (.ref it)) Q E s:=by
 have hT:s.TypeIs (.ref it) "range_iterator":=⟨_,hit,rfl⟩
 unfold pyNext
 refine eI (wpAny_attempt (bC (name:=Str.ofString "__next__") hT F.slot_range_iterator_next
  (bP F.slot_range_iterator_next hT F.entry_range_iterator_next ?_ (F.args_range_iterator_next_1 _))))
 show wpAny _ _ (field (.ref it) 0 >>= _) _ _ s
 refine eI (aW hit rfl (x:=rawInt x) rfl ?_)
 show wpAny _ _ (field (.ref it) 1 >>= _) _ _ s
 refine eI (aW hit rfl (x:=rawInt left) rfl ?_)
 show wpAny _ _ (field (.ref it) 2 >>= _) _ _ s
 refine eI (aW hit rfl (x:=rawInt step) rfl ?_)
 show wpAny _ _ (if left<=0 then _ else _) _ _ s
 rw[aj hleft]
 refine eI (wpAny_rule (eI ?_))
 show wpAny _ _ (newExc (.type "StopIteration") [] >>= _) _ _ _
 refine eI ?_
 simp only[newExc,newTuple]
 refine eI (a6 ?_ (by size_fits))
 refine eI (m:=firstArgMember _ _) (wpAny_of_eq (a:=Value.none) (by first | rfl | (simp only[firstArgMember];rfl)) ?_)
 refine a6 ?_ (by size_fits)
 obtain⟨g,hg⟩:∃ g,g=s.heap.push { cls:=Value.type "tuple",data:=Data.seq #[]}:=⟨_,rfl⟩
 show wpAny _ _ (raiseNew (.ref (s.heap.push { cls:=Value.type "tuple",data:=Data.seq #[]}).objs.size)) _ _ { s with heap:=(s.heap.push { cls:=Value.type "tuple",data:=Data.seq #[]}).push { cls:=Value.type "StopIteration",data:=Data.fields (#[Value.ref s.heap.objs.size,Value.none,Value.none,Value.none,Value.bool false,Value.none]++ownMembersOf (Value.type "StopIteration") [])}}
 rw[<- hg]
 have k1:∀ b o,s.heap.get? b=some o->g.get? b=some o:=fun b o e=>by rw[hg];exact jt _ e
 have k2:=fun b o (e:g.get? b=some o)=>jt (h:=g) { cls:=Value.type "StopIteration",data:=Data.fields (#[Value.ref s.heap.objs.size,Value.none,Value.none,Value.none,Value.bool false,Value.none]++ownMembersOf (Value.type "StopIteration") [])} e
 have ne:h≠g.objs.size:=aF (jK (k1 _ _ ho))
 have eN:=aB g (o:={ cls:=Value.type "StopIteration",data:=Data.fields (#[Value.ref s.heap.objs.size,Value.none,Value.none,Value.none,Value.bool false,Value.none]++ownMembersOf (Value.type "StopIteration") [])}) rfl
 refine zK (s:={ s with heap:=g.push _}) (hh:=hh) ne (k2 _ _ (k1 _ _ ho)) hd h2 eN rfl (by rw[Array.size_append];show 2<6+_;omega) ?_
 refine eI (wpAny_isInstance (T := "StopIteration") (b:=true) ⟨_,cc _ eN rfl,rfl⟩ isSubtype_stop ?_)
 exact ar (hQ _ fun b o e=>by
  have e2:=k2 _ _ (k1 _ _ e)
  rw[bq _ _ (bo (jK (k1 _ _ e)))]
  exact e2)
end
structure ExF (K:aa)(C:Addr):Prop where
 cl:(W.clsIn K C).isSome=true
 ga:W.findIn K (.ref C) "__getattribute__"=some (some (.builtin "BaseException.__getattribute__"))
 gn:W.findIn K (.ref C) "__getattr__"=some none
 ca:W.findIn K (.ref C) "__class__"=some (some (.builtin "object.__class__"))
 cg:W.specialIn K (.builtin "object.__class__") "__get__"=some (some (.builtin "getset_descriptor.__get__"))
 ct:W.takesIn K (.builtin "object.__class__")=some true
 mo:W.mroIn K C (.type "object")=some true
 mb:W.mroIn K C (.type "BaseException")=some true
section
variable {prog:ae}{w:af}{A:Around}{E:Value->Shared->Prop}{s:Shared}{K:aa}{e C:Addr}{oe:Obj}
def exc_class {Q:Option Value->Shared->Prop}(X:K.In s.heap)(I:W.InstAt s.heap e oe C none)(f:ExF K C)(h:Q (some (.ref C)) { s with toks:=s.toks+1}):wpAny (model prog w) A (getAttr? (.ref e) "__class__") Q E s:=by
 obtain⟨hh,g,d,t,os⟩:=s
 have L0:=I.type (M:=model prog w)
 have L1:=W.looks_findIn (M:=model prog w) X f.ga
 have L2:=W.looks_findIn (M:=model prog w) X f.gn
 have hf:W.findObj K C none "__class__"=some (.bind (.builtin "getset_descriptor.__get__") (.builtin "object.__class__")):=by
  obtain⟨cd,hc⟩:=Option.isSome_iff_exists.mp f.cl
  unfold W.findObj
  rw[hc,Option.bind_some,f.ca,Option.bind_some]
  simp[f.cg,f.ct]
 have L3:=W.looks_find (M:=model prog w) X I hf
 have LB:=W.looks_mroIn (M:=model prog w) X f.mb
 unfold getAttr? getAttrBy? getAttrBy
 refine eI (wpAny_mkText (eI (wpAny_attempt (bI (eI (L0.at (eI (L1.at ?_))))))))
 show wpAny _ _ (getAttrByItsOwn _ _ _ _ _ _) _ _ _
 unfold getAttrByItsOwn
 refine eI (show wpAny _ _ (typeLookup (.ref C) "__getattr__") _ _ _ from L2.at ?_)
 refine eI (wpAny_attempt (bI ?_))
 show wpAny _ _ (boundAndCalled _ _ _) _ _ _
 unfold boundAndCalled
 have ga:=PySem.F.attr_ValueError.ga
 refine eI (wpAny_of_eq (ga.bind (.ref e)) (wpAny_call (codeAny_call_builtin ga.plain F.entry_bexc_ga ?_)))
 have LI:W.Looks (model prog w) hh (isInstance (.ref e) (.type "BaseException")) true:=L0.andThen LB
 have hk:builtinKind "BaseException.__getattribute__"=some .slot:=by decide +kernel
 have hsplit:splitId "BaseException.__getattribute__"=some ("BaseException", "__getattribute__"):=by decide +kernel
 have ha:=F.args_bexc_ga (.ref e) (.str "__class__" t)
 show wpAny _ _ (checkBuiltinCall "BaseException.__getattribute__" ⟨[.ref e,.str "__class__" t],[]⟩) _ _ _
 simp only[checkBuiltinCall,hk,hsplit]
 refine eI (LI.at ?_)
 simp only[if_true,Bool.not_true,c9,if_false]
 refine wpAny_of_eq ha ?_
 show wpAny _ _ (Builtin.«object.__getattribute__» ⟨[.ref e,.str "__class__" t],[]⟩) _ _ _
 unfold Builtin.«object.__getattribute__»
 refine eI (ar (eI (ar (eI (L0.at (eI (L3.at ?_)))))))
 show wpAny _ _ (holding [Value.builtin "object.__class__"] (call (.builtin "getset_descriptor.__get__") [.builtin "object.__class__",.ref e,.ref C]) >>= fun v=>ret v) _ _ _
 refine eI (bI (wpAny_call (W.class_get (ox:=oe) (od:=none) X I f.mo ?_)))
 refine ar ?_
 exact W.handed_on rfl (ar h)
def kitx_exc (f:ExF K C):W.KitX K (.ref e) (.ref C) (fun h=>∃ oe,W.InstAt h e oe C none) where
 ty:=fun _ _ _ qY=>by obtain⟨_,I⟩:=qY;exact I.type
 it:=fun _ _ X _=>by
  obtain⟨cdD,hcD⟩:=Option.isSome_iff_exists.mp f.cl
  unfold W.clsIn at hcD
  split at hcD
  ·rename_i c' d' cd' sl' ho
   intro A' Q' E' s' k q
   unfold isType loadHead
   exact eI (wpAny_loadPart (k _ _ (X _ _ ho)) (ar q))
  ·cases hcD
 ne:=fun h tp dd eK n sl X htp=>by
  obtain⟨cdD,hcD⟩:=Option.isSome_iff_exists.mp f.cl
  refine Bool.eq_false_iff.mpr fun q=>?_
  have e:C=tp:=Value.ref.inj (beq_iff_eq.mp q)
  subst e
  unfold W.clsIn at hcD
  split at hcD
  ·rename_i c' d' cd' sl' ho
   have z:=(X _ _ ho).symm.trans htp
   cases z
  ·cases hcD
 ca:=fun X ⟨_,I⟩ k=>exc_class X I f k
def exc_match {h:Heap}{g:Array GenState}{d:Drawn}{t:Nat}{os:OsState}{B:Addr}{Q:Bool->Shared->Prop}{nB qB nC qC:Str}{NB NC:Addr}{bsB bmB bsC bmC:List Value}{hdB hdC:Bool}{snB snC:List Str}{subB subC:List Value}{abB abC:Bool}{colB colC:Option Bool}{ddB ddC:Option Addr}{b0 b1 b2 b3 b5 c0 c1 c2 c3 c5:Option Value}{idB idC:String}
 (hB:h.get? B=some (excClassObj nB qB B NB bsB bmB hdB snB subB abB colB ddB b0 b1 b2 b3 b5 idB)) (hC:h.get? C=some (excClassObj nC qC C NC bsC bmC hdC snC subC abC colC ddC c0 c1 c2 c3 c5 idC)) (he:h.get? e=some oe) (hcls:oe.cls=.ref C)
 (hbB:bmB.contains (.type "BaseException")=true) (hin:(Value.ref C::bmC).contains (.ref B)=true) (hq:Q true ⟨h,g,d,t,os⟩):wpAny (model prog w) A (excMatches (.ref e) (.ref B)) Q E ⟨h,g,d,t,os⟩:=by
 have hcB:(Value.ref B::bmB).contains (.type "BaseException")=true:=by rw[List.contains_cons,hbB,Bool.or_true]
 have f:=tc_notTuple
 unfold excMatches
 repeat (first | (with_reducible refine wpAny_loadPart_at he ?_;rw[hcls]) | with_reducible refine wpAny_loadPart_at hB ?_ | (with_reducible refine wpAny_isSubtype_exc hB ?_;rw[hcB]) | (with_reducible refine wpAny_isSubtype_exc hC ?_;rw[hin]) | wp_step)
 exact hq
end
section
variable {X:Cx}{a e:Expr}{es:List Expr}{pos:Pos}
def isiE {c:V}{cv:Value}(rc:∀ u,eP c u->u=cv):ia X (.builtin "isinstance") (fun vs H Q=>∃ e C b,vs=[.ref e,c]/\H e=some (.ext (kE e (.ref C)))/\ExF X.K C/\W.kitOne X.K (.ref C) cv=some b/\Q (.bl b) H):=by
 intro dg s σ H vs us Q I r q
 obtain⟨e,C,b,rfl,he,f,hk,q⟩:=q
 obtain⟨u1,u2,rfl,r1,r2⟩:=r.two
 cases(show u1=.ref e from r1)
 have:=rc u2 r2
 subst this
 obtain⟨⟨oe,ws,h1,h2,h3,h4,_⟩,_,_⟩:=(show fJ X.prog X.w H s.heap e (.ext (kE e (.ref C)))from I.eE e _ he)
 exact cu (kitx_exc f) I.qw ⟨oe,h1,h2,by unfold W.notCls;rw[h4],by rw[h3];trivial⟩ hk (fun z=>nomatch z) fun tk=>⟨.bl b,H,I.tok tk,rfl,q⟩
def dIsiE (K:aa)(cv:Value)(w:De):De:=fun ρ μ Kd=>w ρ μ fun d dX=>match d with
 | .mr k=>∃ C b,dX[k]?=some (.exc (.ref C))/\ExF K C/\W.kitOne K (.ref C) cv=some b/\Kd (.bl b) dX
 | _=>False
def EY {c:V}{cv:Value}{w:De}{σ:St}{H:Hp}{Q:VK}(h:tD (dIsiE X.K cv w) σ H Q):tCB (fun vs H Q=>∃ e C b,vs=[.ref e,c]/\H e=some (.ext (kE e (.ref C)))/\ExF X.K C/\W.kitOne X.K (.ref C) cv=some b/\Q (.bl b) H) (tCons (tD w) (tCons (tC c) tNil)) σ H Q:=by
 obtain⟨φ,ρ,μ,K,A,M,k,L⟩:=h
 refine⟨φ,ρ,μ,_,A,M,k,fun d dX eM v1 H1 k1 f1 M1 i1=>?_⟩
 cases d with
 | mr j =>
  obtain⟨C,b,e1,f,hk,k1⟩:=k1
  obtain⟨p,hp,rfl⟩:=i1
  obtain⟨p',e2,e3⟩:=M1.at_ j _ e1
  rw[hp]at e2;cases e2
  exact⟨p,C,b,rfl,e3,f,hk,L _ dX eM _ H1 k1 f1 M1 rfl⟩
 | _=>exact k1.elim
def iE {w:De}{B:Addr}{x:Str}{p p2:Pos}(hg:Gl X "isinstance")(hm:X.mg "isinstance"=none)(hg2:Gl X x)(hm2:X.mg x=some (.ref B))(ha:PD X a w)(hd:(x==("__debug__" : Str))=false:=by decide)
 (hs:starEach [a,.Name x p2] X.env=(false,eval a X.env)::starEach [.Name x p2] X.env:=by rfl) (B9:starEach [.Name x p2] X.env=(false,eval (.Name x p2) X.env)::starEach [] X.env:=by rfl) (kO:(backTo pos (starEach [.Name x p2] X.env)).any (·.1)=false:=by rfl) :
 PD X (.Call (.Name "isinstance" p) [a,.Name x p2] [] pos) (dIsiE X.K (.ref B) w) :=
 (fG (isiE (c:=.ref B) (cv:=.ref B) fun u r=>r) hg hm boot_isinstance (d8 ha (d8 (Fo (v:=.ref B) hg2 hm2 rfl hd) gh B9) hs) (by decide) (by decide) hs kO).imp fun σ H Q q=>EY q
def d_isiV {w:De}{T:String}{x:Str}{p p2:Pos}(hg:Gl X "isinstance")(hm:X.mg "isinstance"=none)(hg2:Gl X x)(hm2:X.mg x=none)(hv:bootBuiltins x=some (.type T))(ha:PD X a w)(hn:x ≠ "__name__":=by decide)(hd:(x==("__debug__" : Str))=false:=by decide)
 (hs:starEach [a,.Name x p2] X.env=(false,eval a X.env)::starEach [.Name x p2] X.env:=by rfl) (B9:starEach [.Name x p2] X.env=(false,eval (.Name x p2) X.env)::starEach [] X.env:=by rfl) (kO:(backTo pos (starEach [.Name x p2] X.env)).any (·.1)=false:=by rfl) :
 PD X (.Call (.Name "isinstance" p) [a,.Name x p2] [] pos) (dIsiE X.K (.type T) w) :=
 (fG (isiE (c:=.ty T) (cv:=.type T) fun u r=>r) hg hm boot_isinstance (d8 ha (d8 (ic (v:=.ty T) hg2 hm2 hv rfl hn hd) gh B9) hs) (by decide) (by decide) hs kO).imp fun σ H Q q=>EY q
end
def ItrH (lo:Int)(n:Nat)(e:Addr):It:=⟨fun i _=>i<n,fun i H x H'=>H'=H/\x=.int (lo+i),fun i H=>n<=i/\∃ c,H e=some (.ext (kE e c))⟩
def HndBy (e:Addr):Cx->Prop:=fun X=>X.A.handled=some (.ref e)
def Bg {P:ae}{w:af}{K:aa}{tg:Expr}(it:Addr)(lo:Int)(n:Nat)(e:Addr):Turn P w K tg (ItrH lo n e) [it] it (fun i h=>IsRangeIter h it (lo+(i:Nat)*1) ((n:Int) - (i:Nat)) 1) (HndBy e) where
 mem:=by simp
 obj:=(nj (P:=P) (w:=w) (K:=K) (tg:=tg) it lo n).obj
 keep:=(nj (P:=P) (w:=w) (K:=K) (tg:=tg) it lo n).keep
 item:=by
  intro X hP hw hK hc i dg s σ H E I hf st hg
  subst hP hw hK
  obtain⟨f0,f1,f2,f3,f4,f5⟩:=hf it (by simp)
  refine wpAny_pyNext_range_item st (by have:i<n:=hg;omega) fun h' Bl kk=>?_
  have I1:Inv X dg σ H { s with heap:=h',toks:=s.toks+1}:=I.turned (fun b o hb e=>kk.extBut b o hb e) f0 f1 f3 f4 f5
  have E7:IsRangeIter h' it (lo+((i+1:Nat):Int)*1) ((n:Int) - ((i+1:Nat):Int)) 1:=by
   have e1:lo+((i+1:Nat):Int)*1=lo+(i:Int)*1+1:=by omega
   have e2:(n:Int) - ((i+1:Nat):Int)=(n:Int) - (i:Int) - 1:=by omega
   rw[e1,e2];exact Bl
  refine⟨_,rfl,yE (s:={ s with heap:=h',toks:=s.toks+1}) (n := "range_iterator") Bl rfl rfl (by decide) ⟨.int (lo+i),H,I1,⟨s.toks,by rw[Int.mul_one]⟩,⟨rfl,rfl⟩,E7,fun b hb=>(hf b hb).1⟩⟩
 done:=by
  intro X hP hw hK hc i dg s σ H E I hf st hg
  subst hP hw hK
  obtain⟨f0,f1,f2,f3,f4,f5⟩:=hf it (by simp)
  obtain⟨hg,c,he⟩:=hg
  obtain⟨⟨oe,ws,h1,h2,h3,h4,h5⟩,_,_⟩:=(show fJ X.prog X.w H s.heap e (.ext (kE e c))from I.eE e _ he)
  exact DP hc h1 h4 h5 st (by omega) fun h' k=>⟨rfl,I.dj (t':=s.toks) k⟩
 self:=(nj (P:=P) (w:=w) (K:=K) (tg:=tg) it lo n).self
section
variable {X:Cx}{tg:Expr}{CM:Cx->Prop}
def PIH (X:Cx)(CM:Cx->Prop)(tg iter:Expr)(wi:TI):Prop :=
 ∀(dg:List (Addr×Obj)) (s:Shared) (σ:St) (H:Hp) (R:It->Hp->Prop),Inv X dg σ H s->wi σ H R ->
  wpAny (model X.prog X.w) X.A (eval iter X.env) (fun v s1=>wpAny (model X.prog X.w) X.A (pyIter v) (fun itv s2=>∃(it:Addr) (fp:List Addr) (tn:Nat->Heap->Prop) (J:It) (H':Hp),itv=.ref it/\Inv X dg σ H' s2/\Turn X.prog X.w X.K tg J fp it tn CM/\tn 0 s2.heap/\(∀ b∈fp,ow X dg H' b)/\R J H') X.xe s1) X.xe s
def PIH.imp {iter:Expr}{t t':TI}(h:PIH X CM tg iter t)(hi:∀ σ H Q,t' σ H Q->t σ H Q):PIH X CM tg iter t':=fun dg s σ H R I q=>h dg s σ H R I (hi σ H R q)
def iRngH (e:Addr)(ta:TA):TI:=fun σ H R=>ta σ H fun vs H1=>∃ j:Int,vs=[.int j] /\ -(2 ^ 62)<=j/\j<2 ^ 62/\R (ItrH 0 j.toNat e) H1
def pi_rangeH {a:Expr}{ta:TA}{e:Addr}{p pos:Pos}(hg:Gl X "range")(hm:X.mg "range"=none)(ha:PA X [a] ta)(hs:starEach [a] X.env=[(false,eval a X.env)]:=by rfl):PIH X (HndBy e) tg (.Call (.Name "range" p) [a] [] pos) (iRngH e ta):=by
 intro dg s σ H R I h
 refine Call_ (pA I hg hm boot_range (bz (fK (ha pos dg s σ H _ I h) fun us s1 oK=>?_) hs rfl))
 obtain⟨vs,H1,I1,r1,q1⟩:=oK
 obtain⟨j,e',q1,q2,q⟩:=q1
 subst e'
 cases r1 with
 | cons r rr =>
  cases rr
  obtain⟨t,rfl⟩:=r
  refine call_range_1 ?_
  refine wpAny_pyIter_range (IsRange.new ..) (small_one (by omega) (by omega) q1 q2) ?_
  obtain⟨o,ho⟩:∃ o:Obj,o={ cls:=.type "range",data:=.fields #[.int 0 s1.toks,.int j t,.int 1 (s1.toks+1)]}:=⟨_,rfl⟩
  have I2:Inv X dg σ H1 { s1 with heap:=s1.heap.push o,toks:=s1.toks+1+1}:=I1.dj fun b u e=>jt _ e
  rw[<- ho]
  refine⟨(s1.heap.push o).objs.size,[(s1.heap.push o).objs.size],_,_,H1,rfl,I2.dj (t':=s1.toks+1+1) fun b u e=>jt _ e,Bg _ 0 j.toNat e,?_,fun b hb=>?_,q⟩
  ·have e1:(0:Int)+((0:Nat):Int)*1=0:=by simp
   have e2:((j.toNat:Nat):Int) - ((0:Nat):Int)=Builtin.Range.rangeSize 0 j 1:=by rw[rangeSize_one];split <;> omega
   show IsRangeIter _ _ ((0:Int)+((0:Nat):Int)*1) (((j.toNat:Nat):Int) - ((0:Nat):Int)) 1
   rw[e1,e2]
   exact aB _ rfl
  ·have e':b=(s1.heap.push o).objs.size:=by simpa using hb
   subst e'
   exact I2.Cb (ah _) (I2.eE.fresh (ah _))
variable {N:List Str}{js:List (Option Nat)}{sc:Scope}{elt iter:Expr}{ifs:List Expr}{g:TG}{tt:TT}{te:TE}
def pe_compH {wi:TI}{pos:Pos}(hc:ip X N js sc)(calm:∀ fp s H,CM (kZ X N sc fp s H))(hi:PIH X CM tg iter wi)(hg:∀ fp s H,PG (kZ X N sc fp s H) tg g)(ht:∀ fp s H,PTs (kZ X N sc fp s H) ifs tt)(he:∀ fp s H,PE (kZ X N sc fp s H) elt te)
 (hs:∀ x,foldedSetIterable iter X.env x=pure x:=by intro _;rfl):PE X (.ListComp elt [⟨tg,iter,ifs,0⟩] sc pos) (E4 wi js g tt te):=by
 intro dg s σ H Q I h
 rw[eval_ListComp]
 refine ck (use:=none) rfl hs (j6 fun y hy e=>I.ok.has y.1 (hc.free y hy e)) hc.kind hc.loc (fK (hi dg s σ H _ I h) fun v s1 h1=>fK h1 fun itv s2 h2=>?_)
 obtain⟨it,fp,tn,J,H2,e,I2,T,E7,f2,q⟩:=h2
 subst e
 refine a6 (ml ?_)
 have hC:(s2.heap.push { cls:=.type "list",dict:=none,data:=.seq ([]:List Value).toArray}).objs.size=s2.heap.objs.size+1:=ba ..
 simp only[hC]
 refine qO (tk:=s2.toks) I2 hc (calm fp s2 H2) T E7 f2 (hg fp s2 H2) (ht fp s2 H2) (he fp s2 H2) q fun s' H' ys m IX nD qf nC hn=>?_
 refine⟨m,nC,fun h' sb=>?_⟩
 have A9:∀(b:Addr) (o:Obj),s2.heap.get? b=some o->b≠s2.heap.objs.size+1:=fun b o e=>aF (bp (jK e))
 have IY:Inv X dg σ (upd H' s2.heap.objs.size (.lst ys)) { s' with heap:=h'}:=IX.turned (t':=s'.toks) (it:=s2.heap.objs.size+1) (fun b o hb e=>(sb.2 b hb).trans e) (by rw[d9 (bo (bR _))];exact hn)
  (bo (bp I2.lt)) (.inr (bB I2.sz)) (fun x c e=>let ⟨v,z⟩:=I2.cell x c e;aF (bp z.lt)) (fun p hp=>A9 _ _ (I2.pin p hp).1)
 exact⟨.ref _,_,IY,rfl,qf _ nD⟩
end
abbrev hC (eG:List Addr)(H0:Hp)(k:Nat):MS->Prop:=fun μ=>μ[0]?=some (.gx eG H0)/\∃ c,μ[k]?=some (.exc c)
def hC_ext {eG φ:List Addr}{H0 H:Hp}{k:Nat}{μ:MS}{e:Addr}(hk:eG[k]?=some e)(M:eJ φ H μ)(h:hC eG H0 k μ):φ[k]?=some e/\∃ c,H e=some (.ext (kE e c)):=by
 obtain⟨h1,c,h2⟩:=h
 have:=(M.hist h1).get hk
 obtain⟨p,e1,e2⟩:=M.at_ k _ h2
 rw[this]at e1;cases e1
 exact⟨this,c,e2⟩
def wk_rangeH {lo:Int}{n k:Nat}{φ eG:List Addr}{H H0:Hp}{e:Addr}(hk:eG[k]?=some e):Wk (ItrH lo n e) φ H (kN lo n) (hC eG H0 k):=fun eR H' μ' f M c i=>by
 have hl:(kN lo n).length=n:=by unfold kN;rw[fF,gxJ]
 refine⟨fun d hd=>?_,fun hi=>⟨by rw[hl]at hi;exact Nat.le_of_eq hi.symm,(hC_ext hk M c).2⟩⟩
 have hi:i<n:=by have:=(lK hd).1;omega
 refine⟨hi,fun x H'' hy=>?_⟩
 obtain⟨rfl,rfl⟩:=hy
 refine⟨.refl _ _,M,?_⟩
 unfold kN at hd
 rw[uw,cO hi]at hd
 cases hd
 rfl
def dItRH (eG:List Addr)(H0:Hp)(k:Nat)(w:DA):DI:=fun ρ μ K=>w ρ μ fun ds dX=>match ds with
 | [.int j] => -(2 ^ 62)<=j/\j<2 ^ 62/\K (kN 0 j.toNat) (hC eG H0 k) dX
 | _=>False
section
variable {X:Cx}{a:Expr}{pos:Pos}{N:List Str}{js:List (Option Nat)}{sc:Scope}{tg elt iter:Expr}{ifs:List Expr}{g:TG}{y:DG}{S:List Nat}{t:Dt}{w:De}{eG:List Addr}{H0:Hp}{k:Nat}{e:Addr}
def i_rangeH {w:DA}{p:Pos}(hk:eG[k]?=some e)(hg:Gl X "range")(hm:X.mg "range"=none)(ha:uP X [a] w)(hs:starEach [a] X.env=[(false,eval a X.env)]:=by rfl):PIH X (HndBy e) tg (.Call (.Name "range" p) [a] [] pos) (tDI (dItRH eG H0 k w)):=(pi_rangeH hg hm ha hs).imp fun σ H Q hq=>by
 obtain⟨φ,ρ,μ,K,A,M,k,L⟩:=hq
 refine⟨φ,ρ,μ,_,A,M,k,fun ds dX eM vs H1 k1 f1 M1 i1=>?_⟩
 split at k1
 ·obtain⟨v,r,rfl,h1,h2⟩:=i1
  cases(show v=_ from h1);cases(show r=[]from h2)
  exact⟨_,rfl,k1.1,k1.2.1,L _ _ dX eM _ H1 k1.2.2 f1 M1 (wk_rangeH hk)⟩
 ·exact k1.elim
def d_compH (m:Bool){wi:DI}(hc:ip X N js sc)(hh:X.A.handled=some (.ref e))(so:SoG g y S)(mo:ng g)(ho:pf S js=true)(hi:PIH X (HndBy e) tg iter (tDI wi))(hg:∀ fp s H,PG (kZ X N sc fp s H) tg g)(ht:∀ fp s H,yf (kZ X N sc fp s H) ifs t)(he:∀ fp s H,PD (kZ X N sc fp s H) elt w)
 (hs:∀ x,foldedSetIterable iter X.env x=pure x:=by intro _;rfl):PD X (.ListComp elt [⟨tg,iter,ifs,0⟩] sc pos) (uB m wi js y t w):=(pe_compH hc (fun _ _ _=>hh) hi hg ht he hs).imp fun σ H Q q=>yY so mo ho q
end
structure sP (k:Nat)(A:Around):Prop where
 dp:A.depth+3*k+5<recursionLimit
 un:A.units+16*k+200<cLine
def sP.deeper {k:Nat}{A:Around}(r:sP (k+1) A)(env:Env):sP k (A.deeper env) :=
 ⟨by have:=r.dp;show A.depth+1+3*k+5<_;omega,by have:=r.un;show A.units+3+16*k+200<_;omega⟩
def sP.depth {k:Nat}{A:Around}(r:sP k A):A.depth<recursionLimit:=by have:=r.dp;omega
abbrev Cx.hnd (X:Cx)(A:Around):Cx:={ X with A:=A,calm:=false,xe:=fun _ _=>False}
def Inv.hnd {X:Cx}{dg:List (Addr×Obj)}{σ:St}{H:Hp}{s:Shared}(I:Inv X dg σ H s){A:Around}(hf:A.frames=some X.stack):Inv (X.hnd A) dg σ H s :=
 ⟨⟨I.ok.mod,I.ok.kind,I.ok.glob,I.ok.blt,I.ok.above,I.ok.inj,I.ok.has,I.ok.cab,(fun z=>by cases z),hf,I.ok.stk,I.ok.exf,I.ok.bs,I.ok.Ex,I.ok.BO,I.ok.Co,I.ok.qt,I.ok.frf⟩,I.os,I.bare,I.dh,I.loc,I.cell,I.free,I.jP,I.pin,I.eE,I.len⟩
structure FnOkH (P:ae)(w:af)(K:aa)(mg:Str->Option Value)(dh:Heap)(k:Nat)(f:Addr)(fd:ag)(ps:List Str)(fs:jg):Prop where
 len:∀ ds μ Kd,fs ds μ Kd->ds.length=ps.length
 run:∀(A:Around) (dA:List Env) (s:Shared) (H:Hp) (args:Args) (us:List Value) (vs:List V) (Q:VK) (e:Addr),sP k A->A.handled=some (.ref e)->A1 P w K mg dh A dA s H->BindsTo s fd args (ps.zip us)->eX vs us ->
  (∃ φ ds μ Kd kx,d7 φ H ds vs/\eJ φ H μ/\φ[kx]?=some e/\kx≠0/\(∃ c,μ[kx]?=some (.exc c))/\fs ds μ Kd/\tZ φ H Kd Q)->codeAny (model P w) A (.call (.ref f) args) (CR jM dA P w H s Q E0) s
section
variable {P:ae}{w:af}{K:aa}{mg:Str->Option Value}{dh:Heap}
abbrev cxH (P:ae)(w:af)(K:aa)(mg:Str->Option Value)(dh:Heap)(N:List Str)(qual:Str)(scope:Scope)(f:Addr)(cd:Value)(A:Around)(dA:List Env)(s:Shared)(H:Hp):Cx :=
 (oN jM P w K mg dh N qual scope f cd { A with handled:=none} dA s H E0).hnd (A.deeper (envOfC qual scope s.heap.objs.size f cd))
def gL.okH {x qual:Str}{st:Stmt}{f:Addr}{fd:ag}{N ps:List Str}{k:Nat}{fs:jg}(F:gL K x qual st f fd)(S:dH N ps (dw st))(len:∀ ds μ Kd,fs ds μ Kd->ds.length=ps.length/\∃ m,μ[0]?=some m)
 (pB:∀(fR:Value) (A:Around) (dA:List Env) (s:Shared) (H:Hp),sP k (A.deeper (envOfC qual (dw st) s.heap.objs.size f fR))->∀(eG:List Addr) (kx:Nat) (e:Addr),eG[kx]?=some e->A.handled=some (.ref e) ->
   ∃ W,EE (cxH P w K mg dh N qual (dw st) f fR A dA s H) (gI st) W/\∀ ds μ m Kd,(∀(j:Nat) (m':MO),(μ.set 0 (.gx eG H))[j]?=some m'->Dv (μ.set 0 (.gx eG H)).length m')->qa (μ.set 0 (.gx eG H)).length ds->μ[0]?=some m->hC eG H kx (μ.set 0 (.gx eG H))->fs ds μ Kd ->
    W (DM (μ.set 0 (.gx eG H)).length (gK eG H m Kd)) (o5 N ds) (μ.set 0 (.gx eG H))):FnOkH P w K mg dh (k+1) f fd ps fs:=by
 obtain⟨oc,od,kV,doc,pm,an,fR,ct,osl,rfl,lk,x8⟩:=F.ex
 refine⟨fun ds μ Kd h=>(len ds μ Kd h).1,fun A dA s H args us vs Q e hr hh e0 hb r hsp=>?_⟩
 obtain⟨φ,ds,μ,Kd,kx,ha,M,hk,hk0,hex,hf,L⟩:=hsp
 obtain⟨hl',m,em⟩:=len ds μ Kd hf
 have hl:vs.length=ps.length:=by rw[ha.len];exact hl'
 have KX:K.In s.heap:=e0.mod.kin.keeps fun b o e=>(e0.bs b o e).1
 have lim:s.heap.NoLimit:=e0.mod.nolimit.keeps fun b o e=>(e0.bs b o e).1
 have hkind:∀ y∈ps.zip us,(dw st).names.lookup y.1=some .local\/((dw st).names.lookup y.1=some .cell/\((cellsFrom (s.heap.objs.size+1) (dw st).names []).lookup y.1).isSome=true):=fun⟨n,v⟩ hy=>by
  rcases S.par n (List.of_mem_zip hy).1 with q | q
  ·exact .inl q
  ·exact .inr ⟨q,W.cellsFrom_some _ _ _ (.inl q)⟩
 refine codeAny_call_function hr.depth (KX _ _ lk) rfl S.co S.gen rfl (W.codeRec_of KX x8) (hb _ _ _ _ ?_)
 refine wpAny_newFunctionEnv_cells S.kind hkind fun env he s1 x=>?_
 subst he
 refine⟨lim.keeps x.toInCall.keep,codeAny_func ?_⟩
 have e1:A1 P w K mg dh { A with handled:=none} dA s H:=⟨e0.frames,e0.mod,e0.bs,e0.Ex,e0.qt,e0.frf,e0.eE,e0.bare⟩
 have I0:Inv (oN jM P w K mg dh N qual (dw st) f fR { A with handled:=none} dA s H E0) [] (start N vs) H s1:=yB S rfl e1 hl r x
 have I:Inv (cxH P w K mg dh N qual (dw st) f fR A dA s H) [] (start N vs) H s1:=I0.hnd (Around.frames_deeper e0.frames)
 have Mg:=M.ghost em
 have Lg:=(L.ghost M em).fz Mg
 have hc:hC φ H kx (μ.set 0 (.gx φ H)):=⟨aD (lK em).1,by rw[av (bf hk0)];exact hex⟩
 obtain⟨W,hW,q⟩:=pB fR A dA s H (hr.deeper _) φ kx e hk hh
 refine bg (hW [] s1 (start N vs) H { nx:=fun _ H'=>Q .fV H',rt:=Q} I ⟨φ,o5 N ds,μ.set 0 (.gx φ H),DM (μ.set 0 (.gx φ H)).length (gK φ H m Kd),.start ha,Mg,q ds μ m Kd Mg.bound (by rw[<- Mg.len];exact ha.bound) em hc hf,⟨fun iO μ' eR gd H' k' f' A' M'=>Lg .fV μ' eR .fV H' k' f' M' rfl,Lg,fun _ _ _ _ _ k' _ _ _=>k'.elim,fun _ _ _ _ _ k' _ _ _=>k'.elim⟩⟩) (fun fl s' hs=>?_) fun e s' hs=>hs.elim
 have fin:∀ {gd:St} {H':Hp} {v:V} {u:Value},Inv (cxH P w K mg dh N qual (dw st) f fR A dA s H) [] gd H' s'->eP v u->Q v H'->CE dA P w H s Q u s' :=
  fun {gd H' v u} J rv q=>⟨v,H',J.os,J.bare,J.dh,J.eE,rv,q⟩
 cases fl with
 | ret u =>
  obtain⟨v,gd,H',J,rv,q⟩:=hs
  exact fin J rv q
 | next =>
  obtain⟨gd,H',J,q⟩:=hs
  exact fin (v:=V.fV) (u:=Value.none) J rfl q
 | brk =>
  obtain⟨_,_,_,q⟩:=hs
  exact False.elim q
 | cont =>
  obtain⟨_,_,_,q⟩:=hs
  exact False.elim q
end
structure CalH (P:ae)(w:af)(K:aa)(mg:Str->Option Value)(dh:Heap)(x:Str)(k:Nat)(ps:List Str)(fs:jg):Prop where
 ex:∃ f fd,FnOkH P w K mg dh k f fd ps fs/\mg x=some (.ref f)/\W.keepIn K (.ref f)=true/\Binds K fd ps []
section
variable {X:Cx}{e:Expr}{es:List Expr}{pos:Pos}{eG:List Addr}{H0:Hp}{kx:Nat}{ea:Addr}
def dCallH (eG:List Addr)(H0:Hp)(kx:Nat)(f:jg)(w:DA):De:=fun ρ μ K=>w ρ μ fun ds dX=>hC eG H0 kx dX/\f ds dX K
def Gb {f:jg}{w:DA}{x:Str}{p:Pos}{k:Nat}{ps:List Str}(hk:eG[kx]?=some ea)(hk0:kx≠0)(hh:X.A.handled=some (.ref ea))(C:CalH X.prog X.w X.K X.mg X.dh x k ps f)(hr:sP k X.A)(hg:Gl X x)(ha:uP X (e::es) w)
 (tL:(x==("__debug__" : Str))=false:=by decide) (he:starEach (e::es) X.env=(false,eval e X.env)::starEach es X.env:=by rfl) (kO:(backTo pos (starEach es X.env)).any (·.1)=false:=by rfl) :
 PD X (.Call (.Name x p) (e::es) [] pos) (dCallH eG H0 kx f w):=by
 obtain⟨f',fd,F,hm,hkp,hb⟩:=C.ex
 intro dg s σ H Q I h
 obtain⟨φ,ρ,μ,K,A,M,w,L⟩:=h
 refine bQ (nQ I hg hm ?_ tL)
 refine W.callWith_K (h₀:=X.dh) I.ok.mod.kin hkp (fK (ha pos dg s σ H (fun vs H1=>∃ φ ds μ Kd kx,d7 φ H1 ds vs/\eJ φ H1 μ/\φ[kx]?=some ea/\kx≠0/\(∃ c,μ[kx]?=some (.exc c))/\f ds μ Kd/\tZ φ H1 Kd Q) I ⟨φ,ρ,μ,_,A,M,w,fun ds dX eM vs H1 k1 f1 M1 i1=>⟨eM,ds,dX,K,kx,i1,M1,(hC_ext hk M1 k1.1).1,hk0,k1.1.2,k1.2,L.mono f1⟩⟩) fun us s1 qK=>?_) he kO
 obtain⟨vs,H1,I1,r,q⟩:=qK
 refine⟨I1.qw,?_⟩
 have hl:us.length=ps.length:=by
  obtain⟨eM,ds,dX,Kd,kx1,i1,_,_,_,_,hf,_⟩:=q
  rw[<- r.length,i1.len];exact F.len _ _ _ hf
 refine wpAny_call (codeAny_mono (F.run X.A X.stack s1 H1 ⟨us,[]⟩ us vs Q ea hr hh I1.env0 (by have:=hb s1 us I1.qw (by rw[aQ];exact hl);rwa [aQ]at this) r q) fun r s' hq=>?_)
 cases r with
 | error e=>exact hq.elim
 | ok fl =>
  cases fl with
  | ret u=>exact I1.after hq
  | next=>exact False.elim hq
  | brk=>exact False.elim hq
  | cont=>exact False.elim hq
end
structure ExSub (K:aa)(C B:Addr):Prop where
 ex:∃(nB qB:Str) (NB:Addr) (bsB bmB:List Value) (hdB:Bool) (snB:List Str) (subB:List Value) (abB:Bool) (colB:Option Bool) (ddB:Option Addr) (b0 b1 b2 b3 b5:Option Value) (idB:String) (nC qC:Str) (NC:Addr) (bsC bmC:List Value) (hdC:Bool) (snC:List Str) (subC:List Value) (abC:Bool) (colC:Option Bool) (ddC:Option Addr) (c0 c1 c2 c3 c5:Option Value) (idC:String),
  K.lookup B=some (excClassObj nB qB B NB bsB bmB hdB snB subB abB colB ddB b0 b1 b2 b3 b5 idB)/\K.lookup C=some (excClassObj nC qC C NC bsC bmC hdC snC subC abC colC ddC c0 c1 c2 c3 c5 idC)/\bmB.contains (.type "BaseException")=true/\(Value.ref C::bmC).contains (.ref B)=true
section
variable {X:Cx}{dg:List (Addr×Obj)}{σ:St}{H:Hp}{s:Shared}
def Inv.track (I:Inv X dg σ H s){e:Addr}{c:Value}(hn:H e=none)(x:kE e c s.heap)(h0:X.s₀.heap.get? e=none)(hl:e≠X.env.locals)(hc:∀ y a,X.env.cells.lookup y=some a->a≠e)(hp:∀ p∈X.pn++dg,p.1≠e) :
 Inv X dg σ (upd H e (.ext (kE e c))) s:=by
 have ne0:∀ b o,X.s₀.heap.get? b=some o->b≠e:=fun b o q z=>by rw[z,h0]at q;cases q
 have ne1:∀ b o,H b=some o->b≠e:=fun b o q z=>by rw[z,hn]at q;cases q
 refine⟨I.ok,I.os,I.bare,⟨I.dh.keep,I.dh.slot,fun b o q n hx=>?_,I.dh.there,fun b xs q=>?_,fun b o xs q=>?_,fun b ps q=>?_⟩,I.loc,I.cell,?_,fun y a q=>?_,fun p hq=>?_,fun a o q=>?_,I.len⟩
 ·rw[d9 (ne0 b o q)];exact I.dh.free b o q n hx
 ·have:=I.dh.oZ b xs q
  rw[d9 (ne1 b _ this)];exact this
 ·have:=I.dh.oM b o xs q
  rw[d9 (ne1 b _ this)];exact this
 ·obtain⟨m,this⟩:=I.dh.o4 b ps q
  exact⟨m,by rw[d9 (ne1 b _ this)];exact this⟩
 ·rw[d9 (bf hl)];exact I.free
 ·rw[d9 (hc y a q)];exact I.jP y a q
 ·obtain⟨h1,h2,h3⟩:=I.pin p hq
  exact⟨h1,by rw[d9 (hp p hq)];exact h2,h3⟩
 ·by_cases z:a=e
  ·subst z
   rw[dW]at q
   cases q
   obtain⟨oe,vs,q1,q2⟩:=x
   exact⟨⟨oe,vs,q1,q2⟩,⟨oe,q1⟩,fun h1 h2 ⟨o,v,e1,e2⟩ k=>⟨o,v,k o e1,e2⟩⟩
  ·rw[d9 z]at q
   exact(I.eE a o q).vK (fun _ _ _ k=>k) (fun b k=>by rw[d9 (ne1 b _ k)];exact k) fun b xs k=>by rw[d9 (ne1 b _ k)];exact k
def Inv.forget (I:Inv X dg σ H s){h':Heap}{m':Str->Option Value}{t:Nat}(hn:h'.Ns X.env.locals m')(hs:Heap.SameBut X.env.locals s.heap h'):Inv X dg (σ.map fun _=>none) H { s with heap:=h',toks:=t}:=by
 have ne:∀ b o,X.s₀.heap.get? b=some o->b≠X.env.locals:=fun b o e=>aF (aw (jK e) I.ok.above)
 refine⟨I.ok,I.os,I.bare,⟨fun b o e n hb hx=>?_,fun b o e n hb hx=>?_,I.dh.free,fun b o e hx=>?_,I.dh.oZ,I.dh.oM,I.dh.o4⟩,⟨m',hn,fun j y v' e1 e2 e3=>?_⟩,fun y c e=>?_,I.free,I.jP,fun p hp=>?_,fun b ob e=>?_,by rw[fF];exact I.len⟩
 ·exact(hs.2 b (ne b o e)).trans (I.dh.keep b o e n hb hx)
 ·obtain⟨sl,e1⟩:=I.dh.slot b o e n hb hx
  exact⟨sl,(hs.2 b (ne b o e)).trans e1⟩
 ·obtain⟨o',e1⟩:=I.dh.there b o e hx
  exact⟨o',(hs.2 b (ne b o e)).trans e1⟩
 ·rw[uw]at e2
  cases q:σ[j]? <;> rw[q]at e2 <;> cases e2
 ·obtain⟨w',z⟩:=I.cell y c e
  exact⟨w',z.sameBut hs (I.cne y c e)⟩
 ·obtain⟨e,n,ne,nf,d⟩:=I.pin p hp
  exact⟨(hs.2 p.1 ne).trans e,n,ne,nf,d⟩
 ·refine(I.eE b ob e).vK (fun c w' hc q=>(hs.2 c ?_).trans q) (fun _ q=>q) fun _ _ q=>q
  rintro rfl
  rcases hc with rfl | hc
  ·rw[I.free]at e;cases e
  ·rw[I.free]at hc;cases hc
def Un.kp {fs:List Addr}{l:List Env}{H H':Hp}{h h1 h2 g:Heap}(u:Un fs [] H H' h h1)(k:Kp g l h1 h2)(hg:Gk h g)(hl:∀ b,b∈x9 l->b∈fs):Un fs [] H H' h h2:=by
 refine⟨fun b o e n hb hx=>k.other b o (u.keep b o e n hb hx) (hg b ⟨o,e⟩) fun z=>hb (hl b z),fun b o e n hb hx=>?_,u.free,fun b o e hx=>?_,u.oZ,u.oM,u.o4⟩
 ·obtain⟨sl,e1⟩:=u.slot b o e n hb hx
  obtain⟨sl2,e2⟩:=k.any e1 (hg b ⟨o,e⟩)
  exact⟨sl2,e2⟩
 ·obtain⟨o',e1⟩:=u.there b o e hx
  obtain⟨sl,e2⟩:=k.any e1 (hg b ⟨o,e⟩)
  exact⟨_,e2⟩
end
def dTry (K:aa)(B:Addr)(n i:Nat)(u:List Addr->Hp->DX->Ds)(v:List Addr->Hp->Nat->Ds):Ds:=fun N ρ μ=>∃ m,μ[0]?=some m/\∀ eG H0,
 u eG H0 (gX eG H0 m fun c μ'=>∃ C,c=.ref C/\ExSub K C B/\∀ eM H1,v eM H1 μ'.length { nx:=fun _ _=>False,rt:=gK eM H1 m N.rt} ((List.replicate n none).set i (some (.mr μ'.length))) ((μ'++[MO.exc c]).set 0 (.gx eM H1)))
  { nx:=fun iO μ'=>μ'[0]?=some (.gx eG H0)/\N.nx iO (μ'.set 0 m),rt:=gK eG H0 m N.rt,bk:=fun iO μ'=>μ'[0]?=some (.gx eG H0)/\N.bk iO (μ'.set 0 m),ct:=fun iO μ'=>μ'[0]?=some (.gx eG H0)/\N.ct iO (μ'.set 0 m)} ρ (μ.set 0 (.gx eG H0))
def LiS.ghost {φ:List Addr}{H:Hp}{μ:MS}{m:MO}{k:DE->MS->Prop}{q:St->Hp->Prop}(L:LiS φ H k q)(M:eJ φ H μ)(e:μ[0]?=some m):LiS φ H (fun iO μ'=>μ'[0]?=some (.gx φ H)/\k iO (μ'.set 0 m)) q:=fun iO μ' eR gd H' ⟨e',k'⟩ f A M'=>L iO _ eR gd H' k' f A (M.back e M' e')
def Inv.caught {X:Cx}{dg:List (Addr×Obj)}{σ:St}{H H':Hp}{s s':Shared}{g h2:Heap}(I:Inv X dg σ H s)(os:s'.os=s.os)(bare:AllBare s'.gens)(un:Un (x9 X.stack) [] H H' s.heap s'.heap)(eE:ot X.prog X.w H' s'.heap)(g1:Gk s.heap g)(g2:∀ b,H' b≠none->At g b)(k:Kp g X.stack s'.heap h2) :
 Inv X dg σ H' { s' with heap:=h2}:=by
 have I2:=I.yK (s':=s') (ch:=[]) os un eE bare (fun b z=>absurd z (by simp))
 exact I.yK (s':={ s' with heap:=h2}) (ch:=[]) os (un.kp k g1 fun b z=>z) (Ec eE (fun b hb=>⟨g2 b hb,fun z=>hb (I2.pZ b z)⟩) k) bare (fun b z=>absurd z (by simp))
def A0.is {g h:Heap}{e:Addr}{cls fl:Value}(x:A0 g e cls fl h):kE e cls h:=by
 obtain⟨oe,vs,T,oT,ts,⟨h1,⟨h2,h3⟩,h4,_,h5⟩,_⟩:=x
 exact⟨oe,vs,h1,h2,h3,h4,h5⟩
section
variable {X:Cx}{body suite:List Stmt}{b0:Stmt}{x n:Str}{np hpos pos:Pos}{B:Addr}{i:Nat}{u:List Addr->Hp->DX->Ds}{v:List Addr->Hp->Nat->Ds}
def s_try (hex:X.ex=[])(Dy:X.stack=X.env::X.dA)(hfm:X.env.frame=some X.env.locals)(hN:X.N.Nodup)(hi:X.N[i]?=some n)(hn:X.env.scope.names.lookup n=some .local)(hg:Gl X x)(hm:X.mg x=some (.ref B))
 (hb:∀(pn:List (Addr×Obj)) (xe:Value->Shared->Prop) (eG:List Addr) (H0:Hp) (Kx:DX),Rz { X with pn:=pn,xe:=xe} eG H0 Kx->EE { X with pn:=pn,xe:=xe} body (u eG H0 Kx))
 (hs:∀(pn:List (Addr×Obj)) (e:Addr) (eM:List Addr) (H1:Hp) (kx:Nat),eM[kx]?=some e->kx≠0->EE (Cx.hnd { X with pn:=pn} (X.A.mark (some (.ref e)))) (b0::suite) (v eM H1 kx)) (hd:(x==("__debug__" : Str))=false:=by decide) :
 xA X (.Try body [.ExceptHandler (some (.Name x np)) (some n) (b0::suite) hpos] [] [] pos) (dTry X.K B X.N.length i u v):=fun dg s σ H D I hq=>by
 obtain⟨φ,ρ,μ,N,A,M,⟨m,em,w⟩,L⟩:=hq
 have w:=w φ H
 refine wpAny_Try_except ?_
 obtain⟨xe,hxe⟩:∃ xe:Value->Shared->Prop,xe=fun ev s₁=>wpAny (model X.prog X.w) X.A (noteFrame ev X.env) (fun _ s₂=>wpAny (model X.prog X.w) X.A (setFlight ev none) (fun _ s₃=>wpAny (model X.prog X.w) X.A (handleBy ev X.env [.ExceptHandler (some (.Name x np)) (some n) (b0::suite) hpos]) (SP X dg D) X.xe s₃) X.xe s₂) X.xe s₁:=⟨_,rfl⟩
 have I':Inv { X with pn:=X.pn++dg,xe:=xe} [] σ H s:=⟨⟨I.ok.mod,I.ok.kind,I.ok.glob,I.ok.blt,I.ok.above,I.ok.inj,I.ok.has,I.ok.cab,I.ok.hd,I.ok.frames,I.ok.stk,I.ok.exf,I.ok.bs,I.ok.Ex,I.ok.BO,I.ok.Co,I.ok.qt,I.ok.frf⟩,I.os,I.bare,I.dh,I.loc,I.cell,I.free,I.jP,(fun p hp=>I.pin p (by simpa using hp)),I.eE,I.len⟩
 have back:∀ {pins1:List (Addr×Obj)} {Bc:St} {H1:Hp} {s1:Shared},Inv { X with pn:=X.pn++dg,xe:=xe} pins1 Bc H1 s1->Inv X dg Bc H1 s1:=fun J=>⟨I.ok,J.os,J.bare,J.dh,J.loc,J.cell,J.free,J.jP,(fun p hp=>J.pin p (bU _ hp)),J.eE,J.len⟩
 have Mg:=M.ghost em
 have hfr:X.A.frames=some (X.env::X.dA):=by rw[<- Dy];exact I.ok.frames
 obtain⟨Kx,hKx⟩:∃ Kx:DX,Kx=fun c μ'=>∃ C,c=.ref C/\ExSub X.K C B/\∀ eM H1,v eM H1 μ'.length { nx:=fun _ _=>False,rt:=gK eM H1 m N.rt} ((List.replicate X.N.length none).set i (some (.mr μ'.length))) ((μ'++[MO.exc c]).set 0 (.gx eM H1)):=⟨_,rfl⟩
 rw[<- hKx]at w
 have Z:Rz { X with pn:=X.pn++dg,xe:=xe} φ H (gX φ H m Kx):=by
  refine⟨fun c _ H'=>∃ eR μ',gX φ H m Kx c μ'/\Fr φ H eR H'/\eJ eR H' μ',fun c μ' eR H' k f M=>⟨eR,μ',k,f,M⟩,fun pins1 Bc H1 s1 ev s' J c=>?_⟩
  obtain⟨e,cls,H',g,rfl,os,bare,un,eE,⟨g1,g2,g3⟩,ex,eR,μ',⟨e0,hK⟩,f',M'⟩:=c
  rw[hKx]at hK
  obtain⟨C,rfl,sub,hv⟩:=hK
  show xe (.ref e) s'
  rw[hxe]
  have J2:=J.yK (s':=s') (ch:=[]) os un eE bare (fun b z=>absurd z (by simp))
  have ff:s'.heap.FunFrames X.dh (X.env::X.dA):=by rw[<- Dy];exact J2.stack
  refine yx hfr ff hfm g3 ex fun h1 x1 k1=>?_
  refine mq (l:=X.env::X.dA) x1 fun h2 x2 k2 _=>?_
  have k12:Kp g X.stack s'.heap h2:=by rw[Dy];exact k1.trans k2
  have J3:=(J.caught os bare un eE g1 g2 k12).nO (pins':=[]) (fun p hp=>absurd hp (by simp))
  have eN:g.get? e=none:=by obtain⟨_,_,_,_,_,_,_,z⟩:=ex;exact z
  have hHe:H' e=none:=by
   cases q:H' e with
   | none=>rfl
   | some o=>obtain⟨u,z⟩:=g2 e (by rw[q];simp);rw[eN]at z;cases z
  have J4:Inv (Cx.hnd { X with pn:=X.pn++dg} (X.A.mark (some (.ref e)))) [] Bc H' { s' with heap:=h2}:=J3.hnd I.ok.frames
  refine wpAny_handleBy_cons (codeAny_handlers_test (nQ J4 hg hm ?_ hd)) (by intro q;cases q)
  obtain⟨nB,qB,NB,bsB,bmB,hdB,snB,subB,abB,colB,ddB,b0',b1,b2,b3,b5,idB,nC,qC,NC,bsC,bmC,hdC,snC,subC,abC,colC,ddC,c0,c1,c2,c3,c5,idC,lB,lC,hbB,hin⟩:=sub.ex
  obtain⟨oe,vs,q1,q2,q3,q4,q5⟩:=x2.is
  refine exc_match (J4.qw _ _ lB) (J4.qw _ _ lC) q1 q2 hbB hin ?_
  refine codeAny_handlers_suite_as (mq (l:=X.env::X.dA) (s:={ s' with heap:=h2}) x2 fun h3 x3 k3 _=>?_)
  have k13:Kp g X.stack s'.heap h3:=k12.trans (by rw[Dy];exact k3)
  have J5:=(J.caught os bare un eE g1 g2 k13).nO (pins':=[]) (fun p hp=>absurd hp (by simp))
  have atg:∀ b o,s1.heap.get? b=some o->b≠e:=fun b o q z=>by
   obtain⟨u,y⟩:=g1 b ⟨o,q⟩
   rw[z,eN]at y;cases y
  have J6:=J5.track hHe x3.is (by
   cases q:X.s₀.heap.get? e with
   | none=>rfl
   | some o =>
    obtain⟨o',y⟩:=J.dh.there e o q (by show e∉X.ex;rw[hex];simp)
    exact absurd rfl (atg e o' y)) (by
   obtain⟨mm,⟨oo,_,_,y,_⟩,_⟩:=J.loc
   exact fun z=>atg _ oo y z.symm) (fun y a q=>by
   obtain⟨w',o,z,_⟩:=J.cell y a q
   exact atg a o z) (fun p hp=>atg p.1 p.2 (J.pin p (bU _ (by simpa using hp))).1)
  have J7:Inv (Cx.hnd { X with pn:=X.pn++dg} (X.A.mark (some (.ref e)))) [] Bc (upd H' e (.ext (kE e (.ref C)))) { s' with heap:=h3}:=J6.hnd I.ok.frames
  refine lh (X:=Cx.hnd { X with pn:=X.pn++dg} (X.A.mark (some (.ref e)))) J7 hN hi (.inl hn) (v:=.ref e) (u:=.ref e) rfl (fun s8 J8=>?_) (.inr hn)
  have Mb:=M.back em M' e0
  obtain⟨dX,hμ1⟩:∃ dX,dX=μ'.set 0 m:=⟨_,rfl⟩
  rw[<- hμ1]at Mb hv
  have h0l:0<μ'.length:=(lK e0).1
  have em1:dX[0]?=some m:=by rw[hμ1];exact aD h0l
  have l1:dX.length≠0:=by rw[hμ1,aL];omega
  obtain⟨Msn,f2⟩:=Mb.snoc (m:=.exc (.ref C)) (o:=.ext (kE e (.ref C))) hHe dW
  have FQ:(dX++[MO.exc (.ref C)])[0]?=some m:=by rw[uU (by omega)];exact em1
  have hk:(eR++[e])[dX.length]?=some e:=by rw[qx (by rw[Mb.len];exact ah _),Mb.len,aT];rfl
  have ls:Bc.length=X.N.length:=J.len
  have hil:i<Bc.length:=by rw[ls];exact(lK hi).1
  have A2:i8 (eR++[e]) (upd H' e (.ext (kE e (.ref C)))) ((List.replicate X.N.length none).set i (some (.mr dX.length))) (Bc.set i (some (.ref e))):=by
   refine⟨by rw[aL,aL,aP,ls],fun j d q=>?_⟩
   by_cases z:i=j
   ·subst z
    rw[aD (by rw[aP,<- ls];exact hil)]at q
    cases q
    exact⟨.ref e,aD hil,e,hk,rfl⟩
   ·rw[av z,List.getElem?_replicate]at q
    split at q <;> cases q
  have L2:LiN (eR++[e]) (upd H' e (.ext (kE e (.ref C)))) { nx:=fun _ _=>False,rt:=gK (eR++[e]) (upd H' e (.ext (kE e (.ref C)))) m N.rt} { nx:=fun _ _=>False,rt:=D.rt} :=
   ⟨fun _ _ _ _ _ k' _ _ _=>k'.elim,(L.rt.mono (f'.trans f2)).ghost Msn FQ,fun _ _ _ _ _ k' _ _ _=>k'.elim,fun _ _ _ _ _ k' _ _ _=>k'.elim⟩
  refine bg (hs (X.pn++dg) e (eR++[e]) (upd H' e (.ext (kE e (.ref C)))) dX.length hk l1 [] s8 _ _ { nx:=fun _ _=>False,rt:=D.rt} J8 ⟨eR++[e],_,_,_,A2,Msn.ghost FQ,hv _ _,L2⟩) (fun f s9 q=>?_) (fun _ _ z=>z.elim)
  cases f with
  | next=>obtain⟨_,_,_,q⟩:=q;exact q.elim
  | brk=>obtain⟨_,_,_,q⟩:=q;exact q.elim
  | cont=>obtain⟨_,_,_,q⟩:=q;exact q.elim
  | ret r =>
   obtain⟨v',σ9,H9,J9,rv,qr⟩:=q
   have J9x:Inv X dg σ9 H9 s9:=⟨I.ok,J9.os,J9.bare,J9.dh,J9.loc,J9.cell,J9.free,J9.jP,(fun p hp=>J9.pin p (bU _ hp)),J9.eE,J9.len⟩
   obtain⟨mm,hns,_⟩:=J9.loc
   show wpAny _ _ (do bindName X.env n .none;unbindBehindTheSuite X.env n hpos) _ _ _
   refine wpAny_nameGoes hn hns (by rw[I.ok.kind];rfl) fun h' m' hns' hsb=>?_
   exact⟨v',_,H9,J9x.forget hns' hsb,rv,qr⟩
 have pB:=hb _ _ φ H _ Z [] s σ H D I' ⟨φ,ρ,μ.set 0 (.gx φ H),_,A,Mg,w,⟨L.nx.ghost M em,L.rt.ghost M em,L.bk.ghost M em,L.ct.ghost M em⟩⟩
 refine bg pB (fun f s1 q=>?_) (fun ev s1 q=>by have q:xe ev s1:=q;rw[hxe]at q;exact q)
 cases f with
 | next=>obtain⟨gd,H',J,q⟩:=q;exact cU ⟨gd,H',back J,q⟩
 | brk=>obtain⟨gd,H',J,q⟩:=q;exact⟨gd,H',back J,q⟩
 | cont=>obtain⟨gd,H',J,q⟩:=q;exact⟨gd,H',back J,q⟩
 | ret u=>obtain⟨v',gd,H',J,r,q⟩:=q;exact⟨v',gd,H',back J,r,q⟩
end
abbrev nh:List Value:=[.type "ValueError",.type "Exception",.type "BaseException",.type "object"]
def Es {K:aa}{C:Addr}{bmB:List Value}{newId:String}(q:W.excIn K C bmB newId=true):∃(bm:List Value) (ns:Addr) (nm qn:Str) (bs:List Value) (hd:Bool) (sn:List Str) (sub:List Value) (ab:Bool) (col:Option Bool) (dd:Option Addr) (k0 k1 k2 k3 k5:Option Value),
 K.lookup C=some (excClassObj nm qn C ns bs bm hd sn sub ab col dd k0 k1 k2 k3 k5 newId)/\W.nsOkIn K ns=true/\W.nsIn K ns "__init__"=some none/\W.tailIn K bmB bm=true:=by
 unfold W.excIn at q
 split at q
 ·rename_i dd cd sl ho
  split at q
  ·rename_i C' bm k0 k1 k2 k3 n k5 hm hs
   simp only[aO,beq_iff_eq,Bool.not_eq_true']at q
   obtain⟨⟨⟨⟨⟨rfl,rfl⟩,hdel⟩,ht⟩,eE⟩,hni⟩:=q
   obtain⟨nm,bs,mro,ns,qn,hd,sn,sub,ab,col,del⟩:=cd
   dsimp only at hm hdel eE hni
   subst hm hdel
   have hsl:sl=#[k0,k1,k2,k3,some (.builtin n),k5]:=by
    obtain⟨l⟩:=sl
    simp only at hs
    rw[hs]
   subst hsl
   exact⟨bm,ns,nm,qn,bs,hd,sn,sub,ab,col,dd,k0,k1,k2,k3,k5,ho,eE,hni,ht⟩
  ·cases q
 ·cases q
def iA {K:aa}{h:Heap}{mg:Str->Option Value}{x:Str}{C:Addr}(X:K.In h)(G:h.Ns mainGlobals mg)(e:W.nsIn K mainGlobals x=some (some (.ref C)))(q:W.excIn K C nh "ValueError.__new__"=true):OwnCls x C nh "ValueError.__new__" mg h:=by
 obtain⟨bm,ns,nm,qn,bs,hd,sn,sub,ab,col,dd,k0,k1,k2,k3,k5,h1,h2,h3,h4⟩:=Es q
 exact⟨bV X G e,bm,ns,nm,qn,bs,hd,sn,sub,ab,col,dd,k0,k1,k2,k3,k5,_,X _ _ h1,.of_isNs (W.isNs_of_in X h2),W.nsMap_none_of_in X h2 h3,W.tail_of_in X h4⟩
def subIn (K:aa)(C B:Addr):Bool:=match K.lookup C with
 | some ⟨_,_,.cls cd,_⟩=>cd.mro.contains (.ref B)
 | _=>false
def sub_of {K:aa}{C B:Addr}(qB:W.excIn K B nh "ValueError.__new__"=true)(qC:W.excIn K C nh "ValueError.__new__"=true)(s:subIn K C B=true):ExSub K C B:=by
 obtain⟨bm,ns,nm,qn,bs,hd,sn,sub,ab,col,dd,k0,k1,k2,k3,k5,h1,h2,h3,h4⟩:=Es qB
 obtain⟨bm',ns',nm',qn',bs',hd',sn',sub',ab',col',Cz,k0',k1',k2',k3',k5',h1',h2',h3',h4'⟩:=Es qC
 refine⟨nm,qn,ns,bs,bm,hd,sn,sub,ab,col,dd,k0,k1,k2,k3,k5,_,nm',qn',ns',bs',bm',hd',sn',sub',ab',col',Cz,k0',k1',k2',k3',k5',_,h1,h1',?_,?_⟩
 ·have tl:∀ l,W.tailIn K nh l=true->l.contains (.type "BaseException")=true:=fun l=>by
   induction l with
   | nil=>intro z;exact absurd (show(nh==[])=true from z) (by decide)
   | cons v r ih =>
    intro z
    unfold W.tailIn at z
    rcases Bool.or_eq_true_iff.mp z with q | q
    ·rw[beq_iff_eq.mp q];decide
    ·rw[List.contains_cons]
     have:W.tailIn K nh r=true:=by
      split at q
      ·split at q
       ·simp only[aO]at q;exact q.2
       ·cases q
      ·cases q
     rw[ih this,Bool.or_true]
  exact tl _ h4
 ·unfold subIn at s
  rw[h1']at s
  exact s
def roomM {k:Nat}{A:Around}{h:Option Value}(r:gZ k A):sP k (A.mark h):=⟨r.dp,r.un⟩
def jc {P:ae}{w:af}{K:aa}{mg:Str->Option Value}{dh h:Heap}{x q:Str}{st:Stmt}{f:Addr}{fd:ag}{k:Nat}{ps:List Str}{sp:Sp}(G:K.In h)(N:h.Ns mainGlobals mg)(F:gL K x q st f fd)(ok:eF P w K mg dh (k9 P w) k f fd ps sp)(hb:Binds K fd ps [])
 (a:W.nsIn K mainGlobals x=some (some (.ref f)):=by kernel_rfl):qW P w K mg dh x k ps sp:=⟨f,fd,ok,bV G N a,F.kp,hb⟩
def calh_of {P:ae}{w:af}{K:aa}{mg:Str->Option Value}{dh h:Heap}{x q:Str}{st:Stmt}{f:Addr}{fd:ag}{k:Nat}{ps:List Str}{sp:jg}(G:K.In h)(N:h.Ns mainGlobals mg)(F:gL K x q st f fd)(ok:FnOkH P w K mg dh k f fd ps sp)(hb:Binds K fd ps [])
 (a:W.nsIn K mainGlobals x=some (some (.ref f)):=by kernel_rfl):CalH P w K mg dh x k ps sp:=⟨f,fd,ok,bV G N a,F.kp,hb⟩
def dZ {μ:MS}{m n:MO}(em:μ[0]?=some m):(μ.set 0 n)[0]?=some n:=aD (lK em).1
def nU {μ:MS}{m n:MO}(em:μ[0]?=some m):(μ.set 0 n).set 0 m=μ:=by
 cases μ with
 | nil=>cases em
 | cons a r=>cases em;rfl
def fb {μ:MS}{m:MO}{n:Nat}{eG:List Addr}{H:Hp}{c:Value}{Kb Kx:DX}(hK:Kb=FX n (gX eG H m Kx))(em:μ[0]?=some m)(k:Kx c μ):(μ.set 0 (.gx eG H))[0]?=some (.gx eG H)/\Kb c (μ.set 0 (.gx eG H)):=⟨dZ em,by rw[hK];exact .inl ⟨dZ em,by rw[nU em];exact k⟩⟩
def jk {μ:MS}{m:MO}{eG:List Addr}{H:Hp}{d:D}{K:DK}(em:μ[0]?=some m)(k:K d μ):gK eG H m K d (μ.set 0 (.gx eG H)):=⟨dZ em,by rw[nU em];exact k⟩
def runOk (n e a b:Int):Prop:=e<a/\a<b/\b<=n
instance (n e a b:Int):Decidable (runOk n e a b):=by unfold runOk;infer_instance
def kitB (K:aa)(cs:List Addr)(j:Nat):Bool:=(List.range 17).all fun i=>W.kitOne K (.ref (cs.getD j 0)) (.ref (cs.getD i 0))==some (decide (i=j))
structure kS (K:aa)(cs:List Addr)(cH:Addr)(j:Nat):Prop where
 ef:ExF K (cs.getD j 0)
 kit:kitB K cs j=true
 kv:W.kitOne K (.ref (cs.getD j 0)) (.type "ValueError")=some true
 sub:ExSub K (cs.getD j 0) cH
def kS.at_ {K:aa}{cs:List Addr}{cH:Addr}{j:Nat}(h:kS K cs cH j)(i:Nat)(hi:i<17):W.kitOne K (.ref (cs.getD j 0)) (.ref (cs.getD i 0))=some (decide (i=j)):=by
 have:=List.all_eq_true.mp h.kit i (List.mem_range.mpr hi)
 simpa using this
def rR (j:Nat):Str:=(["BadBars", "BadMake", "BadNumber", "BadText", "BadName", "BadAge", "BadBar", "BadPlace", "BadSize", "Taken", "Full", "NoTake", "Shut", "Joined", "Needed", "NothingLeft", "NoWay"]:List Str).getD j ""
structure OwnB (x:Str)(C:Addr)(mg:Str->Option Value):Prop where
 bound:mg x=some (.ref C)
section
variable {X:Cx}{a b e o:Expr}{es:List Expr}{pos:Pos}
def dFz (w:De):De:=fun ρ μ K=>w ρ μ (Fz μ.length K)
def AB {w:De}(h:PD X e w):PD X e (dFz w):=h.imp fun σ H Q hq=>by
 obtain⟨φ,ρ,μ,K,A,M,k,L⟩:=hq
 exact⟨φ,ρ,μ,_,A,M,k,L.fz M⟩
def tFrz (t:TE):TE:=fun σ H Q=>t σ H fun v H1=>∃ a kvs,v=.ref a/\H1 a=some (.dK kvs)/\∀ o,Q v (upd H1 a (.ly o (.dK kvs)))
def pe_frz {t:TE}(h:PE X e t):PE X e (tFrz t):=fun dg s σ H Q I q =>
 fK (h dg s σ H _ I q) fun v s1 hq=>by
  obtain⟨x,H1,I1,r1,a,kvs,ex,e1,q1⟩:=hq
  subst ex
  obtain⟨o,vs,ep,kv,hd,da,hs,I2⟩:=freeze I1 (.inl e1)
  exact⟨_,_,I2,r1,q1 o⟩
def dFrz (w:De):De:=fun ρ μ K=>w ρ μ fun x dX=>match x with
 | .mr j=>∃ ks ds,dX[j]?=some (.iD ks ds)/\∀(o:Obj) (kvs:List (Key×V)),kvs.map (·.1)=ks->K (.mr j) (dX.set j (.nX o kvs ds))
 | _=>False
def xj {w:De}(h:PD X e w):PD X e (dFrz w):=(pe_frz h).imp fun σ H Q hq=>by
 obtain⟨φ,ρ,μ,K,A,M,k,L⟩:=hq
 refine⟨φ,ρ,μ,_,A,M,k,fun d dX eM v1 H1 k1 f1 M1 i1=>?_⟩
 cases d with
 | mr k =>
  have i1':=i1
  obtain⟨p,hp,rfl⟩:=i1
  obtain⟨ks,ds,em,k1⟩:=k1
  obtain⟨p',e1,kvs,vs,h1,h2,h3,h4⟩:=M1.at_ k _ em
  rw[hp]at e1;cases e1
  subst h3
  refine⟨p,kvs,rfl,h1,fun o=>?_⟩
  have f2:Fr eM H1 eM (upd H1 p (.ly o (.dK kvs))):=.put (Ak hp)
  have M2:=M1.put (k:=k) (p:=p) (o:=.ly o (.dK kvs)) (m:=.nX o kvs ds) hp ⟨dW,h4.mono f2⟩
  exact L _ _ eM _ _ (k1 o kvs h2) (f1.trans f2) M2 (i1'.mono f2)
 | _=>exact k1.elim
def dNewF:De:=fun _ μ K=>K (.lD [] []) μ
def sA:PD X (.Dict [] [] pos) dNewF:=(AB (xj AD)).imp fun σ H Q hq=>by
 obtain⟨φ,ρ,μ,K,A,M,k,L⟩:=hq
 refine⟨φ,ρ,μ,K,A,M,⟨[],[],by rw[qx (ah _),aT];rfl,fun o kvs hk=>?_⟩,L⟩
 have e0:(μ++[MO.iD [] []]).set μ.length (.nX o kvs [])=μ++[.nX o kvs []]:=gb
 rw[e0]
 refine Fz.lD (ah _) (by rw[qx (ah _),aT];rfl) (show qa _ []from True.intro) (gH M.bound) ?_
 rw[aV,hk]
 exact k
def Ek {φ:List Addr}{H:Hp}{ks:List Key}{ds:List D}{v:V}(i:iL φ H (.lD ks ds) v):∃ p o kvs,v=.ref p/\H p=some (.ly o (.dK kvs))/\kvs.map (·.1)=ks/\d7 φ H ds (kvs.map (·.2)):=by
 obtain⟨p,o,kvs,vs,rfl,_,h1,h2,rfl,h3⟩:=i
 exact⟨p,o,kvs,rfl,h1,h2,h3⟩
def ixF (ks:List Key)(ds:List D)(y:D):Option (Option D):=(nT y).map fun k=>pI (ks.zip ds) k
def dIxF:uY:=fun x y μ K=>match x with
 | .lD ks ds=>∃ d,ixF ks ds y=some (some d)/\K d μ
 | .mr j=>∃ d,ixM μ j y=some (some d)/\K d μ
 | _=>False
def jl {wa wb:De}(hu:X.A.units+1<cLine)(ha:PD X a wa)(hb:PD X b wb)(hs:NoSl b):PD X (.Subscript a b pos) (AE dIxF wa wb):=(pe_dget hu ha hb hs).imp fun σ H Q hq=>by
 obtain⟨φ,ρ,μ,K,A,M,k,L⟩:=hq
 refine⟨φ,ρ,μ,_,A,M,k,fun d1 dX eM v1 H1 k1 f1 M1 i1=>?_⟩
 refine⟨eM,ρ,dX,_,A.mono f1,M1,k1,fun d2 fw iN v2 H2 k2 f2 M2 i2=>?_⟩
 cases d1 with
 | lD ks ds =>
  obtain⟨d,ex,k2⟩:=k2
  obtain⟨k,ek,ed⟩:=Option.map_eq_some_iff.mp ex
  obtain⟨p,o,kvs,rfl,rd,e1,ha⟩:=Ek (i1.mono f2)
  cases nS ek i2
  obtain⟨v,ev,iv⟩:=xg e1 ha ed
  exact⟨p,v,rfl,.inl ⟨kvs,k,.inr ⟨o,rd⟩,rfl,ev.symm⟩,(L.mono (f1.trans f2)).val M2 k2 iv⟩
 | mr j =>
  obtain⟨d,ex,k2⟩:=k2
  obtain⟨ks,ds,k,em,ek,ed⟩:=ixM_ex ex
  obtain⟨p,kvs,hp,rfl,rd,e1,ha⟩:=Aw M2 (i1.mono f2) em
  cases nS ek i2
  obtain⟨v,ev,iv⟩:=xg e1 ha ed
  exact⟨p,v,rfl,.inl ⟨kvs,k,rd,rfl,ev.symm⟩,(L.mono (f1.trans f2)).val M2 k2 iv⟩
 | _=>exact k2.elim
def dInF (neg:Bool):uY:=fun x y μ K=>match y with
 | .lD ks ds=>∃ o,ixF ks ds x=some o/\K (.bl (neg != o.isSome)) μ
 | .mr j=>∃ o,ixM μ j x=some o/\K (.bl (neg != o.isSome)) μ
 | _=>False
def inF_ex {neg:Bool}{φ:List Addr}{H:Hp}{μ:MS}{x y:D}{vx vy:V}{K:DK}{Q:VK}(M:eJ φ H μ)(ix:iL φ H x vx)(iy:iL φ H y vy)(k:dInF neg x y μ K)(L:tZ φ H K Q):∃ p o,vy=.ref p/\Dc H p vx o/\Q (.bl (neg != o.isSome)) H:=by
 cases y with
 | lD ks ds =>
  obtain⟨oo,ex,k2⟩:=k
  obtain⟨k,ek,rfl⟩:=Option.map_eq_some_iff.mp ex
  obtain⟨p,o,kvs,rfl,rd,e1,ha⟩:=Ek iy
  cases nS ek ix
  refine⟨p,mQ kvs k,rfl,.inl ⟨kvs,k,.inr ⟨o,rd⟩,rfl,rfl⟩,?_⟩
  have es:(mQ kvs k).isSome=(pI (ks.zip ds) k).isSome:=by
   rcases Cq k e1 ha with⟨g1,g2⟩ | ⟨d,v,g1,g2,_⟩<;> (rw[g1,g2];rfl)
  rw[es]
  exact L.val M k2 rfl
 | mr j =>
  obtain⟨oo,ex,k2⟩:=k
  obtain⟨ks,ds,k,em,ek,rfl⟩:=ixM_ex ex
  obtain⟨p,kvs,hp,rfl,rd,e1,ha⟩:=Aw M iy em
  cases nS ek ix
  refine⟨p,mQ kvs k,rfl,.inl ⟨kvs,k,rd,rfl,rfl⟩,?_⟩
  have es:(mQ kvs k).isSome=(pI (ks.zip ds) k).isSome:=by
   rcases Cq k e1 ha with⟨g1,g2⟩ | ⟨d,v,g1,g2,_⟩<;> (rw[g1,g2];rfl)
  rw[es]
  exact L.val M k2 rfl
 | _=>exact(show False from k).elim
def tD_inF {wa wb:De}{σ:St}{H:Hp}{Q:VK}(h:tD (AE (dInF false) wa wb) σ H Q):tDIn (tD wa) (tD wb) σ H Q:=by
 obtain⟨φ,ρ,μ,K,A,M,k,L⟩:=h
 refine⟨φ,ρ,μ,_,A,M,k,fun d1 dX eM v1 H1 k1 f1 M1 i1=>?_⟩
 refine⟨eM,ρ,dX,_,A.mono f1,M1,k1,fun d2 fw iN v2 H2 k2 f2 M2 i2=>?_⟩
 obtain⟨p,o,e,g,q⟩:=inF_ex M2 (i1.mono f2) i2 k2 (L.mono (f1.trans f2))
 rw[fne]at q
 exact⟨p,o,e,g,q⟩
def tD_notinF {wa wb:De}{σ:St}{H:Hp}{Q:VK}(h:tD (AE (dInF true) wa wb) σ H Q):EZ (tD wa) (tD wb) σ H Q:=by
 obtain⟨φ,ρ,μ,K,A,M,k,L⟩:=h
 refine⟨φ,ρ,μ,_,A,M,k,fun d1 dX eM v1 H1 k1 f1 M1 i1=>?_⟩
 refine⟨eM,ρ,dX,_,A.mono f1,M1,k1,fun d2 fw iN v2 H2 k2 f2 M2 i2=>?_⟩
 obtain⟨p,o,e,g,q⟩:=inF_ex M2 (i1.mono f2) i2 k2 (L.mono (f1.trans f2))
 rw[tne]at q
 exact⟨p,o,e,g,q⟩
def Bi {wa wb:De}(hu:X.A.units+1<cLine)(ha:PD X a wa)(hb:PD X b wb)(hmk:behindInMarks .In b=false):PDT X (.Compare a [.In] [b] pos) (qM (AE (dInF false) wa wb)):=(zO (pc_din hu ha hb) hmk).imp fun σ H Q hq=>E5 (fun Q q=>tD_inF q) hq
def kh {wa wb:De}(hu:X.A.units+1<cLine)(ha:PD X a wa)(hb:PD X b wb)(hmk:behindInMarks .NotIn b=false):PDT X (.Compare a [.NotIn] [b] pos) (qM (AE (dInF true) wa wb)):=(zO (pc_dnotin hu ha hb) hmk).imp fun σ H Q hq=>E5 (fun Q q=>tD_notinF q) hq
def dcv (μ:MS):D->Option (List Key×List D)
 | .lD ks ds=>some (ks,ds)
 | .mr j=>uW μ j
 | _=>none
def Ay {φ:List Addr}{H:Hp}{μ:MS}{d:D}{v:V}{q:List Key×List D}(M:eJ φ H μ)(i:iL φ H d v)(h:dcv μ d=some q):∃ p kvs,v=.ref p/\Rd H p (.dK kvs)/\kvs.map (·.1)=q.1/\d7 φ H q.2 (kvs.map (·.2)):=by
 cases d with
 | lD ks ds =>
  cases h
  obtain⟨p,o,kvs,rfl,rd,e1,ha⟩:=Ek i
  exact⟨p,kvs,rfl,.inr ⟨o,rd⟩,e1,ha⟩
 | mr j =>
  obtain⟨p,kvs,hp,rfl,rd,e1,ha⟩:=Aw M i (ks:=q.1) (ds:=q.2) h
  exact⟨p,kvs,rfl,rd,e1,ha⟩
 | _=>cases h
def fDictF:jg:=fun ds μ K=>match ds with
 | [x]=>opt (dcv μ x) fun q=>K (.mr μ.length) (μ++[.iD q.1 q.2])
 | _=>False
def vP:mJ DT fDictF:=fun φ H vs ds μ K Q M h k L=>by
 unfold fDictF at k
 split at k
 ·obtain⟨v,r,rfl,h1,h2⟩:=h;cases(show r=[]from h2)
  obtain⟨q,em,k⟩:=gD k
  obtain⟨p,kvs,rfl,rd,e1,ha⟩:=Ay M h1 em
  refine⟨kvs,rd,fun p' hp'=>?_⟩
  have f:Fr φ H (φ++[p']) (upd H p' (.dK kvs)):=⟨(Fr.snoc (φ:=φ) hp').ext,fun c u _ e=>gG.upd hp' _ _ e,fun c e=>(gG.upd hp').free e⟩
  obtain⟨M',f'⟩:=M.snoc (o:=.dK kvs) (m:=.iD q.1 q.2) hp' ⟨kvs,_,dW,e1,rfl,ha.mono f⟩
  exact L _ _ _ _ _ k f' M' ⟨p',by rw[qx (by rw[M.len];exact ah _),M.len,aT];rfl,rfl⟩
 ·exact k.elim
def rLenD:List V->Hp->VK->Prop:=fun vs H Q=>match vs with
 | [.ref a]=>∃ kvs,Rd H a (.dK kvs)/\Q (.int kvs.length) H
 | _=>False
def lenD:ia X (.builtin "len") rLenD:=by
 intro dg s σ H xs us Q I r h
 unfold rLenD at h
 split at h
 ·obtain⟨kvs,rd,q⟩:=h
  obtain⟨u,rfl,ru⟩:=r.one
  cases ru
  exact d_len I rd fun t s' I'=>⟨.int _,H,I',⟨t,rfl⟩,q⟩
 ·exact h.elim
def fLenD:jg:=fun ds μ K=>match ds with
 | [x]=>opt (dcv μ x) fun q=>K (.int q.1.length) μ
 | _=>False
def E8:mJ rLenD fLenD:=fun φ H vs ds μ K Q M h k L=>by
 unfold fLenD at k
 split at k
 ·obtain⟨v,r,rfl,h1,h2⟩:=h;cases(show r=[]from h2)
  obtain⟨q,em,k⟩:=gD k
  obtain⟨p,kvs,rfl,rd,e1,ha⟩:=Ay M h1 em
  have el:kvs.length=q.1.length:=by rw[<- e1,fF]
  exact⟨kvs,rd,by rw[el];exact L.val M k rfl⟩
 ·exact k.elim
def DQ:List V->Hp->VK->Prop:=fun vs H Q=>match vs with
 | [.ref a]=>∃ kvs,Rd H a (.dK kvs)/\∀ p,H p=none->Q (.ref p) (upd H p (.lst (kvs.map fun kv=>kV kv.1)))
 | _=>False
def _root_.L2.eX.wB:∀ {xs:List V} {us:List Value},xs.length=us.length->(∀(i:Nat) (x:V) (u:Value),xs[i]?=some x->us[i]?=some u->eP x u)->eX xs us
 | [],us,hl,_=>by cases us with
  | nil=>exact .nil
  | cons v r=>simp at hl
 | d::ds,us,hl,h=>by cases us with
  | nil=>simp at hl
  | cons v r=>exact .cons (h 0 d v rfl rfl) (eX.wB (by simpa using hl) fun i a b e1 e2=>h (i+1) a b (by simpa using e1) (by simpa using e2))
def items_rel {kvs:List (Key×V)}{vs:List (Key×Value)}{acc:Array Value}(kv:KV kvs vs)(h:ItemsOf (fun i v=>∃ k x,vs[i]?=some (k,x)/\(fh X.prog X.w).is k v=true) acc vs.length):eX (kvs.map fun kv=>kV kv.1) acc.toList:=by
 refine eX.wB (by rw[fF,kv.length,<- h.1];exact(bZ (xs:=acc)).symm) fun i x u e1 e2=>?_
 rw[uw]at e1
 cases q:kvs[i]? with
 | none=>rw[q]at e1;cases e1
 | some p =>
  rw[q]at e1;cases e1
  obtain⟨v,hv⟩:=Fu kv q
  obtain⟨k,x,e3,e4⟩:=h.2 i u (by rw[<- Array.getElem?_toList];exact e2)
  rw[hv]at e3;cases e3
  exact kV_of e4
def FA (calm:X.calm=true):ia X (.type "list") DQ:=by
 intro dg s σ H xs us Q I r h
 unfold DQ at h
 split at h
 ·rename_i a
  obtain⟨kvs,rd,q⟩:=h
  obtain⟨u,rfl,ru⟩:=r.one
  cases ru
  obtain⟨z,hd,vs,rel,dd⟩:=mv I.eE rd
  obtain⟨ep,da⟩:=dd.dictAt
  refine W.kdl_call (W.kdl_dict (knd:=fh X.prog X.w) (kvs:=vs) (ep:=ep) hd) (I.ok.hd calm) da (by rw[<- rel.length];exact z) fun h' tk acc' c' kp hl it=>?_
  have I2:Inv X dg σ (upd H s.heap.objs.size (.lst (kvs.map fun kv=>kV kv.1))) { s with heap:=h',toks:=tk}:=I.laid (a:=s.heap.objs.size) (o:=.lst _) (t':=tk) kp (ah _) ⟨by rw[fF];exact z,acc'.toList,c',items_rel (X:=X) rel it,hl⟩
  exact⟨.ref s.heap.objs.size,_,I2,rfl,q _ (I.eE.fresh (ah _))⟩
 ·exact h.elim
def fListD (m:Bool):jg:=fun ds μ K=>match ds with
 | [x]=>opt (dcv μ x) fun q=>nL m (q.1.map nR) μ K
 | _=>False
def BX {φ:List Addr}{H:Hp}:∀(kvs:List (Key×V)),d7 φ H ((kvs.map (·.1)).map nR) (kvs.map fun kv=>kV kv.1)
 | []=>rfl
 | p::kvs=>⟨_,_,rfl,Ah _,BX kvs⟩
def rj {m:Bool}:mJ DQ (fListD m):=fun φ H vs ds μ K Q M h k L=>by
 unfold fListD at k
 split at k
 ·obtain⟨v,r,rfl,h1,h2⟩:=h;cases(show r=[]from h2)
  obtain⟨q,em,k⟩:=gD k
  obtain⟨p,kvs,rfl,rd,e1,ha⟩:=Ay M h1 em
  refine⟨kvs,rd,fun p' hp'=>?_⟩
  rw[<- e1]at k
  exact Ez L M (BX kvs) k hp'
 ·exact k.elim
def dItF (w:De):DI:=fun ρ μ K=>w ρ μ fun d dX=>match d with
 | .lD ks ds=>K (ks.map nR) (fun _=>True) dX
 | _=>False
def Ai {tg:Expr}{w:De}(h:PD X a w):ED X tg a (dItF w):=(pi_dict h).imp fun σ H Q hq=>by
 obtain⟨φ,ρ,μ,K,A,M,k,L⟩:=hq
 refine⟨φ,ρ,μ,_,A,M,k,fun d dX eM v1 H1 k1 f1 M1 i1=>?_⟩
 cases d with
 | lD ks ds =>
  have i1':=i1
  obtain⟨p,o,kvs,vs,rfl,hn,h1,rfl,rfl,h3⟩:=i1
  refine⟨p,kvs,rfl,.inr ⟨o,h1,L _ _ _ eM _ _ k1 f1 M1 fun eR H' μ' f' M' c i=>?_⟩⟩
  have h1':=f'.keep _ _ hn h1
  refine⟨fun d hd=>⟨⟨?_,h1'⟩,fun x H'' hy=>?_⟩,fun hi=>⟨by rw[hi,fF,fF];exact ah _,h1'⟩⟩
  ·have:=(lK hd).1
   rw[fF,fF]at this
   exact this
  ·obtain⟨rfl,q,hq,rfl⟩:=hy
   rw[uw,uw,hq]at hd
   cases hd
   exact⟨.refl _ _,M',Ah _⟩
 | _=>exact k1.elim
def Itvf (a:Addr)(o:Obj)(kvs:List (Key×V)):It:=⟨fun i H=>i<kvs.length/\H a=some (.ly o (.dK kvs)),fun i H x H'=>H'=H/\∃ p,kvs[i]?=some p/\x=p.2,fun i H=>kvs.length<=i/\H a=some (.ly o (.dK kvs))⟩
def wt {κ:Type}{kvs:List (κ×V)}{vs:List (κ×Value)}(h:KV kvs vs):∀ {i:Nat} {p:κ×V},kvs[i]?=some p->∃ v,vs[i]?=some (p.1,v)/\eP p.2 v:=by
 unfold KV at h
 induction h with
 | nil=>intro i p e;simp at e
 | @cons a b as bs r _ ih =>
  intro i p e
  cases i with
  | zero =>
   simp at e
   subst e
   refine⟨b.2,?_,r.2⟩
   rw[r.1];rfl
  | succ i=>exact ih (by simpa using e)
def yW {P:ae}{w:af}{K:aa}{tg:Expr}(a it:Addr){o:Obj}{kvs:List (Key×V)}{vs:List (Key×Value)}{ep:Nat}(kv:KV kvs vs)(hd:∀ h:Heap,h.get? a=some o->h.DictAt (fh P w) a vs ep) :
 Turn P w K tg (Itvf a o kvs) [it] it (fun i h=>h.IsValIter it a i vs.length ep) where
 mem:=by simp
 obj:=fun i h st b hb=>by
  have e:b=it:=by simpa using hb
  subst e
  obtain⟨o,e,c,d⟩:=st
  exact⟨o,e,fun v z=>by rw[d]at z;cases z⟩
 keep:=fun i h h' st k=>by
  obtain⟨o,e,c⟩:=st
  exact⟨o,k it (by simp) o e,c⟩
 item:=by
  intro X hP hw hK hc i dg s σ H E I hf st hg
  subst hP hw hK
  obtain⟨hi,hq⟩:=hg
  obtain⟨p,hp⟩:∃ p,kvs[i]?=some p:=⟨_,ux hi⟩
  obtain⟨v,hv,rv⟩:=wt kv hp
  have ho:s.heap.get? a=some o:=(show fJ X.prog X.w H s.heap a (.ly o (.dK kvs))from I.eE a _ hq).1
  obtain⟨f0,f1,f2,f3,f4,f5⟩:=hf it (by simp)
  refine wpAny_pyNext_values_item st (hd _ ho) hv fun h' Bl sb=>?_
  have I1:Inv X dg σ H { s with heap:=h'}:=I.turned (t':=s.toks) (fun b o hb e=>(sb.2 b hb).trans e) f0 f1 f3 f4 f5
  obtain⟨oi,e,c,d⟩:=id Bl
  exact⟨v,rfl,yE (s:={ s with heap:=h'}) e c d (by decide) ⟨p.2,H,I1,rv,⟨rfl,p,hp,rfl⟩,Bl,fun b hb=>(hf b hb).1⟩⟩
 done:=by
  intro X hP hw hK hc i dg s σ H E I hf st hg
  subst hP hw hK
  obtain⟨hi,hq⟩:=hg
  have ho:s.heap.get? a=some o:=(show fJ X.prog X.w H s.heap a (.ly o (.dK kvs))from I.eE a _ hq).1
  obtain⟨f0,f1,f2,f3,f4,f5⟩:=hf it (by simp)
  have hl:=KV.length kv
  exact wpAny_pyNext_values_end (I.ok.hd hc) st (hd _ ho) (List.getElem?_eq_none_iff.mpr (by omega)) fun h' eb=>⟨rfl,I.turned (t':=s.toks) (fun b o hb e=>eb b o hb e) f0 f1 f3 f4 f5⟩
 self:=fun _ _ _ _ _ st h=>wpAny_pyIter_valiter st h
end
section
variable {X:Cx}{a b e o:Expr}{es:List Expr}{pos apos gy:Pos}{tg:Expr}
def FU {dg:List (Addr×Obj)}{σ:St}{H:Hp}{s:Shared}{p:Addr}{kvs:List (Key×V)}(I:Inv X dg σ H s)(rd:Rd H p (.dK kvs)):s.TypeIs (.ref p) "dict"/\∀ a,Value.ref p=.ref a->∃ ob,s.heap.get? a=some ob/\ob.dict=none:=by
 obtain⟨_,_,_,_,ob,_,_,e,ex,_⟩:=mv I.eE rd
 exact⟨⟨ob,e,ex.1⟩,fun a e2=>by cases e2;exact⟨ob,e,ex.2.1⟩⟩
def yq {t:TE}{dg:List (Addr×Obj)}{σ:St}{H:Hp}{s:Shared}{Q:Value->Shared->Prop}(ho:PE X o t)(I:Inv X dg σ H s)
 (h:t σ H fun x H1=>∃ d kvs,x=.ref d/\Rd H1 d (.dK kvs)/\∀ s1,Inv X dg σ H1 s1->∀ v,v<s1.heap.objs.size->(∀ b,H1 b≠none->b≠v)->H1 v=none->s1.heap.IsValuesView v d->Q (.ref v) s1)
 (mV:attributeBase o "values" X.env (eval o X.env)=eval o X.env:=by rfl) (mU:(apos.endLine==gy.line)=true:=by rfl):wpAny (model X.prog X.w) X.A (eval (.Call (.Attribute o "values" apos) [] [] gy) X.env) Q X.xe s:=by
 refine wpAny_Call_method0_late mV mU (fK (ho dg s σ H _ I h) fun v s1 hq=>?_)
 obtain⟨x,H1,I1,r1,d,kvs,ex,rd,q⟩:=hq
 subst ex
 cases r1
 obtain⟨z,hd,vs,rel,dd⟩:=mv I1.eE rd
 obtain⟨h1,h2⟩:=FU I1 rd
 refine⟨"dict", "dict.values",F.plainAttrs_dict,F.slot_dict_values,F.type_dict_values,h1,h2,cA rfl (PySem.evalArgs_none ?_)⟩
 refine call_meetsIn F.slot_dict_values h1 F.entry_dict_values (F.args_dict_values_1 _) (meets_dict_values (fh X.prog X.w) d hd) ⟨⟨vs,dd⟩,?_⟩
 exact q _ (I1.dj (t':=s1.toks) fun b o e=>jt _ e) s1.heap.objs.size (by show _<(s1.heap.objs.push _).size;rw[Array.size_push];exact bR _) (fun b hb e=>hb (by rw[e];exact I1.eE.fresh (ah _))) (I1.eE.fresh (ah _)) ⟨_,aB _ rfl,rfl,rfl⟩
def dItVF (w:De):DI:=fun ρ μ K=>w ρ μ fun d dX=>match d with
 | .lD ks ds=>ks.length=ds.length->K ds (fun _=>True) dX
 | _=>False
def tK {w:De}(h:PD X o w)(mV:attributeBase o "values" X.env (eval o X.env)=eval o X.env:=by rfl)(mU:(apos.endLine==gy.line)=true:=by rfl):ED X tg (.Call (.Attribute o "values" apos) [] [] gy) (dItVF w):=by
 intro dg s σ H R I hq
 obtain⟨φ,ρ,μ,K,A,M,k,L⟩:=hq
 refine yq h I ⟨φ,ρ,μ,_,A,M,k,fun d dX eM v1 H1 k1 f1 M1 i1=>?_⟩ mV mU
 cases d with
 | lD ks ds =>
  obtain⟨p,oo,kvs,vs,rfl,hn,h1,rfl,rfl,h3⟩:=i1
  refine⟨p,kvs,rfl,.inr ⟨oo,h1⟩,fun s1 I1 v hv hne hvn view=>?_⟩
  obtain⟨o',vs',ep,kv,hd,da,hs,I2⟩:=freeze I1 (.inr ⟨oo,h1⟩)
  have ho:s1.heap.get? p=some oo:=(show fJ X.prog X.w H1 s1.heap p (.ly oo (.dK kvs))from I1.eE p _ h1).1
  have wM:s1.heap.get? p=some o':=(show fJ X.prog X.w _ s1.heap p (.ly o' (.dK kvs))from I2.eE p _ dW).1
  rw[ho]at wM
  cases wM
  refine wpAny_pyIter_values view da ?_
  have hl:ds.length=kvs.length:=by have:=h3.len;rw[fF]at this;exact this.symm
  refine⟨s1.heap.objs.size,[s1.heap.objs.size],_,_,H1,rfl,I1.dj (t':=s1.toks) fun b o e=>jt _ e,yW p _ kv hd,⟨_,aB _ rfl,rfl,rfl⟩,fun b hb=>?_,?_⟩
  ·have e:b=s1.heap.objs.size:=by simpa using hb
   subst e
   exact I1.Cb (ah _) (I1.eE.fresh (ah _))
  ·refine L _ _ _ eM _ _ (k1 (by rw[fF,hl])) f1 M1 fun eR H' μ' f' M' c i=>?_
   have h1':=f'.keep _ _ hn h1
   refine⟨fun d hd=>⟨⟨?_,h1'⟩,fun x H'' hy=>?_⟩,fun hi=>⟨by omega,h1'⟩⟩
   ·have:=(lK hd).1
    omega
   ·obtain⟨rfl,q,hq,rfl⟩:=hy
    obtain⟨v',e1,e2⟩:=(h3.mono f').get hd
    rw[uw,hq]at e1
    cases e1
    exact⟨.refl _ _,M',e2⟩
 | _=>exact k1.elim
def dListV (m:Bool)(w:De):De:=fun ρ μ K=>w ρ μ fun d dX=>opt (dcv dX d) fun q=>nL m q.2 dX K
def vals_rel {kvs:List (Key×V)}{vs:List (Key×Value)}{acc:Array Value}(kv:KV kvs vs)(h:ItemsOf (fun i v=>∃ k,vs[i]?=some (k,v)) acc vs.length):eX (kvs.map (·.2)) acc.toList:=by
 refine eX.wB (by rw[fF,kv.length,<- h.1];exact(bZ (xs:=acc)).symm) fun i x u e1 e2=>?_
 rw[uw]at e1
 cases q:kvs[i]? with
 | none=>rw[q]at e1;cases e1
 | some p =>
  rw[q]at e1;cases e1
  obtain⟨v,hv,rv⟩:=wt kv q
  obtain⟨k,e3⟩:=h.2 i u (by rw[<- Array.getElem?_toList];exact e2)
  rw[hv]at e3;cases e3
  exact rv
def Er (m:Bool){w:De}{p:Pos}(calm:X.calm=true)(hg:Gl X "list")(hm:X.mg "list"=none)(h:PD X o w)(mV:attributeBase o "values" X.env (eval o X.env)=eval o X.env:=by rfl)(mU:(apos.endLine==gy.line)=true:=by rfl)
 (hs3:starEach [.Call (.Attribute o "values" apos) [] [] gy] X.env=[(false,eval (.Call (.Attribute o "values" apos) [] [] gy) X.env)]:=by rfl) :
 PD X (.Call (.Name "list" p) [.Call (.Attribute o "values" apos) [] [] gy] [] pos) (dListV m w):=by
 intro dg s σ H Q I hq
 refine bQ (pA I hg hm boot_list ?_)
 obtain⟨φ,ρ,μ,K,A,M,k,L⟩:=hq
 refine bz ?_ hs3 rfl
 rw[hs3]
 show wpAny _ _ (spliced ((false,eval (.Call (.Attribute o "values" apos) [] [] gy) X.env)::backTo pos [])) _ _ s
 refine Calls.spliced_cons ?_
 refine yq h I ⟨φ,ρ,μ,_,A,M,k,fun d dX eM v1 H1 k1 f1 M1 i1=>?_⟩ mV mU
 obtain⟨q,em,k1⟩:=gD k1
 obtain⟨p',kvs,rfl,rd,e1,ha⟩:=Ay M1 i1 em
 refine⟨p',kvs,rfl,rd,fun s1 I1 v hv hne hvn view=>Calls.spliced_nil ?_⟩
 obtain⟨z,hd,vs,rel,dd⟩:=mv I1.eE rd
 obtain⟨ep,da⟩:=dd.dictAt
 refine W.kdl_call (W.kdl_values (knd:=fh X.prog X.w) (kvs:=vs) (ep:=ep)) (I1.ok.hd calm) ⟨view,da⟩ (by rw[<- rel.length];exact z) fun h' tk acc' c' kp hl it=>?_
 have I2:Inv X dg σ (upd H1 s1.heap.objs.size (.lst (kvs.map (·.2)))) { s1 with heap:=h',toks:=tk}:=I1.laid (a:=s1.heap.objs.size) (o:=.lst _) (t':=tk) kp (ah _) ⟨by rw[fF];exact z,acc'.toList,c',vals_rel rel it,hl⟩
 exact⟨.ref s1.heap.objs.size,_,I2,rfl,Ez (L.mono f1) M1 ha k1 (I1.eE.fresh (ah _))⟩
end
def uV:entryFor table "dict_itemiterator.__iter__"=some Builtin.«dict_keyiterator.__iter__»:=entryFor_alias (id (Eq.refl (fastTable "dict_itemiterator.__iter__"))) rfl (by decide +kernel) (id (Eq.refl (fastTable "dict_keyiterator.__iter__")))
def BA {prog:ae}{w:af}{A:Around}{E:Value->Shared->Prop}{s:Shared}{it d:Addr}{i n ep:Nat}{ok ov:Value}{Q:Value->Shared->Prop}(st:IsItemIter s.heap it d i n ep ok ov)(h:Q (.ref it) s):wpAny (model prog w) A (pyIter (.ref it)) Q E s:=by
 have hT:s.TypeIs (.ref it) "dict_itemiterator":=⟨_,st,rfl⟩
 refine wpAny_pyIter_slot hT F.slot_dict_itemiterator_iter ?_
 refine bP F.slot_dict_itemiterator_iter hT uV ?_ (F.args_dict_itemiterator_iter_1 _)
 unfold Builtin.«dict_keyiterator.__iter__»
 have hn:typeLookup (.type "dict_itemiterator") "__next__"=pure (some (.builtin "dict_itemiterator.__next__")):=F.slot_dict_itemiterator_next.lookup
 exact ar ⟨.ref it,rfl,_,_,hT,hn,h⟩
def Iti (a:Addr)(o:Obj)(kvs:List (Key×V)):It:=⟨fun i H=>i<kvs.length/\H a=some (.ly o (.dK kvs)),fun i H x H'=>∃ T p,x=.ref T/\H T=none/\kvs[i]?=some p/\H'=upd H T (.tup [kV p.1,p.2]),fun i H=>kvs.length<=i/\H a=some (.ly o (.dK kvs))⟩
def DC {P:ae}{w:af}{K:aa}{elts:List Expr}{kk:Nat}{q9:Pos}(a it:Addr){o:Obj}{kvs:List (Key×V)}{vs:List (Key×Value)}{ep:Nat}(kv:KV kvs vs)(hd:∀ h:Heap,h.get? a=some o->h.DictAt (fh P w) a vs ep) :
 Turn P w K (.Tuple elts kk q9) (Iti a o kvs) [it] it (fun i h=>∃ ok ov,IsItemIter h it a i vs.length ep ok ov) where
 mem:=by simp
 obj:=fun i h st b hb=>by
  have e:b=it:=by simpa using hb
  subst e
  obtain⟨ok,ov,e⟩:=st
  exact⟨_,e,fun v z=>by cases z⟩
 keep:=fun i h h' st k=>by
  obtain⟨ok,ov,e⟩:=st
  exact⟨ok,ov,k it (by simp) _ e⟩
 item:=by
  intro X hP hw hK hc i dg s σ H E I hf st hg
  subst hP hw hK
  obtain⟨ok,ov,st⟩:=st
  obtain⟨hi,hq⟩:=hg
  obtain⟨p,hp⟩:∃ p,kvs[i]?=some p:=⟨_,ux hi⟩
  obtain⟨v,hv,rv⟩:=wt kv hp
  have ho:s.heap.get? a=some o:=(show fJ X.prog X.w H s.heap a (.ly o (.dK kvs))from I.eE a _ hq).1
  refine wpAny_pyNext_items_item st (hd _ ho) hv fun key h1 hkey out hT hsz kp1=>?_
  refine⟨_,rfl,wpAny_letOwnedTupleGo_items (s:={ s with heap:=h1}) out fun h2 E7 B9=>?_⟩
  have lte:it<s.heap.objs.size:=jK st
  have ne1:s.heap.objs.size≠it:=bo lte
  have hT2:IsPair h2 s.heap.objs.size key v:=(B9.2 _ ne1).trans hT
  have kp:∀ b o,b∉[it]->s.heap.get? b=some o->h2.get? b=some o:=fun b o hb q=>by
   have b1:b≠it:=fun z=>hb (by simp[z])
   exact(B9.2 b b1).trans (kp1 b o b1 q)
  have hn:H s.heap.objs.size=none:=I.eE.fresh (ah _)
  have I1:=I.turnT (ch:=[it]) (h'':=h2) (x:=kV p.1) (y:=p.2) hf kp hT2 (kV_of hkey) rv
  refine⟨.ref s.heap.objs.size,_,I1,rfl,⟨_,p,rfl,hn,hp,rfl⟩,⟨_,_,E7⟩,fun b hb=>?_⟩
  rw[d9]
  ·exact(hf b hb).1
  ·have e:b=it:=by simpa using hb
   rw[e];exact aF lte
 done:=by
  intro X hP hw hK hc i dg s σ H E I hf st hg
  subst hP hw hK
  obtain⟨ok,ov,st⟩:=st
  obtain⟨hi,hq⟩:=hg
  have ho:s.heap.get? a=some o:=(show fJ X.prog X.w H s.heap a (.ly o (.dK kvs))from I.eE a _ hq).1
  obtain⟨f0,f1,f2,f3,f4,f5⟩:=hf it (by simp)
  have hl:=KV.length kv
  exact wpAny_pyNext_items_end (I.ok.hd hc) st (hd _ ho) (List.getElem?_eq_none_iff.mpr (by omega)) fun h' eb=>⟨rfl,I.turned (t':=s.toks) (fun b o hb e=>eb b o hb e) f0 f1 f3 f4 f5⟩
 self:=fun _ _ _ _ _ st h=>let ⟨_,_,e⟩:=st;BA e h
section
variable {X:Cx}{a b e o:Expr}{es:List Expr}{pos apos gy:Pos}{tg:Expr}
def pe_items {t:TE}{dg:List (Addr×Obj)}{σ:St}{H:Hp}{s:Shared}{Q:Value->Shared->Prop}(ho:PE X o t)(I:Inv X dg σ H s)
 (h:t σ H fun x H1=>∃ d kvs,x=.ref d/\Rd H1 d (.dK kvs)/\∀ s1,Inv X dg σ H1 s1->∀ v,s1.heap.IsItemsView v d->Q (.ref v) s1)
 (mV:attributeBase o "items" X.env (eval o X.env)=eval o X.env:=by rfl) (mU:(apos.endLine==gy.line)=true:=by rfl):wpAny (model X.prog X.w) X.A (eval (.Call (.Attribute o "items" apos) [] [] gy) X.env) Q X.xe s:=by
 refine wpAny_Call_method0_late mV mU (fK (ho dg s σ H _ I h) fun v s1 hq=>?_)
 obtain⟨x,H1,I1,r1,d,kvs,ex,rd,q⟩:=hq
 subst ex
 cases r1
 obtain⟨z,hd,vs,rel,dd⟩:=mv I1.eE rd
 obtain⟨h1,h2⟩:=FU I1 rd
 refine⟨"dict", "dict.items",F.plainAttrs_dict,F.slot_dict_items,F.type_dict_items,h1,h2,cA rfl (PySem.evalArgs_none ?_)⟩
 refine call_meetsIn F.slot_dict_items h1 F.entry_dict_items (F.args_dict_items_1 _) (meets_dict_items (fh X.prog X.w) d hd) ⟨⟨vs,dd⟩,?_⟩
 exact q _ (I1.dj (t':=s1.toks) fun b o e=>jt _ e) s1.heap.objs.size ⟨_,aB _ rfl,rfl,rfl⟩
def dItI (w:De):DI:=fun ρ μ K=>w ρ μ fun d dX=>match d with
 | .lD ks ds=>ks.length=ds.length->K (List.zipWith (fun k d=>D.tup [nR k,d]) ks ds) (fun _=>True) dX
 | _=>False
def B7 {elts:List Expr}{kk:Nat}{q9:Pos}{w:De}(h:PD X o w)(mV:attributeBase o "items" X.env (eval o X.env)=eval o X.env:=by rfl)(mU:(apos.endLine==gy.line)=true:=by rfl):ED X (.Tuple elts kk q9) (.Call (.Attribute o "items" apos) [] [] gy) (dItI w):=by
 intro dg s σ H R I hq
 obtain⟨φ,ρ,μ,K,A,M,k,L⟩:=hq
 refine pe_items h I ⟨φ,ρ,μ,_,A,M,k,fun d dX eM v1 H1 k1 f1 M1 i1=>?_⟩ mV mU
 cases d with
 | lD ks ds =>
  obtain⟨p,oo,kvs,vs,rfl,hn,h1,rfl,rfl,h3⟩:=i1
  refine⟨p,kvs,rfl,.inr ⟨oo,h1⟩,fun s1 I1 v view=>?_⟩
  obtain⟨o',vs',ep,kv,hd,da,hs,I2⟩:=freeze I1 (.inr ⟨oo,h1⟩)
  have ho:s1.heap.get? p=some oo:=(show fJ X.prog X.w H1 s1.heap p (.ly oo (.dK kvs))from I1.eE p _ h1).1
  have wM:s1.heap.get? p=some o':=(show fJ X.prog X.w _ s1.heap p (.ly o' (.dK kvs))from I2.eE p _ dW).1
  rw[ho]at wM
  cases wM
  refine wpAny_pyIter_items view da ?_
  have hl:ds.length=kvs.length:=by have:=h3.len;rw[fF]at this;exact this.symm
  refine⟨s1.heap.objs.size,[s1.heap.objs.size],_,_,H1,rfl,I1.dj (t':=s1.toks) fun b o e=>jt _ e,DC p _ kv hd,⟨_,_,aB _ rfl⟩,fun b hb=>?_,?_⟩
  ·have e:b=s1.heap.objs.size:=by simpa using hb
   subst e
   exact I1.Cb (ah _) (I1.eE.fresh (ah _))
  ·refine L _ _ _ eM _ _ (k1 (by rw[fF,hl])) f1 M1 fun eR H' μ' f' M' c i=>?_
   have h1':=f'.keep _ _ hn h1
   have lz:(List.zipWith (fun k d=>D.tup [nR k,d]) (kvs.map (·.1)) ds).length=kvs.length:=by rw[List.length_zipWith,fF,hl,Nat.min_self]
   refine⟨fun d hd=>⟨⟨?_,h1'⟩,fun x H'' hy=>?_⟩,fun hi=>⟨by omega,h1'⟩⟩
   ·have:=(lK hd).1
    omega
   ·obtain⟨T,q,rfl,hT,hq,rfl⟩:=hy
    rw[List.getElem?_zipWith,uw,hq]at hd
    cases e1:ds[i]? with
    | none=>rw[e1]at hd;cases hd
    | some dd =>
     rw[e1]at hd
     cases hd
     obtain⟨v',e2,e3⟩:=(h3.mono f').get e1
     rw[uw,hq]at e2
     cases e2
     have fn:=Fr.new (φ:=eR) (o:=.tup [kV q.1,q.2]) hT
     exact⟨fn,M'.same (gG.upd hT),T,_,rfl,M'.fresh hT,dW,_,_,rfl,Ah _,_,_,rfl,e3.mono fn,rfl⟩
 | _=>exact k1.elim
end
section
variable {prog:ae}{w:af}{A:Around}{E:Value->Shared->Prop}{s:Shared}
def CN {a c n:Nat}(hac:a<=c)(hc:c=n):sliceBounds (some (a:Int)) none none n=((a:Int),(c:Int),1):=by
 simp only[sliceBounds,Option.getD_none]
 have h1:¬ ((a:Int)<0):=by omega
 simp only[h1,if_false,show(1:Int)>0 by decide,if_true]
 congr 1
 ·omega
 ·congr 1;omega
set_option maxRecDepth 100000 in
def vT {l b sl:Addr}{items new:Array Value}{n n2:Nat}{vl vu:Value}{a c:Nat}{Q:Unit->Shared->Prop}
 (e:s.heap.get? l=some { cls:=.type "list",data:=.seq items n}) (e2:s.heap.get? b=some { cls:=.type "list",data:=.seq new n2}) (hne:l≠b)
 (hs:s.heap.IsSliceOf sl vl vu .none) (pl:IsPart vl (some (a:Int))) (pu:IsPart vu none) (hcc:c=items.size) (hac:a<=c) (hc:c<=items.size)
 (hsz:items.size+new.size<=sizeLine) (h:Q () { s with heap:=s.heap.update l (Obj.mapSeq fun xs=>xs.extract 0 a++new++xs.extract c xs.size)}) :
 wpAny (model prog w) A (setItem (.ref l) (.ref sl) (.ref b)) Q E s:=by
 have hl:s.heap.IsList l items:=PySem.IsL.isList e
 have hb:s.heap.IsList b new:=PySem.IsL.isList e2
 obtain⟨os,hos,hcs,hds⟩:=id hs
 have hTs:s.TypeIs (.ref sl) "slice":=⟨os,hos,hcs⟩
 have hstep:¬ ((rawPart none==rawInt 0)=true):=aE
 have hsame:Builtin.List.listSameRef (.ref l) (.ref b)=false:=by
  unfold Builtin.List.listSameRef
  exact beq_eq_false_iff_ne.mpr hne
 have hmax:(max (a:Int) (c:Int)).toNat=c:=by omega
 have hz':((fun xs:Array Value=>xs.extract 0 a++new++xs.extract c xs.size) items).size<=sizeLine+1:=by
  simp only[Array.size_append,Array.size_extract]
  omega
 unfold setItem
 try with_reducible refine bI ?_
 first | refine eI (ar ?_) | skip
 refine eI (wpAny_sequenceKey hl.typeIs (by decide) ?_)
 refine eI (bC (name:=Str.ofString "__setitem__") hl.typeIs slot_list_setitem
  (bP slot_list_setitem hl.typeIs entry_list_setitem ?_ (args_list_setitem _ _ _)))
 show wpAny _ _ (Builtin.List.listSubscript? (.ref sl) >>= _) _ _ s
 refine eI ?_
 unfold Builtin.List.listSubscript?
 refine eI (wpAny_specialOf hTs slice_no_index ?_)
 simp only[Option.isNone_none,if_true]
 refine ar ?_
 show wpAny _ _ (typeOf (.ref sl) >>= _) _ _ s
 refine eI (wpAny_typeOf hTs ?_)
 first
  | rw[ai (by decide)]
  | refine W.KFB.if_not (by decide) ?_
 rw[listSliceParts_eq]
 refine eI (eI (aW hos hds (x:=.none) rfl (eI (wpAny_listPart .none ?_))))
 rw[ai hstep]
 refine eI (aW hos hds (x:=vl) rfl (eI (wpAny_listPart pl ?_)))
 refine eI (aW hos hds (x:=vu) rfl (eI (wpAny_listPart pu (ar ?_))))
 first
  | simp only[hsame,c9,if_false]
  | refine W.KFB.if_not hsame ?_
  | (dsimp only
     rw[ai (by rw[hsame];exact aE)])
 refine eI (m:=Builtin.List.listAllItems (.ref b) "must assign iterable to extended slice") ?_
 unfold Builtin.List.listAllItems
 refine eI (wpAny_typeOf hb.typeIs ?_)
 first
  | refine W.KFB.if_so (by decide) ?_
  | rw[aj (by decide)]
  | simp only[cq,Bool.true_or,if_true]
 unfold Builtin.List.listItems
 refine eI (bT e2 rfl (ar ?_))
 refine eI (eI (bT e rfl (ar ?_)))
 refine eI (wpAny_of_eq ((sliceIndices_raw (some (a:Int)) none none items.size (by simp)).trans (bL (pure:Int×Int×Int->Sem (Int×Int×Int)) (CN (c:=c) hac hcc))) ?_)
 show wpAny _ _ (if((1:Int)==1)=true then _ else _) _ _ s
 rw[aj (by decide)]
 refine eI (wpAny_rule ?_)
 first
  | simp only[wC hsz,c9,if_false]
  | refine W.KFB.if_not (wC hsz) ?_
 first | refine eI (ar ?_) | skip
 show wpAny _ _ (updateSeq l (fun xs=>xs.extract 0 ((a:Int)).toNat++new++xs.extract (max (a:Int) (c:Int)).toNat xs.size) >>= _) _ _ s
 rw[hmax,gxK]
 refine eI (wpAny_updateSeq (hz:=az (a9 _ _) hsz) (_hz':=hz') e rfl ?_)
 refine eI (wpAny_letGo ?_)
 first
  | exact eI (ar (ar ⟨.none,rfl,ar h⟩))
  | exact ar ⟨.none,rfl,ar h⟩
end
def tQ (it:D->MS->(Option (Key×D)->MS->Prop)->Prop)(c:MS->Prop)(μ:MS):List D->List (Key×D)->(List (Key×D)->Prop)->Prop
 | [],kvs,K=>c (μ++[.iD (kvs.map (·.1)) (kvs.map (·.2))])/\K kvs
 | d::ds,kvs,K=>c (μ++[.iD (kvs.map (·.1)) (kvs.map (·.2))])/\it d (μ++[.iD (kvs.map (·.1)) (kvs.map (·.2))]) fun o μ'=>μ'=μ++[.iD (kvs.map (·.1)) (kvs.map (·.2))]/\(match o with
  | some (k,y)=>tQ it c μ ds (dput kvs k y) K
  | none=>tQ it c μ ds kvs K)
def dCompM (wi:DI)(js:List (Option Nat))(y:DG)(t:Dt)(wk wv:De):De:=fun ρ μ K=>wi ρ μ fun ds c dX=>ds.length<=sizeLine/\tQ (dItemD (nr js ρ) y t wk wv) c dX ds [] fun kvs=>K (.mr dX.length) (dX++[.iD (kvs.map (·.1)) (kvs.map (·.2))])
def tD_compM {wi:DI}{js:List (Option Nat)}{g:TG}{y:DG}{S:List Nat}{t:Dt}{wk wv:De}(so:SoG g y S)(mo:ng g)(ho:pf S js=true){σ:St}{H:Hp}{Q:VK}(h:tD (dCompM wi js y t wk wv) σ H Q):tCompD (tDI wi) js g (xM t) (tD wk) (tD wv) σ H Q:=by
 obtain⟨φ,ρ,μ,K,A,M,k,L⟩:=h
 refine⟨φ,ρ,μ,_,A,M,k,fun ds c dX eM J H1 k1 f1 M1 wk' D hD=>?_⟩
 obtain⟨hz,k1⟩:=k1
 have hDf:D∉eM:=M1.fresh hD
 have fD:Fr eM H1 (eM++[D]) (upd H1 D (.dK [])):=⟨(Fr.snoc (φ:=eM) hD).ext,fun c u _ e=>gG.upd hD _ _ e,fun c e=>(gG.upd hD).free e⟩
 obtain⟨MD,_⟩:=M1.snoc (m:=.iD [] []) (o:=.dK []) hD ⟨[],[],dW,rfl,rfl,rfl⟩
 have hp:(eM++[D])[dX.length]?=some D:=by rw[qx (by rw[M1.len];exact ah _),M1.len,aT];rfl
 refine⟨fun i n kv H'=>n=ds.length - i/\i<=ds.length/\∃ kvs:List (Key×L2.D),kvs.length<=i/\Fr eM H1 (eM++[D]) H'/\eJ (eM++[D]) H' (dX++[.iD (kvs.map (·.1)) (kvs.map (·.2))])/\tQ (dItemD (nr js ρ) y t wk wv) c dX (ds.drop i) kvs fun kvs=>K (.mr dX.length) (dX++[MO.iD (kvs.map (·.1)) (kvs.map (·.2))]),
  ⟨ds.length,rfl,aY _,[],aY _,fD,MD,k1⟩,?_⟩
 rintro i n kv H' ⟨rfl,hi,kvs,hkl,f',M',w'⟩
 by_cases sU:i<ds.length
 ·rw[cN sU]at w'
  obtain⟨c',w'⟩:=w'
  obtain⟨go,yld⟩:=(wk' _ H' _ f' M' c' i).1 ds[i] (ux sU)
  refine .inr ⟨go,fun x H2 hy2=>?_⟩
  obtain⟨f2,M2,i2⟩:=yld x H2 hy2
  have E2:i8 (eM++[D]) H2 (nr js ρ) (fL js σ):=((A.mono (f1.trans (f'.trans f2))).fL js)
  refine mo _ _ _ _ _ (fun ES H3 rY=>?_) (so _ H2 _ _ _ _ x _ E2 M2 i2 w')
  obtain⟨e3,l3,n3,ρ3,E3,k3⟩:=rY
  refine⟨ext_of ho l3 n3,?_⟩
  subst e3
  refine⟨_,ρ3,_,_,E3,M2,k3,fun b ET φ4 H4 k4 f4 M4=>?_⟩
  cases b with
  | true =>
   refine⟨φ4,ρ3,ET,_,E3.mono f4,M4,k4,fun d5 μ5 φ5 v5 H5 k5 f5 M5 i5=>?_⟩
   obtain⟨kk,ekk,k5⟩:=gD k5
   refine⟨φ5,ρ3,μ5,_,E3.mono (f4.trans f5),M5,k5,fun d6 μ6 φ6 v6 H6 k6 f6 M6 i6=>?_⟩
   obtain⟨e6,w6⟩:=k6
   subst e6
   have ff:=f2.trans (f4.trans (f5.trans f6))
   have ef:φ6=eM++[D]:=ff.noext (by rw[M6.len,M'.len])
   subst ef
   obtain⟨p,e1,kv',vs,e2,e3',e4,e5⟩:=M6.at_ dX.length _ (by rw[qx (ah _),aT];rfl)
   rw[hp]at e1
   cases e1
   subst e4
   have hl':kv'.length=kvs.length:=by have:=bL List.length e3';rwa [fF,fF]at this
   have f7:Fr (eM++[D]) H6 (eM++[D]) (upd H6 D (.dK (putK kv' kk v6))):=.put (aH _ (List.mem_singleton.mpr rfl))
   obtain⟨g1,g2⟩:=Ct (k:=kk) (i6.mono f7) e3' (e5.mono f7)
   refine⟨kk,kv',nS ekk i5,e2,by omega,ds.length - (i+1),by omega,rfl,sU,dput kvs kk d6,by have:=dput_len kvs kk d6;omega,(f'.trans ff).trans f7,?_,w6⟩
   have q:=M6.put (k:=dX.length) (p:=D) (o:=.dK (putK kv' kk v6)) (m:=.iD ((dput kvs kk d6).map (·.1)) ((dput kvs kk d6).map (·.2))) hp ⟨putK kv' kk v6,_,dW,g1,rfl,g2⟩
   have e:(dX++[MO.iD (kvs.map (·.1)) (kvs.map (·.2))]).set dX.length (.iD ((dput kvs kk d6).map (·.1)) ((dput kvs kk d6).map (·.2)))=dX++[.iD ((dput kvs kk d6).map (·.1)) ((dput kvs kk d6).map (·.2))]:=gb
   rw[e]at q
   exact q
  | false =>
   obtain⟨e4,w4⟩:=k4
   subst e4
   have ff:=f2.trans f4
   have ef:φ4=eM++[D]:=ff.noext (by rw[M4.len,M'.len])
   subst ef
   exact⟨ds.length - (i+1),by omega,rfl,sU,kvs,by omega,f'.trans ff,M4,w4⟩
 ·have e:i=ds.length:=by omega
  subst e
  rw[List.drop_length]at w'
  exact .inl ⟨(wk' _ H' _ f' M' w'.1 _).2 rfl,L _ _ _ _ H' w'.2 (f1.trans f') M' ⟨D,hp,rfl⟩⟩
section
variable {X:Cx}{N:List Str}{sc:Scope}{js:List (Option Nat)}{tg iter kx vx:Expr}{ifs:List Expr}{g:TG}{y:DG}{S:List Nat}{t:Dt}{wk wv:De}
def d_compM {wi:DI}{pos:Pos}(hc:ip X N js sc)(calm:X.calm=true)(so:SoG g y S)(mo:ng g)(ho:pf S js=true)(hi:ED X tg iter wi)(hg:∀ fp s H,PG (xH X N sc fp s H) tg g)
 (ht:∀ fp s H,yf (xH X N sc fp s H) ifs t) (hk:∀ fp s H,PD (xH X N sc fp s H) kx wk) (hv:∀ fp s H,PD (xH X N sc fp s H) vx wv)
 (hs:∀ x,foldedSetIterable iter X.env x=pure x:=by intro _;rfl):PD X (.DictComp kx vx [⟨tg,iter,ifs,0⟩] sc pos) (dCompM wi js y t wk wv):=(pe_compD hc calm hi hg ht hk hv hs).imp fun σ H Q h=>tD_compM so mo ho h
end
section
variable {X:Cx}{a b e o:Expr}{es:List Expr}{pos:Pos}
def sSlE (to tl tv:TE):TS:=fun D σ H=>tv σ H fun v H1=>to σ H1 fun x H2=>tl σ H2 fun i H3=>∃ l b xs ys k,x=.ref l/\v=.ref b/\i=.int k/\H3 l=some (.lst xs)/\H3 b=some (.lst ys)/\l≠b/\0<=k/\k<=xs.length/\xs.length+ys.length<=sizeLine/\D.nx σ (upd H3 l (.lst (xs.take k.toNat++ys)))
def ps_slE {to tl tv:TE}{lo value:Expr}{p pos':Pos}(ho:PE X o to)(hl:PE X lo tl)(hv:PE X value tv)(hs:swapsWith value (some (.Subscript o (.Slice (some lo) none none p) pos')) pos.line X.env=pure false:=by rfl) :
 PS X (.Assign [.Subscript o (.Slice (some lo) none none p) pos'] value pos) (sSlE to tl tv):=by
 intro dg s σ H D I h
 refine wpAny_Assign_Subscript (fK (hv dg s σ H _ I h) fun r s1 oK=>?_) hs
 obtain⟨v,H1,I1,rv,q1⟩:=oK
 refine fK (ho dg s1 σ H1 _ I1 q1) fun u s2 qo=>?_
 obtain⟨x,H2,I2,rx,q2⟩:=qo
 refine wpAny_Slice (fK (hl dg s2 σ H2 _ I2 q2) fun iv s3 qK=>?_)
 obtain⟨i,H3,I3,ri,l,b,xs,ys,k,ex,ev,ei,hH,hB,hne,h0,hk,hz,q⟩:=qK
 subst ex ev ei
 cases rx
 cases rv
 obtain⟨t,rfl⟩:=ri
 refine ar (ar ?_)
 have I4:Inv X dg σ H3 { s3 with heap:=s3.heap.push { cls:=.type "slice",data:=.fields #[.int k t,.none,.none]}}:=I3.dj (t':=s3.toks) fun b o e=>jt _ e
 obtain⟨z,eK,n,r,hl,e⟩:=I4.wG hH
 obtain⟨z2,qG,n2,r2,hl2,e2⟩:=I4.wG hB
 obtain⟨a',rfl⟩:=Int.eq_ofNat_of_zero_le h0
 refine vT (a:=a') (c:=eK.length) (sl:=s3.heap.objs.size) (vl:=.int a' t) (vu:=.none) e e2 hne ⟨_,aB _ rfl,rfl,rfl⟩ (.int _ _) .none (by rw[aA]) (by omega) (by rw[aA];exact ah _) (by rw[aA,aA];omega) ?_
 have I5:=I4.lset (its':=eK.take a'++qG) (ys:=xs.take a'++ys) (t':=s3.toks) hH e (f:=fun xs=>xs.extract 0 a'++qG.toArray++xs.extract eK.length xs.size) (by
  have:=splice_eq eK qG a' eK.length
  rw[List.drop_length,aQ]at this
  exact this) (eX.append (r.take _) r2) (by rw[lx,aS];omega)
 exact⟨σ,_,I5,by simpa using q⟩
def dSlE (wo wl wv:De):Ds:=fun N ρ μ=>wv ρ μ fun v dX=>wo ρ dX fun x fw=>wl ρ fw fun i oI=>match x,v,i with
 | .mr j,.lst ys,.int k=>∃ xs,Ag oI j=some xs/\0<=k/\k<=xs.length/\xs.length+ys.length<=sizeLine/\N.nx ρ (oI.set j (.lst (xs.take k.toNat++ys)))
 | _,_,_=>False
def s_slE {wo wl wv:De}{lo value:Expr}{p pos':Pos}(ho:PD X o wo)(hl:PD X lo wl)(hv:PD X value wv)(hs:swapsWith value (some (.Subscript o (.Slice (some lo) none none p) pos')) pos.line X.env=pure false:=by rfl) :
 xA X (.Assign [.Subscript o (.Slice (some lo) none none p) pos'] value pos) (dSlE wo wl wv):=(ps_slE ho hl hv hs).imp fun E σ H hq=>by
 obtain⟨φ,ρ,μ,N,A,M,w,L⟩:=hq
 refine⟨φ,ρ,μ,_,A,M,w,fun d1 dX eM v1 H1 k1 f1 M1 i1=>?_⟩
 refine⟨eM,ρ,dX,_,A.mono f1,M1,k1,fun d2 fw iN v2 H2 k2 f2 M2 i2=>?_⟩
 refine⟨iN,ρ,fw,_,A.mono (f1.trans f2),M2,k2,fun d3 oI yU v3 H3 k3 f3 M3 i3=>?_⟩
 split at k3
 ·rename_i j ys k
  obtain⟨xs,ex,h0,hk,hz,k3⟩:=k3
  cases(show v3=_ from i3)
  have i1':=i1.mono (f2.trans f3)
  obtain⟨pb,vb,rfl,nb,hb,ab⟩:=i1'
  obtain⟨p,hp,rfl⟩:=i2.mono f3
  obtain⟨p',e1,vs,hv,ha⟩:=M3.at_ j _ (qE ex)
  rw[hp]at e1;cases e1
  have ne:p≠pb:=fun z=>nb (by rw[<- z];exact Ak hp)
  have f4:Fr yU H3 yU (upd H3 p (.lst (vs.take k.toNat++vb))):=.put (Ak hp)
  have M4:=M3.put (k:=j) (p:=p) (o:=.lst (vs.take k.toNat++vb)) (m:=.lst (xs.take k.toNat++ys)) hp ⟨_,dW,((ha.take _).app ab).mono f4⟩
  exact⟨p,pb,vs,vb,k,rfl,rfl,rfl,hv,hb,ne,h0,by rw[ha.len];exact hk,by rw[ha.len,ab.len];exact hz,L.nx ρ _ yU σ _ k3 ((f1.trans (f2.trans f3)).trans f4) (A.mono ((f1.trans (f2.trans f3)).trans f4)) M4⟩
 ·exact k3.elim
def dAugF (C:Addr)(f:Str)(g:Int->Int->Int)(wo w:De):Ds:=fun N ρ μ=>wo ρ μ fun x dX=>match x with
 | .mr k=>∃ i,(lJ C dX k).bind (fun q=>mn f q.1 q.2)=some (.int i)/\w ρ dX fun y fw=>match y with
  | .int j=>∃ q q':List Str×List D,lJ C fw k=some q/\putN f (.int (g i j)) q.1 q.2=q'/\q.1.length<1000/\N.nx ρ (fw.set k (.ins C q'.1 q'.2))
  | _=>False
 | _=>False
def tD_augF {C:Addr}{f:Str}{g:Int->Int->Int}{wo w:De}{rd:V->V->Hp->VK->Prop}(c:xI X.K C)(n:lG X.K C f)(hrd:∀ i j H Q,Q (.int (g i j)) H->rd (.int i) (.int j) H Q){E:Ends}{σ:St}{H:Hp}(hq:tDS (dAugF C f g wo w) E σ H):Fg X.K (tD wo) (tD w) rd f E σ H:=by
 obtain⟨φ,ρ,μ,N,A,M,k,L⟩:=hq
 refine⟨φ,ρ,μ,_,A,M,k,fun d1 dX eM v1 H1 k1 f1 M1 i1=>?_⟩
 cases d1 with
 | mr k =>
  obtain⟨i,e1,k1⟩:=k1
  obtain⟨q,e2,e3⟩:=Option.bind_eq_some_iff.mp e1
  obtain⟨p,hp,rfl⟩:=i1
  obtain⟨p',e4,dx,fs,h1,h2,h3⟩:=M1.at_ k _ (rW e2)
  rw[hp]at e4;cases e4
  rw[<- h2]at e3
  obtain⟨v,l,iv⟩:=rP h3 e3
  cases(show v=_ from iv)
  refine⟨p,C,dx,fs,.int i,rfl,h1,c,n,l,?_⟩
  refine⟨eM,ρ,dX,_,A.mono f1,M1,k1,fun d2 fw iN v2 H2 k2 f2 M2 i2=>?_⟩
  cases d2 with
  | int j =>
   cases(show v2=_ from i2)
   obtain⟨q',_,e5,rfl,hl,k2⟩:=k2
   have hp2:=f2.get hp
   obtain⟨p',e4,dx',fs',g1,g2,g3⟩:=M2.at_ k _ (rW e5)
   rw[hp2]at e4;cases e4
   refine hrd _ _ _ _ ⟨dx',fs',g1,by rw[<- g2,fF]at hl;exact hl,?_⟩
   have f4:Fr iN H2 iN (upd H2 p (.ins C dx' (lr f (.int (g i j)) fs'))):=.put (Ak hp2)
   obtain⟨y1,y2⟩:=zN (f:=f) (d:=.int (g i j)) (v:=.int (g i j)) (show iL iN (upd H2 p (.ins C dx' (lr f (.int (g i j)) fs'))) (.int (g i j)) (.int (g i j))from rfl) (g3.mono f4)
   rw[g2]at y1 y2
   exact L.nx ρ _ iN σ _ k2 ((f1.trans f2).trans f4) (A.mono ((f1.trans f2).trans f4)) (M2.put hp2 ⟨dx',_,dW,y1,y2⟩)
  | _=>exact k2.elim
 | _=>exact k1.elim
def s_augFA {C:Addr}{f:Str}{wo w:De}{q9:Pos}(c:xI X.K C)(n:lG X.K C f)(ho:PD X o wo)(hv:PD X e w):xA X (.AugAssign (.Attribute o f q9) .Add e pos) (dAugF C f (·+·) wo w):=(ps_fldaug ho hv in_add).imp fun E σ H hq=>tD_augF c n (fun i j H Q q=>⟨i,j,rfl,rfl,q⟩) hq
end
structure jI (P:ae)(w:af)(K:aa)(mg:Str->Option Value)(dh:Heap)(C:Addr)(m:Str)(k:Nat)(ps:List Str)(sp:Sp):Prop where
 ex:∃ f fd,eF P w K mg dh (k9 P w) k f fd ps sp/\Meth K C m f/\Binds K fd ps []
structure CalIX (P:ae)(w:af)(K:aa)(mg:Str->Option Value)(dh:Heap)(x:Str)(C:Addr)(k:Nat)(ps:List Str)(sp:Sp):Prop where
 ex:∃ f fd,eF P w K mg dh (k9 P w) k f fd ps sp/\Mk K C f/\mg x=some (.ref C)/\Binds K fd ps []
def pass1 {X:Cx}:Passes (k9 X.prog X.w) X (fun _ _ _=>False):=fun dg σ H s e s' I c=>by
 obtain⟨_,_,_,_,_,_,_,_,_,_,_,z⟩:=c
 exact z.elim
section
variable {X:Cx}{a b e o:Expr}{es:List Expr}{pos:Pos}{C:Addr}{eG:List Addr}{H0:Hp}{Kx:DX}
def Bj {m:Str}{f:i7}{wo:De}{w:DA}{σ:St}{H:Hp}{Q:VK}{E:XK}{ok:MS->Prop}{Kx:DX}(hE:∀ φ μ H,eJ φ H μ->ok μ->sQ φ H Kx E)(h:tD (fun ρ μ K=>wo ρ μ fun x dX=>ue C m dX x/\w ρ dX fun ds fw=>ok fw/\f (x::ds) fw K Kx) σ H Q):EV C m (iw f) [] E (tD wo) (tDA w) σ H Q:=by
 obtain⟨φ,ρ,μ,K,A,M,k,L⟩:=h
 refine⟨φ,ρ,μ,_,A,M,k,fun d1 dX eM v1 H1 k1 f1 M1 i1=>?_⟩
 obtain⟨p,dx,fs,rfl,h1,h2⟩:=wg M1 i1 k1.1
 refine⟨p,dx,fs,rfl,h1,h2,eM,ρ,dX,_,A.mono f1,M1,k1.2,fun ds fw iN vs H2 k2 f2 M2 i2=>?_⟩
 show iw f (.ref p::(vs++[])) H2 Q E
 rw[aQ]
 exact⟨iN,d1::ds,fw,K,Kx,⟨_,vs,rfl,iL.mono f2 i1,i2⟩,M2,k2.2,L.mono (f1.trans f2),hE iN fw H2 M2 k2.1⟩
def dMethX (eG:List Addr)(H0:Hp)(Kx:DX)(C:Addr)(m:Str)(f:i7)(wo:De)(w:DA):De:=fun ρ μ K=>wo ρ μ fun x dX=>ue C m dX x/\w ρ dX fun ds fw=>fw[0]?=some (.gx eG H0)/\f (x::ds) fw K Kx
def fq {m:Str}{f:i7}{wo:De}{w:DA}{apos:Pos}{pl:Sem Bool}{k:Nat}{ps:List Str}(Z:Rz X eG H0 Kx)(CM:jI X.prog X.w X.K X.mg X.dh C m k ps (iw f))(c:xI X.K C)(hr:gZ k X.A)(ho:PD X o wo)(ha:uP X (e::es) w)
 (Dy:starEach (e::es) X.env=(false,eval e X.env)::starEach es X.env:=by rfl) (kO:(backTo pos (starEach es X.env)).any (·.1)=false:=by rfl)
 (ht:eval (.Call (.Attribute o m apos) (e::es) [] pos) X.env=(do
   let ov <- eval o X.env
   standAt apos.atName
   let (f,first) <- holding [ov] (getMethod ov m pl)
   callWith pos f first (backTo pos (starEach (e::es) X.env)) (backToKw pos (keywordEach [] X.env))):=by rfl) :
 PD X (.Call (.Attribute o m apos) (e::es) [] pos) (dMethX eG H0 Kx C m f wo w):=by
 obtain⟨E,LX,hp⟩:=Z.ex
 obtain⟨f',fd,F,hm,hb⟩:=CM.ex
 exact(zQ ho c hm F hr hb .nil hp ha Dy kO ht).imp fun σ H Q hq=>Bj (ok:=fun μ=>μ[0]?=some (MO.gx eG H0)) (fun φ μ H M e=>LX.mono (M.hist e)) hq
def dMethXc (C:Addr)(m:Str)(f:i7)(wo:De)(w:DA):De:=fun ρ μ K=>wo ρ μ fun x dX=>ue C m dX x/\w ρ dX fun ds fw=>True/\f (x::ds) fw K fun _ _=>False
def sy {m:Str}{f:i7}{wo:De}{w:DA}{apos:Pos}{pl:Sem Bool}{k:Nat}{ps:List Str}(CM:jI X.prog X.w X.K X.mg X.dh C m k ps (iw f))(c:xI X.K C)(hr:gZ k X.A)(ho:PD X o wo)(ha:uP X (e::es) w)
 (Dy:starEach (e::es) X.env=(false,eval e X.env)::starEach es X.env:=by rfl) (kO:(backTo pos (starEach es X.env)).any (·.1)=false:=by rfl)
 (ht:eval (.Call (.Attribute o m apos) (e::es) [] pos) X.env=(do
   let ov <- eval o X.env
   standAt apos.atName
   let (f,first) <- holding [ov] (getMethod ov m pl)
   callWith pos f first (backTo pos (starEach (e::es) X.env)) (backToKw pos (keywordEach [] X.env))):=by rfl) :
 PD X (.Call (.Attribute o m apos) (e::es) [] pos) (dMethXc C m f wo w):=by
 obtain⟨f',fd,F,hm,hb⟩:=CM.ex
 exact(zQ ho c hm F hr hb .nil pass1 ha Dy kO ht).imp fun σ H Q hq=>Bj (ok:=fun _=>True) (Kx:=fun _ _=>False) (fun φ μ H M e=>fun _ _ _ _ z _ _=>z.elim) hq
def tD_makeX {f:i7}{w:DA}{σ:St}{H:Hp}{Q:VK}{E:XK}{ok:MS->Prop}{Kx:DX}(hE:∀ φ μ H,eJ φ H μ->ok μ->sQ φ H Kx E)(h:tD (fun ρ μ K=>w ρ μ fun ds dX=>ok dX/\f (.mr dX.length::ds) (dX++[.ins C [] []]) (fun d fw=>d=.fV/\K (.mr dX.length) fw) Kx) σ H Q):tMake C (iw f) [] E (tDA w) σ H Q:=by
 obtain⟨φ,ρ,μ,K,A,M,k,L⟩:=h
 refine⟨φ,ρ,μ,_,A,M,k,fun ds dX eM vs H1 k1 f1 M1 i1 x dx hx hdx ne=>?_⟩
 have S1:gG H1 (upd H1 dx (.own x)):=gG.upd hdx
 have B8:upd H1 dx (.own x) x=none:=by rw[d9 (bf ne)];exact hx
 have fa:Fr eM H1 eM (upd H1 dx (.own x)):=.same S1
 obtain⟨M2,f2⟩:=(M1.same S1).snoc (m:=.ins C [] []) (o:=.ins C dx []) B8 ⟨dx,[],dW,rfl,rfl⟩
 have f3:=fa.trans f2
 have hin:iL (eM++[x]) (upd (upd H1 dx (.own x)) x (.ins C dx [])) (.mr dX.length) (.ref x):=⟨x,by rw[qx (by rw[M1.len];exact ah _),M1.len,aT];rfl,rfl⟩
 show iw f (.ref x::(vs++[])) _ _ E
 rw[aQ]
 refine⟨eM++[x],.mr dX.length::ds,dX++[.ins C [] []],_,Kx,⟨_,vs,rfl,hin,i1.mono f3⟩,M2,k1.2,fun d oI yU v H3 k3 f4 M3 i3=>?_,(hE eM dX H1 M1 k1.1).mono f3⟩
 obtain⟨rfl,k3⟩:=k3
 exact⟨i3,L _ oI yU _ H3 k3 ((f1.trans f3).trans f4) M3 (hin.mono f4)⟩
def dMakeXc (C:Addr)(f:i7)(w:DA):De:=fun ρ μ K=>w ρ μ fun ds dX=>True/\f (.mr dX.length::ds) (dX++[.ins C [] []]) (fun d fw=>d=.fV/\K (.mr dX.length) fw) fun _ _=>False
def CB {x:Str}{f:i7}{w:DA}{p:Pos}{k:Nat}{ps:List Str}(CI:CalIX X.prog X.w X.K X.mg X.dh x C k ps (iw f))(hr:gZ (k+1) X.A)(hg:Gl X x)(ha:uP X (e::es) w)
 (tL:(x==("__debug__" : Str))=false:=by decide) (he:starEach (e::es) X.env=(false,eval e X.env)::starEach es X.env:=by rfl) (kO:(backTo pos (starEach es X.env)).any (·.1)=false:=by rfl) :
 PD X (.Call (.Name x p) (e::es) [] pos) (dMakeXc C f w):=by
 obtain⟨f',fd,F,M,hm,hb⟩:=CI.ex
 exact(Fm M F hr hg hm hb .nil pass1 ha tL he kO).imp fun σ H Q hq=>tD_makeX (ok:=fun _=>True) (Kx:=fun _ _=>False) (fun φ μ H M e=>fun _ _ _ _ z _ _=>z.elim) hq
end
def gm {P:ae}{w:af}{K:aa}{mg:Str->Option Value}{dh:Heap}{C:Addr}{x q:Str}{st:Stmt}{f:Addr}{fd:ag}{k:Nat}{ps:List Str}{sp:Sp}(F:gL K x q st f fd)(ok:eF P w K mg dh (k9 P w) k f fd ps sp)(hb:Binds K fd ps [])
 (a:W.findIn K (.ref C) x=some (some (.ref f)):=by kernel_rfl) (i:W.isFn K (.ref f)=true:=by kernel_rfl):jI P w K mg dh C x k ps sp:=⟨f,fd,ok,⟨a,i,F.kp⟩,hb⟩
def calix_of {P:ae}{w:af}{K:aa}{mg:Str->Option Value}{dh h:Heap}{C:Addr}{y q:Str}{st:Stmt}{f:Addr}{fd:ag}{k:Nat}{ps:List Str}{sp:Sp}(G:K.In h)(N:h.Ns mainGlobals mg)(F:gL K "__init__" q st f fd)(ok:eF P w K mg dh (k9 P w) k f fd ps sp)(hb:Binds K fd ps [])
 (n:W.nsIn K mainGlobals y=some (some (.ref C)):=by kernel_rfl) (a:W.findIn K (.ref C) "__init__"=some (some (.ref f)):=by kernel_rfl) (i:W.isFn K (.ref f)=true:=by kernel_rfl) (m:W.makesIn K C=true:=by kernel_rfl) (p:W.keepIn K (.ref C)=true:=by kernel_rfl):CalIX P w K mg dh y C k ps sp:=⟨f,fd,ok,⟨m,a,i,p⟩,bV G N n,hb⟩
section
variable {X:Cx}{a b c e o:Expr}{es:List Expr}{pos:Pos}
def yu:jm X (compareOp .LtE) (fun x y H Q=>∃ i j,x=.str i/\y=.str j/\Q (.bl (!decide (j.cps.toList<i.cps.toList))) H):=by
 intro dg s σ H x y v u Q I rx ry h
 obtain⟨i,j,rfl,rfl,q⟩:=h
 obtain⟨t,rfl⟩:=rx
 obtain⟨t',rfl⟩:=ry
 exact compareOp_gives (typeIs_str s i t) (typeIs_str s j t') F.slot_str_le F.entry_str_le (F.args_str_le_2 _ _) (gives_str_le i j t t') (by first | rfl | simp[Made.takes] | decide) (fH I q rfl)
def dLeS:uY:=fun x y μ K=>match x,y with
 | .str a,.str b=>K (.bl (!decide (b.cps.toList<a.cps.toList))) μ
 | _,_=>False
def so_leS:oO (fun x y H Q=>∃ i j,x=.str i/\y=.str j/\Q (.bl (!decide (j.cps.toList<i.cps.toList))) H) dLeS:=fun φ H x y dx dy μ K Q M hx hy k L=>by
 unfold dLeS at k
 split at k
 ·cases(show x=_ from hx);cases(show y=_ from hy)
  exact⟨_,_,rfl,rfl,L.val M k rfl⟩
 ·exact k.elim
def dChain (ro ro':uY)(wa wb wc:De):De:=fun ρ μ K=>wa ρ μ fun x dX=>wb ρ dX fun y fw=>ro x y fw fun z oI=>match z with
 | .bl k=>if k=true then wc ρ oI fun w' ET=>ro' y w' ET K else K (.bl false) oI
 | _=>False
def d_chain {op op':CmpOp}{r r':R2}{ro ro':uY}{wa wb wc:De}(ho:jm X (compareOp op) r)(wM:jm X (compareOp op') r')(so:oO r ro)(so':oO r' ro')(ha:PD X a wa)(hb:PD X b wb)(hc:PD X c wc)
 (hm:lastMarks [op,op'] [b,c]=false:=by with_unfolding_all rfl):PD X (.Compare a [op,op'] [b,c] pos) (dChain ro ro' wa wb wc):=(pe_chain ho wM ha hb hc hm).imp fun σ H Q hq=>by
 obtain⟨φ,ρ,μ,K,A,M,k,L⟩:=hq
 refine⟨φ,ρ,μ,_,A,M,k,fun d1 dX eM v1 H1 k1 f1 M1 i1=>?_⟩
 refine⟨eM,ρ,dX,_,A.mono f1,M1,k1,fun d2 fw iN v2 H2 k2 f2 M2 i2=>?_⟩
 refine so iN H2 v1 v2 d1 d2 fw _ _ M2 (i1.mono f2) i2 k2 fun d3 oI yU v3 H3 k3 f3 M3 i3=>?_
 cases d3 with
 | bl k =>
  cases(show v3=_ from i3)
  refine⟨k,rfl,?_⟩
  cases k with
  | false=>exact L _ oI yU _ H3 k3 (f1.trans (f2.trans f3)) M3 rfl
  | true=>exact⟨yU,ρ,oI,_,A.mono (f1.trans (f2.trans f3)),M3,k3,fun d4 ET φ4 v4 H4 k4 f4 M4 i4=>so' φ4 H4 v2 v4 d2 d4 ET K Q M4 (i2.mono (f3.trans f4)) i4 k4 (L.mono (f1.trans (f2.trans (f3.trans f4))))⟩
 | _=>exact k3.elim
def AZ (mg:Str->Option Value)(x:Str)(i:Int):Prop:=∃ t,mg x=some (.int i t)
def AA {x:Str}{i:Int}(hg:Gl X x)(hm:AZ X.mg x i)(hd:(x==("__debug__" : Str))=false:=by decide):PD X (.Name x pos) (dC (.int i)):=by
 obtain⟨t,hm⟩:=hm
 exact(Fo (v:=.int i) hg hm ⟨t,rfl⟩ hd).imp fun σ H Q hq=>by
  obtain⟨φ,ρ,μ,K,A,M,k,L⟩:=hq
  exact L _ _ φ _ H k (.refl _ _) M rfl
structure Tab (P:ae)(w:af)(K:aa)(mg:Str->Option Value)(x:Str)(ts:List (Str×Addr)):Prop where
 ex:∃ d,mg x=some (.ref d)/\∀ h:Heap,K.In h->h.DictOf (fh P w) d (ts.map fun p=>(Sum.inr p.1,Value.ref p.2))
def dTab (ts:List (Str×Addr))(w:De):De:=fun ρ μ K=>w ρ μ fun d dX=>match d with
 | .str z=>∃ a,(ts.find? fun p=>decide (p.1=z)).map (·.2)=some a/\K (.fn a) dX
 | _=>False
def t9 {z:Str}{a:Addr}:∀ {ts:List (Str×Addr)},(ts.find? fun p=>decide (p.1=z)).map (·.2)=some a->valueAt (ts.map fun p=>((Sum.inr p.1:Key),Value.ref p.2)) (Sum.inr z)=some (.ref a)
 | [],h=>by cases h
 | p::ts,h=>by
  unfold valueAt
  rw[ao,bu]
  rw[bu]at h
  by_cases q:p.1=z
  ·rw[ak q]at h
   cases h
   rw[show decide ((Sum.inr p.1:Key)=Sum.inr z)=true from ak (by rw[q])]
   rfl
  ·rw[au q]at h
   rw[show decide ((Sum.inr p.1:Key)=Sum.inr z)=false from au fun y=>q (Sum.inr.inj y)]
   exact t9 (ts:=ts) h
def d_tab {ts:List (Str×Addr)}{x:Str}{w:De}{p:Pos}(T:Tab X.prog X.w X.K X.mg x ts)(hg:Gl X x)(hb:PD X b w)(hs:NoSl b)(hd:(x==("__debug__" : Str))=false:=by decide):PD X (.Subscript (.Name x p) b pos) (dTab ts w):=by
 intro dg s σ H Q I hq
 obtain⟨φ,ρ,μ,K,A,M,k,L⟩:=hq
 obtain⟨d,hm,T⟩:=T.ex
 refine E6 PySem.F.slot_dict_getitem.lookup hs (nQ I hg hm ?_ hd)
 refine fK (hb dg s σ H (fun v H1=>∃ z a,v=.str z/\(ts.find? fun p=>decide (p.1=z)).map (·.2)=some a/\Q (.ref a) H1) I ⟨φ,ρ,μ,_,A,M,k,fun d1 dX eM v1 H1 k1 f1 M1 i1=>?_⟩) fun u s1 oK=>?_
 ·cases d1 with
  | str z =>
   cases(show v1=_ from i1)
   obtain⟨a,e,k1⟩:=k1
   exact⟨z,a,rfl,e,L _ dX eM _ H1 k1 f1 M1 rfl⟩
  | _=>exact k1.elim
 ·obtain⟨x,H1,I1,rx,z,a,rfl,e,q⟩:=oK
  have dd:=T _ I1.qw
  obtain⟨ob,_,_,eb,ex,_⟩:=id dd
  exact⟨⟨ob,eb,ex.1⟩,wpAny_getItem_of (rS (k:=Sum.inr z) rx) dd.mapOf (t9 e) ⟨.ref a,H1,I1.tok _,rfl,q⟩⟩
def tab_of {P:ae}{w:af}{K:aa}{mg:Str->Option Value}{x:Str}{d:Addr}{n:Nat}{h:Heap}(es:List (Str×Nat×Addr))(X:K.In h)(G:h.Ns mainGlobals mg)(e:W.nsIn K mainGlobals x=some (some (.ref d)))
 (l:K.lookup d=some ⟨.type "dict",none,.dict ((es.map fun p=>iF w.params p.1 p.2.1 (.ref p.2.2)).toArray) n,#[]⟩) (nd:(es.map (·.1)).Nodup):Tab P w K mg x (es.map fun p=>(p.1,p.2.2)):=by
 refine⟨d,bV X G e,fun h' I=>⟨_,_,_,I _ _ l,⟨rfl,rfl,rfl⟩,rfl,?_,?_,?_⟩⟩
 ·intro y hy
  obtain⟨p,_,rfl⟩:=List.mem_map.mp (List.mem_toArray.mp hy)
  exact⟨Sum.inr p.1,tJ p.1 p.2.1,rfl⟩
 ·clear l nd
  induction es with
  | nil=>exact .nil
  | cons p es ih=>exact .cons (tJ p.1 p.2.1) rfl ih
 ·rw[aG,aG]
  show(List.map ((fun z:Str=>(Sum.inr z:Key)) ∘ fun p:Str×Nat×Addr=>p.1) es).Nodup
  rw[<- aG]
  exact nd.map (f:=fun z:Str=>(Sum.inr z:Key)) fun a b h z=>h (Sum.inr.inj z)
structure CalV (P:ae)(w:af)(K:aa)(mg:Str->Option Value)(dh:Heap)(T:List (Addr×i7))(k:Nat)(ps:List Str):Prop where
 ex:∀ p∈T,∃ fd,eF P w K mg dh (k9 P w) k p.1 fd ps (iw p.2)/\W.keepIn K (.ref p.1)=true/\Binds K fd ps []
def dCallV (eG:List Addr)(H0:Hp)(Kx:DX)(T:List (Addr×i7))(i:Nat)(w:DA):De:=fun ρ μ K=>match ρ[i]? with
 | some (some (.fn a))=>∃ f,(a,f)∈T/\w ρ μ fun ds dX=>dX[0]?=some (.gx eG H0)/\f ds dX K Kx
 | _=>False
def d_callV {eG:List Addr}{H0:Hp}{Kx:DX}{T:List (Addr×i7)}{i:Nat}{w:DA}{x:Str}{p:Pos}{k:Nat}{ps:List Str}(Z:Rz X eG H0 Kx)(CV:CalV X.prog X.w X.K X.mg X.dh T k ps)(hr:gZ k X.A)(hN:X.N[i]?=some x)(hv:Vis X.env.scope x)(ha:uP X (e::es) w)
 (tL:(x==("__debug__" : Str))=false:=by decide) (x8:(x==("__classdict__" : Str))=false:=by decide) (he:starEach (e::es) X.env=(false,eval e X.env)::starEach es X.env:=by rfl) (kO:(backTo pos (starEach es X.env)).any (·.1)=false:=by rfl) :
 PD X (.Call (.Name x p) (e::es) [] pos) (dCallV eG H0 Kx T i w):=by
 intro dg s σ H Q I hq
 obtain⟨φ,ρ,μ,K,A,M,k,L⟩:=hq
 obtain⟨E,LX,hp⟩:=Z.ex
 unfold dCallV at k
 split at k
 ·rename_i a ea
  obtain⟨f,hf,k⟩:=k
  obtain⟨v,ev,iv⟩:=A.2 i _ ea
  cases(show v=_ from iv)
  obtain⟨fd,F,hk,hb⟩:=CV.ex _ hf
  refine bQ (fK (zP hN hv tL x8 dg s σ H (fun u H1=>u=.ref a/\H1=H) I ⟨_,ev,rfl,rfl⟩) fun u s1 oK=>?_)
  obtain⟨x1,H1,I1,r1,rfl,rfl⟩:=oK
  cases r1
  refine W.callWith_K (h₀:=X.dh) I.ok.mod.kin hk (fK (ha pos dg s1 σ H1 (fun vs H2=>iw f vs H2 Q E) I1 ⟨φ,ρ,μ,_,A,M,k,fun ds dX eM vs H2 k1 f1 M1 i1=>?_⟩) fun us s2 qo=>?_) he kO
  ·exact⟨eM,ds,dX,K,Kx,i1,M1,k1.2,L.mono f1,LX.mono (M1.hist k1.1)⟩
  ·obtain⟨vs,H2,I2,r2,q2⟩:=qo
   exact⟨I2.qw,zI (dvs:=[]) F hr hb .nil hp I2 r2 (by rw[aQ];exact q2)⟩
 ·exact k.elim
end
section
variable {X:Cx}{a b c e o:Expr}{es:List Expr}{pos apos gy:Pos}
def dSlT (w:De)(l h:DO):De:=fun ρ μ K=>w ρ μ fun x dX=>l ρ dX fun lo fw=>h ρ fw fun hi oI=>match x with
 | .tup ds=>¬ (HT.ib ds.length 0 lo=0/\HT.ib ds.length ds.length hi=ds.length)/\K (.tup (cutD ds lo hi)) oI
 | _=>False
def pJ {lo hi:Option Expr}{w:De}{l h:DO}{p:Pos}(ha:PD X a w)(hl:PO X lo (tDO l))(hh:PO X hi (tDO h)):PD X (.Subscript a (.Slice lo hi none p) pos) (dSlT w l h):=(BD sl_tup ha hl hh).imp fun σ H Q hq=>by
 obtain⟨φ,ρ,μ,K,A,M,k,L⟩:=hq
 refine⟨φ,ρ,μ,_,A,M,k,fun d dX eM v1 H1 k1 f1 M1 i1=>?_⟩
 refine⟨eM,ρ,dX,_,A.mono f1,M1,k1,fun lo fw iN H2 k2 f2 M2=>?_⟩
 refine⟨iN,ρ,fw,_,A.mono (f1.trans f2),M2,k2,fun hi oI yU H3 k3 f3 M3=>?_⟩
 have i3:=i1.mono (f2.trans f3)
 have L3:=L.mono (f1.trans (f2.trans f3))
 split at k3
 ·obtain⟨p,vs,rfl,_,hp,ha⟩:=i3
  exact⟨p,vs,rfl,AS.of hp,by rw[ha.len];exact k3.1,fun l hl=>Ey L3 M3 (ha.cut lo hi) k3.2 hl⟩
 ·exact k3.elim
def dInT (neg:Bool):uY:=fun x y μ K=>match y with
 | .tup ds=>Am x=true/\ds.all Am=true/\K (.bl (neg != ds.any fun d=>deq d x)) μ
 | _=>False
def so_inT {neg:Bool}:oO (Bx neg) (dInT neg):=fun φ H x y dx dy μ K Q M hx hy k L=>by
 unfold dInT at k
 split at k
 ·obtain⟨f1,f2,k⟩:=k
  obtain⟨p,vs,rfl,_,hp,ha⟩:=hy
  obtain⟨a,b⟩:=Al hx f1 ha f2
  have fx:=Ei hx f1
  have key:∃ xs,(H p=some (.lst xs)\/H p=some (.tup xs))/\kD x=true/\xs.all kD=true/\Q (.bl (neg != inV x xs)) H:=⟨vs,.inr hp,fx,a,by rw[b];exact L.val M k rfl⟩
  unfold Bx
  cases x <;> exact key
 ·exact k.elim
def dPopK (wd wk:De):De:=fun ρ μ K=>wd ρ μ fun x dX=>match x with
 | .mr j=>(∃ ks ds,dX[j]?=some (.iD ks ds))/\wk ρ dX fun y fw=>∃(kd:List (Key×D)) (k:Key) (d:D),fw[j]?=some (.iD (kd.map (·.1)) (kd.map (·.2)))/\nT y=some k/\pI kd k=some d/\K d (fw.set j (.iD ((kd.filter fun p=>decide (p.1≠k)).map (·.1)) ((kd.filter fun p=>decide (p.1≠k)).map (·.2))))
 | _=>False
def Cr {φ:List Addr}{H:Hp}{k:Key}:∀ {kd:List (Key×D)} {kv:List (Key×V)},kv.map (·.1)=kd.map (·.1)->d7 φ H (kd.map (·.2)) (kv.map (·.2))->(qy kv k).map (·.1)=(kd.filter fun p=>decide (p.1≠k)).map (·.1)/\d7 φ H ((kd.filter fun p=>decide (p.1≠k)).map (·.2)) ((qy kv k).map (·.2))
 | [],kv,e,h=>by
  cases kv with
  | nil=>exact⟨rfl,rfl⟩
  | cons _ _=>cases e
 | p::kd,kv,e,h=>by
  cases kv with
  | nil=>cases e
  | cons q kv =>
   simp only[ao,bO]at e
   obtain⟨v,r,e2,h1,h2⟩:=h
   simp only[ao,bO]at e2
   obtain⟨rfl,rfl⟩:=e2
   obtain⟨g1,g2⟩:=Cr (k:=k) e.2 h2
   unfold qy at g1 g2 ⊢
   rw[bb,bb]
   by_cases z:p.1=k
   ·have z2:q.1=k:=by rw[e.1,z]
    rw[ai (by simp[z2]),ai (by simp[z])]
    exact⟨g1,g2⟩
   ·have z2:¬ q.1=k:=by rw[e.1];exact z
    rw[aj (by simp[z2]),aj (by simp[z])]
    exact⟨by rw[ao,ao,g1,e.1],_,_,rfl,h1,g2⟩
def d_popK {wd wk:De}(ho:PD X o wd)(he:PD X e wk)(m:M1 X o "pop" apos e gy:=by exact⟨rfl,rfl,rfl,rfl⟩):PD X (.Call (.Attribute o "pop" apos) [e] [] gy) (dPopK wd wk):=(pe_dpop1 ho he m).imp fun σ H Q hq=>by
 obtain⟨φ,ρ,μ,K,A,M,k,L⟩:=hq
 refine⟨φ,ρ,μ,_,A,M,k,fun d1 dX eM v1 H1 k1 f1 M1 i1=>?_⟩
 cases d1 with
 | mr j =>
  obtain⟨⟨ks,ds,em⟩,k1⟩:=k1
  obtain⟨p,hp,rfl⟩:=i1
  obtain⟨p',e1,kvs,vs,h1,h2,h3,h4⟩:=M1.at_ j _ em
  rw[hp]at e1;cases e1
  refine⟨p,rfl,.inl ⟨kvs,.inl h1⟩,?_⟩
  refine⟨eM,ρ,dX,_,A.mono f1,M1,k1,fun d2 fw iN v2 H2 k2 f2 M2 i2=>?_⟩
  obtain⟨kd,k,d,FQ,ek,ed,k2⟩:=k2
  have hp2:=f2.get hp
  obtain⟨p',e1,kvs2,vs2,g1,g2,g3,g4⟩:=M2.at_ j _ FQ
  rw[hp2]at e1;cases e1
  subst g3
  cases nS ek i2
  have ed':pI ((kd.map (·.1)).zip (kd.map (·.2))) k=some d:=by rw[zip_parts];exact ed
  obtain⟨v,ev,iv⟩:=xg g2 g4 ed'
  refine⟨kvs2,k,v,g1,rfl,ev,?_⟩
  have f3:Fr iN H2 iN (upd H2 p (.dK (qy kvs2 k))):=.put (Ak hp2)
  obtain⟨y1,y2⟩:=Cr (k:=k) g2 (g4.mono f3)
  exact L _ _ iN _ _ k2 ((f1.trans f2).trans f3) (M2.put hp2 ⟨_,_,dW,y1,rfl,y2⟩) (iv.mono f3)
 | _=>exact k1.elim
end
inductive Pt where
 | fst (b:List Nat) (a:Int)
 | jn (l r:Str) (p:Int)
structure RS where
 n:Int
 dj:List (Str×Pt)
 fe:List (Int×Unit)
inductive Dd where
 | put (nm b:Str) (a:Int) | join (nm l r:Str) (p:Int) | found (nm:Str) (bar:Int) (sg:Str) | kR (nm:Str) (a:Int) | drop (nm:Str) | free (p:Int) | fe (p:Int)
section
variable {α β:Type}[DecidableEq α]
def dJ (l:List (α×β))(k:α):Option β:=(l.find? fun p=>decide (p.1=k)).map (·.2)
def gc (l:List (α×β))(k:α)(v:β):List (α×β):=if(l.any fun p=>decide (p.1=k))=true then l.map (fun p=>if p.1=k then(p.1,v)else p)else l++[(k,v)]
def hX (l:List (α×β))(k:α):List (α×β):=l.filter fun p=>decide (p.1≠k)
def fv {p:α×β}{l:List (α×β)}{k:α}:dJ (p::l) k=if p.1=k then some p.2 else dJ l k:=by
 unfold dJ
 rw[bu]
 by_cases h:p.1=k
 ·rw[ak h,aj h];rfl
 ·rw[au h,ai h]
def lF {l:List (α×β)}{k:α}:(l.any fun p=>decide (p.1=k))=(dJ l k).isSome:=by
 induction l with
 | nil=>rfl
 | cons p l ih =>
  rw[bt,fv,ih]
  by_cases h:p.1=k
  ·rw[ak h,aj h];rfl
  ·rw[au h,ai h];rfl
def m5 {l:List (α×β)}{k:α}{v:β}(h:dJ l k=some v):(k,v)∈l:=by
 induction l with
 | nil=>cases h
 | cons p l ih =>
  rw[fv]at h
  by_cases q:p.1=k
  ·rw[aj q]at h;cases h
   rw[<- q];exact aC
  ·rw[ai q]at h;exact nV _ (ih h)
def fu {l:List (α×β)}{k:α}:(dJ l k).isSome=true↔k∈l.map (·.1):=by
 rw[<- lF,List.any_eq_true,List.mem_map]
 constructor
 ·rintro⟨p,hp,e⟩;exact⟨p,hp,cF e⟩
 ·rintro⟨p,hp,e⟩;exact⟨p,hp,ak e⟩
def gB {l:List (α×β)}{k:α}{v:β}(nd:(l.map (·.1)).Nodup)(h:(k,v)∈l):dJ l k=some v:=by
 induction l with
 | nil=>cases h
 | cons p l ih =>
  rw[ao,List.nodup_cons]at nd
  rw[fv]
  rcases List.mem_cons.mp h with q | q
  ·subst q;rw[aj rfl]
  ·rw[ai]
   ·exact ih nd.2 q
   ·intro e
    exact nd.1 (by rw[e];exact List.mem_map.mpr ⟨_,q,rfl⟩)
def CU {l m:List (α×β)}{k:α}:dJ (l++m) k=(dJ l k).or (dJ m k):=by
 induction l with
 | nil=>rfl
 | cons p l ih =>
  rw[List.cons_append,fv,fv,ih]
  by_cases q:p.1=k
  ·rw[aj q,aj q];rfl
  ·rw[ai q,ai q]
def yQ {l:List (α×β)}{k:α}{v:β}:(gc l k v).map (·.1)=if k∈l.map (·.1)then l.map (·.1)else l.map (·.1)++[k]:=by
 unfold gc
 have e:((l.any fun p=>decide (p.1=k))=true)↔k∈l.map (·.1):=by rw[lF];exact fu
 by_cases h:k∈l.map (·.1)
 ·rw[aj (e.mpr h),aj h,aG]
  refine bY fun p _=>?_
  simp only[Function.comp]
  split <;> rfl
 ·rw[ai (fun z=>h (e.mp z)),ai h,aK];rfl
def m4 {l:List (α×β)}{k j:α}{v:β}:dJ (gc l k v) j=if j=k then some v else dJ l j:=by
 unfold gc
 split
 ·rename_i h
  induction l with
  | nil=>cases h
  | cons p l ih =>
   rw[ao,fv,fv]
   by_cases q:p.1=k
   ·rw[aj q]
    by_cases z:j=k
    ·rw[aj z,aj (by show p.1=j;rw[q,z])]
    ·rw[ai z,ai (show ¬ p.1=j from fun y=>z (by rw[<- y,q])),ai (fun y=>z (by rw[<- y,q]))]
     clear ih h
     induction l with
     | nil=>rfl
     | cons r l ih =>
      rw[ao,fv,fv,ih]
      by_cases y:r.1=k
      ·rw[aj y,ai (show ¬ r.1=j from fun x=>z (by rw[<- x,y])),ai (fun x=>z (by rw[<- x,y]))]
      ·rw[ai y]
   ·rw[ai q]
    have h':(l.any fun p=>decide (p.1=k))=true:=by
     rw[bt,au q]at h;exact h
    rw[ih h']
    by_cases z:j=k
    ·rw[aj z,ai (fun y=>q (by rw[y,z])),aj z]
    ·rw[ai z,ai z]
 ·rename_i h
  rw[CU]
  have hn:dJ l k=none:=by
   cases e:dJ l k with
   | none=>rfl
   | some x=>exact absurd (by rw[lF,e];rfl) h
  by_cases z:j=k
  ·subst z;rw[aj rfl,hn,fv,aj rfl];rfl
  ·rw[ai z,fv,ai (fun y=>z y.symm)]
   cases dJ l j <;> rfl
def yR {l:List (α×β)}{k j:α}(h:j≠k):dJ (hX l k) j=dJ l j:=by
 unfold hX
 induction l with
 | nil=>rfl
 | cons p l ih =>
  rw[bb,fv]
  by_cases q:p.1=k
  ·rw[ai (by simp[q]),ih,ai (fun y=>h (by rw[<- y,q]))]
  ·rw[aj (by simp[q]),fv,ih]
end
def eB (z:Str):Key:=Sum.inr z
def km (i:Int):Key:=Sum.inl i
def dR:∀ a b,eB a=eB b->a=b:=fun _ _ h=>Sum.inr.inj h
def iC:∀ a b,km a=km b->a=b:=fun _ _ h=>Sum.inl.inj h
def qd {α β:Type}(κ:α->Key)(f:β->D)(l:List (α×β)):D:=.lD (l.map fun p=>κ p.1) (l.map fun p=>f p.2)
def vF {α β γ:Type}(f:α->β)(g:α->γ):∀ l:List α,(l.map f).zip (l.map g)=l.map fun a=>(f a,g a)
 | []=>rfl
 | a::l=>by rw[ao,ao,c7,vF f g l];rfl
section
variable {α β:Type}[DecidableEq α]{κ:α->Key}(hi:∀ a b,κ a=κ b->a=b)(f:β->D)
include hi
def Av (k:α):∀ l:List (α×β),pI (l.map fun p=>(κ p.1,f p.2)) (κ k)=(dJ l k).map f
 | []=>rfl
 | p::l=>by
  have ih:=Av k l
  rw[fv]
  unfold pI at ih ⊢
  rw[ao,bu]
  by_cases h:p.1=k
  ·rw[show decide ((κ p.1,f p.2).1=κ k)=true from ak (by rw[h]),aj h];rfl
  ·rw[show decide ((κ p.1,f p.2).1=κ k)=false from au fun z=>h (hi _ _ z),ai h];exact ih
def Ep (k:α)(v:β)(l:List (α×β)):dput (l.map fun p=>(κ p.1,f p.2)) (κ k) (f v)=(gc l k v).map fun p=>(κ p.1,f p.2):=by
 have e:((l.map fun p=>(κ p.1,f p.2)).any fun kv=>decide (kv.1=κ k))=l.any fun p=>decide (p.1=k):=by
  rw[List.any_map]
  congr 1
  funext p
  show decide (κ p.1=κ k)=_
  by_cases h:p.1=k
  ·rw[ak h,ak (by rw[h])]
  ·rw[au h,au (fun z=>h (hi _ _ z))]
 unfold dput gc
 rw[e]
 split
 ·rw[aG,aG]
  refine bY fun p _=>?_
  show(if κ p.1=κ k then(κ p.1,f v)else(κ p.1,f p.2))=_
  simp only[Function.comp]
  by_cases h:p.1=k
  ·rw[aj h,aj (by rw[h])]
  ·rw[ai h,ai (fun z=>h (hi _ _ z))]
 ·rw[aK];rfl
def FR (k:α)(l:List (α×β)):((l.map fun p=>(κ p.1,f p.2)).filter fun p=>decide (p.1≠κ k))=(hX l k).map fun p=>(κ p.1,f p.2):=by
 unfold hX
 rw[List.filter_map]
 congr 1
 refine List.filter_congr fun p _=>?_
 show decide (κ p.1≠κ k)=_
 by_cases h:p.1=k
 ·rw[au (by simp[h]),au (by simp[h])]
 ·rw[ak (show κ p.1≠κ k from fun z=>h (hi _ _ z)),ak h]
def gQ {d:D}(k:α)(l:List (α×β))(hd:nT d=some (κ k)):ixF (l.map fun p=>κ p.1) (l.map fun p=>f p.2) d=some ((dJ l k).map f):=by
 unfold ixF
 rw[hd]
 show some (pI _ (κ k))=_
 rw[vF,Av hi]
def um {d:D}(k:α)(l:List (α×β))(hd:nT d=some (κ k)){μ:MS}{j:Nat}(h:uW μ j=some (l.map (fun p=>κ p.1),l.map fun p=>f p.2)):ixM μ j d=some ((dJ l k).map f):=by
 unfold ixM
 rw[h]
 show(nT d).map _=_
 rw[hd]
 show some (pI _ (κ k))=_
 rw[vF,Av hi]
end
def evF {γ:Type}(gf:Str->List Nat->Int->γ)(gj:γ->γ->Int->γ)(z:γ)(dj:List (Str×Pt)):Nat->Str->γ
 | 0,_=>z
 | f+1,nm=>match dJ dj nm with
  | some (.fst b a)=>gf nm b a
  | some (.jn l r p)=>gj (evF gf gj z dj f l) (evF gf gj z dj f r) p
  | none=>z
def il (dj:List (Str×Pt))(nm:Str):Nat:=(dj.map (·.1)).idxOf nm
structure yT (dj:List (Str×Pt)):Prop where
 nd:(dj.map (·.1)).Nodup
 low:∀ nm l r p,dJ dj nm=some (.jn l r p)->il dj l<il dj nm/\il dj r<il dj nm
def qH {dj:List (Str×Pt)}{nm:Str}:il dj nm<dj.length↔nm∈dj.map (·.1):=by
 unfold il
 rw[show dj.length=(dj.map (·.1)).length from(fF _).symm]
 exact List.idxOf_lt_length_iff
def yT.there {dj:List (Str×Pt)}(h:yT dj){nm l r:Str}{p:Int}(e:dJ dj nm=some (.jn l r p)):(∃ x,dJ dj l=some x)/\∃ x,dJ dj r=some x:=by
 have hn:il dj nm<dj.length:=qH.mpr (fu.mp (by rw[e];rfl))
 obtain⟨h1,h2⟩:=h.low nm l r p e
 exact⟨Option.isSome_iff_exists.mp (fu.mpr (qH.mp (by omega))),Option.isSome_iff_exists.mp (fu.mpr (qH.mp (by omega)))⟩
section
variable {γ:Type}{gf:Str->List Nat->Int->γ}{gj:γ->γ->Int->γ}{z:γ}{dj:List (Str×Pt)}
def Cp (h:yT dj):∀(f:Nat) (nm:Str),il dj nm<f->f<=dj.length->evF gf gj z dj f nm=evF gf gj z dj dj.length nm:=by
 have key:∀(i f g:Nat) (nm:Str),il dj nm=i->i<f->i<g->evF gf gj z dj f nm=evF gf gj z dj g nm:=by
  intro i
  induction i using Nat.strongRecOn with
  | ind i ih =>
   intro f g nm hi hf hg
   obtain⟨f,rfl⟩:∃ f',f=f'+1:=⟨f - 1,by omega⟩
   obtain⟨g,rfl⟩:∃ g',g=g'+1:=⟨g - 1,by omega⟩
   unfold evF
   cases e:dJ dj nm with
   | none=>rfl
   | some x =>
    cases x with
    | fst b a=>rfl
    | jn l r p =>
     obtain⟨h1,h2⟩:=h.low nm l r p e
     dsimp only
     rw[ih _ (by omega) f g l rfl (by omega) (by omega),ih _ (by omega) f g r rfl (by omega) (by omega)]
 intro f nm h1 h2
 exact key _ f dj.length nm rfl h1 (by omega)
def ev (gf:Str->List Nat->Int->γ)(gj:γ->γ->Int->γ)(z:γ)(dj:List (Str×Pt))(nm:Str):γ:=evF gf gj z dj dj.length nm
def Au {nm:Str}{b:List Nat}{a:Int}(e:dJ dj nm=some (.fst b a)):ev gf gj z dj nm=gf nm b a:=by
 have hn:il dj nm<dj.length:=qH.mpr (fu.mp (by rw[e];rfl))
 unfold ev
 obtain⟨m,hm⟩:∃ m,dj.length=m+1:=⟨dj.length - 1,by omega⟩
 rw[hm]
 unfold evF
 rw[e]
def FO (h:yT dj){nm l r:Str}{p:Int}(e:dJ dj nm=some (.jn l r p)):ev gf gj z dj nm=gj (ev gf gj z dj l) (ev gf gj z dj r) p:=by
 have hn:il dj nm<dj.length:=qH.mpr (fu.mp (by rw[e];rfl))
 obtain⟨h1,h2⟩:=h.low nm l r p e
 obtain⟨m,hm⟩:∃ m,dj.length=m+1:=⟨dj.length - 1,by omega⟩
 have e1:=Cp (gf:=gf) (gj:=gj) (z:=z) h m l (by omega) (by omega)
 have e2:=Cp (gf:=gf) (gj:=gj) (z:=z) h m r (by omega) (by omega)
 have e3:evF gf gj z dj (m+1) nm=gj (evF gf gj z dj m l) (evF gf gj z dj m r) p:=by
  conv=>lhs;unfold evF
  rw[e]
 unfold ev
 rw[<- e1,<- e2,<- e3,<- hm]
def En (h:yT dj)(P:Str->Prop)(hf:∀ nm b a,dJ dj nm=some (.fst b a)->P nm)(hj:∀ nm l r p,dJ dj nm=some (.jn l r p)->P l->P r->P nm):∀ nm x,dJ dj nm=some x->P nm:=by
 have key:∀(i:Nat) (nm:Str) (x:Pt),il dj nm=i->dJ dj nm=some x->P nm:=by
  intro i
  induction i using Nat.strongRecOn with
  | ind i ih =>
   intro nm x hi e
   cases x with
   | fst b a=>exact hf nm b a e
   | jn l r p =>
    obtain⟨h1,h2⟩:=h.low nm l r p e
    obtain⟨⟨y,ey⟩,⟨w,ew⟩⟩:=h.there e
    exact hj nm l r p e (ih _ (by omega) l y rfl ey) (ih _ (by omega) r w rfl ew)
 exact fun nm x e=>key _ nm x rfl e
end
def fO (dj:List (Str×Pt))(nm:Str):List Nat×Int:=ev (fun _ b a=>(b,a)) (fun x y p=>(jnT x.1 y.1 p,max x.2 y.2+1)) ([],0) dj nm
def f9 (dj:List (Str×Pt))(nm:Str):Int->Str×Nat:=ev (fun nm _ _ _=>(nm,0)) (fun x y p bar=>if bar<p then((x bar).1,(x bar).2+1)else((y bar).1,(y bar).2+1)) (fun _=>("",0)) dj nm
def fY (z:Str):Bool:=decide (1<=z.length)&&decide (z.length<=8)&&z.cps.toList.all fun c=>decide (97<=c)&&decide (c<=122)
def A8 (z:Str):Bool:=z.cps.toList.all fun c=>decide (c=111)||decide (c=120)
def gu (S:RS)(nm:Str):Bool:=(dJ S.dj nm).isSome
def gE (nm:Str):Pt->Bool
 | .fst _ _=>false
 | .jn l r _=>decide (l=nm)||decide (r=nm)
def kC (S:RS)(nm:Str):Bool:=S.dj.any fun p=>gE nm p.2
def iV (S:RS)(nm:Str):Option Nat:=if fY nm=false then some 4 else if gu S nm=true then some 9 else if 20<=S.dj.length then some 10 else none
def fS (S:RS)(p:Int):Option Nat:=if 1<=p/\p<S.n then none else some 7
def jL (a:Int):Option Nat:=if 0<=a/\a<=20 then none else some 5
def ik (S:RS):Dd->Option Nat
 | .put nm b a=>(iV S nm).or (if((b.length:Nat):Int)=S.n/\A8 b=true then jL a else some 0)
 | .join nm l r p=>(iV S nm).or (if gu S l=false then some 11 else if gu S r=false then some 11 else(fS S p).or (if(dJ S.fe p).isSome=true then some 12 else none))
 | .found nm bar sg=>if gu S nm=false then some 11 else if 0<=bar/\bar<S.n then(if sg = "o"\/sg = "x" then none else some 0)else some 6
 | .kR nm a=>match dJ S.dj nm with
  | none=>some 11
  | some (.jn _ _ _)=>some 13
  | some (.fst _ _)=>jL a
 | .drop nm=>if gu S nm=false then some 11 else if kC S nm=true then some 14 else none
 | .free p=>fS S p
 | .fe p=>fS S p
def uq (b:List Nat)(bar:Int)(sg:Str):List Nat:=b.take bar.toNat++(sg.cps.toList++b.drop (bar.toNat+1))
def Ef (dj:List (Str×Pt))(nm:Str)(bar:Int)(sg:Str):List (Str×Pt):=match dJ dj nm with
 | some (.fst b a)=>gc dj nm (.fst (uq b bar sg) a)
 | _=>dj
def mF (S:RS):Dd->RS
 | .put nm b a=>{ S with dj:=gc S.dj nm (.fst b.cps.toList a)}
 | .join nm l r p=>{ S with dj:=gc S.dj nm (.jn l r p)}
 | .found nm bar sg=>{ S with dj:=Ef S.dj (f9 S.dj nm bar).1 bar sg}
 | .kR nm a=>match dJ S.dj nm with
  | some (.fst b _)=>{ S with dj:=gc S.dj nm (.fst b a)}
  | _=>S
 | .drop nm=>{ S with dj:=hX S.dj nm}
 | .free p=>{ S with fe:=hX S.fe p}
 | .fe p=>{ S with fe:=gc S.fe p ()}
structure oS (S:RS)(m:Nat):Prop where
 n1:1<=S.n
 n2:S.n<=40
 kp:yT S.dj
 iT:S.dj.length<=20
 fs:∀ nm b a,dJ S.dj nm=some (.fst b a)->(b.length:Int)=S.n/\OX b/\0<=a/\a<=20
 js:∀ nm l r p,dJ S.dj nm=some (.jn l r p)->1<=p/\p<S.n
 nms:∀ p∈S.dj,fY p.1=true
 shl:S.fe.length<=m
 shn:(S.fe.map (·.1)).Nodup
def rX {l:List (Str×Pt)}{x:Str×Pt}{nm:Str}(h:nm∈l.map (·.1)):il (l++[x]) nm=il l nm:=by
 unfold il
 rw[aK,cj,aj h]
def idx_new {l:List (Str×Pt)}{x:Str×Pt}(h:x.1∉l.map (·.1)):il (l++[x]) x.1=l.length:=by
 unfold il
 rw[aK,cj,ai h,ao,bD,show(x.1==x.1)=true from cq _,fF]
 simp
def qI {p:Str->Bool}{a b:Str}:∀ {l:List Str},p a=true->p b=true->l.idxOf a<l.idxOf b->(l.filter p).idxOf a<(l.filter p).idxOf b
 | [],_,_,h=>by simp at h
 | x::t,ha,hb,h=>by
  by_cases e1:x=a
  ·subst e1
   have e2:¬ x=b:=fun e2=>by subst e2;exact absurd h (bw _)
   rw[bb,aj ha,bD,bD,show(x==x)=true from cq _,show(x==b)=false from cW e2]
   simp
  ·have e2:¬ x=b:=fun e2=>by
    subst e2
    rw[bD,bD,show(x==x)=true from cq _]at h
    simp at h
   rw[bD,bD,show(x==a)=false from cW e1,show(x==b)=false from cW e2]at h
   have h':t.idxOf a<t.idxOf b:=by simpa using h
   have ih:=qI ha hb h'
   rw[bb]
   split
   ·rw[bD,bD,show(x==a)=false from cW e1,show(x==b)=false from cW e2]
    simpa using ih
   ·exact ih
def yT.push {l:List (Str×Pt)}(h:yT l){nm:Str}{x:Pt}(hn:nm∉l.map (·.1))(hx:∀ a b p,x=.jn a b p->a∈l.map (·.1)/\b∈l.map (·.1)):yT (l++[(nm,x)]):=by
 refine⟨?_,fun z a b p e=>?_⟩
 ·rw[aK,bF]
  exact⟨h.nd,by simp,fun a ha b hb e=>by rw[ao,List.map_nil,List.mem_singleton]at hb;have hb:b=nm:=hb;exact hn (by rw[<- hb,<- e];exact ha)⟩
 ·rw[CU]at e
  cases q:dJ l z with
  | some y =>
   rw[q]at e
   cases e
   obtain⟨h1,h2⟩:=h.low z a b p q
   have hz:=fu.mp (show(dJ l z).isSome=true by rw[q];rfl)
   obtain⟨⟨y1,e1⟩,⟨y2,e2⟩⟩:=h.there q
   rw[rX hz,rX (fu.mp (by rw[e1];rfl)),rX (fu.mp (by rw[e2];rfl))]
   exact⟨h1,h2⟩
  | none =>
   rw[q]at e
   have e':dJ [(nm,x)] z=some (.jn a b p):=e
   rw[fv]at e'
   split at e'
   ·rename_i y
    have y:nm=z:=y
    subst y
    have e3:x=.jn a b p:=aN e'
    obtain⟨h1,h2⟩:=hx a b p e3
    have en:=idx_new (x:=(nm,x)) hn
    rw[show il (l++[(nm,x)]) nm=l.length from en,rX h1,rX h2]
    exact⟨qH.mpr h1,qH.mpr h2⟩
   ·cases e'
def yT.same {l l':List (Str×Pt)}(h:yT l)(hk:l'.map (·.1)=l.map (·.1))(hx:∀ z a b p,dJ l' z=some (.jn a b p)->dJ l z=some (.jn a b p)):yT l':=by
 refine⟨by rw[hk];exact h.nd,fun z a b p e=>?_⟩
 unfold il
 rw[hk]
 exact h.low z a b p (hx z a b p e)
def yT.drop {l:List (Str×Pt)}(h:yT l){nm:Str}(hx:∀ z a b p,dJ l z=some (.jn a b p)->a≠nm/\b≠nm):yT (hX l nm):=by
 have hk:(hX l nm).map (·.1)=(l.map (·.1)).filter fun z=>decide (z≠nm):=by
  unfold hX
  rw[List.filter_map]
  rfl
 refine⟨by rw[hk];exact h.nd.sublist (List.filter_sublist),fun z a b p e=>?_⟩
 have hz:z≠nm:=fun y=>by
  subst y
  have:=m5 e
  unfold hX at this
  rw[List.mem_filter]at this
  simpa using this.2
 rw[yR hz]at e
 obtain⟨h1,h2⟩:=h.low z a b p e
 obtain⟨n1,n2⟩:=hx z a b p e
 unfold il at h1 h2 ⊢
 rw[hk]
 exact⟨qI (ak n1) (ak hz) h1,qI (ak n2) (ak hz) h2⟩
def m3 {α β:Type}[DecidableEq α]{l:List (α×β)}{k:α}{v:β}(h:dJ l k=none):gc l k v=l++[(k,v)]:=by
 unfold gc
 rw[ai]
 rw[lF,h]
 exact aE
def aput_len {α β:Type}[DecidableEq α]{l:List (α×β)}{k:α}{v:β}:(gc l k v).length<=l.length+1:=by
 unfold gc
 split
 ·rw[fF];omega
 ·rw[lx,aU];exact ah _
def CQ {α β:Type}[DecidableEq α]{l:List (α×β)}{k:α}{v x:β}(h:dJ l k=some x):(gc l k v).map (·.1)=l.map (·.1)/\(gc l k v).length=l.length:=by
 have:k∈l.map (·.1):=fu.mp (by rw[h];rfl)
 have e:=yQ (l:=l) (k:=k) (v:=v)
 rw[aj this]at e
 exact⟨e,by have:=bL List.length e;rwa [fF,fF]at this⟩
def hasN_no {S:RS}{nm:Str}(h:gu S nm=false):dJ S.dj nm=none:=by
 unfold gu at h
 cases e:dJ S.dj nm with
 | none=>rfl
 | some x=>rw[e]at h;cases h
def mW {S:RS}{nm:Str}(h:¬ gu S nm=false):∃ x,dJ S.dj nm=some x:=by
 unfold gu at h
 cases e:dJ S.dj nm with
 | none=>rw[e]at h;exact absurd rfl h
 | some x=>exact⟨x,rfl⟩
def p8 {S:RS}{nm:Str}(h:iV S nm=none):fY nm=true/\dJ S.dj nm=none/\S.dj.length<20:=by
 unfold iV at h
 split at h
 ·cases h
 ·rename_i h1
  split at h
  ·cases h
  ·rename_i h2
   split at h
   ·cases h
   ·rename_i h3
    exact⟨by cases e:fY nm with | true=>rfl | false=>exact absurd e h1,hasN_no (by cases e:gu S nm with | false=>rfl | true=>exact absurd e h2),by omega⟩
def or_none {α:Type}{a b:Option α}(h:a.or b=none):a=none/\b=none:=by
 cases a with
 | none=>exact⟨rfl,h⟩
 | some x=>cases h
def mj {S:RS}{p:Int}(h:fS S p=none):1<=p/\p<S.n:=by
 unfold fS at h
 split at h
 ·assumption
 ·cases h
def qj {a:Int}(h:jL a=none):0<=a/\a<=20:=by
 unfold jL at h
 split at h
 ·assumption
 ·cases h
def oxB_ox {z:Str}(h:A8 z=true):OX z.cps.toList:=fun c hc=>by
 have:=List.all_eq_true.mp h c hc
 rcases Bool.or_eq_true_iff.mp this with q | q
 ·exact .inl (cF q)
 ·exact .inr (cF q)
def y0 {dj:List (Str×Pt)}(h:yT dj)(bar:Int):∀ nm x,dJ dj nm=some x->∃ b a,dJ dj (f9 dj nm bar).1=some (.fst b a):=by
 refine En h (fun nm=>∃ b a,dJ dj (f9 dj nm bar).1=some (.fst b a)) (fun nm b a e=>?_) (fun nm l r p e h1 h2=>?_)
 ·unfold f9;rw[Au e];exact⟨b,a,e⟩
 ·unfold f9
  rw[FO h e]
  show ∃ b a,dJ dj (if bar<p then _ else _:Str×Nat).1=_
  split
  ·exact h1
  ·exact h2
def hearB_len {b:List Nat}{bar n:Int}{sg:Str}(hb:(b.length:Int)=n)(h0:0<=bar)(h1:bar<n)(hs:sg.cps.toList.length=1):((uq b bar sg).length:Int)=n:=by
 unfold uq
 rw[lx,lx,aS,bS,hs]
 omega
def hearB_ox {b:List Nat}{bar:Int}{sg:Str}(hb:OX b)(hs:OX sg.cps.toList):OX (uq b bar sg):=fun c hc=>by
 unfold uq at hc
 rcases List.mem_append.mp hc with q | q
 ·exact hb c (aR q)
 ·rcases List.mem_append.mp q with q | q
  ·exact hs c q
  ·exact hb c (List.mem_of_mem_drop q)
def DJ {sg:Str}(h:sg = "o"\/sg = "x"):OX sg.cps.toList/\sg.cps.toList.length=1:=by
 rcases h with rfl | rfl
 ·exact⟨OX.of (by decide +kernel),rfl⟩
 ·exact⟨OX.of (by decide +kernel),rfl⟩
def oS.again {S:RS}{m:Nat}(h:oS S m){nm:Str}{b b':List Nat}{a a':Int}(e:dJ S.dj nm=some (.fst b a))(hb:(b'.length:Int)=S.n)(ho:OX b')(h0:0<=a')(h1:a'<=20):oS { S with dj:=gc S.dj nm (.fst b' a')} (m+1):=by
 obtain⟨k1,k2⟩:=CQ (v:=Pt.fst b' a') e
 refine⟨h.n1,h.n2,h.kp.same k1 fun z a b p q=>?_,by show(gc _ _ _).length<=20;rw[k2];exact h.iT,fun z b a q=>?_,fun z l r p q=>?_,fun p hp=>?_,bB h.shl,h.shn⟩
 ·rw[m4]at q;split at q
  ·cases q
  ·exact q
 ·have q:dJ (gc S.dj nm (.fst b' a')) z=some (.fst b a):=q
  rw[m4]at q;split at q
  ·cases q;exact⟨hb,ho,h0,h1⟩
  ·exact h.fs z b a q
 ·have q:dJ (gc S.dj nm (.fst b' a')) z=some (.jn l r p):=q
  rw[m4]at q;split at q
  ·cases q
  ·exact h.js z l r p q
 ·have:p.1∈(gc S.dj nm (.fst b' a')).map (·.1):=List.mem_map.mpr ⟨p,hp,rfl⟩
  rw[k1]at this
  obtain⟨q,hq,e2⟩:=List.mem_map.mp this
  rw[<- e2];exact h.nms q hq
def oS.more {S:RS}{m:Nat}(h:oS S m){nm:Str}{x:Pt}(hn:iV S nm=none)(hx:∀ a b p,x=.jn a b p->(∃ y,dJ S.dj a=some y)/\(∃ y,dJ S.dj b=some y)/\1<=p/\p<S.n)(hf:∀ b a,x=.fst b a->(b.length:Int)=S.n/\OX b/\0<=a/\a<=20):oS { S with dj:=gc S.dj nm x} (m+1):=by
 obtain⟨n1,n2,n3⟩:=p8 hn
 have e:=m3 (v:=x) n2
 rw[e]
 have Du:nm∉S.dj.map (·.1):=fun z=>by have:=fu.mpr z;rw[n2]at this;cases this
 have get:∀ z y,dJ (S.dj++[(nm,x)]) z=some y->dJ S.dj z=some y\/(z=nm/\y=x):=fun z y q=>by
  rw[<- e,m4]at q
  split at q
  ·rename_i w;exact .inr ⟨w,(aN q).symm⟩
  ·exact .inl q
 refine⟨h.n1,h.n2,h.kp.push Du fun a b p q=>?_,by show(S.dj++[(nm,x)]).length<=20;rw[lx,aU];omega,fun z b a q=>?_,fun z l r p q=>?_,fun p hp=>?_,bB h.shl,h.shn⟩
 ·obtain⟨⟨y,e1⟩,⟨w,e2⟩,_⟩:=hx a b p q
  exact⟨fu.mp (by rw[e1];rfl),fu.mp (by rw[e2];rfl)⟩
 ·rcases get z _ q with q | ⟨_,q⟩
  ·exact h.fs z b a q
  ·exact hf b a q.symm
 ·rcases get z _ q with q | ⟨_,q⟩
  ·exact h.js z l r p q
  ·exact(hx l r p q.symm).2.2
 ·rcases List.mem_append.mp hp with q | q
  ·exact h.nms p q
  ·rw[List.mem_singleton.mp q];exact n1
def oS.do {S:RS}{m:Nat}{d:Dd}(h:oS S m)(hr:ik S d=none):oS (mF S d) (m+1):=by
 cases d with
 | put nm b a =>
  obtain⟨h1,h2⟩:=or_none hr
  split at h2
  ·rename_i q
   obtain⟨a0,a1⟩:=qj h2
   exact h.more h1 (fun _ _ _ e=>by cases e) fun b' a' e=>by cases e;exact⟨q.1,oxB_ox q.2,a0,a1⟩
  ·cases h2
 | join nm l r p =>
  obtain⟨h1,h2⟩:=or_none hr
  split at h2
  ·cases h2
  ·rename_i q1
   split at h2
   ·cases h2
   ·rename_i q2
    obtain⟨h3,_⟩:=or_none h2
    obtain⟨p1,p2⟩:=mj h3
    exact h.more h1 (fun a b p' e=>by cases e;exact⟨mW q1,mW q2,p1,p2⟩) fun _ _ e=>by cases e
 | found nm bar sg =>
  have hr:(if gu S nm=false then some 11 else if 0<=bar/\bar<S.n then(if sg = "o"\/sg = "x" then none else some 0)else some 6)=(none:Option Nat):=hr
  split at hr
  ·cases hr
  ·rename_i q1
   split at hr
   ·rename_i q2
    split at hr
    ·rename_i q3
     obtain⟨x,ex⟩:=mW q1
     obtain⟨b,a,e⟩:=y0 h.kp bar nm x ex
     obtain⟨f1,f2,f3,f4⟩:=h.fs _ b a e
     obtain⟨o1,o2⟩:=DJ q3
     have:=h.again e (hearB_len f1 q2.1 q2.2 o2) (hearB_ox (bar:=bar) f2 o1) f3 f4
     unfold mF Ef
     dsimp only
     rw[e]
     exact this
    ·cases hr
   ·cases hr
 | kR nm a =>
  have hr:(match dJ S.dj nm with | none=>some 11 | some (.jn _ _ _)=>some 13 | some (.fst _ _)=>jL a)=(none:Option Nat):=hr
  show oS (match dJ S.dj nm with | some (.fst b _)=>{ S with dj:=gc S.dj nm (.fst b a)} | _=>S) _
  cases e:dJ S.dj nm with
  | none=>rw[e]at hr;cases hr
  | some x =>
   rw[e]at hr
   cases x with
   | jn l r p=>cases hr
   | fst b a0 =>
    obtain⟨a1,a2⟩:=qj hr
    obtain⟨f1,f2,_⟩:=h.fs nm b a0 e
    exact h.again e f1 f2 a1 a2
 | drop nm =>
  have hr:(if gu S nm=false then some 11 else if kC S nm=true then some 14 else none)=(none:Option Nat):=hr
  split at hr
  ·cases hr
  ·split at hr
   ·cases hr
   ·rename_i q
    have hx:∀ z a b p,dJ S.dj z=some (.jn a b p)->a≠nm/\b≠nm:=fun z a b p e=>by
     have nq:¬ gE nm (.jn a b p)=true:=fun y=>q (List.any_eq_true.mpr ⟨_,m5 e,y⟩)
     exact⟨fun y=>nq (by show(decide (a=nm)||decide (b=nm))=true;rw[ak y];rfl),fun y=>nq (by show(decide (a=nm)||decide (b=nm))=true;rw[ak y,Bool.or_true])⟩
    have get:∀ z y,dJ (hX S.dj nm) z=some y->dJ S.dj z=some y:=fun z y e=>by
     by_cases hz:z=nm
     ·subst hz
      have:=m5 e
      unfold hX at this
      rw[List.mem_filter]at this
      exact absurd this.2 (by simp)
     ·rw[yR hz]at e;exact e
    refine⟨h.n1,h.n2,h.kp.drop hx,az (bG _ _) h.iT,fun z b a e=>h.fs z b a (get z _ e),fun z l r p e=>h.js z l r p (get z _ e),fun p hp=>h.nms p (List.mem_filter.mp hp).1,bB h.shl,h.shn⟩
 | free p=>exact⟨h.n1,h.n2,h.kp,h.iT,h.fs,h.js,h.nms,bB (az (bG _ _) h.shl),h.shn.sublist (List.Sublist.map _ List.filter_sublist)⟩
 | fe p=>exact⟨h.n1,h.n2,h.kp,h.iT,h.fs,h.js,h.nms,az aput_len (Nat.succ_le_succ h.shl),by
  show((gc S.fe p ()).map (·.1)).Nodup
  rw[yQ]
  split
  ·exact h.shn
  ·rename_i q
   rw[bF]
   exact⟨h.shn,by simp,fun a ha b hb e=>q (by rw[<- List.mem_singleton.mp hb,<- e];exact ha)⟩⟩
def mO:Pt->D
 | .fst _ _=>.fV
 | .jn l r p=>.tup [.str l,.str r,.int p]
def fstOf:Str×Pt->Option (Str×Tk)
 | (nm,.fst b a)=>some (nm,(b,a))
 | (_,.jn _ _ _)=>none
def eA (dj:List (Str×Pt)):List (Str×Tk):=dj.filterMap fstOf
def shD (sh:List (Int×Unit)):D:=qd km (fun _=>.bl true) sh
def sdN:List Str:=["length", "made_of", "firsts", "closed"]
def lj (cS:Addr)(S:RS):D:=.obj cS sdN [.int S.n,qd eB mO S.dj,qd eB jq (eA S.dj),shD S.fe]
def oQ:Dd->D
 | .put nm b a=>.tup [.str "put",.str nm,.str b,.int a]
 | .join nm l r p=>.tup [.str "join",.str nm,.str l,.str r,.int p]
 | .found nm bar sg=>.tup [.str "found",.str nm,.int bar,.str sg]
 | .kR nm a=>.tup [.str "aged",.str nm,.int a]
 | .drop nm=>.tup [.str "drop",.str nm]
 | .free p=>.tup [.str "free",.int p]
 | .fe p=>.tup [.str "shut",.int p]
def ddW:Dd->Nat
 | .put _ _ _=>0 | .join _ _ _ _=>1 | .found _ _ _=>2 | .kR _ _=>3 | .drop _=>4 | .free _=>5 | .fe _=>6
def Cw:Dd->Prop
 | .put nm b _=>nm.length<=1000/\b.length<=1000
 | .join nm _ _ _=>nm.length<=1000
 | _=>True
def vj (cs:List Addr)(K:DK)(Kx:DX)(o:Option Nat)(d:D)(μ:MS):Prop:=match o with
 | some i=>Kx (.ref (cs.getD i 0)) μ
 | none=>K d μ
def Cd:jg:=fun ds μ K=>match ds with
 | [.lD ks es,y,v]=>∃(kd:List (Key×D)) (k:Key),ks=kd.map (·.1)/\es=kd.map (·.2)/\kd.length<=100000/\nT y=some k/\K (.lD ((dput kd k v).map (·.1)) ((dput kd k v).map (·.2))) μ
 | _=>False
def pC:jg:=fun ds μ K=>match ds with
 | [.lD ks es,y]=>∃(kd:List (Key×D)) (k:Key),ks=kd.map (·.1)/\es=kd.map (·.2)/\kd.length<=100000/\(kd.map (·.1)).Nodup/\nT y=some k/\(∀ p∈kd,(∃ i j,p.1=km i/\k=km j)\/∃ i j,p.1=eB i/\k=eB j)/\K (.lD ((kd.filter fun p=>decide (p.1≠k)).map (·.1)) ((kd.filter fun p=>decide (p.1≠k)).map (·.2))) μ
 | _=>False
def su:jg:=fun ds μ K=>match ds with
 | [.int n,.str z]=>z.length<=1000/\K (.bl (decide (((z.length:Nat):Int)=n/\A8 z=true))) μ
 | _=>False
def wX (cS:Addr)(cs:List Addr):i7:=fun ds μ K Kx=>match ds with
 | [x,.str nm]=>(∃ m,μ[0]?=some m)/\∃ S,x=lj cS S/\(match dJ S.dj nm with | some _=>K .fV μ | none=>Kx (.ref (cs.getD 11 0)) μ)
 | _=>False
def El {cS:Addr}{cs:List Addr}{ds:List D}{μ:MS}{K:DK}{Kx:DX}(h:wX cS cs ds μ K Kx):ds.length=2/\∃ m,μ[0]?=some m:=by
 unfold wX at h
 split at h
 ·exact⟨rfl,h.1⟩
 ·exact h.elim
def se (cS:Addr)(cs:List Addr):i7:=fun ds μ K Kx=>match ds with
 | [x,.str nm]=>(∃ m,μ[0]?=some m)/\∃ S,x=lj cS S/\(match dJ S.dj nm with | some y=>K (mO y) μ | none=>Kx (.ref (cs.getD 11 0)) μ)
 | _=>False
def Cg {cS:Addr}{cs:List Addr}{ds:List D}{μ:MS}{K:DK}{Kx:DX}(h:se cS cs ds μ K Kx):ds.length=2/\∃ m,μ[0]?=some m:=by
 unfold se at h
 split at h
 ·exact⟨rfl,h.1⟩
 ·exact h.elim
def DF (p:Str×Nat):D:=.tup [.str p.1,.int p.2]
def pE (cS:Addr)(cs:List Addr):i7:=fun ds μ K Kx=>match ds with
 | [x,.str nm,.int bar]=>(∃ m,μ[0]?=some m)/\∃ S,x=lj cS S/\yT S.dj/\(match dJ S.dj nm with | some _=>(if 0<=bar/\bar<S.n then K (DF (f9 S.dj nm bar)) μ else Kx (.ref (cs.getD 6 0)) μ) | none=>Kx (.ref (cs.getD 11 0)) μ)
 | _=>False
def An {cS:Addr}{cs:List Addr}{ds:List D}{μ:MS}{K:DK}{Kx:DX}(h:pE cS cs ds μ K Kx):ds.length=3/\∃ m,μ[0]?=some m:=by
 unfold pE at h
 split at h
 ·exact⟨rfl,h.1⟩
 ·exact h.elim
def vI (dj:List (Str×Pt)):List (Str×Tk):=dj.map fun p=>(p.1,fO dj p.1)
def sv (cS:Addr):jg:=fun ds μ K=>match ds with
 | [x]=>∃ S m,x=lj cS S/\oS S m/\K (qd eB jq (vI S.dj)) μ
 | _=>False
def wY (cS:Addr)(cs:List Addr):i7:=fun ds μ K Kx=>match ds with
 | [x,.str nm]=>(∃ m,μ[0]?=some m)/\∃ S m,x=lj cS S/\oS S m/\(match dJ S.dj nm with | some _=>K (jq (fO S.dj nm)) μ | none=>Kx (.ref (cs.getD 11 0)) μ)
 | _=>False
def Em {cS:Addr}{cs:List Addr}{ds:List D}{μ:MS}{K:DK}{Kx:DX}(h:wY cS cs ds μ K Kx):ds.length=2/\∃ m,μ[0]?=some m:=by
 unfold wY at h
 split at h
 ·exact⟨rfl,h.1⟩
 ·exact h.elim
def oE (S:RS):List Int:=((List.range (S.n - 1).toNat).map fun i=>1+((i:Nat):Int)).filter fun p=>!(dJ S.fe p).isSome
def my (S:RS):List Tk:=S.dj.map fun p=>fO S.dj p.1
def vq (cS:Addr):jg:=fun ds μ K=>match ds with
 | [x]=>∃ S m,x=lj cS S/\oS S m/\K (.tup [.int S.n,.lst ((oE S).map D.int),.lst ((my S).map jq)]) μ
 | _=>False
def vp (cS:Addr):jg:=fun ds μ K=>match ds with
 | [.mr k,.int n,a,b,c]=>μ[k]?=some (.ins cS [] [])/\K .fV (μ.set k (.ins cS sdN [.int n,a,b,c]))
 | _=>False
def gv (cS:Addr)(cs:List Addr)(w:Nat):i7:=fun ds μ K Kx=>match ds with
 | [x,y]=>(∃ m,μ[0]?=some m)/\∃ S d m,x=lj cS S/\y=oQ d/\ddW d=w/\oS S m/\m<=1000/\Cw d/\vj cs K Kx (ik S d) (lj cS (mF S d)) μ
 | _=>False
def jf {cS:Addr}{cs:List Addr}{w:Nat}{ds:List D}{μ:MS}{K:DK}{Kx:DX}(h:gv cS cs w ds μ K Kx):ds.length=2/\∃ m,μ[0]?=some m:=by
 unfold gv at h
 split at h
 ·exact⟨rfl,h.1⟩
 ·exact h.elim
def pH (cS:Addr)(cs:List Addr):i7:=fun ds μ K Kx=>match ds with
 | [x,y]=>(∃ m,μ[0]?=some m)/\∃ S d m,x=lj cS S/\y=oQ d/\oS S m/\m<=1000/\Cw d/\vj cs K Kx (ik S d) (lj cS (mF S d)) μ
 | _=>False
def Ar {cS:Addr}{cs:List Addr}{ds:List D}{μ:MS}{K:DK}{Kx:DX}(h:pH cS cs ds μ K Kx):ds.length=2/\∃ m,μ[0]?=some m:=by
 unfold pH at h
 split at h
 ·exact⟨rfl,h.1⟩
 ·exact h.elim
def fNew (cS:Addr)(cs:List Addr):i7:=fun ds μ K Kx=>match ds with
 | [x,.str nm]=>(∃ m,μ[0]?=some m)/\nm.length<=1000/\∃ S,x=lj cS S/\vj cs K Kx (iV S nm) .fV μ
 | _=>False
def fNew_len {cS:Addr}{cs:List Addr}{ds:List D}{μ:MS}{K:DK}{Kx:DX}(h:fNew cS cs ds μ K Kx):ds.length=2/\∃ m,μ[0]?=some m:=by
 unfold fNew at h
 split at h
 ·exact⟨rfl,h.1⟩
 ·exact h.elim
def Cn (cs:List Addr):i7:=fun ds μ K Kx=>match ds with
 | [.int a]=>(∃ m,μ[0]?=some m)/\vj cs K Kx (jL a) .fV μ
 | _=>False
def fAgeC_len {cs:List Addr}{ds:List D}{μ:MS}{K:DK}{Kx:DX}(h:Cn cs ds μ K Kx):ds.length=1/\∃ m,μ[0]?=some m:=by
 unfold Cn at h
 split at h
 ·exact⟨rfl,h.1⟩
 ·exact h.elim
def sd (cS:Addr)(cs:List Addr):i7:=fun ds μ K Kx=>match ds with
 | [x,.int p]=>(∃ m,μ[0]?=some m)/\∃ S,x=lj cS S/\vj cs K Kx (fS S p) .fV μ
 | _=>False
def Cf {cS:Addr}{cs:List Addr}{ds:List D}{μ:MS}{K:DK}{Kx:DX}(h:sd cS cs ds μ K Kx):ds.length=2/\∃ m,μ[0]?=some m:=by
 unfold sd at h
 split at h
 ·exact⟨rfl,h.1⟩
 ·exact h.elim
def calv_nil {P:ae}{w:af}{K:aa}{mg:Str->Option Value}{dh:Heap}{k:Nat}{ps:List Str}:CalV P w K mg dh [] k ps:=⟨fun _ h=>nomatch h⟩
def jU {P:ae}{w:af}{K:aa}{mg:Str->Option Value}{dh:Heap}{x:Str}{k:Nat}{ps:List Str}{f:i7}{a:Addr}{T:List (Addr×i7)}(C:qW P w K mg dh x k ps (iw f))(hm:mg x=some (.ref a))(R:CalV P w K mg dh T k ps):CalV P w K mg dh ((a,f)::T) k ps:=⟨fun p hp=>by
 rcases List.mem_cons.mp hp with rfl | q
 ·obtain⟨f',fd,F,hm',hk,hb⟩:=C.ex
  rw[hm]at hm'
  cases hm'
  exact⟨fd,F,hk,hb⟩
 ·exact R.ex p q⟩
def fC {μ:MS}{x:MO}:(μ++[x])[μ.length]?=some x:=by rw[qx (ah _),aT];rfl
def FP {μ:MS}{ks:List Key}{ds:List D}:uW (μ++[.iD ks ds]) μ.length=some (ks,ds):=by unfold uW;rw[fC]
def vk {n:Nat}:∀ {ds:List D} {d:D},qa n ds->d∈ds->xG n d
 | _::_,d,h,hd=>by
  rcases List.mem_cons.mp hd with rfl | q
  ·exact h.1
  ·exact vk h.2 q
def dput_mem {kd:List (Key×D)}{k:Key}{v d:D}(h:d∈(dput kd k v).map (·.2)):d∈kd.map (·.2)\/d=v:=by
 unfold dput at h
 split at h
 ·rw[aG]at h
  obtain⟨p,hp,rfl⟩:=List.mem_map.mp h
  simp only[Function.comp]
  split
  ·exact .inr rfl
  ·exact .inl (List.mem_map.mpr ⟨p,hp,rfl⟩)
 ·rw[aK]at h
  rcases List.mem_append.mp h with q | q
  ·exact .inl q
  ·exact .inr (List.mem_singleton.mp q)
def nP {n:Nat}{kd:List (Key×D)}{k:Key}{v:D}(h:qa n (kd.map (·.2)))(hv:xG n v):qa n ((dput kd k v).map (·.2)):=jR fun d hd=>by
 rcases dput_mem hd with q | q
 ·exact vk h q
 ·rw[q];exact hv
def dput_new {kd:List (Key×D)}{k:Key}{v:D}(h:k∉kd.map (·.1)):dput kd k v=kd++[(k,v)]:=by
 unfold dput
 rw[ai]
 intro z
 obtain⟨p,hp,e⟩:=List.any_eq_true.mp z
 exact h (List.mem_map.mpr ⟨p,hp,cF e⟩)
def yy {kd:List (Key×D)}:List.zipWith (fun k d=>D.tup [nR k,d]) (kd.map (·.1)) (kd.map (·.2))=kd.map fun p=>D.tup [nR p.1,p.2]:=by
 induction kd with
 | nil=>rfl
 | cons p kd ih=>rw[ao,ao,List.zipWith_cons_cons,ih];rfl
def mG {it:D->MS->(Option (Key×D)->MS->Prop)->Prop}{μ:MS}(t:Key×D->Bool):∀(kd acc:List (Key×D)) (K:List (Key×D)->Prop),((acc++kd).map (·.1)).Nodup ->
 (∀ p∈kd,∀(μ':MS) (K':Option (Key×D)->MS->Prop),K' (if t p=true then some p else none) μ'->it (.tup [nR p.1,p.2]) μ' K')->K (acc++kd.filter t)->tQ it (fun _=>True) μ (kd.map fun p=>D.tup [nR p.1,p.2]) acc K
 | [],acc,K,_,_,k=>by rw[List.filter_nil,aQ]at k;exact⟨trivial,k⟩
 | p::kd,acc,K,nd,h,k=>by
  refine⟨trivial,h p aC _ _ ⟨rfl,?_⟩⟩
  rw[bb]at k
  have nd2:((acc++kd).map (·.1)).Nodup:=nd.sublist (List.Sublist.map _ (List.Sublist.append_left (List.sublist_cons_self _ _) _))
  by_cases q:t p=true
  ·rw[aj q]at k ⊢
   have hn:p.1∉acc.map (·.1):=fun z=>by
    rw[aK,bF]at nd
    exact nd.2.2 p.1 z p.1 (List.mem_map.mpr ⟨p,aC,rfl⟩) rfl
   show tQ it _ μ _ (dput acc p.1 p.2) K
   rw[dput_new hn]
   exact mG t kd (acc++[p]) K (by rw[aM];exact nd) (fun p' hp'=>h p' (nV _ hp')) (by rw[aM];exact k)
  ·rw[ai q]at k ⊢
   exact mG t kd acc K nd2 (fun p' hp'=>h p' (nV _ hp')) k
def cnt_ox:∀ l:List Nat,l.count 111+l.count 120=l.length↔(l.all fun c=>decide (c=111)||decide (c=120))=true
 | []=>by simp
 | c::l=>by
  have ih:=cnt_ox l
  have le:l.count 111+l.count 120<=l.length:=by
   clear ih
   induction l with
   | nil=>simp
   | cons d l ih2 =>
    rw[cX,cX,aI]
    by_cases e1:d=111
    ·subst e1;simp;omega
    ·by_cases e2:d=120
     ·subst e2;simp;omega
     ·rw[ai (by simpa using e1),ai (by simpa using e2)];omega
  rw[cX,cX,aI,cQ]
  by_cases e1:c=111
  ·subst e1
   rw[Bool.and_eq_true_iff,<- ih]
   simp
   omega
  ·by_cases e2:c=120
   ·subst e2
    rw[Bool.and_eq_true_iff,<- ih]
    simp
    omega
   ·rw[ai (by simpa using e1),ai (by simpa using e2),au e1,au e2]
    simp
    omega
def hV (p:Str×Pt)(l:List (Str×Pt)):eA (p::l)=match fstOf p with | some q=>q::eA l | none=>eA l:=by
 unfold eA
 rw[bM]
 cases fstOf p <;> rfl
def lA {l:List (Str×Pt)}{nm:Str}(nd:(l.map (·.1)).Nodup):dJ (eA l) nm=match dJ l nm with | some (.fst b a)=>some (b,a) | _=>none:=by
 induction l with
 | nil=>rfl
 | cons p l ih =>
  obtain⟨z,x⟩:=p
  rw[ao,List.nodup_cons]at nd
  have ih:=ih nd.2
  rw[hV,fv]
  by_cases e:z=nm
  ·rw[aj e]
   have hn:dJ l nm=none:=by
    cases q:dJ l nm with
    | none=>rfl
    | some y=>exact absurd (fu.mp (show(dJ l nm).isSome=true by rw[q];rfl)) (by rw[<- e];exact nd.1)
   cases x with
   | fst b a=>show dJ ((z,(b,a))::eA l) nm=_;rw[fv,aj e]
   | jn a b p=>show dJ (eA l) nm=_;rw[ih,hn]
  ·rw[ai e]
   cases x with
   | fst b a=>show dJ ((z,(b,a))::eA l) nm=_;rw[fv,ai e,ih]
   | jn a b p=>show dJ (eA l) nm=_;rw[ih]
def wU {l:List (Str×Pt)}:((eA l).map (·.1)).Sublist (l.map (·.1)):=by
 induction l with
 | nil=>exact .slnil
 | cons p l ih =>
  obtain⟨z,x⟩:=p
  rw[hV]
  cases x with
  | fst b a=>exact ih.cons₂ _
  | jn a b q=>exact ih.cons _
def Cc {l:List (Str×Pt)}{nm:Str}:eA (hX l nm)=hX (eA l) nm:=by
 unfold hX
 induction l with
 | nil=>rfl
 | cons p l ih =>
  obtain⟨z,x⟩:=p
  rw[bb,hV]
  by_cases e:z=nm
  ·rw[ai (by simp[e]),ih]
   cases x with
   | fst b a=>show _=List.filter _ ((z,(b,a))::eA l);rw[bb,ai (by simp[e])]
   | jn a b q=>rfl
  ·rw[aj (by simp[e]),hV,ih]
   cases x with
   | fst b a=>show _=List.filter _ ((z,(b,a))::eA l);rw[bb,aj (by simp[e])];rfl
   | jn a b q=>rfl
def wW {l m:List (Str×Pt)}:eA (l++m)=eA l++eA m:=List.filterMap_append
def firsts_jn {l:List (Str×Pt)}{nm a b:Str}{p:Int}(h:dJ l nm=none):eA (gc l nm (.jn a b p))=eA l:=by
 rw[m3 h,wW]
 exact aQ _
def Ej {l:List (Str×Pt)}{nm:Str}{b:List Nat}{a:Int}(nd:(l.map (·.1)).Nodup)(h:dJ l nm=none):eA (gc l nm (.fst b a))=gc (eA l) nm (b,a):=by
 rw[m3 h,m3 (by rw[lA nd,h]),wW]
 rfl
def CS {α β:Type}[DecidableEq α]{l:List (α×β)}{k:α}{v:β}(h:k∉l.map (·.1)):(l.map fun p=>if p.1=k then(p.1,v)else p)=l:=by
 conv=>rhs;rw[<- List.map_id l]
 refine bY fun p hp=>?_
 rw[ai]
 ·rfl
 ·exact fun e=>h (List.mem_map.mpr ⟨p,hp,e⟩)
def wV {l:List (Str×Pt)}{nm:Str}{b b0:List Nat}{a a0:Int}(nd:(l.map (·.1)).Nodup)(h:dJ l nm=some (.fst b0 a0)):eA (gc l nm (.fst b a))=gc (eA l) nm (b,a):=by
 have h2:dJ (eA l) nm=some (b0,a0):=by rw[lA nd,h]
 unfold gc
 rw[aj (by rw[lF,h];rfl),aj (by rw[lF,h2];rfl)]
 clear h2
 induction l with
 | nil=>cases h
 | cons p l ih =>
  obtain⟨z,x⟩:=p
  rw[ao,List.nodup_cons]at nd
  rw[fv]at h
  rw[ao]
  by_cases e:z=nm
  ·subst e
   rw[aj rfl]at h
   cases(show x=.fst b0 a0 from aN h)
   rw[aj rfl,CS (k:=z) nd.1,hV,hV]
   show(z,(b,a))::eA l=List.map _ ((z,(b0,a0))::eA l)
   rw[ao,aj rfl,CS (k:=z) (fun q=>nd.1 (wU.subset q))]
  ·rw[ai (show ¬ z=nm from e)]at h
   rw[ai (show ¬ (z,x).1=nm from e),hV,hV,ih nd.2 h]
   cases x with
   | fst b1 a1=>show _=List.map _ ((z,(b1,a1))::eA l);rw[ao,ai (show ¬ z=nm from e)];rfl
   | jn _ _ _=>rfl
def Bh {S:RS}{m:Nat}(h:oS S m):∀ nm x,dJ S.dj nm=some x->((fO S.dj nm).1.length:Int)=S.n/\OX (fO S.dj nm).1/\0<=(fO S.dj nm).2:=by
 refine En h.kp (fun nm=>((fO S.dj nm).1.length:Int)=S.n/\OX (fO S.dj nm).1/\0<=(fO S.dj nm).2) (fun nm b a e=>?_) (fun nm l r p e h1 h2=>?_)
 ·unfold fO
  rw[Au e]
  obtain⟨f1,f2,f3,_⟩:=h.fs nm b a e
  exact⟨f1,f2,f3⟩
 ·obtain⟨p1,p2⟩:=h.js nm l r p e
  unfold fO at h1 h2 ⊢
  rw[FO h.kp e]
  obtain⟨a1,a2,a3⟩:=h1
  obtain⟨b1,b2,b3⟩:=h2
  refine⟨?_,jnT_ox a2 b2,?_⟩
  ·have:=jnT_len (l1:=(ev (fun _ b a=>(b,a)) (fun x y p=>(jnT x.1 y.1 p,max x.2 y.2+1)) ([],0) S.dj l:List Nat×Int).1) (l2:=(ev (fun _ b a=>(b,a)) (fun x y p=>(jnT x.1 y.1 p,max x.2 y.2+1)) ([],0) S.dj r:List Nat×Int).1) (p:=p) (by omega) (by omega) (by omega)
   show((jnT _ _ p).length:Int)=_
   rw[this];exact a1
  ·show 0<=max _ _+1
   omega
def tk_jn {S:RS}(h:yT S.dj){nm l r:Str}{p:Int}(e:dJ S.dj nm=some (.jn l r p)):fO S.dj nm=joinT (fO S.dj l) (fO S.dj r) p:=by
 unfold fO
 rw[FO h e]
 rfl
def DD {dj:List (Str×Pt)}{nm:Str}{b:List Nat}{a:Int}(e:dJ dj nm=some (.fst b a)):fO dj nm=(b,a):=by
 unfold fO
 rw[Au e]
def gA {α β:Type}(κ:α->Key)(f:β->D)(l:List (α×β)):(l.map fun p=>κ p.1)=(l.map fun p=>(κ p.1,f p.2)).map (·.1)/\(l.map fun p=>f p.2)=(l.map fun p=>(κ p.1,f p.2)).map (·.2):=by
 rw[aG,aG]
 exact⟨rfl,rfl⟩
def rh {dj:List (Str×Pt)}{nm:Str}{b:List Nat}{a bar:Int}(e:dJ dj nm=some (.fst b a)):f9 dj nm bar=(nm,0):=by
 unfold f9
 rw[Au e]
def yZ {dj:List (Str×Pt)}(h:yT dj){nm l r:Str}{p:Int}(e:dJ dj nm=some (.jn l r p))(bar:Int):f9 dj nm bar=if bar<p then((f9 dj l bar).1,(f9 dj l bar).2+1)else((f9 dj r bar).1,(f9 dj r bar).2+1):=by
 unfold f9
 rw[FO h e]
def mr_g {α β:Type}{n:Nat}{κ:α->Key}{f:β->D}(hf:∀ b,xG n (f b))(l:List (α×β)):qa n ((l.map fun p=>(κ p.1,f p.2)).map (·.2)):=jR fun d hd=>by
 rw[aG]at hd
 obtain⟨p,_,rfl⟩:=List.mem_map.mp hd
 exact hf _
def uf {n:Nat}:∀ x,xG n (mO x)
 | .fst _ _=>trivial
 | .jn _ _ _=>⟨trivial,trivial,trivial,trivial⟩
def rf {n:Nat}(t:Tk):xG n (jq t):=⟨trivial,trivial,trivial⟩
def uh {α β:Type}{n:Nat}{κ:α->Key}{f:β->D}(hf:∀ b,xG n (f b))(l:List (α×β)):xG n (qd κ f l):=jR fun d hd=>by
 obtain⟨p,_,rfl⟩:=List.mem_map.mp hd
 exact hf _
def BS {n:Nat}(l:List (Int×Unit)):xG n (shD l):=uh (n:=n) (f:=fun _:Unit=>D.bl true) (fun _=>True.intro) l
section
variable {α β:Type}[DecidableEq α]{κ:α->Key}(hi:∀ a b,κ a=κ b->a=b)(f:β->D)
include hi
def wput (k:α)(v:β)(l:List (α×β)):D.lD ((dput (l.map fun p=>(κ p.1,f p.2)) (κ k) (f v)).map (·.1)) ((dput (l.map fun p=>(κ p.1,f p.2)) (κ k) (f v)).map (·.2))=qd κ f (gc l k v):=by
 rw[Ep hi f k v l,<- (gA κ f _).1,<- (gA κ f _).2]
 rfl
def wdrop (k:α)(l:List (α×β)):D.lD (((l.map fun p=>(κ p.1,f p.2)).filter fun p=>decide (p.1≠κ k)).map (·.1)) (((l.map fun p=>(κ p.1,f p.2)).filter fun p=>decide (p.1≠κ k)).map (·.2))=qd κ f (hX l k):=by
 rw[FR hi f k l,<- (gA κ f _).1,<- (gA κ f _).2]
 rfl
def kd_nd {l:List (α×β)}(nd:(l.map (·.1)).Nodup):((l.map fun p=>(κ p.1,f p.2)).map (·.1)).Nodup:=by
 rw[aG]
 show(l.map (κ ∘ fun p=>p.1)).Nodup
 rw[<- aG]
 exact nd.map (f:=κ) fun a b h z=>h (hi _ _ z)
end
def kd_len {α β:Type}{κ:α->Key}{f:β->D}{l:List (α×β)}:(l.map fun p=>(κ p.1,f p.2)).length=l.length:=fF _
def iteNot {c:Prop}[Decidable c]{A B:Prop}(h1:¬ c->A)(h2:c->B):if(!decide c)=true then A else B:=by
 by_cases q:c
 ·rw[ak q];exact h2 q
 ·rw[au q];exact h1 q
def cmp1 {a b:Nat}:decide (([a]:List Nat)<[b])=decide (a<b):=by
 by_cases h:a<b
 ·rw[ak h,ak (show([a]:List Nat)<[b]from List.Lex.rel h)]
 ·rw[au h,au]
  intro z
  cases z with
  | rel q=>exact h q
  | cons q=>cases q
def BR {nm:Str}(h1:¬ ((nm.length:Nat):Int)<1)(h2:¬ (8:Int)<((nm.length:Nat):Int)):fY nm=(nm.cps.toList.all fun c=>decide (97<=c)&&decide (c<=122)):=by
 unfold fY
 rw[ak (show 1<=nm.length by omega),ak (show nm.length<=8 by omega)]
 rfl
def BE (S:RS):(((List.range (S.n - 1).toNat).map fun i=>1+((i:Nat):Int)).filterMap fun p=>if(dJ S.fe p).isSome=true then none else some (D.int p))=(oE S).map D.int:=by
 unfold oE
 generalize ((List.range (S.n - 1).toNat).map fun i=>1+((i:Nat):Int))=l
 induction l with
 | nil=>rfl
 | cons p l ih =>
  rw[bM,bb]
  cases(dJ S.fe p).isSome with
  | true=>exact ih
  | false=>show D.int p::_=D.int p::_;rw[ih]
def BC {l:List (Str×Pt)}{nm:Str}{b b0:List Nat}{a a0:Int}(h:dJ l nm=some (.fst b0 a0))(nd:(l.map (·.1)).Nodup:=by assumption):qd eB mO (gc l nm (.fst b a))=qd eB mO l:=by
 unfold qd
 have k1:=(CQ (v:=Pt.fst b a) h).1
 have e1:(gc l nm (.fst b a)).map (fun p=>eB p.1)=l.map fun p=>eB p.1:=by
  have:=bL (List.map eB) k1
  rw[aG,aG]at this
  exact this
 rw[e1]
 congr 1
 unfold gc
 rw[aj (by rw[lF,h];rfl),aG]
 refine bY fun p hp=>?_
 simp only[Function.comp]
 by_cases e:p.1=nm
 ·rw[aj e]
  have:dJ l nm=some p.2:=gB nd (by rw[<- e];exact hp)
  rw[h]at this
  rw[<- aN this]
  rfl
 ·rw[ai e]
def AQ {l:List Nat}{sg:Str}:(⟨l.toArray⟩++sg:Str)=⟨(l++sg.cps.toList).toArray⟩:=om l sg.cps.toList
def iteNn {c1 c2:Prop}[Decidable c1][Decidable c2]{A B:Prop}(hB:c1\/c2->B)(hA:¬ (c1\/c2)->A):if(true != decide c1)=true then(if(true != decide c2)=true then A else B)else B:=by
 by_cases q1:c1
 ·rw[ak q1];exact hB (.inl q1)
 ·by_cases q2:c2
  ·rw[au q1,ak q2];exact hB (.inr q2)
  ·rw[au q1,au q2];exact hA fun z=>z.elim q1 q2
def zJ:List Str:=["stands", "rows", "done"]
structure eU (cR cS:Addr)(μ:MS)(k j1 j2:Nat)(ss:List RS)(rs:List Dd)(d:Nat):Prop where
 k0:k≠0
 a0:j1≠0
 b0:j2≠0
 ka:k≠j1
 kb:k≠j2
 ab:j1≠j2
 ins:μ[k]?=some (.ins cR zJ [.mr j1,.mr j2,.int (d:Int)])
 l1:μ[j1]?=some (.lst (ss.map (lj cS)))
 l2:μ[j2]?=some (.lst (rs.map oQ))
 len:ss.length=rs.length+1
 le:d<=rs.length
 wf:∀ i S,ss[i]?=some S->oS S i
 iT:rs.length<=900
def mB (cR cS:Addr)(μ:MS)(k j1 j2:Nat)(ss:List RS)(rs:List Dd)(d:Nat):MS:=((μ.set j1 (.lst (ss.map (lj cS)))).set j2 (.lst (rs.map oQ))).set k (.ins cR zJ [.mr j1,.mr j2,.int (d:Int)])
section
variable {cR cS:Addr}{μ:MS}{k j1 j2:Nat}{ss:List RS}{rs:List Dd}{d:Nat}
def eU.lk (h:eU cR cS μ k j1 j2 ss rs d):k<μ.length/\j1<μ.length/\j2<μ.length:=⟨(lK h.ins).1,(lK h.l1).1,(lK h.l2).1⟩
def eU.now (h:eU cR cS μ k j1 j2 ss rs d):∃ S,ss[d]?=some S/\oS S d:=by
 have:d<ss.length:=by have:=h.len;have:=h.le;omega
 exact⟨_,ux this,h.wf d _ (ux this)⟩
def eU.other (h:eU cR cS μ k j1 j2 ss rs d){i:Nat}{m:MO}(hk:i≠k)(h1:i≠j1)(h2:i≠j2):eU cR cS (μ.set i m) k j1 j2 ss rs d :=
 ⟨h.k0,h.a0,h.b0,h.ka,h.kb,h.ab,by rw[av hk];exact h.ins,by rw[av h1];exact h.l1,by rw[av h2];exact h.l2,h.len,h.le,h.wf,h.iT⟩
def eU.gx (h:eU cR cS μ k j1 j2 ss rs d){m:MO}:eU cR cS (μ.set 0 m) k j1 j2 ss rs d:=h.other (bf h.k0) (bf h.a0) (bf h.b0)
def eU.more (h:eU cR cS μ k j1 j2 ss rs d){g:MS}:eU cR cS (μ++g) k j1 j2 ss rs d:=by
 obtain⟨a,b,c⟩:=h.lk
 exact⟨h.k0,h.a0,h.b0,h.ka,h.kb,h.ab,by rw[uU a];exact h.ins,by rw[uU b];exact h.l1,by rw[uU c];exact h.l2,h.len,h.le,h.wf,h.iT⟩
def eU.put (h:eU cR cS μ k j1 j2 ss rs d){ss':List RS}{rs':List Dd}{d':Nat}(len:ss'.length=rs'.length+1)(le:d'<=rs'.length)(wf:∀ i S,ss'[i]?=some S->oS S i)(iT:rs'.length<=900):eU cR cS (mB cR cS μ k j1 j2 ss' rs' d') k j1 j2 ss' rs' d':=by
 obtain⟨a,b,c⟩:=h.lk
 refine⟨h.k0,h.a0,h.b0,h.ka,h.kb,h.ab,?_,?_,?_,len,le,wf,iT⟩
 ·unfold mB;rw[aD (by rw[aL,aL];exact a)]
 ·unfold mB;rw[av h.ka,av (bf h.ab),aD b]
 ·unfold mB;rw[av h.kb,aD (by rw[aL];exact c)]
def set_same {μ:MS}{i:Nat}{m:MO}(h:μ[i]?=some m):μ.set i m=μ:=by
 refine List.ext_getElem? fun j=>?_
 by_cases e:i=j
 ·subst e;rw[aD (lK h).1,h]
 ·rw[av e]
def jA (h:eU cR cS μ k j1 j2 ss rs d){m m0:MO}{ss':List RS}{rs':List Dd}{d':Nat}(em:μ[0]?=some m0):(mB cR cS (μ.set 0 m) k j1 j2 ss' rs' d').set 0 m0=mB cR cS μ k j1 j2 ss' rs' d'/\(mB cR cS (μ.set 0 m) k j1 j2 ss' rs' d')[0]?=some m:=by
 have h0:0<μ.length:=(lK em).1
 unfold mB
 refine⟨?_,?_⟩
 ·rw[cE _ _ h.k0,cE _ _ h.b0,cE _ _ h.a0,df,set_same em]
 ·rw[av h.k0,av h.b0,av h.a0,aD h0]
def BB {ss':List RS}{rs':List Dd}{d':Nat}:(mB cR cS μ k j1 j2 ss' rs' d').length=μ.length:=by unfold mB;rw[aL,aL,aL]
def vg {ss':List RS}{rs':List Dd}{d' i:Nat}(hk:i≠k)(h1:i≠j1)(h2:i≠j2):(mB cR cS μ k j1 j2 ss' rs' d')[i]?=μ[i]?:=by
 unfold mB;rw[av (bf hk),av (bf h2),av (bf h1)]
end
section
variable (cR cS:Addr)(cs:List Addr)
def r9:i7:=fun ds μ K Kx=>match ds with
 | [.mr k,.int n]=>(∃ m,μ[0]?=some m)/\k≠0/\μ[k]?=some (.ins cR [] [])/\(if 1<=n/\n<=40 then K .fV (μ.set k (.ins cR zJ [.mr μ.length,.mr (μ.length+1),.int 0])++[.lst [lj cS ⟨n,[],[]⟩],.lst []])else Kx (.ref (cs.getD 8 0)) μ)
 | _=>False
def fNow:jg:=fun ds μ K=>match ds with
 | [.mr k]=>∃ j1 j2 ss rs d S,eU cR cS μ k j1 j2 ss rs d/\ss[d]?=some S/\K (lj cS S) μ
 | _=>False
def mE:i7:=fun ds μ K Kx=>match ds with
 | [.mr k,y]=>(∃ m,μ[0]?=some m)/\∃ j1 j2 ss rs d S e,eU cR cS μ k j1 j2 ss rs d/\ss[d]?=some S/\y=oQ e/\Cw e/\rs.length<900/\(match ik S e with | some i=>Kx (.ref (cs.getD i 0)) μ | none=>K .fV (mB cR cS μ k j1 j2 (ss.take (d+1)++[mF S e]) (rs.take d++[e]) (d+1)))
 | _=>False
def Ap (b:Bool):jg:=fun ds μ K=>match ds with
 | [.mr k]=>∃ j1 j2 ss rs d,eU cR cS μ k j1 j2 ss rs d/\K (.lst ((if b=true then rs.take d else rs.drop d).map oQ)) μ
 | _=>False
def iS (g:RS->D):jg:=fun ds μ K=>match ds with
 | [.mr k]=>∃ j1 j2 ss rs d S,eU cR cS μ k j1 j2 ss rs d/\ss[d]?=some S/\K (g S) μ
 | _=>False
def jE (g:RS->Str->D):i7:=fun ds μ K Kx=>match ds with
 | [.mr k,.str nm]=>(∃ m,μ[0]?=some m)/\∃ j1 j2 ss rs d S,eU cR cS μ k j1 j2 ss rs d/\ss[d]?=some S/\(match dJ S.dj nm with | some _=>K (g S nm) μ | none=>Kx (.ref (cs.getD 11 0)) μ)
 | _=>False
def pF:i7:=fun ds μ K Kx=>match ds with
 | [.mr k,.str nm,.int bar]=>(∃ m,μ[0]?=some m)/\∃ j1 j2 ss rs d S,eU cR cS μ k j1 j2 ss rs d/\ss[d]?=some S/\(match dJ S.dj nm with | some _=>(if 0<=bar/\bar<S.n then K (DF (f9 S.dj nm bar)) μ else Kx (.ref (cs.getD 6 0)) μ) | none=>Kx (.ref (cs.getD 11 0)) μ)
 | _=>False
end
def gSize (S:RS):D:=.int S.n
def Eh (S:RS):D:=.lst (S.dj.map fun p=>.str p.1)
def FH (S:RS):D:=.lst ((oE S).map D.int)
def tN (S:RS):D:=.lst ((my S).map jq)
def gBars (S:RS)(nm:Str):D:=.str (txt (fO S.dj nm).1)
def gAge (S:RS)(nm:Str):D:=.int (fO S.dj nm).2
def wR (S:RS)(nm:Str):D:=match dJ S.dj nm with | some y=>mO y | none=>.fV
section
variable {cR cS:Addr}{cs:List Addr}{ds:List D}{μ:MS}{K:DK}{Kx:DX}
def Ce (h:r9 cR cS cs ds μ K Kx):ds.length=2/\∃ m,μ[0]?=some m:=by
 unfold r9 at h
 split at h
 ·exact⟨rfl,h.1⟩
 ·exact h.elim
def xc (h:mE cR cS cs ds μ K Kx):ds.length=2/\∃ m,μ[0]?=some m:=by
 unfold mE at h
 split at h
 ·exact⟨rfl,h.1⟩
 ·exact h.elim
def pG {g:RS->Str->D}(h:jE cR cS cs g ds μ K Kx):ds.length=2/\∃ m,μ[0]?=some m:=by
 unfold jE at h
 split at h
 ·exact⟨rfl,h.1⟩
 ·exact h.elim
def Ao (h:pF cR cS cs ds μ K Kx):ds.length=3/\∃ m,μ[0]?=some m:=by
 unfold pF at h
 split at h
 ·exact⟨rfl,h.1⟩
 ·exact h.elim
end
def kq:Pt->D
 | .fst b a=>.tup [.str "first",.str (txt b),.int a]
 | .jn l r p=>.tup [.str "joined",.str l,.str r,.int p]
def rl (S:RS):D:=.tup [.int S.n,qd eB kq S.dj,shD S.fe]
def ptL_mr {n:Nat}:∀ x,xG n (kq x)
 | .fst _ _=>⟨trivial,trivial,trivial,trivial⟩
 | .jn _ _ _=>⟨trivial,trivial,trivial,trivial,trivial⟩
def nN (fg:List Str):Prop:=1<=fg.length/\fg.length<=50/\∀ z∈fg,fY z=true
def ql (l:List Str):D:=.lst (l.map D.str)
def sj:jg:=fun ds μ K=>match ds with
 | [.mr k,.int many]=>μ[k]?=some .box/\1<=many/\many<=50/\∀ fg:List Str,(fg.length:Int)=many->nN fg->K (ql fg) μ
 | _=>False
def As (cR cS:Addr):jg:=fun ds μ K=>match ds with
 | [.mr k,.int most]=>(∃ m,μ[0]?=some m)/\μ[k]?=some .box/\k<μ.length/\1<=most/\most<=40/\∀(n:Int) (fg:List Str),1<=n->n<=most->nN fg->K (.tup [.mr μ.length,rl ⟨n,[],[]⟩,ql fg]) (μ++[.ins cR zJ [.mr (μ.length+1),.mr (μ.length+2),.int 0],.lst [lj cS ⟨n,[],[]⟩],.lst []])
 | _=>False
def sf:jg:=fun ds μ K=>match ds with
 | [x,.str nm,.int bar]=>∃ dj y,dcv μ x=some (dj.map (fun p=>eB p.1),dj.map fun p=>kq p.2)/\yT dj/\dJ dj nm=some y/\K (DF (f9 dj nm bar)) μ
 | _=>False
def agesR (dj:List (Str×Pt)):List (Str×Int):=dj.map fun p=>(p.1,(fO dj p.1).2)
def xf:jg:=fun ds μ K=>match ds with
 | [x]=>∃ S m,x=qd eB kq S.dj/\oS S m/\K (qd eB D.int (agesR S.dj)) μ
 | _=>False
def xa:jg:=fun ds μ K=>match ds with
 | [x,.str nm]=>∃ S m y,x=rl S/\oS S m/\dJ S.dj nm=some y/\K (.str (txt (fO S.dj nm).1)) μ
 | _=>False
def r8:jg:=fun ds μ K=>match ds with
 | [x]=>∃ S m,x=rl S/\oS S m/\K (tN S) μ
 | _=>False
def wZ:jg:=fun ds μ K=>match ds with
 | [x]=>∃ S m,x=rl S/\oS S m/\K (FH S) μ
 | _=>False
def xb:jg:=fun ds μ K=>match ds with
 | [x,y]=>∃ S d m,x=rl S/\y=oQ d/\oS S m/\m<=1000/\ik S d=none/\K (rl (mF S d)) μ
 | _=>False
def qv (dj:List (Str×Pt)):List Str:=(dj.map (·.1)).filter fun z=>!dj.any fun p=>gE z p.2
def Ci:jg:=fun ds μ K=>match ds with
 | [x]=>∃ S m,x=qd eB kq S.dj/\oS S m/\K (ql (qv S.dj)) μ
 | _=>False
def Ck:jg:=fun ds μ K=>match ds with
 | [.mr k,x,y]=>μ[k]?=some .box/\∃ S m fg,x=rl S/\y=ql fg/\oS S m/\nN fg/\∀ d,ik S d=none->Cw d->K (oQ d) μ
 | _=>False
def vo (cR cS:Addr):jg:=fun ds μ K=>match ds with
 | [.mr k,x]=>(∃ m,μ[0]?=some m)/\∃ j1 j2 ss rs d S,eU cR cS μ k j1 j2 ss rs d/\ss[d]?=some S/\x=rl S/\K (.bl true) μ
 | _=>False
def oS.new {n:Int}(h1:1<=n)(h2:n<=40):oS ⟨n,[],[]⟩ 0 :=
 ⟨h1,h2,⟨.nil,fun _ _ _ _ e=>(by cases e)⟩,aY _,fun _ _ _ e=>(by cases e),fun _ _ _ _ e=>(by cases e),fun _ h=>(nomatch h),ah _,.nil⟩
def eU.made {cR cS:Addr}{μ:MS}{n:Int}(h0:μ≠[])(h1:1<=n)(h2:n<=40):eU cR cS (μ++[.ins cR zJ [.mr (μ.length+1),.mr (μ.length+2),.int 0],.lst [lj cS ⟨n,[],[]⟩],.lst []]) μ.length (μ.length+1) (μ.length+2) [⟨n,[],[]⟩] [] 0:=by
 have hl:0<μ.length:=List.length_pos_iff.mpr h0
 refine⟨by omega,by omega,by omega,by omega,by omega,by omega,?_,?_,?_,rfl,ah _,fun i S e=>?_,aY _⟩
 ·rw[qx (ah _),aT];rfl
 ·rw[qx (by omega),bW];rfl
 ·rw[qx (by omega),bW];rfl
 ·cases i with
  | zero=>cases e;exact .new h1 h2
  | succ i=>cases e
def heard_at {S:RS}{m:Nat}(h:oS S m)(bar:Nat)(hb:(bar:Int)<S.n):∀ nm x,dJ S.dj nm=some x->∃ b a c,dJ S.dj (f9 S.dj nm bar).1=some (.fst b a)/\b[bar]?=some c/\(fO S.dj nm).1[bar]?=some c:=by
 refine En h.kp (fun nm=>∃ b a c,dJ S.dj (f9 S.dj nm bar).1=some (.fst b a)/\b[bar]?=some c/\(fO S.dj nm).1[bar]?=some c) (fun nm b a e=>?_) (fun nm l r p e h1 h2=>?_)
 ·obtain⟨f1,_⟩:=h.fs nm b a e
  rw[rh e,DD e]
  exact⟨b,a,b[bar]'(by omega),e,ux _,ux _⟩
 ·obtain⟨p1,p2⟩:=h.js nm l r p e
  obtain⟨⟨yl,el⟩,⟨yr,er⟩⟩:=h.kp.there e
  obtain⟨t1,_⟩:=Bh h l yl el
  obtain⟨t2,_⟩:=Bh h r yr er
  rw[yZ h.kp e,tk_jn h.kp e]
  obtain⟨b,a,c,g1,g2,g3⟩:=h1
  obtain⟨b',a',c',k1,k2,k3⟩:=h2
  by_cases q:(bar:Int)<p
  ·rw[aj q]
   exact⟨b,a,c,g1,g2,by show(jnT _ _ p)[bar]?=_;rw[jnT_low (by omega) q];exact g3⟩
  ·rw[ai q]
   exact⟨b',a',c',k1,k2,by show(jnT _ _ p)[bar]?=_;rw[jnT_high (by omega) (by omega) (by omega)];exact k3⟩
end L2
namespace L2
open PySem PySem.Spec PyProof.Rows PyProof
section
variable {X:Cx}{pos:Pos}
def tPar3 (i j k:Nat)(ta:TA):TS:=fun D σ H=>ta σ H fun vs H1=>∃ v w u,vs=[v,w,u]/\D.nx (((σ.set i (some v)).set j (some w)).set k (some u)) H1
def ps_par3 {i j k:Nat}{x y z:Str}{a b c:Expr}{ta:TA}{px py pz pt:Pos}{kt k2 pt2}(hc:X.calm=true)(hN:X.N.Nodup)(hi:X.N[i]?=some x)(hj:X.N[j]?=some y)(hk:X.N[k]?=some z)(hij:i≠j)(hik:i≠k)(hjk:j≠k)
 (hx:X.env.scope.names.lookup x=some .local) (hy:X.env.scope.names.lookup y=some .local) (hz:X.env.scope.names.lookup z=some .local) (ha:PA X [a,b,c] ta)
 (hw:swappedStores [.Tuple [.Name x px,.Name y py,.Name z pz] kt pt] (.Tuple [a,b,c] k2 pt2) X.env=pure (some [x,y,z]))
 (hs:swapsWithSole [.Tuple [.Name x px,.Name y py,.Name z pz] kt pt] (.Tuple [a,b,c] k2 pt2) pos.line X.env=pure false:=by rfl) :
 PS X (.Assign [.Tuple [.Name x px,.Name y py,.Name z pz] kt pt] (.Tuple [a,b,c] k2 pt2) pos) (tPar3 i j k ta):=by
 intro dg s σ H D I h
 rw[exec_Assign_arm]
 refine eI (cP ?_)
 rw[hs]
 refine eI (ar ?_)
 rw[ai (by decide)]
 refine eI (Tuple_ (fK (ha _ dg s σ H _ I h) fun us s1 qJ=>?_))
 obtain⟨vs,H1,I1,r1,q1⟩:=qJ
 obtain⟨v,w,u,e1,q1⟩:=q1
 subst e1
 obtain⟨u1,u2,u3,rfl,rv,Bu,ru⟩:∃ u1 u2 u3,us=[u1,u2,u3]/\eP v u1/\eP w u2/\eP u u3:=by
  cases r1 with
  | cons p q =>
   cases q with
   | cons p' q' =>
    cases q' with
    | cons p'' q'' =>
     cases q''
     exact⟨_,_,_,rfl,p,p',p''⟩
 refine a6 ?_ (by show 3<=sizeLine;decide)
 have I2:Inv X dg σ H1 { s1 with heap:=s1.heap.push { cls:=.type "tuple",data:=.seq [u1,u2,u3].toArray}}:=I1.dj (t':=s1.toks) fun b o e=>jt _ e
 rw[hw]
 refine eI (ar ?_)
 show wpAny (model X.prog X.w) X.A (do rule "assign.swapped-stores";let items <- unpackItems (.ref s1.heap.objs.size) 3 none;assignInOrder [fun v=>bindName X.env z v,fun v=>bindName X.env y v,fun v=>bindName X.env x v] items.reverse;pure Flow.next) _ _ _
 refine eI (wpAny_rule (eI (unpackItems_tuple (items:=#[u1,u2,u3]) (I.ok.hd hc) (IsTup.new s1.heap _) fun h' B8=>?_)))
 have I3:=I2.dj (h':=h') (t':=s1.toks) fun b o e=>B8 b o (aF (jK e)) e
 show wpAny _ _ (assignInOrder [fun v=>bindName X.env z v,fun v=>bindName X.env y v,fun v=>bindName X.env x v] [u3,u2,u1] >>= fun _=>pure Flow.next) _ _ _
 refine eI (c4 (wpAny_bindName (lh I3 hN hk (.inl hz) ru (fun s2 I4=>?_) (.inr hz))))
 refine c4 (wpAny_bindName (lh I4 hN hj (.inl hy) Bu (fun s3 I5=>?_) (.inr hy)))
 refine c4 (wpAny_bindName (lh I5 hN hi (.inl hx) rv (fun s4 I6=>assignInOrder_nil (ar ?_)) (.inr hx)))
 rw[cE _ _ (bf hjk),cE _ _ (bf hik),cE _ _ (bf hij)]at I6
 exact⟨_,H1,I6,q1⟩
def dPar3 (i j k:Nat)(w:DA):Ds:=fun N ρ μ=>w ρ μ fun ds dX=>match ds with
 | [a,b,c]=>N.nx (((ρ.set i (some a)).set j (some b)).set k (some c)) dX
 | _=>False
def s_par3 {i j k:Nat}{x y z:Str}{a b c:Expr}{w:DA}{px py pz pt:Pos}{kt k2 pt2}(hN:X.N.Nodup)(hi:X.N[i]?=some x)(hj:X.N[j]?=some y)(hk:X.N[k]?=some z)(hij:i≠j)(hik:i≠k)(hjk:j≠k)
 (hx:X.env.scope.names.lookup x=some .local) (hy:X.env.scope.names.lookup y=some .local) (hz:X.env.scope.names.lookup z=some .local) (ha:uP X [a,b,c] w) (hc:X.calm=true:=by rfl)
 (hw:swappedStores [.Tuple [.Name x px,.Name y py,.Name z pz] kt pt] (.Tuple [a,b,c] k2 pt2) X.env=pure (some [x,y,z]):=by rfl)
 (hs:swapsWithSole [.Tuple [.Name x px,.Name y py,.Name z pz] kt pt] (.Tuple [a,b,c] k2 pt2) pos.line X.env=pure false:=by rfl) :
 xA X (.Assign [.Tuple [.Name x px,.Name y py,.Name z pz] kt pt] (.Tuple [a,b,c] k2 pt2) pos) (dPar3 i j k w):=(ps_par3 hc hN hi hj hk hij hik hjk hx hy hz ha hw hs).imp fun E σ H ⟨φ,ρ,μ,N,A,M,w,L⟩ =>
 ⟨φ,ρ,μ,_,A,M,w,fun ds dX eM vs H1 k1 f1 M1 i1=>by
  split at k1
  ·obtain⟨v1,r1,rfl,g1,v2,r2,rfl,g2,v3,r3,rfl,g3,g4⟩:=i1
   cases(show r3=[]from g4)
   exact⟨_,_,_,rfl,L.nx _ dX eM _ H1 k1 f1 ((((A.mono f1).set g1 i).set g2 j).set g3 k) M1⟩
  ·exact k1.elim⟩
end
def jG {μ g:MS}{x:MO}:(μ++x::g)[μ.length]?=some x:=by rw[qx (ah _),aT];rfl
def nv {μ g:MS}{x y:MO}:(μ++x::g).set μ.length y=μ++y::g:=by rw[List.set_append_right _ _ (ah _),aT];rfl
def named_of {cs:List Nat}(h1:1<=cs.length)(h2:cs.length<=8)(h:∀ c∈cs,97<=c/\c<=122):fY (txt cs)=true:=by
 unfold fY
 rw[show(txt cs).length=cs.length from D8 cs,ak h1,ak h2]
 show(cs.all _)=true
 rw[cw]
 intro c hc
 obtain⟨a,b⟩:=h c hc
 rw[ak a,ak b];rfl
def abc_at {v:Int}(h0:0<=v)(h1:v<26):∃ c,qV (Str.ofString "abcdefghijklmnopqrstuvwxyz").cps.toList v=some c/\97<=c/\c<=122:=by
 obtain⟨c,e,hc⟩:=xr (l:=(Str.ofString "abcdefghijklmnopqrstuvwxyz").cps.toList) h0 h1
 have:((Str.ofString "abcdefghijklmnopqrstuvwxyz").cps.toList.all fun c=>decide (97<=c)&&decide (c<=122))=true:=by decide +kernel
 have:=List.all_eq_true.mp this c hc
 simp only[aO,bc]at this
 exact⟨c,e,this⟩
def atI_ex {α:Type}{xs:List α}{v:Int}(h0:0<=v)(h1:v<(xs.length:Int)):∃ x∈xs,qV xs v=some x:=by
 obtain⟨n,rfl⟩:∃ n:Nat,v=(n:Int):=⟨v.toNat,by omega⟩
 have hn:n<xs.length:=by omega
 exact⟨xs[n],cM hn,kQ (ux hn)⟩
def jH {α β:Type}{g:α->β}{xs:List α}{v:Int}(h0:0<=v)(h1:v<(xs.length:Int)):∃ x∈xs,qV (xs.map g) v=some (g x):=by
 obtain⟨n,rfl⟩:∃ n:Nat,v=(n:Int):=⟨v.toNat,by omega⟩
 have hn:n<xs.length:=by omega
 exact⟨xs[n],cM hn,sM (ux hn)⟩
def pre_get {dj pre post:List (Str×Pt)}{γ:Type}{g:Str->γ}{z:Str}{y:Pt}(nd:(dj.map (·.1)).Nodup)(hs:dj=pre++(z,y)::post) :
 dJ dj z=some y/\il dj z=pre.length/\pre.length<dj.length/\dJ (pre.map fun p=>(p.1,g p.1)) z=none/\∀ w,il dj w<pre.length->dJ (pre.map fun p=>(p.1,g p.1)) w=some (g w):=by
 have hz:z∉pre.map (·.1):=fun q=>by
  rw[hs,aK,bF]at nd
  exact nd.2.2 z q z (List.mem_map.mpr ⟨_,aC,rfl⟩) rfl
 refine⟨gB nd (by rw[hs];exact aH _ aC),?_,by rw[hs,lx,aI];omega,?_,fun w hw=>?_⟩
 ·unfold il
  rw[hs,aK,cj,ai hz,ao,bD,show((z,y).1==z)=true from cq _,fF]
  simp
 ·cases q:dJ (pre.map fun p=>(p.1,g p.1)) z with
  | none=>rfl
  | some w =>
   have:=fu.mp (show(dJ (pre.map fun p=>(p.1,g p.1)) z).isSome=true by rw[q];rfl)
   rw[aG]at this
   exact absurd this hz
 ·have hm2:w∈pre.map (·.1):=by
   unfold il at hw
   rw[hs,aK,cj]at hw
   by_cases q:w∈pre.map (·.1)
   ·exact q
   ·rw[ai q,fF]at hw;omega
  obtain⟨p,hp,rfl⟩:=List.mem_map.mp hm2
  have nd2:((pre.map fun p=>(p.1,g p.1)).map (·.1)).Nodup:=by
   rw[aG]
   rw[hs,aK,bF]at nd
   exact nd.1
  exact gB nd2 (List.mem_map.mpr ⟨p,hp,rfl⟩)
def ages_get {dj:List (Str×Pt)}(nd:(dj.map (·.1)).Nodup){p:Str×Pt}(hp:p∈dj):dJ (agesR dj) p.1=some (fO dj p.1).2:=by
 refine gB ?_ (List.mem_map.mpr ⟨p,hp,rfl⟩)
 unfold agesR
 rw[aG]
 exact nd
def range_str (l:List Nat):((List.range l.length).filterMap fun i=>some (D.str ⟨#[l.getD i 0]⟩))=l.map fun c=>D.str ⟨#[c]⟩:=by
 rw[show(fun i=>some (D.str ⟨#[l.getD i 0]⟩))=some ∘ (fun i:Nat=>D.str ⟨#[l.getD i 0]⟩)from rfl,List.filterMap_eq_map]
 refine List.ext_getElem? fun i=>?_
 rw[uw,uw]
 by_cases h:i<l.length
 ·rw[cO h,ux h]
  simp[aZ,h]
 ·rw[List.getElem?_eq_none (by rw[gxJ];omega),List.getElem?_eq_none (by omega)];rfl
end L2
namespace L2
open PySem PySem.Spec PyProof.Rows PyProof
def TV (c:Dt)(ρ:DE)(μ:MS)(b:Bool):Prop:=∀ K:Bool->MS->Prop,K b μ->c ρ μ K
section
variable {a c:Dt}{t u:Ds}{N:DN}{ρ:DE}{μ:MS}{x y b:Bool}{e:De}
def TV.iu (h:∀ K:DK,K (.bl b) μ->e ρ μ K):TV (qM e) ρ μ b:=fun K k=>h _ k
def TV.and (h1:TV a ρ μ x)(h2:x=true->TV c ρ μ y):TV (dtAnd a c) ρ μ (x&&y):=fun K k=>h1 _ (by
 cases x with
 | true=>rw[aj rfl];exact h2 rfl K k
 | false=>rw[ai (by decide)];exact k)
def TV.or (h1:TV a ρ μ x)(h2:x=false->TV c ρ μ y):TV (dtOr a c) ρ μ (x||y):=fun K k=>h1 _ (by
 cases x with
 | true=>rw[aj rfl];exact k
 | false=>rw[ai (by decide)];exact h2 rfl K k)
def TV.not (h1:TV a ρ μ x):TV (dtNot a) ρ μ (!x):=fun K k=>h1 _ k
def TV.to (h:TV a ρ μ x)(e:x=y):TV a ρ μ y:=e▸h
def eZ (b:Bool)(h:TV c ρ μ b)(ht:b=true->t N ρ μ)(hu:b=false->u N ρ μ):dIfS c t u N ρ μ:=h _ (by
 cases b with
 | true=>rw[aj rfl];exact ht rfl
 | false=>rw[ai (by decide)];exact hu rfl)
end
def fZ {N:DN}{ρ:DE}{μ:MS}(h:N.nx ρ μ):dNx N ρ μ:=h
def sC {i:Nat}{w:De}{N:DN}{ρ:DE}{μ μ':MS}{d:D}(h:∀ K:DK,K d μ'->w ρ μ K)(k:N.nx (ρ.set i (some d)) μ'):dSet i w N ρ μ:=h _ k
def yj {μ:MS}{a b:MO}:(μ++[a,b])[μ.length+1]?=some b:=by rw[qx (by omega),bW];rfl
def zb {μ:MS}{a b y:MO}:(μ++[a,b]).set (μ.length+1) y=μ++[a,y]:=by rw[List.set_append_right _ _ (by omega),bW];rfl
def dM {α β:Type}(κ:α->Key)(f:β->D)(l:List (α×β)):MO:=.iD (l.map fun p=>κ p.1) (l.map fun p=>f p.2)
section
variable {α β:Type}[DecidableEq α]{κ:α->Key}(hi:∀ a b,κ a=κ b->a=b){f:β->D}{μ:MS}{j:Nat}{l:List (α×β)}
include hi
def pd (hj:μ[j]?=some (dM κ f l))(hl:l.length<sizeLine){i:D}{k:α}(hk:nT i=some (κ k))(v:β){d:D}(hd:d=f v){P:MS->Prop}(h:P (μ.set j (dM κ f (gc l k v)))) :
 ∃ kd Dw:List (Key×D),μ[j]?=some (.iD (kd.map (·.1)) (kd.map (·.2)))/\kd.length<sizeLine/\(nT i).map (fun k=>dput kd k d)=some Dw/\P (μ.set j (.iD (Dw.map (·.1)) (Dw.map (·.2)))):=by
 subst hd
 obtain⟨e1,e2⟩:=gA κ f l
 refine⟨l.map fun p=>(κ p.1,f p.2),_,by rw[hj,<- e1,<- e2];rfl,by rw[kd_len];exact hl,by rw[hk];rfl,?_⟩
 show P (μ.set j (.iD ((dput _ (κ k) (f v)).map (·.1)) ((dput _ (κ k) (f v)).map (·.2))))
 rw[Ep hi f k v l,<- (gA κ f _).1,<- (gA κ f _).2]
 exact h
def pop_at (hj:μ[j]?=some (dM κ f l)){i:D}{k:α}(hk:nT i=some (κ k)){v:β}(he:dJ l k=some v){P:D->MS->Prop}(h:P (f v) (μ.set j (dM κ f (hX l k)))) :
 ∃(kd:List (Key×D)) (k':Key) (d:D),μ[j]?=some (.iD (kd.map (·.1)) (kd.map (·.2)))/\nT i=some k'/\pI kd k'=some d/\P d (μ.set j (.iD ((kd.filter fun p=>decide (p.1≠k')).map (·.1)) ((kd.filter fun p=>decide (p.1≠k')).map (·.2)))):=by
 obtain⟨e1,e2⟩:=gA κ f l
 refine⟨l.map fun p=>(κ p.1,f p.2),κ k,f v,by rw[hj,<- e1,<- e2];rfl,hk,by rw[Av hi f k l,he];rfl,?_⟩
 rw[FR hi f k l,<- (gA κ f _).1,<- (gA κ f _).2]
 exact h
end
def qc {μ:MS}{j:Nat}{ks:List Key}{ds:List D}(h:μ[j]?=some (.iD ks ds)):uW μ j=some (ks,ds):=by unfold uW;rw[h]
def EA {α β:Type}[DecidableEq α]{l:List (α×β)}{k:α}(h:dJ l k=none):hX l k=l:=by
 unfold hX
 refine List.filter_eq_self.mpr fun p hp=>ak fun e=>?_
 have:=fu.mpr (List.mem_map.mpr ⟨p,hp,rfl⟩:p.1∈l.map (·.1))
 rw[e,h]at this
 cases this
def aput_le {α β:Type}[DecidableEq α]{l:List (α×β)}{k:α}{v:β}:(gc l k v).length<=l.length+1:=by
 unfold gc
 split
 ·rw[fF];omega
 ·rw[lx,aU];exact ah _
def CT {n:Nat}{ds:List D}{R:D->D->Prop}(hR:∀ d,xG n d->R d d)(h:qa n ds):uZ R ds ds:=⟨rfl,fun i a b e1 e2=>by
 rw[e1]at e2;cases e2
 exact hR a (vk h (Ak e1))⟩
def frz_two {μ:MS}{n:Int}{o1 o2:Obj}{k1 k2:List (Key×V)}{d1 d2:List D}(h1:qa μ.length d1)(h2:qa μ.length d2):xD μ.length (μ++[.nX o1 k1 d1,.nX o2 k2 d2]) 2 (.tup [.int n,.mr μ.length,.mr (μ.length+1)]) (.tup [.int n,.lD (k1.map (·.1)) d1,.lD (k2.map (·.1)) d2]):=by
 have slf:∀ d,xG μ.length d->xD μ.length (μ++[.nX o1 k1 d1,.nX o2 k2 d2]) 0 d d:=fun d h=>⟨rfl,h⟩
 refine .inr (.inr (.inr (.inl ⟨_,_,rfl,rfl,rfl,fun i a b e1 e2=>?_⟩)))
 match i with
 | 0=>cases e1;cases e2;exact .inl ⟨rfl,trivial⟩
 | 1=>cases e1;cases e2;exact .inr (.inr (.inr (.inr (.inl ⟨_,o1,k1,d1,d1,rfl,ah _,jG,rfl,CT slf h1⟩))))
 | 2=>cases e1;cases e2;exact .inr (.inr (.inr (.inr (.inl ⟨_,o2,k2,d2,d2,rfl,Nat.le_succ _,yj,rfl,CT slf h2⟩))))
 | i+3=>cases e1
def lone_map (dj:List (Str×Pt)):(dj.filterMap fun p=>if(dj.any fun q=>gE p.1 q.2)=true then none else some (D.str p.1))=(qv dj).map D.str:=by
 unfold qv
 have key:∀ l:List (Str×Pt),(l.filterMap fun p=>if(dj.any fun q=>gE p.1 q.2)=true then none else some (D.str p.1))=((l.map (·.1)).filter fun z=>!dj.any fun p=>gE z p.2).map D.str:=by
  intro l
  induction l with
  | nil=>rfl
  | cons p l ih =>
   rw[bM,ao,bb]
   by_cases q:(dj.any fun q=>gE p.1 q.2)=true
   ·rw[aj q,ai (by rw[q];decide)];exact ih
   ·rw[ai q,aj (by rw[Bool.not_eq_true]at q;rw[q];rfl),ao,ih]
 exact key dj
def jT (S:RS)(fg:List Str):List Str:=fg.filter fun z=>!(dJ S.dj z).isSome&&decide (S.dj.length<20)
def fresh_map (S:RS)(fg:List Str):(fg.filterMap fun z=>if(!(dJ S.dj z).isSome&&decide (S.dj.length<20))=true then some (D.str z)else none)=(jT S fg).map D.str:=by
 unfold jT
 induction fg with
 | nil=>rfl
 | cons z fg ih =>
  rw[bM,bb]
  by_cases q:(!(dJ S.dj z).isSome&&decide (S.dj.length<20))=true
  ·rw[aj q,aj q,ao,ih]
  ·rw[ai q,ai q];exact ih
def yF {S:RS}{fg:List Str}(h:nN fg){z:Str}(hz:z∈jT S fg):iV S z=none/\z.length<=8:=by
 unfold jT at hz
 obtain⟨hz,q⟩:=List.mem_filter.mp hz
 simp only[aO,Bool.not_eq_true',bc]at q
 have hn:=h.2.2 z hz
 refine⟨?_,?_⟩
 ·unfold iV gu
  rw[hn,q.1,ai (by decide),ai (by decide),ai (by omega)]
 ·unfold fY at hn
  simp only[aO,bc]at hn
  exact hn.1.2
def fresh_any {S:RS}{fg:List Str}(h:nN fg)(h0:S.dj=[]):0<(jT S fg).length:=by
 unfold jT
 rw[h0]
 have:(fg.filter fun z=>!(dJ ([]:List (Str×Pt)) z).isSome&&decide (([]:List (Str×Pt)).length<20))=fg:=List.filter_eq_self.mpr fun z _=>rfl
 rw[this]
 have:=h.1
 omega
def or_no {a b:Option Nat}(h1:a=none)(h2:b=none):a.or b=none:=by rw[h1,h2];rfl
def Eg {S:RS}{p:Str×Pt}(hp:p∈S.dj):gu S p.1=true:=fu.mpr (List.mem_map.mpr ⟨p,hp,rfl⟩)
def wj {S:RS}{p:Int}(h1:1<=p)(h2:p<S.n):fS S p=none:=by unfold fS;rw[aj ⟨h1,h2⟩]
def age_ok {a:Int}(h1:0<=a)(h2:a<=20):jL a=none:=by unfold jL;rw[aj ⟨h1,h2⟩]
def ref_put {S:RS}{z:Str}{l:List Nat}{a:Int}(h:iV S z=none)(hl:(l.length:Int)=S.n)(ho:OX l)(a0:0<=a)(a1:a<=20):ik S (.put z (txt l) a)=none:=by
 refine or_no h ?_
 have:A8 (txt l)=true:=by
  unfold A8
  refine List.all_eq_true.mpr fun c hc=>?_
  rcases ho c hc with q | q <;> rw[q]<;> rfl
 show(if(((txt l).length:Nat):Int)=S.n/\A8 (txt l)=true then jL a else some 0)=none
 rw[aj ⟨by rw[lM];exact hl,this⟩]
 exact age_ok a0 a1
def ref_join {S:RS}{z:Str}{p q:Str×Pt}{i:Int}(h:iV S z=none)(hp:p∈S.dj)(hq:q∈S.dj)(hi:i∈oE S):ik S (.join z p.1 q.1 i)=none:=by
 refine or_no h ?_
 unfold oE at hi
 obtain⟨hi,e⟩:=List.mem_filter.mp hi
 obtain⟨j,hj,rfl⟩:=List.mem_map.mp hi
 have hj:=List.mem_range.mp hj
 have e:(dJ S.fe (1+(j:Int))).isSome=false:=by simpa using e
 show(if gu S p.1=false then some 11 else if gu S q.1=false then some 11 else(fS S _).or (if(dJ S.fe _).isSome=true then some 12 else none))=none
 rw[Eg hp,Eg hq,ai (by decide),ai (by decide),e,ai (by decide),wj (by omega) (by omega)]
 rfl
def ref_drop {S:RS}{z:Str}(h:z∈qv S.dj):ik S (.drop z)=none:=by
 unfold qv at h
 obtain⟨h1,h2⟩:=List.mem_filter.mp h
 have hh:gu S z=true:=fu.mpr h1
 have hn:kC S z=false:=by unfold kC;simpa using h2
 show(if gu S z=false then some 11 else if kC S z=true then some 14 else none)=none
 rw[hh,hn,ai (by decide),ai (by decide)]
def yp {S:RS}{p:Str×Pt}{bar:Int}{sg:Str}(hp:p∈S.dj)(h1:0<=bar)(h2:bar<S.n)(hs:sg = "o"\/sg = "x"):ik S (.found p.1 bar sg)=none:=by
 show(if gu S p.1=false then some 11 else if 0<=bar/\bar<S.n then(if sg = "o"\/sg = "x" then none else some 0)else some 6)=none
 rw[Eg hp,ai (by decide),aj ⟨h1,h2⟩,aj hs]
def isFst:Pt->Bool
 | .fst _ _=>true
 | .jn _ _ _=>false
def CG {it:D->MS->(Option D->MS->Prop)->Prop}{c:MS->Prop}{μ:MS}:∀(l:List Int),c μ->∀ {K:List D->MS->Prop},(∀ x∈l,∀(K':Option D->MS->Prop),(∀ a:Nat,97<=a/\a<=122->K' (some (.str ⟨#[a]⟩)) μ)->it (.int x) μ K')->(∀ cs:List Nat,cs.length=l.length->(∀ a∈cs,97<=a/\a<=122)->K (cs.map fun a=>.str ⟨#[a]⟩) μ)->sD it c (l.map D.int) μ K
 | [],hc,K,_,k=>⟨hc,k [] rfl fun _ h=>nomatch h⟩
 | x::l,hc,K,h,k=>⟨hc,h x aC _ fun a ha=>CG l hc (fun y hy=>h y (nV _ hy)) fun cs cl cr=>k (a::cs) (by rw[aI,aI,cl]) fun b hb=>by
  rcases List.mem_cons.mp hb with q | q
  ·rw[q];exact ha
  ·exact cr b q⟩
end L2
namespace L2
open PySem PySem.W PyProof.Rows
noncomputable abbrev yV:=Fast.tw10156331382660048174
noncomputable abbrev twDen:=Fast.tw11892475500146522536
noncomputable def runT (p:ae)(w:af)(n₀:Nat)(ann:Option Value):Nat->SharedT->Thread->Option SharedT
 | 0,_,_=>none
 | n+1,s,t=>match through t with
  | true=>some s
  | false=>match stepOk n₀ ann t with
   | false=>none
   | true=>match yV (twDen vH) p w s t with
    | some (s',t')=>runT p w n₀ ann n s' t'
    | none=>none
def Fh {p:ae}{w:af}{n₀:Nat}{ann:Option Value}:∀ {n:Nat} {s s':SharedT} {t:Thread},runT p w n₀ ann n s t=some s'->topRun treeTable p w n₀ ann n s.abs t=some s'.abs
 | 0,_,_,_,h=>by cases h
 | n+1,s,s',t,h=>by
  unfold runT at h
  unfold topRun
  cases he:through t with
  | true=>rw[he]at h;cases h;rfl
  | false =>
   rw[he]at h
   cases hk:stepOk n₀ ann t with
   | false=>rw[hk]at h;cases h
   | true =>
    rw[hk]at h
    cases hs:yV (twDen vH) p w s t with
    | none=>rw[hs]at h;cases h
    | some r =>
     obtain⟨s2,t2⟩:=r
     rw[hs]at h
     have hs':stepT (denote treeTable) p w s t=some (s2,t2):=by
      rw[show stepT=yV from Fast.te10156331382660048174,show denote=twDen from Fast.te11892475500146522536,show treeTable=vH from Fast.te14364793385576792824];exact hs
     rw[stepT_spec hs'];exact Fh h
noncomputable def boT (P:Params):BT:=(.node (boot_o_0 P) (.node (boot_o_1 P) (.node (boot_o_3 P) (.node (boot_o_7 P) .nil .nil) .nil) (.node (boot_o_5 P) (.node (boot_o_9 P) .nil .nil) .nil)) (.node (boot_o_2 P) (.node (boot_o_4 P) (.node (boot_o_8 P) .nil .nil) .nil) (.node (boot_o_6 P) (.node (boot_o_10 P) .nil .nil) .nil)))
noncomputable abbrev ST0 (w:af)(os:OsState):SharedT:=⟨boT w.params,11,(boot_heap w.params).life,#[],boot_drawn,boot_toks,os⟩
def boT_abs (w:af)(os:OsState):(ST0 w os).abs=S00 w os:=by kernel_rfl
end L2
namespace L2
open PySem PySem.Spec PyProof.Rows PyProof PySem.W
def AY (p q:ae)(loose:List Str)(Xt:Shared->Bool){α:Type}(Yf:Shared->α)(Ya:af->α)(M:Nat)(row:String)(b:Bool):Prop:=∀(w:af) (os:OsState),(EU vH p (w.withFollow row b) 11 (some (.ref 6)) M (S00 w os) (topStub p)).map (fun s =>
 (W.staticsOk (importedModules p.main.body) (W.boot_heap w.params) s.heap&&W.namesBound p s.heap&&W.gensDone s&&W.laidKept (W.boot_heap w.params) s.heap,DB q loose (importedModules p.main.body) Xt true s,Yf s))=some (true,W.openGood q loose,Ya w)
def left_ofR {p q:ae}{loose:List Str}{Xt:Shared->Bool}{α:Type}{Yf:Shared->α}{Ya:af->α}{N M:Nat}{row:String}
 (e:W.opening p=W.plainProg p.main.scope.names) (hN:Nat.ble 600 N=true) (f:∀ s,fenceModules? p s=some s) (le:Nat.ble M N=true)
 (h0:AY p q loose Xt Yf Ya M row false) (h1:AY p q loose Xt Yf Ya M row true):W.LeftO p q loose Xt Yf Ya N:=left_of e hN f le fun w os=>by
 have h:∀ b,AY p q loose Xt Yf Ya M row b:=fun b=>by cases b;exact h0;exact h1
 have:=h (w.params.followText row) w os
 rwa [World.withFollow_self]at this
def LeftT (p q:ae)(loose:List Str)(Xt:Shared->Bool){α:Type}(Yf:Shared->α)(Ya:af->α)(M:Nat)(row:String)(b:Bool):Prop:=∀(w:af) (os:OsState),(runT p (w.withFollow row b) 11 (some (.ref 6)) M (ST0 w os) (topStub p)).map (fun s =>
 (W.staticsOk (importedModules p.main.body) (W.boot_heap w.params) s.abs.heap&&W.namesBound p s.abs.heap&&W.gensDone s.abs&&W.laidKept (W.boot_heap w.params) s.abs.heap,DB q loose (importedModules p.main.body) Xt true s.abs,Yf s.abs))=some (true,W.openGood q loose,Ya w)
def LeftT.at {p q:ae}{loose:List Str}{Xt:Shared->Bool}{α:Type}{Yf:Shared->α}{Ya:af->α}{M:Nat}{row:String}{b:Bool}(h:LeftT p q loose Xt Yf Ya M row b):AY p q loose Xt Yf Ya M row b:=fun w os=>by
 obtain⟨sT,r,e⟩:=Option.map_eq_some_iff.mp (h w os)
 have r2:=Fh r
 rw[boT_abs,show topRun=EU from Fast.te14082659384304107361,show treeTable=vH from Fast.te14364793385576792824]at r2
 rw[r2]
 exact bL some e
section
variable {cR cS:Addr}{μ:MS}{k j1 j2:Nat}{ss:List RS}{rs:List Dd}{S:RS}{e:Dd}
def eU.grow (ra:eU cR cS μ k j1 j2 ss rs rs.length)(es:ss[rs.length]?=some S)(hr:ik S e=none)(iT:rs.length<900) :
 ss.take (rs.length+1)=ss/\rs.take rs.length=rs/\eU cR cS (mB cR cS μ k j1 j2 (ss++[mF S e]) (rs++[e]) (rs.length+1)) k j1 j2 (ss++[mF S e]) (rs++[e]) (rs.length+1)/\(ss++[mF S e])[rs.length+1]?=some (mF S e):=by
 have hl:=ra.len
 refine⟨aX (by omega),aX (ah _),ra.put ?_ ?_ (fun i T ei=>?_) ?_,?_⟩
 ·rw[lx,lx,hl];rfl
 ·rw[lx];exact ah _
 ·by_cases h:i<ss.length
  ·rw[uU h]at ei;exact ra.wf i T ei
  ·rw[qx (by omega)]at ei
   have h2:=(lK ei).1
   rw[aU]at h2
   have:i=rs.length+1:=by omega
   subst this
   rw[hl,aT]at ei
   cases ei
   exact(ra.wf _ S es).do hr
 ·rw[lx,aU];omega
 ·rw[qx (by omega),hl,aT];rfl
end
def sm_dd {n:Nat}(e:Dd):oA (n+1) (oQ e):=by
 cases e <;> refine tf (by simp only[aI,bX];omega) (fun d hd=>?_)<;> simp only[bH,br,cI]at hd
 ·rcases hd with rfl | rfl | rfl | rfl <;> first | exact jd | exact ku
 ·rcases hd with rfl | rfl | rfl | rfl | rfl <;> first | exact jd | exact ku
 ·rcases hd with rfl | rfl | rfl | rfl <;> first | exact jd | exact ku
 ·rcases hd with rfl | rfl | rfl <;> first | exact jd | exact ku
 ·rcases hd with rfl | rfl <;> first | exact jd | exact ku
 ·rcases hd with rfl | rfl <;> first | exact jd | exact ku
 ·rcases hd with rfl | rfl <;> first | exact jd | exact ku
def sm_dds {n:Nat}{rs:List Dd}(h:rs.length<=100000):oA (n+2) (.lst (rs.map oQ)):=vQ (by rw[fF];exact h) fun d hd=>by
 obtain⟨q,_,rfl⟩:=List.mem_map.mp hd;exact sm_dd q
def fP {cR cS:Addr}{μ:MS}{k j1 j2 d:Nat}{ss:List RS}{rs:List Dd}(ra:eU cR cS μ k j1 j2 ss rs d){nm:Str}(hn:mn nm zJ [.mr j1,.mr j2,.int (d:Int)]=none):ue cR nm μ (.mr k):=by
 show(lJ _ _ _).map _=_
 rw[fT ra.ins]
 exact bL some hn
end L2
namespace L2
open PySem PySem.Spec PyProof.Rows PyProof
end L2
namespace L2
open PySem PySem.Spec PyProof.Rows PyProof
end L2
namespace L2
open PySem PySem.Spec PyProof.Rows PyProof
end L2
namespace L2
open PySem PySem.Spec PyProof.Rows PyProof
end L2
namespace L2
open PySem PySem.Spec PyProof.Rows PyProof
section
variable {dj:List (Str×Pt)}{z:Str}{b b':List Nat}{a:Int}(h:dJ dj z=some (.fst b a))
include h
end
end L2
namespace L2
open PySem PySem.Spec PyProof.Rows PyProof
def zs {n:Nat}(h:Nat.ble n 100=true:=by rfl):n<=sizeLine:=az (Nat.le_of_ble_eq_true h) (sz (by decide))
section
variable {X:Cx}{a b e e1 e2 e3:Expr}{wa wb w w1 w2 w3:De}{pos p:Pos}
def a1 (h:PD X e w)(s:starEach [e] X.env=(false,eval e X.env)::starEach [] X.env:=by rfl):uP X [e] (uA w dNil):=dr h fo s
def a2 (h:PD X e w)(h1:PD X e1 w1)(s:starEach [e,e1] X.env=(false,eval e X.env)::starEach [e1] X.env:=by rfl)(s1:starEach [e1] X.env=(false,eval e1 X.env)::starEach [] X.env:=by rfl):uP X [e,e1] (uA w (uA w1 dNil)):=dr h (a1 h1 s1) s
def a3 (h:PD X e w)(h1:PD X e1 w1)(h2:PD X e2 w2)(s:starEach [e,e1,e2] X.env=(false,eval e X.env)::starEach [e1,e2] X.env:=by rfl)(s1:starEach [e1,e2] X.env=(false,eval e1 X.env)::starEach [e2] X.env:=by rfl)(s2:starEach [e2] X.env=(false,eval e2 X.env)::starEach [] X.env:=by rfl):uP X [e,e1,e2] (uA w (uA w1 (uA w2 dNil))):=dr h (a2 h1 h2 s1 s2) s
def eS (ha:PD X a wa)(hb:PD X b wb)(hs:AU b:=by exact fun _ _=>rfl):PD X (.Subscript a b pos) (AE dIx wa wb):=d_ix ixC so_ix ha hb hs
def oR (ha:PD X a wa)(hb:PD X b wb):PD X (.BinOp a .Add b pos) (AE (dAdd false) wa wb):=tR addC so_add ha hb
def dMi (ha:PD X a wa)(hb:PD X b wb):PD X (.BinOp a .Sub b pos) (AE (xk fun i j=>.int (i - j)) wa wb):=tR subC so_i2' ha hb
def qLt (ha:PD X a wa)(hb:PD X b wb):PT X (.Compare a [.Lt] [b] pos) (xM (qM (AE (xk fun i j=>.bl (decide (i<j))) wa wb))):=nZ ltC sZ ha hb (gU _)
def qLe (ha:PD X a wa)(hb:PD X b wb):PT X (.Compare a [.LtE] [b] pos) (xM (qM (AE (xk fun i j=>.bl (decide (i<=j))) wa wb))):=nZ leC sZ ha hb (gU _)
def qGt (ha:PD X a wa)(hb:PD X b wb):PT X (.Compare a [.Gt] [b] pos) (xM (qM (AE (xk fun i j=>.bl (decide (j<i))) wa wb))):=nZ gtC sZ ha hb (gU _)
def qGe (ha:PD X a wa)(hb:PD X b wb):PT X (.Compare a [.GtE] [b] pos) (xM (qM (AE (xk fun i j=>.bl (decide (j<=i))) wa wb))):=nZ geC sZ ha hb (gU _)
def ma (ha:PD X a wa)(hb:PD X b wb):PT X (.Compare a [.Eq] [b] pos) (xM (qM (AE (dEqS false) wa wb))):=nZ eqC vO ha hb (gU _)
def qNe (ha:PD X a wa)(hb:PD X b wb):PT X (.Compare a [.NotEq] [b] pos) (xM (qM (AE (dEqS true) wa wb))):=nZ A9 vO ha hb (gU _)
def yd (T:ir X.mg)(h:PD X e w)(hg:Gl X "len":=by rfl)(he:starEach [e] X.env=(false,eval e X.env)::starEach [] X.env:=by rfl)(kO:(backTo pos (starEach [] X.env)).any (·.1)=false:=by rfl):PD X (.Call (.Name "len" p) [e] [] pos) (yI fLen (uA w dNil)):=qz lenC so_len hg T.len cJ (a1 h he) (by decide) (by decide) he kO
section
variable {es:List Expr}{x:Str}{k k0:Nat}{ps:List Str}{f:jg}{fx:i7}{u:DA}
def qC (C:oU X.prog X.w X.K X.mg X.dh x k ps (gO f))(hr:gZ k0 X.A)(ha:uP X (e::es) u)(hk:k<=k0:=by first | decide | exact ah _ | omega)(hg:Gl X x:=by rfl)(tL:(x==("__debug__" : Str))=false:=by decide)(he:starEach (e::es) X.env=(false,eval e X.env)::starEach es X.env:=by rfl)(kO:(backTo pos (starEach es X.env)).any (·.1)=false:=by rfl) :
 PD X (.Call (.Name x p) (e::es) [] pos) (yI f u):=d_call C (hr.mono hk) hg ha tL he kO
end
def qS (i:Nat){x:Str}{pos':Pos}(hN:X.N.Nodup)(he:PD X e w)(hi:X.N[i]?=some x:=by rfl)(hx:Loc X.env.scope x:=by first | exact Or.inl rfl | exact Or.inr rfl)(hf:X.fn x=true\/X.env.scope.names.lookup x=some .local:=by first | exact .inl rfl | exact .inr rfl | assumption)
 (hsw:swapsWith e (some (.Name x pos')) pos.line X.env=pure false:=by rfl):xA X (.Assign [.Name x pos'] e pos) (dSet i w):=s_set hN hi hx he hf hsw
def qN (i:Nat){x:Str}(hN:X.N.Nodup)(hi:X.N[i]?=some x:=by rfl)(hx:Loc X.env.scope x:=by first | exact Or.inl rfl | exact Or.inr rfl)(hf:X.fn x=true\/X.env.scope.names.lookup x=some .local:=by first | exact .inl rfl | exact .inr rfl | assumption):PG X (.Name x pos) (r6 i):=vh hN hi hx hf
def qT (i:Nat){x:Str}(hN:X.N.Nodup)(hi:X.N[i]?=some x:=by rfl)(hx:Loc X.env.scope x:=by first | exact Or.inl rfl | exact Or.inr rfl)(hf:X.fn x=true\/X.env.scope.names.lookup x=some .local:=by first | exact .inl rfl | exact .inr rfl | assumption):Tg X (.Name x pos) (r6 i) (Ax i) [i]:=⟨vh hN hi hx hf,dQ i,dk i⟩
def Bb {N0 ps N:List Str}{js:List (Option Nat)}{sc sc0:Scope}(S:dH N0 ps sc0)(h:AI N0 sc0 N js sc=true)(hN:X.N=N0:=by rfl)(hs:X.env.scope=sc0:=by rfl):ip X N js sc:=compOk h hN hs
section
variable {tg iter elt:Expr}{ifs:List Expr}{sc:Scope}{N:List Str}{js:List (Option Nat)}{g:TG}{y:DG}{S:List Nat}{t:Dt}{wi:DI}
def sCp (i:Nat)(m:Bool){pos' vM:Pos}{x:Str}(hN:X.N.Nodup)(hc:ip X N js sc)(so:SoG g y S)(mo:ng g)(hi:ED X tg iter wi)(hg:∀ fp s H,N.Nodup->PG (kZ X N sc fp s H) tg g)
 (ht:∀ fp s H,yf (kZ X N sc fp s H) ifs t) (he:∀ fp s H,PD (kZ X N sc fp s H) elt w) (ho:pf S js=true:=by rfl) (calm:X.calm=true:=by rfl) (B8:X.N[i]?=some x:=by rfl) (hx:Loc X.env.scope x:=by first | exact Or.inl rfl | exact Or.inr rfl) (hsw:swapsWith (.ListComp elt [⟨tg,iter,ifs,0⟩] sc pos) (some (.Name x pos')) vM.line X.env=pure true:=by rfl)
 (hs:∀ x,foldedSetIterable iter X.env x=pure x:=by intro _;rfl) (hf:X.fn x=true\/X.env.scope.names.lookup x=some .local:=by first | exact .inl rfl | exact .inr rfl | assumption) :
 xA X (.Assign [.Name x pos'] (.ListComp elt [⟨tg,iter,ifs,0⟩] sc pos) vM) (dSet i (uB m wi js y t w)):=s_setComp m hc calm so mo ho hN B8 hx hi (fun fp s H=>hg fp s H hc.nd) ht he hsw hs hf
def dCp (m:Bool)(hc:ip X N js sc)(so:SoG g y S)(mo:ng g)(hi:ED X tg iter wi)(hg:∀ fp s H,N.Nodup->PG (kZ X N sc fp s H) tg g)(ht:∀ fp s H,yf (kZ X N sc fp s H) ifs t)(he:∀ fp s H,PD (kZ X N sc fp s H) elt w)(ho:pf S js=true:=by rfl)(calm:X.calm=true:=by rfl)
 (hs:∀ x,foldedSetIterable iter X.env x=pure x:=by intro _;rfl):PD X (.ListComp elt [⟨tg,iter,ifs,0⟩] sc pos) (uB m wi js y t w):=d_comp m hc calm so mo ho hi (fun fp s H=>hg fp s H hc.nd) ht he hs
def sC1 (i:Nat)(m:Bool){pos' vM:Pos}{x:Str}(hN:X.N.Nodup)(hc:ip X N js sc)(hi:ED X tg iter wi)(hg:∀ fp s H,N.Nodup->PG (kZ X N sc fp s H) tg (r6 0))
 (ht:∀ fp s H,yf (kZ X N sc fp s H) ifs t) (he:∀ fp s H,PD (kZ X N sc fp s H) elt w) (ho:pf [0] js=true:=by rfl) (calm:X.calm=true:=by rfl) (B8:X.N[i]?=some x:=by rfl) (hx:Loc X.env.scope x:=by first | exact Or.inl rfl | exact Or.inr rfl) (hsw:swapsWith (.ListComp elt [⟨tg,iter,ifs,0⟩] sc pos) (some (.Name x pos')) vM.line X.env=pure true:=by rfl)
 (hs:∀ x,foldedSetIterable iter X.env x=pure x:=by intro _;rfl) (hf:X.fn x=true\/X.env.scope.names.lookup x=some .local:=by first | exact .inl rfl | exact .inr rfl | assumption) :
 xA X (.Assign [.Name x pos'] (.ListComp elt [⟨tg,iter,ifs,0⟩] sc pos) vM) (dSet i (uB m wi js (Ax 0) t w)):=sCp i m hN hc (dQ 0) (dk 0) hi hg ht he ho calm B8 hx hsw hs hf
def dC1 (m:Bool)(hc:ip X N js sc)(hi:ED X tg iter wi)(hg:∀ fp s H,N.Nodup->PG (kZ X N sc fp s H) tg (r6 0))(ht:∀ fp s H,yf (kZ X N sc fp s H) ifs t)(he:∀ fp s H,PD (kZ X N sc fp s H) elt w)(ho:pf [0] js=true:=by rfl)(calm:X.calm=true:=by rfl)
 (hs:∀ x,foldedSetIterable iter X.env x=pure x:=by intro _;rfl):PD X (.ListComp elt [⟨tg,iter,ifs,0⟩] sc pos) (uB m wi js (Ax 0) t w):=dCp m hc (dQ 0) (dk 0) hi hg ht he ho calm hs
end
end
end L2
namespace L2
open PySem PySem.Spec PyProof.Rows PyProof PySem.W
def fj {N P:List Str}{sc:Scope}(h1:sc.kind=.function:=by rfl)(h2:sc.isCoroutine=false:=by rfl)(h3:sc.isGenerator=false:=by rfl)(h4:N.Nodup:=by decide +kernel)(h5:N.take P.length=P:=by rfl)
 (h6:∀ x∈P,sc.names.lookup x=some .local\/sc.names.lookup x=some .cell:=by decide +kernel) (h7:∀ y∈sc.names,y.2≠.free:=by decide +kernel):dH N P sc:=⟨h1,h2,h3,h4,h5,h6,h7⟩
def kf (f c:Addr)(x q:Str)(s:Stmt)(pm:Value)(t l a r1 r2:Nat)(v1 v2:Value)(r3 t2:Nat):List (Addr×Obj):=[ko f (fnQ x q s pm c),ko c (coQ x q t l a r1 r2 v1 v2 r3 t2)]
def kx (P:Params)(a n h:Addr)(x:Str)(sl:Option Value)(t u:Nat)(m:Value)(i l:Nat)(st:Addr)(sub:List Value:=[])(bs:List Value:=[.ref h])(mro:List Value:=[.ref a,.ref h,.type "ValueError",.type "Exception",.type "BaseException",.type "object"]):List (Addr×Obj) :=
 [ko a ⟨.type "type",none,.cls ⟨x,bs,mro,n,x,true,[],sub,false,none,false⟩,#[sl,none,some (.str x t),some (.str x u),some (.builtin "ValueError.__new__"),some (.bool true)]⟩,
  ko n ⟨.type "dict",none,.dict #[iF P "__module__" i m,iF P "__firstlineno__" (i+4) (.int l (i+3)),iF P "__static_attributes__" (i+5) (.ref st),iF P "__doc__" (i+6) .none] 2,#[]⟩]
def fQ {K:Frag}(x q:Str)(s:Stmt)(f:Addr)(pm:Value)(c:Addr)(l:K.lookup f=some (fnQ x q s pm c):=by kernel_rfl)(c':codeIn K (.ref c) q=true:=by kernel_rfl)(k:keepIn K (.ref f)=true:=by kernel_rfl):gL K x q s f (fnOf x q (iq s) (gI s) (dw s) .none .none .none pm none (.ref c) .none):=fun_of l c' k
section
variable {K:Frag}{x q:Str}{s:Stmt}{f:Addr}{fd:ag}{ps:List Str}(F:gL K x q s f fd)
include F
def Dz (hl:ps.length=1:=by rfl)(h:∀(kV doc pm:Value) (an:Option Addr) (fR ct a:Value),bindArgs (fnOf x q (iq s) (gI s) (dw s) .none kV doc pm an fR ct) ⟨[a],[]⟩=pure (ps.zip [a]):=by intros;rfl):Binds K fd ps []:=F.binds fun k d p n c t=>by rw[hl];exact bn1 fun a=>h k d p n c t a
def mZ (hl:ps.length=2:=by rfl)(h:∀(kV doc pm:Value) (an:Option Addr) (fR ct a b:Value),bindArgs (fnOf x q (iq s) (gI s) (dw s) .none kV doc pm an fR ct) ⟨[a,b],[]⟩=pure (ps.zip [a,b]):=by intros;rfl):Binds K fd ps []:=F.binds fun k d p n c t=>by rw[hl];exact bnS fun a=>bn1 fun b=>h k d p n c t a b
def bd3 (hl:ps.length=3:=by rfl)(h:∀(kV doc pm:Value) (an:Option Addr) (fR ct a b e:Value),bindArgs (fnOf x q (iq s) (gI s) (dw s) .none kV doc pm an fR ct) ⟨[a,b,e],[]⟩=pure (ps.zip [a,b,e]):=by intros;rfl):Binds K fd ps []:=F.binds fun k d p n c t=>by rw[hl];exact bnS fun a=>bnS fun b=>bn1 fun e=>h k d p n c t a b e
def bd4 (hl:ps.length=4:=by rfl)(h:∀(kV doc pm:Value) (an:Option Addr) (fR ct a b e g:Value),bindArgs (fnOf x q (iq s) (gI s) (dw s) .none kV doc pm an fR ct) ⟨[a,b,e,g],[]⟩=pure (ps.zip [a,b,e,g]):=by intros;rfl):Binds K fd ps []:=F.binds fun k d p n c t=>by rw[hl];exact bnS fun a=>bnS fun b=>bnS fun e=>bn1 fun g=>h k d p n c t a b e g
def bd5 (hl:ps.length=5:=by rfl)(h:∀(kV doc pm:Value) (an:Option Addr) (fR ct a b e g i:Value),bindArgs (fnOf x q (iq s) (gI s) (dw s) .none kV doc pm an fR ct) ⟨[a,b,e,g,i],[]⟩=pure (ps.zip [a,b,e,g,i]):=by intros;rfl):Binds K fd ps []:=F.binds fun k d p n c t=>by rw[hl];exact bnS fun a=>bnS fun b=>bnS fun e=>bnS fun g=>bn1 fun i=>h k d p n c t a b e g i
end
end L2
namespace L2
open PySem PySem.Spec PyProof.Rows PyProof
def intT (i:Int):Str:=toString i
def ddT:Dd->List Str
 | .put nm b a=>["put",nm,b,intT a]
 | .join nm l r p=>["join",nm,l,r,intT p]
 | .found nm bar sg=>["found",nm,intT bar,sg]
 | .kR nm a=>["aged",nm,intT a]
 | .drop nm=>["drop",nm]
 | .free p=>["free",intT p]
 | .fe p=>["shut",intT p]
def spc:Str := " "
def ddS:Dd->Prop
 | .put nm b a=>nm.length<=100/\b.length<=100/\a.natAbs<=1000
 | .join nm l r p=>nm.length<=100/\l.length<=100/\r.length<=100/\p.natAbs<=1000
 | .found nm bar sg=>nm.length<=100/\bar.natAbs<=1000/\sg.length<=100
 | .kR nm a=>nm.length<=100/\a.natAbs<=1000
 | .drop nm=>nm.length<=100
 | .free p=>p.natAbs<=1000
 | .fe p=>p.natAbs<=1000
def oP:Dd->List D
 | .put nm b a=>[.str "put",.str nm,.str b,.int a]
 | .join nm l r p=>[.str "join",.str nm,.str l,.str r,.int p]
 | .found nm bar sg=>[.str "found",.str nm,.int bar,.str sg]
 | .kR nm a=>[.str "aged",.str nm,.int a]
 | .drop nm=>[.str "drop",.str nm]
 | .free p=>[.str "free",.int p]
 | .fe p=>[.str "shut",.int p]
def dd_th (d:Dd):oQ d=.tup (oP d):=by cases d <;> rfl
def th_len (d:Dd):(oP d).length<=5:=by cases d <;> (simp only[oP,aI,bX];omega)
def mS {z:Str}(h:fY z=true):z.length<=100:=by
 unfold fY at h
 rw[aO,aO,bc,bc]at h
 omega
def vn {S:RS}{m:Nat}{nm:Str}(h:oS S m)(q:¬ gu S nm=false):nm.length<=100:=by
 obtain⟨x,e⟩:=mW q
 exact mS (h.nms _ (m5 e))
def Fx {S:RS}{nm:Str}(h:iV S nm=none):nm.length<=100:=mS (p8 h).1
def small_of {S:RS}{m:Nat}{d:Dd}(h:oS S m)(hr:ik S d=none):ddS d:=by
 have n2:=h.n2
 cases d with
 | put nm b a =>
  obtain⟨h1,h2⟩:=or_none hr
  split at h2
  ·rename_i q
   obtain⟨a0,a1⟩:=qj h2
   exact⟨Fx h1,by omega,by omega⟩
  ·cases h2
 | join nm l r p =>
  obtain⟨h1,h2⟩:=or_none hr
  split at h2
  ·cases h2
  ·rename_i q1
   split at h2
   ·cases h2
   ·rename_i q2
    obtain⟨h3,_⟩:=or_none h2
    obtain⟨p1,p2⟩:=mj h3
    exact⟨Fx h1,vn h q1,vn h q2,by omega⟩
 | found nm bar sg =>
  have hr:(if gu S nm=false then some 11 else if 0<=bar/\bar<S.n then(if sg = "o"\/sg = "x" then none else some 0)else some 6)=(none:Option Nat):=hr
  split at hr
  ·cases hr
  ·rename_i q1
   split at hr
   ·rename_i q2
    split at hr
    ·rename_i q3
     refine⟨vn h q1,by omega,?_⟩
     rcases q3 with rfl | rfl <;> decide +kernel
    ·cases hr
   ·cases hr
 | kR nm a =>
  have hr:(match dJ S.dj nm with | none=>some 11 | some (.jn _ _ _)=>some 13 | some (.fst _ _)=>jL a)=(none:Option Nat):=hr
  cases e:dJ S.dj nm with
  | none=>rw[e]at hr;cases hr
  | some x =>
   rw[e]at hr
   cases x with
   | jn l r p=>cases hr
   | fst b a0 =>
    obtain⟨a1,a2⟩:=qj hr
    exact⟨mS (h.nms _ (m5 e)),by omega⟩
 | drop nm =>
  have hr:(if gu S nm=false then some 11 else if kC S nm=true then some 14 else none)=(none:Option Nat):=hr
  split at hr
  ·cases hr
  ·rename_i q;exact vn h q
 | free p=>obtain⟨a,b⟩:=mj (S:=S) hr;show p.natAbs<=1000;omega
 | fe p=>obtain⟨a,b⟩:=mj (S:=S) hr;show p.natAbs<=1000;omega
end L2
namespace L2
open PySem PySem.Spec PyProof.Rows PyProof
end L2
namespace L2
open PySem PySem.Spec PyProof.Rows PyProof
def sq (K:aa)(cs:List Addr)(cH:Addr):jg:=fun ds μ Kd=>match ds with
 | [.mr k]=>(∃ m,μ[0]?=some m)/\k≠0/\∃ j,j<17/\μ[k]?=some (.exc (.ref (cs.getD j 0)))/\kS K cs cH j/\Kd (.lst [.str (rR j)]) μ
 | _=>False
def Cj {K:aa}{cs:List Addr}{cH:Addr}{ds:List D}{μ:MS}{Kd:DK}(h:sq K cs cH ds μ Kd):ds.length=1/\∃ m,μ[0]?=some m:=by
 unfold sq at h
 split at h
 ·exact⟨rfl,h.1⟩
 ·exact h.elim
def mD:List Str:=["BadBars", "BadMake", "BadNumber", "BadText", "BadName", "BadAge", "BadBar", "BadPlace", "BadSize", "Taken", "Full", "NoTake", "Shut", "Joined", "Needed", "NothingLeft", "NoWay", "no ValueError"]
def kBits (j:Nat):List D:=(List.range 17).map (fun i=>D.bl (decide (i=j)))++[.bl false]
def kBits_at {j i:Nat}(hj:j<17)(hi:i<18):(kBits j)[i]?=some (.bl (decide (i=j))):=by
 unfold kBits
 by_cases h:i<17
 ·rw[uU (by rw[fF,gxJ];exact h),uw,cO h];rfl
 ·rw[qx (by rw[fF,gxJ];omega),fF,gxJ,show i - 17=0 by omega,au (by omega)];rfl
def kOne:∀ j:Nat,j<17->((List.range 18).filterMap fun i=>if i=j then some (mD.getD i "")else none)=[rR j]:=by
 decide +kernel
def kWords_at {i:Nat}(hi:i<18):mD[i]?=some (mD.getD i ""):=by
 rw[aZ]
 cases e:mD[i]? with
 | none=>exact absurd (List.getElem?_eq_none_iff.mp e) (by show ¬ 18<=i;omega)
 | some x=>rfl
def CF {it:D->MS->(Option D->MS->Prop)->Prop}{c:MS->Prop}{μ:MS}{j:Nat}(hj:j<17)(hc:c μ){K:List D->MS->Prop}(h:∀(i:Nat) (K':Option D->MS->Prop),i<18->(kBits j)[i]?=some (.bl (decide (i=j)))->mD[i]?=some (mD.getD i "")->(i=j->K' (some (.str (mD.getD i ""))) μ)->(i≠j->K' none μ)->it (.int (0+(i:Int))) μ K')(k:K [.str (rR j)] μ):sD it c (kN 0 18) μ K:=by
 refine iJ hc (fun i:Nat=>D.int (0+(i:Int))) (fun i=>if i=j then some (D.str (mD.getD i ""))else none) (fun i hi K' k'=>?_) ?_
 ·have hi:=List.mem_range.mp hi
  refine h i K' hi (kBits_at hj hi) (kWords_at hi) (fun e=>?_) (fun e=>?_)
  ·rw[aj e]at k';exact k'
  ·rw[ai e]at k';exact k'
 ·have e:((List.range 18).filterMap fun i=>if i=j then some (D.str (mD.getD i ""))else none)=[.str (rR j)]:=by
   have t:=bL (List.map D.str) (kOne j hj)
   rw[List.map_filterMap]at t
   refine Eq.trans ?_ t
   congr 1
   funext i
   split <;> rfl
  rw[e]
  exact k
def dAddT:uY:=fun x y μ K=>match x,y with
 | .tup xs,.tup ys=>xs≠[]/\xs.length+ys.length<=sizeLine/\K (.tup (xs++ys)) μ
 | _,_=>False
def Fb {Kf:aa}:oO (rCatT Kf) dAddT:=fun φ H x y dx dy μ K Q M hx hy k L=>by
 unfold dAddT at k
 split at k
 ·rename_i xs ys
  obtain⟨h1,h2,k⟩:=k
  have hx0:=hx
  obtain⟨p,vs,rfl,sp,hp,ha⟩:=hx
  obtain⟨q,us,rfl,_,hq,hb⟩:=hy
  refine⟨p,q,vs,us,rfl,rfl,AS.of hp,AS.of hq,fun z=>h1 ?_,by rw[ha.len,hb.len];exact h2,fun z=>?_,fun _ l hl=>Ey L M (ha.app hb) k hl⟩
  ·have:=ha.len;rw[z]at this;exact List.length_eq_zero_iff.mp this.symm
  ·have e:=hb.len
   rw[z]at e
   have e:ys=[]:=List.length_eq_zero_iff.mp e.symm
   rw[e,aQ]at k
   exact L.val M k hx0
 ·exact k.elim
def kg:Option Nat->Str
 | none => ""
 | some i=>rR i
def vt:jg:=fun ds μ K=>match ds with
 | [.str z]=>z.length<=1000/\K (.bl (fY z)) μ
 | _=>False
def si:jg:=fun ds μ K=>match ds with
 | [x,.str z]=>z.length<=1000/\∃ S m,x=rl S/\oS S m/\K (.str (kg (iV S z))) μ
 | _=>False
def nY:jg:=fun ds μ K=>match ds with
 | [x,.int p]=>∃ S,x=rl S/\K (.str (kg (fS S p))) μ
 | _=>False
def iR (ok:Nat->Bool):jg:=fun ds μ K=>match ds with
 | [x,y]=>∃ S m d,x=rl S/\y=oQ d/\ok (ddW d)=true/\oS S m/\Cw d/\K (.str (kg (ik S d))) μ
 | _=>False
def w0 (n:Nat):Bool:=n==0
def w1 (n:Nat):Bool:=n==1
def w24 (n:Nat):Bool:=n==2||n==3||n==4
def wAll (_:Nat):Bool:=true
def sx:jg:=fun ds μ K=>match ds with
 | [.mr k,x,y]=>μ[k]?=some .box/\∃ S m fg,x=rl S/\y=ql fg/\oS S m/\nN fg/\∀ z:Str,z.length<=100->K (.str z) μ
 | _=>False
def ddL (n:Nat):Dd->Prop
 | .put nm b _=>nm.length<=100/\b.length<=n
 | .join nm _ _ _=>nm.length<=100
 | _=>True
def Aq:jg:=fun ds μ K=>match ds with
 | [.mr k,x,y,z]=>μ[k]?=some .box/\∃ S m fg d n,x=rl S/\y=ql fg/\z=oQ d/\oS S m/\nN fg/\ddL n d/\n<=500/\∀ d',ddL (n+1) d'->K (oQ d') μ
 | _=>False
def FJ:jg:=fun ds μ K=>match ds with
 | [.mr k,x,y]=>μ[k]?=some .box/\∃ S m fg,x=rl S/\y=ql fg/\oS S m/\nN fg/\∀ d,Cw d->K (oQ d) μ
 | _=>False
def ddL_ok {n:Nat}{d:Dd}(h:ddL n d)(hn:n<=1000):Cw d:=by
 cases d <;> first | trivial | exact⟨az h.1 (by decide),az h.2 hn⟩ | exact az h (by decide)
def ddS_L {d:Dd}(h:ddS d):ddL 100 d:=by
 cases d <;> first | trivial | exact⟨h.1,h.2.1⟩ | exact h.1
def pD (K:aa)(cs:List Addr)(cH cR cS:Addr):jg:=fun ds μ Kd=>match ds with
 | [.mr k,y]=>(∃ m,μ[0]?=some m)/\(∀ j,j<16->kS K cs cH j)/\∃ j1 j2 ss rs d S e,eU cR cS μ k j1 j2 ss rs d/\ss[d]?=some S/\y=oQ e/\Cw e/\rs.length<900/\(match ik S e with | some i=>Kd (.tup [.str "refused",.lst [.str (rR i)]]) μ | none=>Kd (.tup [.str "done",.bl true]) (mB cR cS μ k j1 j2 (ss.take (d+1)++[mF S e]) (rs.take d++[e]) (d+1)))
 | _=>False
def rJ {S:RS}{e:Dd}{i:Nat}(h:ik S e=some i):i<16:=by
 have a1:∀ {nm:Str},iV S nm=some i->i<16:=fun {nm} h=>by
  unfold iV at h;split at h
  ·cases h;decide
  ·split at h
   ·cases h;decide
   ·split at h
    ·cases h;decide
    ·cases h
 have a2:∀ {p:Int},fS S p=some i->i<16:=fun {p} h=>by
  unfold fS at h;split at h
  ·cases h
  ·cases h;decide
 have a3:∀ {a:Int},jL a=some i->i<16:=fun {p} h=>by
  unfold jL at h;split at h
  ·cases h
  ·cases h;decide
 have orE:∀ {a b:Option Nat},a.or b=some i->(a=some i->i<16)->(b=some i->i<16)->i<16:=fun {a b} h h1 h2=>by
  cases a with
  | none=>exact h2 h
  | some x=>exact h1 h
 cases e with
 | put nm b a =>
  refine orE h a1 fun h=>?_
  split at h
  ·exact a3 h
  ·cases h;decide
 | join nm l r p =>
  refine orE h a1 fun h=>?_
  split at h
  ·cases h;decide
  ·split at h
   ·cases h;decide
   ·refine orE h a2 fun h=>?_
    split at h
    ·cases h;decide
    ·cases h
 | found nm bar sg =>
  have h:(if gu S nm=false then some 11 else if 0<=bar/\bar<S.n then(if sg = "o"\/sg = "x" then none else some 0)else some 6)=some i:=h
  split at h
  ·cases h;decide
  ·split at h
   ·split at h
    ·cases h
    ·cases h;decide
   ·cases h;decide
 | kR nm a =>
  have h:(match dJ S.dj nm with | none=>some 11 | some (.jn _ _ _)=>some 13 | some (.fst _ _)=>jL a)=some i:=h
  split at h
  ·cases h;decide
  ·cases h;decide
  ·exact a3 h
 | drop nm =>
  have h:(if gu S nm=false then some 11 else if kC S nm=true then some 14 else none)=some i:=h
  split at h
  ·cases h;decide
  ·split at h
   ·cases h;decide
   ·cases h
 | free p=>exact a2 h
 | fe p=>exact a2 h
def abcT:Str := "abcdefghijklmnopqrstuvwxyz"
def abc_mem (c:Nat):decide (c∈abcT.cps.toList)=(decide (97<=c)&&decide (c<=122)):=by
 have e:abcT.cps.toList=(List.range 26).map (97+·):=by decide +kernel
 rw[e]
 have:c∈(List.range 26).map (97+·)↔97<=c/\c<=122:=by
  rw[List.mem_map]
  constructor
  ·rintro⟨a,ha,rfl⟩;have:=List.mem_range.mp ha;omega
  ·intro h;exact⟨c - 97,List.mem_range.mpr (by omega),by omega⟩
 rw[<- Bool.decide_and]
 exact decide_eq_decide.mpr this
def ox_mem (c:Nat):decide (c∈(Str.ofString "ox").cps.toList)=(decide (c=111)||decide (c=120)):=by
 have e:(Str.ofString "ox").cps.toList=[111,120]:=by decide +kernel
 rw[e,<- Bool.decide_or]
 exact decide_eq_decide.mpr (by simp)
def ox_any (b:Str):((b.cps.toList.map fun c=>!(decide (c=111)||decide (c=120))).any id)=!A8 b:=by
 unfold A8
 induction b.cps.toList with
 | nil=>rfl
 | cons c l ih=>rw[ao,bt,cQ,ih,Bool.not_and];rfl
def n4 {c:Dt}{wa wb:De}{ρ:DE}{μ:MS}{K:DK}(b:Bool)(h:TV c ρ μ b)(ht:b=true->wa ρ μ K)(hu:b=false->wb ρ μ K):dIf c wa wb ρ μ K:=h _ (by
 cases b with
 | true=>rw[aj rfl];exact ht rfl
 | false=>rw[ai (by decide)];exact hu rfl)
def kWord_ne (i:Nat)(h:i<17):decide (rR i=("" : Str))=false:=by
 have:∀ i:Nat,i<17->decide (rR i=("" : Str))=false:=by decide +kernel
 exact this i h
def qZ {o:Option Nat}(h:∀ i,o=some i->i<17):decide (kg o=("" : Str))=o.isNone:=by
 cases o with
 | none=>decide +kernel
 | some i=>exact kWord_ne i (h i rfl)
def Fy {S:RS}{nm:Str}{i:Nat}(h:iV S nm=some i):i<17:=by
 unfold iV at h;split at h
 ·cases h;decide
 ·split at h
  ·cases h;decide
  ·split at h
   ·cases h;decide
   ·cases h
def named_8 {z:Str}(h:fY z=true):z.length<=8:=by
 unfold fY at h
 rw[aO,aO,bc,bc]at h
 omega
def lN (a b:Str):(a++b).length=a.length+b.length:=by
 show(a.cps++b.cps).size=_
 rw[Array.size_append];rfl
def spc_len (a:Str):(a++spc).length=a.length+1:=by rw[lN];rfl
def hU:Dd->Str
 | .put _ _ _ => "put" | .join _ _ _ _ => "join" | .found _ _ _ => "found" | .kR _ _ => "aged" | .drop _ => "drop" | .free _ => "free" | .fe _ => "shut"
def dwL:List Str:=["put", "join", "found", "aged", "drop", "free", "shut"]
def mX (d:Dd)(i:Nat)(hi:i<7):hU d=dwL.getD i ""↔ddW d=i:=by
 have e:hU d=dwL.getD (ddW d) "":=by cases d <;> rfl
 have l:ddW d<7:=by cases d <;> (simp only[ddW];omega)
 rw[e]
 have k:∀ i:Nat,i<7->∀ j:Nat,j<7->(dwL.getD j ""=dwL.getD i ""↔j=i):=by decide +kernel
 exact k i hi _ l
def Cy {n m:Nat}{d:Dd}(h:ddL n d)(hn:n<=m):ddL m d:=by
 cases d <;> first | trivial | exact⟨h.1,az h.2 hn⟩ | exact h
def dIf_gen {c:Dt}{t u:Ds}{N:DN}{ρ:DE}{μ:MS}(B:Bool->MS->Prop)(h:∀ K:Bool->MS->Prop,(∀ b μ',B b μ'->K b μ')->c ρ μ K)(ht:∀ μ',B true μ'->t N ρ μ')(hu:∀ μ',B false μ'->u N ρ μ'):dIfS c t u N ρ μ:=h _ fun b μ' hb=>by
 cases b with
 | true=>rw[aj rfl];exact ht μ' hb
 | false=>rw[ai (by decide)];exact hu μ' hb
def dueD (o:Option Nat):D:=match o with
 | some i=>.tup [.str "refused",.lst [.str (rR i)]]
 | none=>.tup [.str "done",.bl true]
def y7 (o:Option Nat):oA 5 (dueD o):=by
 cases o with
 | none=>exact tf (by simp only[aI,bX];omega) (fun d hd=>by simp only[bH,br,cI]at hd;rcases hd with rfl | rfl;exact jd;exact sm_bl)
 | some i=>exact tf (by simp only[aI,bX];omega) (fun d hd=>by simp only[bH,br,cI]at hd;rcases hd with rfl | rfl;exact jd;exact vQ (by simp only[aI,bX];omega) fun d hd=>by rw[List.mem_singleton.mp hd];exact jd)
def k16 {K:aa}{cs:List Addr}{cH:Addr}(h0:kS K cs cH 0)(h1:kS K cs cH 1)(h2:kS K cs cH 2)(h3:kS K cs cH 3)(h4:kS K cs cH 4)(h5:kS K cs cH 5)(h6:kS K cs cH 6)(h7:kS K cs cH 7)(h8:kS K cs cH 8)(h9:kS K cs cH 9)(ha:kS K cs cH 10)(hb:kS K cs cH 11)(hc:kS K cs cH 12)(hd:kS K cs cH 13)(he:kS K cs cH 14)(hf:kS K cs cH 15):∀ j,j<16->kS K cs cH j
 | 0,_=>h0 | 1,_=>h1 | 2,_=>h2 | 3,_=>h3 | 4,_=>h4 | 5,_=>h5 | 6,_=>h6 | 7,_=>h7 | 8,_=>h8 | 9,_=>h9 | 10,_=>ha | 11,_=>hb | 12,_=>hc | 13,_=>hd | 14,_=>he | 15,_=>hf
 | n+16,h=>absurd h (by omega)
def kB {K:aa}{cs:List Addr}{cH:Addr}{j:Nat}(e1:(W.clsIn K (cs.getD j 0)).isSome=true:=by kernel_rfl)(e2:W.findIn K (.ref (cs.getD j 0)) "__getattribute__"=some (some (.builtin "BaseException.__getattribute__")):=by kernel_rfl)(e3:W.findIn K (.ref (cs.getD j 0)) "__getattr__"=some none:=by kernel_rfl)
 (e4:W.findIn K (.ref (cs.getD j 0)) "__class__"=some (some (.builtin "object.__class__")):=by kernel_rfl) (e5:W.specialIn K (.builtin "object.__class__") "__get__"=some (some (.builtin "getset_descriptor.__get__")):=by kernel_rfl) (e6:W.takesIn K (.builtin "object.__class__")=some true:=by kernel_rfl) (e7:W.mroIn K (cs.getD j 0) (.type "object")=some true:=by kernel_rfl) (e8:W.mroIn K (cs.getD j 0) (.type "BaseException")=some true:=by kernel_rfl)
 (k:kitB K cs j=true:=by kernel_rfl) (v:W.kitOne K (.ref (cs.getD j 0)) (.type "ValueError")=some true:=by kernel_rfl) (q1:W.excIn K cH nh "ValueError.__new__"=true:=by kernel_rfl) (q2:W.excIn K (cs.getD j 0) nh "ValueError.__new__"=true:=by kernel_rfl) (q3:subIn K (cs.getD j 0) cH=true:=by kernel_rfl):kS K cs cH j:=⟨⟨e1,e2,e3,e4,e5,e6,e7,e8⟩,k,v,sub_of q1 q2 q3⟩
end L2
namespace L2
open PySem PySem.Spec PyProof.Rows PyProof
def gM (cR cS:Addr)(cs:List Addr)(w n:Nat):i7:=fun ds μ K Kx=>(ds.length=n/\∃ m,μ[0]?=some m)/\match ds with
 | .mr k::xs=>∃ e,ddW e=w/\oP e=.str (hU e)::xs/\mE cR cS cs [.mr k,oQ e] μ K Kx
 | _=>False
def je {cR cS:Addr}{cs:List Addr}{w n:Nat}{ds:List D}{μ:MS}{K:DK}{Kx:DX}(h:gM cR cS cs w n ds μ K Kx):ds.length=n/\∃ m,μ[0]?=some m:=h.1
section
variable {cR cS:Addr}{μ:MS}{k j1 j2 k' a' b':Nat}{ss ss':List RS}{rs rs':List Dd}{d d':Nat}
def eU.putO (h:eU cR cS μ k j1 j2 ss rs d)(x:∀ i∈[k',a',b'],i≠k/\i≠j1/\i≠j2):eU cR cS (mB cR cS μ k' a' b' ss' rs' d') k j1 j2 ss rs d:=by
 have h1:=x k' (by simp)
 have h2:=x a' (by simp)
 have h3:=x b' (by simp)
 unfold mB
 exact((h.other h2.1 h2.2.1 h2.2.2).other h3.1 h3.2.1 h3.2.2).other h1.1 h1.2.1 h1.2.2
end
end L2
namespace Pf
open PySem L2 PyProof.Rows
def top (i:Nat):Stmt:=PySem.Challenge.pw_hissroom_k48_methods_do_their_deeds.main.body.getD i (.Pass ⟨0,0,0,0⟩)
def met (i j:Nat):Stmt:=(clsBody (top i)).getD j (.Pass ⟨0,0,0,0⟩)
abbrev Ff:Stmt:=top 46
abbrev zt:Stmt:=top 47
abbrev zE:Stmt:=top 50
abbrev s_same:Stmt:=top 71
abbrev p7:Stmt:=top 21
abbrev rG:Stmt:=top 22
abbrev nF:Stmt:=top 40
abbrev jY:Stmt:=top 41
abbrev iI:Stmt:=met 27 0
abbrev g9:Stmt:=met 27 1
abbrev j3:Stmt:=met 27 2
abbrev jz:Stmt:=met 27 3
abbrev gr:Stmt:=met 27 4
abbrev kH:Stmt:=met 27 5
abbrev j0:Stmt:=met 27 6
abbrev lQ:Stmt:=top 37
abbrev lR:Stmt:=top 38
abbrev jZ:Stmt:=top 39
abbrev Fe:Stmt:=top 28
abbrev zy:Stmt:=top 29
abbrev ve:Stmt:=top 30
abbrev zG:Stmt:=top 31
abbrev zC:Stmt:=top 32
abbrev zA:Stmt:=top 33
abbrev zu:Stmt:=top 34
abbrev jw:Stmt:=top 36
abbrev jb:Stmt:=met 44 0
abbrev nK:Stmt:=met 44 1
abbrev lZ:Stmt:=met 44 9
abbrev kM:Stmt:=met 44 12
abbrev lU:Stmt:=met 44 14
abbrev kK:Stmt:=met 44 15
abbrev l6:Stmt:=met 44 16
abbrev nM:Stmt:=met 44 17
abbrev kJ:Stmt:=met 44 18
abbrev j4:Stmt:=met 44 19
abbrev l5:Stmt:=met 44 20
abbrev kI:Stmt:=met 44 21
abbrev nJ:Stmt:=met 44 2
abbrev lW:Stmt:=met 44 3
abbrev kL:Stmt:=met 44 4
abbrev l8:Stmt:=met 44 5
abbrev lY:Stmt:=met 44 6
abbrev lX:Stmt:=met 44 7
abbrev lV:Stmt:=met 44 8
abbrev u7:Stmt:=top 48
abbrev vf:Stmt:=top 49
abbrev rE:Stmt:=top 51
abbrev zF:Stmt:=top 52
abbrev vd:Stmt:=top 53
abbrev u6:Stmt:=top 54
abbrev zw:Stmt:=top 55
abbrev zD:Stmt:=top 56
abbrev zx:Stmt:=top 57
abbrev zB:Stmt:=top 58
abbrev rD:Stmt:=top 72
abbrev u9:Stmt:=top 62
abbrev nH:Stmt:=top 63
abbrev kG:Stmt:=top 64
abbrev nG:Stmt:=top 65
abbrev lP:Stmt:=top 66
abbrev lO:Stmt:=top 67
abbrev zp:Stmt:=top 68
abbrev nI:Stmt:=top 59
abbrev lT:Stmt:=top 60
abbrev zq:Stmt:=top 61
abbrev vc:Stmt:=top 69
abbrev zr:Stmt:=top 70
abbrev rF:Stmt:=top 73
abbrev lS:Stmt:=top 74
abbrev oC:Stmt:=top 75
structure gi (K:aa)(C:Addr):Prop where
 cl:xI K C
 gP:W.findIn K (.ref C) "length"=some none
 fU:W.findIn K (.ref C) "made_of"=some none
 iB:W.findIn K (.ref C) "firsts"=some none
 iW:W.findIn K (.ref C) "closed"=some none
structure hZ (K:aa)(C:Addr):Prop where
 cl:xI K C
 wF:W.findIn K (.ref C) "stands"=some none
 D4:W.findIn K (.ref C) "rows"=some none
 tH:W.findIn K (.ref C) "done"=some none
def sc_box:dH ["_law_script"] ["_law_script"] (dw Ff):=fj
def rn:dH ["_law_box_here", "_law_many", "_law_rest", "_law_cell", "_law_one", "_law_two"] ["_law_box_here", "_law_many"] (dw zt):=fj
def nA:dH ["_law_box_here", "_law_size", "_law_kind", "_law_first", "_law_behind"] ["_law_box_here", "_law_size"] (dw zE):=fj
def sc_same:dH ["_law_found", "_law_due"] ["_law_found", "_law_due"] (dw s_same):=fj
def DL:dH ["size", "text"] ["size", "text"] (dw p7):=fj
def kU:dH ["one", "other", "place", "bars", "age", "other_bars", "other_age", "cut"] ["one", "other", "place"] (dw rG):=fj
def ub:dH ["table", "key", "thing", "told"] ["table", "key", "thing"] (dw nF):=fj
def o7:dH ["table", "key"] ["table", "key"] (dw jY):=fj
def rB:dH ["self", "length", "made_of", "firsts", "closed"] ["self", "length", "made_of", "firsts", "closed"] (dw iI):=fj
def o9:dH ["self", "name"] ["self", "name"] (dw g9):=fj
def vX:dH ["self", "name"] ["self", "name"] (dw j3):=fj
def fI:dH ["self", "name", "bar", "parts", "copies", "left", "right", "place"] ["self", "name", "bar"] (dw jz):=fj
def eV:dH ["self", "told", "name", "parts", "left", "right", "place"] ["self"] (dw gr):=fj
def xP:dH ["self", "name"] ["self", "name"] (dw kH):=fj
def lq:dH ["self", "cuts"] ["self"] (dw j0):=fj
def rA:dH ["stand", "name"] ["stand", "name"] (dw lQ):=fj
def zf:dH ["age"] ["age"] (dw lR):=fj
def vW:dH ["stand", "place"] ["stand", "place"] (dw jZ):=fj
def tm:dH ["stand", "row", "word", "name", "bars", "age", "made_of"] ["stand", "row"] (dw Fe):=fj
def p4:dH ["stand", "row", "word", "name", "left", "right", "place"] ["stand", "row"] (dw zy):=fj
def iU:dH ["stand", "row", "word", "name", "bar", "sign", "first", "copies", "bars", "age", "heard"] ["stand", "row"] (dw ve):=fj
def p6:dH ["stand", "row", "word", "name", "age", "bars", "before"] ["stand", "row"] (dw zG):=fj
def rq:dH ["stand", "row", "word", "name", "made_of"] ["stand", "row"] (dw zC):=fj
def ze:dH ["stand", "row", "word", "place"] ["stand", "row"] (dw zA):=fj
def zd:dH ["stand", "row", "word", "place"] ["stand", "row"] (dw zu):=fj
def oB:dH ["stand", "row", "deed"] ["stand", "row"] (dw jw):=fj
def tq:dH ["self", "size"] ["self", "size"] (dw jb):=fj
def Bs:dH ["self"] ["self"] (dw nK):=fj
def rC:dH ["self", "row", "stand"] ["self", "row"] (dw lZ):=fj
def xT:dH ["self"] ["self"] (dw kM):=fj
def zg:dH ["self"] ["self"] (dw lU):=fj
def xR:dH ["self"] ["self"] (dw kK):=fj
def zm:dH ["self", "name"] ["self", "name"] (dw l6):=fj
def Bt:dH ["self", "name"] ["self", "name"] (dw nM):=fj
def xQ:dH ["self", "name"] ["self", "name"] (dw kJ):=fj
def vY:dH ["self", "name", "bar"] ["self", "name", "bar"] (dw j4):=fj
def kF:dH ["self", "size", "cuts", "takes"] ["self"] (dw l5):=fj
def jX:dH ["self", "size", "cuts", "takes"] ["self"] (dw kI):=fj
def Br:dH ["self", "name", "bars", "age"] ["self", "name", "bars", "age"] (dw nJ):=fj
def zi:dH ["self", "name", "left", "right", "place"] ["self", "name", "left", "right", "place"] (dw lW):=fj
def xS:dH ["self", "name", "bar", "sign"] ["self", "name", "bar", "sign"] (dw kL):=fj
def zo:dH ["self", "name", "age"] ["self", "name", "age"] (dw l8):=fj
def zk:dH ["self", "name"] ["self", "name"] (dw lY):=fj
def zj:dH ["self", "place"] ["self", "place"] (dw lX):=fj
def zh:dH ["self", "place"] ["self", "place"] (dw lV):=fj
def hG:dH ["_law_box_here", "_law_many", "_law_letters", "_law_size", "_law_place", "_law_alike", "_law_first", "_law_rows", "_law_k", "_law_row"] ["_law_box_here", "_law_many"] (dw u7):=fj
def Bq:dH ["_law_box_here", "_law_most", "_law_size"] ["_law_box_here", "_law_most"] (dw vf):=fj
def ji:dH ["_law_kept", "_law_name", "_law_bar", "_law_copies", "_law_word_here", "_law_left", "_law_right", "_law_place"] ["_law_kept", "_law_name", "_law_bar"] (dw rE):=fj
def u5:dH ["_law_kept", "_law_found", "_law_name", "_law_part"] ["_law_kept"] (dw zF):=fj
def vV:dH ["_law_state", "_law_name", "_law_kept"] ["_law_state", "_law_name"] (dw vd):=fj
def vU:dH ["_law_state", "_law_ages_here"] ["_law_state"] (dw u6):=fj
def Fc:dH ["_law_state"] ["_law_state"] (dw zw):=fj
def p5:dH ["_law_state", "_law_deed", "_law_size", "_law_kept", "_law_shut", "_law_name", "_law_word_here", "_law_text", "_law_old"] ["_law_state", "_law_deed"] (dw zD):=fj
def u4:dH ["_law_kept", "_law_used", "_law_part"] ["_law_kept"] (dw zx):=fj
def jv:dH ["_law_box_here", "_law_state", "_law_pool", "_law_names_here", "_law_fresh", "_law_places", "_law_way", "_law_old", "_law_some", "_law_other", "_law_place", "_law_lone_here"] ["_law_box_here", "_law_state", "_law_pool"] (dw zB):=fj
def jh:dH ["_law_room", "_law_state", "_law_names_here", "_law_takes_here", "_law_k", "_law_part", "_law_due", "_law_told_here", "_law_bar"] ["_law_room", "_law_state"] (dw rD):=fj
def Bp:dH ["_law_text"] ["_law_text"] (dw u9):=fj
def Bo:dH ["_law_state", "_law_name"] ["_law_state", "_law_name"] (dw nH):=fj
def xO:dH ["_law_state", "_law_place"] ["_law_state", "_law_place"] (dw kG):=fj
def o8:dH ["_law_state", "_law_deed", "_law_word_here"] ["_law_state", "_law_deed"] (dw nG):=fj
def rp:dH ["_law_state", "_law_deed", "_law_word_here"] ["_law_state", "_law_deed"] (dw lP):=fj
def ny:dH ["_law_state", "_law_deed", "_law_part", "_law_other"] ["_law_state", "_law_deed"] (dw lO):=fj
def sc_word:dH ["_law_state", "_law_deed"] ["_law_state", "_law_deed"] (dw zp):=fj
def uc:dH ["_law_box_here", "_law_state", "_law_pool", "_law_some"] ["_law_box_here", "_law_state", "_law_pool"] (dw nI):=fj
def iG:dH ["_law_box_here", "_law_state", "_law_pool", "_law_deed", "_law_at", "_law_thing"] ["_law_box_here", "_law_state", "_law_pool", "_law_deed"] (dw lT):=fj
def rm:dH ["_law_box_here", "_law_state", "_law_pool", "_law_deed", "_law_way"] ["_law_box_here", "_law_state", "_law_pool"] (dw zq):=fj
def ju:dH ["_law_e", "_law_found", "_law_words"] ["_law_e"] (dw vc):=fj
def zc:dH ["_law_room", "_law_deed", "_law_found", "_law_e"] ["_law_room", "_law_deed"] (dw zr):=fj
def sc_method:dH ["_law_room", "_law_deed"] ["_law_room", "_law_deed"] (dw rF):=fj
def nz:dH ["_law_room", "_law_deed", "_law_found", "_law_e"] ["_law_room", "_law_deed"] (dw lS):=fj
def ky:dH ["_law_script", "_law_box_here", "_law_room", "_law_state", "_law_pool", "_law_other", "_law_deeds", "_law_k", "_law_deed", "_law_word_here", "_law_due"] ["_law_script"] (dw oC):=fj
def dt:Addr:=316
def dN:Addr:=612
def vA:Addr:=164
def vD:Addr:=116
def pQ:Addr:=92
def AN:Addr:=140
def cFull:Addr:=152
def vE:Addr:=104
def qi:Addr:=128
def pR:Addr:=44
def cShut:Addr:=176
def vC:Addr:=188
def vB:Addr:=200
def sL:Addr:=224
def xq:Addr:=56
def qU:Addr:=68
def xp:Addr:=80
def oj:Addr:=212
def Ew:Addr:=243
def gF:Addr:=31
def CW:Addr:=327
def xv:Addr:=334
def sO:Addr:=341
def xy:Addr:=348
def xx:Addr:=353
def xw:Addr:=360
def xu:Addr:=367
abbrev ij:List Addr:=[pR,xq,qU,xp,pQ,vE,vD,qi,sL,AN,cFull,vA,cShut,vC,vB,oj,Ew]
section
variable (P:ae)(w:af)(K:aa)(mg:Str->Option Value)(dh:Heap)
abbrev c_box:Prop:=oU P w K mg dh "_law_box" 1 ["_law_script"] (y3 K)
abbrev n9:Prop:=oU P w K mg dh "_law_take" 1 ["_law_box_here", "_law_many"] (gO FK)
abbrev c_bars:Prop:=oU P w K mg dh "_law_bars" 2 ["_law_box_here", "_law_size"] (gO Cm)
abbrev Et:Prop:=oU P w K mg dh "_law_same" 6 ["_law_found", "_law_due"] (gO fSame)
abbrev yL:Prop:=oU P w K mg dh "is_bars" 1 ["size", "text"] (gO su)
abbrev CL:Prop:=oU P w K mg dh "joined" 1 ["one", "other", "place"] (gO vw)
abbrev jV:Prop:=oU P w K mg dh "with_key" 1 ["table", "key", "thing"] (gO Cd)
abbrev mH:Prop:=oU P w K mg dh "without_key" 1 ["table", "key"] (gO pC)
abbrev ft:Prop:=CalI P w K mg dh "Stand" dt 1 ["self", "length", "made_of", "firsts", "closed"] (gO (vp dt))
abbrev gq:Prop:=jI P w K mg dh dt "check_there" 1 ["self", "name"] (iw (wX dt ij))
abbrev kc:Prop:=jI P w K mg dh dt "parts" 2 ["self", "name"] (iw (se dt ij))
abbrev lE:Prop:=jI P w K mg dh dt "source" 3 ["self", "name", "bar"] (iw (pE dt ij))
abbrev ie:Prop:=xE P w K mg dh dt "takes_by_names" 2 ["self"] (gO (sv dt))
abbrev og:Prop:=jI P w K mg dh dt "take" 3 ["self", "name"] (iw (wY dt ij))
abbrev mI:Prop:=xE P w K mg dh dt "shelf" 3 ["self"] (gO (vq dt))
abbrev pO:Prop:=qW P w K mg dh "check_new" 1 ["stand", "name"] (iw (fNew dt ij))
abbrev pP:Prop:=qW P w K mg dh "check_age" 1 ["age"] (iw (Cn ij))
abbrev j9:Prop:=qW P w K mg dh "check_place" 1 ["stand", "place"] (iw (sd dt ij))
abbrev c_put:Prop:=qW P w K mg dh "put" 6 ["stand", "row"] (iw (gv dt ij 0))
abbrev c_join:Prop:=qW P w K mg dh "join" 6 ["stand", "row"] (iw (gv dt ij 1))
abbrev c_found:Prop:=qW P w K mg dh "found" 6 ["stand", "row"] (iw (gv dt ij 2))
abbrev c_aged:Prop:=qW P w K mg dh "aged" 6 ["stand", "row"] (iw (gv dt ij 3))
abbrev c_drop:Prop:=qW P w K mg dh "drop" 6 ["stand", "row"] (iw (gv dt ij 4))
abbrev c_free:Prop:=qW P w K mg dh "free" 6 ["stand", "row"] (iw (gv dt ij 5))
abbrev c_shut:Prop:=qW P w K mg dh "shut" 6 ["stand", "row"] (iw (gv dt ij 6))
abbrev pL:Prop:=qW P w K mg dh "stand_behind" 7 ["stand", "row"] (iw (pH dt ij))
abbrev kz:Prop:=CalIX P w K mg dh "Room" dN 3 ["self", "size"] (iw (r9 dN dt ij))
abbrev gW:Prop:=xE P w K mg dh dN "now" 1 ["self"] (gO (fNow dN dt))
abbrev gR:Prop:=jI P w K mg dh dN "deed" 8 ["self", "row"] (iw (mE dN dt ij))
abbrev sJ:Prop:=xE P w K mg dh dN "deeds" 1 ["self"] (gO (Ap dN dt true))
abbrev uH:Prop:=xE P w K mg dh dN "size" 2 ["self"] (gO (iS dN dt gSize))
abbrev sH:Prop:=xE P w K mg dh dN "names" 2 ["self"] (gO (iS dN dt Eh))
abbrev uN:Prop:=jI P w K mg dh dN "bars" 5 ["self", "name"] (iw (jE dN dt ij gBars))
abbrev xo:Prop:=jI P w K mg dh dN "age" 5 ["self", "name"] (iw (jE dN dt ij gAge))
abbrev sG:Prop:=jI P w K mg dh dN "parts" 5 ["self", "name"] (iw (jE dN dt ij wR))
abbrev qA:Prop:=jI P w K mg dh dN "source" 5 ["self", "name", "bar"] (iw (pF dN dt ij))
abbrev uM:Prop:=xE P w K mg dh dN "cuts" 5 ["self"] (gO (iS dN dt FH))
abbrev sF:Prop:=xE P w K mg dh dN "takes" 5 ["self"] (gO (iS dN dt tN))
abbrev xn:Prop:=jI P w K mg dh dN "put" 9 ["self", "name", "bars", "age"] (iw (gM dN dt ij 0 4))
abbrev uJ:Prop:=jI P w K mg dh dN "join" 9 ["self", "name", "left", "right", "place"] (iw (gM dN dt ij 1 5))
abbrev sI:Prop:=jI P w K mg dh dN "found" 9 ["self", "name", "bar", "sign"] (iw (gM dN dt ij 2 4))
abbrev uO:Prop:=jI P w K mg dh dN "aged" 9 ["self", "name", "age"] (iw (gM dN dt ij 3 3))
abbrev uL:Prop:=jI P w K mg dh dN "drop" 9 ["self", "name"] (iw (gM dN dt ij 4 2))
abbrev uK:Prop:=jI P w K mg dh dN "free" 9 ["self", "place"] (iw (gM dN dt ij 5 2))
abbrev uI:Prop:=jI P w K mg dh dN "shut" 9 ["self", "place"] (iw (gM dN dt ij 6 2))
abbrev c_names:Prop:=oU P w K mg dh "_law_names" 2 ["_law_box_here", "_law_many"] (gO sj)
abbrev c_begun:Prop:=oU P w K mg dh "_law_begun" 5 ["_law_box_here", "_law_most"] (gO (As dN dt))
abbrev sE:Prop:=oU P w K mg dh "_law_origin" 1 ["_law_kept", "_law_name", "_law_bar"] (gO sf)
abbrev c_ages:Prop:=oU P w K mg dh "_law_ages" 1 ["_law_kept"] (gO xf)
abbrev c_heard:Prop:=oU P w K mg dh "_law_heard" 2 ["_law_state", "_law_name"] (gO xa)
abbrev c_takes:Prop:=oU P w K mg dh "_law_takes" 3 ["_law_state"] (gO r8)
abbrev Eu:Prop:=oU P w K mg dh "_law_open" 1 ["_law_state"] (gO wZ)
abbrev c_done:Prop:=oU P w K mg dh "_law_done" 2 ["_law_state", "_law_deed"] (gO xb)
abbrev c_lone:Prop:=oU P w K mg dh "_law_lone" 1 ["_law_kept"] (gO Ci)
abbrev c_easy:Prop:=oU P w K mg dh "_law_easy" 3 ["_law_box_here", "_law_state", "_law_pool"] (gO Ck)
abbrev CJ:Prop:=oU P w K mg dh "_law_stands" 7 ["_law_room", "_law_state"] (gO (vo dN dt))
abbrev c_named:Prop:=oU P w K mg dh "_law_named" 1 ["_law_text"] (gO vt)
abbrev qR:Prop:=oU P w K mg dh "_law_new_word" 2 ["_law_state", "_law_name"] (gO si)
abbrev oa:Prop:=oU P w K mg dh "_law_place_word" 1 ["_law_state", "_law_place"] (gO nY)
abbrev xl:Prop:=oU P w K mg dh "_law_put_word" 3 ["_law_state", "_law_deed"] (gO (iR w0))
abbrev uE:Prop:=oU P w K mg dh "_law_join_word" 3 ["_law_state", "_law_deed"] (gO (iR w1))
abbrev uD:Prop:=oU P w K mg dh "_law_take_word" 1 ["_law_state", "_law_deed"] (gO (iR w24))
abbrev c_word:Prop:=oU P w K mg dh "_law_word" 4 ["_law_state", "_law_deed"] (gO (iR wAll))
abbrev xm:Prop:=oU P w K mg dh "_law_any_name" 2 ["_law_box_here", "_law_state", "_law_pool"] (gO sx)
abbrev uG:Prop:=oU P w K mg dh "_law_bent_deed" 3 ["_law_box_here", "_law_state", "_law_pool", "_law_deed"] (gO Aq)
abbrev c_wild:Prop:=oU P w K mg dh "_law_wild" 4 ["_law_box_here", "_law_state", "_law_pool"] (gO FJ)
abbrev AM:Prop:=CalH P w K mg dh "_law_kinds" 1 ["_law_e"] (sq K ij gF)
abbrev c_told:Prop:=oU P w K mg dh "_law_told" 9 ["_law_room", "_law_deed"] (gO (pD K ij gF dN dt))
abbrev CK:Prop:=qW P w K mg dh "_law_method" 10 ["_law_room", "_law_deed"] (iw (mE dN dt ij))
abbrev uF:Prop:=oU P w K mg dh "_law_by_method" 11 ["_law_room", "_law_deed"] (gO (pD K ij gF dN dt))
end
section
variable {P:ae}{w:af}{K:aa}{mg:Str->Option Value}{dh:Heap}
def ok_box {f:Addr}{fd:ag}(F:gL K "_law_box" "_law_box" Ff f fd)(T:ir mg)  : eF P w K mg dh jM 1 f fd ["_law_script"] (y3 K):=by
 refine F.ok sc_box (fun vs H Q E h=>?_) (fun fR A dA s H vs Q E hr h=>?_)
 ·unfold y3 at h;split at h
  ·rfl
  ·exact h.elim
 ·unfold y3 at h;split at h
  ·rename_i a
   obtain⟨ns,hs,k⟩:=h
   refine⟨_,(jB (mC (pe_lst (d8 (yt listC (by rfl) T.list bj (d8 (jO 0) gh)) (d8 fM (d8 fM (d8 fM gh))))))),?_⟩
   refine⟨_,hs,fun l hl=>?_⟩
   refine⟨(zs),fun b hb=>?_⟩
   have hlb:l≠b:=eY (o:=.lst (ns.map V.int)) dW hb
   have hb0:H b=none:=by rw[d9 hlb.symm]at hb;exact hb
   refine k b l _ ⟨ns,0,0,1,dW,by rw[d9 hlb];exact dW,hlb,by decide,by decide,by decide⟩ hb0 hl fun c o e=>?_
   rw[d9 (eY e hb0),d9 (eY e hl)]
   exact e
  ·exact h.elim
def ok_take {f:Addr}{fd:ag}(F:gL K "_law_take" "_law_take" zt f fd)(T:ir mg)  : eF P w K mg dh jM 1 f fd ["_law_box_here", "_law_many"] (gO FK):=by
 refine eF.imp (sp:=u0) ?_ fun vs H Q E h=>take_imp h
 refine F.ok rn (fun vs H Q E h=>?_) (fun fR A dA s H vs Q E hr h=>?_)
 ·obtain⟨b,n,q,rfl,_⟩:=ua h;rfl
 ·obtain⟨b,n,q,rfl,⟨ns,i,r,z,hb,hq,nqb,hi,hz,hz2⟩,hn,hn2,k⟩:=ua h
  refine⟨_,(gg (ug (mh gtC (pe ixC (jO 0) fM (fun _ _=>rfl)) fM (gU _))
   (gg (tw (i:=2) rn.nd rfl (by first | exact Or.inl rfl | exact Or.inr rfl) (pe ixC (jO 0) fM (fun _ _=>rfl)))
   (gg (tE (jj divC (jO 2) (jO 1)) (wm (jO 0) fM setC))
   (jB (mC (jj BU (jO 2) (jO 1))))))
   mi)
   (gg (tE (jj BU (jj addC (jj mulC (pe ixC (jO 0) fM (fun _ _=>rfl)) fM) fM) fM) (wm (jO 0) fM setC))
   (pss_cut (ug (mh ltC (pe ixC (jO 0) fM (fun _ _=>rfl)) (fG lenC (by rfl) T.len cJ (d8 (pe ixC (jO 0) fM (fun _ _=>rfl)) gh)) (gU _))
   (gg (tw (i:=3) rn.nd rfl (by first | exact Or.inl rfl | exact Or.inr rfl) (pe ixC (pe ixC (jO 0) fM (fun _ _=>rfl)) (pe ixC (jO 0) fM (fun _ _=>rfl)) (fun _ _=>rfl)))
   (gg (ps_augS (jO 0) fM getC fM FE setC)
   (gg (ug (mh geC (jO 3) (jj powC fM fM) (gU _))
   (gg (tE (jj divC (jO 3) (jO 1)) (wm (jO 0) fM setC))
   (jB (mC (jj BU (jO 3) (jO 1)))))
   mi)
   (jB (tE (jj BU (jj addC (pe ixC (jO 0) fM (fun _ _=>rfl)) (jj mulC (jO 3) fM)) fM) (wm (jO 0) fM setC))))))
   mi)
   (gg (tw (i:=4) rn.nd rfl (by first | exact Or.inl rfl | exact Or.inr rfl) (pe ixC (jO 0) fM (fun _ _=>rfl)))
   (gg (tw (i:=5) rn.nd rfl (by first | exact Or.inl rfl | exact Or.inr rfl) (jj BU (jj addC (jj mulC (jO 4) (jO 4)) (jj divC (jO 4) fM)) fM))
   (jB (mC (jj BU (jj BU (jj addC (jj mulC (jO 5) fM) (jO 4)) fM) (jO 1))))))))),?_⟩
  have fin:∀(v:Int) (H':Hp) (i' r' z':Int),OB b H H'->H' b=some (.lst [.ref q,.int i',.int r',.int z'])->0<=i'->0<=z'->z'<2147483647->Q (.int (v%n)) H':=fun v H' i' r' z' ob hb' h1 h2 h3 =>
   k _ _ (Int.emod_nonneg _ (by omega)) (Int.emod_lt_of_pos _ hn) ⟨ns,i',r',z',hb',(ob q nqb).trans hq,nqb,h1,h2,h3⟩ ob
  have md:∀ x:Int,0<=x%2147483647/\x%2147483647<2147483647:=fun x=>⟨Int.emod_nonneg _ (by decide),Int.emod_lt_of_pos _ (by decide)⟩
  refine⟨_,.inl hb,?_⟩
  refine mT (fun h1=>?_) (fun h1=>?_)
  ·refine⟨_,.inl hb,⟨hn,hn2⟩,_,hb,hn,?_⟩
   exact fin _ _ _ _ _ OB.refl.upd dW hi hz hz2
  ·refine⟨_,.inl hb,.inr ⟨by decide,by decide⟩,pM,_,hb,?_⟩
   have ob1:∀ o,OB b H (upd H b o):=fun o=>OB.refl.upd
   refine⟨fun gd H'=>∃(c:Option V) (i' r' z':Int),gd=[some (.ref b),some (.int n),none,c,none,none]/\OB b H H'/\H' b=some (.lst [.ref q,.int i',.int r',.int z'])/\0<=i'/\0<=z'/\z'<2147483647,?_,?_⟩
   ·refine⟨_,.inl dW,_,.inl dW,_,.inl ((ob1 _ q nqb).trans hq),?_⟩
    refine mT (fun h2=>?_) (fun h2=>?_)
    ·have h2':i<(ns.length:Int):=by simpa using h2
     obtain⟨c,hc⟩:∃ c,ns[i.toNat]?=some c:=⟨ns[i.toNat]'(by omega),ux _⟩
     have e:qV (ns.map V.int) i=some (.int c):=by
      have q:=kQ (xs:=ns.map V.int) (j:=i.toNat) (v:=.int c) (by rw[uw,hc];rfl)
      rwa [Int.toNat_of_nonneg hi]at q
     refine⟨_,.inl dW,_,.inl dW,_,.inl ((ob1 _ q nqb).trans hq),dn e ?_⟩
     refine⟨_,dW,by decide,_,dW,?_⟩
     refine⟨⟨by decide,by decide,by decide⟩,?_⟩
     refine mT (fun h3=>?_) (fun h3=>?_)
     ·refine⟨⟨hn,hn2⟩,_,dW,hn,?_⟩
      exact fin _ _ (i+1) _ _ OB.refl.upd.upd.upd dW (by omega) (md _).1 (md _).2
     ·refine⟨_,.inl dW,.inr ⟨by decide,by decide⟩,pM,_,dW,?_⟩
      exact⟨_,i+1,_,_,rfl,OB.refl.upd.upd.upd,dW,by omega,(md _).1,(md _).2⟩
    ·exact⟨_,i,_,_,rfl,OB.refl.upd,dW,hi,(md _).1,(md _).2⟩
   ·rintro gd H' ⟨c,i',r',z',rfl,ob,hb',h1,h2,h3⟩
    refine⟨_,.inl hb',.inl ⟨by omega,by omega⟩,⟨by decide,by decide⟩,pN,.inr ⟨by decide,by decide⟩,pM,hn,?_⟩
    exact fin _ _ i' _ _ ob hb' h1 h2 h3
def tU {μ:MS}{n:Nat}{it:D->MS->(Option D->MS->Prop)->Prop}{K:DK}(hn:n<=1000)(hit:∀(d:D) (K':Option D->MS->Prop),(∀ c:Nat,(c=111\/c=120)->K' (some (.str ⟨#[c]⟩)) μ)->it d μ K')(k:∀ l:List Nat,l.length=n->OX l->K (.str (txt l)) μ) :
 sD it (fun _=>True) (kN 0 n) μ fun ys fw=>nL false ys fw fun x oI=>fJoin (.str (Str.ofString "")) [x] oI K:=by
 refine qg (fun c:Nat=>D.str ⟨#[c]⟩) (fun c=>c=111\/c=120) trivial (fun d hd K' k'=>hit d K' k') fun l hl ho=>?_
 rw[iz]at hl
 refine⟨rfl,l.map (fun c=>⟨#[c]⟩),by unfold lv;rw[aG];rfl,by rw[pY];omega,?_⟩
 rw[nW]
 exact k l hl fun c hc=>ho c hc
def B4 {ds:List D}{μ:MS}{Kd:DK}(h:Cm ds μ Kd):∃ v0 v1,ds=[.mr v0,.int v1]:=by
 unfold Cm at h
 rcases ds with _ | ⟨z0,ds⟩
 ·exact False.elim h
 cases z0 <;> first | exact False.elim h | skip
 rcases ds with _ | ⟨z1,ds⟩
 ·exact False.elim h
 cases z1 <;> first | exact False.elim h | skip
 rcases ds with _ | ⟨zz,zs⟩
 ·exact⟨_,_,rfl⟩
 ·exact False.elim h
def ok_bars {f:Addr}{fd:ag}(F:gL K "_law_bars" "_law_bars" zE f fd)(T:ir mg)(eO:n9 P w K mg dh):eF P w K mg dh jM 2 f fd ["_law_box_here", "_law_size"] (gO Cm):=by
 refine F.oJ nA (fun ds μ Kd h=>by obtain⟨_,_,rfl⟩:=B4 h;rfl) (fun fR A dA s H E hr=>⟨_,(du (qS 2 nA.nd (qC eO hr (a2 (dv 0) dq)))
  (du (fA (ma (dv 2) dq)
  (dD (dY (Az bE cb b9 BY rk dE (a1 (dC1 false (Bb (N:=["_law_k", "_law_box_here"]) (js:=[none,some 0]) nA (by decide +kernel)) (iX rfl T.range (a1 (dv 1))) (fun _ _ _ nd=>(qN 0 nd)) (fun _ _ _=>kr) (fun _ _ _=>(eS dE (qC eO hr (a2 (dv 1) dq)))))))))
  eQ)
  (du (fA (ma (dv 2) dq)
  (dD (dY (Az bE cb b9 BY rk dE (a1 (dC1 false (Bb (N:=["_law_k", "_law_box_here"]) (js:=[none,some 0]) nA (by decide +kernel)) (iX rfl T.range (a1 (dv 1))) (fun _ _ _ nd=>(qN 0 nd)) (fun _ _ _=>kr) (fun _ _ _=>(eS dE (qC eO hr (a2 (dv 1) dq)))))))))
  eQ)
  (du (fA (ma (dv 2) dq)
  (du (qS 3 nA.nd (qC eO hr (a2 (dv 0) (dv 1))))
  (du (qS 4 nA.nd (oR (oR (dv 3) dq) (qC eO hr (a2 (dv 0) (dMi (dv 1) (dv 3))))))
  (dD (dY (oR (oR (tR mulC vN dE (dv 3)) (tR mulC vN dE (dMi (dv 4) (dv 3)))) (tR mulC vN dE (dMi (dv 1) (dv 4))))))))
  eQ)
  (du (fA (ma (dv 2) dq)
  (dD (dY (Az bE cb b9 BY rk dE (a1 (dC1 false (Bb (N:=["_law_k", "_law_box_here"]) (js:=[none,some 0]) nA (by decide +kernel)) (iX rfl T.range (a1 (dv 1))) (fun _ _ _ nd=>(qN 0 nd)) (fun _ _ _=>kr) (fun _ _ _=>(eS dE (qC eO hr (a2 (dv 1) dq)))))))))
  eQ)
  (dD (dY (tR mulC vN (eS dE (qC eO hr (a2 (dv 0) dq))) (dv 1))))))))),fun ds μ Kd hm hl h=>?_⟩)
 obtain⟨k,n,rfl⟩:=B4 h
 unfold Cm at h
 ·skip
  obtain⟨hb,h1,h2,kk⟩:=h
  refine⟨hb,by decide,by decide,fun v v0 v1=>?_⟩
  refine wK (fun hv=>?_) (fun hv=>?_)
  ·refine⟨rfl,by omega,by omega,sz (by rw[iz];omega),?_⟩
   refine tU (n:=n.toNat) (by omega) (fun d K' k'=>?_) fun l hl ho=>.keep (kk l hl ho)
   refine⟨hb,by decide,by decide,fun v v0 v1=>⟨by decide,?_⟩⟩
   obtain⟨c,e,hc⟩:=xr (l:=(Str.ofString "ox").cps.toList) v0 v1
   exact dn e (k' c ((OX.of (l:=(Str.ofString "ox").cps.toList) (by decide +kernel)) c hc))
  refine wK (fun hv=>?_) (fun hv=>?_)
  ·refine⟨rfl,by omega,by omega,sz (by rw[iz];omega),?_⟩
   refine tU (n:=n.toNat) (by omega) (fun d K' k'=>?_) fun l hl ho=>.keep (kk l hl ho)
   refine⟨hb,by decide,by decide,fun v v0 v1=>⟨by decide,?_⟩⟩
   obtain⟨c,e,hc⟩:=xr (l:=(Str.ofString "ooooox").cps.toList) v0 v1
   exact dn e (k' c ((OX.of (l:=(Str.ofString "ooooox").cps.toList) (by decide +kernel)) c hc))
  refine wK (fun hv=>?_) (fun hv=>?_)
  ·refine⟨hb,by omega,by omega,fun p p0 p1=>⟨hb,by omega,by omega,fun g g0 g1=>?_⟩⟩
   refine⟨120,rfl,by omega,by omega,111,rfl,by omega,by omega,?_,120,rfl,by omega,by omega,?_,?_⟩
   ·rw[D8,D8,aP,aP];exact sz (by omega)
   ·rw[om,D8,D8,lx,aP,aP,aP];exact sz (by omega)
   rw[om,om]
   refine .keep (kk _ ?_ (((OX.rep (.inr rfl)).app (OX.rep (.inl rfl))).app (OX.rep (.inr rfl))))
   rw[lx,lx,aP,aP,aP];omega
  refine wK (fun hv=>?_) (fun hv=>?_)
  ·refine⟨rfl,by omega,by omega,sz (by rw[iz];omega),?_⟩
   refine tU (n:=n.toNat) (by omega) (fun d K' k'=>?_) fun l hl ho=>.keep (kk l hl ho)
   refine⟨hb,by decide,by decide,fun v v0 v1=>⟨by decide,?_⟩⟩
   obtain⟨c,e,hc⟩:=xr (l:=(Str.ofString "xxxo").cps.toList) v0 v1
   exact dn e (k' c ((OX.of (l:=(Str.ofString "xxxo").cps.toList) (by decide +kernel)) c hc))
  refine⟨hb,by decide,by decide,fun p p0 p1=>⟨by decide,?_⟩⟩
  obtain⟨c,e,hc⟩:=xr (l:=(Str.ofString "ox").cps.toList) p0 p1
  exact dn e ⟨c,rfl,by omega,by omega,.keep (kk _ (aP ..) (OX.rep ((OX.of (l:=(Str.ofString "ox").cps.toList) (by decide +kernel)) c hc)))⟩
def BG (n:Nat){f:Addr}{fd:ag}(F:gL K "_law_same" "_law_same" s_same f fd)(T:ir mg)(jJ:oU P w K mg dh "_law_same" n ["_law_found", "_law_due"] (spS n)):eF P w K mg dh jM (n+1) f fd ["_law_found", "_law_due"] (sY n):=by
 refine F.ok sc_same (fun vs H Q E h=>?_) (fun fR A dA s H vs Q E hr h=>?_)
 ·unfold sY at h;split at h
  ·rfl
  ·exact h.elim
 ·unfold sY at h;split at h
  ·rename_i x y
   obtain⟨d,hd,hw,hx,hy,k⟩:=h
   refine⟨_,(gg (ug (PW.pt (pw_or (rK (fG rT (by rfl) T.isinstance aJ (d8 (jO 1) (d8 (ic (v:=.ty "bool") rfl T.bool cy rfl) gh)))) (pw_or1 (rK (fG rT (by rfl) T.isinstance aJ (d8 (jO 0) (d8 (ic (v:=.ty "bool") rfl T.bool cy rfl) gh)))))))
   (jB (mC (vi (fG rT (by rfl) T.isinstance aJ (d8 (jO 1) (d8 (ic (v:=.ty "bool") rfl T.bool cy rfl) gh))) (vi (fG rT (by rfl) T.isinstance aJ (d8 (jO 0) (d8 (ic (v:=.ty "bool") rfl T.bool cy rfl) gh))) (DY (rL eqN (jO 0) (jO 1) (gU _)))))))
   mi)
   (gg (ug (PW.pt (pw_or (rK (fG rT (by rfl) T.isinstance aJ (d8 (jO 1) (d8 (ic (v:=.ty "list") rfl T.list bj rfl) gh)))) (pw_or1 (rK (fG rT (by rfl) T.isinstance aJ (d8 (jO 1) (d8 (ic (v:=.ty "tuple") rfl T.tuple dc rfl) gh)))))))
   (gg (ug (PW.pt (pw_or (mh A9 (fG rT (by rfl) T.isinstance aJ (d8 (jO 1) (d8 (ic (v:=.ty "list") rfl T.list bj rfl) gh))) (fG rT (by rfl) T.isinstance aJ (d8 (jO 0) (d8 (ic (v:=.ty "list") rfl T.list bj rfl) gh))) (gU _)) (pw_or1 (mh A9 (fG rT (by rfl) T.isinstance aJ (d8 (jO 1) (d8 (ic (v:=.ty "tuple") rfl T.tuple dc rfl) gh))) (fG rT (by rfl) T.isinstance aJ (d8 (jO 0) (d8 (ic (v:=.ty "tuple") rfl T.tuple dc rfl) gh))) (gU _)))))
   (jB (mC pe_bl))
   mi)
   (jB (mC (vi (rL eqC (fG lenC (by rfl) T.len cJ (d8 (jO 0) gh)) (fG lenC (by rfl) T.len cJ (d8 (jO 1) gh)) (gU _)) (DY (fG (allC rfl) (by rfl) T.all PyProof.Rows.boot_all (d8 (Fp (compOk (XN:=["_law_found", "_law_due"]) (xsc:=(dw s_same)) (N:=["_law_one", "_law_other"]) (js:=[none,none]) (by decide +kernel)) rfl (pi_zip rfl T.zip (d8 (jO 0) (d8 (jO 1) gh))) (fun _ _ _=>(fX (n:=2) rfl (dG (vh (i:=0) (show List.Nodup (["_law_one", "_law_other"]:List Str) by decide +kernel) rfl (by first | exact Or.inl rfl | exact Or.inr rfl)) (dG (vh (i:=1) (show List.Nodup (["_law_one", "_law_other"]:List Str) by decide +kernel) rfl (by first | exact Or.inl rfl | exact Or.inr rfl)) fB)))) (fun _ _ _=>Fl) (fun _ _ _=>(wq jJ (hr.mono (by first | decide | exact ah _ | omega)) rfl (d8 (jO 0) (d8 (jO 1) gh))))) gh)))))))
   mi)
   (gg (ug (PW.pt (pw_or (mh A9 (fG rT (by rfl) T.isinstance aJ (d8 (jO 1) (d8 (ic (v:=.ty "str") rfl T.str PyProof.Rows.boot_str rfl) gh))) (fG rT (by rfl) T.isinstance aJ (d8 (jO 0) (d8 (ic (v:=.ty "str") rfl T.str PyProof.Rows.boot_str rfl) gh))) (gU _)) (pw_or1 (mh A9 (fG rT (by rfl) T.isinstance aJ (d8 (jO 1) (d8 (ic (v:=.ty "int") rfl T.int PyProof.Rows.boot_int rfl) gh))) (fG rT (by rfl) T.isinstance aJ (d8 (jO 0) (d8 (ic (v:=.ty "int") rfl T.int PyProof.Rows.boot_int rfl) gh))) (gU _)))))
   (jB (mC pe_bl))
   mi)
   (jB (mC (rL eqN (jO 0) (jO 1) (gU _))))))),?_⟩
   cases d with
   | bl b =>
    obtain rfl:x=.bl b:=hx
    obtain rfl:y=.bl b:=hy
    refine⟨_,true,iZ.bl b,hJ K _,_,true,iZ.bl b,hJ K _,_,true,iZ.bl b,hJ K _,?_⟩
    show Q (.bl (decide (b=b))) H
    rw[ak rfl]
    exact k H (gG.refl H)
   | int i =>
    obtain rfl:x=.int i:=hx
    obtain rfl:y=.int i:=hy
    refine⟨_,false,.int i,rfl,_,false,.int i,rfl,_,false,.int i,rfl,_,false,.int i,rfl,_,false,.int i,rfl,_,false,.int i,rfl,_,true,.int i,hJ K _,_,true,.int i,hJ K _,?_⟩
    show Q (.bl (decide (i=i))) H
    rw[ak rfl]
    exact k H (gG.refl H)
   | str z =>
    obtain rfl:x=.str z:=hx
    obtain rfl:y=.str z:=hy
    refine⟨_,false,.str z,rfl,_,false,.str z,rfl,_,false,.str z,rfl,_,false,.str z,rfl,_,true,.str z,hJ K _,_,true,.str z,hJ K _,_,false,.str z,rfl,_,false,.str z,rfl,?_⟩
    show Q (.bl (decide (z=z))) H
    rw[ak rfl]
    exact k H (gG.refl H)
   | fV =>
    obtain rfl:x=.fV:=hx
    obtain rfl:y=.fV:=hy
    refine⟨_,false,.fV,rfl,_,false,.fV,rfl,_,false,.fV,rfl,_,false,.fV,rfl,_,false,.fV,rfl,_,false,.fV,rfl,_,false,.fV,rfl,_,false,.fV,rfl,?_⟩
    exact k H (gG.refl H)
   | lst ds =>
    obtain⟨p,vs,rfl,hp,qp⟩:=hx
    obtain⟨q,ws,rfl,hq,qq⟩:=hy
    obtain⟨m,rfl⟩:∃ m,n=m+1:=⟨n - 1,by unfold dep at hd;omega⟩
    have hd':yc ds<=m:=by unfold dep at hd;omega
    have hw1:ds.length<sizeLine:=by unfold wid at hw;omega
    have hw2:xK ds<sizeLine:=by unfold wid at hw;omega
    have len:vs.length=ws.length:=by rw[qp.len,qq.len]
    refine⟨_,false,iZ.lst hq,rfl,_,false,iZ.lst hp,rfl,_,true,iZ.lst hq,hJ K _,_,true,iZ.lst hq,hJ K _,_,true,iZ.lst hp,hJ K _,_,false,iZ.lst hq,rfl,_,false,iZ.lst hp,rfl,?_⟩
    refine⟨_,.inl hp,_,.inl hq,?_⟩
    refine wK (fun _=>?_) (fun h=>(h (by rw[len])).elim)
    refine⟨false,_,_,hp,hq,?_⟩
    refine Ge len (fun i ys H'=>ys=List.replicate i (V.bl true)/\gG H H') ⟨rfl,gG.refl H⟩ (fun i ys H' h=>⟨h.2 _ _ hp,h.2 _ _ hq⟩) ?_ ?_
    ·rintro i x' y' ys H' T' hi ex ey ⟨rfl,S⟩ hT
     refine⟨_,dW,rfl,Ext.own2,?_⟩
     obtain⟨d1,e1,i1⟩:=qp.get ex
     obtain⟨d2,e2,i2⟩:=qq.get ey
     rw[e1]at e2;cases e2
     have S2:gG H (upd H' T' (.tup [x',y'])):=S.trans (gG.upd hT)
     refine⟨d1,az (xh e1) hd',b7 (vG e1) hw2,i1.mono S2 _ _,i2.mono S2 _ _,fun H3 S3=>?_⟩
     exact cnx hi (by rw[aP];have:=qp.len;omega) ⟨by rw[List.replicate_succ'],S2.trans S3⟩
    ·rintro ys H' ⟨rfl,S⟩ D hD
     refine⟨List.replicate vs.length true,by rw[dW,List.map_replicate],?_⟩
     have e:(List.replicate vs.length true).all id=true:=by rw[cw];intro b hb;rw[(List.mem_replicate.mp hb).2];rfl
     show Q (.bl ((List.replicate vs.length true).all id)) (upd H' D (.lst (List.replicate vs.length (V.bl true))))
     rw[e]
     exact k _ (S.trans (gG.upd hD))
   | tup ds =>
    obtain⟨p,vs,rfl,hp,qp⟩:=hx
    obtain⟨q,ws,rfl,hq,qq⟩:=hy
    obtain⟨m,rfl⟩:∃ m,n=m+1:=⟨n - 1,by unfold dep at hd;omega⟩
    have hd':yc ds<=m:=by unfold dep at hd;omega
    have hw1:ds.length<sizeLine:=by unfold wid at hw;omega
    have hw2:xK ds<sizeLine:=by unfold wid at hw;omega
    have len:vs.length=ws.length:=by rw[qp.len,qq.len]
    refine⟨_,false,iZ.tup hq,rfl,_,false,iZ.tup hp,rfl,_,false,iZ.tup hq,rfl,_,true,iZ.tup hq,hJ K _,_,false,iZ.tup hq,rfl,_,false,iZ.tup hp,rfl,_,true,iZ.tup hq,hJ K _,_,true,iZ.tup hp,hJ K _,?_⟩
    refine⟨_,.inr hp,_,.inr hq,?_⟩
    refine wK (fun _=>?_) (fun h=>(h (by rw[len])).elim)
    refine⟨true,_,_,hp,hq,?_⟩
    refine Ge len (fun i ys H'=>ys=List.replicate i (V.bl true)/\gG H H') ⟨rfl,gG.refl H⟩ (fun i ys H' h=>⟨h.2 _ _ hp,h.2 _ _ hq⟩) ?_ ?_
    ·rintro i x' y' ys H' T' hi ex ey ⟨rfl,S⟩ hT
     refine⟨_,dW,rfl,Ext.own2,?_⟩
     obtain⟨d1,e1,i1⟩:=qp.get ex
     obtain⟨d2,e2,i2⟩:=qq.get ey
     rw[e1]at e2;cases e2
     have S2:gG H (upd H' T' (.tup [x',y'])):=S.trans (gG.upd hT)
     refine⟨d1,az (xh e1) hd',b7 (vG e1) hw2,i1.mono S2 _ _,i2.mono S2 _ _,fun H3 S3=>?_⟩
     exact cnx hi (by rw[aP];have:=qp.len;omega) ⟨by rw[List.replicate_succ'],S2.trans S3⟩
    ·rintro ys H' ⟨rfl,S⟩ D hD
     refine⟨List.replicate vs.length true,by rw[dW,List.map_replicate],?_⟩
     have e:(List.replicate vs.length true).all id=true:=by rw[cw];intro b hb;rw[(List.mem_replicate.mp hb).2];rfl
     show Q (.bl ((List.replicate vs.length true).all id)) (upd H' D (.lst (List.replicate vs.length (V.bl true))))
     rw[e]
     exact k _ (S.trans (gG.upd hD))
  ·exact h.elim
def Fw {f:Addr}{fd:ag}(F:gL K "_law_same" "_law_same" s_same f fd)(T:ir mg)(hm:mg "_law_same"=some (.ref f))(hk:W.keepIn K (.ref f)=true)(hb:Binds K fd ["_law_found", "_law_due"] []):∀ n,eF P w K mg dh jM (n+1) f fd ["_law_found", "_law_due"] (sY n)
 | 0=>BG 0 F T ⟨f,fd,⟨fun _ _ _ _ h=>h.elim,fun _ _ _ _ _ _ _ _ _ _ _ _ _ h=>h.elim⟩,hm,hk,hb⟩
 | n+1=>BG (n+1) F T ⟨f,fd,Fw F T hm hk hb n,hm,hk,hb⟩
def ok_joined {f:Addr}{fd:ag}(F:gL K "joined" "joined" rG f fd)(T:ir mg)  : eF P w K mg dh jM 1 f fd ["one", "other", "place"] (gO vw):=by
 refine F.oJ kU (fun ds μ Kd h=>by unfold vw at h;split at h <;> first | rfl | exact h.elim) (fun fR A dA s H E hr=>⟨_,(du (jy (dv 0) ⟨(fX (n:=2) rfl (dG (qN 3 kU.nd) (dG (qN 4 kU.nd) fB))),(gS (dU (dQ 3) (dk 3) (dU (dQ 4) (dk 4) gT dP) (dz (dk 4) dP))),(gV (dz (dk 3) (dz (dk 4) dP)))⟩)
  (du (jy (dv 1) ⟨(fX (n:=2) rfl (dG (qN 5 kU.nd) (dG (qN 6 kU.nd) fB))),(gS (dU (dQ 5) (dk 5) (dU (dQ 6) (dk 6) gT dP) (dz (dk 6) dP))),(gV (dz (dk 5) (dz (dk 6) dP)))⟩)
  (du (qS 7 kU.nd (qz (maxC rfl) DH (by rfl) T.max PyProof.Rows.boot_max (a2 (dv 2) dq)))
  (dD (dY (fW (a2 (oR (j5 false (dv 3) rO (iQ (dv 7))) (j5 false (dv 5) (iQ (dv 7)) rO)) (oR (qz (maxC rfl) DH (by rfl) T.max PyProof.Rows.boot_max (a2 (dv 4) (dv 6))) dq)))))))),fun ds μ Kd hm hl h=>?_⟩)
 unfold vw at h
 split at h
 ·rename_i z a y b p
  obtain⟨x,u,rfl,rfl,rfl,rfl,hp,hx,hu,kk⟩:=h
  have lz1:(txt x.1).length<=sizeLine:=by rw[lM];exact sz (by omega)
  have lz2:(txt u.1).length<=sizeLine:=by rw[lM];exact sz (by omega)
  have c1:=n5 x.1 none (some (max p 0))
  have c2:=n5 u.1 (some (max p 0)) none
  refine⟨rfl,rfl,lz1,lz2,?_,zs,.keep ?_⟩
  ·show(txt (gN x.1 none (some (max p 0)))).length+(txt (gN u.1 (some (max p 0)) none)).length<=sizeLine
   rw[lM,lM];exact sz (by omega)
  ·show Kd (.tup [.str (txt (gN x.1 none (some (max p 0)))++txt (gN u.1 (some (max p 0)) none)),.int (max x.2 u.2+1)]) μ
   rw[show max p 0=p by omega,om,AG hp,tT hp]
   exact kk
 ·exact h.elim
def uo {ds:List D}{μ:MS}{Kd:DK}(h:su ds μ Kd):∃ v0 v1,ds=[.int v0,.str v1]:=by
 unfold su at h
 rcases ds with _ | ⟨z0,ds⟩
 ·exact False.elim h
 cases z0 <;> first | exact False.elim h | skip
 rcases ds with _ | ⟨z1,ds⟩
 ·exact False.elim h
 cases z1 <;> first | exact False.elim h | skip
 rcases ds with _ | ⟨zz,zs⟩
 ·exact⟨_,_,rfl⟩
 ·exact False.elim h
def D1 {f:Addr}{fd:ag}(F:gL K "is_bars" "is_bars" p7 f fd)(T:ir mg)  : eF P w K mg dh jM 1 f fd ["size", "text"] (gO su):=by
 refine F.oJ DL (fun ds μ Kd h=>by obtain⟨_,_,rfl⟩:=uo h;rfl) (fun fR A dA s H E hr=>⟨_,(dD (dY (CC (uz eqC vO (yd T (dv 1)) (dv 0) (gU _)) (FZ (uz eqC vO (oR (Az bE PySem.F.slot_str_count PySem.F.type_str_count countC Bm (dv 1) (a1 dE)) (Az bE PySem.F.slot_str_count PySem.F.type_str_count countC Bm (dv 1) (a1 dE))) (dv 0) (gU _)))))),fun ds μ Kd hm hl h=>?_⟩)
 obtain⟨n,z,rfl⟩:=uo h
 unfold su at h
 ·skip
  obtain⟨hz,kk⟩:=h
  refine⟨sz (by omega),?_⟩
  have ox:(((z.cps.toList.count 111:Nat):Int)+((z.cps.toList.count 120:Nat):Int)=n/\((z.length:Nat):Int)=n)↔(((z.length:Nat):Int)=n/\A8 z=true):=by
   have:=cnt_ox z.cps.toList
   have lz:z.length=z.cps.toList.length:=(bZ (xs:=z.cps)).symm
   constructor
   ·rintro⟨h1,h2⟩;exact⟨h2,this.mp (by omega)⟩
   ·rintro⟨h1,h2⟩;have:=this.mpr h2;exact⟨by omega,h1⟩
  refine wK (c:=((z.length:Nat):Int)=n) (fun e=>?_) (fun e=>?_)
  ·refine⟨rfl,111,rfl,rfl,120,rfl,?_⟩
   have:decide (((z.length:Nat):Int)=n/\A8 z=true)=decide (((z.cps.toList.count 111:Nat):Int)+((z.cps.toList.count 120:Nat):Int)=n):=by
    by_cases q:((z.cps.toList.count 111:Nat):Int)+((z.cps.toList.count 120:Nat):Int)=n
    ·rw[ak q,ak (ox.mp ⟨q,e⟩)]
    ·rw[au q,au fun y=>q (ox.mpr y).1]
   rw[this]at kk
   show Fz _ Kd (.bl (false != decide (((z.cps.toList.count 111:Nat):Int)+((z.cps.toList.count 120:Nat):Int)=n))) μ
   rw[fne]
   exact .keep kk
  ·rw[au (fun y=>e y.1)]at kk
   exact .keep kk
def rV {ds:List D}{μ:MS}{Kd:DK}(h:Cd ds μ Kd):∃ v0 v1 v2 v3,ds=[.lD v0 v1,v2,v3]:=by
 unfold Cd at h
 rcases ds with _ | ⟨z0,ds⟩
 ·exact False.elim h
 cases z0 <;> first | exact False.elim h | skip
 rcases ds with _ | ⟨z1,ds⟩
 ·exact False.elim h
 rcases ds with _ | ⟨z2,ds⟩
 ·exact False.elim h
 rcases ds with _ | ⟨zz,zs⟩
 ·exact⟨_,_,_,_,rfl⟩
 ·exact False.elim h
def BF {f:Addr}{fd:ag}(F:gL K "with_key" "with_key" nF f fd)(T:ir mg)  : eF P w K mg dh jM 1 f fd ["table", "key", "thing"] (gO Cd):=by
 refine F.oJ ub (fun ds μ Kd h=>by obtain⟨_,_,_,_,rfl⟩:=rV h;rfl) (fun fR A dA s H E hr=>⟨_,(du (qS 3 ub.nd (CA dictC vP (by rfl) T.dict de (a1 (dv 0))))
  (du (jx (fE hr) (dv 2) (dv 3) (dv 1))
  (dD (dY (xj (dv 3)))))),fun ds μ Kd hm hl h=>?_⟩)
 obtain⟨ks,es,y,v,rfl⟩:=rV h
 unfold Cd at h
 ·skip
  obtain⟨kd,k,rfl,rfl,hl2,hk,kk⟩:=h
  refine dn rfl ?_
  refine⟨kd,dput kd k v,fC,b7 hl2 (by decide),by rw[hk];rfl,?_⟩
  rw[gb]
  refine⟨_,_,fC,fun o kvs hks=>?_⟩
  rw[gb]
  refine Fz.lD (ah _) fC (nP hl.1 hl.2.2.1) (gH hm) ?_
  rw[aV,hks]
  exact kk
def oG {ds:List D}{μ:MS}{Kd:DK}(h:pC ds μ Kd):∃ v0 v1 v2,ds=[.lD v0 v1,v2]:=by
 unfold pC at h
 rcases ds with _ | ⟨z0,ds⟩
 ·exact False.elim h
 cases z0 <;> first | exact False.elim h | skip
 rcases ds with _ | ⟨z1,ds⟩
 ·exact False.elim h
 rcases ds with _ | ⟨zz,zs⟩
 ·exact⟨_,_,_,rfl⟩
 ·exact False.elim h
def wu {f:Addr}{fd:ag}(F:gL K "without_key" "without_key" jY f fd)(T:ir mg)  : eF P w K mg dh jM 1 f fd ["table", "key"] (gO pC):=by
 refine F.oJ o7 (fun ds μ Kd h=>by obtain⟨_,_,_,rfl⟩:=oG h;rfl) (fun fR A dA s H E hr=>⟨_,(dD (dY (xj (d_compM (Bb (N:=["other", "thing", "key"]) (js:=[none,none,some 1]) o7 (by decide +kernel)) rfl (gS (dU (dQ 0) (dk 0) (dU (dQ 1) (dk 1) gT dP) (dz (dk 1) dP))) (gV (dz (dk 0) (dz (dk 1) dP))) rfl (B7 (dv 0)) (fun _ _ _=>(fX (n:=2) rfl (dG (qN 0 (show List.Nodup (["other", "thing", "key"]:List Str) by decide +kernel)) (dG (qN 1 (show List.Nodup (["other", "thing", "key"]:List Str) by decide +kernel)) fB)))) (fun _ _ _=>(sV (qNe (dv 0) (dv 2)))) (fun _ _ _=>(dv 0)) (fun _ _ _=>(dv 1)))))),fun ds μ Kd hm hl h=>?_⟩)
 obtain⟨ks,es,y,rfl⟩:=oG h
 unfold pC at h
 ·skip
  obtain⟨kd,k,rfl,rfl,hl2,nd,hk,hs,kk⟩:=h
  intro hlen
  rw[yy]
  refine⟨by rw[fF];exact sz (by omega),?_⟩
  refine mG (fun p=>decide (p.1≠k)) kd [] _ nd (fun p hp μ' K' k'=>?_) ?_
  ·refine⟨rfl,?_⟩
   rcases hs p hp with⟨i,j,e1,rfl⟩ | ⟨i,j,e1,rfl⟩
   ·obtain⟨pk,pv⟩:=p
    cases e1
    cases y with
    | int y =>
     cases hk
     refine FD (c:=i=j) (fun q=>?_) (fun q=>?_)
     ·have k':K' (if decide (km i≠km j)=true then some (km i,pv)else none) μ':=k'
      rw[ak (show km i≠km j from fun z=>q (iC _ _ z))]at k';exact k'
     ·have k':K' (if decide (km i≠km j)=true then some (km i,pv)else none) μ':=k'
      rw[au (show ¬ km i≠km j from fun z=>z (by rw[q]))]at k';exact k'
    | _=>cases hk
   ·obtain⟨pk,pv⟩:=p
    cases e1
    cases y with
    | str y =>
     cases hk
     refine FD (c:=i=j) (fun q=>?_) (fun q=>?_)
     ·have k':K' (if decide (eB i≠eB j)=true then some (eB i,pv)else none) μ':=k'
      rw[ak (show eB i≠eB j from fun z=>q (dR _ _ z))]at k';exact k'
     ·have k':K' (if decide (eB i≠eB j)=true then some (eB i,pv)else none) μ':=k'
      rw[au (show ¬ eB i≠eB j from fun z=>z (by rw[q]))]at k';exact k'
    | _=>cases hk
  ·refine⟨_,_,fC,fun o kvs hks=>?_⟩
   rw[gb]
   refine Fz.lD (ah _) fC (jR fun d hd=>?_) (gH hm) ?_
   ·obtain⟨p,hp,rfl⟩:=List.mem_map.mp hd
    exact vk hl.1 (List.mem_map.mpr ⟨p,(List.mem_filter.mp hp).1,rfl⟩)
   ·rw[aV,hks]
    exact kk
def rM {f:Addr}{fd:ag}(F:gL K "__init__" "Stand.__init__" iI f fd)(T:ir mg)(dm:gi K dt):eF P w K mg dh jM 1 f fd ["self", "length", "made_of", "firsts", "closed"] (gO (vp dt)):=by
 refine F.oJ rB (fun ds μ Kd h=>by unfold vp at h;split at h <;> first | rfl | exact h.elim) (fun fR A dA s H E hr=>⟨_,(du (vZ dm.cl dm.gP (dv 1) (dv 0))
  (du (vZ dm.cl dm.fU (dv 2) (dv 0))
  (du (vZ dm.cl dm.iB (dv 3) (dv 0))
  (dD (vZ dm.cl dm.iW (dv 4) (dv 0)))))),fun ds μ Kd hm hl h=>?_⟩)
 unfold vp at h
 split at h
 ·rename_i k n a b c
  obtain⟨em,kk⟩:=h
  have hk:k<μ.length:=(lK em).1
  have st:∀ ns ds,(μ.set k (.ins dt ns ds))[k]?=some (.ins dt ns ds):=fun ns ds=>aD hk
  refine⟨_,_,fT em,rfl,by decide,?_⟩
  refine⟨_,_,fT (st _ _),rfl,by show 1<1000;decide,?_⟩
  rw[df]
  refine⟨_,_,fT (st _ _),rfl,by show 2<1000;decide,?_⟩
  rw[df]
  refine⟨_,_,fT (st _ _),rfl,by show 3<1000;decide,?_⟩
  rw[df]
  exact .keep kk
 ·exact h.elim
def ph {f:Addr}{fd:ag}(F:gL K "check_there" "Stand.check_there" g9 f fd)(T:ir mg)(dm:gi K dt)(m6:OwnCls "NoTake" vA nh "ValueError.__new__" mg dh):eF P w K mg dh (k9 P w) 1 f fd ["self", "name"] (iw (wX dt ij)):=by
 refine F.rN o9 (fun ds μ Kd Kx h=>El h) (fun fR A dA s H E hr eG Kb Z=>⟨_,(dD (fA (kh (fE hr) (dv 1) (eW dm.cl dm.fU (dv 0)) (by with_unfolding_all rfl))
  (dD (iH Z rfl m6 aq (by decide) aq rfl (a1 dE)))
  eQ)),fun ds μ m Kd Kx hm hl em h hK=>?_⟩)
 unfold wX at h
 split at h
 ·rename_i x nm
  obtain⟨_,S,rfl,kk⟩:=h
  refine⟨rfl,_,rfl,_,gQ dR mO nm S.dj rfl,?_⟩
  cases e:dJ S.dj nm with
  | none=>rw[e]at kk;exact⟨zs,fb hK em kk⟩
  | some x=>rw[e]at kk;exact .keep (jk em kk)
 ·exact h.elim
def wz {f:Addr}{fd:ag}(F:gL K "parts" "Stand.parts" j3 f fd)(T:ir mg)(dm:gi K dt)(fc:gq P w K mg dh):eF P w K mg dh (k9 P w) 2 f fd ["self", "name"] (iw (se dt ij)):=by
 refine F.rN vX (fun ds μ Kd Kx h=>Cg h) (fun fR A dA s H E hr eG Kb Z=>⟨_,(du (gC (fq Z.z fc dm.cl hr.le (dv 0) (a1 (dv 1))))
  (dD (dY (jl (fE hr) (eW dm.cl dm.fU (dv 0)) (dv 1) (fun _ _=>rfl))))),fun ds μ m Kd Kx hm hl em h hK=>?_⟩)
 unfold se at h
 split at h
 ·rename_i x nm
  obtain⟨_,S,rfl,kk⟩:=h
  refine⟨⟨rfl,rfl⟩,dZ em,⟨_,dZ em⟩,S,rfl,?_⟩
  cases e:dJ S.dj nm with
  | none=>rw[e]at kk;exact(fb hK em kk).2
  | some x =>
   rw[e]at kk
   exact⟨rfl,_,rfl,mO x,by rw[gQ dR mO nm S.dj rfl,e];rfl,.keep (jk em kk)⟩
 ·exact h.elim
def uS {f:Addr}{fd:ag}(F:gL K "source" "Stand.source" jz f fd)(T:ir mg)(dm:gi K dt)(m9:OwnCls "BadBar" vD nh "ValueError.__new__" mg dh)(ja:kc P w K mg dh):eF P w K mg dh (k9 P w) 3 f fd ["self", "name", "bar"] (iw (pE dt ij)):=by
 refine F.rN fI (fun ds μ Kd Kx h=>An h) (fun fR A dA s H E hr eG Kb Z=>⟨_,(du (qS 3 fI.nd (fq Z.z ja dm.cl hr.le (dv 0) (a1 (dv 1))))
  (du (fA (PW.pt (nk (qLt (dv 2) dq) (jN (qGe (dv 2) (eW dm.cl dm.gP (dv 0))))))
  (dD (iH Z rfl m9 aq (by decide) aq rfl (a1 dE)))
  eQ)
  (du (qS 4 fI.nd dq)
  (du (Fd PassesOwn.leaving (yX (dv 3))
  (du (jy (dv 3) ⟨(fX (n:=3) rfl (dG (qN 5 fI.nd) (dG (qN 6 fI.nd) (dG (qN 7 fI.nd) fB)))),(gS (dU (dQ 5) (dk 5) (dU (dQ 6) (dk 6) (dU (dQ 7) (dk 7) gT dP) (dz (dk 7) dP)) (dz (dk 6) (dz (dk 7) dP)))),(gV (dz (dk 5) (dz (dk 6) (dz (dk 7) dP))))⟩)
  (du (qS 1 fI.nd (xi (qLt (dv 2) (dv 7)) (dv 5) (dv 6)))
  (du (qS 3 fI.nd (jl (fE hr) (eW dm.cl dm.fU (dv 0)) (dv 1) (fun _ _=>rfl)))
  (dD (s_aug (i:=4) fI.nd rfl lo dq FE so_ipI))))))
  (dD (dY (fW (a2 (dv 1) (dv 4))))))))),fun ds μ m Kd Kx hm hl em h hK=>?_⟩)
 unfold pE at h
 split at h
 ·rename_i x nm bar
  obtain⟨_,S,rfl,kp,kk⟩:=h
  refine⟨⟨rfl,rfl⟩,dZ em,⟨_,dZ em⟩,S,rfl,?_⟩
  cases e:dJ S.dj nm with
  | none=>rw[e]at kk;exact(fb hK em kk).2
  | some x =>
   rw[e]at kk
   refine mT (c:=bar<0) (fun q=>⟨zs,fb hK em ?_⟩) (fun q1=>⟨rfl,_,rfl,mT (c:=S.n<=bar) (fun q=>⟨zs,fb hK em ?_⟩) (fun q2=>?_)⟩)
   ·have kk:(if 0<=bar/\bar<S.n then Kd (DF (f9 S.dj nm bar)) μ else _):=kk
    rw[ai (by omega)]at kk;exact kk
   ·have kk:(if 0<=bar/\bar<S.n then Kd (DF (f9 S.dj nm bar)) μ else _):=kk
    rw[ai (by omega)]at kk;exact kk
   ·have kk:(if 0<=bar/\bar<S.n then Kd (DF (f9 S.dj nm bar)) μ else _):=kk
    rw[aj (by omega)]at kk
    refine⟨fun i ρ μ'=>∃(z:Str) (y:Pt) (c:Nat) (v1 v2 v3:Option D),i=il S.dj z/\dJ S.dj z=some y/\f9 S.dj nm bar=((f9 S.dj z bar).1,(f9 S.dj z bar).2+c)/\ρ=[some (lj dt S),some (.str z),some (.int bar),some (mO y),some (.int (c:Int)),v1,v2,v3]/\μ'=μ.set 0 (.gx eG H),⟨_,nm,x,0,none,none,none,rfl,e,rfl,rfl,rfl⟩,?_⟩
    rintro i ρ μ' ⟨z,y,c,v1,v2,v3,rfl,ez,es,rfl,rfl⟩
    cases y with
    | fst b a =>
     refine⟨zs,.keep (jk em ?_)⟩
     rw[es,rh ez,Nat.zero_add]at kk
     exact kk
    | jn l r p =>
     obtain⟨⟨yl,el⟩,⟨yr,er⟩⟩:=kp.there ez
     obtain⟨i1,i2⟩:=kp.low z l r p ez
     refine⟨rfl,?_⟩
     have ej:=yZ kp ez bar
     refine mT (c:=bar<p) (fun q=>?_) (fun q=>?_)
     ·rw[aj q]at ej
      exact⟨rfl,_,rfl,mO yl,by rw[gQ dR mO l S.dj rfl,el];rfl,il S.dj l,i1,l,yl,c+1,_,_,_,rfl,el,by rw[es,ej];congr 1;show _+1+c=_;omega,rfl,rfl⟩
     ·rw[ai q]at ej
      exact⟨rfl,_,rfl,mO yr,by rw[gQ dR mO r S.dj rfl,er];rfl,il S.dj r,i2,r,yr,c+1,_,_,_,rfl,er,by rw[es,ej];congr 1;show _+1+c=_;omega,rfl,rfl⟩
 ·exact h.elim
def mR {f:Addr}{fd:ag}(F:gL K "takes_by_names" "Stand.takes_by_names" gr f fd)(T:ir mg)(dm:gi K dt)(C_joined:CL P w K mg dh):eF P w K mg dh jM 2 f fd ["self"] (gO (sv dt)):=by
 refine F.oJ eV (fun ds μ Kd h=>by unfold sv at h;split at h <;> first | rfl | exact h.elim) (fun fR A dA s H E hr=>⟨_,(du (qS 1 eV.nd AD)
  (du (ud bN rfl (B7 (eW dm.cl dm.fU (dv 0))) ⟨(fX (n:=2) rfl (dG (qN 2 eV.nd) (dG (qN 3 eV.nd) fB))),(gS (dU (dQ 2) (dk 2) (dU (dQ 3) (dk 3) gT dP) (dz (dk 3) dP))),(gV (dz (dk 2) (dz (dk 3) dP)))⟩
  (dD (fA (t_isN (dv 3))
  (dD (jx (fE hr) (jl (fE hr) (eW dm.cl dm.iB (dv 0)) (dv 2) (fun _ _=>rfl)) (dv 1) (dv 2)))
  (du (jy (dv 3) ⟨(fX (n:=3) rfl (dG (qN 4 eV.nd) (dG (qN 5 eV.nd) (dG (qN 6 eV.nd) fB)))),(gS (dU (dQ 4) (dk 4) (dU (dQ 5) (dk 5) (dU (dQ 6) (dk 6) gT dP) (dz (dk 6) dP)) (dz (dk 5) (dz (dk 6) dP)))),(gV (dz (dk 4) (dz (dk 5) (dz (dk 6) dP))))⟩)
  (dD (jx (fE hr) (qC C_joined hr (a3 (jl (fE hr) (dv 1) (dv 4) (fun _ _=>rfl)) (jl (fE hr) (dv 1) (dv 5) (fun _ _=>rfl)) (dv 6))) (dv 1) (dv 2)))))))
  (dD (dY (xj (dv 1)))))),fun ds μ Kd hm hl h=>?_⟩)
 unfold sv at h
 split at h
 ·rename_i x
  obtain⟨S,m,rfl,wf,kk⟩:=h
  refine⟨rfl,_,rfl,fun _=>?_⟩
  have nd:=wf.kp.nd
  have iT:=wf.iT
  have ei:List.zipWith (fun k d=>D.tup [nR k,d]) (S.dj.map fun p=>eB p.1) (S.dj.map fun p=>mO p.2)=S.dj.map fun p=>D.tup [.str p.1,mO p.2]:=by
   obtain⟨e1,e2⟩:=gA eB mO S.dj
   rw[e1,e2,yy,aG]
   rfl
  show ya _ _ _ _ (List.zipWith (fun k d=>D.tup [nR k,d]) (S.dj.map fun p=>eB p.1) (S.dj.map fun p=>mO p.2)) _ _
  rw[ei]
  refine jD (fun ds ρ μ'=>∃(pre post:List (Str×Pt)) (v1 v2 v3 v4 v5:Option D),S.dj=pre++post/\ds=post.map (fun p=>D.tup [.str p.1,mO p.2])/\ρ=[some (lj dt S),some (.mr μ.length),v1,v2,v3,v4,v5]/\μ'=μ++[.iD ((pre.map fun p=>(p.1,fO S.dj p.1)).map fun p=>eB p.1) ((pre.map fun p=>(p.1,fO S.dj p.1)).map fun p=>jq p.2)]) ⟨[],S.dj,none,none,none,none,none,rfl,rfl,rfl,rfl⟩ ?_ ?_
  ·rintro d ds' ρ μ' ⟨pre,post,v1,v2,v3,v4,v5,hs,e1,rfl,rfl⟩
   refine⟨trivial,fun nx Ed=>?_⟩
   cases post with
   | nil=>cases e1
   | cons p post =>
    obtain⟨z,y⟩:=p
    cases e1
    have hz:z∉pre.map (·.1):=fun q=>by
     rw[hs,aK,bF]at nd
     exact nd.2.2 z q z (List.mem_map.mpr ⟨_,aC,rfl⟩) rfl
    have ez:dJ S.dj z=some y:=gB nd (by rw[hs];exact aH _ aC)
    have ix:il S.dj z=pre.length:=by
     unfold il
     rw[hs,aK,cj,ai hz,ao,bD,show((z,y).1==z)=true from cq _,fF]
     simp
    have lp:pre.length<S.dj.length:=by rw[hs,lx,aI];omega
    have FF:∀ w:Str,il S.dj w<pre.length->dJ (pre.map fun p=>(p.1,fO S.dj p.1)) w=some (fO S.dj w):=fun w hw=>by
     have hm2:w∈pre.map (·.1):=by
      unfold il at hw
      rw[hs,aK,cj]at hw
      by_cases q:w∈pre.map (·.1)
      ·exact q
      ·rw[ai q,fF]at hw;omega
     obtain⟨p,hp,rfl⟩:=List.mem_map.mp hm2
     have nd2:((pre.map fun p=>(p.1,fO S.dj p.1)).map (·.1)).Nodup:=by
      rw[aG]
      rw[hs,aK,bF]at nd
      exact nd.1
     exact gB nd2 (List.mem_map.mpr ⟨p,hp,rfl⟩)
    have hn:dJ (pre.map fun p=>(p.1,fO S.dj p.1)) z=none:=by
     cases q:dJ (pre.map fun p=>(p.1,fO S.dj p.1)) z with
     | none=>rfl
     | some w =>
      have:=fu.mp (show(dJ (pre.map fun p=>(p.1,fO S.dj p.1)) z).isSome=true by rw[q];rfl)
      rw[aG]at this
      exact absurd this hz
    have fin:∀(v:Tk) (w1 w2 w3 w4 w5:Option D),v=fO S.dj z->∃ kd Dw:List (Key×D),(μ++[MO.iD ((pre.map fun p=>(p.1,fO S.dj p.1)).map fun p=>eB p.1) ((pre.map fun p=>(p.1,fO S.dj p.1)).map fun p=>jq p.2)])[μ.length]?=some (.iD (kd.map (·.1)) (kd.map (·.2)))/\kd.length<sizeLine/\(nT (.str z)).map (fun k=>dput kd k (jq v))=some Dw/\nx [some (lj dt S),some (.mr μ.length),w1,w2,w3,w4,w5] ((μ++[MO.iD ((pre.map fun p=>(p.1,fO S.dj p.1)).map fun p=>eB p.1) ((pre.map fun p=>(p.1,fO S.dj p.1)).map fun p=>jq p.2)]).set μ.length (.iD (Dw.map (·.1)) (Dw.map (·.2)))):=fun v w1 w2 w3 w4 w5 hv=>by
     obtain⟨e1,e2⟩:=gA eB jq (pre.map fun p=>(p.1,fO S.dj p.1))
     refine⟨_,_,by rw[fC,e1,e2],?_,rfl,?_⟩
     ·rw[fF,fF];exact aw lp (sz (by omega))
     ·show nx _ ((_++[_]).set _ (.iD ((dput _ (eB z) (jq v)).map (·.1)) ((dput _ (eB z) (jq v)).map (·.2))))
      rw[Ep dR jq z v,m3 hn,gb]
      refine Ed _ _ ⟨pre++[(z,y)],post,_,_,_,_,_,by rw[hs,aM];rfl,rfl,rfl,?_⟩
      have e3:(pre++[(z,y)]).map (fun p=>(p.1,fO S.dj p.1))=pre.map (fun p=>(p.1,fO S.dj p.1))++[(z,v)]:=by rw[aK,hv];rfl
      rw[e3,<- (gA eB jq _).1,<- (gA eB jq _).2]
    refine⟨rfl,?_⟩
    cases y with
    | fst b a =>
     refine⟨rfl,_,rfl,jq (b,a),by rw[gQ dR jq z (eA S.dj) rfl,lA nd,ez];rfl,fin (b,a) _ _ _ _ _ (DD ez).symm⟩
    | jn l r p =>
     obtain⟨i1,i2⟩:=wf.kp.low z l r p ez
     obtain⟨⟨yl,el⟩,⟨yr,er⟩⟩:=wf.kp.there ez
     obtain⟨p1,p2⟩:=wf.js z l r p ez
     obtain⟨t1,_⟩:=Bh wf l yl el
     obtain⟨t2,_⟩:=Bh wf r yr er
     have n2:=wf.n2
     refine⟨rfl,jq (fO S.dj l),by rw[um dR jq l _ rfl FP,FF l (by omega)];rfl,jq (fO S.dj r),by rw[um dR jq r _ rfl FP,FF r (by omega)];rfl,?_⟩
     exact⟨fO S.dj l,fO S.dj r,rfl,rfl,rfl,rfl,by omega,by omega,by omega,fin _ _ _ _ _ _ (tk_jn wf.kp ez).symm⟩
  ·rintro ρ μ' ⟨pre,post,v1,v2,v3,v4,v5,hs,e1,rfl,rfl⟩
   cases post with
   | cons p post=>cases e1
   | nil =>
    rw[aQ]at hs
    refine⟨trivial,_,_,fC,fun o kvs hks=>?_⟩
    rw[gb]
    refine Fz.lD (ah _) fC (jR fun d hd=>by obtain⟨q,_,rfl⟩:=List.mem_map.mp hd;exact⟨trivial,trivial,trivial⟩) (gH hm) ?_
    rw[aV,hks,<- hs]
    exact kk
 ·exact h.elim
def xV {f:Addr}{fd:ag}(F:gL K "take" "Stand.take" kH f fd)(T:ir mg)(dm:gi K dt)(fc:gq P w K mg dh)(ig:ie P w K mg dh):eF P w K mg dh (k9 P w) 3 f fd ["self", "name"] (iw (wY dt ij)):=by
 refine F.rN xP (fun ds μ Kd Kx h=>Em h) (fun fR A dA s H E hr eG Kb Z=>⟨_,(du (gC (fq Z.z fc dm.cl hr.le (dv 0) (a1 (dv 1))))
  (dD (dY (jl (fE hr) (gw ig dm.cl hr.le (dv 0)) (dv 1) (fun _ _=>rfl))))),fun ds μ m Kd Kx hm hl em h hK=>?_⟩)
 unfold wY at h
 split at h
 ·rename_i x nm
  obtain⟨_,S,m',rfl,wf,kk⟩:=h
  refine⟨⟨rfl,rfl⟩,dZ em,⟨_,dZ em⟩,S,rfl,?_⟩
  cases e:dJ S.dj nm with
  | none=>rw[e]at kk;exact(fb hK em kk).2
  | some x =>
   rw[e]at kk
   have nd2:((vI S.dj).map (·.1)).Nodup:=by unfold vI;rw[aG];exact wf.kp.nd
   have ea:dJ (vI S.dj) nm=some (fO S.dj nm):=gB nd2 (List.mem_map.mpr ⟨_,m5 e,rfl⟩)
   exact⟨⟨rfl,rfl⟩,S,m',rfl,wf,jq (fO S.dj nm),by rw[gQ dR jq nm (vI S.dj) rfl,ea];rfl,.keep (jk em kk)⟩
 ·exact h.elim
def wy {f:Addr}{fd:ag}(F:gL K "shelf" "Stand.shelf" j0 f fd)(T:ir mg)(dm:gi K dt)(ig:ie P w K mg dh):eF P w K mg dh jM 3 f fd ["self"] (gO (vq dt)):=by
 refine F.oJ lq (fun ds μ Kd h=>by unfold vq at h;split at h <;> first | rfl | exact h.elim) (fun fR A dA s H E hr=>⟨_,(du (sC1 1 false lq.nd (Bb (N:=["place", "self"]) (js:=[none,some 0]) lq (by decide +kernel)) (B6 rfl T.range (a2 dq (eW dm.cl dm.gP (dv 0)))) (fun _ _ _ nd=>(qN 0 nd)) (fun _ _ _=>(sV (kh (fE hr) (dv 0) (eW dm.cl dm.iW (dv 1)) (by with_unfolding_all rfl)))) (fun _ _ _=>(dv 0)))
  (dD (dY (fW (a3 (eW dm.cl dm.gP (dv 0)) (dv 1) (Er false rfl (by rfl) T.list (gw ig dm.cl hr.le (dv 0)))))))),fun ds μ Kd hm hl h=>?_⟩)
 unfold vq at h
 split at h
 ·rename_i x
  obtain⟨S,m,rfl,wf,kk⟩:=h
  have n1:=wf.n1
  have n2:=wf.n2
  refine⟨rfl,_,rfl,⟨by decide,by decide,by omega,by omega⟩,sz (by rw[iz];omega),?_⟩
  rw[Fi]
  refine iJ trivial D.int (fun p=>if(dJ S.fe p).isSome=true then none else some (D.int p)) (fun p _ K' k'=>?_) ?_
  ·refine⟨rfl,_,rfl,_,gQ iC (fun _=>.bl true) p S.fe rfl,?_⟩
   cases e:dJ S.fe p with
   | none=>rw[e]at k';exact k'
   | some x=>rw[e]at k';exact k'
  ·rw[BE]
   refine⟨rfl,_,rfl,⟨rfl,rfl⟩,S,m,rfl,wf,dn rfl ⟨zs,.keep ?_⟩⟩
   have e:(vI S.dj).map (fun p=>jq p.2)=(my S).map jq:=by unfold vI my;rw[aG,aG];rfl
   rw[e]
   exact kk
 ·exact h.elim
def zW {f:Addr}{fd:ag}(F:gL K "check_age" "check_age" lR f fd)(T:ir mg)(nc:OwnCls "BadAge" vE nh "ValueError.__new__" mg dh)(xC:AZ mg "OLDEST" 20):eF P w K mg dh (k9 P w) 1 f fd ["age"] (iw (Cn ij)):=by
 refine F.rN zf (fun ds μ Kd Kx h=>fAgeC_len h) (fun fR A dA s H E hr eG Kb Z=>⟨_,(dD (fA (PW.pt (nk (qLt (dv 0) dq) (jN (qGt (dv 0) (AA rfl xC)))))
  (dD (iH Z rfl nc aq (by decide) aq rfl (a1 dE)))
  eQ)),fun ds μ m Kd Kx hm hl em h hK=>?_⟩)
 unfold Cn at h
 split at h
 ·rename_i a
  obtain⟨_,kk⟩:=h
  unfold jL at kk
  refine mT (c:=a<0) (fun q=>⟨zs,fb hK em (by rw[ai (by omega)]at kk;exact kk)⟩) (fun q1=>mT (c:=20<a) (fun q=>⟨zs,fb hK em (by rw[ai (by omega)]at kk;exact kk)⟩) (fun q2=>.keep (jk em (by rw[aj (by omega)]at kk;exact kk))))
 ·exact h.elim
def wx {f:Addr}{fd:ag}(F:gL K "check_place" "check_place" jZ f fd)(T:ir mg)(dm:gi K dt)(jW:OwnCls "BadPlace" qi nh "ValueError.__new__" mg dh):eF P w K mg dh (k9 P w) 1 f fd ["stand", "place"] (iw (sd dt ij)):=by
 refine F.rN vW (fun ds μ Kd Kx h=>Cf h) (fun fR A dA s H E hr eG Kb Z=>⟨_,(dD (fA (PW.pt (nk (qLt (dv 1) dq) (jN (qGe (dv 1) (eW dm.cl dm.gP (dv 0))))))
  (dD (iH Z rfl jW aq (by decide) aq rfl (a1 dE)))
  eQ)),fun ds μ m Kd Kx hm hl em h hK=>?_⟩)
 unfold sd at h
 split at h
 ·rename_i x p
  obtain⟨_,S,rfl,kk⟩:=h
  unfold fS at kk
  refine mT (c:=p<1) (fun q=>⟨zs,fb hK em (by rw[ai (by omega)]at kk;exact kk)⟩) (fun q1=>⟨rfl,_,rfl,mT (c:=S.n<=p) (fun q=>⟨zs,fb hK em (by rw[ai (by omega)]at kk;exact kk)⟩) (fun q2=>.keep (jk em (by rw[aj (by omega)]at kk;exact kk)))⟩)
 ·exact h.elim
def zV {f:Addr}{fd:ag}(F:gL K "check_new" "check_new" lQ f fd)(T:ir mg)(dm:gi K dt)(k8:OwnCls "BadName" pQ nh "ValueError.__new__" mg dh)(qk:OwnCls "Taken" AN nh "ValueError.__new__" mg dh)(tW:OwnCls "Full" cFull nh "ValueError.__new__" mg dh)(ou:AZ mg "MOST_TAKES" 20)(lH:AZ mg "MOST_LETTERS" 8):eF P w K mg dh (k9 P w) 1 f fd ["stand", "name"] (iw (fNew dt ij)):=by
 refine F.rN rA (fun ds μ Kd Kx h=>fNew_len h) (fun fR A dA s H E hr eG Kb Z=>⟨_,(du (fA (PW.pt (nk (qLt (yd T (dv 1)) dq) (nk (qGt (yd T (dv 1)) (AA rfl lH)) (jN (lg (gJ (qz (allC rfl) y4 (by rfl) T.all PyProof.Rows.boot_all (a1 (dC1 false (Bb (N:=["sign"]) (js:=[none]) rA (by decide +kernel)) (i_str (dv 1)) (fun _ _ _ nd=>(qN 0 nd)) (fun _ _ _=>kr) (fun _ _ _=>(d_chain yu yu so_leS so_leS dE (dv 0) dE)))))))))))
  (dD (iH Z rfl k8 aq (by decide) aq rfl (a1 dE)))
  eQ)
  (du (fA (Bi (fE hr) (dv 1) (eW dm.cl dm.fU (dv 0)) (by with_unfolding_all rfl))
  (dD (iH Z rfl qk aq (by decide) aq rfl (a1 dE)))
  eQ)
  (dD (fA (qGe (qz lenD E8 (by rfl) T.len cJ (a1 (eW dm.cl dm.fU (dv 0)))) (AA rfl ou))
  (dD (iH Z rfl tW aq (by decide) aq rfl (a1 dE)))
  eQ)))),fun ds μ m Kd Kx hm hl em h hK=>?_⟩)
 unfold fNew at h
 split at h
 ·rename_i x nm
  obtain⟨_,hz,S,rfl,kk⟩:=h
  have sl:nm.length<=sizeLine:=sz (by omega)
  unfold iV at kk
  have bad:fY nm=false->Kx (.ref pQ) μ:=fun q=>by rw[aj q]at kk;exact kk
  refine⟨sl,mT (c:=((nm.length:Nat):Int)<1) (fun q=>⟨zs,fb hK em (bad ?_)⟩) (fun q1=>⟨sl,mT (c:=(8:Int)<((nm.length:Nat):Int)) (fun q=>⟨zs,fb hK em (bad ?_)⟩) (fun q2=>?_)⟩)⟩
  ·unfold fY;rw[au (show ¬ 1<=nm.length by omega)];rfl
  ·unfold fY;rw[au (show ¬ nm.length<=8 by omega),Bool.and_false];rfl
  refine⟨by rw[fF];exact sl,?_⟩
  refine qh trivial (fun c:Nat=>D.str ⟨#[c]⟩) (fun c=>D.bl (decide (97<=c)&&decide (c<=122))) (fun c _ K' k'=>?_) ?_
  ·have e1:(!decide (([c]:List Nat)<[97]))=decide (97<=c):=by rw[cmp1];by_cases q:97<=c <;> simp[q]<;> omega
   have e2:(!decide (([122]:List Nat)<[c]))=decide (c<=122):=by rw[cmp1];by_cases q:c<=122 <;> simp[q]<;> omega
   show if(!decide (([c]:List Nat)<[97]))=true then K' (some (.bl (!decide (([122]:List Nat)<[c])))) _ else K' (some (.bl false)) _
   rw[e1,e2]
   cases q:decide (97<=c)with
   | true=>rw[q]at k';exact k'
   | false=>rw[q]at k';exact k'
  ·refine⟨nm.cps.toList.map fun c=>decide (97<=c)&&decide (c<=122),by rw[aG];rfl,?_⟩
   have eb:((nm.cps.toList.map fun c=>decide (97<=c)&&decide (c<=122)).all id)=fY nm:=by rw[BR q1 q2,List.all_map];rfl
   show if(!((nm.cps.toList.map fun c=>decide (97<=c)&&decide (c<=122)).all id))=true then _ else _
   rw[eb]
   cases q3:fY nm with
   | false=>exact⟨zs,fb hK em (bad q3)⟩
   | true =>
    rw[ai (by rw[q3];exact fun z=>nomatch z)]at kk
    refine⟨rfl,_,rfl,_,gQ dR mO nm S.dj rfl,?_⟩
    unfold gu at kk
    cases e:dJ S.dj nm with
    | some x=>rw[e]at kk;exact⟨zs,fb hK em kk⟩
    | none =>
     rw[e]at kk
     refine⟨rfl,_,rfl,dn rfl ?_⟩
     have kk:vj _ Kd Kx (if 20<=S.dj.length then some 10 else none) .fV μ:=kk
     refine mT (c:=(20:Int)<=((S.dj.map fun p=>eB p.1).length:Nat)) (fun q=>⟨zs,fb hK em ?_⟩) (fun q=>.keep (jk em ?_))
     ·rw[fF]at q;rw[aj (by omega)]at kk;exact kk
     ·rw[fF]at q;rw[ai (by omega)]at kk;exact kk
 ·exact h.elim
def ok_put {f:Addr}{fd:ag}(F:gL K "put" "put" Fe f fd)(T:ir mg)(dm:gi K dt)(iK:OwnCls "BadBars" pR nh "ValueError.__new__" mg dh)(pW:pO P w K mg dh)(C_is_bars:yL P w K mg dh)(pX:pP P w K mg dh)(gY:jV P w K mg dh)(ee:ft P w K mg dh):eF P w K mg dh (k9 P w) 6 f fd ["stand", "row"] (iw (gv dt ij 0)):=by
 refine F.rN tm (fun ds μ Kd Kx h=>jf h) (fun fR A dA s H E hr eG Kb Z=>⟨_,(du (jy (dv 1) ⟨(fX (n:=4) rfl (dG (qN 2 tm.nd) (dG (qN 3 tm.nd) (dG (qN 4 tm.nd) (dG (qN 5 tm.nd) fB))))),(gS (dU (dQ 2) (dk 2) (dU (dQ 3) (dk 3) (dU (dQ 4) (dk 4) (dU (dQ 5) (dk 5) gT dP) (dz (dk 5) dP)) (dz (dk 4) (dz (dk 5) dP))) (dz (dk 3) (dz (dk 4) (dz (dk 5) dP))))),(gV (dz (dk 2) (dz (dk 3) (dz (dk 4) (dz (dk 5) dP)))))⟩)
  (du (gC (kP Z.z pW hr.le rfl (a2 (dv 0) (dv 3))))
  (du (fA (lg (gJ (qC C_is_bars hr (a2 (eW dm.cl dm.gP (dv 0)) (dv 4)))))
  (dD (iH Z rfl iK aq (by decide) aq rfl (a1 dE)))
  eQ)
  (du (gC (kP Z.z pX hr.le rfl (a1 (dv 5))))
  (du (qS 6 tm.nd (qC gY hr (a3 (eW dm.cl dm.fU (dv 0)) (dv 3) d_non)))
  (dD (dY (AB (pK ee hr.le rfl (dr (eW dm.cl dm.gP (dv 0)) (dr (dv 6) (dr (qC gY hr (a3 (eW dm.cl dm.iB (dv 0)) (dv 3) (fW (a2 (dv 4) (dv 5))))) (dr (eW dm.cl dm.iW (dv 0)) fo))))))))))))),fun ds μ m Kd Kx hm hl em h hK=>?_⟩)
 unfold gv at h
 split at h
 ·rename_i x y
  obtain⟨_,S,d,m',rfl,rfl,hw,wf,hm',eE,kk⟩:=h
  obtain⟨nm,b,a,rfl⟩:∃ nm b a,d=.put nm b a:=by cases d <;> first | exact⟨_,_,_,rfl⟩ | cases hw
  have iT:=wf.iT
  refine⟨rfl,dZ em,⟨_,dZ em⟩,eE.1,S,rfl,?_⟩
  have kk:vj _ Kd Kx ((iV S nm).or (if((b.length:Nat):Int)=S.n/\A8 b=true then jL a else some 0)) (lj dt (mF S (.put nm b a))) μ:=kk
  cases e:iV S nm with
  | some i=>rw[e]at kk;exact(fb hK em kk).2
  | none =>
   rw[e]at kk
   refine⟨rfl,_,rfl,eE.2,iteNot (c:=((b.length:Nat):Int)=S.n/\A8 b=true) (fun q=>⟨zs,fb hK em ?_⟩) (fun q=>?_)⟩
   ·have kk:vj _ Kd Kx (if((b.length:Nat):Int)=S.n/\A8 b=true then jL a else some 0) (lj dt (mF S (.put nm b a))) μ:=kk
    rw[ai q]at kk;exact kk
   ·have kk:vj _ Kd Kx (if((b.length:Nat):Int)=S.n/\A8 b=true then jL a else some 0) (lj dt (mF S (.put nm b a))) μ:=kk
    rw[aj q]at kk
    refine⟨dZ em,⟨_,dZ em⟩,?_⟩
    cases e2:jL a with
    | some i=>rw[e2]at kk;exact(fb hK em kk).2
    | none =>
     rw[e2]at kk
     obtain⟨n1,n2,n3⟩:=p8 e
     refine⟨rfl,_,rfl,_,_,(gA eB mO S.dj).1,(gA eB mO S.dj).2,by rw[kd_len];omega,rfl,?_⟩
     have lf:(eA S.dj).length<=20:=az (cm _ _) iT
     refine⟨rfl,_,rfl,rfl,_,rfl,zs,_,_,(gA eB jq (eA S.dj)).1,(gA eB jq (eA S.dj)).2,by rw[kd_len];omega,rfl,rfl,_,rfl,fC,rfl,?_⟩
     rw[gb]
     refine Fz.obj (ah _) fC ⟨trivial,nP (mr_g uf _) trivial,nP (mr_g rf _) (rf (b.cps.toList,a)),BS _,trivial⟩ (gH hm) ?_
     rw[aV]
     have kk:Kd (.obj dt sdN [.int S.n,qd eB mO (gc S.dj nm (.fst b.cps.toList a)),qd eB jq (eA (gc S.dj nm (.fst b.cps.toList a))),shD S.fe]) μ:=kk
     rw[Ej wf.kp.nd n2,<- wput dR mO,<- wput dR jq]at kk
     exact .keep (jk em kk)
 ·exact h.elim
def ok_join {f:Addr}{fd:ag}(F:gL K "join" "join" zy f fd)(T:ir mg)(dm:gi K dt)(tV:OwnCls "Shut" cShut nh "ValueError.__new__" mg dh)(pW:pO P w K mg dh)(fc:gq P w K mg dh)(i9:j9 P w K mg dh)(gY:jV P w K mg dh)(ee:ft P w K mg dh):eF P w K mg dh (k9 P w) 6 f fd ["stand", "row"] (iw (gv dt ij 1)):=by
 refine F.rN p4 (fun ds μ Kd Kx h=>jf h) (fun fR A dA s H E hr eG Kb Z=>⟨_,(du (jy (dv 1) ⟨(fX (n:=5) rfl (dG (qN 2 p4.nd) (dG (qN 3 p4.nd) (dG (qN 4 p4.nd) (dG (qN 5 p4.nd) (dG (qN 6 p4.nd) fB)))))),(gS (dU (dQ 2) (dk 2) (dU (dQ 3) (dk 3) (dU (dQ 4) (dk 4) (dU (dQ 5) (dk 5) (dU (dQ 6) (dk 6) gT dP) (dz (dk 6) dP)) (dz (dk 5) (dz (dk 6) dP))) (dz (dk 4) (dz (dk 5) (dz (dk 6) dP)))) (dz (dk 3) (dz (dk 4) (dz (dk 5) (dz (dk 6) dP)))))),(gV (dz (dk 2) (dz (dk 3) (dz (dk 4) (dz (dk 5) (dz (dk 6) dP))))))⟩)
  (du (gC (kP Z.z pW hr.le rfl (a2 (dv 0) (dv 3))))
  (du (gC (fq Z.z fc dm.cl hr.le (dv 0) (a1 (dv 4))))
  (du (gC (fq Z.z fc dm.cl hr.le (dv 0) (a1 (dv 5))))
  (du (gC (kP Z.z i9 hr.le rfl (a2 (dv 0) (dv 6))))
  (du (fA (Bi (fE hr) (dv 6) (eW dm.cl dm.iW (dv 0)) (by with_unfolding_all rfl))
  (dD (iH Z rfl tV aq (by decide) aq rfl (a1 dE)))
  eQ)
  (dD (dY (AB (pK ee hr.le rfl (dr (eW dm.cl dm.gP (dv 0)) (dr (qC gY hr (a3 (eW dm.cl dm.fU (dv 0)) (dv 3) (fW (a3 (dv 4) (dv 5) (dv 6))))) (dr (eW dm.cl dm.iB (dv 0)) (dr (eW dm.cl dm.iW (dv 0)) fo)))))))))))))),fun ds μ m Kd Kx hm hl em h hK=>?_⟩)
 unfold gv at h
 split at h
 ·rename_i x y
  obtain⟨_,S,d,m',rfl,rfl,hw,wf,hm',eE,kk⟩:=h
  obtain⟨nm,l,r,p,rfl⟩:∃ nm l r p,d=.join nm l r p:=by cases d <;> first | exact⟨_,_,_,_,rfl⟩ | cases hw
  have iT:=wf.iT
  refine⟨rfl,dZ em,⟨_,dZ em⟩,eE,S,rfl,?_⟩
  have kk:vj _ Kd Kx ((iV S nm).or (if gu S l=false then some 11 else if gu S r=false then some 11 else(fS S p).or (if(dJ S.fe p).isSome=true then some 12 else none))) (lj dt (mF S (.join nm l r p))) μ:=kk
  cases e:iV S nm with
  | some i=>rw[e]at kk;exact(fb hK em kk).2
  | none =>
   rw[e]at kk
   have kk:vj _ Kd Kx (if gu S l=false then some 11 else if gu S r=false then some 11 else(fS S p).or (if(dJ S.fe p).isSome=true then some 12 else none)) (lj dt (mF S (.join nm l r p))) μ:=kk
   refine⟨⟨rfl,rfl⟩,dZ em,⟨_,dZ em⟩,S,rfl,?_⟩
   unfold gu at kk
   cases el:dJ S.dj l with
   | none=>rw[el]at kk;exact(fb hK em kk).2
   | some yl =>
    rw[el]at kk
    refine⟨⟨rfl,rfl⟩,dZ em,⟨_,dZ em⟩,S,rfl,?_⟩
    cases er:dJ S.dj r with
    | none=>rw[er]at kk;exact(fb hK em kk).2
    | some yr =>
     rw[er]at kk
     have kk:vj _ Kd Kx ((fS S p).or (if(dJ S.fe p).isSome=true then some 12 else none)) (lj dt (mF S (.join nm l r p))) μ:=kk
     refine⟨dZ em,⟨_,dZ em⟩,S,rfl,?_⟩
     cases e2:fS S p with
     | some i=>rw[e2]at kk;exact(fb hK em kk).2
     | none =>
      rw[e2]at kk
      refine⟨rfl,_,rfl,_,gQ iC (fun _=>.bl true) p S.fe rfl,?_⟩
      cases e3:dJ S.fe p with
      | some u=>rw[e3]at kk;exact⟨zs,fb hK em kk⟩
      | none =>
       rw[e3]at kk
       obtain⟨n1,n2,n3⟩:=p8 e
       refine⟨rfl,_,rfl,rfl,_,rfl,zs,_,_,(gA eB mO S.dj).1,(gA eB mO S.dj).2,by rw[kd_len];omega,rfl,rfl,_,rfl,rfl,_,rfl,fC,rfl,?_⟩
       rw[gb]
       refine Fz.obj (ah _) fC ⟨trivial,nP (mr_g uf _) (uf (.jn l r p)),uh rf _,BS _,trivial⟩ (gH hm) ?_
       rw[aV]
       have kk:Kd (.obj dt sdN [.int S.n,qd eB mO (gc S.dj nm (.jn l r p)),qd eB jq (eA (gc S.dj nm (.jn l r p))),shD S.fe]) μ:=kk
       rw[firsts_jn n2,<- wput dR mO]at kk
       exact .keep (jk em kk)
 ·exact h.elim
def ok_found {f:Addr}{fd:ag}(F:gL K "found" "found" ve f fd)(T:ir mg)(dm:gi K dt)(iK:OwnCls "BadBars" pR nh "ValueError.__new__" mg dh)(lI:lE P w K mg dh)(gY:jV P w K mg dh)(ee:ft P w K mg dh):eF P w K mg dh (k9 P w) 6 f fd ["stand", "row"] (iw (gv dt ij 2)):=by
 refine F.rN iU (fun ds μ Kd Kx h=>jf h) (fun fR A dA s H E hr eG Kb Z=>⟨_,(du (jy (dv 1) ⟨(fX (n:=4) rfl (dG (qN 2 iU.nd) (dG (qN 3 iU.nd) (dG (qN 4 iU.nd) (dG (qN 5 iU.nd) fB))))),(gS (dU (dQ 2) (dk 2) (dU (dQ 3) (dk 3) (dU (dQ 4) (dk 4) (dU (dQ 5) (dk 5) gT dP) (dz (dk 5) dP)) (dz (dk 4) (dz (dk 5) dP))) (dz (dk 3) (dz (dk 4) (dz (dk 5) dP))))),(gV (dz (dk 2) (dz (dk 3) (dz (dk 4) (dz (dk 5) dP)))))⟩)
  (du (jy (fq Z.z lI dm.cl hr.le (dv 0) (a2 (dv 3) (dv 4))) ⟨(fX (n:=2) rfl (dG (qN 6 iU.nd) (dG (qN 7 iU.nd) fB))),(gS (dU (dQ 6) (dk 6) (dU (dQ 7) (dk 7) gT dP) (dz (dk 7) dP))),(gV (dz (dk 6) (dz (dk 7) dP)))⟩)
  (du (fA (PW.pt (kj (qNe (dv 5) dE) (iP (qNe (dv 5) dE))))
  (dD (iH Z rfl iK aq (by decide) aq rfl (a1 dE)))
  eQ)
  (du (jy (jl (fE hr) (eW dm.cl dm.iB (dv 0)) (dv 6) (fun _ _=>rfl)) ⟨(fX (n:=2) rfl (dG (qN 8 iU.nd) (dG (qN 9 iU.nd) fB))),(gS (dU (dQ 8) (dk 8) (dU (dQ 9) (dk 9) gT dP) (dz (dk 9) dP))),(gV (dz (dk 8) (dz (dk 9) dP)))⟩)
  (du (qS 10 iU.nd (fW (a2 (oR (oR (j5 false (dv 8) rO (iQ (dv 4))) (dv 5)) (j5 false (dv 8) (iQ (oR (dv 4) dq)) rO)) (dv 9))))
  (dD (dY (AB (pK ee hr.le rfl (dr (eW dm.cl dm.gP (dv 0)) (dr (eW dm.cl dm.fU (dv 0)) (dr (qC gY hr (a3 (eW dm.cl dm.iB (dv 0)) (dv 6) (dv 10))) (dr (eW dm.cl dm.iW (dv 0)) fo))))))))))))),fun ds μ m Kd Kx hm hl em h hK=>?_⟩)
 unfold gv at h
 split at h
 ·rename_i x y
  obtain⟨_,S,d,m',rfl,rfl,hw,wf,hm',eE,kk⟩:=h
  obtain⟨nm,bar,sg,rfl⟩:∃ nm bar sg,d=.found nm bar sg:=by cases d <;> first | exact⟨_,_,_,rfl⟩ | cases hw
  have iT:=wf.iT
  have n2:=wf.n2
  refine⟨rfl,⟨rfl,rfl⟩,dZ em,⟨_,dZ em⟩,S,rfl,wf.kp,?_⟩
  have kk:vj _ Kd Kx (if gu S nm=false then some 11 else if 0<=bar/\bar<S.n then(if sg = "o"\/sg = "x" then none else some 0)else some 6) (lj dt (mF S (.found nm bar sg))) μ:=kk
  unfold gu at kk
  cases e:dJ S.dj nm with
  | none=>rw[e]at kk;exact(fb hK em kk).2
  | some x =>
   rw[e]at kk
   have kk:vj _ Kd Kx (if 0<=bar/\bar<S.n then(if sg = "o"\/sg = "x" then none else some 0)else some 6) (lj dt (mF S (.found nm bar sg))) μ:=kk
   by_cases hb:0<=bar/\bar<S.n
   ·rw[aj hb]at kk
    show(if 0<=bar/\bar<S.n then _ else _)
    rw[aj hb]
    refine⟨rfl,?_⟩
    by_cases hs:sg = "o"\/sg = "x"
    ·rw[aj hs]at kk
     obtain⟨b,a,ef⟩:=y0 wf.kp bar nm x e
     obtain⟨f1,f2,f3,f4⟩:=wf.fs _ b a ef
     obtain⟨o1,o2⟩:=DJ hs
     have lf:(eA S.dj).length<=20:=az (cm _ _) iT
     have kk:Kd (.obj dt sdN [.int S.n,qd eB mO (Ef S.dj (f9 S.dj nm bar).1 bar sg),qd eB jq (eA (Ef S.dj (f9 S.dj nm bar).1 bar sg)),shD S.fe]) μ:=kk
     unfold Ef at kk
     rw[ef]at kk
     dsimp only at kk
     rw[wV wf.kp.nd ef,<- wput dR jq,BC ef wf.kp.nd]at kk
     have sl:sg.length=1:=o2
     have lb:(txt b).length<=sizeLine:=by rw[lM];exact sz (by omega)
     have c1:=n5 b none (some bar)
     have c2:=n5 b (some (bar+1)) none
     have eh:(⟨(gN b none (some bar)).toArray⟩++sg++⟨(gN b (some (bar+1)) none).toArray⟩:Str)=txt (uq b bar sg):=by
      rw[AG hb.1,tT (show 0<=bar+1 by omega),show(bar+1).toNat=bar.toNat+1 by omega]
      rw[AQ,om,aM]
      rfl
     have l1:(⟨(gN b none (some bar)).toArray⟩:Str).length+sg.length<=sizeLine:=by rw[sl];show(gN b none (some bar)).length+1<=_;exact sz (by omega)
     have l2:(⟨(gN b none (some bar)).toArray⟩++sg:Str).length+(⟨(gN b (some (bar+1)) none).toArray⟩:Str).length<=sizeLine:=by
      rw[AQ]
      show(gN b none (some bar)++sg.cps.toList).length+(gN b (some (bar+1)) none).length<=_
      rw[lx,o2]
      exact sz (by omega)
     have eg:ixF ((eA S.dj).map fun p=>eB p.1) ((eA S.dj).map fun p=>jq p.2) (.str (f9 S.dj nm bar).1)=some (some (jq (b,a))):=by rw[gQ dR jq _ (eA S.dj) rfl,lA wf.kp.nd,ef];rfl
     refine iteNn (c1:=sg = "o") (c2:=sg = "x") (fun _=>?_) (fun z=>absurd hs z)
     refine⟨rfl,_,rfl,jq (b,a),eg,rfl,lb,l1,lb,l2,zs,?_⟩
     refine⟨rfl,_,rfl,rfl,_,rfl,rfl,_,rfl,_,_,(gA eB jq (eA S.dj)).1,(gA eB jq (eA S.dj)).2,by rw[kd_len];omega,rfl,rfl,_,rfl,fC,rfl,?_⟩
     rw[gb]
     refine Fz.obj (ah _) fC ⟨trivial,uh uf _,nP (mr_g rf _) ⟨trivial,trivial,trivial⟩,BS _,trivial⟩ (gH hm) ?_
     rw[aV]
     refine .keep (jk em ?_)
     show Kd (.obj dt sdN [.int S.n,qd eB mO S.dj,.lD ((dput _ _ (.tup [.str (⟨(gN b none (some bar)).toArray⟩++sg++⟨(gN b (some (bar+1)) none).toArray⟩),.int a])).map (·.1)) ((dput _ _ (.tup [.str (⟨(gN b none (some bar)).toArray⟩++sg++⟨(gN b (some (bar+1)) none).toArray⟩),.int a])).map (·.2)),shD S.fe]) μ
     rw[eh]
     exact kk
    ·rw[ai hs]at kk
     exact FD (c:=sg = "o") (fun q1=>FD (c:=sg = "x") (fun q2=>⟨zs,fb hK em kk⟩) (fun q2=>absurd (.inr q2) hs)) (fun q1=>absurd (.inl q1) hs)
   ·rw[ai hb]at kk
    show(if 0<=bar/\bar<S.n then _ else _)
    rw[ai hb]
    exact(fb hK em kk).2
 ·exact h.elim
def ok_aged {f:Addr}{fd:ag}(F:gL K "aged" "aged" zG f fd)(T:ir mg)(dm:gi K dt)(m8:OwnCls "Joined" vC nh "ValueError.__new__" mg dh)(ja:kc P w K mg dh)(pX:pP P w K mg dh)(gY:jV P w K mg dh)(ee:ft P w K mg dh):eF P w K mg dh (k9 P w) 6 f fd ["stand", "row"] (iw (gv dt ij 3)):=by
 refine F.rN p6 (fun ds μ Kd Kx h=>jf h) (fun fR A dA s H E hr eG Kb Z=>⟨_,(du (jy (dv 1) ⟨(fX (n:=3) rfl (dG (qN 2 p6.nd) (dG (qN 3 p6.nd) (dG (qN 4 p6.nd) fB)))),(gS (dU (dQ 2) (dk 2) (dU (dQ 3) (dk 3) (dU (dQ 4) (dk 4) gT dP) (dz (dk 4) dP)) (dz (dk 3) (dz (dk 4) dP)))),(gV (dz (dk 2) (dz (dk 3) (dz (dk 4) dP))))⟩)
  (du (fA (yX (fq Z.z ja dm.cl hr.le (dv 0) (a1 (dv 3))))
  (dD (iH Z rfl m8 aq (by decide) aq rfl (a1 dE)))
  eQ)
  (du (gC (kP Z.z pX hr.le rfl (a1 (dv 4))))
  (du (jy (jl (fE hr) (eW dm.cl dm.iB (dv 0)) (dv 3) (fun _ _=>rfl)) ⟨(fX (n:=2) rfl (dG (qN 5 p6.nd) (dG (qN 6 p6.nd) fB))),(gS (dU (dQ 5) (dk 5) (dU (dQ 6) (dk 6) gT dP) (dz (dk 6) dP))),(gV (dz (dk 5) (dz (dk 6) dP)))⟩)
  (dD (dY (AB (pK ee hr.le rfl (dr (eW dm.cl dm.gP (dv 0)) (dr (eW dm.cl dm.fU (dv 0)) (dr (qC gY hr (a3 (eW dm.cl dm.iB (dv 0)) (dv 3) (fW (a2 (dv 5) (dv 4))))) (dr (eW dm.cl dm.iW (dv 0)) fo)))))))))))),fun ds μ m Kd Kx hm hl em h hK=>?_⟩)
 unfold gv at h
 split at h
 ·rename_i x y
  obtain⟨_,S,d,m',rfl,rfl,hw,wf,hm',eE,kk⟩:=h
  obtain⟨nm,a,rfl⟩:∃ nm a,d=.kR nm a:=by cases d <;> first | exact⟨_,_,rfl⟩ | cases hw
  have iT:=wf.iT
  have lf:(eA S.dj).length<=20:=az (cm _ _) iT
  refine⟨rfl,⟨rfl,rfl⟩,dZ em,⟨_,dZ em⟩,S,rfl,?_⟩
  have kk:vj _ Kd Kx (match dJ S.dj nm with | none=>some 11 | some (.jn _ _ _)=>some 13 | some (.fst _ _)=>jL a) (lj dt (match dJ S.dj nm with | some (.fst b _)=>{ S with dj:=gc S.dj nm (.fst b a)} | _=>S)) μ:=kk
  cases e:dJ S.dj nm with
  | none=>rw[e]at kk;exact(fb hK em kk).2
  | some x =>
   rw[e]at kk
   cases x with
   | jn l r p=>exact⟨zs,fb hK em kk⟩
   | fst b a0 =>
    refine⟨dZ em,⟨_,dZ em⟩,?_⟩
    have kk:vj _ Kd Kx (jL a) (lj dt { S with dj:=gc S.dj nm (.fst b a)}) μ:=kk
    cases e2:jL a with
    | some i=>rw[e2]at kk;exact(fb hK em kk).2
    | none =>
     rw[e2]at kk
     refine⟨rfl,_,rfl,jq (b,a0),by rw[gQ dR jq nm (eA S.dj) rfl,lA wf.kp.nd,e];rfl,rfl,?_⟩
     refine⟨rfl,_,rfl,rfl,_,rfl,rfl,_,rfl,zs,_,_,(gA eB jq (eA S.dj)).1,(gA eB jq (eA S.dj)).2,by rw[kd_len];omega,rfl,rfl,_,rfl,fC,rfl,?_⟩
     rw[gb]
     refine Fz.obj (ah _) fC ⟨trivial,uh uf _,nP (mr_g rf _) (rf (b,a)),BS _,trivial⟩ (gH hm) ?_
     rw[aV]
     have kk:Kd (.obj dt sdN [.int S.n,qd eB mO (gc S.dj nm (.fst b a)),qd eB jq (eA (gc S.dj nm (.fst b a))),shD S.fe]) μ:=kk
     rw[wV wf.kp.nd e,<- wput dR jq,BC e wf.kp.nd]at kk
     exact .keep (jk em kk)
 ·exact h.elim
def ok_drop {f:Addr}{fd:ag}(F:gL K "drop" "drop" zC f fd)(T:ir mg)(dm:gi K dt)(m7:OwnCls "Needed" vB nh "ValueError.__new__" mg dh)(fc:gq P w K mg dh)(ke:mH P w K mg dh)(ee:ft P w K mg dh):eF P w K mg dh (k9 P w) 6 f fd ["stand", "row"] (iw (gv dt ij 4)):=by
 refine F.rN rq (fun ds μ Kd Kx h=>jf h) (fun fR A dA s H E hr eG Kb Z=>⟨_,(du (jy (dv 1) ⟨(fX (n:=2) rfl (dG (qN 2 rq.nd) (dG (qN 3 rq.nd) fB))),(gS (dU (dQ 2) (dk 2) (dU (dQ 3) (dk 3) gT dP) (dz (dk 3) dP))),(gV (dz (dk 2) (dz (dk 3) dP)))⟩)
  (du (gC (fq Z.z fc dm.cl hr.le (dv 0) (a1 (dv 3))))
  (du (fA (gJ (qz (anyC rfl) y4 (by rfl) T.any PyProof.Rows.boot_any (a1 (dC1 false (Bb (N:=["parts", "name"]) (js:=[none,some 3]) rq (by decide +kernel)) (tK (eW dm.cl dm.fU (dv 0))) (fun _ _ _ nd=>(qN 0 nd)) (fun _ _ _=>kr) (fun _ _ _=>(CC (d_notN (dv 0)) (FZ (uz inC so_inT (dv 1) (pJ (dv 0) rO (iQ dq)) (by with_unfolding_all rfl)))))))))
  (dD (iH Z rfl m7 aq (by decide) aq rfl (a1 dE)))
  eQ)
  (du (qS 4 rq.nd (qC ke hr (a2 (eW dm.cl dm.fU (dv 0)) (dv 3))))
  (dD (dY (AB (pK ee hr.le rfl (dr (eW dm.cl dm.gP (dv 0)) (dr (dv 4) (dr (qC ke hr (a2 (eW dm.cl dm.iB (dv 0)) (dv 3))) (dr (eW dm.cl dm.iW (dv 0)) fo)))))))))))),fun ds μ m Kd Kx hm hl em h hK=>?_⟩)
 unfold gv at h
 split at h
 ·rename_i x y
  obtain⟨_,S,d,m',rfl,rfl,hw,wf,hm',eE,kk⟩:=h
  obtain⟨nm,rfl⟩:∃ nm,d=.drop nm:=by cases d <;> first | exact⟨_,rfl⟩ | cases hw
  have iT:=wf.iT
  have lf:(eA S.dj).length<=20:=az (cm _ _) iT
  refine⟨rfl,⟨rfl,rfl⟩,dZ em,⟨_,dZ em⟩,S,rfl,?_⟩
  have kk:vj _ Kd Kx (if gu S nm=false then some 11 else if kC S nm=true then some 14 else none) (lj dt { S with dj:=hX S.dj nm}) μ:=kk
  unfold gu at kk
  cases e:dJ S.dj nm with
  | none=>rw[e]at kk;exact(fb hK em kk).2
  | some x =>
   rw[e]at kk
   have kk:vj _ Kd Kx (if kC S nm=true then some 14 else none) (lj dt { S with dj:=hX S.dj nm}) μ:=kk
   refine⟨rfl,_,rfl,fun _=>⟨by rw[fF];exact sz (by omega),?_⟩⟩
   refine qh trivial (fun p:Str×Pt=>mO p.2) (fun p=>D.bl (gE nm p.2)) (fun p _ K' k'=>?_) ?_
   ·obtain⟨z,y⟩:=p
    cases y with
    | fst b a=>exact k'
    | jn l r q =>
     refine⟨fun y=>absurd y.2 (show ¬ (2:Nat)=3 by decide),rfl,rfl,?_⟩
     have eb:(false != ([D.str l,D.str r].any fun d=>deq d (.str nm)))=gE nm (.jn l r q):=by
      rw[fne]
      simp only[bt,List.any_nil,deq,Bool.or_false]
      rfl
     show K' (some (.bl (false != ([D.str l,D.str r].any fun d=>deq d (.str nm))))) _
     rw[eb]
     exact k'
   ·refine⟨S.dj.map fun p=>gE nm p.2,by rw[aG];rfl,?_⟩
    have eb:((S.dj.map fun p=>gE nm p.2).any id)=kC S nm:=by rw[List.any_map];rfl
    show if((S.dj.map fun p=>gE nm p.2).any id)=true then _ else _
    rw[eb]
    by_cases q:kC S nm=true
    ·rw[aj q]at kk ⊢
     exact⟨zs,fb hK em kk⟩
    ·rw[ai q]at kk ⊢
     have sk:∀ {β:Type} {f:β->D} {l:List (Str×β)},∀ p∈(l.map fun p=>(eB p.1,f p.2)),(∃ i j,p.1=km i/\eB nm=km j)\/∃ i j,p.1=eB i/\eB nm=eB j:=fun p hp=>by
      obtain⟨z,_,rfl⟩:=List.mem_map.mp hp;exact .inr ⟨_,_,rfl,rfl⟩
     have nf:((eA S.dj).map (·.1)).Nodup:=wf.kp.nd.sublist wU
     refine⟨rfl,_,rfl,_,_,(gA eB mO S.dj).1,(gA eB mO S.dj).2,by rw[kd_len];omega,kd_nd dR mO wf.kp.nd,rfl,sk,?_⟩
     refine⟨rfl,_,rfl,rfl,_,rfl,_,_,(gA eB jq (eA S.dj)).1,(gA eB jq (eA S.dj)).2,by rw[kd_len];omega,kd_nd dR jq nf,rfl,sk,rfl,_,rfl,fC,rfl,?_⟩
     rw[gb]
     have mf:∀ {β:Type} {n:Nat} {f:β->D} (hf:∀ b,xG n (f b)) (l:List (Str×β)),qa n (((l.map fun p=>(eB p.1,f p.2)).filter fun p=>decide (p.1≠eB nm)).map (·.2)):=fun hf l=>jR fun d hd=>by
      obtain⟨z,hz,rfl⟩:=List.mem_map.mp hd
      obtain⟨z2,_,rfl⟩:=List.mem_map.mp (List.mem_filter.mp hz).1
      exact hf _
     refine Fz.obj (ah _) fC ⟨trivial,mf uf _,mf rf _,BS _,trivial⟩ (gH hm) ?_
     rw[aV]
     have kk:Kd (.obj dt sdN [.int S.n,qd eB mO (hX S.dj nm),qd eB jq (eA (hX S.dj nm)),shD S.fe]) μ:=kk
     rw[Cc,<- wdrop dR,<- wdrop dR]at kk
     exact .keep (jk em kk)
 ·exact h.elim
def ok_free {f:Addr}{fd:ag}(F:gL K "free" "free" zA f fd)(T:ir mg)(dm:gi K dt)(i9:j9 P w K mg dh)(ke:mH P w K mg dh)(ee:ft P w K mg dh):eF P w K mg dh (k9 P w) 6 f fd ["stand", "row"] (iw (gv dt ij 5)):=by
 refine F.rN ze (fun ds μ Kd Kx h=>jf h) (fun fR A dA s H E hr eG Kb Z=>⟨_,(du (jy (dv 1) ⟨(fX (n:=2) rfl (dG (qN 2 ze.nd) (dG (qN 3 ze.nd) fB))),(gS (dU (dQ 2) (dk 2) (dU (dQ 3) (dk 3) gT dP) (dz (dk 3) dP))),(gV (dz (dk 2) (dz (dk 3) dP)))⟩)
  (du (gC (kP Z.z i9 hr.le rfl (a2 (dv 0) (dv 3))))
  (dD (dY (AB (pK ee hr.le rfl (dr (eW dm.cl dm.gP (dv 0)) (dr (eW dm.cl dm.fU (dv 0)) (dr (eW dm.cl dm.iB (dv 0)) (dr (qC ke hr (a2 (eW dm.cl dm.iW (dv 0)) (dv 3))) fo)))))))))),fun ds μ m Kd Kx hm hl em h hK=>?_⟩)
 unfold gv at h
 split at h
 ·rename_i x y
  obtain⟨_,S,d,m',rfl,rfl,hw,wf,hm',eE,kk⟩:=h
  obtain⟨p,rfl⟩:∃ p,d=.free p:=by cases d <;> first | exact⟨_,rfl⟩ | cases hw
  have shl:=wf.shl
  refine⟨rfl,dZ em,⟨_,dZ em⟩,S,rfl,?_⟩
  have kk:vj _ Kd Kx (fS S p) (lj dt { S with fe:=hX S.fe p}) μ:=kk
  cases e:fS S p with
  | some i=>rw[e]at kk;exact(fb hK em kk).2
  | none =>
   rw[e]at kk
   refine⟨rfl,_,rfl,rfl,_,rfl,rfl,_,rfl,rfl,_,rfl,_,_,(gA km (fun _=>.bl true) S.fe).1,(gA km (fun _=>.bl true) S.fe).2,by rw[fF];omega,kd_nd iC (fun _:Unit=>D.bl true) wf.shn,rfl,fun q hq=>?_,fC,rfl,?_⟩
   ·obtain⟨z,_,rfl⟩:=List.mem_map.mp hq;exact .inl ⟨_,_,rfl,rfl⟩
   rw[gb]
   refine Fz.obj (ah _) fC ⟨trivial,uh uf _,uh rf _,jR fun d hd=>?_,trivial⟩ (gH hm) ?_
   ·obtain⟨z,hz,rfl⟩:=List.mem_map.mp hd
    obtain⟨z2,_,rfl⟩:=List.mem_map.mp (List.mem_filter.mp hz).1
    exact True.intro
   rw[aV]
   have kk:Kd (.obj dt sdN [.int S.n,qd eB mO S.dj,qd eB jq (eA S.dj),qd km (fun _=>.bl true) (hX S.fe p)]) μ:=kk
   rw[<- wdrop iC]at kk
   exact .keep (jk em kk)
 ·exact h.elim
def ok_shut {f:Addr}{fd:ag}(F:gL K "shut" "shut" zu f fd)(T:ir mg)(dm:gi K dt)(i9:j9 P w K mg dh)(gY:jV P w K mg dh)(ee:ft P w K mg dh):eF P w K mg dh (k9 P w) 6 f fd ["stand", "row"] (iw (gv dt ij 6)):=by
 refine F.rN zd (fun ds μ Kd Kx h=>jf h) (fun fR A dA s H E hr eG Kb Z=>⟨_,(du (jy (dv 1) ⟨(fX (n:=2) rfl (dG (qN 2 zd.nd) (dG (qN 3 zd.nd) fB))),(gS (dU (dQ 2) (dk 2) (dU (dQ 3) (dk 3) gT dP) (dz (dk 3) dP))),(gV (dz (dk 2) (dz (dk 3) dP)))⟩)
  (du (gC (kP Z.z i9 hr.le rfl (a2 (dv 0) (dv 3))))
  (dD (dY (AB (pK ee hr.le rfl (dr (eW dm.cl dm.gP (dv 0)) (dr (eW dm.cl dm.fU (dv 0)) (dr (eW dm.cl dm.iB (dv 0)) (dr (qC gY hr (a3 (eW dm.cl dm.iW (dv 0)) (dv 3) tS)) fo)))))))))),fun ds μ m Kd Kx hm hl em h hK=>?_⟩)
 unfold gv at h
 split at h
 ·rename_i x y
  obtain⟨_,S,d,m',rfl,rfl,hw,wf,hm',eE,kk⟩:=h
  obtain⟨p,rfl⟩:∃ p,d=.fe p:=by cases d <;> first | exact⟨_,rfl⟩ | cases hw
  have shl:=wf.shl
  refine⟨rfl,dZ em,⟨_,dZ em⟩,S,rfl,?_⟩
  have kk:vj _ Kd Kx (fS S p) (lj dt { S with fe:=gc S.fe p ()}) μ:=kk
  cases e:fS S p with
  | some i=>rw[e]at kk;exact(fb hK em kk).2
  | none =>
   rw[e]at kk
   refine⟨rfl,_,rfl,rfl,_,rfl,rfl,_,rfl,rfl,_,rfl,_,_,(gA km (fun _=>.bl true) S.fe).1,(gA km (fun _=>.bl true) S.fe).2,by rw[fF];omega,rfl,fC,rfl,?_⟩
   rw[gb]
   refine Fz.obj (ah _) fC ⟨trivial,uh uf _,uh rf _,nP (mr_g (f:=fun _:Unit=>D.bl true) (fun _=>True.intro) _) True.intro,trivial⟩ (gH hm) ?_
   rw[aV]
   have kk:Kd (.obj dt sdN [.int S.n,qd eB mO S.dj,qd eB jq (eA S.dj),qd km (fun _=>.bl true) (gc S.fe p ())]) μ:=kk
   rw[<- wput iC (fun _:Unit=>D.bl true)]at kk
   exact .keep (jk em kk)
 ·exact h.elim
def uR {f:Addr}{fd:ag}(F:gL K "stand_behind" "stand_behind" jw f fd)(T:ir mg)(AR:Tab P w K mg "DEEDS" [("put",CW),("join",xv),("found",sO),("aged",xy),("drop",xx),("free",xw),("shut",xu)])(M_put:mg "put"=some (.ref CW))(EH:mg "join"=some (.ref xv))(AX:mg "found"=some (.ref sO))(EK:mg "aged"=some (.ref xy))(EJ:mg "drop"=some (.ref xx))(EI:mg "free"=some (.ref xw))(EG:mg "shut"=some (.ref xu))(C_put:c_put P w K mg dh)(C_join:c_join P w K mg dh)(C_found:c_found P w K mg dh)(C_aged:c_aged P w K mg dh)(C_drop:c_drop P w K mg dh)(C_free:c_free P w K mg dh)(C_shut:c_shut P w K mg dh):eF P w K mg dh (k9 P w) 7 f fd ["stand", "row"] (iw (pH dt ij)):=by
 have CV:=jU C_put M_put (jU C_join EH (jU C_found AX (jU C_aged EK (jU C_drop EJ (jU C_free EI (jU C_shut EG calv_nil))))))
 refine F.rN oB (fun ds μ Kd Kx h=>Ar h) (fun fR A dA s H E hr eG Kb Z=>⟨_,(du (qS 2 oB.nd (d_tab AR rfl (eS (dv 1) dq) (fun _ _=>rfl)))
  (dD (dY (d_callV (i:=2) Z.z CV hr.le rfl (by first | exact Or.inl rfl | exact Or.inr (Or.inl rfl) | exact Or.inr (Or.inr rfl)) (a2 (dv 0) (dv 1)))))),fun ds μ m Kd Kx hm hl em h hK=>?_⟩)
 unfold pH at h
 split at h
 ·rename_i x y
  obtain⟨_,S,d,m',rfl,rfl,wf,hm',eE,kk⟩:=h
  have kk:vj ij (gK eG H m Kd) Kb (ik S d) (lj dt (mF S d)) (μ.set 0 (.gx eG H)):=by
   unfold vj at kk ⊢
   cases e:ik S d with
   | some i=>rw[e]at kk;exact(fb hK em kk).2
   | none=>rw[e]at kk;exact jk em kk
  have fin:∀ w,ddW d=w->gv dt ij w [lj dt S,oQ d] (μ.set 0 (.gx eG H)) (DM (μ.set 0 (.gx eG H)).length (gK eG H m Kd)).rt Kb:=fun w hw=>⟨⟨_,dZ em⟩,S,d,m',rfl,rfl,hw,wf,hm',eE,by
   unfold vj at kk ⊢
   cases e:ik S d with
   | some i=>rw[e]at kk;exact kk
   | none=>rw[e]at kk;exact .keep kk⟩
  cases d with
  | put nm b a=>exact dn rfl ⟨CW,rfl,_,aC,dZ em,fin 0 rfl⟩
  | join nm l r p=>exact dn rfl ⟨xv,rfl,_,nV _ aC,dZ em,fin 1 rfl⟩
  | found nm b a=>exact dn rfl ⟨sO,rfl,_,nV _ (nV _ aC),dZ em,fin 2 rfl⟩
  | kR nm b=>exact dn rfl ⟨xy,rfl,_,nV _ (nV _ (nV _ aC)),dZ em,fin 3 rfl⟩
  | drop nm=>exact dn rfl ⟨xx,rfl,_,nV _ (nV _ (nV _ (nV _ aC))),dZ em,fin 4 rfl⟩
  | free nm=>exact dn rfl ⟨xw,rfl,_,nV _ (nV _ (nV _ (nV _ (nV _ aC)))),dZ em,fin 5 rfl⟩
  | fe nm=>exact dn rfl ⟨xu,rfl,_,nV _ (nV _ (nV _ (nV _ (nV _ (nV _ aC))))),dZ em,fin 6 rfl⟩
 ·exact h.elim
def tG {f:Addr}{fd:ag}(F:gL K "__init__" "Room.__init__" jb f fd)(T:ir mg)(dF:hZ K dN)(dm:gi K dt)(k7:OwnCls "BadSize" sL nh "ValueError.__new__" mg dh)(t6:AZ mg "LONGEST" 40)(ee:ft P w K mg dh):eF P w K mg dh (k9 P w) 3 f fd ["self", "size"] (iw (r9 dN dt ij)):=by
 refine F.rN tq (fun ds μ Kd Kx h=>Ce h) (fun fR A dA s H E hr eG Kb Z=>⟨_,(du (fA (PW.pt (nk (qLt (dv 1) dq) (jN (qGt (dv 1) (AA rfl t6)))))
  (dD (iH Z rfl k7 aq (by decide) aq rfl (a1 dE)))
  eQ)
  (du (vZ dF.cl dF.wF (iM true (a1 (AB (pK ee hr.le rfl (dr (dv 1) (dr sA (dr sA (dr sA fo)))))))) (dv 0))
  (du (vZ dF.cl dF.D4 (iM true fo) (dv 0))
  (dD (vZ dF.cl dF.tH dq (dv 0)))))),fun ds μ m Kd Kx hm hl em h hK=>?_⟩)
 unfold r9 at h
 split at h
 ·rename_i k n
  obtain⟨_,k0,ek,kk⟩:=h
  refine mT (c:=n<1) (fun q=>⟨zs,fb hK em (by rw[ai (by omega)]at kk;exact kk)⟩) (fun q1=>mT (c:=(40:Int)<n) (fun q=>⟨zs,fb hK em (by rw[ai (by omega)]at kk;exact kk)⟩) (fun q2=>?_))
  rw[aj (by omega)]at kk
  have hk:k<μ.length:=(lK ek).1
  have hkg:k<(μ.set 0 (.gx eG H)).length:=by rw[aL];exact hk
  have eg:(μ.set 0 (.gx eG H))[k]?=some (.ins dN [] []):=by rw[av (bf k0)];exact ek
  refine⟨fC,rfl,?_⟩
  rw[gb]
  refine Fz.obj (ah _) fC ⟨trivial,trivial,trivial,trivial,trivial⟩ (gH hm) ?_
  rw[aV]
  refine⟨zs,?_⟩
  refine⟨_,_,fT (by rw[uU hkg];exact eg),rfl,by decide,?_⟩
  rw[cK _ _ hkg]
  refine⟨zs,?_⟩
  have hk2:∀ X:MO,k<((μ.set 0 (.gx eG H)).set k X).length:=fun X=>by rw[aL];exact hkg
  refine⟨_,_,fT (by rw[aM,uU (hk2 _),aD hkg]),rfl,by show 1<1000;decide,?_⟩
  rw[aM,cK _ _ (hk2 _),df]
  refine⟨_,_,fT (by rw[uU (hk2 _),aD hkg]),rfl,by show 2<1000;decide,.keep ?_⟩
  rw[cK _ _ (hk2 _),df]
  have h0:0<μ.length:=(lK em).1
  refine⟨by rw[uU (by rw[aL,aL];exact h0),av k0,aD h0],?_⟩
  rw[cK _ _ (by rw[aL,aL];exact h0),cE _ _ k0,nU em]
  have l0:(μ.set 0 (.gx eG H)).length=μ.length:=aL
  show Kd .fV (μ.set k (.ins dN zJ [.mr (μ.set 0 (.gx eG H)).length,.mr ((μ.set 0 (.gx eG H)).set k _++[_]).length,.int 0])++[.lst [lj dt ⟨n,[],[]⟩],.lst []])
  simp only[lx,aL,aU]
  exact kk
 ·exact h.elim
def BL {f:Addr}{fd:ag}(F:gL K "now" "Room.now" nK f fd)(T:ir mg)(dF:hZ K dN):eF P w K mg dh jM 1 f fd ["self"] (gO (fNow dN dt)):=by
 refine F.oJ Bs (fun ds μ Kd h=>by unfold fNow at h;split at h <;> first | rfl | exact h.elim) (fun fR A dA s H E hr=>⟨_,(dD (dY (eS (eW dF.cl dF.wF (dv 0)) (eW dF.cl dF.tH (dv 0))))),fun ds μ Kd hm hl h=>?_⟩)
 unfold fNow at h
 split at h
 ·rename_i k
  obtain⟨j1,j2,ss,rs,d,S,ra,es,kk⟩:=h
  exact⟨.mr j1,by rw[fT ra.ins];rfl,.int d,by rw[fT ra.ins];rfl,dn (lu ra.l1) (dn (atI_maps es) (Fz.keep kk))⟩
 ·exact h.elim
def Aa {f:Addr}{fd:ag}(F:gL K "deed" "Room.deed" lZ f fd)(T:ir mg)(dF:hZ K dN)(fk:gW P w K mg dh)(xF:pL P w K mg dh):eF P w K mg dh (k9 P w) 8 f fd ["self", "row"] (iw (mE dN dt ij)):=by
 refine F.rN rC (fun ds μ Kd Kx h=>xc h) (fun fR A dA s H E hr eG Kb Z=>⟨_,(du (qS 2 rC.nd (kP Z.z xF hr.le rfl (a2 (gw fk dF.cl hr.le (dv 0)) (dv 1))))
  (du (s_slE (eW dF.cl dF.wF (dv 0)) (oR (eW dF.cl dF.tH (dv 0)) dq) (iM false (a1 (dv 2))))
  (du (s_slE (eW dF.cl dF.D4 (dv 0)) (eW dF.cl dF.tH (dv 0)) (iM false (a1 (dv 1))))
  (dD (s_augFA dF.cl dF.tH (dv 0) dq))))),fun ds μ m Kd Kx hm hl em h hK=>?_⟩)
 unfold mE at h
 split at h
 ·rename_i k y
  obtain⟨_,j1,j2,ss,rs,d,S,e,ra,es,rfl,eE,iT,kk⟩:=h
  have rg:=ra.gx (m:=.gx eG H)
  obtain⟨S',vz,wf⟩:=ra.now
  rw[es]at vz
  cases vz
  have:=ra.le
  have:=ra.len
  have rc:ue dN "now" (μ.set 0 (.gx eG H)) (.mr k):=by show(lJ _ _ _).map _=_;rw[fT rg.ins];rfl
  refine⟨rc,j1,j2,ss,rs,d,S,rg,es,dZ em,⟨_,dZ em⟩,S,e,d,rfl,rfl,wf,by omega,eE,?_⟩
  unfold vj
  cases er:ik S e with
  | some i=>rw[er]at kk;exact(fb hK em kk).2
  | none =>
   rw[er]at kk
   obtain⟨lk,la,lb⟩:=rg.lk
   have few2:=ra.iT
   have f1:∀ {ν:MS},ν[k]?=some (.ins dN zJ [.mr j1,.mr j2,.int (d:Int)])->lJ dN ν k=some (zJ,[.mr j1,.mr j2,.int (d:Int)]):=fun h=>fT h
   refine⟨zs,.mr j1,by rw[f1 rg.ins];rfl,.int d,by rw[f1 rg.ins];rfl,_,lu rg.l1,by omega,by rw[fF];omega,by rw[fF];exact sz (by show _+1<=_;omega),?_⟩
   have i1:∀ X,((μ.set 0 (.gx eG H)).set j1 X)[k]?=some (.ins dN zJ [.mr j1,.mr j2,.int (d:Int)]):=fun X=>by rw[av (bf ra.ka)];exact rg.ins
   refine⟨zs,.mr j2,by rw[f1 (i1 _)];rfl,.int d,by rw[f1 (i1 _)];rfl,_,lu (by rw[av ra.ab];exact rg.l2),by omega,by rw[fF];omega,by rw[fF];exact sz (by show _+1<=_;omega),?_⟩
   have i2:∀ X Y,(((μ.set 0 (.gx eG H)).set j1 X).set j2 Y)[k]?=some (.ins dN zJ [.mr j1,.mr j2,.int (d:Int)]):=fun X Y=>by rw[av (bf ra.kb)];exact i1 X
   refine⟨d,by rw[f1 (i2 _ _)];rfl,_,_,f1 (i2 _ _),rfl,by show 3<1000;decide,.keep ?_⟩
   obtain⟨g1,g2⟩:=jA ra (m:=.gx eG H) (ss':=ss.take (d+1)++[mF S e]) (rs':=rs.take d++[e]) (d':=d+1) em
   have eq:((((μ.set 0 (.gx eG H)).set j1 (.lst ((ss.map (lj dt)).take ((d:Int)+1).toNat++[lj dt (mF S e)]))).set j2 (.lst ((rs.map oQ).take (d:Int).toNat++[oQ e]))).set k (.ins dN zJ [.mr j1,.mr j2,.int ((d:Int)+1)]))=mB dN dt (μ.set 0 (.gx eG H)) k j1 j2 (ss.take (d+1)++[mF S e]) (rs.take d++[e]) (d+1):=by
    unfold mB
    rw[aK,aK,List.map_take,List.map_take,show((d:Int)+1).toNat=d+1 by omega,gxK]
    rfl
   show gK eG H m Kd .fV ((((μ.set 0 (.gx eG H)).set j1 (.lst ((ss.map (lj dt)).take ((d:Int)+1).toNat++[lj dt (mF S e)]))).set j2 (.lst ((rs.map oQ).take (d:Int).toNat++[oQ e]))).set k (.ins dN zJ [.mr j1,.mr j2,.int ((d:Int)+1)]))
   rw[eq]
   exact⟨g2,by rw[g1];exact kk⟩
 ·exact h.elim
def x6 {f:Addr}{fd:ag}(F:gL K "deeds" "Room.deeds" kM f fd)(T:ir mg)(dF:hZ K dN):eF P w K mg dh jM 1 f fd ["self"] (gO (Ap dN dt true)):=by
 refine F.oJ xT (fun ds μ Kd h=>by unfold Ap at h;split at h <;> first | rfl | exact h.elim) (fun fR A dA s H E hr=>⟨_,(dD (dY (j5 false (eW dF.cl dF.D4 (dv 0)) rO (iQ (eW dF.cl dF.tH (dv 0)))))),fun ds μ Kd hm hl h=>?_⟩)
 unfold Ap at h
 split at h
 ·rename_i k
  obtain⟨j1,j2,ss,rs,d,ra,kk⟩:=h
  refine⟨_,by rw[fT ra.ins];rfl,_,by rw[fT ra.ins];rfl,dn (lu ra.l2) ?_⟩
  rw[Gd]
  rw[aj rfl]at kk
  exact .keep kk
 ·exact h.elim
def zZ {f:Addr}{fd:ag}(F:gL K "size" "Room.size" lU f fd)(T:ir mg)(dF:hZ K dN)(dm:gi K dt)(fk:gW P w K mg dh):eF P w K mg dh jM 2 f fd ["self"] (gO (iS dN dt gSize)):=by
 refine F.oJ zg (fun ds μ Kd h=>by unfold iS at h;split at h <;> first | rfl | exact h.elim) (fun fR A dA s H E hr=>⟨_,(dD (dY (eW dm.cl dm.gP (gw fk dF.cl hr.le (dv 0))))),fun ds μ Kd hm hl h=>?_⟩)
 unfold iS at h
 split at h
 ·rename_i k
  obtain⟨j1,j2,ss,rs,d,S,ra,es,kk⟩:=h
  exact⟨by show(lJ _ _ _).map _=_;rw[fT ra.ins];rfl,j1,j2,ss,rs,d,S,ra,es,rfl,_,rfl,.keep kk⟩
 ·exact h.elim
def xY {f:Addr}{fd:ag}(F:gL K "names" "Room.names" kK f fd)(T:ir mg)(dF:hZ K dN)(dm:gi K dt)(fk:gW P w K mg dh):eF P w K mg dh jM 2 f fd ["self"] (gO (iS dN dt Eh)):=by
 refine F.oJ xR (fun ds μ Kd h=>by unfold iS at h;split at h <;> first | rfl | exact h.elim) (fun fR A dA s H E hr=>⟨_,(dD (dY (CA (FA rfl) (rj (m:=false)) (by rfl) T.list bj (a1 (eW dm.cl dm.fU (gw fk dF.cl hr.le (dv 0))))))),fun ds μ Kd hm hl h=>?_⟩)
 unfold iS at h
 split at h
 ·rename_i k
  obtain⟨j1,j2,ss,rs,d,S,ra,es,kk⟩:=h
  refine⟨by show(lJ _ _ _).map _=_;rw[fT ra.ins];rfl,j1,j2,ss,rs,d,S,ra,es,rfl,_,rfl,dn rfl ?_⟩
  unfold Eh at kk
  show Fz _ Kd (.lst ((S.dj.map fun p=>eB p.1).map nR)) μ
  rw[aG]
  exact .keep kk
 ·exact h.elim
def Ac {f:Addr}{fd:ag}(F:gL K "bars" "Room.bars" l6 f fd)(T:ir mg)(dF:hZ K dN)(dm:gi K dt)(fk:gW P w K mg dh)(oz:og P w K mg dh):eF P w K mg dh (k9 P w) 5 f fd ["self", "name"] (iw (jE dN dt ij gBars)):=by
 refine F.rN zm (fun ds μ Kd Kx h=>pG h) (fun fR A dA s H E hr eG Kb Z=>⟨_,(dD (dY (eS (fq Z.z oz dm.cl hr.le (gw fk dF.cl hr.le (dv 0)) (a1 (dv 1))) dq))),fun ds μ m Kd Kx hm hl em h hK=>?_⟩)
 unfold jE at h
 split at h
 ·rename_i k nm
  obtain⟨_,j1,j2,ss,rs,d,S,ra,es,kk⟩:=h
  have rg:=ra.gx (m:=.gx eG H)
  obtain⟨S',vz,wf⟩:=ra.now
  rw[es]at vz
  cases vz
  refine⟨by show(lJ _ _ _).map _=_;rw[fT rg.ins];rfl,j1,j2,ss,rs,d,S,rg,es,⟨rfl,rfl⟩,dZ em,⟨_,dZ em⟩,S,d,rfl,wf,?_⟩
  cases e:dJ S.dj nm with
  | none=>rw[e]at kk;exact(fb hK em kk).2
  | some x=>rw[e]at kk;exact dn rfl (.keep (jk em kk))
 ·exact h.elim
def BM {f:Addr}{fd:ag}(F:gL K "age" "Room.age" nM f fd)(T:ir mg)(dF:hZ K dN)(dm:gi K dt)(fk:gW P w K mg dh)(oz:og P w K mg dh):eF P w K mg dh (k9 P w) 5 f fd ["self", "name"] (iw (jE dN dt ij gAge)):=by
 refine F.rN Bt (fun ds μ Kd Kx h=>pG h) (fun fR A dA s H E hr eG Kb Z=>⟨_,(dD (dY (eS (fq Z.z oz dm.cl hr.le (gw fk dF.cl hr.le (dv 0)) (a1 (dv 1))) dq))),fun ds μ m Kd Kx hm hl em h hK=>?_⟩)
 unfold jE at h
 split at h
 ·rename_i k nm
  obtain⟨_,j1,j2,ss,rs,d,S,ra,es,kk⟩:=h
  have rg:=ra.gx (m:=.gx eG H)
  obtain⟨S',vz,wf⟩:=ra.now
  rw[es]at vz
  cases vz
  refine⟨by show(lJ _ _ _).map _=_;rw[fT rg.ins];rfl,j1,j2,ss,rs,d,S,rg,es,⟨rfl,rfl⟩,dZ em,⟨_,dZ em⟩,S,d,rfl,wf,?_⟩
  cases e:dJ S.dj nm with
  | none=>rw[e]at kk;exact(fb hK em kk).2
  | some x=>rw[e]at kk;exact dn rfl (.keep (jk em kk))
 ·exact h.elim
def xX {f:Addr}{fd:ag}(F:gL K "parts" "Room.parts" kJ f fd)(T:ir mg)(dF:hZ K dN)(dm:gi K dt)(fk:gW P w K mg dh)(ja:kc P w K mg dh):eF P w K mg dh (k9 P w) 5 f fd ["self", "name"] (iw (jE dN dt ij wR)):=by
 refine F.rN xQ (fun ds μ Kd Kx h=>pG h) (fun fR A dA s H E hr eG Kb Z=>⟨_,(dD (dY (fq Z.z ja dm.cl hr.le (gw fk dF.cl hr.le (dv 0)) (a1 (dv 1))))),fun ds μ m Kd Kx hm hl em h hK=>?_⟩)
 unfold jE at h
 split at h
 ·rename_i k nm
  obtain⟨_,j1,j2,ss,rs,d,S,ra,es,kk⟩:=h
  have rg:=ra.gx (m:=.gx eG H)
  refine⟨by show(lJ _ _ _).map _=_;rw[fT rg.ins];rfl,j1,j2,ss,rs,d,S,rg,es,⟨rfl,rfl⟩,dZ em,⟨_,dZ em⟩,S,rfl,?_⟩
  unfold wR at kk
  cases e:dJ S.dj nm with
  | none=>rw[e]at kk;exact(fb hK em kk).2
  | some x=>rw[e]at kk;exact .keep (jk em kk)
 ·exact h.elim
def wA {f:Addr}{fd:ag}(F:gL K "source" "Room.source" j4 f fd)(T:ir mg)(dF:hZ K dN)(dm:gi K dt)(fk:gW P w K mg dh)(lI:lE P w K mg dh):eF P w K mg dh (k9 P w) 5 f fd ["self", "name", "bar"] (iw (pF dN dt ij)):=by
 refine F.rN vY (fun ds μ Kd Kx h=>Ao h) (fun fR A dA s H E hr eG Kb Z=>⟨_,(dD (dY (fq Z.z lI dm.cl hr.le (gw fk dF.cl hr.le (dv 0)) (a2 (dv 1) (dv 2))))),fun ds μ m Kd Kx hm hl em h hK=>?_⟩)
 unfold pF at h
 split at h
 ·rename_i k nm bar
  obtain⟨_,j1,j2,ss,rs,d,S,ra,es,kk⟩:=h
  have rg:=ra.gx (m:=.gx eG H)
  obtain⟨S',vz,wf⟩:=ra.now
  rw[es]at vz
  cases vz
  refine⟨by show(lJ _ _ _).map _=_;rw[fT rg.ins];rfl,j1,j2,ss,rs,d,S,rg,es,⟨rfl,rfl⟩,dZ em,⟨_,dZ em⟩,S,rfl,wf.kp,?_⟩
  cases e:dJ S.dj nm with
  | none=>rw[e]at kk;exact(fb hK em kk).2
  | some x =>
   rw[e]at kk
   have kk:(if 0<=bar/\bar<S.n then Kd (DF (f9 S.dj nm bar)) μ else _):=kk
   show(if 0<=bar/\bar<S.n then _ else _)
   by_cases q:0<=bar/\bar<S.n
   ·rw[aj q]at kk ⊢;exact .keep (jk em kk)
   ·rw[ai q]at kk ⊢;exact(fb hK em kk).2
 ·exact h.elim
def Ab {f:Addr}{fd:ag}(F:gL K "cuts" "Room.cuts" l5 f fd)(T:ir mg)(dF:hZ K dN)(dm:gi K dt)(fk:gW P w K mg dh)(mM:mI P w K mg dh):eF P w K mg dh jM 5 f fd ["self"] (gO (iS dN dt FH)):=by
 refine F.oJ kF (fun ds μ Kd h=>by unfold iS at h;split at h <;> first | rfl | exact h.elim) (fun fR A dA s H E hr=>⟨_,(du (jy (gw mM dm.cl hr.le (gw fk dF.cl hr.le (dv 0))) ⟨(fX (n:=3) rfl (dG (qN 1 kF.nd) (dG (qN 2 kF.nd) (dG (qN 3 kF.nd) fB)))),(gS (dU (dQ 1) (dk 1) (dU (dQ 2) (dk 2) (dU (dQ 3) (dk 3) gT dP) (dz (dk 3) dP)) (dz (dk 2) (dz (dk 3) dP)))),(gV (dz (dk 1) (dz (dk 2) (dz (dk 3) dP))))⟩)
  (dD (dY (dv 2)))),fun ds μ Kd hm hl h=>?_⟩)
 unfold iS at h
 split at h
 ·rename_i k
  obtain⟨j1,j2,ss,rs,d,S,ra,es,kk⟩:=h
  obtain⟨S',vz,wf⟩:=ra.now
  rw[es]at vz
  cases vz
  exact⟨by show(lJ _ _ _).map _=_;rw[fT ra.ins];rfl,j1,j2,ss,rs,d,S,ra,es,⟨rfl,rfl⟩,S,d,rfl,wf,rfl,.keep kk⟩
 ·exact h.elim
def xW {f:Addr}{fd:ag}(F:gL K "takes" "Room.takes" kI f fd)(T:ir mg)(dF:hZ K dN)(dm:gi K dt)(fk:gW P w K mg dh)(mM:mI P w K mg dh):eF P w K mg dh jM 5 f fd ["self"] (gO (iS dN dt tN)):=by
 refine F.oJ jX (fun ds μ Kd h=>by unfold iS at h;split at h <;> first | rfl | exact h.elim) (fun fR A dA s H E hr=>⟨_,(du (jy (gw mM dm.cl hr.le (gw fk dF.cl hr.le (dv 0))) ⟨(fX (n:=3) rfl (dG (qN 1 jX.nd) (dG (qN 2 jX.nd) (dG (qN 3 jX.nd) fB)))),(gS (dU (dQ 1) (dk 1) (dU (dQ 2) (dk 2) (dU (dQ 3) (dk 3) gT dP) (dz (dk 3) dP)) (dz (dk 2) (dz (dk 3) dP)))),(gV (dz (dk 1) (dz (dk 2) (dz (dk 3) dP))))⟩)
  (dD (dY (dv 3)))),fun ds μ Kd hm hl h=>?_⟩)
 unfold iS at h
 split at h
 ·rename_i k
  obtain⟨j1,j2,ss,rs,d,S,ra,es,kk⟩:=h
  obtain⟨S',vz,wf⟩:=ra.now
  rw[es]at vz
  cases vz
  exact⟨by show(lJ _ _ _).map _=_;rw[fT ra.ins];rfl,j1,j2,ss,rs,d,S,ra,es,⟨rfl,rfl⟩,S,d,rfl,wf,rfl,.keep kk⟩
 ·exact h.elim
def yC {ds:List D}{μ:MS}{Kd:DK}(h:sj ds μ Kd):∃ v0 v1,ds=[.mr v0,.int v1]:=by
 unfold sj at h
 rcases ds with _ | ⟨z0,ds⟩
 ·exact False.elim h
 cases z0 <;> first | exact False.elim h | skip
 rcases ds with _ | ⟨z1,ds⟩
 ·exact False.elim h
 cases z1 <;> first | exact False.elim h | skip
 rcases ds with _ | ⟨zz,zs⟩
 ·exact⟨_,_,rfl⟩
 ·exact False.elim h
def ok_names {f:Addr}{fd:ag}(F:gL K "_law_names" "_law_names" u7 f fd)(T:ir mg)(eO:n9 P w K mg dh):eF P w K mg dh jM 2 f fd ["_law_box_here", "_law_many"] (gO sj):=by
 refine F.oJ hG (fun ds μ Kd h=>by obtain⟨_,_,rfl⟩:=yC h;rfl) (fun fR A dA s H E hr=>⟨_,(du (qS 2 hG.nd dE)
  (du (qS 3 hG.nd (oR dq (qC eO hr (a2 (dv 0) dq))))
  (du (qS 4 hG.nd (qC eO hr (a2 (dv 0) (dv 3))))
  (du (qS 5 hG.nd (uz eqC vO (qC eO hr (a2 (dv 0) dq)) dq (gU _)))
  (du (sC1 6 false hG.nd (Bb (N:=["_law_k", "_law_box_here"]) (js:=[none,some 0]) hG (by decide +kernel)) (iX rfl T.range (a1 (dv 3))) (fun _ _ _ nd=>(qN 0 nd)) (fun _ _ _=>kr) (fun _ _ _=>(qC eO hr (a2 (dv 1) dq))))
  (du (qS 7 hG.nd (iM true fo))
  (du (ud bN rfl (iX rfl T.range (a1 (dv 1))) (qT 8 hG.nd)
  (du (qS 9 hG.nd (CA listC (so_list (m:=true)) (by rfl) T.list bj (a1 (dv 6))))
  (CO (fA (lg (gJ (dv 5)))
  (dD (sC1 9 true hG.nd (Bb (N:=["_law_step", "_law_box_here"]) (js:=[none,some 0]) hG (by decide +kernel)) (iX rfl T.range (a1 (oR (oR (dv 4) dq) (qC eO hr (a2 (dv 0) (dMi (dv 3) (dv 4))))))) (fun _ _ _ nd=>(qN 0 nd)) (fun _ _ _=>kr) (fun _ _ _=>(qC eO hr (a2 (dv 1) dq)))))
  eQ)
  (du (s_asgS (tR BU E9 (oR (eS (dv 6) (dv 4)) (tR mulC vN dq (dv 8))) dq) (dv 9) (dv 4))
  (dD (gC (Az PySem.F.plainAttrs_list PySem.F.slot_list_append PySem.F.type_list_append appendC yn (dv 7) (a1 (Az bE cb b9 BY rk dE (a1 (dC1 false (Bb (N:=["_law_one", "_law_letters"]) (js:=[none,some 2]) hG (by decide +kernel)) (i_list (dv 9)) (fun _ _ _ nd=>(qN 0 nd)) (fun _ _ _=>kr) (fun _ _ _=>(eS (dv 1) (dv 0))))))))))))))
  (dD (dY (dv 7)))))))))),fun ds μ Kd hm hl h=>?_⟩)
 obtain⟨k,many,rfl⟩:=yC h
 unfold sj at h
 ·skip
  obtain⟨hb,h1,h2,kk⟩:=h
  have hk:k<μ.length:=(lK hb).1
  have hb2:∀ g:MS,(μ++g)[k]?=some .box:=fun g=>by rw[uU hk];exact hb
  refine⟨hb,by decide,by decide,fun v v0 v1=>⟨hb,by omega,by omega,fun p p0 p1=>⟨hb,by decide,by decide,fun w w0 w1=>?_⟩⟩⟩
  refine⟨by omega,by omega,sz (by rw[iz];omega),?_⟩
  refine qg D.int (fun i=>0<=i/\i<26) trivial (fun d hd K' k'=>⟨hb,by decide,by decide,fun x x0 x1=>k' x ⟨x0,x1⟩⟩) fun fi hfl hf=>?_
  rw[iz]at hfl
  refine⟨zs,by omega,by omega,?_⟩
  refine jD (fun ds ρ μ'=>∃(i j:Nat) (rows:List Str) (g:MS) (u v':Option D),ds=kN i j/\i+j=many.toNat/\rows.length=i/\(∀ z∈rows,fY z=true)/\ρ=[some (.mr k),some (.int many),some (.str (Str.ofString "abcdefghijklmnopqrstuvwxyz")),some (.int (1+v)),some (.int p),some (.bl (false != decide (w=0))),some (.lst (fi.map D.int)),some (.mr μ.length),u,v']/\μ'=μ++.lst (rows.map D.str)::g) ⟨0,many.toNat,[],[],none,none,rfl,by omega,rfl,fun _ h=>(nomatch h),rfl,rfl⟩ ?_ ?_
  ·rintro d ds' ρ μ' ⟨i,j,rows,g,u,v',e,hij,hrl,hr0,rfl,rfl⟩
   refine⟨trivial,fun nx Ed=>?_⟩
   cases j with
   | zero=>cases e
   | succ j =>
    rw[kW]at e
    cases e
    refine⟨fun kT fw=>∃(g2:MS) (l:List Int),kT=[some (.mr k),some (.int many),some (.str (Str.ofString "abcdefghijklmnopqrstuvwxyz")),some (.int (1+v)),some (.int p),some (.bl (false != decide (w=0))),some (.lst (fi.map D.int)),some (.mr μ.length),some (.int i),some (.mr (μ++.lst (rows.map D.str)::g2).length)]/\fw=(μ++.lst (rows.map D.str)::g2)++[.lst (l.map D.int)]/\p<l.length/\l.length<=8/\∀ x∈l,0<=x/\x<26,?_,?_⟩
    ·refine eZ (!(false != decide (w=0))) (fun K k=>k) (fun _=>?_) (fun _=>⟨g,fi,rfl,rfl,by omega,by omega,hf⟩)
     refine⟨by rw[aM];exact hb2 _,by omega,by omega,fun q q0 q1=>⟨by omega,by omega,sz (by rw[iz];omega),?_⟩⟩
     refine qg D.int (fun i=>0<=i/\i<26) trivial (fun d hd K' k'=>⟨by rw[aM];exact hb2 _,by decide,by decide,fun x x0 x1=>k' x ⟨x0,x1⟩⟩) fun l hl' hl2=>?_
     rw[iz]at hl'
     exact⟨g++[.lst (fi.map D.int)],l,by rw[aM];rfl,by simp only[aM,List.cons_append,List.nil_append],by omega,by omega,hl2⟩
    ·rintro kT fw ⟨g2,l,rfl,rfl,l1,l2,l3⟩
     obtain⟨n,rfl⟩:∃ n:Nat,p=(n:Int):=⟨p.toNat,by omega⟩
     obtain⟨a,ha⟩:∃ a,fi[n]?=some a:=⟨_,ux (by omega)⟩
     have m26:0<=(a+7*(i:Int))%26/\(a+7*(i:Int))%26<26:=⟨Int.emod_nonneg _ (by decide),Int.emod_lt_of_pos _ (by decide)⟩
     have ixj:ixN (l.map D.int).length (n:Int)=some n:=by
      unfold ixN;rw[fF,aj (by omega),aj (by omega),gxK]
     obtain⟨l',hl'⟩:∃ l',l'=l.set n ((a+7*(i:Int))%26):=⟨_,rfl⟩
     have ll:l'.length=l.length:=by rw[hl',aL]
     have l4:∀ x∈l',0<=x/\x<26:=fun x hx=>by
      rw[hl']at hx
      rcases List.mem_or_eq_of_mem_set hx with q | q
      ·exact l3 x q
      ·rw[q];exact m26
     refine dn (sM ha) ⟨.inl (by omega),show(0:Int)<26 by decide,?_⟩
     refine dn Af (dn ixj ?_)
     have es:(μ++MO.lst (rows.map D.str)::g2++[MO.lst (l.map D.int)]).set (μ++MO.lst (rows.map D.str)::g2).length (MO.lst ((l.map D.int).set n (.int ((a+7*(i:Int))%26))))=μ++MO.lst (rows.map D.str)::g2++[MO.lst (l'.map D.int)]:=by
      rw[gb,hl',List.map_set]
     rw[es]
     refine⟨lvM_ty (ds:=rows.map D.str) (lu (by rw[aM];exact jG)),rfl,?_⟩
     refine dn Af ⟨sz (by rw[fF];omega),?_⟩
     refine CG l' (c:=fun x=>Ag x (μ++.lst (rows.map D.str)::g2).length=some (l'.map D.int)) Af (fun x hx K' k'=>?_) fun cs cl cr=>?_
     ·obtain⟨c,e,c1,c2⟩:=abc_at (l4 x hx).1 (l4 x hx).2
      exact⟨zs,dn e (k' c ⟨c1,c2⟩)⟩
     ·refine⟨rfl,cs.map (fun c=>⟨#[c]⟩),by unfold lv;rw[aG];rfl,by rw[pY];omega,?_⟩
      rw[nW]
      refine dn (lu (ds:=rows.map D.str) (by rw[aM];exact jG)) ⟨by rw[fF];exact aw (m:=51) (by omega) (sz (by omega)),?_⟩
      rw[aM,List.cons_append,nv]
      refine Ed _ _ ⟨i+1,j,rows++[txt cs],g2++[.lst (l'.map D.int)],_,_,by rw[cY];rfl,by omega,by rw[lx,hrl];rfl,fun z hz=>?_,rfl,by rw[aK];rfl⟩
      rcases List.mem_append.mp hz with q | q
      ·exact hr0 z q
      ·rw[List.mem_singleton.mp q]
       exact named_of (by omega) (by omega) cr
  ·rintro ρ μ' ⟨i,j,rows,g,u,v',e,hij,hrl,hr0,rfl,rfl⟩
   cases j with
   | succ j=>rw[kW]at e;cases e
   | zero =>
    refine⟨trivial,?_⟩
    refine Fz.lst (ah _) jG (jR fun d hd=>by obtain⟨q,_,rfl⟩:=List.mem_map.mp hd;exact trivial) (gH hm) ?_
    rw[aV]
    exact kk rows (by omega) ⟨by omega,by omega,hr0⟩
def ok_begun {f:Addr}{fd:ag}(F:gL K "_law_begun" "_law_begun" vf f fd)(T:ir mg)(dF:hZ K dN)(eO:n9 P w K mg dh)(kA:kz P w K mg dh)(C_names:c_names P w K mg dh):eF P w K mg dh jM 5 f fd ["_law_box_here", "_law_most"] (gO (As dN dt)):=by
 refine F.oJ Bq (fun ds μ Kd h=>by unfold As at h;split at h <;> first | rfl | exact h.elim) (fun fR A dA s H E hr=>⟨_,(du (qS 2 Bq.nd (oR dq (qC eO hr (a2 (dv 0) (dv 1)))))
  (dD (dY (fW (a3 (CB kA hr.le rfl (a1 (dv 2))) (fW (a3 (dv 2) sA sA)) (qC C_names hr (a2 (dv 0) (eS (iM false (a3 dq dq dq)) (qC eO hr (a2 (dv 0) dq)))))))))),fun ds μ Kd hm hl h=>?_⟩)
 unfold As at h
 split at h
 ·rename_i k most
  obtain⟨⟨m0,em⟩,hb,hk,h1,h2,kk⟩:=h
  refine⟨hb,by omega,by omega,fun n n0 n1=>?_⟩
  have hne:μ≠[]:=fun e=>by rw[e]at hk;exact absurd hk (Nat.not_lt_zero _)
  have hl0:0<μ.length:=List.length_pos_iff.mpr hne
  refine⟨trivial,⟨m0,by rw[uU hl0];exact em⟩,by omega,fC,?_⟩
  rw[aj (by omega),gb,aM]
  have hb2:∀ g:MS,(μ++g)[k]?=some .box:=fun g=>by rw[uU hk];exact hb
  refine⟨rfl,zs,zs,hb2 _,by decide,by decide,fun v v0 v1=>?_⟩
  have fin:∀ fg,nN fg->Fz μ.length Kd (.tup [.mr μ.length,rl ⟨1+n,[],[]⟩,ql fg]) (μ++([MO.ins dN zJ [.mr (μ++[MO.ins dN [] []]).length,.mr ((μ++[MO.ins dN [] []]).length+1),.int 0]]++[MO.lst [lj dt ⟨1+n,[],[]⟩],MO.lst []])):=fun fg hp=>by
   rw[lx]
   exact .keep (kk (1+n) fg (by omega) (by omega) hp)
  obtain rfl | rfl | rfl:v=0\/v=1\/v=2:=by omega
  ·exact⟨hb2 _,by decide,by decide,fun fg _ hp=>⟨zs,fin fg hp⟩⟩
  ·exact⟨hb2 _,by decide,by decide,fun fg _ hp=>⟨zs,fin fg hp⟩⟩
  ·exact⟨hb2 _,by decide,by decide,fun fg _ hp=>⟨zs,fin fg hp⟩⟩
 ·exact h.elim
def wL {ds:List D}{μ:MS}{Kd:DK}(h:sf ds μ Kd):∃ v0 v1 v2,ds=[v0,.str v1,.int v2]:=by
 unfold sf at h
 rcases ds with _ | ⟨z0,ds⟩
 ·exact False.elim h
 rcases ds with _ | ⟨z1,ds⟩
 ·exact False.elim h
 cases z1 <;> first | exact False.elim h | skip
 rcases ds with _ | ⟨z2,ds⟩
 ·exact False.elim h
 cases z2 <;> first | exact False.elim h | skip
 rcases ds with _ | ⟨zz,zs⟩
 ·exact⟨_,_,_,rfl⟩
 ·exact False.elim h
def ok_origin {f:Addr}{fd:ag}(F:gL K "_law_origin" "_law_origin" rE f fd)(T:ir mg)  : eF P w K mg dh jM 1 f fd ["_law_kept", "_law_name", "_law_bar"] (gO sf):=by
 refine F.oJ ji (fun ds μ Kd h=>by obtain⟨_,_,_,rfl⟩:=wL h;rfl) (fun fR A dA s H E hr=>⟨_,(du (qS 3 ji.nd dq)
  (du (Fd bN (ma (eS (jl (fE hr) (dv 0) (dv 1) (fun _ _=>rfl)) dq) dE)
  (du (jy (jl (fE hr) (dv 0) (dv 1) (fun _ _=>rfl)) ⟨(fX (n:=4) rfl (dG (qN 4 ji.nd) (dG (qN 5 ji.nd) (dG (qN 6 ji.nd) (dG (qN 7 ji.nd) fB))))),(gS (dU (dQ 4) (dk 4) (dU (dQ 5) (dk 5) (dU (dQ 6) (dk 6) (dU (dQ 7) (dk 7) gT dP) (dz (dk 7) dP)) (dz (dk 6) (dz (dk 7) dP))) (dz (dk 5) (dz (dk 6) (dz (dk 7) dP))))),(gV (dz (dk 4) (dz (dk 5) (dz (dk 6) (dz (dk 7) dP)))))⟩)
  (du (qS 1 ji.nd (xi (qLt (dv 2) (dv 7)) (dv 5) (dv 6)))
  (dD (qS 3 ji.nd (oR (dv 3) dq))))))
  (dD (dY (fW (a2 (dv 1) (dv 3))))))),fun ds μ Kd hm hl h=>?_⟩)
 obtain⟨x,nm,bar,rfl⟩:=wL h
 unfold sf at h
 ·skip
  obtain⟨dj,y,hx,kp,ey,kk⟩:=h
  cases x with
  | lD ks ds =>
   cases hx
   refine⟨fun i ρ μ'=>∃(z:Str) (y:Pt) (c:Nat) (v1 v2 v3 v4:Option D),i=il dj z/\dJ dj z=some y/\f9 dj nm bar=((f9 dj z bar).1,(f9 dj z bar).2+c)/\ρ=[some (.lD (dj.map fun p=>eB p.1) (dj.map fun p=>kq p.2)),some (.str z),some (.int bar),some (.int (c:Int)),v1,v2,v3,v4]/\μ'=μ,⟨_,nm,y,0,none,none,none,none,rfl,ey,rfl,rfl,rfl⟩,?_⟩
   rintro i ρ μ' ⟨z,y,c,v1,v2,v3,v4,rfl,ez,es,rfl,rfl⟩
   have eg:ixF (dj.map fun p=>eB p.1) (dj.map fun p=>kq p.2) (.str z)=some (some (kq y)):=by rw[gQ dR kq z dj rfl,ez];rfl
   cases y with
   | fst b a =>
    refine⟨_,eg,?_⟩
    refine⟨zs,.keep ?_⟩
    rw[es,rh ez,Nat.zero_add]at kk
    exact kk
   | jn l r p =>
    obtain⟨⟨yl,el⟩,⟨yr,er⟩⟩:=kp.there ez
    obtain⟨i1,i2⟩:=kp.low z l r p ez
    have ej:=yZ kp ez bar
    refine⟨_,eg,⟨_,eg,?_⟩⟩
    refine⟨rfl,?_⟩
    refine mT (c:=bar<p) (fun q=>?_) (fun q=>?_)
    ·rw[aj q]at ej
     exact⟨il dj l,i1,l,yl,c+1,_,_,_,_,rfl,el,by rw[es,ej];congr 1;show _+1+c=_;omega,rfl,rfl⟩
    ·rw[ai q]at ej
     exact⟨il dj r,i2,r,yr,c+1,_,_,_,_,rfl,er,by rw[es,ej];congr 1;show _+1+c=_;omega,rfl,rfl⟩
  | mr j =>
   have hx:uW μ j=some (dj.map (fun p=>eB p.1),dj.map fun p=>kq p.2):=hx
   refine⟨fun i ρ μ'=>∃(z:Str) (y:Pt) (c:Nat) (v1 v2 v3 v4:Option D),i=il dj z/\dJ dj z=some y/\f9 dj nm bar=((f9 dj z bar).1,(f9 dj z bar).2+c)/\ρ=[some (.mr j),some (.str z),some (.int bar),some (.int (c:Int)),v1,v2,v3,v4]/\μ'=μ,⟨_,nm,y,0,none,none,none,none,rfl,ey,rfl,rfl,rfl⟩,?_⟩
   rintro i ρ μ' ⟨z,y,c,v1,v2,v3,v4,rfl,ez,es,rfl,rfl⟩
   have eg:=(um (d:=.str z) dR kq z dj rfl hx).trans (by rw[ez];rfl:_=some (some (kq y)))
   cases y with
   | fst b a =>
    refine⟨_,eg,?_⟩
    refine⟨zs,.keep ?_⟩
    rw[es,rh ez,Nat.zero_add]at kk
    exact kk
   | jn l r p =>
    obtain⟨⟨yl,el⟩,⟨yr,er⟩⟩:=kp.there ez
    obtain⟨i1,i2⟩:=kp.low z l r p ez
    have ej:=yZ kp ez bar
    refine⟨_,eg,⟨_,eg,?_⟩⟩
    refine⟨rfl,?_⟩
    refine mT (c:=bar<p) (fun q=>?_) (fun q=>?_)
    ·rw[aj q]at ej
     exact⟨il dj l,i1,l,yl,c+1,_,_,_,_,rfl,el,by rw[es,ej];congr 1;show _+1+c=_;omega,rfl,rfl⟩
    ·rw[ai q]at ej
     exact⟨il dj r,i2,r,yr,c+1,_,_,_,_,rfl,er,by rw[es,ej];congr 1;show _+1+c=_;omega,rfl,rfl⟩
  | _=>cases hx
def B5 {ds:List D}{μ:MS}{Kd:DK}(h:xf ds μ Kd):∃ v0,ds=[v0]:=by
 unfold xf at h
 rcases ds with _ | ⟨z0,ds⟩
 ·exact False.elim h
 rcases ds with _ | ⟨zz,zs⟩
 ·exact⟨_,rfl⟩
 ·exact False.elim h
def ok_ages {f:Addr}{fd:ag}(F:gL K "_law_ages" "_law_ages" zF f fd)(T:ir mg)  : eF P w K mg dh jM 1 f fd ["_law_kept"] (gO xf):=by
 refine F.oJ u5 (fun ds μ Kd h=>by obtain⟨_,rfl⟩:=B5 h;rfl) (fun fR A dA s H E hr=>⟨_,(du (qS 1 u5.nd AD)
  (du (ud bN rfl (Ai (dv 0)) (qT 2 u5.nd)
  (du (qS 3 u5.nd (jl (fE hr) (dv 0) (dv 2) (fun _ _=>rfl)))
  (dD (jx (fE hr) (xi (ma (eS (dv 3) dq) dE) (eS (dv 3) dq) (oR (qz (maxC rfl) DH (by rfl) T.max PyProof.Rows.boot_max (a2 (jl (fE hr) (dv 1) (eS (dv 3) dq) (fun _ _=>rfl)) (jl (fE hr) (dv 1) (eS (dv 3) dq) (fun _ _=>rfl)))) dq)) (dv 1) (dv 2)))))
  (dD (dY (xj (dv 1)))))),fun ds μ Kd hm hl h=>?_⟩)
 obtain⟨x,rfl⟩:=B5 h
 unfold xf at h
 ·skip
  obtain⟨S,m,rfl,wf,kk⟩:=h
  have nd:=wf.kp.nd
  have iT:=wf.iT
  show ya _ _ _ _ ((S.dj.map fun p=>eB p.1).map nR) _ _
  rw[aG]
  refine jD (fun ds ρ μ'=>∃(pre post:List (Str×Pt)) (v1 v2:Option D),S.dj=pre++post/\ds=post.map (fun p=>D.str p.1)/\ρ=[some (qd eB kq S.dj),some (.mr μ.length),v1,v2]/\μ'=μ++[dM eB D.int (pre.map fun p=>(p.1,(fO S.dj p.1).2))]) ⟨[],S.dj,none,none,rfl,rfl,rfl,rfl⟩ ?_ ?_
  ·rintro d ds' ρ μ' ⟨pre,post,v1,v2,hs,e1,rfl,rfl⟩
   refine⟨trivial,fun nx Ed=>?_⟩
   cases post with
   | nil=>cases e1
   | cons p post =>
    obtain⟨z,y⟩:=p
    cases e1
    obtain⟨ez,ix,lp,hn,FF⟩:=pre_get (g:=fun w=>(fO S.dj w).2) nd hs
    have eg:ixF (S.dj.map fun p=>eB p.1) (S.dj.map fun p=>kq p.2) (.str z)=some (some (kq y)):=by rw[gQ dR kq z S.dj rfl,ez];rfl
    refine⟨_,eg,?_⟩
    have fin:∀(a:Int) (iO:DE),a=(fO S.dj z).2->iO=[some (qd eB kq S.dj),some (.mr μ.length),some (.str z),some (kq y)]->∃ kd Dw:List (Key×D),(μ++[dM eB D.int (pre.map fun p=>(p.1,(fO S.dj p.1).2))])[μ.length]?=some (.iD (kd.map (·.1)) (kd.map (·.2)))/\kd.length<sizeLine/\(nT (.str z)).map (fun k=>dput kd k (.int a))=some Dw/\nx iO ((μ++[dM eB D.int (pre.map fun p=>(p.1,(fO S.dj p.1).2))]).set μ.length (.iD (Dw.map (·.1)) (Dw.map (·.2)))):=fun a iO ha hρ=>by
     refine pd dR (P:=nx iO) fC (by rw[fF];exact aw lp (sz (by omega))) rfl a rfl ?_
     rw[gb,m3 hn,hρ]
     refine Ed _ _ ⟨pre++[(z,y)],post,_,_,by rw[hs,aM];rfl,rfl,rfl,?_⟩
     rw[aK,ha];rfl
    cases y with
    | fst b a=>exact fin a _ (by rw[DD ez]) rfl
    | jn l r p =>
     obtain⟨i1,i2⟩:=wf.kp.low z l r p ez
     have g1:∀ w,il S.dj w<pre.length->ixM (μ++[dM eB D.int (pre.map fun p=>(p.1,(fO S.dj p.1).2))]) μ.length (.str w)=some (some (.int (fO S.dj w).2)):=fun w hw=>(um dR D.int w (pre.map fun p=>(p.1,(fO S.dj p.1).2)) rfl (qc fC)).trans (by rw[FF w hw];rfl)
     exact⟨_,g1 l (by omega),_,g1 r (by omega),fin _ _ (by rw[tk_jn wf.kp ez];rfl) rfl⟩
  ·rintro ρ μ' ⟨pre,post,v1,v2,hs,e1,rfl,rfl⟩
   cases post with
   | cons p post=>cases e1
   | nil =>
    rw[aQ]at hs
    refine⟨trivial,_,_,fC,fun o kvs hks=>?_⟩
    rw[gb]
    refine Fz.lD (ah _) fC (jR fun d hd=>by obtain⟨q,_,rfl⟩:=List.mem_map.mp hd;exact trivial) (gH hm) ?_
    rw[aV,hks,<- hs]
    exact kk
def yD {ds:List D}{μ:MS}{Kd:DK}(h:xa ds μ Kd):∃ v0 v1,ds=[v0,.str v1]:=by
 unfold xa at h
 rcases ds with _ | ⟨z0,ds⟩
 ·exact False.elim h
 rcases ds with _ | ⟨z1,ds⟩
 ·exact False.elim h
 cases z1 <;> first | exact False.elim h | skip
 rcases ds with _ | ⟨zz,zs⟩
 ·exact⟨_,_,rfl⟩
 ·exact False.elim h
def ok_heard {f:Addr}{fd:ag}(F:gL K "_law_heard" "_law_heard" vd f fd)(T:ir mg)(pV:sE P w K mg dh):eF P w K mg dh jM 2 f fd ["_law_state", "_law_name"] (gO xa):=by
 refine F.oJ vV (fun ds μ Kd h=>by obtain⟨_,_,rfl⟩:=yD h;rfl) (fun fR A dA s H E hr=>⟨_,(du (qS 2 vV.nd (eS (dv 0) dq))
  (dD (dY (Az bE cb b9 BY rk dE (a1 (dC1 false (Bb (N:=["_law_bar", "_law_kept", "_law_name"]) (js:=[none,some 2,some 1]) vV (by decide +kernel)) (iX rfl T.range (a1 (eS (dv 0) dq))) (fun _ _ _ nd=>(qN 0 nd)) (fun _ _ _=>kr) (fun _ _ _=>(eS (eS (jl (fE hr) (dv 1) (eS (qC pV hr (a3 (dv 1) (dv 2) (dv 0))) dq) (fun _ _=>rfl)) dq) (dv 0))))))))),fun ds μ Kd hm hl h=>?_⟩)
 obtain⟨x,nm,rfl⟩:=yD h
 unfold xa at h
 ·skip
  obtain⟨S,m,y,rfl,wf,ey,kk⟩:=h
  have n1:=wf.n1
  have n2:=wf.n2
  obtain⟨t1,_⟩:=Bh wf nm y ey
  have tl:(fO S.dj nm).1.length=S.n.toNat:=by omega
  refine⟨rfl,by omega,by omega,sz (by rw[iz];omega),?_⟩
  refine iJ trivial (fun i:Nat=>D.int (0+(i:Int))) (fun i=>some (D.str ⟨#[(fO S.dj nm).1.getD i 0]⟩)) (fun i hi K' k'=>?_) ?_
  ·have hi:=List.mem_range.mp hi
   obtain⟨b,a,c,g1,g2,g3⟩:=heard_at wf i (by omega) nm y ey
   refine⟨S.dj,y,rfl,wf.kp,ey,?_⟩
   rw[Int.zero_add]
   refine⟨_,by rw[gQ dR kq _ S.dj rfl,g1];rfl,?_⟩
   have lb:=(wf.fs _ b a g1).1
   refine⟨by rw[D8];exact sz (by omega),dn (kQ g2) ?_⟩
   have e:(fO S.dj nm).1.getD i 0=c:=by rw[aZ,g3];rfl
   rw[e]at k'
   exact k'
  ·rw[<- tl,range_str]
   refine⟨rfl,(fO S.dj nm).1.map fun c=>⟨#[c]⟩,by unfold lv;rw[aG];rfl,by rw[pY];omega,?_⟩
   rw[nW]
   exact .keep kk
def yA {ds:List D}{μ:MS}{Kd:DK}(h:r8 ds μ Kd):∃ v0,ds=[v0]:=by
 unfold r8 at h
 rcases ds with _ | ⟨z0,ds⟩
 ·exact False.elim h
 rcases ds with _ | ⟨zz,zs⟩
 ·exact⟨_,rfl⟩
 ·exact False.elim h
def ok_takes {f:Addr}{fd:ag}(F:gL K "_law_takes" "_law_takes" u6 f fd)(T:ir mg)(C_ages:c_ages P w K mg dh)(C_heard:c_heard P w K mg dh):eF P w K mg dh jM 3 f fd ["_law_state"] (gO r8):=by
 refine F.oJ vU (fun ds μ Kd h=>by obtain⟨_,rfl⟩:=yA h;rfl) (fun fR A dA s H E hr=>⟨_,(du (qS 1 vU.nd (qC C_ages hr (a1 (eS (dv 0) dq))))
  (dD (dY (dC1 false (Bb (N:=["_law_name", "_law_state", "_law_ages_here"]) (js:=[none,some 0,some 1]) vU (by decide +kernel)) (Ai (eS (dv 0) dq)) (fun _ _ _ nd=>(qN 0 nd)) (fun _ _ _=>kr) (fun _ _ _=>(fW (a2 (qC C_heard hr (a2 (dv 1) (dv 0))) (jl (fE hr) (dv 2) (dv 0) (fun _ _=>rfl))))))))),fun ds μ Kd hm hl h=>?_⟩)
 obtain⟨x,rfl⟩:=yA h
 unfold r8 at h
 ·skip
  obtain⟨S,m,rfl,wf,kk⟩:=h
  have iT:=wf.iT
  refine⟨S,m,rfl,wf,?_⟩
  refine⟨sz (by rw[fF,fF];omega),?_⟩
  rw[aG]
  refine iJ trivial (nR ∘ fun p:Str×Pt=>eB p.1) (fun p=>some (jq (fO S.dj p.1))) (fun p hp K' k'=>?_) ?_
  ·refine⟨S,m,p.2,rfl,wf,gB wf.kp.nd hp,?_⟩
   refine⟨_,by rw[gQ dR D.int p.1 _ rfl,ages_get wf.kp.nd hp];rfl,zs,k'⟩
  ·rw[show(fun p:Str×Pt=>some (jq (fO S.dj p.1)))=some ∘ (fun p=>jq (fO S.dj p.1))from rfl,List.filterMap_eq_map]
   have kk:Kd (.lst ((my S).map jq)) μ:=kk
   unfold my at kk
   rw[aG]at kk
   exact .keep kk
def BZ {ds:List D}{μ:MS}{Kd:DK}(h:wZ ds μ Kd):∃ v0,ds=[v0]:=by
 unfold wZ at h
 rcases ds with _ | ⟨z0,ds⟩
 ·exact False.elim h
 rcases ds with _ | ⟨zz,zs⟩
 ·exact⟨_,rfl⟩
 ·exact False.elim h
def ok_open {f:Addr}{fd:ag}(F:gL K "_law_open" "_law_open" zw f fd)(T:ir mg)  : eF P w K mg dh jM 1 f fd ["_law_state"] (gO wZ):=by
 refine F.oJ Fc (fun ds μ Kd h=>by obtain⟨_,rfl⟩:=BZ h;rfl) (fun fR A dA s H E hr=>⟨_,(dD (dY (dC1 false (Bb (N:=["_law_place", "_law_state"]) (js:=[none,some 0]) Fc (by decide +kernel)) (B6 rfl T.range (a2 dq (eS (dv 0) dq))) (fun _ _ _ nd=>(qN 0 nd)) (fun _ _ _=>(sV (kh (fE hr) (dv 0) (eS (dv 1) dq) (by with_unfolding_all rfl)))) (fun _ _ _=>(dv 0))))),fun ds μ Kd hm hl h=>?_⟩)
 obtain⟨x,rfl⟩:=BZ h
 unfold wZ at h
 ·skip
  obtain⟨S,m,rfl,wf,kk⟩:=h
  have n1:=wf.n1
  have n2:=wf.n2
  refine dn rfl ⟨⟨by decide,by decide,by omega,by omega⟩,sz (by rw[iz];omega),?_⟩
  rw[Fi]
  refine iJ trivial D.int (fun p=>if(dJ S.fe p).isSome=true then none else some (D.int p)) (fun p _ K' k'=>?_) ?_
  ·refine dn rfl ⟨_,gQ iC (fun _=>.bl true) p S.fe rfl,?_⟩
   cases e:dJ S.fe p with
   | none=>rw[e]at k';exact k'
   | some x=>rw[e]at k';exact k'
  ·rw[BE]
   exact .keep kk
def B3 {ds:List D}{μ:MS}{Kd:DK}(h:xb ds μ Kd):∃ v0 v1,ds=[v0,v1]:=by
 unfold xb at h
 rcases ds with _ | ⟨z0,ds⟩
 ·exact False.elim h
 rcases ds with _ | ⟨z1,ds⟩
 ·exact False.elim h
 rcases ds with _ | ⟨zz,zs⟩
 ·exact⟨_,_,rfl⟩
 ·exact False.elim h
def ok_done {f:Addr}{fd:ag}(F:gL K "_law_done" "_law_done" zD f fd)(T:ir mg)(pV:sE P w K mg dh):eF P w K mg dh jM 2 f fd ["_law_state", "_law_deed"] (gO xb):=by
 refine F.oJ p5 (fun ds μ Kd h=>by obtain⟨_,_,rfl⟩:=B3 h;rfl) (fun fR A dA s H E hr=>⟨_,(du (s_par3 (i:=2) (j:=3) (k:=4) p5.nd rfl rfl rfl (by decide) (by decide) (by decide) rfl rfl rfl (a3 (eS (dv 0) dq) (CA dictC vP (by rfl) T.dict de (a1 (eS (dv 0) dq))) (CA dictC vP (by rfl) T.dict de (a1 (eS (dv 0) dq)))))
  (CO (fA (ma (eS (dv 1) dq) dE)
  (dD (jx (fE hr) (fW (a3 dE (eS (dv 1) dq) (eS (dv 1) dq))) (dv 3) (eS (dv 1) dq)))
  (dD (fA (ma (eS (dv 1) dq) dE)
  (dD (jx (fE hr) (fW (dr dE (dr (eS (dv 1) dq) (dr (eS (dv 1) dq) (dr (eS (dv 1) dq) fo))))) (dv 3) (eS (dv 1) dq)))
  (dD (fA (ma (eS (dv 1) dq) dE)
  (du (qS 5 p5.nd (eS (qC pV hr (a3 (dv 3) (eS (dv 1) dq) (eS (dv 1) dq))) dq))
  (du (jy (jl (fE hr) (dv 3) (dv 5) (fun _ _=>rfl)) ⟨(fX (n:=3) rfl (dG (qN 6 p5.nd) (dG (qN 7 p5.nd) (dG (qN 8 p5.nd) fB)))),(gS (dU (dQ 6) (dk 6) (dU (dQ 7) (dk 7) (dU (dQ 8) (dk 8) gT dP) (dz (dk 8) dP)) (dz (dk 7) (dz (dk 8) dP)))),(gV (dz (dk 6) (dz (dk 7) (dz (dk 8) dP))))⟩)
  (dD (jx (fE hr) (fW (a3 (dv 6) (oR (oR (j5 false (dv 7) rO (iQ (eS (dv 1) dq))) (eS (dv 1) dq)) (j5 false (dv 7) (iQ (oR (eS (dv 1) dq) dq)) rO)) (dv 8))) (dv 3) (dv 5)))))
  (dD (fA (ma (eS (dv 1) dq) dE)
  (dD (jx (fE hr) (fW (a3 dE (eS (jl (fE hr) (dv 3) (eS (dv 1) dq) (fun _ _=>rfl)) dq) (eS (dv 1) dq))) (dv 3) (eS (dv 1) dq)))
  (dD (fA (ma (eS (dv 1) dq) dE)
  (dD (gC (d_popK (dv 3) (eS (dv 1) dq))))
  (dD (fA (ma (eS (dv 1) dq) dE)
  (dD (jx (fE hr) tS (dv 4) (eS (dv 1) dq)))
  (dD (fA (Bi (fE hr) (eS (dv 1) dq) (dv 4) (by with_unfolding_all rfl))
  (dD (gC (d_popK (dv 4) (eS (dv 1) dq))))
  eQ)))))))))))))
  (dD (dY (fW (dr (dv 2) (dr (xj (dv 3)) (dr (xj (dv 4)) fo)))))))),fun ds μ Kd hm hl h=>?_⟩)
 obtain⟨x,y,rfl⟩:=B3 h
 unfold xb at h
 ·skip
  obtain⟨S,d,m,rfl,rfl,wf,hm',hr,kk⟩:=h
  have iT:=wf.iT
  have shl:=wf.shl
  have n2:=wf.n2
  have e2:(μ++[dM eB kq S.dj]).length=μ.length+1:=by rw[lx];rfl
  show dCut _ _ _ [some (rl S),some (oQ d),some (.int S.n),some (.mr μ.length),some (.mr (μ++[dM eB kq S.dj]).length),none,none,none,none] (μ++[dM eB kq S.dj]++[dM km (fun _=>.bl true) S.fe])
  rw[e2,aM]
  have kl:S.dj.length<sizeLine:=aw (m:=21) (by omega) (sz (by omega))
  have sl:S.fe.length<sizeLine:=aw (m:=1001) (by omega) (sz (by omega))
  refine⟨fun iO μ'=>∃ v5 v6 v7 v8,iO=[some (rl S),some (oQ d),some (.int S.n),some (.mr μ.length),some (.mr (μ.length+1)),v5,v6,v7,v8]/\(mF S d).n=S.n/\μ'=μ++[dM eB kq (mF S d).dj,dM km (fun _=>.bl true) (mF S d).fe],?_,?_⟩
  ·cases d with
   | put nm b a =>
    refine⟨zs,pd dR jG kl rfl (.fst b.cps.toList a) rfl ⟨none,none,none,none,rfl,rfl,?_⟩⟩
    exact nv
   | join nm l r p =>
    refine⟨zs,pd dR jG kl rfl (.jn l r p) rfl ⟨none,none,none,none,rfl,rfl,?_⟩⟩
    exact nv
   | found nm bar sg =>
    have hr:(if gu S nm=false then some 11 else if 0<=bar/\bar<S.n then(if sg = "o"\/sg = "x" then none else some 0)else some 6)=(none:Option Nat):=hr
    by_cases q1:gu S nm=false
    ·rw[aj q1]at hr;cases hr
    rw[ai q1]at hr
    by_cases hb:0<=bar/\bar<S.n
    ·rw[aj hb]at hr
     by_cases hs:sg = "o"\/sg = "x"
     ·obtain⟨y,ey⟩:=mW q1
      obtain⟨b,a,ef⟩:=y0 wf.kp bar nm y ey
      obtain⟨f1,f2,f3,f4⟩:=wf.fs _ b a ef
      obtain⟨o1,o2⟩:=DJ hs
      refine⟨S.dj,y,qc jG,wf.kp,ey,?_⟩
      refine⟨_,(um dR kq (f9 S.dj nm bar).1 S.dj rfl (qc jG)).trans (by rw[ef];rfl:_=some (some (kq (.fst b a)))),rfl,?_⟩
      have sl:sg.length=1:=o2
      have lb:(txt b).length<=sizeLine:=by rw[lM];exact sz (by omega)
      have c1:=n5 b none (some bar)
      have c2:=n5 b (some (bar+1)) none
      have eh:(⟨(gN b none (some bar)).toArray⟩++sg++⟨(gN b (some (bar+1)) none).toArray⟩:Str)=txt (uq b bar sg):=by
       rw[AG hb.1,tT (show 0<=bar+1 by omega),show(bar+1).toNat=bar.toNat+1 by omega]
       rw[AQ,om,aM]
       rfl
      have l1:(⟨(gN b none (some bar)).toArray⟩:Str).length+sg.length<=sizeLine:=by rw[sl];show(gN b none (some bar)).length+1<=_;exact sz (by omega)
      have l2:(⟨(gN b none (some bar)).toArray⟩++sg:Str).length+(⟨(gN b (some (bar+1)) none).toArray⟩:Str).length<=sizeLine:=by
       rw[AQ]
       show(gN b none (some bar)++sg.cps.toList).length+(gN b (some (bar+1)) none).length<=_
       rw[lx,o2]
       exact sz (by omega)
      refine⟨lb,l1,lb,l2,zs,?_⟩
      refine pd dR jG kl rfl (.fst (uq b bar sg) a) (by show D.tup _=D.tup _;rw[<- eh]) ⟨_,_,_,_,rfl,rfl,?_⟩
      rw[nv]
      show _=μ++[dM eB kq (Ef S.dj (f9 S.dj nm bar).1 bar sg),_]
      unfold Ef
      rw[ef]
      rfl
     ·rw[ai hs]at hr;cases hr
    ·rw[ai hb]at hr;cases hr
   | kR nm a =>
    have hr:(match dJ S.dj nm with | none=>some 11 | some (.jn _ _ _)=>some 13 | some (.fst _ _)=>jL a)=(none:Option Nat):=hr
    cases ey:dJ S.dj nm with
    | none=>rw[ey]at hr;cases hr
    | some y =>
     rw[ey]at hr
     cases y with
     | jn _ _ _=>cases hr
     | fst b a0 =>
      refine⟨_,(um dR kq nm S.dj rfl (qc jG)).trans (by rw[ey];rfl:_=some (some (kq (.fst b a0)))),zs,?_⟩
      have ed:mF S (.kR nm a)={ S with dj:=gc S.dj nm (.fst b a)}:=by
       show(match dJ S.dj nm with | some (.fst b _)=>{ S with dj:=gc S.dj nm (.fst b a)} | _=>S)=_
       rw[ey]
      refine pd dR jG kl rfl (.fst b a) rfl ⟨none,none,none,none,rfl,by rw[ed],?_⟩
      rw[ed]
      exact nv
   | drop nm =>
    have hr:(if gu S nm=false then some 11 else if kC S nm=true then some 14 else none)=(none:Option Nat):=hr
    by_cases q1:gu S nm=false
    ·rw[aj q1]at hr;cases hr
    obtain⟨y,ey⟩:=mW q1
    refine⟨⟨_,_,jG⟩,pop_at dR jG rfl ey ⟨none,none,none,none,rfl,rfl,?_⟩⟩
    exact nv
   | fe p =>
    refine pd iC (f:=fun _:Unit=>D.bl true) yj sl rfl () rfl ⟨none,none,none,none,rfl,rfl,?_⟩
    exact zb
   | free p =>
    refine⟨_,um iC (fun _:Unit=>D.bl true) p S.fe rfl (qc yj),?_⟩
    cases ep:dJ S.fe p with
    | none =>
     refine⟨none,none,none,none,rfl,rfl,?_⟩
     show _=μ++[dM eB kq S.dj,dM km (fun _=>.bl true) (hX S.fe p)]
     rw[EA ep];rfl
    | some u =>
     refine⟨⟨_,_,yj⟩,pop_at iC (f:=fun _:Unit=>D.bl true) yj rfl ep ⟨none,none,none,none,rfl,rfl,?_⟩⟩
     exact zb
  ·rintro iO μ' ⟨v5,v6,v7,v8,rfl,en,rfl⟩
   refine⟨_,_,jG,fun o1 k1 hk1=>?_⟩
   rw[nv]
   refine⟨_,_,yj,fun o2 k2 hk2=>?_⟩
   rw[zb]
   refine⟨zs,Fz.deepQ (frz_two (jR fun d hd=>by obtain⟨q,_,rfl⟩:=List.mem_map.mp hd;exact ptL_mr _) (jR fun d hd=>by obtain⟨q,_,rfl⟩:=List.mem_map.mp hd;exact trivial)) (gH hm) ?_⟩
   rw[aV,hk1,hk2,<- en]
   exact kk
def B1 {ds:List D}{μ:MS}{Kd:DK}(h:Ci ds μ Kd):∃ v0,ds=[v0]:=by
 unfold Ci at h
 rcases ds with _ | ⟨z0,ds⟩
 ·exact False.elim h
 rcases ds with _ | ⟨zz,zs⟩
 ·exact⟨_,rfl⟩
 ·exact False.elim h
def ok_lone {f:Addr}{fd:ag}(F:gL K "_law_lone" "_law_lone" zx f fd)(T:ir mg)  : eF P w K mg dh jM 1 f fd ["_law_kept"] (gO Ci):=by
 refine F.oJ u4 (fun ds μ Kd h=>by obtain⟨_,rfl⟩:=B1 h;rfl) (fun fR A dA s H E hr=>⟨_,(du (qS 1 u4.nd AD)
  (du (ud bN rfl (tK (dv 0)) (qT 2 u4.nd)
  (dD (fA (ma (eS (dv 2) dq) dE)
  (du (jx (fE hr) tS (dv 1) (eS (dv 2) dq))
  (dD (jx (fE hr) tS (dv 1) (eS (dv 2) dq))))
  eQ)))
  (dD (dY (dC1 false (Bb (N:=["_law_name", "_law_used"]) (js:=[none,some 1]) u4 (by decide +kernel)) (Ai (dv 0)) (fun _ _ _ nd=>(qN 0 nd)) (fun _ _ _=>(sV (kh (fE hr) (dv 0) (dv 1) (by with_unfolding_all rfl)))) (fun _ _ _=>(dv 0))))))),fun ds μ Kd hm hl h=>?_⟩)
 obtain⟨x,rfl⟩:=B1 h
 unfold Ci at h
 ·skip
  obtain⟨S,m,rfl,wf,kk⟩:=h
  have iT:=wf.iT
  intro _
  refine jD (fun ds ρ μ'=>∃(pre post:List (Str×Pt)) (us:List (Str×Unit)) (v1:Option D),S.dj=pre++post/\ds=post.map (fun p=>kq p.2)/\us.length<=2*pre.length/\(∀ z,(dJ us z).isSome=pre.any fun p=>gE z p.2)/\ρ=[some (qd eB kq S.dj),some (.mr μ.length),v1]/\μ'=μ++[dM eB (fun _=>.bl true) us]) ⟨[],S.dj,[],none,rfl,rfl,ah _,fun _=>rfl,rfl,rfl⟩ ?_ ?_
  ·rintro d ds' ρ μ' ⟨pre,post,us,v1,hs,e1,hu,ha,rfl,rfl⟩
   refine⟨trivial,fun nx Ed=>?_⟩
   cases post with
   | nil=>cases e1
   | cons p post =>
    obtain⟨z,y⟩:=p
    cases e1
    have lp:pre.length<S.dj.length:=by rw[hs,lx,aI];omega
    have anyE:∀ w,((pre++[(z,y)]).any fun p=>gE w p.2)=((pre.any fun p=>gE w p.2)||gE w y):=fun w=>by rw[List.any_append,bt,List.any_nil,Bool.or_false]
    cases y with
    | fst b a =>
     refine Ed _ _ ⟨pre++[(z,.fst b a)],post,us,_,by rw[hs,aM];rfl,rfl,by rw[lx];omega,fun w=>by rw[anyE,ha w];exact(Bool.or_false _).symm,rfl,rfl⟩
    | jn l r p =>
     have ul:us.length<sizeLine:=aw (m:=50) (by omega) (sz (by omega))
     have la:=aput_le (l:=us) (k:=l) (v:=())
     have lb:=aput_le (l:=gc us l ()) (k:=r) (v:=())
     have ul2:(gc us l ()).length<sizeLine:=aw (m:=50) (by omega) (sz (by omega))
     refine pd dR (f:=fun _:Unit=>D.bl true) fC ul rfl () rfl ?_
     rw[gb]
     refine pd dR (f:=fun _:Unit=>D.bl true) fC ul2 rfl () rfl ?_
     rw[gb]
     refine Ed _ _ ⟨pre++[(z,.jn l r p)],post,gc (gc us l ()) r (),_,by rw[hs,aM];rfl,rfl,by rw[lx,aU];omega,fun w=>?_,rfl,rfl⟩
     rw[anyE,m4,m4,<- ha w]
     show _=(_||(decide (l=w)||decide (r=w)))
     by_cases q1:w=r
     ·subst q1;rw[aj rfl];simp
     ·rw[ai q1,au (bf q1)]
      by_cases q2:w=l
      ·subst q2;rw[aj rfl];simp
      ·rw[ai q2,au (bf q2)];simp
  ·rintro ρ μ' ⟨pre,post,us,v1,hs,e1,hu,ha,rfl,rfl⟩
   cases post with
   | cons p post=>cases e1
   | nil =>
    rw[aQ]at hs
    refine⟨trivial,sz (by rw[fF,fF];omega),?_⟩
    rw[aG]
    refine iJ trivial (nR ∘ fun p:Str×Pt=>eB p.1) (fun p=>if(S.dj.any fun q=>gE p.1 q.2)=true then none else some (D.str p.1)) (fun p hp K' k'=>?_) ?_
    ·refine⟨_,um dR (fun _:Unit=>D.bl true) p.1 us rfl (qc fC),?_⟩
     rw[<- hs]at ha
     have hw:=ha p.1
     cases eu:dJ us p.1 with
     | none=>rw[eu]at hw;rw[<- hw]at k';exact k'
     | some u=>rw[eu]at hw;rw[<- hw]at k';exact k'
    ·rw[lone_map]
     refine Fz.drop (jR fun d hd=>by obtain⟨q,_,rfl⟩:=List.mem_map.mp hd;exact trivial) (gH hm) ?_
     rw[aV]
     exact kk
set_option maxHeartbeats 8000000 in
def B2 {ds:List D}{μ:MS}{Kd:DK}(h:Ck ds μ Kd):∃ v0 v1 v2,ds=[.mr v0,v1,v2]:=by
 unfold Ck at h
 rcases ds with _ | ⟨z0,ds⟩
 ·exact False.elim h
 cases z0 <;> first | exact False.elim h | skip
 rcases ds with _ | ⟨z1,ds⟩
 ·exact False.elim h
 rcases ds with _ | ⟨z2,ds⟩
 ·exact False.elim h
 rcases ds with _ | ⟨zz,zs⟩
 ·exact⟨_,_,_,rfl⟩
 ·exact False.elim h
def ok_easy {f:Addr}{fd:ag}(F:gL K "_law_easy" "_law_easy" zB f fd)(T:ir mg)(eO:n9 P w K mg dh)(EM:Eu P w K mg dh)(C_bars:c_bars P w K mg dh)(C_lone:c_lone P w K mg dh):eF P w K mg dh jM 3 f fd ["_law_box_here", "_law_state", "_law_pool"] (gO Ck):=by
 refine F.oJ jv (fun ds μ Kd h=>by obtain⟨_,_,_,rfl⟩:=B2 h;rfl) (fun fR A dA s H E hr=>⟨_,(du (qS 3 jv.nd (CA (FA rfl) (rj (m:=false)) (by rfl) T.list bj (a1 (eS (dv 1) dq))))
  (du (sC1 4 false jv.nd (Bb (N:=["_law_name", "_law_state", "_law_names_here"]) (js:=[none,some 1,some 3]) jv (by decide +kernel)) (i_list (dv 2)) (fun _ _ _ nd=>(qN 0 nd)) (fun _ _ _=>(sV (PW.pt (kj (kh (fE hr) (dv 0) (eS (dv 1) dq) (by with_unfolding_all rfl)) (iP (qLt (yd T (dv 2)) dq)))))) (fun _ _ _=>(dv 0)))
  (du (qS 5 jv.nd (qC EM hr (a1 (dv 1))))
  (du (qS 6 jv.nd (qC eO hr (a2 (dv 0) dq)))
  (du (fA (PW.pt (kj (qGt (yd T (dv 4)) dq) (iP (PW.pt (nk (ma (yd T (dv 3)) dq) (jN (qLt (dv 6) dq)))))))
  (du (qS 7 jv.nd (qC eO hr (a2 (dv 0) (eS (iM false (a2 dq dq)) (qC eO hr (a2 (dv 0) dq))))))
  (dD (dY (fW (dr dE (dr (eS (dv 4) (qC eO hr (a2 (dv 0) (yd T (dv 4))))) (dr (qC C_bars hr (a2 (dv 0) (eS (dv 1) dq))) (dr (dv 7) fo))))))))
  eQ)
  (du (qS 8 jv.nd (eS (dv 3) (qC eO hr (a2 (dv 0) (yd T (dv 3))))))
  (du (fA (PW.pt (kj (qLt (dv 6) dq) (kj (qGt (yd T (dv 4)) dq) (iP (qGt (yd T (dv 5)) dq)))))
  (du (qS 9 jv.nd (eS (dv 3) (qC eO hr (a2 (dv 0) (yd T (dv 3))))))
  (du (qS 10 jv.nd (eS (dv 5) (qC eO hr (a2 (dv 0) (yd T (dv 5))))))
  (dD (dY (fW (dr dE (dr (eS (dv 4) (qC eO hr (a2 (dv 0) (yd T (dv 4))))) (dr (dv 8) (dr (dv 9) (dr (dv 10) fo))))))))))
  eQ)
  (du (fA (PW.pt (kj (ma (dv 6) dq) (iP (ma (eS (jl (fE hr) (eS (dv 1) dq) (dv 8) (fun _ _=>rfl)) dq) dE))))
  (dD (dY (fW (a3 dE (dv 8) (qC eO hr (a2 (dv 0) dq))))))
  eQ)
  (du (qS 11 jv.nd (qC C_lone hr (a1 (eS (dv 1) dq))))
  (du (fA (PW.pt (kj (ma (dv 6) dq) (iP (qGt (yd T (dv 11)) dq))))
  (dD (dY (fW (a2 dE (eS (dv 11) (qC eO hr (a2 (dv 0) (yd T (dv 11)))))))))
  eQ)
  (du (fA (PW.pt (kj (qGt (dv 6) dq) (iP (qGt (eS (dv 1) dq) dq))))
  (dD (dY (fW (a2 (eS (iM false (a2 dE dE)) (qC eO hr (a2 (dv 0) dq))) (oR dq (qC eO hr (a2 (dv 0) (dMi (eS (dv 1) dq) dq))))))))
  eQ)
  (dD (dY (fW (dr dE (dr (dv 8) (dr (qC eO hr (a2 (dv 0) (eS (dv 1) dq))) (dr (eS dE (qC eO hr (a2 (dv 0) dq))) fo)))))))))))))))))),fun ds μ Kd hm hl h=>?_⟩)
 obtain⟨k,x,y,rfl⟩:=B2 h
 unfold Ck at h
 ·skip
  obtain⟨hb,S,m,fg,rfl,rfl,wf,hp,kk⟩:=h
  have iT:=wf.iT
  have n1:=wf.n1
  have n2:=wf.n2
  have pl:=hp.2.1
  have eN:(S.dj.map fun p=>eB p.1).map nR=S.dj.map fun p=>D.str p.1:=aG
  have fl:(jT S fg).length<=50:=az (bG _ _) pl
  have ol:(oE S).length<=40:=by
   unfold oE
   refine az (bG _ _) ?_
   rw[fF,gxJ];omega
  have ll:(qv S.dj).length<=20:=by
   unfold qv
   refine az (bG _ _) ?_
   rw[fF];exact iT
  refine sC (d:=.lst (S.dj.map fun p=>D.str p.1)) (μ':=μ) (fun K k=>by rw[<- eN]at k;exact k) ?_
  refine⟨sz (by rw[fF];omega),?_⟩
  refine iJ trivial D.str (fun z=>if(!(dJ S.dj z).isSome&&decide (S.dj.length<20))=true then some (D.str z)else none) (fun z hz K' k'=>?_) ?_
  ·refine⟨_,gQ dR kq z S.dj rfl,?_⟩
   cases e:dJ S.dj z with
   | some y=>rw[e]at k';exact k'
   | none =>
    rw[e]at k'
    refine mT (c:=(((S.dj.map fun p=>D.str p.1).length:Nat):Int)<20) (fun q=>?_) (fun q=>?_)
    ·rw[fF]at q
     rw[ak (show S.dj.length<20 by omega)]at k';exact k'
    ·rw[fF]at q
     rw[au (show ¬ S.dj.length<20 by omega)]at k';exact k'
  rw[fresh_map]
  refine⟨S,m,rfl,wf,hb,by decide,by decide,fun way w0 w1=>?_⟩
  dsimp only
  refine eZ (decide ((0:Int)<(((jT S fg).map D.str).length:Nat))&&((false != decide ((((S.dj.map fun p=>D.str p.1).length:Nat):Int)=0))||decide (way<3))) ?_ (fun q=>?_) (fun q=>?_)
  ·exact(.and (.iu fun K k=>k) fun _=>.or (.iu fun K k=>k) fun _=>.iu fun K k=>k)
  ·have f0:0<(jT S fg).length:=by
    simp only[aO,bc,fF]at q
    omega
   refine⟨zs,hb,by decide,by decide,fun t t0 t1=>?_⟩
   obtain rfl | rfl:t=0\/t=1:=by omega
   all_goals
    refine⟨hb,by decide,by decide,fun a a0 a1=>⟨hb,by rw[fF];omega,by rw[fF];omega,fun i i0 i1=>?_⟩⟩
    obtain⟨z,hz,e⟩:=jH (g:=D.str) (xs:=jT S fg) i0 (by rw[fF]at i1;exact i1)
    obtain⟨z1,z2⟩:=yF hp hz
    refine dn e ⟨hb,n1,by omega,fun l hl ho=>⟨zs,.keep (kk (.put z (txt l) a) (ref_put z1 (by omega) ho a0 (by omega)) ⟨by omega,by rw[lM];omega⟩)⟩⟩
  have kne:0<S.dj.length:=by
   rcases Nat.eq_zero_or_pos S.dj.length with z | z
   ·have:=fresh_any hp (List.length_eq_zero_iff.mp z)
    rw[ak (show(0:Int)<(((jT S fg).map D.str).length:Nat) by rw[fF];omega),ak (show(((S.dj.map fun p=>D.str p.1).length:Nat):Int)=0 by rw[fF];omega)]at q
    cases q
   ·exact z
  refine⟨hb,by rw[fF];omega,by rw[fF];omega,fun i i0 i1=>?_⟩
  obtain⟨⟨z8,y8⟩,hp8,e8⟩:=jH (g:=fun p:Str×Pt=>D.str p.1) (xs:=S.dj) i0 (by rw[fF]at i1;exact i1)
  refine dn e8 ?_
  dsimp only
  refine eZ (decide (way<7)&&(decide ((0:Int)<(((jT S fg).map D.str).length:Nat))&&decide ((0:Int)<(((oE S).map D.int).length:Nat)))) ?_ (fun q=>?_) (fun q=>?_)
  ·exact(.and (.iu fun K k=>k) fun _=>.and (.iu fun K k=>k) fun _=>.iu fun K k=>k)
  ·simp only[aO,bc,fF]at q
   refine⟨hb,by rw[fF];omega,by rw[fF];omega,fun i i0 i1=>?_⟩
   obtain⟨p9,hp9,e9⟩:=jH (g:=fun p:Str×Pt=>D.str p.1) (xs:=S.dj) i0 (by rw[fF]at i1;exact i1)
   refine dn e9 ⟨hb,by rw[fF];omega,by rw[fF];omega,fun i i0 i1=>?_⟩
   obtain⟨pl,kO,e10⟩:=jH (g:=D.int) (xs:=oE S) i0 (by rw[fF]at i1;exact i1)
   refine dn e10 ⟨hb,by rw[fF];omega,by rw[fF];omega,fun i i0 i1=>?_⟩
   obtain⟨z,hz,e⟩:=jH (g:=D.str) (xs:=jT S fg) i0 (by rw[fF]at i1;exact i1)
   obtain⟨z1,z2⟩:=yF hp hz
   exact dn e ⟨zs,.keep (kk (.join z z8 p9.1 pl) (ref_join z1 hp8 hp9 kO) (show z.length<=1000 by omega))⟩
  have a8:dJ S.dj z8=some y8:=gB wf.kp.nd hp8
  have eg:ixF (S.dj.map fun p=>eB p.1) (S.dj.map fun p=>kq p.2) (.str z8)=some (some (kq y8)):=by rw[gQ dR kq z8 S.dj rfl,a8];rfl
  refine fZ ?_
  dsimp only
  refine eZ ((false != decide (way=9))&&isFst y8) ?_ (fun q=>?_) (fun q=>?_)
  ·exact(.and (.iu fun K k=>k) fun _=>.iu fun K k=>by cases y8 <;> exact⟨_,eg,k⟩)
  ·cases y8 with
   | jn _ _ _=>rw[show isFst (.jn _ _ _)=false from rfl,Bool.and_false]at q;cases q
   | fst b a0 =>
    refine⟨hb,by decide,by decide,fun a a0' a1=>⟨zs,.keep (kk (.kR z8 a) ?_ trivial)⟩⟩
    show(match dJ S.dj z8 with | none=>some 11 | some (.jn _ _ _)=>some 13 | some (.fst _ _)=>jL a)=none
    rw[a8]
    exact age_ok a0' (by omega)
  refine⟨S,m,rfl,wf,?_⟩
  dsimp only
  refine eZ ((false != decide (way=10))&&decide ((0:Int)<(((qv S.dj).map D.str).length:Nat))) ?_ (fun q=>?_) (fun q=>?_)
  ·exact(.and (.iu fun K k=>k) fun _=>.iu fun K k=>k)
  ·have l0:0<(qv S.dj).length:=by
    have:=(Bool.and_eq_true_iff.mp q).2
    simp only[bc,fF]at this
    omega
   refine⟨hb,by rw[fF];omega,by rw[fF];omega,fun i i0 i1=>?_⟩
   obtain⟨z,hz,e⟩:=jH (g:=D.str) (xs:=qv S.dj) i0 (by rw[fF]at i1;exact i1)
   exact dn e ⟨zs,.keep (kk (.drop z) (ref_drop hz) trivial)⟩
  refine fZ ?_
  dsimp only
  refine eZ (decide (10<way)&&decide (1<S.n)) ?_ (fun q=>?_) (fun q=>?_)
  ·exact(.and (.iu fun K k=>k) fun _=>.iu fun K k=>k)
  ·simp only[aO,bc]at q
   refine⟨zs,hb,by decide,by decide,fun t t0 t1=>?_⟩
   obtain rfl | rfl:t=0\/t=1:=by omega
   ·exact⟨hb,by omega,by omega,fun p p0 p1=>⟨zs,.keep (kk (.free (1+p)) (wj (by omega) (by omega)) trivial)⟩⟩
   ·exact⟨hb,by omega,by omega,fun p p0 p1=>⟨zs,.keep (kk (.fe (1+p)) (wj (by omega) (by omega)) trivial)⟩⟩
  refine⟨hb,by omega,by omega,fun bar b0 b1=>⟨hb,by decide,by decide,fun t t0 t1=>⟨by decide,?_⟩⟩⟩
  obtain rfl | rfl:t=0\/t=1:=by omega
  ·exact⟨zs,.keep (kk (.found z8 bar ⟨#[111]⟩) (yp hp8 b0 b1 (.inl rfl)) trivial)⟩
  ·exact⟨zs,.keep (kk (.found z8 bar ⟨#[120]⟩) (yp hp8 b0 b1 (.inr rfl)) trivial)⟩
set_option maxHeartbeats 8000000 in
def ok_stands {f:Addr}{fd:ag}(F:gL K "_law_stands" "_law_stands" rD f fd)(T:ir mg)(dF:hZ K dN)(jJ:Et P w K mg dh)(Dj:uH P w K mg dh)(A6:sH P w K mg dh)(C_takes:c_takes P w K mg dh)(A4:sF P w K mg dh)(Dp:uM P w K mg dh)(EM:Eu P w K mg dh)(A5:sG P w K mg dh)(Dq:uN P w K mg dh)(ER:xo P w K mg dh)(yh:qA P w K mg dh)(pV:sE P w K mg dh):eF P w K mg dh jM 7 f fd ["_law_room", "_law_state"] (gO (vo dN dt)):=by
 refine F.oJ jh (fun ds μ Kd h=>by unfold vo at h;split at h <;> first | rfl | exact h.elim) (fun fR A dA s H E hr=>⟨_,(du (qS 2 jh.nd (CA (FA rfl) (rj (m:=false)) (by rfl) T.list bj (a1 (eS (dv 1) dq))))
  (du (fA (PW.pt (nk (lg (gJ (qC jJ hr (a2 (gw Dj dF.cl hr.le (dv 0)) (eS (dv 1) dq))))) (jN (lg (gJ (qC jJ hr (a2 (gw A6 dF.cl hr.le (dv 0)) (dv 2))))))))
  (dD (dY tS))
  eQ)
  (du (qS 3 jh.nd (qC C_takes hr (a1 (dv 1))))
  (du (fA (PW.pt (nk (lg (gJ (qC jJ hr (a2 (gw A4 dF.cl hr.le (dv 0)) (dv 3))))) (jN (lg (gJ (qC jJ hr (a2 (gw Dp dF.cl hr.le (dv 0)) (qC EM hr (a1 (dv 1))))))))))
  (dD (dY tS))
  eQ)
  (du (ud bN rfl (iX rfl T.range (a1 (yd T (dv 2)))) (qT 4 jh.nd)
  (du (qS 5 jh.nd (jl (fE hr) (eS (dv 1) dq) (eS (dv 2) (dv 4)) (fun _ _=>rfl)))
  (du (qS 6 jh.nd (xi (ma (eS (dv 5) dq) dE) (pJ (dv 5) (iQ dq) rO) d_non))
  (du (qS 7 jh.nd (sy A5 dF.cl hr.le (dv 0) (a1 (eS (dv 2) (dv 4)))))
  (du (fA (PW.pt (nk (PW.pt (kj (t_isN (dv 6)) (iP (yX (dv 7))))) (jN (PW.pt (kj (yX (dv 6)) (iP (lg (gJ (qC jJ hr (a2 (dv 7) (dv 6)))))))))))
  (dD (dY tS))
  eQ)
  (du (fA (lg (gJ (qC jJ hr (a2 (fW (a2 (sy Dq dF.cl hr.le (dv 0) (a1 (eS (dv 2) (dv 4)))) (sy ER dF.cl hr.le (dv 0) (a1 (eS (dv 2) (dv 4)))))) (eS (dv 3) (dv 4))))))
  (dD (dY tS))
  eQ)
  (dD (ud bN rfl (iX rfl T.range (a1 (eS (dv 1) dq))) (qT 8 jh.nd)
  (dD (fA (lg (gJ (qC jJ hr (a2 (sy yh dF.cl hr.le (dv 0) (a2 (eS (dv 2) (dv 4)) (dv 8))) (qC pV hr (a3 (eS (dv 1) dq) (eS (dv 2) (dv 4)) (dv 8)))))))
  (dD (dY tS))
  eQ))))))))))
  (dD (dY tS))))))),fun ds μ Kd hm hl h=>?_⟩)
 unfold vo at h
 split at h
 ·rename_i k x
  obtain⟨⟨m0,em⟩,j1,j2,ss,rs,d,S,ra,es,rfl,kk⟩:=h
  obtain⟨S',vz,wf⟩:=ra.now
  rw[es]at vz
  cases vz
  have iT:=wf.iT
  have n1:=wf.n1
  have n2:=wf.n2
  have eN:(S.dj.map fun p=>eB p.1).map nR=S.dj.map fun p=>D.str p.1:=aG
  have ol:(oE S).length<=40:=by
   unfold oE
   refine az (bG _ _) ?_
   rw[fF,gxJ];omega
  have tl:(my S).length=S.dj.length:=by unfold my;rw[fF]
  have rc:∀ nm:Str,mn nm zJ [.mr j1,.mr j2,.int (d:Int)]=none->ue dN nm μ (.mr k):=fun nm hn=>by show(lJ _ _ _).map _=_;rw[fT ra.ins];exact bL some hn
  have smN:oA 5 (.lst (S.dj.map fun p=>D.str p.1)):=vQ (by rw[fF];omega) fun d hd=>by obtain⟨q,_,rfl⟩:=List.mem_map.mp hd;exact jd
  have smT:oA 5 (tN S):=sm_tks (by omega)
  have smC:oA 5 (FH S):=sm_ints (by omega)
  refine sC (d:=.lst (S.dj.map fun p=>D.str p.1)) (μ':=μ) (fun K k=>by rw[<- eN]at k;exact k) ?_
  dsimp only
  refine eZ false ?_ (fun q=>by cases q) (fun _=>?_)
  ·exact .to (.or (x:=!true) (y:=!true) (.not (x:=true) (.iu fun K k=>⟨rc _ rfl,j1,j2,ss,rs,d,S,ra,es,_,rfl,rfl,ku,k⟩)) fun _=>.not (x:=true) (.iu fun K k=>⟨rc _ rfl,j1,j2,ss,rs,d,S,ra,es,_,rfl,rfl,smN,k⟩)) rfl
  refine fZ ?_
  refine⟨S,d,rfl,wf,?_⟩
  dsimp only
  refine eZ false ?_ (fun q=>by cases q) (fun _=>?_)
  ·exact .to (.or (x:=!true) (y:=!true) (.not (x:=true) (.iu fun K k=>⟨rc _ rfl,j1,j2,ss,rs,d,S,ra,es,_,rfl,rfl,smT,k⟩)) fun _=>.not (x:=true) (.iu fun K k=>⟨rc _ rfl,j1,j2,ss,rs,d,S,ra,es,S,d,rfl,wf,_,rfl,rfl,smC,k⟩)) rfl
  refine fZ ?_
  refine⟨by rw[fF];omega,by rw[fF];omega,?_⟩
  rw[fF,gxK]
  refine jD (fun ds ρ μ'=>∃(a b:Nat) (v4 v5 v6 v7 v8:Option D),ds=kN a b/\a+b=S.dj.length/\ρ=[some (.mr k),some (rl S),some (.lst (S.dj.map fun p=>D.str p.1)),some (tN S),v4,v5,v6,v7,v8]/\μ'=μ) ⟨0,S.dj.length,none,none,none,none,none,rfl,by omega,rfl,rfl⟩ ?_ ?_
  ·rintro d' ds' ρ μ' ⟨i,b,v4,v5,v6,v7,v8,e1,hib,rfl,hμ⟩
   subst hμ
   refine⟨trivial,fun nx Ed=>?_⟩
   cases b with
   | zero=>cases e1
   | succ b =>
    rw[kW]at e1
    cases e1
    have hi:i<S.dj.length:=by omega
    obtain⟨⟨z,y⟩,hz⟩:∃ p,S.dj[i]?=some p:=⟨_,ux hi⟩
    have e:qV (S.dj.map fun p=>D.str p.1) (i:Int)=some (.str z):=sM hz
    have ez:dJ S.dj z=some y:=gB wf.kp.nd (Ak hz)
    have eg:ixF (S.dj.map fun p=>eB p.1) (S.dj.map fun p=>kq p.2) (.str z)=some (some (kq y)):=by rw[gQ dR kq z S.dj rfl,ez];rfl
    have gp:wR S z=mO y:=by unfold wR;rw[ez]
    have et:qV ((my S).map jq) (i:Int)=some (jq (fO S.dj z)):=sM (by unfold my;rw[uw,hz];rfl)
    refine dn e ⟨_,eg,?_⟩
    dsimp only
    refine sC (d:=mO y) (μ':=μ') (fun K k=>?_) ?_
    ·cases y with
     | fst b a=>exact k
     | jn l r p=>exact⟨(show ¬ (HT.ib 4 0 (some 1)=0/\HT.ib 4 4 none=4) by decide),k⟩
    refine⟨rc _ rfl,dn e ⟨trivial,⟨m0,em⟩,j1,j2,ss,rs,d,S,ra,es,?_⟩⟩
    rw[ez]
    dsimp only
    rw[gp]
    refine eZ false ?_ (fun q=>by cases q) (fun _=>?_)
    ·cases y with
     | fst b a=>exact .to (.or (x:=true&&false) (y:=false&&false) (.and (x:=true) (y:=false) (.iu fun K k=>k) fun _=>.iu fun K k=>k) fun _=>.and (x:=false) (y:=false) (.iu fun K k=>k) (fun q=>nomatch q)) rfl
     | jn l r p=>exact .to (.or (x:=false&&false) (y:=true&&!true) (.and (x:=false) (y:=false) (.iu fun K k=>k) (fun q=>nomatch q)) fun _=>.and (x:=true) (y:=!true) (.iu fun K k=>k) fun _=>.not (x:=true) (.iu fun K k=>⟨_,rfl,rfl,tf (by show 3<=100000;decide) (fun d hd=>by simp only[bH,br,cI]at hd;rcases hd with rfl | rfl | rfl;exact jd;exact jd;exact ku),k⟩)) rfl
    refine fZ ?_
    dsimp only
    refine eZ false ?_ (fun q=>by cases q) (fun _=>?_)
    ·refine .to (.not (x:=true) (.iu fun K k=>?_)) rfl
     refine⟨rc _ rfl,dn e ⟨trivial,⟨m0,em⟩,j1,j2,ss,rs,d,S,ra,es,?_⟩⟩
     rw[ez]
     refine⟨rc _ rfl,dn e ⟨trivial,⟨m0,em⟩,j1,j2,ss,rs,d,S,ra,es,?_⟩⟩
     rw[ez]
     exact⟨zs,dn et ⟨_,rfl,rfl,sm_tk _,k⟩⟩
    refine fZ ?_
    refine⟨by omega,by omega,?_⟩
    refine jD (fun ds ρ fw=>∃(a b:Nat) (v8:Option D),ds=kN a b/\a+b=S.n.toNat/\ρ=[some (.mr k),some (rl S),some (.lst (S.dj.map fun p=>D.str p.1)),some (tN S),some (.int i),some (kq y),some (mO y),some (mO y),v8]/\fw=μ') ⟨0,S.n.toNat,_,rfl,by omega,rfl,rfl⟩ ?_ ?_
    ·rintro d' ds' ρ fw ⟨a,b',v8',e1,hab,rfl,hμ⟩
     subst hμ
     refine⟨trivial,fun nx2 hnx2=>?_⟩
     cases b' with
     | zero=>cases e1
     | succ b' =>
      rw[kW]at e1
      cases e1
      refine eZ false ?_ (fun q=>by cases q) (fun _=>?_)
      ·refine .to (.not (x:=true) (.iu fun K k=>?_)) rfl
       refine⟨rc _ rfl,dn e ⟨trivial,⟨m0,em⟩,j1,j2,ss,rs,d,S,ra,es,?_⟩⟩
       rw[ez]
       dsimp only
       rw[aj (show(0:Int)<=(a:Int)/\(a:Int)<S.n from⟨by omega,by omega⟩)]
       exact dn e ⟨S.dj,y,rfl,wf.kp,ez,_,rfl,rfl,tf (by show 2<=100000;decide) (fun d hd=>by simp only[bH,br,cI]at hd;rcases hd with rfl | rfl;exact jd;exact ku),k⟩
      exact hnx2 _ _ ⟨a+1,b',_,by rw[cY];rfl,by omega,rfl,rfl⟩
    ·rintro ρ fw ⟨a,b',v8',e1,hab,rfl,hμ⟩
     subst hμ
     exact⟨trivial,Ed _ _ ⟨i+1,b,_,_,_,_,_,by rw[cY];rfl,by omega,rfl,rfl⟩⟩
  ·rintro ρ μ' ⟨i,b,v4,v5,v6,v7,v8,e1,hib,rfl,hμ⟩
   subst hμ
   exact⟨trivial,.keep kk⟩
 ·exact h.elim
def ok_kinds {f:Addr}{fd:ag}(F:gL K "_law_kinds" "_law_kinds" vc f fd)(T:ir mg)(TV:mg "ValueError"=none)(iK:OwnCls "BadBars" pR nh "ValueError.__new__" mg dh)(tY:OwnCls "BadMake" xq nh "ValueError.__new__" mg dh)(pU:OwnCls "BadNumber" qU nh "ValueError.__new__" mg dh)(tX:OwnCls "BadText" xp nh "ValueError.__new__" mg dh)(k8:OwnCls "BadName" pQ nh "ValueError.__new__" mg dh)(nc:OwnCls "BadAge" vE nh "ValueError.__new__" mg dh)(m9:OwnCls "BadBar" vD nh "ValueError.__new__" mg dh)(jW:OwnCls "BadPlace" qi nh "ValueError.__new__" mg dh)(k7:OwnCls "BadSize" sL nh "ValueError.__new__" mg dh)(qk:OwnCls "Taken" AN nh "ValueError.__new__" mg dh)(tW:OwnCls "Full" cFull nh "ValueError.__new__" mg dh)(m6:OwnCls "NoTake" vA nh "ValueError.__new__" mg dh)(tV:OwnCls "Shut" cShut nh "ValueError.__new__" mg dh)(m8:OwnCls "Joined" vC nh "ValueError.__new__" mg dh)(m7:OwnCls "Needed" vB nh "ValueError.__new__" mg dh)(mK:OwnCls "NothingLeft" oj nh "ValueError.__new__" mg dh)(AW:OwnB "NoWay" Ew mg):FnOkH P w K mg dh 1 f fd ["_law_e"] (sq K ij gF):=by
 refine F.okH ju (fun ds μ Kd h=>Cj h) (fun fR A dA s H hr eG kx e hk hh=>⟨_,(du (qS 1 ju.nd (iM false (dr (iE (by rfl) T.isinstance (by rfl) iK.bound (dv 0)) (dr (iE (by rfl) T.isinstance (by rfl) tY.bound (dv 0)) (dr (iE (by rfl) T.isinstance (by rfl) pU.bound (dv 0)) (dr (iE (by rfl) T.isinstance (by rfl) tX.bound (dv 0)) fo))))))
  (du (qS 1 ju.nd (oR (dv 1) (iM false (dr (iE (by rfl) T.isinstance (by rfl) k8.bound (dv 0)) (dr (iE (by rfl) T.isinstance (by rfl) nc.bound (dv 0)) (dr (iE (by rfl) T.isinstance (by rfl) m9.bound (dv 0)) (dr (iE (by rfl) T.isinstance (by rfl) jW.bound (dv 0)) fo)))))))
  (du (qS 1 ju.nd (oR (dv 1) (iM false (dr (iE (by rfl) T.isinstance (by rfl) k7.bound (dv 0)) (dr (iE (by rfl) T.isinstance (by rfl) qk.bound (dv 0)) (dr (iE (by rfl) T.isinstance (by rfl) tW.bound (dv 0)) (dr (iE (by rfl) T.isinstance (by rfl) m6.bound (dv 0)) fo)))))))
  (du (qS 1 ju.nd (oR (dv 1) (iM false (dr (iE (by rfl) T.isinstance (by rfl) tV.bound (dv 0)) (dr (iE (by rfl) T.isinstance (by rfl) m8.bound (dv 0)) (dr (iE (by rfl) T.isinstance (by rfl) m7.bound (dv 0)) (dr (iE (by rfl) T.isinstance (by rfl) mK.bound (dv 0)) fo)))))))
  (du (qS 1 ju.nd (oR (dv 1) (iM false (a2 (iE (by rfl) T.isinstance (by rfl) AW.bound (dv 0)) (d_not (d_isiV (by rfl) T.isinstance (by rfl) TV PyProof.Rows.Boot.«ValueError» (dv 0)))))))
  (du (qS 2 ju.nd (iM false (dr dE (dr dE (dr dE (dr dE (dr dE (dr dE (dr dE (dr dE (dr dE fo)))))))))))
  (du (qS 2 ju.nd (oR (dv 2) (iM false (dr dE (dr dE (dr dE (dr dE (dr dE (dr dE (dr dE (dr dE (dr dE fo))))))))))))
  (dD (dY (d_compH false (Bb (N:=["_law_k", "_law_words", "_law_found"]) (js:=[none,some 2,some 1]) ju (by decide +kernel)) hh (dQ 0) (dk 0) rfl (i_rangeH (H0:=H) hk rfl T.range (a1 dq)) (fun _ _ _=>(qN 0 (show List.Nodup (["_law_k", "_law_words", "_law_found"]:List Str) by decide +kernel))) (fun _ _ _=>(sV (gJ (eS (dv 2) (dv 0))))) (fun _ _ _=>(eS (dv 1) (dv 0))))))))))))),fun ds μ m Kd hm hl em hc h=>?_⟩)
 unfold sq at h
 split at h
 ·rename_i k
  obtain⟨_,hk1,j,hj,hx,KB,kk⟩:=h
  have Ba:(μ.set 0 (MO.gx eG H))[k]?=some (.exc (.ref (ij.getD j 0))):=by rw[av (bf hk1)];exact hx
  refine⟨_,_,Ba,KB.ef,KB.at_ 0 (by decide),_,_,Ba,KB.ef,KB.at_ 1 (by decide),_,_,Ba,KB.ef,KB.at_ 2 (by decide),_,_,Ba,KB.ef,KB.at_ 3 (by decide),zs,?_⟩
  refine⟨_,_,Ba,KB.ef,KB.at_ 4 (by decide),_,_,Ba,KB.ef,KB.at_ 5 (by decide),_,_,Ba,KB.ef,KB.at_ 6 (by decide),_,_,Ba,KB.ef,KB.at_ 7 (by decide),zs,dn rfl (dn rfl ⟨zs,?_⟩)⟩
  refine⟨_,_,Ba,KB.ef,KB.at_ 8 (by decide),_,_,Ba,KB.ef,KB.at_ 9 (by decide),_,_,Ba,KB.ef,KB.at_ 10 (by decide),_,_,Ba,KB.ef,KB.at_ 11 (by decide),zs,dn rfl (dn rfl ⟨zs,?_⟩)⟩
  refine⟨_,_,Ba,KB.ef,KB.at_ 12 (by decide),_,_,Ba,KB.ef,KB.at_ 13 (by decide),_,_,Ba,KB.ef,KB.at_ 14 (by decide),_,_,Ba,KB.ef,KB.at_ 15 (by decide),zs,dn rfl (dn rfl ⟨zs,?_⟩)⟩
  refine⟨_,_,Ba,KB.ef,KB.at_ 16 (by decide),_,_,Ba,KB.ef,KB.kv,zs,dn rfl (dn rfl ⟨zs,?_⟩)⟩
  refine⟨zs,zs,dn rfl (dn rfl ⟨zs,?_⟩)⟩
  refine⟨by decide,by decide,zs,?_⟩
  refine CF hj hc (fun i K' hi h1 h2 k1 k2=>?_) (.keep (jk em kk))
  rw[Int.zero_add]
  refine dn (v:=D.bl (decide (i=j))) (kQ h1) ?_
  show(if decide (i=j)=true then _ else _)
  by_cases q:i=j
  ·rw[aj (ak q)]
   refine dn (v:=D.str (mD.getD i "")) (kQ ?_) (k1 q)
   have:=bL (Option.map D.str) h2
   rw[<- uw]at this
   exact this
  ·rw[ai (by simpa using q)]
   exact k2 q
 ·exact h.elim
def ok_told {f:Addr}{fd:ag}(F:gL K "_law_told" "_law_told" zr f fd)(T:ir mg)(dF:hZ K dN)(jo:OwnCls "HissError" gF nh "ValueError.__new__" mg dh)(fm:gR P w K mg dh)(A3:AM P w K mg dh):eF P w K mg dh jM 9 f fd ["_law_room", "_law_deed"] (gO (pD K ij gF dN dt)):=by
 refine F.oJ zc (fun ds μ Kd h=>by unfold pD at h;split at h <;> first | rfl | exact h.elim) (fun fR A dA s H E hr=>⟨_,(du (s_try rfl rfl rfl zc.nd (i:=3) rfl rfl rfl jo.bound (fun pn xe eG H0 Kx Zt=>(dD (qS 2 zc.nd (fq Zt fm dF.cl hr.le (dv 0) (a1 (dv 1))))))
  (fun pn e eM H1 kx hk hk0=>(dD (dY (fW (a2 dE (Gb (H0:=H1) hk hk0 rfl A3 (roomM hr.le) rfl (a1 (dv 3)))))))))
  (dD (dY (fW (a2 dE (d_isN (dv 2))))))),fun ds μ Kd hm hl h=>?_⟩)
 unfold pD at h
 split at h
 ·rename_i k y
  obtain⟨⟨m,em⟩,KA,j1,j2,ss,rs,d,S,e,ra,es,rfl,eE,iT,kk⟩:=h
  have h0:0<μ.length:=(lK em).1
  refine⟨m,em,fun eG H0=>?_⟩
  have rg:=ra.gx (m:=.gx eG H0)
  refine⟨fP rg rfl,dZ em,⟨_,dZ em⟩,j1,j2,ss,rs,d,S,e,rg,es,rfl,eE,iT,?_⟩
  cases er:ik S e with
  | none =>
   rw[er]at kk
   obtain⟨g1,g2⟩:=jA ra (m:=.gx eG H0) (ss':=ss.take (d+1)++[mF S e]) (rs':=rs.take d++[e]) (d':=d+1) em
   refine⟨g2,?_⟩
   rw[g1]
   exact⟨zs,.keep kk⟩
  | some i =>
   rw[er]at kk
   have KB:=KA i (rJ er)
   refine⟨dZ em,?_⟩
   rw[nU em]
   refine⟨ij.getD i 0,rfl,KB.sub,fun eM H1=>?_⟩
   have FQ:(μ++[MO.exc (.ref (ij.getD i 0))])[0]?=some m:=by rw[uU h0];exact em
   have ex2:((μ++[MO.exc (.ref (ij.getD i 0))]).set 0 (.gx eM H1))[μ.length]?=some (.exc (.ref (ij.getD i 0))):=by
    rw[av (by omega),qx (ah _),aT];rfl
   refine⟨⟨dZ FQ,_,ex2⟩,⟨_,dZ FQ⟩,by omega,i,by have:=rJ er;omega,ex2,KB,zs,dZ FQ,?_⟩
   rw[nU FQ]
   refine .drop ?_ (gH hm) ?_
   ·exact⟨trivial,⟨trivial,trivial⟩,trivial⟩
   ·rw[aV];exact kk
 ·exact h.elim
def ok_named {f:Addr}{fd:ag}(F:gL K "_law_named" "_law_named" u9 f fd)(T:ir mg)  : eF P w K mg dh jM 1 f fd ["_law_text"] (gO vt):=by
 refine F.oJ Bp (fun ds μ Kd h=>by unfold vt at h;split at h <;> first | rfl | exact h.elim) (fun fR A dA s H E hr=>⟨_,(dD (dY (CC (uz leC sZ dq (yd T (dv 0)) (gU _)) (CC (uz leC sZ (yd T (dv 0)) dq (gU _)) (FZ (qz (allC rfl) y4 (by rfl) T.all PyProof.Rows.boot_all (a1 (dC1 false (Bb (N:=["_law_sign"]) (js:=[none]) Bp (by decide +kernel)) (i_str (dv 0)) (fun _ _ _ nd=>(qN 0 nd)) (fun _ _ _=>kr) (fun _ _ _=>(uz inC so_in (dv 0) dE (by with_unfolding_all rfl))))))))))),fun ds μ Kd hm hl h=>?_⟩)
 unfold vt at h
 split at h
 ·rename_i z
  obtain⟨hz,kk⟩:=h
  have sl:z.length<=sizeLine:=sz (by omega)
  refine⟨sl,mT (c:=(1:Int)<=((z.length:Nat):Int)) (fun q1=>⟨sl,mT (c:=((z.length:Nat):Int)<=8) (fun q2=>?_) (fun q2=>?_)⟩) (fun q1=>?_)⟩
  ·refine⟨by rw[fF];exact sl,?_⟩
   refine qh trivial (fun c:Nat=>D.str ⟨#[c]⟩) (fun c=>D.bl (decide (97<=c)&&decide (c<=122))) (fun c _ K' k'=>⟨c,rfl,?_⟩) ?_
   ·show K' (some (D.bl (false != decide (c∈abcT.cps.toList)))) μ
    rw[abc_mem,Bool.false_bne];exact k'
   ·refine⟨z.cps.toList.map fun c=>decide (97<=c)&&decide (c<=122),by rw[aG];rfl,?_⟩
    have eb:((z.cps.toList.map fun c=>decide (97<=c)&&decide (c<=122)).all id)=fY z:=by rw[BR (by omega) (by omega),List.all_map];rfl
    show Fz _ Kd (.bl (List.all _ id)) μ
    rw[eb]
    exact .keep kk
  ·have:fY z=false:=by unfold fY;rw[au (show ¬ z.length<=8 by omega),Bool.and_false];rfl
   rw[this]at kk
   exact .keep kk
  ·have:fY z=false:=by unfold fY;rw[au (show ¬ 1<=z.length by omega)];rfl
   rw[this]at kk
   exact .keep kk
 ·exact h.elim
def BI {f:Addr}{fd:ag}(F:gL K "_law_new_word" "_law_new_word" nH f fd)(T:ir mg)(C_named:c_named P w K mg dh):eF P w K mg dh jM 2 f fd ["_law_state", "_law_name"] (gO si):=by
 refine F.oJ Bo (fun ds μ Kd h=>by unfold si at h;split at h <;> first | rfl | exact h.elim) (fun fR A dA s H E hr=>⟨_,(du (fA (lg (gJ (qC C_named hr (a1 (dv 1)))))
  (dD (dY dE))
  eQ)
  (du (fA (Bi (fE hr) (dv 1) (eS (dv 0) dq) (by with_unfolding_all rfl))
  (dD (dY dE))
  eQ)
  (dD (dY (xi (qGe (qz lenD E8 (by rfl) T.len cJ (a1 (eS (dv 0) dq))) dq) dE dE))))),fun ds μ Kd hm hl h=>?_⟩)
 unfold si at h
 split at h
 ·rename_i x z
  obtain⟨hz,S,m,rfl,wf,kk⟩:=h
  unfold iV at kk
  refine eZ (!fY z) (.not (.iu fun K k=>⟨hz,k⟩)) (fun q=>?_) (fun q=>?_)
  ·rw[aj (by simpa using q)]at kk;exact .keep kk
  rw[ai (by simpa using q)]at kk
  refine fZ ?_
  dsimp only
  refine eZ (false != (dJ S.dj z).isSome) (.iu fun K k=>dn rfl ⟨_,gQ dR kq z S.dj rfl,by rw[bA];exact k⟩) (fun q=>?_) (fun q=>?_)
  ·rw[aj (by unfold gu;simpa using q)]at kk;exact .keep kk
  rw[ai (by unfold gu;simpa using q)]at kk
  refine fZ ?_
  dsimp only
  refine n4 (decide ((20:Int)<=((S.dj.map fun p=>eB p.1).length:Nat))) (.iu fun K k=>dn rfl (dn rfl k)) (fun q=>?_) (fun q=>?_)
  ·have q:=cF q;rw[fF]at q;rw[aj (by omega)]at kk;exact .keep kk
  ·have q:=of_decide_eq_false q;rw[fF]at q;rw[ai (by omega)]at kk;exact .keep kk
 ·exact h.elim
def xU {f:Addr}{fd:ag}(F:gL K "_law_place_word" "_law_place_word" kG f fd)(T:ir mg)  : eF P w K mg dh jM 1 f fd ["_law_state", "_law_place"] (gO nY):=by
 refine F.oJ xO (fun ds μ Kd h=>by unfold nY at h;split at h <;> first | rfl | exact h.elim) (fun fR A dA s H E hr=>⟨_,(dD (dY (xi (PW.pt (kj (qLe dq (dv 1)) (iP (qLt (dv 1) (eS (dv 0) dq))))) dE dE))),fun ds μ Kd hm hl h=>?_⟩)
 unfold nY at h
 split at h
 ·rename_i x p
  obtain⟨S,rfl,kk⟩:=h
  unfold fS at kk
  refine n4 (decide (1<=p)&&decide (p<S.n)) (.and (.iu fun K k=>k) fun _=>.iu fun K k=>dn rfl k) (fun q=>?_) (fun q=>?_)
  ·rw[aj (by simpa using q)]at kk;exact .keep kk
  ·rw[ai (by simpa using q)]at kk;exact .keep kk
 ·exact h.elim
def BH {f:Addr}{fd:ag}(F:gL K "_law_put_word" "_law_put_word" nG f fd)(T:ir mg)(qX:qR P w K mg dh):eF P w K mg dh jM 3 f fd ["_law_state", "_law_deed"] (gO (iR w0)):=by
 refine F.oJ o8 (fun ds μ Kd h=>by unfold iR at h;split at h <;> first | rfl | exact h.elim) (fun fR A dA s H E hr=>⟨_,(du (qS 2 o8.nd (qC qX hr (a2 (dv 0) (eS (dv 1) dq))))
  (du (fA (qNe (dv 2) dE)
  (dD (dY (dv 2)))
  eQ)
  (du (fA (PW.pt (nk (qNe (yd T (eS (dv 1) dq)) (eS (dv 0) dq)) (jN (gJ (qz (anyC rfl) y4 (by rfl) T.any PyProof.Rows.boot_any (a1 (dC1 false (Bb (N:=["_law_sign"]) (js:=[none]) o8 (by decide +kernel)) (i_str (eS (dv 1) dq)) (fun _ _ _ nd=>(qN 0 nd)) (fun _ _ _=>kr) (fun _ _ _=>(uz notInC so_in (dv 0) dE (by with_unfolding_all rfl))))))))))
  (dD (dY dE))
  eQ)
  (dD (dY (xi (PW.pt (kj (qLe dq (eS (dv 1) dq)) (iP (qLe (eS (dv 1) dq) dq)))) dE dE)))))),fun ds μ Kd hm hl h=>?_⟩)
 unfold iR at h
 split at h
 ·rename_i x y
  obtain⟨S,m,d,rfl,rfl,hw,wf,eE,kk⟩:=h
  cases d <;> try cases hw
  rename_i nm b a
  obtain⟨k1,k2⟩:nm.length<=1000/\b.length<=1000:=eE
  have kk:Kd (.str (kg ((iV S nm).or (if((b.length:Nat):Int)=S.n/\A8 b=true then jL a else some 0)))) μ:=kk
  refine dn rfl ⟨k1,S,m,rfl,wf,?_⟩
  have wn:=qZ (o:=iV S nm) fun i e=>Fy e
  dsimp only
  refine eZ (true != decide (kg (iV S nm)=("" : Str))) (.iu fun K k=>k) (fun q=>?_) (fun q=>?_)
  ·rw[wn]at q
   cases e:iV S nm with
   | none=>rw[e]at q;cases q
   | some i=>rw[e]at kk;exact .keep kk
  rw[wn]at q
  cases e:iV S nm with
  | some i=>rw[e]at q;cases q
  | none =>
  rw[e]at kk
  have kk:Kd (.str (kg (if((b.length:Nat):Int)=S.n/\A8 b=true then jL a else some 0))) μ:=kk
  refine fZ ?_
  dsimp only
  refine eZ ((true != decide (((b.length:Nat):Int)=S.n))||((b.cps.toList.map fun c=>!(decide (c=111)||decide (c=120))).any id)) (.or (.iu fun K k=>dn rfl ⟨sz (by omega),dn rfl k⟩) fun _=>.iu fun K k=>dn rfl ⟨by rw[fF];exact sz (by show b.length<=_;omega),qh trivial (fun c:Nat=>D.str ⟨#[c]⟩) (fun c=>D.bl (!(decide (c=111)||decide (c=120)))) (fun c _ K' k'=>⟨c,rfl,?_⟩) ⟨_,by rw[aG];rfl,k⟩⟩) (fun q=>?_) (fun q=>?_)
  ·rw[ox_mem];exact(Bool.true_bne _)▸k'
  ·have:¬ (((b.length:Nat):Int)=S.n/\A8 b=true):=by
    rintro⟨z1,z2⟩
    rw[ak z1,ox_any,z2]at q
    cases q
   rw[ai this]at kk
   exact .keep kk
  ·rw[ox_any]at q
   have:((b.length:Nat):Int)=S.n/\A8 b=true:=by simpa using q
   rw[aj this]at kk
   unfold jL at kk
   refine fZ ?_
   dsimp only
   refine n4 (decide (0<=a)&&decide (a<=20)) (.and (.iu fun K k=>dn rfl k) fun _=>.iu fun K k=>dn rfl k) (fun q=>?_) (fun q=>?_)
   ·rw[aj (by simpa using q)]at kk;exact .keep kk
   ·rw[ai (by simpa using q)]at kk;exact .keep kk
 ·exact h.elim
def zU {f:Addr}{fd:ag}(F:gL K "_law_join_word" "_law_join_word" lP f fd)(T:ir mg)(qX:qR P w K mg dh)(oy:oa P w K mg dh):eF P w K mg dh jM 3 f fd ["_law_state", "_law_deed"] (gO (iR w1)):=by
 refine F.oJ rp (fun ds μ Kd h=>by unfold iR at h;split at h <;> first | rfl | exact h.elim) (fun fR A dA s H E hr=>⟨_,(du (qS 2 rp.nd (qC qX hr (a2 (dv 0) (eS (dv 1) dq))))
  (du (fA (qNe (dv 2) dE)
  (dD (dY (dv 2)))
  eQ)
  (du (fA (PW.pt (nk (kh (fE hr) (eS (dv 1) dq) (eS (dv 0) dq) (by with_unfolding_all rfl)) (jN (kh (fE hr) (eS (dv 1) dq) (eS (dv 0) dq) (by with_unfolding_all rfl)))))
  (dD (dY dE))
  eQ)
  (du (fA (qNe (qC oy hr (a2 (dv 0) (eS (dv 1) dq))) dE)
  (dD (dY dE))
  eQ)
  (dD (dY (xi (Bi (fE hr) (eS (dv 1) dq) (eS (dv 0) dq) (by with_unfolding_all rfl)) dE dE))))))),fun ds μ Kd hm hl h=>?_⟩)
 unfold iR at h
 split at h
 ·rename_i x y
  obtain⟨S,m,d,rfl,rfl,hw,wf,eE,kk⟩:=h
  cases d <;> try cases hw
  rename_i nm l r p
  have k1:nm.length<=1000:=eE
  have kk:Kd (.str (kg ((iV S nm).or (if gu S l=false then some 11 else if gu S r=false then some 11 else(fS S p).or (if(dJ S.fe p).isSome=true then some 12 else none))))) μ:=kk
  refine dn rfl ⟨k1,S,m,rfl,wf,?_⟩
  have wn:=qZ (o:=iV S nm) fun i e=>Fy e
  dsimp only
  refine eZ (true != decide (kg (iV S nm)=("" : Str))) (.iu fun K k=>k) (fun q=>?_) (fun q=>?_)
  ·rw[wn]at q
   cases e:iV S nm with
   | none=>rw[e]at q;cases q
   | some i=>rw[e]at kk;exact .keep kk
  rw[wn]at q
  cases e:iV S nm with
  | some i=>rw[e]at q;cases q
  | none =>
  rw[e]at kk
  have kk:Kd (.str (kg (if gu S l=false then some 11 else if gu S r=false then some 11 else(fS S p).or (if(dJ S.fe p).isSome=true then some 12 else none)))) μ:=kk
  unfold gu at kk
  refine fZ ?_
  dsimp only
  refine eZ ((true != (dJ S.dj l).isSome)||(true != (dJ S.dj r).isSome)) (.or (.iu fun K k=>dn rfl (dn rfl ⟨_,gQ dR kq l S.dj rfl,by rw[bA];exact k⟩)) fun _=>.iu fun K k=>dn rfl (dn rfl ⟨_,gQ dR kq r S.dj rfl,by rw[bA];exact k⟩)) (fun q=>?_) (fun q=>?_)
  ·cases el:(dJ S.dj l).isSome with
   | false=>rw[el,aj rfl]at kk;exact .keep kk
   | true =>
    rw[el,ai (by decide)]at kk
    cases er:(dJ S.dj r).isSome with
    | false=>rw[er,aj rfl]at kk;exact .keep kk
    | true=>rw[el,er]at q;cases q
  ·obtain⟨el,er⟩:(dJ S.dj l).isSome=true/\(dJ S.dj r).isSome=true:=by simpa using q
   rw[el,ai (by decide),er,ai (by decide)]at kk
   refine fZ ?_
   dsimp only
   have pn:=qZ (o:=fS S p) fun i e=>by unfold fS at e;split at e <;> cases e;decide
   refine eZ (true != decide (kg (fS S p)=("" : Str))) (.iu fun K k=>dn rfl ⟨S,rfl,k⟩) (fun q=>?_) (fun q=>?_)
   ·rw[pn]at q
    unfold fS at q kk
    split at q
    ·cases q
    ·rename_i q2;rw[ai q2]at kk;exact .keep kk
   ·rw[pn]at q
    unfold fS at q kk
    split at q
    ·rename_i q2
     rw[aj q2]at kk
     have kk:Kd (.str (kg (if(dJ S.fe p).isSome=true then some 12 else none))) μ:=kk
     refine fZ ?_
     dsimp only
     refine n4 (false != (dJ S.fe p).isSome) (.iu fun K k=>dn rfl (dn rfl ⟨_,gQ iC (fun _=>D.bl true) p S.fe rfl,by rw[bA];exact k⟩)) (fun q=>?_) (fun q=>?_)
     ·rw[aj (by simpa using q)]at kk;exact .keep kk
     ·rw[ai (by simpa using q)]at kk;exact .keep kk
    ·cases q
 ·exact h.elim
def zT {f:Addr}{fd:ag}(F:gL K "_law_take_word" "_law_take_word" lO f fd)(T:ir mg)  : eF P w K mg dh jM 1 f fd ["_law_state", "_law_deed"] (gO (iR w24)):=by
 refine F.oJ ny (fun ds μ Kd h=>by unfold iR at h;split at h <;> first | rfl | exact h.elim) (fun fR A dA s H E hr=>⟨_,(du (fA (kh (fE hr) (eS (dv 1) dq) (eS (dv 0) dq) (by with_unfolding_all rfl))
  (dD (dY dE))
  eQ)
  (du (qS 2 ny.nd (jl (fE hr) (eS (dv 0) dq) (eS (dv 1) dq) (fun _ _=>rfl)))
  (du (fA (ma (eS (dv 1) dq) dE)
  (du (fA (PW.pt (nk (qLt (eS (dv 1) dq) dq) (jN (qGe (eS (dv 1) dq) (eS (dv 0) dq)))))
  (dD (dY dE))
  eQ)
  (dD (dY (xi (PW.pt (nk (ma (eS (dv 1) dq) dE) (jN (ma (eS (dv 1) dq) dE)))) dE dE))))
  eQ)
  (du (fA (ma (eS (dv 1) dq) dE)
  (du (fA (ma (eS (dv 2) dq) dE)
  (dD (dY dE))
  eQ)
  (dD (dY (xi (PW.pt (kj (qLe dq (eS (dv 1) dq)) (iP (qLe (eS (dv 1) dq) dq)))) dE dE))))
  eQ)
  (du (ud bN rfl (tK (eS (dv 0) dq)) (qT 3 ny.nd)
  (dD (fA (PW.pt (kj (ma (eS (dv 3) dq) dE) (iP (nZ inC so_inT (eS (dv 1) dq) (pJ (dv 3) (iQ dq) (iQ dq)) (by with_unfolding_all rfl)))))
  (dD (dY dE))
  eQ)))
  (dD (dY dE))))))),fun ds μ Kd hm hl h=>?_⟩)
 unfold iR at h
 split at h
 ·rename_i x y
  obtain⟨S,m,d,rfl,rfl,hw,wf,eE,kk⟩:=h
  have eT:∀ c:Str,(false != decide (c=c))=true:=fun c=>by rw[ak rfl];rfl
  cases d <;> try cases hw
  ·rename_i nm bar sg
   have kk:Kd (.str (kg (if gu S nm=false then some 11 else if 0<=bar/\bar<S.n then(if sg = "o"\/sg = "x" then none else some 0)else some 6))) μ:=kk
   unfold gu at kk
   refine eZ (true != (dJ S.dj nm).isSome) (.iu fun K k=>dn rfl (dn rfl ⟨_,gQ dR kq nm S.dj rfl,by rw[bA];exact k⟩)) (fun q=>?_) (fun q=>?_)
   ·rw[aj (by simpa using q)]at kk;exact .keep kk
   obtain⟨y,ey⟩:=Option.isSome_iff_exists.mp (show(dJ S.dj nm).isSome=true by simpa using q)
   refine fZ ?_
   dsimp only
   refine dn rfl (dn rfl ⟨_,by rw[gQ dR kq nm S.dj rfl,ey];rfl,?_⟩)
   dsimp only
   rw[ey,ai (by exact fun z=>nomatch z)]at kk
   refine eZ true (.iu fun K k=>dn rfl k) (fun _=>?_) (fun q=>by cases q)
   refine eZ (decide (bar<0)||decide (S.n<=bar)) (.or (.iu fun K k=>dn rfl k) fun _=>.iu fun K k=>dn rfl (dn rfl k)) (fun q=>?_) (fun q=>?_)
   ·rw[ai (by have w:bar<0\/S.n<=bar:=(by simpa using q);omega)]at kk
    exact .keep kk
   ·rw[aj (by have w:¬ bar<0/\¬ S.n<=bar:=(by simpa using q);omega)]at kk
    refine fZ ?_
    dsimp only
    refine n4 ((false != decide (sg = "o"))||(false != decide (sg = "x"))) (.or (.iu fun K k=>dn rfl k) fun _=>.iu fun K k=>dn rfl k) (fun q=>?_) (fun q=>?_)
    ·rw[aj (by simpa using q)]at kk;exact .keep kk
    ·rw[ai (by simpa using q)]at kk;exact .keep kk
  ·rename_i nm a
   have kk:Kd (.str (kg (match dJ S.dj nm with | none=>some 11 | some (.jn _ _ _)=>some 13 | some (.fst _ _)=>jL a))) μ:=kk
   refine eZ (true != (dJ S.dj nm).isSome) (.iu fun K k=>dn rfl (dn rfl ⟨_,gQ dR kq nm S.dj rfl,by rw[bA];exact k⟩)) (fun q=>?_) (fun q=>?_)
   ·rw[show dJ S.dj nm=none by simpa using q]at kk;exact .keep kk
   obtain⟨y,ey⟩:=Option.isSome_iff_exists.mp (show(dJ S.dj nm).isSome=true by simpa using q)
   refine fZ ?_
   dsimp only
   refine dn rfl (dn rfl ⟨_,by rw[gQ dR kq nm S.dj rfl,ey];rfl,?_⟩)
   dsimp only
   rw[ey]at kk
   refine eZ false (.iu fun K k=>dn rfl k) (fun q=>by cases q) (fun _=>?_)
   refine fZ ?_
   dsimp only
   refine eZ true (.iu fun K k=>dn rfl k) (fun _=>?_) (fun q=>by cases q)
   cases y with
   | jn l r p =>
    refine eZ true (.iu fun K k=>dn rfl k) (fun _=>?_) (fun q=>by cases q)
    exact .keep kk
   | fst b a0 =>
    refine eZ false (.iu fun K k=>dn rfl k) (fun q=>by cases q) (fun _=>?_)
    refine fZ ?_
    dsimp only at kk ⊢
    unfold jL at kk
    refine n4 (decide (0<=a)&&decide (a<=20)) (.and (.iu fun K k=>dn rfl k) fun _=>.iu fun K k=>dn rfl k) (fun q=>?_) (fun q=>?_)
    ·rw[aj (by simpa using q)]at kk;exact .keep kk
    ·rw[ai (by simpa using q)]at kk;exact .keep kk
  ·rename_i nm
   have kk:Kd (.str (kg (if gu S nm=false then some 11 else if kC S nm=true then some 14 else none))) μ:=kk
   unfold gu at kk
   refine eZ (true != (dJ S.dj nm).isSome) (.iu fun K k=>dn rfl (dn rfl ⟨_,gQ dR kq nm S.dj rfl,by rw[bA];exact k⟩)) (fun q=>?_) (fun q=>?_)
   ·rw[aj (by simpa using q)]at kk;exact .keep kk
   obtain⟨y,ey⟩:=Option.isSome_iff_exists.mp (show(dJ S.dj nm).isSome=true by simpa using q)
   refine fZ ?_
   dsimp only
   refine dn rfl (dn rfl ⟨_,by rw[gQ dR kq nm S.dj rfl,ey];rfl,?_⟩)
   dsimp only
   rw[ey,ai (by exact fun z=>nomatch z)]at kk
   refine eZ false (.iu fun K k=>dn rfl k) (fun q=>by cases q) (fun _=>?_)
   refine fZ ?_
   dsimp only
   refine eZ false (.iu fun K k=>dn rfl k) (fun q=>by cases q) (fun _=>?_)
   refine fZ ?_
   dsimp only
   refine dn rfl fun _=>?_
   refine jD (fun ds ρ μ'=>∃(pre post:List (Str×Pt)) (v3:Option D),S.dj=pre++post/\ds=post.map (fun p=>kq p.2)/\(pre.any fun p=>gE nm p.2)=false/\ρ=[some (rl S),some (oQ (.drop nm)),some (kq y),v3]/\μ'=μ) ⟨[],S.dj,none,rfl,rfl,rfl,rfl,rfl⟩ ?_ ?_
   ·rintro d ds' ρ μ' ⟨pre,post,v3,hs,e1,ha,rfl,rfl⟩
    refine⟨trivial,fun nx Ed=>?_⟩
    cases post with
    | nil=>cases e1
    | cons p post =>
     obtain⟨z,u⟩:=p
     cases e1
     have nE:kC S nm=(gE nm u||post.any fun p=>gE nm p.2):=by unfold kC;rw[hs,List.any_append,bt,ha,Bool.false_or]
     have next:gE nm u=false->nx [some (rl S),some (oQ (.drop nm)),some (kq y),some (kq u)] μ':=fun q=>Ed _ _ ⟨pre++[(z,u)],post,_,by rw[hs,aM];rfl,rfl,by rw[List.any_append,ha,bt,q];rfl,rfl,rfl⟩
     dsimp only
     cases u with
     | fst b a =>
      refine eZ false (fun K k=>dn rfl k) (fun q=>by cases q) (fun _=>?_)
      exact next rfl
     | jn l r p =>
      have eb:(false != ([D.str l,D.str r].any fun d=>deq d (.str nm)))=gE nm (.jn l r p):=by
       rw[fne]
       simp only[bt,List.any_nil,deq,Bool.or_false]
       rfl
      refine eZ (true&&gE nm (.jn l r p)) (.and (.iu fun K k=>dn rfl k) fun _=>.iu fun K k=>dn rfl ⟨fun y=>absurd y.1 (show ¬ (1:Nat)=0 by decide),rfl,rfl,?_⟩) (fun q=>?_) (fun q=>?_)
      ·show K (.bl (false != ([D.str l,D.str r].any fun d=>deq d (.str nm)))) _
       rw[eb];exact k
      ·rw[Bool.true_and]at q
       rw[nE,q,Bool.true_or,aj rfl]at kk
       exact .keep kk
      ·rw[Bool.true_and]at q
       exact next q
   ·rintro ρ μ' ⟨pre,post,v3,hs,e1,ha,rfl,rfl⟩
    cases post with
    | cons p post=>cases e1
    | nil =>
     rw[aQ]at hs
     rw[<- hs]at ha
     have:kC S nm=false:=ha
     rw[this,ai (by decide)]at kk
     exact⟨trivial,.keep kk⟩
 ·exact h.elim
def ok_word {f:Addr}{fd:ag}(F:gL K "_law_word" "_law_word" zp f fd)(T:ir mg)(EL:xl P w K mg dh)(Dh:uE P w K mg dh)(oy:oa P w K mg dh)(Df:uD P w K mg dh):eF P w K mg dh jM 4 f fd ["_law_state", "_law_deed"] (gO (iR wAll)):=by
 refine F.oJ sc_word (fun ds μ Kd h=>by unfold iR at h;split at h <;> first | rfl | exact h.elim) (fun fR A dA s H E hr=>⟨_,(du (fA (ma (eS (dv 1) dq) dE)
  (dD (dY (qC EL hr (a2 (dv 0) (dv 1)))))
  eQ)
  (du (fA (ma (eS (dv 1) dq) dE)
  (dD (dY (qC Dh hr (a2 (dv 0) (dv 1)))))
  eQ)
  (du (fA (PW.pt (nk (ma (eS (dv 1) dq) dE) (jN (ma (eS (dv 1) dq) dE))))
  (dD (dY (qC oy hr (a2 (dv 0) (eS (dv 1) dq)))))
  eQ)
  (dD (dY (qC Df hr (a2 (dv 0) (dv 1)))))))),fun ds μ Kd hm hl h=>?_⟩)
 unfold iR at h
 split at h
 ·rename_i x y
  obtain⟨S,m,d,rfl,rfl,hw,wf,eE,kk⟩:=h
  cases d with
  | put nm b a=>exact dn rfl ⟨S,m,.put nm b a,rfl,rfl,rfl,wf,eE,.keep kk⟩
  | join nm l r p=>exact dn rfl (dn rfl ⟨S,m,.join nm l r p,rfl,rfl,rfl,wf,eE,.keep kk⟩)
  | found nm bar sg=>exact dn rfl (dn rfl (dn rfl (dn rfl ⟨S,m,.found nm bar sg,rfl,rfl,rfl,wf,eE,.keep kk⟩)))
  | kR nm a=>exact dn rfl (dn rfl (dn rfl (dn rfl ⟨S,m,.kR nm a,rfl,rfl,rfl,wf,eE,.keep kk⟩)))
  | drop nm=>exact dn rfl (dn rfl (dn rfl (dn rfl ⟨S,m,.drop nm,rfl,rfl,rfl,wf,eE,.keep kk⟩)))
  | free p=>exact dn rfl (dn rfl (dn rfl (dn rfl ⟨S,rfl,.keep kk⟩)))
  | fe p=>exact dn rfl (dn rfl (dn rfl (dn rfl (dn rfl ⟨S,rfl,.keep kk⟩))))
 ·exact h.elim
def BJ {f:Addr}{fd:ag}(F:gL K "_law_any_name" "_law_any_name" nI f fd)(T:ir mg)(eO:n9 P w K mg dh):eF P w K mg dh jM 2 f fd ["_law_box_here", "_law_state", "_law_pool"] (gO sx):=by
 refine F.oJ uc (fun ds μ Kd h=>by unfold sx at h;split at h <;> first | rfl | exact h.elim) (fun fR A dA s H E hr=>⟨_,(du (qS 3 uc.nd (oR (oR (dv 2) (CA (FA rfl) (rj (m:=false)) (by rfl) T.list bj (a1 (eS (dv 1) dq)))) (iM false (dr dE (dr dE (dr dE (dr dE (dr dE (dr (oR (eS (dv 2) dq) dE) fo)))))))))
  (dD (dY (eS (dv 3) (qC eO hr (a2 (dv 0) (yd T (dv 3)))))))),fun ds μ Kd hm hl h=>?_⟩)
 unfold sx at h
 split at h
 ·rename_i k x y
  obtain⟨hb,S,m,fg,rfl,rfl,wf,⟨p1,p2,p3⟩,kk⟩:=h
  have iT:=wf.iT
  obtain⟨z0,r,rfl⟩:∃ z0 r,fg=z0::r:=by
   cases fg with
   | nil=>exact absurd p1 (by decide)
   | cons a b=>exact⟨a,b,rfl⟩
  have z0l:z0.length<=8:=named_8 (p3 z0 aC)
  obtain⟨L,hL⟩:∃ L:List Str,L=((z0::r)++S.dj.map (·.1))++([("" : Str),("Zoe" : Str),("a b" : Str),("abcdefghi" : Str),("q1" : Str),z0++spc]:List Str):=⟨_,rfl⟩
  have ll:L.length<=76/\6<=L.length:=by
   rw[hL,lx,lx,fF]
   show(z0::r).length+S.dj.length+6<=76/\6<=(z0::r).length+S.dj.length+6
   omega
  have six:∀ z∈(["", "Zoe", "a b", "abcdefghi", "q1"]:List Str),z.length<=100:=by decide +kernel
  have lok:∀ z∈L,z.length<=100:=fun z hz=>by
   rw[hL]at hz
   rcases List.mem_append.mp hz with hz | hz
   ·rcases List.mem_append.mp hz with hz | hz
    ·exact mS (p3 z hz)
    ·obtain⟨p,hp,rfl⟩:=List.mem_map.mp hz
     exact mS (wf.nms p hp)
   ·rcases List.mem_append.mp (show z∈(["", "Zoe", "a b", "abcdefghi", "q1"]:List Str)++[z0++spc]from hz)with hz | hz
    ·exact six z hz
    ·rw[List.mem_singleton.mp hz,spc_len];omega
  have eL:(((z0::r).map D.str)++((S.dj.map fun p=>eB p.1).map nR))++[D.str "",D.str "Zoe",D.str "a b",D.str "abcdefghi",D.str "q1",D.str (z0++spc)]=L.map D.str:=by
   rw[hL,aK,aK,aG,aG];rfl
  refine sC (d:=.lst (L.map D.str)) (μ':=μ) (fun K k=>?_) ?_
  ·rw[<- eL]at k
   refine dn rfl (dn rfl (dn rfl (dn rfl ⟨sz (by rw[fF,fF,fF];show(z0::r).length+_<=_;omega),?_⟩)))
   refine dn (v:=D.str z0) (show qV (D.str z0::r.map D.str) 0=_ from kQ (j:=0) rfl) ⟨az (show z0.length+1<=9 by omega) (sz (by decide)),zs,dn rfl (dn rfl ⟨sz (by rw[lx,fF,fF,fF];show(z0::r).length+S.dj.length+6<=_;omega),k⟩)⟩
  ·refine⟨hb,by rw[fF];omega,by rw[fF];omega,fun i i0 i1=>?_⟩
   obtain⟨z,hz,e⟩:=jH (g:=D.str) (xs:=L) i0 (by rw[fF]at i1;exact i1)
   exact dn e (.keep (kk z (lok z hz)))
 ·exact h.elim
def zY {f:Addr}{fd:ag}(F:gL K "_law_bent_deed" "_law_bent_deed" lT f fd)(T:ir mg)(eO:n9 P w K mg dh)(EN:xm P w K mg dh):eF P w K mg dh jM 3 f fd ["_law_box_here", "_law_state", "_law_pool", "_law_deed"] (gO Aq):=by
 refine F.oJ iG (fun ds μ Kd h=>by unfold Aq at h;split at h <;> first | rfl | exact h.elim) (fun fR A dA s H E hr=>⟨_,(du (fA (PW.pt (nk (ma (eS (dv 3) dq) dE) (jN (ma (eS (dv 3) dq) dE))))
  (dD (dY (fW (a2 (eS (dv 3) dq) (eS (iM false (dr dq (dr (Ga dq) (dr (eS (dv 1) dq) (dr (oR (eS (dv 1) dq) dq) (dr (tR powC E9 dq dq) (dr dq fo))))))) (qC eO hr (a2 (dv 0) dq)))))))
  eQ)
  (du (qS 4 iG.nd (oR dq (qC eO hr (a2 (dv 0) (dMi (yd T (dv 3)) dq)))))
  (CO (fA (PW.pt (kj (ma (eS (dv 3) dq) dE) (iP (ma (dv 4) dq))))
  (dD (qS 5 iG.nd (eS (iM false (dr (oR (eS (dv 3) dq) dE) (dr (j5 false (eS (dv 3) dq) (iQ dq) rO) (dr (oR (j5 false (eS (dv 3) dq) (iQ dq) rO) dE) (dr dE (dr (oR (j5 false (eS (dv 3) dq) rO (iQ (Ga dq))) dE) fo)))))) (qC eO hr (a2 (dv 0) dq)))))
  (dD (fA (PW.pt (kj (ma (eS (dv 3) dq) dE) (iP (ma (dv 4) dq))))
  (dD (qS 5 iG.nd (eS (iM false (dr dE (dr dE (dr dE (dr dE (dr dE fo)))))) (qC eO hr (a2 (dv 0) dq)))))
  (dD (fA (PW.pt (nk (ma (dv 4) dq) (jN (PW.pt (kj (ma (eS (dv 3) dq) dE) (iP (qLt (dv 4) dq)))))))
  (dD (qS 5 iG.nd (qC EN hr (a3 (dv 0) (dv 1) (dv 2)))))
  (dD (qS 5 iG.nd (eS (iM false (dr (Ga dq) (dr dq (dr (eS (dv 1) dq) (dr (tR powC E9 dq dq) (dr dq (dr dq (dr (dMi (eS (dv 1) dq) dq) (dr (Ga (tR powC E9 dq dq)) fo))))))))) (qC eO hr (a2 (dv 0) dq))))))))))
  (dD (dY (tR Fv Fb (tR Fv Fb (pJ (dv 3) rO (iQ (dv 4))) (fW (a1 (dv 5)))) (pJ (dv 3) (iQ (oR (dv 4) dq)) rO))))))),fun ds μ Kd hm hl h=>?_⟩)
 unfold Aq at h
 split at h
 ·rename_i k x y z
  obtain⟨hb,S,m,fg,d,n,rfl,rfl,rfl,wf,hp,hd,hn,kk⟩:=h
  rw[dd_th d]
  obtain⟨rest,hrest⟩:∃ rest,oP d=D.str (hU d)::rest:=by cases d <;> exact⟨_,rfl⟩
  have at0:qV (oP d) 0=some (D.str (hU d)):=by rw[hrest];exact kQ (j:=0) rfl
  have tl:=th_len d
  have ki:∀(xs:List Int) (v:Int) (_:0<=v) (_:v<((xs.map D.int).length:Int)),∃ u:Int,qV (xs.map D.int) v=some (D.int u):=fun xs v h0 h1=>by
   obtain⟨u,_,e⟩:=jH (g:=D.int) (xs:=xs) h0 (by rw[fF]at h1;exact h1)
   exact⟨u,e⟩
  have ks:∀(xs:List Str) (v:Int) (_:0<=v) (_:v<((xs.map D.str).length:Int)),∃ u∈xs,qV (xs.map D.str) v=some (D.str u):=fun xs v h0 h1=>jH (g:=D.str) (xs:=xs) h0 (by rw[fF]at h1;exact h1)
  have pw:CPow 10 20:=⟨by decide,by decide,by decide⟩
  refine eZ ((false != decide (hU d = "free"))||(false != decide (hU d = "shut"))) (.or (.iu fun K k=>dn at0 k) fun _=>.iu fun K k=>dn at0 k) (fun q=>?_) (fun q=>?_)
  ·have hw:hU d = "free"\/hU d = "shut":=by simpa using q
   refine dn at0 (dn rfl (dn rfl ⟨pw,zs,hb,by decide,by decide,fun i i0 i1=>?_⟩))
   obtain⟨u,eu⟩:=ki [0,-1,S.n,S.n+5,10 ^ 20,1] i i0 i1
   refine dn eu ⟨zs,.keep ?_⟩
   rcases hw with hw | hw
   ·have:=(mX d 5 (by decide)).mp hw
    cases d <;> cases this
    exact kk (.free u) trivial
   ·have:=(mX d 6 (by decide)).mp hw
    cases d <;> cases this
    exact kk (.fe u) trivial
  ·have hw:¬ hU d = "free"/\¬ hU d = "shut":=by simpa using q
   have l2:2<=(oP d).length:=by cases d <;> (simp only[oP,aI,bX];omega)
   refine fZ ?_
   dsimp only
   refine⟨hb,by omega,by omega,fun v v0 v1=>?_⟩
   obtain⟨a,ha⟩:∃ a:Nat,1+v=(a:Int):=⟨(1+v).toNat,by omega⟩
   dsimp only [dAdd]
   rw[ha]
   have a1:1<=a:=by omega
   have a2:a<(oP d).length:=by omega
   refine⟨fun kT fw=>∃(t:D) (d':Dd),ddL (n+1) d'/\(oP d).take a++[t]++(oP d).drop (a+1)=oP d'/\kT=[some (.mr k),some (rl S),some (ql fg),some (.tup (oP d)),some (.int a),some t]/\fw=μ,?_,?_⟩
   ·refine eZ ((false != decide (hU d = "put"))&&(false != decide ((a:Int)=2))) (.and (.iu fun K k=>dn at0 k) fun _=>.iu fun K k=>k) (fun q=>?_) (fun q1=>?_)
    ·obtain⟨w1,w2⟩:hU d = "put"/\(a:Int)=2:=by simpa using q
     have w1:=(mX d 0 (by decide)).mp w1
     obtain⟨nm,b,c,rfl⟩:∃ nm b c,d=.put nm b c:=by cases d <;> first | exact⟨_,_,_,rfl⟩ | cases w1
     obtain rfl:a=2:=by omega
     have bl:b.length<=n:=hd.2
     have sb:b.length<=sizeLine:=sz (by omega)
     have cl:∀ lo hi,(Str.mk (gN b.cps.toList lo hi).toArray).length<=n:=fun lo hi=>az (n5 _ lo hi) bl
     have o1:∀(z:Str) (y:String),z.length<=n->(Str.ofString y).length=1->z.length+(Str.ofString y).length<=sizeLine:=fun z y hz hy=>by rw[hy];exact sz (by omega)
     refine dn rfl ⟨o1 _ _ bl rfl,dn rfl ⟨sb,dn rfl ⟨sb,o1 _ _ (cl _ _) rfl,dn rfl ⟨sb,o1 _ _ (cl _ _) rfl,zs,hb,by decide,by decide,fun i i0 i1=>?_⟩⟩⟩⟩
     obtain⟨u,hu,eu⟩:=ks [b++Str.ofString "o",⟨(gN b.cps.toList (some 1) none).toArray⟩,⟨(gN b.cps.toList (some 1) none).toArray⟩++Str.ofString "O",Str.ofString "",⟨(gN b.cps.toList none (some (-1))).toArray⟩++Str.ofString " "] i i0 i1
     refine dn eu ⟨.str u,.put nm u c,⟨hd.1,?_⟩,rfl,rfl,rfl⟩
     simp only[bH,br,cI]at hu
     rcases hu with rfl | rfl | rfl | rfl | rfl
     ·rw[lN];exact Nat.add_le_add bl (by decide +kernel)
     ·exact bB (cl _ _)
     ·rw[lN];exact Nat.add_le_add (cl _ _) (by decide +kernel)
     ·exact az (show Str.length (Str.ofString "")<=0 by decide +kernel) (aY _)
     ·rw[lN];exact Nat.add_le_add (cl _ _) (by decide +kernel)
    have q1:¬ (hU d = "put"/\(a:Int)=2):=fun z=>by rw[ak z.1,ak z.2]at q1;cases q1
    refine eZ ((false != decide (hU d = "found"))&&(false != decide ((a:Int)=3))) (.and (.iu fun K k=>dn at0 k) fun _=>.iu fun K k=>k) (fun q=>?_) (fun q2=>?_)
    ·obtain⟨w1,w2⟩:hU d = "found"/\(a:Int)=3:=by simpa using q
     have w1:=(mX d 2 (by decide)).mp w1
     obtain⟨nm,b,c,rfl⟩:∃ nm b c,d=.found nm b c:=by cases d <;> first | exact⟨_,_,_,rfl⟩ | cases w1
     obtain rfl:a=3:=by omega
     refine⟨zs,hb,by decide,by decide,fun i i0 i1=>?_⟩
     obtain⟨u,hu,eu⟩:=ks [Str.ofString "",Str.ofString "O",Str.ofString "ox",Str.ofString " ",Str.ofString "0"] i i0 i1
     exact dn eu ⟨.str u,.found nm b u,trivial,rfl,rfl,rfl⟩
    have q2:¬ (hU d = "found"/\(a:Int)=3):=fun z=>by rw[ak z.1,ak z.2]at q2;cases q2
    refine eZ ((false != decide ((a:Int)=1))||((false != decide (hU d = "join"))&&decide ((a:Int)<4))) (.or (.iu fun K k=>k) fun _=>.and (.iu fun K k=>dn at0 k) fun _=>.iu fun K k=>k) (fun q=>?_) (fun q3=>?_)
    ·have w:(a:Int)=1\/(hU d = "join"/\(a:Int)<4):=by simpa using q
     refine⟨hb,S,m,fg,rfl,rfl,wf,hp,fun u hu=>?_⟩
     have go:∀ d',ddL (n+1) d'->(oP d).take a++[.str u]++(oP d).drop (a+1)=oP d'->_:=fun d' h1 h2=>(⟨.str u,d',h1,h2,rfl,rfl⟩:∃(t:D) (d':Dd),ddL (n+1) d'/\(oP d).take a++[t]++(oP d).drop (a+1)=oP d'/\[some (.mr k),some (rl S),some (ql fg),some (.tup (oP d)),some (.int a),some (.str u)]=[some (.mr k),some (rl S),some (ql fg),some (.tup (oP d)),some (.int a),some t]/\μ=μ)
     by_cases w1:a=1
     ·subst w1
      cases d with
      | put nm b c=>exact go (.put u b c) ⟨hu,bB hd.2⟩ rfl
      | join nm l r p=>exact go (.join u l r p) hu rfl
      | found nm b c=>exact go (.found u b c) trivial rfl
      | kR nm c=>exact go (.kR u c) trivial rfl
      | drop nm=>exact go (.drop u) trivial rfl
      | free p=>exact absurd rfl hw.1
      | fe p=>exact absurd rfl hw.2
     ·rcases w with w | ⟨w2,w3⟩
      ·exact absurd (by omega) w1
      have w2:=(mX d 1 (by decide)).mp w2
      obtain⟨nm,l,r,p,rfl⟩:∃ nm l r p,d=.join nm l r p:=by cases d <;> first | exact⟨_,_,_,_,rfl⟩ | cases w2
      by_cases w4:a=2
      ·subst w4;exact go (.join nm u r p) hd rfl
      ·obtain rfl:a=3:=by omega
       exact go (.join nm l u p) hd rfl
    ·have q3:¬ ((a:Int)=1\/(hU d = "join"/\(a:Int)<4)):=fun z=>by
      rcases z with z | ⟨z1,z2⟩
      ·rw[ak z]at q3;cases q3
      ·rw[ak z1,ak z2,show(false != true&&true)=true from rfl,Bool.or_true]at q3;cases q3
     refine dn rfl ⟨pw,dn rfl ⟨pw,zs,hb,by decide,by decide,fun i i0 i1=>?_⟩⟩
     obtain⟨u,eu⟩:=ki [-1,21,S.n,10 ^ 20,0,20,S.n - 1,-10 ^ 20] i i0 i1
     have go:∀ d',ddL (n+1) d'->(oP d).take a++[.int u]++(oP d).drop (a+1)=oP d'->_:=fun d' h1 h2=>(⟨.int u,d',h1,h2,rfl,rfl⟩:∃(t:D) (d':Dd),ddL (n+1) d'/\(oP d).take a++[t]++(oP d).drop (a+1)=oP d'/\[some (.mr k),some (rl S),some (ql fg),some (.tup (oP d)),some (.int a),some (.int u)]=[some (.mr k),some (rl S),some (ql fg),some (.tup (oP d)),some (.int a),some t]/\μ=μ)
     refine dn eu ?_
     cases d with
     | put nm b c =>
      obtain rfl:a=3:=by
       have a2:a<4:=a2
       have:¬ (a:Int)=2:=fun z=>q1 ⟨rfl,z⟩
       omega
      exact go (.put nm b u) ⟨hd.1,bB hd.2⟩ rfl
     | join nm l r p =>
      obtain rfl:a=4:=by
       have a2:a<5:=a2
       have:¬ (a:Int)<4:=fun z=>q3 (.inr ⟨rfl,z⟩)
       omega
      exact go (.join nm l r u) hd rfl
     | found nm b c =>
      obtain rfl:a=2:=by
       have a2:a<4:=a2
       have:¬ (a:Int)=3:=fun z=>q2 ⟨rfl,z⟩
       omega
      exact go (.found nm u c) trivial rfl
     | kR nm c =>
      obtain rfl:a=2:=by have a2:a<3:=a2;omega
      exact go (.kR nm u) trivial rfl
     | drop nm=>exact absurd (show a<2 from a2) (by omega)
     | free p=>exact absurd rfl hw.1
     | fe p=>exact absurd rfl hw.2
   ·rintro kT fw ⟨t,d',hd',et,rfl,rfl⟩
    have c1:cutD (oP d) none (some (a:Int))=(oP d).take a:=by have:=Gd (fun x:D=>x) (oP d) a;rwa [List.map_id',List.map_id']at this
    have c2:cutD (oP d) (some ((a:Int)+1)) none=(oP d).drop (a+1):=by have:=cutD_from (fun x:D=>x) (oP d) (a+1);rwa [List.map_id',List.map_id']at this
    refine⟨?_,?_⟩
    ·rintro⟨_,y⟩
     rw[HT.l9]at y
     omega
    rw[c1]
    have tk:(oP d).take a≠[]:=fun z=>by have:=bL List.length z;rw[aS]at this;simp only[bX]at this;omega
    refine⟨zs,tk,sz (by rw[aS];show _+1<=_;omega),?_⟩
    refine⟨?_,?_⟩
    ·rintro⟨y,_⟩
     rw[show(a:Int)+1=((a+1:Nat):Int)from rfl,HT.l9]at y
     omega
    rw[c2]
    refine⟨by simp,sz (by rw[lx,aS,bS];show _+1+_<=_;omega),?_⟩
    rw[et,<- dd_th]
    exact .keep (kk d' hd')
 ·exact h.elim
def ok_wild {f:Addr}{fd:ag}(F:gL K "_law_wild" "_law_wild" zq f fd)(T:ir mg)(C_easy:c_easy P w K mg dh)(eO:n9 P w K mg dh)(uQ:uG P w K mg dh):eF P w K mg dh jM 4 f fd ["_law_box_here", "_law_state", "_law_pool"] (gO FJ):=by
 refine F.oJ rm (fun ds μ Kd h=>by unfold FJ at h;split at h <;> first | rfl | exact h.elim) (fun fR A dA s H E hr=>⟨_,(du (qS 3 rm.nd (qC C_easy hr (a3 (dv 0) (dv 1) (dv 2))))
  (du (qS 4 rm.nd (qC eO hr (a2 (dv 0) dq)))
  (CO (fA (qGt (dv 4) dq)
  (dD (qS 3 rm.nd (qC uQ hr (dr (dv 0) (dr (dv 1) (dr (dv 2) (dr (dv 3) fo)))))))
  eQ)
  (CO (fA (ma (dv 4) dq)
  (dD (qS 3 rm.nd (qC uQ hr (dr (dv 0) (dr (dv 1) (dr (dv 2) (dr (dv 3) fo)))))))
  eQ)
  (dD (dY (dv 3))))))),fun ds μ Kd hm hl h=>?_⟩)
 unfold FJ at h
 split at h
 ·rename_i k x y
  obtain⟨hb,S,m,fg,rfl,rfl,wf,hp,kk⟩:=h
  refine⟨hb,S,m,fg,rfl,rfl,wf,hp,fun e href eE=>⟨hb,by decide,by decide,fun w w0 w1=>?_⟩⟩
  have sm:=ddS_L (small_of wf href)
  refine⟨fun kT fw=>∃ e1,ddL 101 e1/\kT=[some (.mr k),some (rl S),some (ql fg),some (oQ e1),some (.int w)]/\fw=μ,?_,?_⟩
  ·refine eZ (decide (1<w)) (.iu fun K k=>k) (fun _=>?_) (fun _=>fZ ⟨e,Cy sm (by decide),rfl,rfl⟩)
   exact⟨hb,S,m,fg,e,100,rfl,rfl,rfl,wf,hp,sm,by decide,fun d' h'=>⟨d',h',rfl,rfl⟩⟩
  ·rintro kT fw ⟨e1,s1,rfl,hμ⟩
   rw[hμ]
   refine⟨fun kT fw=>∃ e1 v4,ddL 102 e1/\kT=[some (.mr k),some (rl S),some (ql fg),some (oQ e1),v4]/\fw=μ,?_,?_⟩
   ·refine eZ (false != decide (w=3)) (.iu fun K k=>k) (fun _=>?_) (fun _=>fZ ⟨e1,_,Cy s1 (by decide),rfl,rfl⟩)
    exact⟨hb,S,m,fg,e1,101,rfl,rfl,rfl,wf,hp,s1,by decide,fun d' h'=>⟨d',_,h',rfl,rfl⟩⟩
   ·rintro kT fw ⟨e1,v4,s1,rfl,hμ⟩
    rw[hμ]
    exact .keep (kk e1 (ddL_ok s1 (by decide)))
 ·exact h.elim
def BK {f:Addr}{fd:ag}(F:gL K "put" "Room.put" nJ f fd)(T:ir mg)(dF:hZ K dN)(fm:gR P w K mg dh):eF P w K mg dh (k9 P w) 9 f fd ["self", "name", "bars", "age"] (iw (gM dN dt ij 0 4)):=by
 refine F.rN Br (fun ds μ Kd Kx h=>je h) (fun fR A dA s H E hr eG Kb Z=>⟨_,(dD (gC (fq Z.z fm dF.cl hr.le (dv 0) (a1 (fW (dr dE (dr (dv 1) (dr (dv 2) (dr (dv 3) fo))))))))),fun ds μ m Kd Kx hm hl em h hK=>?_⟩)
 unfold gM at h
 obtain⟨_,h⟩:=h
 split at h
 ·rename_i k xs
  obtain⟨e,hw,hx,_,j1,j2,ss,rs,d,S,e',ra,es,he,eE,iT,kk⟩:=h
  cases e <;> cases hw
  cases hx
  have rg:=ra.gx (m:=.gx eG H)
  refine⟨fP rg rfl,zs,dZ em,⟨_,dZ em⟩,j1,j2,ss,rs,d,S,e',rg,es,he,eE,iT,?_⟩
  cases er:ik S e' with
  | some i=>rw[er]at kk;exact(fb hK em kk).2
  | none =>
   rw[er]at kk
   obtain⟨g1,g2⟩:=jA ra (m:=.gx eG H) (ss':=ss.take (d+1)++[mF S e']) (rs':=rs.take d++[e']) (d':=d+1) em
   exact .keep ⟨g2,by rw[g1];exact kk⟩
 ·exact h.elim
def z6 {f:Addr}{fd:ag}(F:gL K "join" "Room.join" lW f fd)(T:ir mg)(dF:hZ K dN)(fm:gR P w K mg dh):eF P w K mg dh (k9 P w) 9 f fd ["self", "name", "left", "right", "place"] (iw (gM dN dt ij 1 5)):=by
 refine F.rN zi (fun ds μ Kd Kx h=>je h) (fun fR A dA s H E hr eG Kb Z=>⟨_,(dD (gC (fq Z.z fm dF.cl hr.le (dv 0) (a1 (fW (dr dE (dr (dv 1) (dr (dv 2) (dr (dv 3) (dr (dv 4) fo)))))))))),fun ds μ m Kd Kx hm hl em h hK=>?_⟩)
 unfold gM at h
 obtain⟨_,h⟩:=h
 split at h
 ·rename_i k xs
  obtain⟨e,hw,hx,_,j1,j2,ss,rs,d,S,e',ra,es,he,eE,iT,kk⟩:=h
  cases e <;> cases hw
  cases hx
  have rg:=ra.gx (m:=.gx eG H)
  refine⟨fP rg rfl,zs,dZ em,⟨_,dZ em⟩,j1,j2,ss,rs,d,S,e',rg,es,he,eE,iT,?_⟩
  cases er:ik S e' with
  | some i=>rw[er]at kk;exact(fb hK em kk).2
  | none =>
   rw[er]at kk
   obtain⟨g1,g2⟩:=jA ra (m:=.gx eG H) (ss':=ss.take (d+1)++[mF S e']) (rs':=rs.take d++[e']) (d':=d+1) em
   exact .keep ⟨g2,by rw[g1];exact kk⟩
 ·exact h.elim
def xZ {f:Addr}{fd:ag}(F:gL K "found" "Room.found" kL f fd)(T:ir mg)(dF:hZ K dN)(fm:gR P w K mg dh):eF P w K mg dh (k9 P w) 9 f fd ["self", "name", "bar", "sign"] (iw (gM dN dt ij 2 4)):=by
 refine F.rN xS (fun ds μ Kd Kx h=>je h) (fun fR A dA s H E hr eG Kb Z=>⟨_,(dD (gC (fq Z.z fm dF.cl hr.le (dv 0) (a1 (fW (dr dE (dr (dv 1) (dr (dv 2) (dr (dv 3) fo))))))))),fun ds μ m Kd Kx hm hl em h hK=>?_⟩)
 unfold gM at h
 obtain⟨_,h⟩:=h
 split at h
 ·rename_i k xs
  obtain⟨e,hw,hx,_,j1,j2,ss,rs,d,S,e',ra,es,he,eE,iT,kk⟩:=h
  cases e <;> cases hw
  cases hx
  have rg:=ra.gx (m:=.gx eG H)
  refine⟨fP rg rfl,zs,dZ em,⟨_,dZ em⟩,j1,j2,ss,rs,d,S,e',rg,es,he,eE,iT,?_⟩
  cases er:ik S e' with
  | some i=>rw[er]at kk;exact(fb hK em kk).2
  | none =>
   rw[er]at kk
   obtain⟨g1,g2⟩:=jA ra (m:=.gx eG H) (ss':=ss.take (d+1)++[mF S e']) (rs':=rs.take d++[e']) (d':=d+1) em
   exact .keep ⟨g2,by rw[g1];exact kk⟩
 ·exact h.elim
def Ad {f:Addr}{fd:ag}(F:gL K "aged" "Room.aged" l8 f fd)(T:ir mg)(dF:hZ K dN)(fm:gR P w K mg dh):eF P w K mg dh (k9 P w) 9 f fd ["self", "name", "age"] (iw (gM dN dt ij 3 3)):=by
 refine F.rN zo (fun ds μ Kd Kx h=>je h) (fun fR A dA s H E hr eG Kb Z=>⟨_,(dD (gC (fq Z.z fm dF.cl hr.le (dv 0) (a1 (fW (a3 dE (dv 1) (dv 2))))))),fun ds μ m Kd Kx hm hl em h hK=>?_⟩)
 unfold gM at h
 obtain⟨_,h⟩:=h
 split at h
 ·rename_i k xs
  obtain⟨e,hw,hx,_,j1,j2,ss,rs,d,S,e',ra,es,he,eE,iT,kk⟩:=h
  cases e <;> cases hw
  cases hx
  have rg:=ra.gx (m:=.gx eG H)
  refine⟨fP rg rfl,zs,dZ em,⟨_,dZ em⟩,j1,j2,ss,rs,d,S,e',rg,es,he,eE,iT,?_⟩
  cases er:ik S e' with
  | some i=>rw[er]at kk;exact(fb hK em kk).2
  | none =>
   rw[er]at kk
   obtain⟨g1,g2⟩:=jA ra (m:=.gx eG H) (ss':=ss.take (d+1)++[mF S e']) (rs':=rs.take d++[e']) (d':=d+1) em
   exact .keep ⟨g2,by rw[g1];exact kk⟩
 ·exact h.elim
def z9 {f:Addr}{fd:ag}(F:gL K "drop" "Room.drop" lY f fd)(T:ir mg)(dF:hZ K dN)(fm:gR P w K mg dh):eF P w K mg dh (k9 P w) 9 f fd ["self", "name"] (iw (gM dN dt ij 4 2)):=by
 refine F.rN zk (fun ds μ Kd Kx h=>je h) (fun fR A dA s H E hr eG Kb Z=>⟨_,(dD (gC (fq Z.z fm dF.cl hr.le (dv 0) (a1 (fW (a2 dE (dv 1))))))),fun ds μ m Kd Kx hm hl em h hK=>?_⟩)
 unfold gM at h
 obtain⟨_,h⟩:=h
 split at h
 ·rename_i k xs
  obtain⟨e,hw,hx,_,j1,j2,ss,rs,d,S,e',ra,es,he,eE,iT,kk⟩:=h
  cases e <;> cases hw
  cases hx
  have rg:=ra.gx (m:=.gx eG H)
  refine⟨fP rg rfl,zs,dZ em,⟨_,dZ em⟩,j1,j2,ss,rs,d,S,e',rg,es,he,eE,iT,?_⟩
  cases er:ik S e' with
  | some i=>rw[er]at kk;exact(fb hK em kk).2
  | none =>
   rw[er]at kk
   obtain⟨g1,g2⟩:=jA ra (m:=.gx eG H) (ss':=ss.take (d+1)++[mF S e']) (rs':=rs.take d++[e']) (d':=d+1) em
   exact .keep ⟨g2,by rw[g1];exact kk⟩
 ·exact h.elim
def z7 {f:Addr}{fd:ag}(F:gL K "free" "Room.free" lX f fd)(T:ir mg)(dF:hZ K dN)(fm:gR P w K mg dh):eF P w K mg dh (k9 P w) 9 f fd ["self", "place"] (iw (gM dN dt ij 5 2)):=by
 refine F.rN zj (fun ds μ Kd Kx h=>je h) (fun fR A dA s H E hr eG Kb Z=>⟨_,(dD (gC (fq Z.z fm dF.cl hr.le (dv 0) (a1 (fW (a2 dE (dv 1))))))),fun ds μ m Kd Kx hm hl em h hK=>?_⟩)
 unfold gM at h
 obtain⟨_,h⟩:=h
 split at h
 ·rename_i k xs
  obtain⟨e,hw,hx,_,j1,j2,ss,rs,d,S,e',ra,es,he,eE,iT,kk⟩:=h
  cases e <;> cases hw
  cases hx
  have rg:=ra.gx (m:=.gx eG H)
  refine⟨fP rg rfl,zs,dZ em,⟨_,dZ em⟩,j1,j2,ss,rs,d,S,e',rg,es,he,eE,iT,?_⟩
  cases er:ik S e' with
  | some i=>rw[er]at kk;exact(fb hK em kk).2
  | none =>
   rw[er]at kk
   obtain⟨g1,g2⟩:=jA ra (m:=.gx eG H) (ss':=ss.take (d+1)++[mF S e']) (rs':=rs.take d++[e']) (d':=d+1) em
   exact .keep ⟨g2,by rw[g1];exact kk⟩
 ·exact h.elim
def z5 {f:Addr}{fd:ag}(F:gL K "shut" "Room.shut" lV f fd)(T:ir mg)(dF:hZ K dN)(fm:gR P w K mg dh):eF P w K mg dh (k9 P w) 9 f fd ["self", "place"] (iw (gM dN dt ij 6 2)):=by
 refine F.rN zh (fun ds μ Kd Kx h=>je h) (fun fR A dA s H E hr eG Kb Z=>⟨_,(dD (gC (fq Z.z fm dF.cl hr.le (dv 0) (a1 (fW (a2 dE (dv 1))))))),fun ds μ m Kd Kx hm hl em h hK=>?_⟩)
 unfold gM at h
 obtain⟨_,h⟩:=h
 split at h
 ·rename_i k xs
  obtain⟨e,hw,hx,_,j1,j2,ss,rs,d,S,e',ra,es,he,eE,iT,kk⟩:=h
  cases e <;> cases hw
  cases hx
  have rg:=ra.gx (m:=.gx eG H)
  refine⟨fP rg rfl,zs,dZ em,⟨_,dZ em⟩,j1,j2,ss,rs,d,S,e',rg,es,he,eE,iT,?_⟩
  cases er:ik S e' with
  | some i=>rw[er]at kk;exact(fb hK em kk).2
  | none =>
   rw[er]at kk
   obtain⟨g1,g2⟩:=jA ra (m:=.gx eG H) (ss':=ss.take (d+1)++[mF S e']) (rs':=rs.take d++[e']) (d':=d+1) em
   exact .keep ⟨g2,by rw[g1];exact kk⟩
 ·exact h.elim
def ok_method {f:Addr}{fd:ag}(F:gL K "_law_method" "_law_method" rF f fd)(T:ir mg)(dF:hZ K dN)(EO:xn P w K mg dh)(Dl:uJ P w K mg dh)(A7:sI P w K mg dh)(Dr:uO P w K mg dh)(Dn:uL P w K mg dh)(Dm:uK P w K mg dh)(Dk:uI P w K mg dh):eF P w K mg dh (k9 P w) 10 f fd ["_law_room", "_law_deed"] (iw (mE dN dt ij)):=by
 refine F.rN sc_method (fun ds μ Kd Kx h=>xc h) (fun fR A dA s H E hr eG Kb Z=>⟨_,(du (fA (ma (eS (dv 1) dq) dE)
  (dD (dY (fq Z.z EO dF.cl hr.le (dv 0) (a3 (eS (dv 1) dq) (eS (dv 1) dq) (eS (dv 1) dq)))))
  eQ)
  (du (fA (ma (eS (dv 1) dq) dE)
  (dD (dY (fq Z.z Dl dF.cl hr.le (dv 0) (dr (eS (dv 1) dq) (dr (eS (dv 1) dq) (dr (eS (dv 1) dq) (dr (eS (dv 1) dq) fo)))))))
  eQ)
  (du (fA (ma (eS (dv 1) dq) dE)
  (dD (dY (fq Z.z A7 dF.cl hr.le (dv 0) (a3 (eS (dv 1) dq) (eS (dv 1) dq) (eS (dv 1) dq)))))
  eQ)
  (du (fA (ma (eS (dv 1) dq) dE)
  (dD (dY (fq Z.z Dr dF.cl hr.le (dv 0) (a2 (eS (dv 1) dq) (eS (dv 1) dq)))))
  eQ)
  (du (fA (ma (eS (dv 1) dq) dE)
  (dD (dY (fq Z.z Dn dF.cl hr.le (dv 0) (a1 (eS (dv 1) dq)))))
  eQ)
  (du (fA (ma (eS (dv 1) dq) dE)
  (dD (dY (fq Z.z Dm dF.cl hr.le (dv 0) (a1 (eS (dv 1) dq)))))
  eQ)
  (dD (dY (fq Z.z Dk dF.cl hr.le (dv 0) (a1 (eS (dv 1) dq))))))))))),fun ds μ m Kd Kx hm hl em h hK=>?_⟩)
 unfold mE at h
 split at h
 ·rename_i k y
  obtain⟨_,j1,j2,ss,rs,d,S,e,ra,es,rfl,eE,iT,kk⟩:=h
  have rg:=ra.gx (m:=.gx eG H)
  have fin:mE dN dt ij [.mr k,oQ e] (μ.set 0 (.gx eG H)) (fun d μ'=>Fz (μ.set 0 (.gx eG H)).length (gK eG H m Kd) d μ') Kb:=by
   refine⟨⟨_,dZ em⟩,j1,j2,ss,rs,d,S,e,rg,es,rfl,eE,iT,?_⟩
   cases er:ik S e with
   | some i=>rw[er]at kk;exact(fb hK em kk).2
   | none =>
    rw[er]at kk
    obtain⟨g1,g2⟩:=jA ra (m:=.gx eG H) (ss':=ss.take (d+1)++[mF S e]) (rs':=rs.take d++[e]) (d':=d+1) em
    exact .keep ⟨g2,by rw[g1];exact kk⟩
  cases e with
  | put nm b a=>exact dn rfl (⟨fP rg rfl,dn rfl (dn rfl (dn rfl ⟨dZ em,⟨rfl,_,dZ em⟩,.put nm b a,rfl,rfl,fin⟩))⟩)
  | join nm l r p=>exact dn rfl (dn rfl (⟨fP rg rfl,dn rfl (dn rfl (dn rfl (dn rfl ⟨dZ em,⟨rfl,_,dZ em⟩,.join nm l r p,rfl,rfl,fin⟩)))⟩))
  | found nm bar sg=>exact dn rfl (dn rfl (dn rfl (⟨fP rg rfl,dn rfl (dn rfl (dn rfl ⟨dZ em,⟨rfl,_,dZ em⟩,.found nm bar sg,rfl,rfl,fin⟩))⟩)))
  | kR nm a=>exact dn rfl (dn rfl (dn rfl (dn rfl (⟨fP rg rfl,dn rfl (dn rfl ⟨dZ em,⟨rfl,_,dZ em⟩,.kR nm a,rfl,rfl,fin⟩)⟩))))
  | drop nm=>exact dn rfl (dn rfl (dn rfl (dn rfl (dn rfl (⟨fP rg rfl,dn rfl ⟨dZ em,⟨rfl,_,dZ em⟩,.drop nm,rfl,rfl,fin⟩⟩)))))
  | free p=>exact dn rfl (dn rfl (dn rfl (dn rfl (dn rfl (dn rfl (⟨fP rg rfl,dn rfl ⟨dZ em,⟨rfl,_,dZ em⟩,.free p,rfl,rfl,fin⟩⟩))))))
  | fe p=>exact dn rfl (dn rfl (dn rfl (dn rfl (dn rfl (dn rfl (⟨fP rg rfl,dn rfl ⟨dZ em,⟨rfl,_,dZ em⟩,.fe p,rfl,rfl,fin⟩⟩))))))
 ·exact h.elim
def zX {f:Addr}{fd:ag}(F:gL K "_law_by_method" "_law_by_method" lS f fd)(T:ir mg)(dF:hZ K dN)(jo:OwnCls "HissError" gF nh "ValueError.__new__" mg dh)(C_method:CK P w K mg dh)(A3:AM P w K mg dh):eF P w K mg dh jM 11 f fd ["_law_room", "_law_deed"] (gO (pD K ij gF dN dt)):=by
 refine F.oJ nz (fun ds μ Kd h=>by unfold pD at h;split at h <;> first | rfl | exact h.elim) (fun fR A dA s H E hr=>⟨_,(du (s_try rfl rfl rfl nz.nd (i:=3) rfl rfl rfl jo.bound (fun pn xe eG H0 Kx Zt=>(dD (qS 2 nz.nd (kP Zt C_method hr.le rfl (a2 (dv 0) (dv 1))))))
  (fun pn e eM H1 kx hk hk0=>(dD (dY (fW (a2 dE (Gb (H0:=H1) hk hk0 rfl A3 (roomM hr.le) rfl (a1 (dv 3)))))))))
  (dD (dY (fW (a2 dE (d_isN (dv 2))))))),fun ds μ Kd hm hl h=>?_⟩)
 unfold pD at h
 split at h
 ·rename_i k y
  obtain⟨⟨m,em⟩,KA,j1,j2,ss,rs,d,S,e,ra,es,rfl,eE,iT,kk⟩:=h
  have h0:0<μ.length:=(lK em).1
  refine⟨m,em,fun eG H0=>?_⟩
  have rg:=ra.gx (m:=.gx eG H0)
  refine⟨dZ em,⟨_,dZ em⟩,j1,j2,ss,rs,d,S,e,rg,es,rfl,eE,iT,?_⟩
  cases er:ik S e with
  | none =>
   rw[er]at kk
   obtain⟨g1,g2⟩:=jA ra (m:=.gx eG H0) (ss':=ss.take (d+1)++[mF S e]) (rs':=rs.take d++[e]) (d':=d+1) em
   refine⟨g2,?_⟩
   rw[g1]
   exact⟨zs,.keep kk⟩
  | some i =>
   rw[er]at kk
   have KB:=KA i (rJ er)
   refine⟨dZ em,?_⟩
   rw[nU em]
   refine⟨ij.getD i 0,rfl,KB.sub,fun eM H1=>?_⟩
   have FQ:(μ++[MO.exc (.ref (ij.getD i 0))])[0]?=some m:=by rw[uU h0];exact em
   have ex2:((μ++[MO.exc (.ref (ij.getD i 0))]).set 0 (.gx eM H1))[μ.length]?=some (.exc (.ref (ij.getD i 0))):=by
    rw[av (by omega),qx (ah _),aT];rfl
   refine⟨⟨dZ FQ,_,ex2⟩,⟨_,dZ FQ⟩,by omega,i,by have:=rJ er;omega,ex2,KB,zs,dZ FQ,?_⟩
   rw[nU FQ]
   refine .drop ?_ (gH hm) ?_
   ·exact⟨trivial,⟨trivial,trivial⟩,trivial⟩
   ·rw[aV];exact kk
 ·exact h.elim
set_option maxHeartbeats 8000000 in
def ok_law {f:Addr}{fd:ag}(F:gL K "law" "law" oC f fd)(T:ir mg)(dF:hZ K dN)(KA:∀ j,j<16->kS K ij gF j)(C_box:c_box P w K mg dh)(eO:n9 P w K mg dh)(C_begun:c_begun P w K mg dh)(kA:kz P w K mg dh)(C_wild:c_wild P w K mg dh)(C_word:c_word P w K mg dh)(jJ:Et P w K mg dh)(C_told:c_told P w K mg dh)(Di:uF P w K mg dh)(C_done:c_done P w K mg dh)(Dg:CJ P w K mg dh)(sR:sJ P w K mg dh):eF P w K mg dh jM 13 f fd ["_law_script"] (spLaw K):=by
 refine F.ok ky (fun vs H Q E h=>?_) (fun fR A dA s H vs Q E hr h=>?_)
 ·obtain⟨a,ns,rfl,_⟩:=h;rfl
 ·obtain⟨a,ns,rfl,hs,hl,k⟩:=h
  refine⟨_,gg (tw (i:=1) ky.nd rfl (by first | exact Or.inl rfl | exact Or.inr rfl) (wq C_box (hr.mono (by first | decide | exact ah _ | omega)) rfl (d8 (jO 0) gh))) (du (jy (qC C_begun hr (a2 (dv 1) dq)) ⟨(fX (n:=3) rfl (dG (qN 2 ky.nd) (dG (qN 3 ky.nd) (dG (qN 4 ky.nd) fB)))),(gS (dU (dQ 2) (dk 2) (dU (dQ 3) (dk 3) (dU (dQ 4) (dk 4) gT dP) (dz (dk 4) dP)) (dz (dk 3) (dz (dk 4) dP)))),(gV (dz (dk 2) (dz (dk 3) (dz (dk 4) dP))))⟩)
   (du (qS 5 ky.nd (CB kA hr.le rfl (a1 (eS (dv 3) dq))))
   (du (qS 6 ky.nd (iM true fo))
   (du (ud bN rfl (iX rfl T.range (a1 (qC eO hr (a2 (dv 1) dq)))) (qT 7 ky.nd)
   (du (qS 8 ky.nd (qC C_wild hr (a3 (dv 1) (dv 3) (dv 4))))
   (du (qS 9 ky.nd (qC C_word hr (a2 (dv 3) (dv 8))))
   (du (qS 10 ky.nd (xi (qNe (dv 9) dE) (fW (a2 dE (iM false (a1 (dv 9))))) (fW (a2 dE tS))))
   (du (fA (PW.pt (nk (lg (gJ (qC jJ hr (a2 (qC Di hr (a2 (dv 2) (dv 8))) (dv 10))))) (jN (lg (gJ (qC jJ hr (a2 (qC C_told hr (a2 (dv 5) (dv 8))) (dv 10))))))))
   (dD (dY tS))
   eQ)
   (dD (fA (ma (dv 9) dE)
   (du (qS 3 ky.nd (qC C_done hr (a2 (dv 3) (dv 8))))
   (dD (gC (Az PySem.F.plainAttrs_list PySem.F.slot_list_append PySem.F.type_list_append appendC yn (dv 6) (a1 (dv 8))))))
   eQ)))))))
   (du (fA (PW.pt (nk (lg (gJ (qC Dg hr (a2 (dv 2) (dv 3))))) (jN (lg (gJ (qC Dg hr (a2 (dv 5) (dv 3))))))))
   (dD (dY tS))
   eQ)
   (dD (dY (CC (qC jJ hr (a2 (gw sR dF.cl hr.le (dv 2)) (dv 6))) (FZ (qC jJ hr (a2 (gw sR dF.cl hr.le (dv 5)) (dv 6)))))))))))),?_⟩
  refine⟨ns,hs,fun b q H0 B0 hb0 qY S0=>?_⟩
  refine law_go (m:=9) B0 ?_ k
  refine⟨⟨_,rfl⟩,rfl,by decide,by decide,by decide,fun n fg h1 h2 hp=>⟨rfl,dn rfl ⟨trivial,⟨_,rfl⟩,by show(4:Nat)≠0;decide,rfl,?_⟩⟩⟩
  rw[aj (show 1<=n/\n<=40 by omega)]
  have ra0:eU dN dt ([MO.box]++[.ins dN zJ [.mr 2,.mr 3,.int 0],.lst [lj dt ⟨n,[],[]⟩],.lst []]) 1 2 3 [⟨n,[],[]⟩] [] 0:=eU.made (by decide) h1 (by omega)
  have rb0:eU dN dt (([MO.box]++[.ins dN zJ [.mr 2,.mr 3,.int 0],.lst [lj dt ⟨n,[],[]⟩],.lst []])++[.ins dN zJ [.mr 5,.mr 6,.int 0],.lst [lj dt ⟨n,[],[]⟩],.lst []]) 4 5 6 [⟨n,[],[]⟩] [] 0:=eU.made (by simp) h1 (by omega)
  refine⟨rfl,zs,rfl,by decide,by decide,fun t t0 t1=>⟨by omega,by omega,?_⟩⟩
  refine jD (fun ds ρ μ'=>∃(i j:Nat) (ss:List RS) (rs:List Dd) (S:RS) (v7 v8 v9 va:Option D),ds=kN i j/\i+j=t.toNat/\rs.length<=i/\eU dN dt μ' 1 2 3 ss rs rs.length/\eU dN dt μ' 4 5 6 ss rs rs.length/\ss[rs.length]?=some S/\μ'[0]?=some .box/\μ'[7]?=some (.lst (rs.map oQ))/\ρ=[none,some (.mr 0),some (.mr 1),some (rl S),some (ql fg),some (.mr 4),some (.mr 7),v7,v8,v9,va]) ⟨0,t.toNat,[⟨n,[],[]⟩],[],⟨n,[],[]⟩,none,none,none,none,rfl,by omega,ah _,(ra0.more (g:=[.ins dN zJ [.mr 5,.mr 6,.int 0],.lst [lj dt ⟨n,[],[]⟩],.lst []])).more (g:=[.lst []]),rb0.more (g:=[.lst []]),rfl,rfl,rfl,rfl⟩ ?_ ?_
  ·rintro d' ds' ρ μ' ⟨i,j,ss,rs,S,v7,v8,v9,va,e1,hij,hrl,ra,rb,es,Ca,hl7,rfl⟩
   refine⟨trivial,fun nx Ed=>?_⟩
   cases j with
   | zero=>cases e1
   | succ j =>
    rw[kW]at e1
    cases e1
    have wf:=ra.wf _ S es
    have l7:7<μ'.length:=(lK hl7).1
    refine⟨Ca,S,_,fg,rfl,rfl,wf,hp,fun e eE=>⟨S,_,e,rfl,rfl,rfl,wf,eE,?_⟩⟩
    have wn:=qZ (o:=ik S e) fun i h=>by have:=rJ h;omega
    dsimp only
    refine sC (d:=dueD (ik S e)) (μ':=μ') (fun K k=>?_) ?_
    ·refine n4 (true != decide (kg (ik S e)=("" : Str))) (.iu fun K k=>k) (fun q=>?_) (fun q=>?_)
     ·rw[wn]at q
      cases er:ik S e with
      | none=>rw[er]at q;cases q
      | some i=>rw[er]at k;exact⟨zs,zs,k⟩
     ·rw[wn]at q
      cases er:ik S e with
      | some i=>rw[er]at q;cases q
      | none=>rw[er]at k;exact⟨zs,k⟩
    dsimp only
    obtain⟨ν,hν⟩:∃ ν,ν=mB dN dt μ' 1 2 3 (ss.take (rs.length+1)++[mF S e]) (rs.take rs.length++[e]) (rs.length+1):=⟨_,rfl⟩
    have rb1:eU dN dt ν 4 5 6 ss rs rs.length:=by rw[hν];exact rb.putO (by decide)
    have n0:ν[0]?=some .box:=by rw[hν,vg (by decide) (by decide) (by decide)];exact Ca
    obtain⟨ξ,hξ⟩:∃ ξ,ξ=mB dN dt ν 4 5 6 (ss.take (rs.length+1)++[mF S e]) (rs.take rs.length++[e]) (rs.length+1):=⟨_,rfl⟩
    refine dIf_gen (fun b fw=>b=false/\((∃ i,ik S e=some i)/\fw=μ'\/ik S e=none/\fw=ξ)) (fun K k=>?_) (fun fw h=>by cases h.1) (fun fw h=>?_)
    ·refine⟨⟨_,Ca⟩,KA,2,3,ss,rs,rs.length,S,e,ra,es,rfl,eE,by omega,?_⟩
     cases er:ik S e with
     | some i =>
      refine⟨dueD (some i),rfl,rfl,y7 _,⟨_,Ca⟩,KA,5,6,ss,rs,rs.length,S,e,rb,es,rfl,eE,by omega,?_⟩
      rw[er]
      exact⟨dueD (some i),rfl,rfl,y7 _,k _ _ ⟨rfl,.inl ⟨⟨i,er⟩,rfl⟩⟩⟩
     | none =>
      refine⟨dueD none,rfl,rfl,y7 _,?_⟩
      rw[<- hν]
      refine⟨⟨_,n0⟩,KA,5,6,ss,rs,rs.length,S,e,rb1,es,rfl,eE,by omega,?_⟩
      rw[er]
      refine⟨dueD none,rfl,rfl,y7 _,?_⟩
      rw[<- hξ]
      exact k _ _ ⟨rfl,.inr ⟨er,rfl⟩⟩
    ·obtain⟨_,h⟩:=h
     refine fZ ?_
     dsimp only
     refine eZ (false != decide (kg (ik S e)=("" : Str))) (.iu fun K k=>k) (fun q=>?_) (fun q=>?_)
     ·rw[wn]at q
      rcases h with⟨⟨i,er⟩,_⟩ | ⟨er,h2⟩
      ·rw[er]at q;cases q
      rw[h2]
      obtain⟨g1,g2,g3,g4⟩:=ra.grow es er (by omega)
      obtain⟨_,_,g5,_⟩:=rb1.grow es er (by omega)
      rw[g1,g2]at hν hξ
      rw[<- hν]at g3
      rw[<- hξ]at g5
      have g3:eU dN dt ξ 1 2 3 (ss++[mF S e]) (rs++[e]) (rs.length+1):=by rw[hξ];exact g3.putO (by decide)
      have n7:ξ[7]?=some (.lst (rs.map oQ)):=by rw[hξ,vg (by decide) (by decide) (by decide),hν,vg (by decide) (by decide) (by decide)];exact hl7
      have x0:ξ[0]?=some .box:=by rw[hξ,vg (by decide) (by decide) (by decide)];exact n0
      have nl:7<ξ.length:=by rw[hξ,BB,hν,BB];exact l7
      have el:(rs++[e]).length=rs.length+1:=by rw[lx];rfl
      refine⟨S,e,_,rfl,rfl,wf,by omega,er,lvM_ty (lu n7),dn (lu n7) ⟨by rw[fF];exact aw (m:=1000) (by omega) (sz (by omega)),?_⟩⟩
      exact Ed _ _ ⟨i+1,j,ss++[mF S e],rs++[e],mF S e,_,_,_,_,by rw[cY];rfl,by omega,by omega,by rw[el];exact g3.other (by decide) (by decide) (by decide),by rw[el];exact g5.other (by decide) (by decide) (by decide),by rw[el];exact g4,by rw[av (by decide)];exact x0,by rw[aD nl,aK];rfl,rfl⟩
     ·rw[wn]at q
      rcases h with⟨_,rfl⟩ | ⟨er,_⟩
      ·exact fZ (Ed _ _ ⟨i+1,j,ss,rs,S,_,_,_,_,by rw[cY];rfl,by omega,by omega,ra,rb,es,Ca,hl7,rfl⟩)
      ·rw[er]at q;cases q
  ·rintro ρ μ' ⟨i,j,ss,rs,S,v7,v8,v9,va,e1,hij,hrl,ra,rb,es,Ca,hl7,rfl⟩
   cases j with
   | succ j=>rw[kW]at e1;cases e1
   | zero =>
    refine⟨trivial,?_⟩
    dsimp only
    refine eZ (!true||!true) (.or (.not (.iu fun K k=>⟨⟨_,Ca⟩,2,3,_,_,_,_,ra,es,rfl,k⟩)) fun _=>.not (.iu fun K k=>⟨⟨_,Ca⟩,5,6,_,_,_,_,rb,es,rfl,k⟩)) (fun q=>by cases q) (fun _=>?_)
    refine fZ ?_
    have f1:frzD μ' (.mr 7)=some (.lst (rs.map oQ)):=by show(Ag _ _).map D.lst=_;rw[lu hl7];rfl
    have f2:frzD μ' (.lst ((if true=true then rs.take rs.length else rs.drop rs.length).map oQ))=some (.lst (rs.map oQ)):=by
     show some (D.lst _)=_
     rw[aj rfl,aX (ah _)]
    exact⟨fP ra rfl,2,3,ss,rs,rs.length,ra,.lst (rs.map oQ),f2,f1,sm_dds (by omega),fP rb rfl,5,6,ss,rs,rs.length,rb,.lst (rs.map oQ),f2,f1,sm_dds (by omega),rfl⟩
end
def Dx:Value:=(.str "hissroom.errors" 194)
def jr:Value:=(.str "law_hissroom_k48_methods_do_their_deeds" 1017)
def kM2:Value:=(.str "hissroom.bars" 497)
def ni:Value:=(.str "hissroom.stand" 521)
def oF:Value:=(.str "hissroom.room" 764)
def kk (P:Params):aa:=List.flatten [[ko 3 (mainO P "law_hissroom_k48_methods_do_their_deeds" 1017 [me "_wall" 193 (.ref 21),me "HissError" 213 (.ref 31),me "BadBars" 229 (.ref 44),me "BadMake" 245 (.ref 56),me "BadNumber" 261 (.ref 68),me "BadText" 277 (.ref 80),me "BadName" 293 (.ref 92),me "BadAge" 309 (.ref 104),me "BadBar" 325 (.ref 116),me "BadPlace" 341 (.ref 128),me "Taken" 357 (.ref 140),me "Full" 373 (.ref 152),me "NoTake" 389 (.ref 164),me "Shut" 405 (.ref 176),me "Joined" 421 (.ref 188),me "Needed" 437 (.ref 200),me "NothingLeft" 453 (.ref 212),me "BadSize" 469 (.ref 224),me "NoWay" 496 (.ref 243),me "is_bars" 506 (.ref 252),me "joined" 520 (.ref 259),me "MOST_LETTERS" 524 (.int 8 523),me "MOST_TAKES" 526 (.int 20 525),me "OLDEST" 528 (.int 20 527),me "Stand" 620 (.ref 316),me "put" 633 (.ref 327),me "join" 646 (.ref 334),me "found" 663 (.ref 341),me "aged" 676 (.ref 348),me "drop" 682 (.ref 353),me "free" 692 (.ref 360),me "shut" 702 (.ref 367),me "DEEDS" 717 (.ref 368),me "stand_behind" 726 (.ref 375),me "check_new" 732 (.ref 380),me "check_age" 739 (.ref 387),me "check_place" 747 (.ref 394),me "with_key" 757 (.ref 401),me "without_key" 763 (.ref 406),me "LONGEST" 767 (.int 40 766),me "Room" 1016 (.ref 612),me "_law_box" 1025 (.ref 623),me "_law_take" 1037 (.ref 630),me "_law_names" 1043 (.ref 635),me "_law_begun" 1052 (.ref 642),me "_law_bars" 1058 (.ref 647),me "_law_origin" 1072 (.ref 654),me "_law_ages" 1082 (.ref 661),me "_law_heard" 1088 (.ref 666),me "_law_takes" 1094 (.ref 671),me "_law_open" 1100 (.ref 676),me "_law_done" 1115 (.ref 683),me "_law_lone" 1121 (.ref 688),me "_law_easy" 1127 (.ref 693),me "_law_any_name" 1137 (.ref 700),me "_law_bent_deed" 1149 (.ref 707),me "_law_wild" 1160 (.ref 714),me "_law_named" 1166 (.ref 719),me "_law_new_word" 1174 (.ref 726),me "_law_place_word" 1182 (.ref 733),me "_law_put_word" 1188 (.ref 738),me "_law_join_word" 1197 (.ref 745),me "_law_take_word" 1207 (.ref 752),me "_law_word" 1215 (.ref 759),me "_law_kinds" 1221 (.ref 764),me "_law_told" 1231 (.ref 771),me "_law_same" 1237 (.ref 776),me "_law_stands" 1252 (.ref 783),me "_law_method" 1260 (.ref 790),me "_law_by_method" 1270 (.ref 797),me "law" 1287 (.ref 804)])],[ko 316 ⟨.type "type",none,(.cls ⟨"Stand",[.type "object"],[.ref 316,.type "object"],315, "Stand",true,[],[],false,none,false⟩),#[none,none,(some (.str "Stand" 529)),(some (.str "Stand" 537)),(some (.builtin "object.__new__")),(some (.bool true))]⟩,ko 315 ⟨.type "dict",none,(.dict #[iF P "__module__" 536 (.str "hissroom.stand" 521),iF P "__firstlineno__" 540 (.int 56 539),iF P "__init__" 551 (.ref 273),iF P "check_there" 559 (.ref 280),iF P "parts" 567 (.ref 287),iF P "source" 581 (.ref 294),iF P "takes_by_names" 594 (.ref 301),iF P "take" 602 (.ref 308),iF P "shelf" 608 (.ref 313),iF P "__static_attributes__" 613 (.ref 314),iF P "__dict__" 615 (.ref 317),iF P "__weakref__" 617 (.ref 318),iF P "__doc__" 618 (.none)] 4),#[]⟩],[ko 612 ⟨.type "type",none,(.cls ⟨"Room",[.type "object"],[.ref 612,.type "object"],611, "Room",true,[],[],false,none,false⟩),#[none,none,(some (.str "Room" 768)),(some (.str "Room" 776)),(some (.builtin "object.__new__")),(some (.bool true))]⟩,ko 611 ⟨.type "dict",none,(.dict #[iF P "__module__" 775 (.str "hissroom.room" 764),iF P "__firstlineno__" 779 (.int 173 778),iF P "__init__" 787 (.ref 420),iF P "now" 794 (.ref 427),iF P "put" 804 (.ref 434),iF P "join" 815 (.ref 441),iF P "found" 825 (.ref 448),iF P "aged" 834 (.ref 455),iF P "drop" 842 (.ref 462),iF P "free" 850 (.ref 469),iF P "shut" 858 (.ref 476),iF P "deed" 867 (.ref 483),iF P "undo" 874 (.ref 490),iF P "redo" 881 (.ref 497),iF P "deeds" 888 (.ref 504),iF P "ahead" 895 (.ref 511),iF P "size" 902 (.ref 518),iF P "names" 909 (.ref 525),iF P "bars" 917 (.ref 532),iF P "age" 925 (.ref 539),iF P "parts" 933 (.ref 546),iF P "source" 942 (.ref 553),iF P "cuts" 952 (.ref 560),iF P "takes" 962 (.ref 567),iF P "answer" 969 (.ref 574),iF P "least" 976 (.ref 581),iF P "few" 983 (.ref 588),iF P "after" 991 (.ref 595),iF P "coming" 998 (.ref 602),iF P "twin" 1005 (.ref 609),iF P "__static_attributes__" 1009 (.ref 610),iF P "__dict__" 1011 (.ref 613),iF P "__weakref__" 1013 (.ref 614),iF P "__doc__" 1014 (.none)] 4),#[]⟩],kx P 164 163 31 "NoTake" (some (.ref 155)) 374 382 Dx 381 27 162,kx P 116 115 31 "BadBar" (some (.ref 107)) 310 318 Dx 317 19 114,kx P 92 91 31 "BadName" (some (.ref 83)) 278 286 Dx 285 15 90,kx P 140 139 31 "Taken" (some (.ref 131)) 342 350 Dx 349 23 138,kx P 152 151 31 "Full" (some (.ref 143)) 358 366 Dx 365 25 150,kx P 104 103 31 "BadAge" (some (.ref 95)) 294 302 Dx 301 17 102,kx P 128 127 31 "BadPlace" (some (.ref 119)) 326 334 Dx 333 21 126,kx P 44 43 31 "BadBars" (some (.ref 35)) 214 222 Dx 221 7 42,kx P 176 175 31 "Shut" (some (.ref 167)) 390 398 Dx 397 29 174,kx P 188 187 31 "Joined" (some (.ref 179)) 406 414 Dx 413 31 186,kx P 200 199 31 "Needed" (some (.ref 191)) 422 430 Dx 429 33 198,kx P 224 223 31 "BadSize" (some (.ref 215)) 454 462 Dx 461 37 222,kx P 56 55 31 "BadMake" (some (.ref 47)) 230 238 Dx 237 9 54,kx P 68 67 31 "BadNumber" (some (.ref 59)) 246 254 Dx 253 11 66,kx P 80 79 31 "BadText" (some (.ref 71)) 262 270 Dx 269 13 78,kx P 212 211 31 "NothingLeft" (some (.ref 203)) 438 446 Dx 445 35 210,[ko 243 ⟨.type "type",none,(.cls ⟨"NoWay",[.ref 31],[.ref 243,.ref 31,.type "ValueError",.type "Exception",.type "BaseException",.type "object"],242, "NoWay",true,[],[],false,none,false⟩),#[(some (.ref 227)),none,(some (.str "NoWay" 470)),(some (.str "NoWay" 478)),(some (.builtin "ValueError.__new__")),(some (.bool true))]⟩,ko 242 ⟨.type "dict",none,(.dict #[iF P "__module__" 477 (.str "hissroom.errors" 194),iF P "__firstlineno__" 481 (.int 39 480),iF P "__init__" 490 (.ref 240),iF P "__static_attributes__" 493 (.ref 241),iF P "__doc__" 494 (.none)] 2),#[]⟩],[ko 31 ⟨.type "type",none,(.cls ⟨"HissError",[.type "ValueError"],[.ref 31,.type "ValueError",.type "Exception",.type "BaseException",.type "object"],30, "HissError",true,[],[.ref 44,.ref 56,.ref 68,.ref 80,.ref 92,.ref 104,.ref 116,.ref 128,.ref 140,.ref 152,.ref 164,.ref 176,.ref 188,.ref 200,.ref 212,.ref 224,.ref 243],false,none,false⟩),#[(some (.ref 22)),none,(some (.str "HissError" 196)),(some (.str "HissError" 204)),(some (.builtin "ValueError.__new__")),(some (.bool true))]⟩,ko 30 ⟨.type "dict",none,(.dict #[iF P "__module__" 203 (.str "hissroom.errors" 194),iF P "__firstlineno__" 207 (.int 5 206),iF P "__static_attributes__" 208 (.ref 29),iF P "__weakref__" 210 (.ref 32),iF P "__doc__" 211 (.none)] 3),#[]⟩],kf 623 622 "_law_box" "_law_box" Ff jr 1019 271 1 617 618 (.ref 619) (.ref 620) 621 1023,kf 630 629 "_law_take" "_law_take" zt jr 1026 273 2 624 625 (.ref 626) (.ref 627) 628 1035,kf 647 646 "_law_bars" "_law_bars" zE jr 1053 306 2 643 644 .none .none 645 1056,kf 776 775 "_law_same" "_law_same" s_same jr 1232 476 2 772 773 .none .none 774 1235,kf 252 251 "is_bars" "is_bars" p7 kM2 499 45 2 246 247 (.ref 248) (.ref 249) 250 504,kf 259 258 "joined" "joined" rG kM2 507 47 3 253 254 (.ref 255) (.ref 256) 257 518,kf 401 400 "with_key" "with_key" nF ni 748 165 3 395 396 (.ref 397) (.ref 398) 399 755,kf 406 405 "without_key" "without_key" jY ni 758 169 2 402 403 .none .none 404 761,kf 273 272 "__init__" "Stand.__init__" iI ni 541 58 5 267 268 (.ref 269) (.ref 270) 271 549,kf 280 279 "check_there" "Stand.check_there" g9 ni 552 64 2 274 275 (.ref 276) (.ref 277) 278 557,kf 287 286 "parts" "Stand.parts" j3 ni 560 68 2 281 282 (.ref 283) (.ref 284) 285 565,kf 294 293 "source" "Stand.source" jz ni 568 72 3 288 289 (.ref 290) (.ref 291) 292 579,kf 301 300 "takes_by_names" "Stand.takes_by_names" gr ni 582 84 1 295 296 (.ref 297) (.ref 298) 299 592,kf 308 307 "take" "Stand.take" kH ni 595 94 2 302 303 (.ref 304) (.ref 305) 306 600,kf 313 312 "shelf" "Stand.shelf" j0 ni 603 98 1 309 310 .none .none 311 606,kf 380 379 "check_new" "check_new" lQ ni 727 152 2 376 377 .none .none 378 730,kf 387 386 "check_age" "check_age" lR ni 733 159 1 381 382 (.ref 383) (.ref 384) 385 737,kf 394 393 "check_place" "check_place" jZ ni 740 162 2 388 389 (.ref 390) (.ref 391) 392 745,kf 327 326 "put" "put" Fe ni 621 101 2 321 322 (.ref 323) (.ref 324) 325 631,kf 334 333 "join" "join" zy ni 634 109 2 328 329 (.ref 330) (.ref 331) 332 644,kf 341 340 "found" "found" ve ni 647 118 2 335 336 (.ref 337) (.ref 338) 339 661,kf 348 347 "aged" "aged" zG ni 664 126 2 342 343 (.ref 344) (.ref 345) 346 674,kf 353 352 "drop" "drop" zC ni 677 133 2 349 350 .none .none 351 680,kf 360 359 "free" "free" zA ni 683 140 2 354 355 (.ref 356) (.ref 357) 358 690,kf 367 366 "shut" "shut" zu ni 693 144 2 361 362 (.ref 363) (.ref 364) 365 700,kf 375 374 "stand_behind" "stand_behind" jw ni 718 149 2 369 370 (.ref 371) (.ref 372) 373 724,kf 420 419 "__init__" "Room.__init__" jb oF 780 175 2 414 415 (.ref 416) (.ref 417) 418 785,kf 427 426 "now" "Room.now" nK oF 788 182 1 421 422 (.ref 423) (.ref 424) 425 792,kf 483 482 "deed" "Room.deed" lZ oF 859 206 2 477 478 (.ref 479) (.ref 480) 481 865,kf 504 503 "deeds" "Room.deeds" kM oF 882 221 1 498 499 (.ref 500) (.ref 501) 502 886,kf 518 517 "size" "Room.size" lU oF 896 227 1 512 513 (.ref 514) (.ref 515) 516 900,kf 525 524 "names" "Room.names" kK oF 903 230 1 519 520 (.ref 521) (.ref 522) 523 907,kf 532 531 "bars" "Room.bars" l6 oF 910 233 2 526 527 (.ref 528) (.ref 529) 530 915,kf 539 538 "age" "Room.age" nM oF 918 236 2 533 534 (.ref 535) (.ref 536) 537 923,kf 546 545 "parts" "Room.parts" kJ oF 926 239 2 540 541 (.ref 542) (.ref 543) 544 931,kf 553 552 "source" "Room.source" j4 oF 934 242 3 547 548 (.ref 549) (.ref 550) 551 940,kf 560 559 "cuts" "Room.cuts" l5 oF 943 245 1 554 555 (.ref 556) (.ref 557) 558 950,kf 567 566 "takes" "Room.takes" kI oF 953 249 1 561 562 (.ref 563) (.ref 564) 565 960,kf 434 433 "put" "Room.put" nJ oF 795 185 4 428 429 (.ref 430) (.ref 431) 432 802,kf 441 440 "join" "Room.join" lW oF 805 188 5 435 436 (.ref 437) (.ref 438) 439 813,kf 448 447 "found" "Room.found" kL oF 816 191 4 442 443 (.ref 444) (.ref 445) 446 823,kf 455 454 "aged" "Room.aged" l8 oF 826 194 3 449 450 (.ref 451) (.ref 452) 453 832,kf 462 461 "drop" "Room.drop" lY oF 835 197 2 456 457 (.ref 458) (.ref 459) 460 840,kf 469 468 "free" "Room.free" lX oF 843 200 2 463 464 (.ref 465) (.ref 466) 467 848,kf 476 475 "shut" "Room.shut" lV oF 851 203 2 470 471 (.ref 472) (.ref 473) 474 856,kf 635 634 "_law_names" "_law_names" u7 jr 1038 289 2 631 632 .none .none 633 1041,kf 642 641 "_law_begun" "_law_begun" vf jr 1044 303 2 636 637 (.ref 638) (.ref 639) 640 1050,kf 654 653 "_law_origin" "_law_origin" rE jr 1059 319 3 648 649 (.ref 650) (.ref 651) 652 1070,kf 661 660 "_law_ages" "_law_ages" zF jr 1073 326 1 655 656 (.ref 657) (.ref 658) 659 1080,kf 666 665 "_law_heard" "_law_heard" vd jr 1083 332 2 662 663 .none .none 664 1086,kf 671 670 "_law_takes" "_law_takes" u6 jr 1089 335 1 667 668 .none .none 669 1092,kf 676 675 "_law_open" "_law_open" zw jr 1095 338 1 672 673 .none .none 674 1098,kf 683 682 "_law_done" "_law_done" zD jr 1101 340 2 677 678 (.ref 679) (.ref 680) 681 1113,kf 688 687 "_law_lone" "_law_lone" zx jr 1116 359 1 684 685 .none .none 686 1119,kf 693 692 "_law_easy" "_law_easy" zB jr 1122 366 3 689 690 .none .none 691 1125,kf 783 782 "_law_stands" "_law_stands" rD jr 1238 486 2 777 778 (.ref 779) (.ref 780) 781 1250,kf 719 718 "_law_named" "_law_named" u9 jr 1161 411 1 715 716 .none .none 717 1164,kf 726 725 "_law_new_word" "_law_new_word" nH jr 1167 413 2 720 721 (.ref 722) (.ref 723) 724 1172,kf 733 732 "_law_place_word" "_law_place_word" kG jr 1175 419 2 727 728 (.ref 729) (.ref 730) 731 1180,kf 738 737 "_law_put_word" "_law_put_word" nG jr 1183 421 2 734 735 .none .none 736 1186,kf 745 744 "_law_join_word" "_law_join_word" lP jr 1189 428 2 739 740 (.ref 741) (.ref 742) 743 1195,kf 752 751 "_law_take_word" "_law_take_word" lO jr 1198 437 2 746 747 (.ref 748) (.ref 749) 750 1205,kf 759 758 "_law_word" "_law_word" zp jr 1208 453 2 753 754 (.ref 755) (.ref 756) 757 1213,kf 700 699 "_law_any_name" "_law_any_name" nI jr 1128 387 3 694 695 (.ref 696) (.ref 697) 698 1135,kf 707 706 "_law_bent_deed" "_law_bent_deed" lT jr 1138 390 4 701 702 (.ref 703) (.ref 704) 705 1147,kf 714 713 "_law_wild" "_law_wild" zq jr 1150 403 3 708 709 (.ref 710) (.ref 711) 712 1158,kf 764 763 "_law_kinds" "_law_kinds" vc jr 1216 461 1 760 761 .none .none 762 1219,kf 771 770 "_law_told" "_law_told" zr jr 1222 470 2 765 766 (.ref 767) (.ref 768) 769 1229,kf 790 789 "_law_method" "_law_method" rF jr 1253 505 2 784 785 (.ref 786) (.ref 787) 788 1258,kf 797 796 "_law_by_method" "_law_by_method" lS jr 1261 519 2 791 792 (.ref 793) (.ref 794) 795 1268,kf 804 803 "law" "law" oC jr 1271 525 1 798 799 (.ref 800) (.ref 801) 802 1285,[ko 368 ⟨.type "dict",none,(.dict #[iF P "put" 703 (.ref 327),iF P "join" 704 (.ref 334),iF P "found" 705 (.ref 341),iF P "aged" 706 (.ref 348),iF P "drop" 707 (.ref 353),iF P "free" 708 (.ref 360),iF P "shut" 709 (.ref 367)] 7),#[]⟩]]
def hk:W.Hook:=W.kHook kk [3,316,315,612,611,164,163,116,115,92,91,140,139,152,151,104,103,128,127,44,43,176,175,188,187,200,199,224,223,56,55,68,67,80,79,212,211,243,242,31,30,623,622,630,629,647,646,776,775,252,251,259,258,401,400,406,405,273,272,280,279,287,286,294,293,301,300,308,307,313,312,380,379,387,386,394,393,327,326,334,333,341,340,348,347,353,352,360,359,367,366,375,374,420,419,427,426,483,482,504,503,518,517,525,524,532,531,539,538,546,545,553,552,560,559,567,566,434,433,441,440,448,447,455,454,462,461,469,468,476,475,635,634,642,641,654,653,661,660,666,665,671,670,676,675,683,682,688,687,693,692,783,782,719,718,726,725,733,732,738,737,745,744,752,751,759,758,700,699,707,706,714,713,764,763,771,770,790,789,797,796,804,803,368] (fun _=>by kernel_rfl)
def lw:W.OpenLaw:=PySem.Challenge.rw_hissroom_k48_methods_do_their_deeds
def qq:ae:={ lw.prog with main:={ lw.prog.main with body:=[oC]}}
def ll:List Str:=[sS "_wall",sS "HissError",sS "BadBars",sS "BadMake",sS "BadNumber",sS "BadText",sS "BadName",sS "BadAge",sS "BadBar",sS "BadPlace",sS "Taken",sS "Full",sS "NoTake",sS "Shut",sS "Joined",sS "Needed",sS "NothingLeft",sS "BadSize",sS "NoWay",sS "is_bars",sS "joined",sS "MOST_LETTERS",sS "MOST_TAKES",sS "OLDEST",sS "Stand",sS "put",sS "join",sS "found",sS "aged",sS "drop",sS "free",sS "shut",sS "DEEDS",sS "stand_behind",sS "check_new",sS "check_age",sS "check_place",sS "with_key",sS "without_key",sS "LONGEST",sS "Room",sS "_law_box",sS "_law_take",sS "_law_names",sS "_law_begun",sS "_law_bars",sS "_law_origin",sS "_law_ages",sS "_law_heard",sS "_law_takes",sS "_law_open",sS "_law_done",sS "_law_lone",sS "_law_easy",sS "_law_any_name",sS "_law_bent_deed",sS "_law_wild",sS "_law_named",sS "_law_new_word",sS "_law_place_word",sS "_law_put_word",sS "_law_join_word",sS "_law_take_word",sS "_law_word",sS "_law_kinds",sS "_law_told",sS "_law_same",sS "_law_stands",sS "_law_method",sS "_law_by_method"]
def xt (s:Shared):Bool:=W.xlAt qq [] s&&W.recOk (W.RowW.records lw.row.toRowW) s
def left0:LeftT lw.prog qq ll xt hk.obs hk.val 6986 "special-get-raises" false:=fun w os=>by kernel_rfl
def left1:LeftT lw.prog qq ll xt hk.obs hk.val 6986 "special-get-raises" true:=fun w os=>by kernel_rfl
def left:W.LeftO lw.prog qq ll xt hk.obs hk.val 6986:=left_ofR (by kernel_rfl) rfl (fun s=>by kernel_rfl) rfl left0.at left1.at
def said:lw.wellSaid=true:=(congrFun W.Fast.te9446332074065402090 lw).trans (by kernel_rfl)
def dd:DefRec:=⟨"law",iq oC,gI oC,dw oC,defPos oC⟩
def holds (F:W.WalkO qq ll (W.XL qq []) hk.says lw.row.toRowW dd [] (fun f vs=>PySem.call f vs)):lw.Holds:=W.holds_law said fun k1=>W.holds_open (q:=qq) (loose:=ll) (Xt:=xt) (XP:=W.XL qq []) (d:=dd) (kwd:=[]) left hk.of hk.keeps (fun s e=>W.xl_of s (Bool.and_eq_true_iff.mp e).1) W.XL.keeps (by kernel_rfl) (by kernel_rfl) rfl (fun s e=>W.recFacts_of (Bool.and_eq_true_iff.mp e).2) rfl k1 (by kernel_rfl) ⟨rfl,rfl,rfl,rfl,rfl,by kernel_rfl⟩ ⟨[.list []],by kernel_rfl,by kernel_rfl⟩ F
set_option maxHeartbeats 40000000 in
def fin:W.WalkO qq ll (W.XL qq []) hk.says lw.row.toRowW dd [] (fun f vs=>PySem.call f vs):=by
 refine L2.walk_of (l:=lw) (d:=dd) (n:=63) (k:=13) (x := "_law_script") (K:=kk) (CX:=fun _=>jM) (sp:=fun w=>spLaw (kk w.params)) rfl (by decide) rfl ⟨rfl,by decide,by decide⟩ (fun w h Y=>W.kIn_of Y) (fun w mg fa h X G hfa=>?_) (fun _ _ a ns hl _ hS=>⟨a,ns,rfl,hS,hl,fun _=>rfl⟩) fun _ _ _ _ _ z=>z
 have e:=hfa.symm.trans (bV X G (show W.nsIn (kk w.params) mainGlobals "law"=sr 804 by kernel_rfl))
 cases e
 have T:ir mg:=⟨bh X G (by kernel_rfl),bh X G (by kernel_rfl),bh X G (by kernel_rfl),bh X G (by kernel_rfl),bh X G (by kernel_rfl),bh X G (by kernel_rfl),bh X G (by kernel_rfl),bh X G (by kernel_rfl),bh X G (by kernel_rfl),bh X G (by kernel_rfl),bh X G (by kernel_rfl),bh X G (by kernel_rfl),bh X G (by kernel_rfl),bh X G (by kernel_rfl),bh X G (by kernel_rfl),bh X G (by kernel_rfl),bh X G (by kernel_rfl)⟩
 have TV:mg "ValueError"=none:=bh X G (by kernel_rfl)
 have dm:gi (kk w.params) dt:=⟨⟨by kernel_rfl,by kernel_rfl,by kernel_rfl,by kernel_rfl⟩,by kernel_rfl,by kernel_rfl,by kernel_rfl,by kernel_rfl⟩
 have dF:hZ (kk w.params) dN:=⟨⟨by kernel_rfl,by kernel_rfl,by kernel_rfl,by kernel_rfl⟩,by kernel_rfl,by kernel_rfl,by kernel_rfl⟩
 have F0:=fQ (K:=kk w.params) "_law_box" "_law_box" Ff 623 jr 622
 have F1:=fQ (K:=kk w.params) "_law_take" "_law_take" zt 630 jr 629
 have F2:=fQ (K:=kk w.params) "_law_bars" "_law_bars" zE 647 jr 646
 have F3:=fQ (K:=kk w.params) "_law_same" "_law_same" s_same 776 jr 775
 have F4:=fQ (K:=kk w.params) "is_bars" "is_bars" p7 252 kM2 251
 have F5:=fQ (K:=kk w.params) "joined" "joined" rG 259 kM2 258
 have F6:=fQ (K:=kk w.params) "with_key" "with_key" nF 401 ni 400
 have F7:=fQ (K:=kk w.params) "without_key" "without_key" jY 406 ni 405
 have F8:=fQ (K:=kk w.params) "__init__" "Stand.__init__" iI 273 ni 272
 have F9:=fQ (K:=kk w.params) "check_there" "Stand.check_there" g9 280 ni 279
 have F10:=fQ (K:=kk w.params) "parts" "Stand.parts" j3 287 ni 286
 have F11:=fQ (K:=kk w.params) "source" "Stand.source" jz 294 ni 293
 have F12:=fQ (K:=kk w.params) "takes_by_names" "Stand.takes_by_names" gr 301 ni 300
 have F13:=fQ (K:=kk w.params) "take" "Stand.take" kH 308 ni 307
 have F14:=fQ (K:=kk w.params) "shelf" "Stand.shelf" j0 313 ni 312
 have F15:=fQ (K:=kk w.params) "check_new" "check_new" lQ 380 ni 379
 have F16:=fQ (K:=kk w.params) "check_age" "check_age" lR 387 ni 386
 have F17:=fQ (K:=kk w.params) "check_place" "check_place" jZ 394 ni 393
 have F18:=fQ (K:=kk w.params) "put" "put" Fe 327 ni 326
 have F19:=fQ (K:=kk w.params) "join" "join" zy 334 ni 333
 have F20:=fQ (K:=kk w.params) "found" "found" ve 341 ni 340
 have F21:=fQ (K:=kk w.params) "aged" "aged" zG 348 ni 347
 have F22:=fQ (K:=kk w.params) "drop" "drop" zC 353 ni 352
 have F23:=fQ (K:=kk w.params) "free" "free" zA 360 ni 359
 have F24:=fQ (K:=kk w.params) "shut" "shut" zu 367 ni 366
 have F25:=fQ (K:=kk w.params) "stand_behind" "stand_behind" jw 375 ni 374
 have F26:=fQ (K:=kk w.params) "__init__" "Room.__init__" jb 420 oF 419
 have F27:=fQ (K:=kk w.params) "now" "Room.now" nK 427 oF 426
 have F28:=fQ (K:=kk w.params) "deed" "Room.deed" lZ 483 oF 482
 have F29:=fQ (K:=kk w.params) "deeds" "Room.deeds" kM 504 oF 503
 have F30:=fQ (K:=kk w.params) "size" "Room.size" lU 518 oF 517
 have F31:=fQ (K:=kk w.params) "names" "Room.names" kK 525 oF 524
 have F32:=fQ (K:=kk w.params) "bars" "Room.bars" l6 532 oF 531
 have F33:=fQ (K:=kk w.params) "age" "Room.age" nM 539 oF 538
 have F34:=fQ (K:=kk w.params) "parts" "Room.parts" kJ 546 oF 545
 have F35:=fQ (K:=kk w.params) "source" "Room.source" j4 553 oF 552
 have F36:=fQ (K:=kk w.params) "cuts" "Room.cuts" l5 560 oF 559
 have F37:=fQ (K:=kk w.params) "takes" "Room.takes" kI 567 oF 566
 have F38:=fQ (K:=kk w.params) "put" "Room.put" nJ 434 oF 433
 have F39:=fQ (K:=kk w.params) "join" "Room.join" lW 441 oF 440
 have F40:=fQ (K:=kk w.params) "found" "Room.found" kL 448 oF 447
 have F41:=fQ (K:=kk w.params) "aged" "Room.aged" l8 455 oF 454
 have F42:=fQ (K:=kk w.params) "drop" "Room.drop" lY 462 oF 461
 have F43:=fQ (K:=kk w.params) "free" "Room.free" lX 469 oF 468
 have F44:=fQ (K:=kk w.params) "shut" "Room.shut" lV 476 oF 475
 have F45:=fQ (K:=kk w.params) "_law_names" "_law_names" u7 635 jr 634
 have F46:=fQ (K:=kk w.params) "_law_begun" "_law_begun" vf 642 jr 641
 have F47:=fQ (K:=kk w.params) "_law_origin" "_law_origin" rE 654 jr 653
 have F48:=fQ (K:=kk w.params) "_law_ages" "_law_ages" zF 661 jr 660
 have F49:=fQ (K:=kk w.params) "_law_heard" "_law_heard" vd 666 jr 665
 have F50:=fQ (K:=kk w.params) "_law_takes" "_law_takes" u6 671 jr 670
 have F51:=fQ (K:=kk w.params) "_law_open" "_law_open" zw 676 jr 675
 have F52:=fQ (K:=kk w.params) "_law_done" "_law_done" zD 683 jr 682
 have F53:=fQ (K:=kk w.params) "_law_lone" "_law_lone" zx 688 jr 687
 have F54:=fQ (K:=kk w.params) "_law_easy" "_law_easy" zB 693 jr 692
 have F55:=fQ (K:=kk w.params) "_law_stands" "_law_stands" rD 783 jr 782
 have F56:=fQ (K:=kk w.params) "_law_named" "_law_named" u9 719 jr 718
 have F57:=fQ (K:=kk w.params) "_law_new_word" "_law_new_word" nH 726 jr 725
 have F58:=fQ (K:=kk w.params) "_law_place_word" "_law_place_word" kG 733 jr 732
 have F59:=fQ (K:=kk w.params) "_law_put_word" "_law_put_word" nG 738 jr 737
 have F60:=fQ (K:=kk w.params) "_law_join_word" "_law_join_word" lP 745 jr 744
 have F61:=fQ (K:=kk w.params) "_law_take_word" "_law_take_word" lO 752 jr 751
 have F62:=fQ (K:=kk w.params) "_law_word" "_law_word" zp 759 jr 758
 have F63:=fQ (K:=kk w.params) "_law_any_name" "_law_any_name" nI 700 jr 699
 have F64:=fQ (K:=kk w.params) "_law_bent_deed" "_law_bent_deed" lT 707 jr 706
 have F65:=fQ (K:=kk w.params) "_law_wild" "_law_wild" zq 714 jr 713
 have F66:=fQ (K:=kk w.params) "_law_kinds" "_law_kinds" vc 764 jr 763
 have F67:=fQ (K:=kk w.params) "_law_told" "_law_told" zr 771 jr 770
 have F68:=fQ (K:=kk w.params) "_law_method" "_law_method" rF 790 jr 789
 have F69:=fQ (K:=kk w.params) "_law_by_method" "_law_by_method" lS 797 jr 796
 have F70:=fQ (K:=kk w.params) "law" "law" oC 804 jr 803
 refine⟨W.fnOf "law" "law" (iq oC) (gI oC) (dw oC) .none .none .none jr none (.ref 803) .none,fun s v=>.of_eq rfl,fun dh X0 G0=>?_⟩
 have m6:=iA (x := "NoTake") (C:=vA) (h:=dh) X0 G0 (by kernel_rfl) (by kernel_rfl)
 have m9:=iA (x := "BadBar") (C:=vD) (h:=dh) X0 G0 (by kernel_rfl) (by kernel_rfl)
 have k8:=iA (x := "BadName") (C:=pQ) (h:=dh) X0 G0 (by kernel_rfl) (by kernel_rfl)
 have qk:=iA (x := "Taken") (C:=AN) (h:=dh) X0 G0 (by kernel_rfl) (by kernel_rfl)
 have tW:=iA (x := "Full") (C:=cFull) (h:=dh) X0 G0 (by kernel_rfl) (by kernel_rfl)
 have nc:=iA (x := "BadAge") (C:=vE) (h:=dh) X0 G0 (by kernel_rfl) (by kernel_rfl)
 have jW:=iA (x := "BadPlace") (C:=qi) (h:=dh) X0 G0 (by kernel_rfl) (by kernel_rfl)
 have iK:=iA (x := "BadBars") (C:=pR) (h:=dh) X0 G0 (by kernel_rfl) (by kernel_rfl)
 have tV:=iA (x := "Shut") (C:=cShut) (h:=dh) X0 G0 (by kernel_rfl) (by kernel_rfl)
 have m8:=iA (x := "Joined") (C:=vC) (h:=dh) X0 G0 (by kernel_rfl) (by kernel_rfl)
 have m7:=iA (x := "Needed") (C:=vB) (h:=dh) X0 G0 (by kernel_rfl) (by kernel_rfl)
 have k7:=iA (x := "BadSize") (C:=sL) (h:=dh) X0 G0 (by kernel_rfl) (by kernel_rfl)
 have tY:=iA (x := "BadMake") (C:=xq) (h:=dh) X0 G0 (by kernel_rfl) (by kernel_rfl)
 have pU:=iA (x := "BadNumber") (C:=qU) (h:=dh) X0 G0 (by kernel_rfl) (by kernel_rfl)
 have tX:=iA (x := "BadText") (C:=xp) (h:=dh) X0 G0 (by kernel_rfl) (by kernel_rfl)
 have mK:=iA (x := "NothingLeft") (C:=oj) (h:=dh) X0 G0 (by kernel_rfl) (by kernel_rfl)
 have AW:OwnB "NoWay" Ew mg:=⟨bV X G (by kernel_rfl)⟩
 have jo:=iA (x := "HissError") (C:=gF) (h:=dh) X0 G0 (by kernel_rfl) (by kernel_rfl)
 have t6:AZ mg "LONGEST" 40:=⟨766,bV X G (by kernel_rfl)⟩
 have lH:AZ mg "MOST_LETTERS" 8:=⟨523,bV X G (by kernel_rfl)⟩
 have ou:AZ mg "MOST_TAKES" 20:=⟨525,bV X G (by kernel_rfl)⟩
 have xC:AZ mg "OLDEST" 20:=⟨527,bV X G (by kernel_rfl)⟩
 have AR:Tab lw.prog w (kk w.params) mg "DEEDS" [("put",CW),("join",xv),("found",sO),("aged",xy),("drop",xx),("free",xw),("shut",xu)]:=tab_of (x := "DEEDS") (d:=368) (n:=7) [("put",703,327),("join",704,334),("found",705,341),("aged",706,348),("drop",707,353),("free",708,360),("shut",709,367)] X G (by kernel_rfl) (by kernel_rfl) (by decide)
 have M_put:mg "put"=some (.ref CW):=bV X G (by kernel_rfl)
 have EH:mg "join"=some (.ref xv):=bV X G (by kernel_rfl)
 have AX:mg "found"=some (.ref sO):=bV X G (by kernel_rfl)
 have EK:mg "aged"=some (.ref xy):=bV X G (by kernel_rfl)
 have EJ:mg "drop"=some (.ref xx):=bV X G (by kernel_rfl)
 have EI:mg "free"=some (.ref xw):=bV X G (by kernel_rfl)
 have EG:mg "shut"=some (.ref xu):=bV X G (by kernel_rfl)
 have KA:∀ j,j<16->kS (kk w.params) ij gF j:=k16 kB kB kB kB kB kB kB kB kB kB kB kB kB kB kB kB
 have C0:c_box lw.prog w (kk w.params) mg dh:=fN X G F0 (ok_box F0 T ) (Dz F0)
 have C1:n9 lw.prog w (kk w.params) mg dh:=fN X G F1 (ok_take F1 T ) (mZ F1)
 have C2:c_bars lw.prog w (kk w.params) mg dh:=fN X G F2 (ok_bars F2 T  C1) (mZ F2)
 have C3:Et lw.prog w (kk w.params) mg dh:=fN X G F3 ((Fw F3 T  (bV X G (by kernel_rfl)) F3.kp (mZ F3)  5).imp fun vs H Q E h=>same_imp h) (mZ F3)
 have C4:yL lw.prog w (kk w.params) mg dh:=fN X G F4 (D1 F4 T ) (mZ F4)
 have C5:CL lw.prog w (kk w.params) mg dh:=fN X G F5 (ok_joined F5 T ) (bd3 F5)
 have C6:jV lw.prog w (kk w.params) mg dh:=fN X G F6 (BF F6 T ) (bd3 F6)
 have C7:mH lw.prog w (kk w.params) mg dh:=fN X G F7 (wu F7 T ) (mZ F7)
 have C8:ft lw.prog w (kk w.params) mg dh:=cali_of X G F8 (rM F8 T dm) (bd5 F8)
 have C9:gq lw.prog w (kk w.params) mg dh:=gm F9 (ph F9 T dm m6) (mZ F9)
 have C10:kc lw.prog w (kk w.params) mg dh:=gm F10 (wz F10 T dm C9) (mZ F10)
 have C11:lE lw.prog w (kk w.params) mg dh:=gm F11 (uS F11 T dm m9 C10) (bd3 F11)
 have C12:ie lw.prog w (kk w.params) mg dh:=mw F12 (mR F12 T dm C5) (Dz F12)
 have C13:og lw.prog w (kk w.params) mg dh:=gm F13 (xV F13 T dm C9 C12) (mZ F13)
 have C14:mI lw.prog w (kk w.params) mg dh:=mw F14 (wy F14 T dm C12) (Dz F14)
 have C15:pO lw.prog w (kk w.params) mg dh:=jc X G F15 (zV F15 T dm k8 qk tW ou lH) (mZ F15)
 have C16:pP lw.prog w (kk w.params) mg dh:=jc X G F16 (zW F16 T nc xC) (Dz F16)
 have C17:j9 lw.prog w (kk w.params) mg dh:=jc X G F17 (wx F17 T dm jW) (mZ F17)
 have C18:c_put lw.prog w (kk w.params) mg dh:=jc X G F18 (ok_put F18 T dm iK C15 C4 C16 C6 C8) (mZ F18)
 have C19:c_join lw.prog w (kk w.params) mg dh:=jc X G F19 (ok_join F19 T dm tV C15 C9 C17 C6 C8) (mZ F19)
 have C20:c_found lw.prog w (kk w.params) mg dh:=jc X G F20 (ok_found F20 T dm iK C11 C6 C8) (mZ F20)
 have C21:c_aged lw.prog w (kk w.params) mg dh:=jc X G F21 (ok_aged F21 T dm m8 C10 C16 C6 C8) (mZ F21)
 have C22:c_drop lw.prog w (kk w.params) mg dh:=jc X G F22 (ok_drop F22 T dm m7 C9 C7 C8) (mZ F22)
 have C23:c_free lw.prog w (kk w.params) mg dh:=jc X G F23 (ok_free F23 T dm C17 C7 C8) (mZ F23)
 have C24:c_shut lw.prog w (kk w.params) mg dh:=jc X G F24 (ok_shut F24 T dm C17 C6 C8) (mZ F24)
 have C25:pL lw.prog w (kk w.params) mg dh:=jc X G F25 (uR F25 T AR M_put EH AX EK EJ EI EG C18 C19 C20 C21 C22 C23 C24) (mZ F25)
 have C26:kz lw.prog w (kk w.params) mg dh:=calix_of X G F26 (tG F26 T dF dm k7 t6 C8) (mZ F26)
 have C27:gW lw.prog w (kk w.params) mg dh:=mw F27 (BL F27 T dF) (Dz F27)
 have C28:gR lw.prog w (kk w.params) mg dh:=gm F28 (Aa F28 T dF C27 C25) (mZ F28)
 have C29:sJ lw.prog w (kk w.params) mg dh:=mw F29 (x6 F29 T dF) (Dz F29)
 have C30:uH lw.prog w (kk w.params) mg dh:=mw F30 (zZ F30 T dF dm C27) (Dz F30)
 have C31:sH lw.prog w (kk w.params) mg dh:=mw F31 (xY F31 T dF dm C27) (Dz F31)
 have C32:uN lw.prog w (kk w.params) mg dh:=gm F32 (Ac F32 T dF dm C27 C13) (mZ F32)
 have C33:xo lw.prog w (kk w.params) mg dh:=gm F33 (BM F33 T dF dm C27 C13) (mZ F33)
 have C34:sG lw.prog w (kk w.params) mg dh:=gm F34 (xX F34 T dF dm C27 C10) (mZ F34)
 have C35:qA lw.prog w (kk w.params) mg dh:=gm F35 (wA F35 T dF dm C27 C11) (bd3 F35)
 have C36:uM lw.prog w (kk w.params) mg dh:=mw F36 (Ab F36 T dF dm C27 C14) (Dz F36)
 have C37:sF lw.prog w (kk w.params) mg dh:=mw F37 (xW F37 T dF dm C27 C14) (Dz F37)
 have C38:xn lw.prog w (kk w.params) mg dh:=gm F38 (BK F38 T dF C28) (bd4 F38)
 have C39:uJ lw.prog w (kk w.params) mg dh:=gm F39 (z6 F39 T dF C28) (bd5 F39)
 have C40:sI lw.prog w (kk w.params) mg dh:=gm F40 (xZ F40 T dF C28) (bd4 F40)
 have C41:uO lw.prog w (kk w.params) mg dh:=gm F41 (Ad F41 T dF C28) (bd3 F41)
 have C42:uL lw.prog w (kk w.params) mg dh:=gm F42 (z9 F42 T dF C28) (mZ F42)
 have C43:uK lw.prog w (kk w.params) mg dh:=gm F43 (z7 F43 T dF C28) (mZ F43)
 have C44:uI lw.prog w (kk w.params) mg dh:=gm F44 (z5 F44 T dF C28) (mZ F44)
 have C45:c_names lw.prog w (kk w.params) mg dh:=fN X G F45 (ok_names F45 T  C1) (mZ F45)
 have C46:c_begun lw.prog w (kk w.params) mg dh:=fN X G F46 (ok_begun F46 T dF C1 C26 C45) (mZ F46)
 have C47:sE lw.prog w (kk w.params) mg dh:=fN X G F47 (ok_origin F47 T ) (bd3 F47)
 have C48:c_ages lw.prog w (kk w.params) mg dh:=fN X G F48 (ok_ages F48 T ) (Dz F48)
 have C49:c_heard lw.prog w (kk w.params) mg dh:=fN X G F49 (ok_heard F49 T  C47) (mZ F49)
 have C50:c_takes lw.prog w (kk w.params) mg dh:=fN X G F50 (ok_takes F50 T  C48 C49) (Dz F50)
 have C51:Eu lw.prog w (kk w.params) mg dh:=fN X G F51 (ok_open F51 T ) (Dz F51)
 have C52:c_done lw.prog w (kk w.params) mg dh:=fN X G F52 (ok_done F52 T  C47) (mZ F52)
 have C53:c_lone lw.prog w (kk w.params) mg dh:=fN X G F53 (ok_lone F53 T ) (Dz F53)
 have C54:c_easy lw.prog w (kk w.params) mg dh:=fN X G F54 (ok_easy F54 T  C1 C51 C2 C53) (bd3 F54)
 have C55:CJ lw.prog w (kk w.params) mg dh:=fN X G F55 (ok_stands F55 T dF C3 C30 C31 C50 C37 C36 C51 C34 C32 C33 C35 C47) (mZ F55)
 have C56:c_named lw.prog w (kk w.params) mg dh:=fN X G F56 (ok_named F56 T ) (Dz F56)
 have C57:qR lw.prog w (kk w.params) mg dh:=fN X G F57 (BI F57 T  C56) (mZ F57)
 have C58:oa lw.prog w (kk w.params) mg dh:=fN X G F58 (xU F58 T ) (mZ F58)
 have C59:xl lw.prog w (kk w.params) mg dh:=fN X G F59 (BH F59 T  C57) (mZ F59)
 have C60:uE lw.prog w (kk w.params) mg dh:=fN X G F60 (zU F60 T  C57 C58) (mZ F60)
 have C61:uD lw.prog w (kk w.params) mg dh:=fN X G F61 (zT F61 T ) (mZ F61)
 have C62:c_word lw.prog w (kk w.params) mg dh:=fN X G F62 (ok_word F62 T  C59 C60 C58 C61) (mZ F62)
 have C63:xm lw.prog w (kk w.params) mg dh:=fN X G F63 (BJ F63 T  C1) (bd3 F63)
 have C64:uG lw.prog w (kk w.params) mg dh:=fN X G F64 (zY F64 T  C1 C63) (bd4 F64)
 have C65:c_wild lw.prog w (kk w.params) mg dh:=fN X G F65 (ok_wild F65 T  C54 C1 C64) (bd3 F65)
 have C66:AM lw.prog w (kk w.params) mg dh:=calh_of X G F66 (ok_kinds F66 T TV iK tY pU tX k8 nc m9 jW k7 qk tW m6 tV m8 m7 mK AW) (Dz F66)
 have C67:c_told lw.prog w (kk w.params) mg dh:=fN X G F67 (ok_told F67 T dF jo C28 C66) (mZ F67)
 have C68:CK lw.prog w (kk w.params) mg dh:=jc X G F68 (ok_method F68 T dF C38 C39 C40 C41 C42 C43 C44) (mZ F68)
 have C69:uF lw.prog w (kk w.params) mg dh:=fN X G F69 (zX F69 T dF jo C68 C66) (mZ F69)
 exact ok_law F70 T dF KA C0 C1 C46 C26 C65 C62 C3 C67 C69 C52 C55 C29
end Pf
theorem PySem.Challenge.cw_hissroom_k48_methods_do_their_deeds_holds : PySem.Challenge.rw_hissroom_k48_methods_do_their_deeds.Holds :=
 Pf.holds Pf.fin