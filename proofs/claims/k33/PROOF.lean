import PyProof.Rows.All
import Wide.All
import OpenK.AllK
import Wide.FinOn
import Lean
import PyProof.EqAt
import PyProof.EqKinds
import PyProof.TupleCall
import PyProof.NeKinds
import PyProof.ListRange
import PyProof.MaxThree
import PyProof.DictWalks
import PyProof.Rows.SortWalk
import PyProof.Rows.TopTwo
import PyProof.RangeIter
import PyProof.ExcArgsOwn
import PyProof.ExcBaseAll.ValueError
import PyProof.ExcAttrAll.ValueError
import KE.KIsAll
import OpenK.KOwn
import PyProof.StrBlock
import PyProof.DictItems
import PyProof.DictItemsLoops
import PyProof.DictValues
import PySem.Challenge.RW_hissroom_k33_deeds_refused
set_option Elab.async false
set_option linter.all false
set_option maxRecDepth 100000
local macro_rules | `(tactic| omega) => `(tactic| lia)
set_option genSizeOf false
set_option maxHeartbeats 4000000
theorem tL {α:Type _}{l:List α}{i:Nat}(h:i<l.length):l[i]?=some l[i]:=List.getElem?_eq_getElem h
theorem lE {α:Type _}{l:List α}{i:Nat}{a:α}(h:l[i]?=some a):∃ h:i<l.length,l[i]=a:=List.getElem?_eq_some_iff.mp h
theorem fg {α β:Type _}{as:List α}(f:α->β):(as.map f).length=as.length:=List.length_map f
theorem zk {α:Type _}{l:List α}{i:Nat}{a:α}(e:l[i]?=some a):a∈l:=List.mem_of_getElem? e
theorem kH {α:Type _}{as bs:List α}:(as++bs).length=as.length+bs.length:=List.length_append
theorem uD {α:Type _}{l₁ l₂:List α}{i:Nat}(h:i<l₁.length):(l₁++l₂)[i]?=l₁[i]?:=List.getElem?_append_left h
theorem p6 {α:Type _}{l₁ l₂:List α}{i:Nat}(h:l₁.length<=i):(l₁++l₂)[i]?=l₂[i - l₁.length]?:=List.getElem?_append_right h
theorem mZ {α:Type _}{a:α}(b:α){l:List α}(h:a∈l):a∈b::l:=List.mem_cons_of_mem b h
theorem gxJ {n:Nat}:(List.range n).length=n:=List.length_range
theorem gxK (n:Nat):(n:Int).toNat=n:=Int.toNat_natCast n
theorem iV {h:PySem.Heap}{a:PySem.Addr}{u:PySem.Obj}(v:PySem.Obj)(e:h.get? a=some u):(h.push v).get? a=some u:=PySem.Heap.get?_push_of_some v e
theorem dY {α β:Type}{M:PySem.Model}{A:PySem.Around}{E:PySem.Value->PySem.Shared->Prop}{s:PySem.Shared}{m:PySem.Sem α}{f:α->PySem.Sem β}{Q:β->PySem.Shared->Prop}(h:PySem.wpAny M A m (fun a s=>PySem.wpAny M A (f a) Q E s) E s):PySem.wpAny M A (m >>= f) Q E s:=PySem.wpAny_bind h
theorem jj {h:PySem.Heap}{a:PySem.Addr}{o:PySem.Obj}(e:h.get? a=some o):a<h.objs.size:=PySem.Heap.lt_size e
theorem tK {α β:Type _}{f:α->β}{l:List α}{i:Nat}:(l.map f)[i]?=(l[i]?).map f:=List.getElem?_map ..
abbrev aa:=@Nat.le_refl
abbrev ae:=@if_neg
abbrev af:=@decide_eq_true
abbrev ag:=@if_pos
abbrev ah:=@List.map_cons
abbrev ai:=@PySem.F.excBase_ValueError
abbrev aj:=@PySem.wpAny_pure
abbrev ak:=@decide_eq_false
abbrev ao:=@List.getElem?_set_ne
abbrev aq:=@Nat.lt_of_lt_of_le
abbrev ar:=@Nat.le_trans
abbrev au:=@List.size_toArray
abbrev av:=@PySem.Heap.get?_push_size
abbrev aw:=@List.mem_cons_self
abbrev az:=@List.getElem?_set_self
abbrev aA:=@Bool.false_ne_true
abbrev aB:=@Nat.ne_of_lt
abbrev aC:=@List.map_map
abbrev aD:=@List.mem_append_right
abbrev aE:=@List.length_cons
abbrev aF:=@PyProof.Rows.boot_isinstance
abbrev aG:=@List.map_append
abbrev aH:=@List.length_set
abbrev aI:=@List.append_assoc
abbrev aJ:=@PySem.W.mg_none_of
abbrev aK:=@Option.some.inj
abbrev aL:=@Bool.and_eq_true
abbrev aM:=@List.length_replicate
abbrev aN:=@List.append_nil
abbrev aO:=@List.mem_of_mem_take
abbrev aP:=@List.length_take
abbrev aQ:=@List.length_singleton
abbrev aR:=@Nat.sub_self
abbrev aS:=@PySem.wpAny_field
abbrev aT:=@PySem.W.mg_of
abbrev aU:=@List.take_left
abbrev aV:=@List.take_of_length_le
abbrev aW:=@Nat.zero_le
abbrev aX:=@List.getD_eq_getElem?_getD
abbrev aY:=@PySem.wpAny_newObj_type
abbrev aZ:=@Nat.le_add_right
abbrev a6:=@PySem.Heap.size_push
abbrev a9:=@List.filter_cons
abbrev ba:=@decide_eq_true_eq
abbrev bb:=@Ne.symm
abbrev bc:=@PySem.wpAny_mono
abbrev bf:=@PyProof.Rows.boot_list
abbrev bg:=@Nat.ne_of_gt
abbrev bh:=@Nat.lt_succ_of_lt
abbrev bj:=@PySem.Heap.get?_update_other
abbrev bo:=@List.not_mem_nil
abbrev bp:=@List.any_cons
abbrev bq:=@PySem.W.kia_one
abbrev br:=@List.find?_cons
abbrev bt:=@Nat.lt_irrefl
abbrev bu:=@List.getElem?_take_of_lt
abbrev bw:=@PyProof.Rows.callWith_type1
abbrev bx:=@Option.isSome_map
abbrev bz:=@Nat.le_succ_of_le
abbrev bA:=@PySem.wpAny_callSpecial?_slot
abbrev bB:=@List.idxOf_cons
abbrev bC:=@PySem.F.plainAttrs_str
abbrev bD:=@List.nodup_append
abbrev bE:=@List.length_filter_le
abbrev bF:=@List.mem_cons
abbrev bG:=@PySem.wpAny_holding
abbrev bH:=@PySem.wpAny_truthy_bool
abbrev bI:=@congrArg
abbrev bJ:=@List.filterMap_cons
abbrev bL:=@PySem.PassesOwn.never
abbrev bM:=@List.cons.injEq
abbrev bN:=@PySem.wpAny_call_entry
abbrev bO:=@PySem.wpAny_Call_Name_kw
abbrev bP:=@Nat.lt_succ_self
abbrev bQ:=@List.length_drop
abbrev bR:=@PySem.wpAny_seqItems
abbrev bS:=@List.mem_append_left
abbrev bT:=@Nat.add_sub_cancel_left
abbrev bU:=@List.length_nil
abbrev bV:=@List.map_congr_left
abbrev bW:=@Array.length_toList
abbrev bX:=@Nat.lt_of_le_of_lt
abbrev bY:=@PySem.F.slot_tuple_iterator_next
abbrev bZ:=@PySem.F.type_str_join
abbrev b7:=@PySem.F.slot_str_join
abbrev b8:=@PySem.Heap.get?_update_self
abbrev b9:=@PySem.wpAny_passesOwn
abbrev cb:=@List.idxOf_append
abbrev cc:=@PySem.wpAny_comprehension_free
abbrev cf:=@List.length_filterMap_le
abbrev cj:=@PySem.mem_of_lookup
abbrev ck:=@List.getElem_of_mem
abbrev cm:=@beq_self_eq_true
abbrev cn:=@List.all_eq_true
abbrev cp:=@PySem.wpAny_setField_rec
abbrev cq:=@PySem.W.callWith_K
abbrev cu:=@PyProof.Rows.boot_bool
abbrev cw:=@List.drop_of_length_le
abbrev cx:=@PySem.Calls.callWith_builtin
abbrev cy:=@Nat.min_eq_left
abbrev cz:=@Bool.eq_iff_iff
abbrev cA:=@List.set_comm
abbrev cC:=@of_decide_eq_true
abbrev cD:=@PySem.wpAny_setField
abbrev cE:=@or_false
abbrev cF:=@PySem.boot_len
abbrev cG:=@List.set_append_left
abbrev cI:=@List.lookup_cons
abbrev cJ:=@List.getElem_mem
abbrev cK:=@List.drop_eq_getElem_cons
abbrev cL:=@List.getElem?_range
abbrev cM:=@PySem.wpAny_standAt
abbrev cN:=@List.all_cons
abbrev cO:=@PySem.wpAny_execs_nil
abbrev cP:=@PySem.pushCells_keeps
abbrev cQ:=@beq_false_of_ne
abbrev cU:=@List.count_cons
abbrev cV:=@PySem.tupleKind_room_in1
abbrev cW:=@PyProof.Rows.assignInOrder_cons
abbrev cX:=@PySem.Obj.data_mapFields
abbrev cY:=@List.zip_cons_cons
abbrev cZ:=@List.lookup_append
abbrev c4:=@Bool.false_eq_true
abbrev c6:=@PyProof.Rows.boot_tuple
abbrev c7:=@PySem.W.cellsFrom_some
abbrev c8:=@PyProof.Rows.boot_dict
abbrev c9:=@List.set_set
abbrev dc:=@Bool.and_false
namespace L2
open PySem PySem.Spec PyProof.Rows
abbrev Key:=Sum Int Str
def vE:Key->Value->Bool
 | .inl k,v=>Value.isInt k v
 | .inr x,v=>Value.isStrOf x v
def keyH (w:World):Key->Int
 | .inl k=>hashInt k
 | .inr x=>hashStr w x
theorem fY:∀ {k:Key} {v:Value},vE k v=true->(∃ i t,k=Sum.inl i/\v=Value.int i t)\/(∃ x t,k=Sum.inr x/\v=Value.str x t)
 | .inl i,v,h=>by
  obtain⟨t,e⟩:=Value.isInt_shape (k:=i) (v:=v) h
  exact .inl ⟨i,t,rfl,e⟩
 | .inr x,v,h=>by
  obtain⟨t,e⟩:=Value.isStrOf_shape (x:=x) (v:=v) h
  exact .inr ⟨x,t,rfl,e⟩
theorem keyIs_int (i:Int)(t:Tok):vE (.inl i) (.int i t)=true:=by simp[vE,Value.isInt]
theorem sy (x:Str)(t:Tok):vE (.inr x) (.str x t)=true:=by simp[vE,Value.isStrOf]
theorem key_ll (a b:Int):decide ((Sum.inl a:Key)=Sum.inl b)=(a==b):=by
 by_cases e:a=b
 ·subst e;simp
 ·have h:¬ (Sum.inl a:Key)=Sum.inl b:=fun q=>e (Sum.inl.inj q)
  rw[ak h]
  exact(beq_eq_false_iff_ne.mpr e).symm
theorem key_rr (a b:Str):decide ((Sum.inr a:Key)=Sum.inr b)=decide (a=b):=by
 by_cases e:a=b
 ·subst e;simp
 ·have h:¬ (Sum.inr a:Key)=Sum.inr b:=fun q=>e (Sum.inr.inj q)
  rw[ak h,ak e]
theorem key_lr (a:Int)(b:Str):decide ((Sum.inl a:Key)=Sum.inr b)=false:=ak (fun q=>nomatch q)
theorem key_rl (a:Str)(b:Int):decide ((Sum.inr a:Key)=Sum.inl b)=false:=ak (fun q=>nomatch q)
def eS (prog:Program)(w:World):PySem.KeyKind prog w Key where
 is:=vE
 hash:=keyH w
 inj:=fun v a b ha hb=>by
  rcases fY ha with⟨i,t,rfl,rfl⟩ | ⟨x,t,rfl,rfl⟩
  ·rcases fY hb with⟨j,u,rfl,e⟩ | ⟨y,u,rfl,e⟩
   ·injection e with e1 _;rw[e1]
   ·exact nomatch e
  ·rcases fY hb with⟨j,u,rfl,e⟩ | ⟨y,u,rfl,e⟩
   ·exact nomatch e
   ·injection e with e1 _;rw[e1]
 byValue:=fun k v h=>by
  rcases fY h with⟨i,t,rfl,rfl⟩ | ⟨x,t,rfl,rfl⟩<;> rfl
 pyHash:=fun hv h=>by
  rcases fY hv with⟨i,t,rfl,rfl⟩ | ⟨x,t,rfl,rfl⟩
  ·exact wpAny_pyHash_int h
  ·exact wpAny_pyHash_str h
 eqBool:=fun hu hv h=>by
  rcases fY hu with⟨i,t,rfl,rfl⟩ | ⟨x,t,rfl,rfl⟩
  ·rcases fY hv with⟨j,u,rfl,rfl⟩ | ⟨y,u,rfl,rfl⟩
   ·rw[key_ll]at h;exact wpAny_eqBool_int h
   ·rw[key_lr]at h;exact SeqAt.EqAt.int_str i t y u _ _ _ _ h
  ·rcases fY hv with⟨j,u,rfl,rfl⟩ | ⟨y,u,rfl,rfl⟩
   ·rw[key_rl]at h;exact SeqAt.EqAt.str_int x t j u _ _ _ _ h
   ·rw[key_rr]at h;exact wpAny_eqBool_str h
 «strs»:=fun k x t v h=>by
  rcases fY h with⟨i,u,rfl,e⟩ | ⟨y,u,rfl,e⟩
  ·exact nomatch e
  ·injection e with e1 _
   subst e1
   cases v <;> rfl
theorem mixKind_int (prog:Program)(w:World)(i:Int)(t:Tok):(eS prog w).is (.inl i) (.int i t)=true:=keyIs_int i t
theorem mixKind_str (prog:Program)(w:World)(x:Str)(t:Tok):(eS prog w).is (.inr x) (.str x t)=true:=sy x t
inductive V where
 | fH | bl (b:Bool) | int (i:Int) | str (x:Str) | byt (b:Array UInt8) | flt (b:UInt64) | ref (a:Addr) | ty (n:String)
 deriving DecidableEq
def RelV:V->Value->Prop
 | .fH,u=>u=Value.none
 | .bl b,u=>u=Value.bool b
 | .int i,u=>∃ t,u=Value.int i t
 | .str x,u=>∃ t,u=Value.str x t
 | .byt b,u=>∃ t,u=Value.bytes b t
 | .flt b,u=>∃ t,u=Value.float b t
 | .ref a,u=>u=Value.ref a
 | .ty n,u=>u=Value.type n
abbrev Vals:List V->List Value->Prop:=Paired RelV
theorem Vals.length {xs:List V}{us:List Value}(r:Vals xs us):xs.length=us.length:=Paired.length r
theorem Vals.get:∀ {xs:List V} {us:List Value} {i:Nat} {x:V},Vals xs us->xs[i]?=some x->∃ u,us[i]?=some u/\RelV x u
 | _,_,_,_,.nil,e=>by simp at e
 | _,_,0,_,.cons r _,e=>by simp at e;subst e;exact⟨_,rfl,r⟩
 | _,_,i+1,x,.cons _ t,e=>by
  obtain⟨u,h1,h2⟩:=Vals.get (i:=i) (x:=x) t (by simpa using e)
  exact⟨u,by simpa using h1,h2⟩
theorem Vals.set {x:V}{u:Value}(r:RelV x u):∀ {xs:List V} {us:List Value} (i:Nat),Vals xs us->Vals (xs.set i x) (us.set i u)
 | _,_,_,.nil=>.nil
 | _,_,0,.cons _ t=>.cons r t
 | _,_,i+1,.cons q t=>.cons q (Vals.set r i t)
theorem Vals.append {xs ys:List V}{us ws:List Value}(h:Vals xs us)(s:Vals ys ws):Vals (xs++ys) (us++ws):=by
 induction h with
 | nil=>exact s
 | cons r t ih=>exact .cons r ih
theorem Vals.take:∀ {xs:List V} {us:List Value} (n:Nat),Vals xs us->Vals (xs.take n) (us.take n)
 | _,_,0,_=>.nil
 | _,_,_+1,.nil=>.nil
 | _,_,n+1,.cons r t=>.cons r (Vals.take n t)
theorem Vals.drop:∀ {xs:List V} {us:List Value} (n:Nat),Vals xs us->Vals (xs.drop n) (us.drop n)
 | _,_,0,r=>r
 | _,_,_+1,.nil=>.nil
 | _,_,n+1,.cons _ t=>Vals.drop n t
theorem Vals.none_of:∀ {xs:List V} {us:List Value} {i:Nat},Vals xs us->xs[i]?=none->us[i]?=none:=fun {xs us i} r e=>by
 have h1:=r.length
 have h2:xs.length<=i:=List.getElem?_eq_none_iff.mp e
 exact List.getElem?_eq_none_iff.mpr (by omega)
def oX:Option V->Option Value->Prop
 | some v,some u=>RelV v u
 | none,none=>True
 | _,_=>False
def KV {κ:Type}:List (κ×V)->List (κ×Value)->Prop:=Paired fun(p:κ×V) (q:κ×Value)=>p.1=q.1/\RelV p.2 q.2
def kV:Key->V
 | .inl i=>.int i
 | .inr x=>.str x
inductive HO where
 | lst (xs:List V)
 | tup (xs:List V)
 | dK (kvs:List (Key×V)) | dT (kvs:List (List Key×V))
 | set (S:Int->Bool) (n:Nat)
 | ins (C dx:Addr) (fs:List (Str×V))
 | own (x:Addr)
 | xd (fs:List (Str×V))
 | met (f x:Addr)
 | rng (lo hi:Int)
 | kI (o:Obj) (u:HO)
 | tbl (ps:Array Value)
 | ext (φ:Heap->Prop)
abbrev Hp:=Addr->Option HO
def upd (H:Hp)(a:Addr)(o:HO):Hp:=fun b=>if b=a then some o else H b
theorem dH {H:Hp}{a:Addr}{o:HO}:upd H a o a=some o:=by unfold upd;rw[ag rfl]
theorem dR {H:Hp}{a b:Addr}{o:HO}(h:b≠a):upd H a o b=H b:=by unfold upd;rw[ae h]
theorem ne_of {H:Hp}{a b:Addr}{o u:HO}(h:H a=some o)(h':H b=some u)(d:o≠u):a≠b:=by
 intro e;subst e;rw[h]at h';exact d (aK h')
theorem eJ {H:Hp}{a b:Addr}{o:HO}(h:H a=some o)(h':H b=none):a≠b:=by
 intro e;subst e;rw[h]at h';cases h'
section
variable (P:Program)(w:World)
def fo (H:Hp)(h:Heap)(a:Addr):HO->Prop
 | .lst xs=>xs.length<=sizeLine/\∃(d9:List Value) (n:Nat),Vals xs d9/\h.get? a=some { cls:=.type "list",data:=.seq d9.toArray n}
 | .tup xs=>xs.length<=sizeLine/\∃ d9:List Value,Vals xs d9/\IsTup h a d9.toArray
 | .dK kvs=>kvs.length<=sizeLine/\(a==sysModules)=false/\∃ vs,KV kvs vs/\h.DictOf (eS P w) a vs
 | .dT kvs=>kvs.length<=sizeLine/\(a==sysModules)=false/\∃ xs:List (List Key×Addr×Value),
  Paired (fun(p:List Key×V) (q:List Key×Addr×Value)=>p.1=q.1/\H q.2.1=some (.tup (p.1.map kV))/\RelV p.2 q.2.2) kvs xs /\
  ∃ o es ep,h.get? a=some o/\o.ExactDict/\o.data=.dict es ep/\es.toList=xs.map (entryOfKey (tupleKind (eS P w)))/\(xs.map (·.1)).Nodup
 | .set S n=>h.SetOf (intKind P w) a S n
 | .ins C dx fs=>H dx=some (.own a)/\fs.length<=1000/\dx≠a/\h.get? a=some (PySem.W.instObj C dx) /\
  ∃ mA,h.Ns1 dx mA/\(∀ f,oX (fs.lookup f) (mA f))/\PySem.Within mA (fs.map (·.1))
 | .own _=>∃ o,h.get? a=some o
 | .xd fs=>∃ mA,h.Ns1 a mA/\∀ f,oX (fs.lookup f) (mA f)
 | .rng lo hi=>∃ t u v,h.get? a=some { cls:=.type "range",data:=.fields #[.int lo t,.int hi u,.int 1 v]}
 | .kI o u=>h.get? a=some o/\fo H h a u
 | .tbl ps=>h.get? a=some { cls:=.none,data:=.fields ps}
 | .met f x=>h.get? a=some (PySem.W.methodObj (.ref f) (.ref x))
 | .ext φ=>φ h/\(∃ o,h.get? a=some o)/\∀ h1 h2:Heap,φ h1->(∀ o,h1.get? a=some o->h2.get? a=some o)->φ h2
def nu (H:Hp)(h:Heap):Prop:=∀ a o,H a=some o->fo P w H h a o
end
section
variable {P:Program}{w:World}{H H':Hp}{h h':Heap}{a:Addr}{o:HO}
theorem fo.lt (x:fo P w H h a o):a<h.objs.size:=by
 cases o with
 | lst xs=>obtain⟨_,_,_,_,e⟩:=x;exact jj e
 | tup xs=>obtain⟨_,_,_,p⟩:=x;exact p.lt
 | dK kvs=>obtain⟨_,_,_,_,o,_,_,e,_⟩:=x;exact jj e
 | dT kvs=>obtain⟨_,_,_,_,o,_,_,e,_⟩:=x;exact jj e
 | set S n=>obtain⟨o,_,_,_,e,_⟩:=x;exact jj e
 | ins C dx fs=>obtain⟨_,_,_,e,_⟩:=x;exact jj e
 | own y=>obtain⟨_,e⟩:=x;exact jj e
 | xd fs=>obtain⟨_,⟨_,_,_,e,_⟩,_⟩:=x;exact jj e
 | rng lo hi=>obtain⟨_,_,_,e⟩:=x;exact jj e
 | kI ob u=>obtain⟨e,_⟩:=x;exact jj e
 | tbl ps=>exact jj (show h.get? a=some _ from x)
 | met f y=>exact jj (show h.get? a=some _ from x)
 | ext φ=>obtain⟨_,⟨_,e⟩,_⟩:=x;exact jj e
theorem Paired.mapP {α β:Type}{F G:α->β->Prop}{l₁:List α}{l₂:List β}(h:Paired F l₁ l₂)(f:∀ a b,F a b->G a b):Paired G l₁ l₂:=by
 induction h with
 | nil=>exact .nil
 | cons r t ih=>exact .cons (f _ _ r) ih
theorem fo.uU (x:fo P w H h a o)(k:∀ b u,(b=a\/H b=some (.own a))->h.get? b=some u->h'.get? b=some u)
 (ho:∀ b,H b=some (.own a)->H' b=some (.own a)) (ht:∀ b xs,H b=some (.tup xs)->H' b=some (.tup xs)):fo P w H' h' a o:=by
 induction o with
 | lst xs=>obtain⟨z,d9,n,r,e⟩:=x;exact⟨z,d9,n,r,k _ _ (.inl rfl) e⟩
 | tup xs=>obtain⟨z,d9,r,ob,e,c⟩:=x;exact⟨z,d9,r,ob,k _ _ (.inl rfl) e,c⟩
 | dK kvs=>obtain⟨z,y,vs,r,ob,es,ep,e,c⟩:=x;exact⟨z,y,vs,r,ob,es,ep,k _ _ (.inl rfl) e,c⟩
 | dT kvs =>
  obtain⟨z,y,xs,r,ob,es,ep,e,c⟩:=x
  exact⟨z,y,xs,Paired.mapP r fun p q z=>⟨z.1,ht _ _ z.2.1,z.2.2⟩,ob,es,ep,k _ _ (.inl rfl) e,c⟩
 | set S n=>obtain⟨ob,es,ep,t,e,c⟩:=x;exact⟨ob,es,ep,t,k _ _ (.inl rfl) e,c⟩
 | ins C dx fs =>
  obtain⟨d,z,ne,e,mA,⟨od,es,ep,e2,c⟩,r⟩:=x
  exact⟨ho _ d,z,ne,k _ _ (.inl rfl) e,mA,⟨od,es,ep,k _ _ (.inr d) e2,c⟩,r⟩
 | own y=>obtain⟨ob,e⟩:=x;exact⟨ob,k _ _ (.inl rfl) e⟩
 | xd fs=>obtain⟨mA,⟨od,es,ep,e,c⟩,r⟩:=x;exact⟨mA,⟨od,es,ep,k _ _ (.inl rfl) e,c⟩,r⟩
 | rng lo hi=>obtain⟨t,u,v,e⟩:=x;exact⟨t,u,v,k _ _ (.inl rfl) e⟩
 | kI ob u ih=>obtain⟨e,q⟩:=x;exact⟨k _ _ (.inl rfl) e,ih q⟩
 | tbl ps =>
  have e:h.get? a=some { cls:=.none,data:=.fields ps}:=x
  show h'.get? a=some { cls:=.none,data:=.fields ps}
  exact k a _ (.inl rfl) e
 | met f y =>
  have e:h.get? a=some (PySem.W.methodObj (.ref f) (.ref y)):=x
  show h'.get? a=some (PySem.W.methodObj (.ref f) (.ref y))
  exact k a _ (.inl rfl) e
 | ext φ=>obtain⟨p,⟨o,e⟩,st⟩:=x;exact⟨st _ _ p fun o q=>k _ _ (.inl rfl) q,⟨o,k _ _ (.inl rfl) e⟩,st⟩
theorem nu.lt (x:nu P w H h)(e:H a=some o):a<h.objs.size:=(x a o e).lt
theorem nu.fresh (x:nu P w H h)(e:h.objs.size<=a):H a=none:=by
 cases q:H a with
 | none=>rfl
 | some u=>exact absurd (aq (x.lt q) e) (bt _)
theorem nu.kept (x:nu P w H h)(k:∀ b u,h.get? b=some u->h'.get? b=some u):nu P w H h':=fun a o e =>
 (x a o e).uU (fun b u _ q=>k b u q) (fun _ q=>q) fun _ _ q=>q
theorem nu.laid (x:nu P w H h)(k:∀ b u,h.get? b=some u->h'.get? b=some u)(hp:h.objs.size<=a)(new:fo P w (upd H a o) h' a o):nu P w (upd H a o) h':=fun b u e=>by
 have hn:=x.fresh hp
 by_cases hb:b=a
 ·subst hb;rw[dH]at e;cases e;exact new
 ·rw[dR hb]at e
  exact(x b u e).uU (fun c v _ q=>k c v q) (fun c q=>by rw[dR (eJ q hn)];exact q) fun c xs q=>by rw[dR (eJ q hn)];exact q
end
def Rd (H:Hp)(a:Addr)(u:HO):Prop:=H a=some u\/∃ o,H a=some (.kI o u)
theorem Rd.ok {P:Program}{w:World}{H:Hp}{h:Heap}{a:Addr}{u:HO}(r:Rd H a u)(x:nu P w H h):fo P w H h a u:=by
 rcases r with r | ⟨o,r⟩
 ·exact x a u r
 ·obtain⟨_,q⟩:=x a _ r
  exact q
def Mut:Option HO->Prop
 | some (.lst _)=>True
 | some (.dK _)=>True
 | some (.dT _)=>True
 | some (.set _ _)=>True
 | some (.ins _ _ _)=>True
 | some (.ext _)=>True
 | _=>False
section
variable {P:Program}{w:World}{H:Hp}{h h':Heap}{x e:Addr}{o':HO}
theorem nu.write (ok:nu P w H h)(mu:Mut (H x))(he:e=x\/H e=some (.own x))(k:∀ b u,b≠e->h.get? b=some u->h'.get? b=some u)(heo:∃ u,h'.get? e=some u)
 (new:fo P w (upd H x o') h' x o'):nu P w (upd H x o') h':=fun b u q=>by
 have nown:∀ c y,H c=some (.own y)->c≠x:=fun c y r z=>by subst z;rw[r]at mu;exact mu
 have ntup:∀ c xs,H c=some (.tup xs)->c≠x:=fun c xs r z=>by subst z;rw[r]at mu;exact mu
 by_cases hb:b=x
 ·subst hb;rw[dH]at q;cases q;exact new
 ·rw[dR hb]at q
  by_cases hbe:b=e
  ·have q':H b=some (.own x):=by
    rcases he with z | z
    ·exact absurd (hbe.trans z) hb
    ·rw[hbe];exact z
   rw[q]at q';cases q'
   obtain⟨v,hv⟩:=heo
   exact⟨v,by rw[hbe];exact hv⟩
  ·refine(ok b u q).uU (fun c v hc r=>k c v ?_ r) (fun c r=>by rw[dR (nown c b r)];exact r) fun c xs r=>by rw[dR (ntup c xs r)];exact r
   rcases hc with rfl | hc
   ·exact hbe
   ·rintro rfl
    rcases he with z | z
    ·exact nown c b hc z
    ·rw[hc]at z;cases z;exact hb rfl
end
structure Un (fs ex:List Addr)(H H':Hp)(h h':Heap):Prop where
 keep:∀ b o,h.get? b=some o->H b=none->b∉fs->b∉ex->h'.get? b=some o
 slot:∀ b o,h.get? b=some o->H b=none->b∈fs->b∉ex->∃ sl,h'.get? b=some { o with slots:=sl}
 free:∀ b o,h.get? b=some o->H b=none->b∉ex->H' b=none
 there:∀ b o,h.get? b=some o->b∉ex->∃ o',h'.get? b=some o'
 n6:∀ b xs,H b=some (.tup xs)->H' b=some (.tup xs)
 nQ:∀ b o u,H b=some (.kI o u)->H' b=some (.kI o u)
 oa:∀ b ps,H b=some (.tbl ps)->∃ more,H' b=some (.tbl (ps++more))
section
variable {fs fs' ex ex':List Addr}{H H1 H2:Hp}{h h1 h2 h':Heap}{a x e:Addr}{o:HO}
theorem Un.any (u:Un fs ex H H1 h h1){b:Addr}{ob:Obj}(q:h.get? b=some ob)(n:H b=none)(hx:b∉ex):∃ sl,h1.get? b=some { ob with slots:=sl}:=by
 by_cases hb:b∈fs
 ·exact u.slot b ob q n hb hx
 ·exact⟨ob.slots,u.keep b ob q n hb hx⟩
theorem Un.trans (a:Un fs ex H H1 h h1)(b:Un fs ex H1 H2 h1 h2):Un fs ex H H2 h h2 where
 keep:=fun c ob q n hc hx=>b.keep c ob (a.keep c ob q n hc hx) (a.free c ob q n hx) hc hx
 slot:=fun c ob q n hc hx=>by
  obtain⟨sl,e1⟩:=a.slot c ob q n hc hx
  obtain⟨sl',e2⟩:=b.slot c _ e1 (a.free c ob q n hx) hc hx
  exact⟨sl',e2⟩
 free:=fun c ob q n hx=>by
  obtain⟨o',e1⟩:=a.there c ob q hx
  exact b.free c o' e1 (a.free c ob q n hx) hx
 there:=fun c ob q hx=>by
  obtain⟨o',e1⟩:=a.there c ob q hx
  exact b.there c o' e1 hx
 n6:=fun c xs q=>b.n6 c xs (a.n6 c xs q)
 nQ:=fun c ob xs q=>b.nQ c ob xs (a.nQ c ob xs q)
 oa:=fun c ps q=>by
  obtain⟨m1,e1⟩:=a.oa c ps q
  obtain⟨m2,e2⟩:=b.oa c _ e1
  exact⟨m1++m2,by rw[e2,Array.append_assoc]⟩
theorem Un.kept (k:∀ b u,h.get? b=some u->h'.get? b=some u):Un fs ex H H h h' :=
 ⟨fun b ob q _ _ _=>k b ob q,fun b ob q _ _ _=>⟨ob.slots,k b ob q⟩,fun _ _ _ n _=>n,fun b ob q _=>⟨ob,k b ob q⟩,fun _ _ q=>q,fun _ _ _ q=>q,fun _ ps q=>⟨#[],by rw[q];simp⟩⟩
theorem Un.refl:Un fs ex H H h h:=Un.kept fun _ _ q=>q
theorem Un.laid (k:∀ b u,h.get? b=some u->h'.get? b=some u)(hp:h.objs.size<=a)(hn:H a=none):Un fs ex H (upd H a o) h h' where
 keep:=fun b u q _ _ _=>k b u q
 slot:=fun b u q _ _ _=>⟨u.slots,k b u q⟩
 free:=fun b u q n _=>by rw[dR (aB (aq (jj q) hp))];exact n
 there:=fun b u q _=>⟨u,k b u q⟩
 n6:=fun b xs q=>by rw[dR (eJ q hn)];exact q
 nQ:=fun b u xs q=>by rw[dR (eJ q hn)];exact q
 oa:=fun b ps q=>⟨#[],by rw[dR (eJ q hn),q];simp⟩
theorem Un.write (mu:Mut (H x))(he:e=x\/H e=some (.own x))(k:∀ b u,b≠e->h.get? b=some u->h'.get? b=some u)(heo:∃ u,h'.get? e=some u):Un fs ex H (upd H x o) h h':=by
 have hx:∀ b,H b=none->b≠x:=fun b n z=>by subst z;rw[n]at mu;exact mu
 have hb:∀ b,H b=none->b≠e:=fun b n z=>by
  subst z
  rcases he with r | r
  ·exact hx b n r
  ·rw[n]at r;cases r
 have hm:∀ b u,H b=some u->¬ Mut (some u)->b≠x:=fun b u q nm z=>by subst z;rw[q]at mu;exact nm mu
 refine⟨fun b u q n _ _=>k b u (hb b n) q,fun b u q n _ _=>⟨u.slots,k b u (hb b n) q⟩,fun b u q n _=>by rw[dR (hx b n)];exact n,fun b u q _=>?_,
  fun b xs q=>by rw[dR (hm b _ q fun z=>z)];exact q,fun b u xs q=>by rw[dR (hm b _ q fun z=>z)];exact q,fun b ps q=>⟨#[],by rw[dR (hm b _ q fun z=>z),q];simp⟩⟩
 by_cases hbe:b=e
 ·subst hbe;exact heo
 ·exact⟨u,k b u hbe q⟩
theorem Un.mono (u:Un fs ex H H1 h h1)(hs:∀ b∈fs,b∈fs')(hx:∀ b∈ex,b∈ex'):Un fs' ex' H H1 h h1 :=
 ⟨fun b ob q n hb he=>u.keep b ob q n (fun z=>hb (hs b z)) fun z=>he (hx b z),fun _ _ q n _ he=>u.any q n fun z=>he (hx _ z),fun b ob q n he=>u.free b ob q n fun z=>he (hx b z),fun b ob q he=>u.there b ob q fun z=>he (hx b z),u.n6,u.nQ,u.oa⟩
end
def trk (h:Heap)(H:Hp):List Addr:=(List.range h.objs.size).filter fun a=>(H a).isSome
def zi (h:Heap)(H:Hp):Heap:=PySem.W.hideAll h (trk h H)
theorem hidT_size (h:Heap)(H:Hp):(zi h H).objs.size=h.objs.size:=PySem.W.hideAll_size _ _
theorem hidT_get {h:Heap}{H:Hp}{b:Addr}{o:Obj}(e:h.get? b=some o)(n:H b=none):(zi h H).get? b=some o :=
 PySem.W.hideAll_get _ e fun hm=>by
  have q:(H b).isSome=true:=(List.mem_filter.mp hm).2
  rw[n]at q;simp at q
theorem of_hidT {h:Heap}{H:Hp}{b:Addr}{o:Obj}(e:(zi h H).get? b=some o):h.get? b=some o/\H b=none:=by
 have e':h.get? b=some o:=PySem.W.of_hideAll (trk h H) e
 refine⟨e',?_⟩
 cases q:H b with
 | none=>rfl
 | some x =>
  have hm:b∈trk h H:=List.mem_filter.mpr ⟨List.mem_range.mpr (jj e'),by simp[q]⟩
  have z:(zi h H).get? b=none:=PySem.W.hideAll_none (trk h H) hm
  rw[z]at e;cases e
def allNews (g h:Heap)(L:Addr):List (Addr×Obj):=(List.range h.objs.size).filterMap fun a=>if a=L\/(g.get? a).isSome=true then none else(h.get? a).map fun o=>(a,o)
def rest (g h:Heap)(L d:Addr):List (Addr×Obj):=(allNews g h L).filter fun p=>decide (p.1≠d)
structure Mod (K:PySem.W.Frag)(mg:Str->Option Value)(base:Heap):Prop where
 kin:K.In base
 glob:base.Ns mainGlobals mg
 blt:∃ mb,base.Ns builtinsNs mb/\∀ x:Str,x ≠ "__name__"->mb x=bootBuiltins x
 nolimit:base.NoLimit
structure Cx where
 prog:Program
 w:World
 K:PySem.W.Frag
 mg:Str->Option Value
 base:Heap
 A:Around
 N:List Str
 s₀:Shared
 H₀:Hp
 env:Env
 outer:List Env
 stack:List Env
 ex:List Addr
 fn:Str->Bool
 calm:Bool
 pn:List (Addr×Obj)
 xe:Value->Shared->Prop
def xi (l:List Env):List Addr:=l.filterMap (·.frame)
abbrev Cx.fs (X:Cx):List Addr:=xi X.outer
def Vis (sc:Scope)(x:Str):Prop:=sc.names.lookup x=some .local\/sc.names.lookup x=some .cell\/sc.names.lookup x=some .free
def Loc (sc:Scope)(x:Str):Prop:=sc.names.lookup x=some .local\/sc.names.lookup x=some .cell
def Look (env:Env)(h:Heap)(m:Str->Option Value)(x:Str)(u:Value):Prop :=
 (env.kindOf x=some .local/\m x=some u)\/((env.kindOf x=some .cell\/env.kindOf x=some .free)/\∃ c,env.cells.lookup x=some c/\h.IsCell c (some u))
structure Cx.Ok (X:Cx):Prop where
 mod:Mod X.K X.mg X.base
 kind:X.env.scope.kind=.function
 glob:X.env.globals=mainGlobals
 blt:X.env.builtins=builtinsNs
 above:X.s₀.heap.objs.size<=X.env.locals
 inj:∀ x y c,X.env.cells.lookup x=some c->X.env.cells.lookup y=some c->x=y
 has:∀ x,(X.env.kindOf x=some .cell\/X.env.kindOf x=some .free)->∃ c,X.env.cells.lookup x=some c
 cab:∀ x c,X.fn x=true->X.env.cells.lookup x=some c->X.s₀.heap.objs.size<=c
 hd:X.calm=true->X.A.handled=none
 frames:X.A.frames=some X.stack
 stk:X.stack=X.outer\/(X.stack=X.env::X.outer/\X.env.frame=some X.env.locals)
 exf:∀ b∈X.ex,b≠X.env.locals/\∀ x c,X.env.cells.lookup x=some c->c≠b
 bs:∀ b o,X.base.get? b=some o->X.s₀.heap.get? b=some o/\X.H₀ b=none
 bsz:X.base.objs.size<=X.s₀.heap.objs.size
 noex:∀ b o,X.base.get? b=some o->b∉X.ex
 exfs:∀ b∈X.ex,b∉X.fs
 pJ:X.s₀.heap.FunFrames X.base X.outer
 frf:∀ b∈X.fs,X.H₀ b=none
structure Inv (X:Cx)(pins:List (Addr×Obj))(σ:List (Option V))(H:Hp)(s:Shared):Prop where
 ok:X.Ok
 os:s.os=X.s₀.os
 bare:AllBare s.gens
 base:Un X.fs X.ex X.H₀ H X.s₀.heap s.heap
 loc:∃ m,s.heap.Ns X.env.locals m/\∀(i:Nat) (x:Str) (v:V),X.N[i]?=some x->σ[i]?=some (some v)->Vis X.env.scope x->∃ u,RelV v u/\Look X.env s.heap m x u
 cell:∀ x c,X.env.cells.lookup x=some c->∃ v,s.heap.IsCell c v
 free:H X.env.locals=none
 jq:∀ x c,X.env.cells.lookup x=some c->H c=none
 pin:∀ p∈X.pn++pins,s.heap.get? p.1=some p.2/\H p.1=none/\p.1≠X.env.locals/\p.1∉X.fs/\∀ v,p.2.data≠.cell v
 dZ:nu X.prog X.w H s.heap
 len:σ.length=X.N.length
section
variable {X:Cx}{pins:List (Addr×Obj)}{σ:List (Option V)}{H H':Hp}{s:Shared}{h':Heap}
theorem Cx.Ok.nofr (ok:X.Ok){b:Addr}{o:Obj}(e:X.base.get? b=some o):b∉X.fs:=fun hb=>by
 have:=(ok.pJ.mem hb).1
 rw[e]at this;cases this
theorem Inv.bs (I:Inv X pins σ H s):∀ b o,X.base.get? b=some o->s.heap.get? b=some o/\H b=none:=fun b o e =>
 ⟨I.base.keep b o (I.ok.bs b o e).1 (I.ok.bs b o e).2 (I.ok.nofr e) (I.ok.noex b o e),I.base.free b o (I.ok.bs b o e).1 (I.ok.bs b o e).2 (I.ok.noex b o e)⟩
theorem Inv.bk (I:Inv X pins σ H s):∀ b o,X.base.get? b=some o->s.heap.get? b=some o:=fun b o e=>(I.bs b o e).1
theorem Inv.mod (I:Inv X pins σ H s):Mod X.K X.mg X.base:=I.ok.mod
theorem Inv.pP (I:Inv X pins σ H s):X.K.In s.heap:=I.ok.mod.kin.keeps I.bk
theorem Inv.fr (I:Inv X pins σ H s):∃ m,Fr X.base X.env.locals s.heap m :=
 let ⟨m,hn,_⟩:=I.loc
 ⟨m,hn,I.bk,ar I.ok.bsz I.ok.above⟩
theorem Inv.lt (I:Inv X pins σ H s):X.env.locals<s.heap.objs.size:=let ⟨_,hn,_⟩:=I.loc;hn.lt
theorem Inv.sz (I:Inv X pins σ H s):X.s₀.heap.objs.size<=s.heap.objs.size:=ar I.ok.above (Nat.le_of_lt I.lt)
theorem Inv.nofs (I:Inv X pins σ H s){a:Addr}(h:s.heap.objs.size<=a):a∉X.fs:=fun hb=>by
 obtain⟨_,o,ho,_⟩:=I.ok.pJ.mem hb
 exact absurd (aq (jj ho) (ar I.sz h)) (bt _)
theorem Inv.cne (I:Inv X pins σ H s):∀ x c,X.env.cells.lookup x=some c->c≠X.env.locals:=fun x c e z=>by
 obtain⟨v,o,ho,hd⟩:=I.cell x c e
 obtain⟨m,⟨o',es,ep,vH,hd',_⟩,_⟩:=I.loc
 rw[z,vH]at ho;cases ho;rw[hd']at hd;cases hd
theorem Inv.pJ (I:Inv X pins σ H s):s.heap.FunFrames X.base X.outer:=by
 have all:∀(l:List Env),(∀ b∈xi l,b∈X.fs)->X.s₀.heap.FunFrames X.base l->s.heap.FunFrames X.base l:=by
  intro l
  induction l with
  | nil=>intro _ _;trivial
  | cons env r ih =>
   intro hs hl
   obtain⟨hk,⟨L,o,hf,hn,ho,hd⟩,hr⟩:=hl
   have hL:L∈X.fs:=hs L (by unfold xi;rw[bJ,hf];exact aw)
   obtain⟨sl,e⟩:=I.base.slot L o ho (I.ok.frf L hL) hL fun z=>I.ok.exfs L z hL
   exact⟨hk,⟨L,_,hf,hn,e,hd⟩,ih (fun b hb=>hs b (by unfold xi;rw[bJ,hf];exact mZ _ hb)) hr⟩
 exact all X.outer (fun _ hb=>hb) I.ok.pJ
theorem Inv.stack (I:Inv X pins σ H s):s.heap.FunFrames X.base X.stack:=by
 rcases I.ok.stk with e | ⟨e,hf⟩
 ·rw[e];exact I.pJ
 ·rw[e]
  obtain⟨m,hn,_⟩:=I.loc
  refine .cons (by rw[I.ok.kind];decide) hf hn ?_ I.pJ
  exact Heap.get?_none_of_le (ar I.ok.bsz I.ok.above)
theorem Inv.uT (I:Inv X pins σ H s):∀ b∈xi X.stack,b∈X.env.locals::X.fs:=fun b hb=>by
 rcases I.ok.stk with e | ⟨e,hf⟩
 ·rw[e]at hb;exact mZ _ hb
 ·rw[e]at hb
  unfold xi at hb
  rw[bJ,hf]at hb
  exact hb
theorem Inv.o8 (I:Inv X pins σ H s):∀ b∈xi X.stack,H b=none:=fun b hb=>by
 rcases List.mem_cons.mp (I.uT b hb)with e | hb
 ·rw[e];exact I.free
 ·obtain⟨_,o,ho,_⟩:=I.ok.pJ.mem hb
  exact I.base.free b o ho (I.ok.frf b hb) fun z=>I.ok.exfs b z hb
theorem Inv.step {g':Array GenState}{t':Nat}{d':Drawn}{ch:List Addr}(I:Inv X pins σ H s)
 (hch:∀ b∈ch,(b∈X.ex\/X.s₀.heap.objs.size<=b)/\b≠X.env.locals/\(∀ x c,X.env.cells.lookup x=some c->c≠b)/\∀ p∈X.pn++pins,p.1≠b)
 (keep:∀ b o,b≠X.env.locals->b∉X.fs->b∉ch->s.heap.get? b=some o->H b=none->h'.get? b=some o)
 (slot:∀ b o,b≠X.env.locals->b∈X.fs->b∉ch->s.heap.get? b=some o->H b=none->∃ sl,h'.get? b=some { o with slots:=sl}) (free:∀ b o,b∉ch->s.heap.get? b=some o->H b=none->H' b=none)
 (there:∀ b o,b∉ch->s.heap.get? b=some o->∃ o',h'.get? b=some o')
 (n6:∀ b xs,H b=some (.tup xs)->H' b=some (.tup xs)) (nQ:∀ b o u,H b=some (.kI o u)->H' b=some (.kI o u)) (oa:∀ b ps,H b=some (.tbl ps)->∃ more,H' b=some (.tbl (ps++more)))
 (ns:∀ m,s.heap.Ns X.env.locals m->h'.Ns X.env.locals m) (dZ:nu X.prog X.w H' h') (hg:AllBare g') :
 Inv X pins σ H' { s with heap:=h',gens:=g',drawn:=d',toks:=t'}:=by
 have neL:∀ b o,X.s₀.heap.get? b=some o->b≠X.env.locals:=fun b o e=>aB (aq (jj e) I.ok.above)
 have Af:∀ b o,X.s₀.heap.get? b=some o->b∉X.ex->b∉ch:=fun b o e hx hb=>by
  rcases(hch b hb).1 with z | z
  ·exact hx z
  ·exact absurd (aq (jj e) z) (bt _)
 have cellK:∀ x c,X.env.cells.lookup x=some c->∀ v,s.heap.IsCell c v->h'.IsCell c v:=fun x c e v ⟨o,ho,hd⟩=>by
  have nch:c∉ch:=fun z=>(hch c z).2.2.1 x c e rfl
  by_cases hc:c∈X.fs
  ·obtain⟨sl,q⟩:=slot c o (I.cne x c e) hc nch ho (I.jq x c e)
   exact⟨_,q,hd⟩
  ·exact⟨o,keep c o (I.cne x c e) hc nch ho (I.jq x c e),hd⟩
 refine⟨I.ok,I.os,hg,⟨fun b o e n hb hx=>?_,fun b o e n hb hx=>?_,fun b o e n hx=>?_,fun b o e hx=>?_,fun b xs e=>n6 b xs (I.base.n6 b xs e),fun b o xs e=>nQ b o xs (I.base.nQ b o xs e),fun b ps e=>?_⟩,?_,fun x c e=>?_,?_,fun x c e=>?_,fun p hp=>?_,dZ,I.len⟩
 ·exact keep b o (neL b o e) hb (Af b o e hx) (I.base.keep b o e n hb hx) (I.base.free b o e n hx)
 ·obtain⟨sl,e1⟩:=I.base.slot b o e n hb hx
  obtain⟨sl',e2⟩:=slot b _ (neL b o e) hb (Af b o e hx) e1 (I.base.free b o e n hx)
  exact⟨sl',e2⟩
 ·obtain⟨o',e1⟩:=I.base.there b o e hx
  exact free b o' (Af b o e hx) e1 (I.base.free b o e n hx)
 ·obtain⟨o',e1⟩:=I.base.there b o e hx
  exact there b o' (Af b o e hx) e1
 ·obtain⟨m1,e1⟩:=I.base.oa b ps e
  obtain⟨m2,e2⟩:=oa b _ e1
  exact⟨m1++m2,by rw[e2,Array.append_assoc]⟩
 ·obtain⟨m,hn,hl⟩:=I.loc
  refine⟨m,ns m hn,fun i x v e1 e2 e3=>?_⟩
  obtain⟨u,r,l⟩:=hl i x v e1 e2 e3
  refine⟨u,r,?_⟩
  rcases l with l | ⟨k,c,e,z⟩
  ·exact .inl l
  ·exact .inr ⟨k,c,e,cellK x c e _ z⟩
 ·obtain⟨v,z⟩:=I.cell x c e
  exact⟨v,cellK x c e v z⟩
 ·obtain⟨m,⟨o,_,_,ho,_⟩,_⟩:=I.loc
  exact free _ o (fun z=>(hch _ z).2.1 rfl) ho I.free
 ·obtain⟨v,o,ho,hd⟩:=I.cell x c e
  exact free c o (fun z=>(hch c z).2.2.1 x c e rfl) ho (I.jq x c e)
 ·obtain⟨e,n,ne,nf,d⟩:=I.pin p hp
  have nch:p.1∉ch:=fun z=>(hch p.1 z).2.2.2 p hp rfl
  exact⟨keep p.1 p.2 ne nf nch e n,free p.1 p.2 nch e n,ne,nf,d⟩
theorem Inv.un {t':Nat}(I:Inv X pins σ H s)(u:Un X.fs [] H H' s.heap h')(dZ:nu X.prog X.w H' h'):Inv X pins σ H' { s with heap:=h',toks:=t'}:=by
 obtain⟨m,⟨o,es,ep,ho,r⟩,_⟩:=id I.loc
 obtain⟨sl,hL⟩:=u.any ho I.free (by simp)
 exact I.step (g':=s.gens) (d':=s.drawn) (ch:=[]) (fun _ z=>nomatch z) (fun b o _ hb _ e n=>u.keep b o e n hb (by simp)) (fun b o _ hb _ e n=>u.slot b o e n hb (by simp)) (fun b o _ e n=>u.free b o e n (by simp)) (fun b o _ e=>u.there b o e (by simp)) u.n6 u.nQ u.oa (fun m' hm=>by
  obtain⟨o',uJ,ep',vH,r'⟩:=hm
  rw[ho]at vH;cases vH
  exact⟨_,uJ,ep',hL,r'⟩) dZ I.bare
theorem Inv.call {g':Array GenState}{t':Nat}{d':Drawn}{ch:List Addr}(I:Inv X pins σ H s)(u:Un (xi X.stack) ch H H' s.heap h')(dZ:nu X.prog X.w H' h')(hg:AllBare g')
 (hch:∀ b∈ch,(b∈X.ex\/X.s₀.heap.objs.size<=b)/\b≠X.env.locals/\(∀ x c,X.env.cells.lookup x=some c->c≠b)/\∀ p∈X.pn++pins,p.1≠b) :
 Inv X pins σ H' { s with heap:=h',gens:=g',drawn:=d',toks:=t'}:=by
 obtain⟨m,⟨o,es,ep,ho,r⟩,_⟩:=id I.loc
 obtain⟨sl,hL⟩:=u.any ho I.free fun z=>(hch _ z).2.1 rfl
 exact I.step (ch:=ch) hch (fun b o hL hb hc e n=>u.keep b o e n (fun z=>(List.mem_cons.mp (I.uT b z)).elim hL hb) hc) (fun b o _ _ hc e n=>u.any e n hc) (fun b o hc e n=>u.free b o e n hc) (fun b o hc e=>u.there b o e hc) u.n6 u.nQ u.oa (fun m' hm=>by
  obtain⟨o',uJ,ep',vH,r'⟩:=hm
  rw[ho]at vH;cases vH
  exact⟨_,uJ,ep',hL,r'⟩) dZ hg
theorem Inv.turned {t':Nat}{it:Addr}(I:Inv X pins σ H s)(k:∀ b o,b≠it->s.heap.get? b=some o->h'.get? b=some o)(hn:H it=none)(hL:it≠X.env.locals)
 (h1:it∈X.ex\/X.s₀.heap.objs.size<=it) (h2:∀ x c,X.env.cells.lookup x=some c->c≠it) (h3:∀ p∈X.pn++pins,p.1≠it):Inv X pins σ H { s with heap:=h',toks:=t'}:=by
 have nit:∀ b u,H b=some u->b≠it:=fun b u e z=>by rw[z,hn]at e;cases e
 refine I.step (g':=s.gens) (d':=s.drawn) (ch:=[it]) (fun b hb=>?_) (fun b o _ _ hc e _=>k b o (fun z=>hc (by simp[z])) e) (fun b o _ _ hc e _=>⟨o.slots,k b o (fun z=>hc (by simp[z])) e⟩) (fun _ _ _ _ n=>n)
  (fun b o hc e=>⟨o,k b o (fun z=>hc (by simp[z])) e⟩) (fun _ _ e=>e) (fun _ _ _ e=>e) (fun b ps e=>⟨#[],by rw[e];simp⟩) (fun m hm=>?_) (fun b u e=>?_) I.bare
 ·have e:b=it:=by simpa using hb
  subst e
  exact⟨h1,hL,h2,h3⟩
 ·obtain⟨o,es,ep,ho,r⟩:=hm
  exact⟨o,es,ep,k _ o (bb hL) ho,r⟩
 ·refine(I.dZ b u e).uU (fun c v hc q=>k c v ?_ q) (fun _ q=>q) fun _ _ q=>q
  rcases hc with z | z
  ·rw[z];exact nit b u e
  ·exact nit c _ z
theorem Inv.tok (I:Inv X pins σ H s)(t:Nat):Inv X pins σ H { s with toks:=t}:=I.un (h':=s.heap) (t':=t) Un.refl I.dZ
theorem Inv.kept {t':Nat}(I:Inv X pins σ H s)(k:∀ b u,s.heap.get? b=some u->h'.get? b=some u):Inv X pins σ H { s with heap:=h',toks:=t'}:=I.un (Un.kept k) (I.dZ.kept k)
theorem Inv.laid {a:Addr}{o:HO}{t':Nat}(I:Inv X pins σ H s)(k:∀ b u,s.heap.get? b=some u->h'.get? b=some u)(hp:s.heap.objs.size<=a)(new:fo X.prog X.w (upd H a o) h' a o) :
 Inv X pins σ (upd H a o) { s with heap:=h',toks:=t'}:=I.un (Un.laid k hp (I.dZ.fresh hp)) (I.dZ.laid k hp new)
theorem Inv.write {x e:Addr}{o:HO}{t':Nat}(I:Inv X pins σ H s)(mu:Mut (H x))(he:e=x\/H e=some (.own x))(k:∀ b u,b≠e->s.heap.get? b=some u->h'.get? b=some u)(heo:∃ u,h'.get? e=some u)
 (new:fo X.prog X.w (upd H x o) h' x o):Inv X pins σ (upd H x o) { s with heap:=h',toks:=t'}:=I.un (Un.write mu he k heo) (I.dZ.write mu he k heo new)
theorem Inv.weak {fO:List (Option V)}(I:Inv X pins σ H s)(hl:fO.length=σ.length)(w:∀(i:Nat) v,fO[i]?=some (some v)->σ[i]?=some (some v)):Inv X pins fO H s :=
 ⟨I.ok,I.os,I.bare,I.base,let ⟨m,hn,hl'⟩:=I.loc;⟨m,hn,fun i x v e1 e2 e3=>hl' i x v e1 (w i v e2) e3⟩,I.cell,I.free,I.jq,I.pin,I.dZ,hl.trans I.len⟩
theorem Inv.mT {pins':List (Addr×Obj)}(I:Inv X pins σ H s)(h:∀ p∈pins',s.heap.get? p.1=some p.2/\H p.1=none/\p.1≠X.env.locals/\p.1∉X.fs/\∀ v,p.2.data≠.cell v):Inv X pins' σ H s :=
 ⟨I.ok,I.os,I.bare,I.base,I.loc,I.cell,I.free,I.jq,fun p hp=>(List.mem_append.mp hp).elim (fun z=>I.pin p (bS _ z)) (h p),I.dZ,I.len⟩
theorem nodup_ix {N:List Str}(hN:N.Nodup){i j:Nat}{x:Str}(a:N[i]?=some x)(b:N[j]?=some x):i=j:=by
 obtain⟨h1,e1⟩:=lE a
 obtain⟨h2,e2⟩:=lE b
 exact(List.getElem_inj hN).mp (e1.trans e2.symm)
theorem xv {M:Model}{A:Around}{E:Value->Shared->Prop}{i:Nat}{x:Str}{v:V}{u:Value}{Q:Unit->Shared->Prop}(I:Inv X pins σ H s)(hN:X.N.Nodup)(hi:X.N[i]?=some x)(hx:Loc X.env.scope x)(r:RelV v u)
 (h:∀ s',Inv X pins (σ.set i (some v)) H s'->(∃ a,Heap.SameBut a s.heap s'.heap/\(a=X.env.locals\/X.env.cells.lookup x=some a))->Q () s') (hf:X.fn x=true\/X.env.scope.names.lookup x=some .local:=by first | exact .inl rfl | exact .inr rfl | assumption):wpAny M A (storeName X.env x u) Q E s:=by
 obtain⟨m,hn,hl⟩:=id I.loc
 have hcls:(X.env.scope.kind==.class||(X.env.scope.kind==.module&&X.env.locals != X.env.globals))=false:=by rw[I.ok.kind];rfl
 have hiσ:i<σ.length:=by rw[I.len];exact(lE hi).1
 have cne:=I.cne
 have tracked:∀ {a:Addr} {h':Heap},(∃ o,s.heap.get? a=some o/\H a=none)->Heap.SameBut a s.heap h'->nu X.prog X.w H h':=fun {a h'} ha hs b ob e=>by
  obtain⟨_,_,hfree⟩:=ha
  refine(I.dZ b ob e).uU (fun c w' hc q=>(hs.2 c ?_).trans q) (fun _ q=>q) fun _ _ q=>q
  rintro rfl
  rcases hc with rfl | hc
  ·rw[hfree]at e;cases e
  ·rw[hfree]at hc;cases hc
 rcases hx with hk | hk
 ·refine wpAny_storeName_local hk hn (fun h' hn' hs=>?_) hcls
  obtain⟨oL,_,_,hoL,_⟩:=id hn
  refine h _ ⟨I.ok,I.os,I.bare,⟨fun b o e n hb hx=>?_,fun b o e n hb hx=>?_,I.base.free,fun b o e hx=>?_,I.base.n6,I.base.nQ,I.base.oa⟩,⟨_,hn',fun j y v' e1 e2 e3=>?_⟩,fun y c e=>?_,I.free,I.jq,fun p hp=>?_,tracked ⟨oL,hoL,I.free⟩ hs,by simpa using I.len⟩ ⟨_,hs,.inl rfl⟩
  ·exact(hs.2 b (aB (aq (jj e) I.ok.above))).trans (I.base.keep b o e n hb hx)
  ·obtain⟨sl,e1⟩:=I.base.slot b o e n hb hx
   exact⟨sl,(hs.2 b (aB (aq (jj e) I.ok.above))).trans e1⟩
  ·obtain⟨o',e1⟩:=I.base.there b o e hx
   exact⟨o',(hs.2 b (aB (aq (jj e) I.ok.above))).trans e1⟩
  ·by_cases hj:j=i
   ·subst hj
    rw[hi]at e1;cases e1
    rw[az hiσ]at e2
    cases e2
    exact⟨u,r,.inl ⟨hk,by simp⟩⟩
   ·rw[ao (bb hj)]at e2
    obtain⟨u',r',q⟩:=hl j y v' e1 e2 e3
    refine⟨u',r',?_⟩
    rcases q with⟨k,e⟩ | ⟨k,c,e,z⟩
    ·refine .inl ⟨k,?_⟩
     have:y≠x:=fun e=>hj (nodup_ix hN e1 (e▸hi))
     simp[this,e]
    ·exact .inr ⟨k,c,e,z.sameBut hs (cne y c e)⟩
  ·obtain⟨w',z⟩:=I.cell y c e
   exact⟨w',z.sameBut hs (cne y c e)⟩
  ·obtain⟨e,n,ne,nf,d⟩:=I.pin p hp
   exact⟨(hs.2 p.1 ne).trans e,n,ne,nf,d⟩
 ·have hfn:X.fn x=true:=by
   rcases hf with z | z
   ·exact z
   ·rw[z]at hk;cases hk
  obtain⟨c,hc⟩:=I.ok.has x (.inl hk)
  obtain⟨w',z⟩:=I.cell x c hc
  refine wpAny_storeName_cell I.ok.kind hk hc z (fun h' sD hs=>?_)
  obtain⟨oc,hoc,hocd⟩:=id z
  refine h { s with heap:=h'} ⟨I.ok,I.os,I.bare,⟨fun b o e n hb hx=>?_,fun b o e n hb hx=>?_,I.base.free,fun b o e hx=>?_,I.base.n6,I.base.nQ,I.base.oa⟩,⟨m,hn.sameBut hs (bb (cne x c hc)),fun j y v' e1 e2 e3=>?_⟩,fun y c' e=>?_,I.free,I.jq,fun p hp=>?_,tracked ⟨oc,hoc,I.jq x c hc⟩ hs,by simpa using I.len⟩ ⟨c,hs,.inr hc⟩
  ·exact(hs.2 b (aB (aq (jj e) (I.ok.cab x c hfn hc)))).trans (I.base.keep b o e n hb hx)
  ·obtain⟨sl,e1⟩:=I.base.slot b o e n hb hx
   exact⟨sl,(hs.2 b (aB (aq (jj e) (I.ok.cab x c hfn hc)))).trans e1⟩
  ·obtain⟨o',e1⟩:=I.base.there b o e hx
   exact⟨o',(hs.2 b (aB (aq (jj e) (I.ok.cab x c hfn hc)))).trans e1⟩
  ·by_cases hj:j=i
   ·subst hj
    rw[hi]at e1;cases e1
    rw[az hiσ]at e2
    cases e2
    exact⟨u,r,.inr ⟨.inl hk,c,hc,sD⟩⟩
   ·rw[ao (bb hj)]at e2
    obtain⟨u',r',q⟩:=hl j y v' e1 e2 e3
    refine⟨u',r',?_⟩
    rcases q with q | ⟨k,c',e,z'⟩
    ·exact .inl q
    ·refine .inr ⟨k,c',e,z'.sameBut hs ?_⟩
     rintro rfl
     exact hj (nodup_ix hN e1 (I.ok.inj _ _ _ e hc▸hi))
  ·by_cases hcc:c'=c
   ·subst hcc;exact⟨_,sD⟩
   ·obtain⟨w2,z2⟩:=I.cell y c' e
    exact⟨w2,z2.sameBut hs hcc⟩
  ·obtain⟨e,n,ne,nf,d⟩:=I.pin p hp
   refine⟨(hs.2 p.1 ?_).trans e,n,ne,nf,d⟩
   intro q
   rw[q,hoc]at e
   have q':oc=p.2:=aK e
   exact d w' (by rw[<- q'];exact hocd)
theorem kC {M:Model}{A:Around}{E:Value->Shared->Prop}{i:Nat}{x:Str}{v:V}{u:Value}{Q:Unit->Shared->Prop}(I:Inv X pins σ H s)(hN:X.N.Nodup)(hi:X.N[i]?=some x)(hx:Loc X.env.scope x)(r:RelV v u)
 (h:∀ s',Inv X pins (σ.set i (some v)) H s'->Q () s') (hf:X.fn x=true\/X.env.scope.names.lookup x=some .local:=by first | exact .inl rfl | exact .inr rfl | assumption):wpAny M A (storeName X.env x u) Q E s :=
 xv I hN hi hx r (fun s' I' _=>h s' I') hf
theorem Inv.xT {s':Shared}{ch:List Addr}(I:Inv X pins σ H s)(ho:s'.os=s.os)(u:Un (xi X.stack) ch H H' s.heap s'.heap)(dZ:nu X.prog X.w H' s'.heap)(hg:AllBare s'.gens)
 (hch:∀ b∈ch,(b∈X.ex\/X.s₀.heap.objs.size<=b)/\b≠X.env.locals/\(∀ x c,X.env.cells.lookup x=some c->c≠b)/\∀ p∈X.pn++pins,p.1≠b):Inv X pins σ H' s':=by
 obtain⟨h',g',d',t',o'⟩:=s'
 have e:o'=s.os:=ho
 subst e
 exact I.call (g':=g') (t':=t') (d':=d') u dZ hg hch
end
abbrev XK:=Value->Option Addr->Hp->Prop
abbrev St:=List (Option V)
abbrev VK:=V->Hp->Prop
abbrev TE:=St->Hp->VK->Prop
abbrev TT:=St->Hp->(Bool->Hp->Prop)->Prop
abbrev TA:=St->Hp->(List V->Hp->Prop)->Prop
structure Ends where
 nx:St->Hp->Prop
 rt:VK
 bk:St->Hp->Prop:=fun _ _=>False
 ct:St->Hp->Prop:=fun _ _=>False
abbrev TS:=Ends->St->Hp->Prop
def EP (X:Cx)(pins:List (Addr×Obj))(σ:St)(Q:VK)(u:Value)(s':Shared):Prop:=∃ v H',Inv X pins σ H' s'/\RelV v u/\Q v H'
def TP (X:Cx)(pins:List (Addr×Obj))(σ:St)(Q:Bool->Hp->Prop)(b:Bool)(s':Shared):Prop:=∃ H',Inv X pins σ H' s'/\Q b H'
def AP (X:Cx)(pins:List (Addr×Obj))(σ:St)(Q:List V->Hp->Prop)(us:List Value)(s':Shared):Prop:=∃ vs H',Inv X pins σ H' s'/\Vals vs us/\Q vs H'
def SP (X:Cx)(pins:List (Addr×Obj))(D:Ends)(f:Flow)(s':Shared):Prop :=
 match f with
 | .next=>∃ fO H',Inv X pins fO H' s'/\D.nx fO H'
 | .brk=>∃ fO H',Inv X pins fO H' s'/\D.bk fO H'
 | .cont=>∃ fO H',Inv X pins fO H' s'/\D.ct fO H'
 | .ret u=>∃ v fO H',Inv X pins fO H' s'/\RelV v u/\D.rt v H'
def PE (X:Cx)(e:Expr)(t:TE):Prop :=
 ∀(pins:List (Addr×Obj)) (s:Shared) (σ:St) (H:Hp) (Q:VK),Inv X pins σ H s->t σ H Q->wpAny (model X.prog X.w) X.A (eval e X.env) (EP X pins σ Q) X.xe s
def PT (X:Cx)(e:Expr)(t:TT):Prop :=
 ∀(pins:List (Addr×Obj)) (s:Shared) (σ:St) (H:Hp) (Q:Bool->Hp->Prop),Inv X pins σ H s->t σ H Q->wpAny (model X.prog X.w) X.A (isTrue e X.env (eval e X.env)) (TP X pins σ Q) X.xe s
def PW (X:Cx)(e:Expr)(t:TT):Prop :=
 ∀(whole:Sem Value) (pins:List (Addr×Obj)) (s:Shared) (σ:St) (H:Hp) (Q:Bool->Hp->Prop),Inv X pins σ H s->t σ H Q->wpAny (model X.prog X.w) X.A (isTrue e X.env whole) (TP X pins σ Q) X.xe s
theorem PW.pt {X:Cx}{e:Expr}{t:TT}(h:PW X e t):PT X e t:=h _
def PA (X:Cx)(es:List Expr)(t:TA):Prop :=
 ∀(pos:Pos) (pins:List (Addr×Obj)) (s:Shared) (σ:St) (H:Hp) (Q:List V->Hp->Prop),Inv X pins σ H s->t σ H Q->wpAny (model X.prog X.w) X.A (spliced (backTo pos (starEach es X.env))) (AP X pins σ Q) X.xe s
def PS (X:Cx)(st:Stmt)(t:TS):Prop :=
 ∀(pins:List (Addr×Obj)) (s:Shared) (σ:St) (H:Hp) (D:Ends),Inv X pins σ H s->t D σ H->wpAny (model X.prog X.w) X.A (exec st X.env) (SP X pins D) X.xe s
def zX (X:Cx)(st:List Stmt)(t:TS):Prop :=
 ∀(pins:List (Addr×Obj)) (s:Shared) (σ:St) (H:Hp) (D:Ends),Inv X pins σ H s->t D σ H->wpAny (model X.prog X.w) X.A (execs st X.env) (SP X pins D) X.xe s
theorem fq {α:Type}{t:Sem α}{Q Q':α->Shared->Prop}{M:Model}{A:Around}{E:Value->Shared->Prop}{s:Shared}(h:wpAny M A t Q E s)(hQ:∀ a s,Q a s->Q' a s):wpAny M A t Q' E s:=bc h hQ fun _ _ x=>x
section
variable {X:Cx}
theorem bin {a b:Expr}{ta tb:TE}(ha:PE X a ta)(hb:PE X b tb){pins:List (Addr×Obj)}{s:Shared}{σ:St}{H:Hp}{R:V->V->Hp->Prop}(I:Inv X pins σ H s)(h:ta σ H fun x H1=>tb σ H1 fun y H2=>R x y H2)
 {α:Type} {Q:α->Shared->Prop} {f:Value->Value->Sem α}
 (hf:∀ v u s2 x y H2,Inv X pins σ H2 s2->RelV x v->RelV y u->R x y H2->wpAny (model X.prog X.w) X.A (f v u) Q X.xe s2) :
 wpAny (model X.prog X.w) X.A (eval a X.env) (fun v s₁=>wpAny (model X.prog X.w) X.A (eval b X.env) (fun u s₂=>wpAny (model X.prog X.w) X.A (f v u) Q X.xe s₂) X.xe s₁) X.xe s:=by
 refine fq (ha pins s σ H _ I h) fun v s1 pI=>?_
 obtain⟨x,H1,I1,r1,q1⟩:=pI
 refine fq (hb pins s1 σ H1 _ I1 q1) fun u s2 p5=>?_
 obtain⟨y,H2,I2,r2,q2⟩:=p5
 exact hf v u s2 x y H2 I2 r1 r2 q2
def tVar (i:Nat):TE:=fun σ H Q=>∃ v,σ[i]?=some (some v)/\Q v H
def tC (v:V):TE:=fun _ H Q=>Q v H
theorem yV {i:Nat}{x:Str}{pos:Pos}(hN:X.N[i]?=some x)(hv:Vis X.env.scope x)(hd:(x==("__debug__" : Str))=false:=by decide)(xh:(x==("__classdict__" : Str))=false:=by decide):PE X (.Name x pos) (tVar i):=by
 intro pins s σ H Q I h
 obtain⟨v,e,h⟩:=h
 obtain⟨m,hn,hl⟩:=I.loc
 obtain⟨u,r,l⟩:=hl i x v hN e hv
 have fin:EP X pins σ Q u s:=⟨v,H,I,r,h⟩
 rcases l with⟨hk,hm⟩ | ⟨hk,c,hc,tJ⟩
 ·exact wpAny_Name (wpAny_loadName_local I.ok.kind hk hn hm fin) hd
 ·rcases hk with hk | hk
  ·exact wpAny_Name (wpAny_loadName_cell I.ok.kind hk hc tJ fin) hd
  ·exact wpAny_Name (wpAny_loadName_free I.ok.kind hk hc tJ fin xh) hd
theorem fu {i j pos}:PE X (.Constant (.int i) j pos) (tC (.int i)):=fun _ _ _ H _ I h=>wpAny_Constant_int ⟨.int i,H,I.tok _,⟨_,rfl⟩,h⟩
theorem pe_bl {b j pos}:PE X (.Constant (.bool b) j pos) (tC (.bl b)):=fun _ _ _ H _ I h=>Constant_bool ⟨.bl b,H,I,rfl,h⟩
theorem pe_non {j pos}:PE X (.Constant .none j pos) (tC .fH):=fun _ _ _ H _ I h=>Constant_none ⟨.fH,H,I,rfl,h⟩
theorem pe_str {x j pos}:PE X (.Constant (.str x) j pos) (tC (.str x)):=fun _ _ _ H _ I h=>Calls.Constant_str ⟨.str x,H,I.tok _,⟨_,rfl⟩,h⟩
def Gl (X:Cx)(x:Str):Prop:=X.env.kindOf x=some .globalImplicit
theorem mV {E:Value->Shared->Prop}{pins:List (Addr×Obj)}{s:Shared}{σ:St}{H:Hp}{x:Str}{u:Value}{pos:Pos}{Q:Value->Shared->Prop}(I:Inv X pins σ H s)(hg:Gl X x)(hm:X.mg x=some u)(h:Q u s)
 (hd:(x==("__debug__" : Str))=false:=by decide):wpAny (model X.prog X.w) X.A (eval (.Name x pos) X.env) Q E s :=
 Calls.Name_function_global I.ok.kind hg (Calls.loadGlobal_global (by rw[I.ok.glob];exact I.mod.glob.keeps I.bk) hm h) hd
theorem oF {E:Value->Shared->Prop}{pins:List (Addr×Obj)}{s:Shared}{σ:St}{H:Hp}{x:Str}{u:Value}{pos:Pos}{Q:Value->Shared->Prop}(I:Inv X pins σ H s)(hg:Gl X x)(hm:X.mg x=none)(hv:bootBuiltins x=some u)(h:Q u s)
 (hn:x ≠ "__name__":=by decide) (hd:(x==("__debug__" : Str))=false:=by decide):wpAny (model X.prog X.w) X.A (eval (.Name x pos) X.env) Q E s:=by
 obtain⟨mb,h1,h2⟩:=I.mod.blt
 exact Calls.Name_function_global I.ok.kind hg (Calls.loadGlobal_builtin (by rw[I.ok.glob];exact I.mod.glob.keeps I.bk) hm (by rw[I.ok.blt];exact h1.keeps I.bk) ((h2 x hn).trans hv) h) hd
theorem pe_glob {x:Str}{v:V}{u:Value}{pos:Pos}(hg:Gl X x)(hm:X.mg x=some u)(r:RelV v u)(hd:(x==("__debug__" : Str))=false:=by decide):PE X (.Name x pos) (tC v) :=
 fun _ _ _ H _ I h=>mV I hg hm ⟨v,H,I,r,h⟩ hd
theorem gO {x:Str}{v:V}{u:Value}{pos:Pos}(hg:Gl X x)(hm:X.mg x=none)(hv:bootBuiltins x=some u)(r:RelV v u)(hn:x ≠ "__name__":=by decide)(hd:(x==("__debug__" : Str))=false:=by decide):PE X (.Name x pos) (tC v) :=
 fun _ _ _ H _ I h=>oF I hg hm hv ⟨v,H,I,r,h⟩ hn hd
variable {a b:Expr}{ta tb:TE}{pos:Pos}
def PC (X:Cx)(op:CmpOp)(a b:Expr)(t:TE):Prop :=
 ∀(pins:List (Addr×Obj)) (s:Shared) (σ:St) (H:Hp) (Q:VK),Inv X pins σ H s->t σ H Q ->
  wpAny (model X.prog X.w) X.A (eval a X.env) (fun v s₁=>wpAny (model X.prog X.w) X.A (eval b X.env) (fun u s₂=>wpAny (model X.prog X.w) X.A (compareOp op v u) (EP X pins σ Q) X.xe s₂) X.xe s₁) X.xe s
theorem nobehind (b:Expr){op:CmpOp}(h:op≠.In)(h2:op≠.NotIn):behindInMarks op b=false:=by
 have e1:(op==CmpOp.In)=false:=by cases op <;> first | rfl | exact absurd rfl h
 have e2:(op==CmpOp.NotIn)=false:=by cases op <;> first | rfl | exact absurd rfl h2
 cases b <;> simp[behindInMarks,e1,e2]
def tIsN (ta:TE):TE:=fun σ H Q=>ta σ H fun x H1=>Q (.bl (decide (x=.fH))) H1
def tNotN (ta:TE):TE:=fun σ H Q=>ta σ H fun x H1=>Q (.bl (!decide (x=.fH))) H1
theorem RelV.none_iff {x:V}{v:Value}(r:RelV x v):(v==Value.none)=decide (x=.fH):=by
 cases x with
 | fH=>cases r;rfl
 | bl _=>cases r;rfl
 | int _=>obtain⟨t,rfl⟩:=r;rfl
 | str _=>obtain⟨t,rfl⟩:=r;rfl
 | byt _=>obtain⟨t,rfl⟩:=r;rfl
 | flt _=>obtain⟨t,rfl⟩:=r;rfl
 | ref _=>cases r;rfl
 | ty _=>cases r;rfl
theorem pc_isN {j pos'}(ha:PE X a ta):PC X .Is a (.Constant .none j pos') (tIsN ta):=by
 intro pins s σ H Q I h
 refine fq (ha pins s σ H _ I h) fun v s1 qY=>?_
 obtain⟨x,H1,I1,r1,q1⟩:=qY
 exact Constant_none (is_none_gen ⟨.bl _,H1,I1,by rw[r1.none_iff];rfl,q1⟩)
theorem pc_notN {j pos'}(ha:PE X a ta):PC X .IsNot a (.Constant .none j pos') (tNotN ta):=by
 intro pins s σ H Q I h
 refine fq (ha pins s σ H _ I h) fun v s1 p4=>?_
 obtain⟨x,H1,I1,r1,q1⟩:=p4
 exact Constant_none (isnot_none_gen ⟨.bl _,H1,I1,by rw[r1.none_iff];rfl,q1⟩)
def tB (t:TE):TT:=fun σ H Q=>t σ H fun x H1=>∃ c,x=.bl c/\Q c H1
theorem pe_cmp {op:CmpOp}{t:TE}(h:PC X op a b t)(h1:behindInMarks op b=false:=by first | exact nobehind _ (by decide) (by decide) | rfl):PE X (.Compare a [op] [b] pos) t:=fun pins s σ H Q I hw=>wpAny_Compare1 (h pins s σ H Q I hw) h1
theorem yU {op:CmpOp}{t:TE}(h:PC X op a b t)(h1:behindInMarks op b=false:=by first | exact nobehind _ (by decide) (by decide) | rfl):PT X (.Compare a [op] [b] pos) (tB t):=by
 intro pins s σ H Q I hw
 refine wpAny_isTrue_Compare1 (fq (h pins s σ H _ I hw) fun v s1 h1=>fq h1 fun u s2 h2=>fq h2 fun c s3 pH=>?_) h1
 obtain⟨x,H1,I1,r1,q1⟩:=pH
 obtain⟨d,rfl,q⟩:=q1
 cases r1
 exact bH ⟨H1,I1,q⟩
variable {tA tB':TT}{rest:List Expr}
def tAnd (t u:TT):TT:=fun σ H Q=>t σ H fun c H1=>if c=true then u σ H1 Q else Q false H1
def tOr (t u:TT):TT:=fun σ H Q=>t σ H fun c H1=>if c=true then Q true H1 else u σ H1 Q
def tNot (t:TT):TT:=fun σ H Q=>t σ H fun c H1=>Q (!c) H1
theorem pw_and1 (ha:PT X a tA):PW X (.BoolOp .And [a] pos) tA:=by
 intro wh pins s σ H Q I h
 refine isTrue_and (fq (ha pins s σ H Q I h) fun c s1 e=>?_)
 cases c with
 | true=>exact isTrue_and_nil e
 | false=>exact e
theorem pw_or1 (ha:PT X a tA):PW X (.BoolOp .Or [a] pos) tA:=by
 intro wh pins s σ H Q I h
 refine isTrue_or (fq (ha pins s σ H Q I h) fun c s1 e=>?_)
 cases c with
 | false=>exact isTrue_or_nil e
 | true=>exact e
theorem pw_and (ha:PT X a tA)(hb:PW X (.BoolOp .And (b::rest) pos) tB'):PW X (.BoolOp .And (a::b::rest) pos) (tAnd tA tB'):=by
 intro wh pins s σ H Q I h
 refine isTrue_and (fq (ha pins s σ H _ I h) fun c s1 qk=>?_)
 obtain⟨H1,I1,q1⟩:=qk
 cases c with
 | true=>exact hb wh pins s1 σ H1 Q I1 q1
 | false=>exact⟨H1,I1,q1⟩
theorem pw_or (ha:PT X a tA)(hb:PW X (.BoolOp .Or (b::rest) pos) tB'):PW X (.BoolOp .Or (a::b::rest) pos) (tOr tA tB'):=by
 intro wh pins s σ H Q I h
 refine isTrue_or (fq (ha pins s σ H _ I h) fun c s1 nP=>?_)
 obtain⟨H1,I1,q1⟩:=nP
 cases c with
 | true=>exact⟨H1,I1,q1⟩
 | false=>exact hb wh pins s1 σ H1 Q I1 q1
theorem pt_not (ha:PT X a tA):PT X (.UnaryOp .Not a pos) (tNot tA):=by
 intro pins s σ H Q I h
 exact isTrue_not (ha pins s σ H (fun c H1=>Q (!c) H1) I h)
theorem pe_one {op}{t:TE}(h:PE X a t):PE X (.BoolOp op [a] pos) t:=fun pins s σ H Q I hw=>BoolOp_one (h pins s σ H Q I hw)
def tIf (t:TT)(ta tb:TE):TE:=fun σ H Q=>t σ H fun c H1=>if c=true then ta σ H1 Q else tb σ H1 Q
theorem pe_ifExp {c:Expr}(hc:PT X c tA)(ha:PE X a ta)(hb:PE X b tb):PE X (.IfExp c a b pos) (tIf tA ta tb):=by
 intro pins s σ H Q I h
 refine wpAny_IfExp (fq (hc pins s σ H _ I h) fun d s1 pI=>?_)
 obtain⟨H1,I1,q1⟩:=pI
 cases d with
 | true=>exact ha pins s1 σ H1 Q I1 q1
 | false=>exact hb pins s1 σ H1 Q I1 q1
end
def oW (K:PySem.W.Frag)(H:Hp)(a:Addr)(xs:List V):Prop :=
 Rd H a (.lst xs) \/
  ∃(o:Obj) (d9:Array Value) (n:Nat),K.lookup a=some o/\o.cls=.type "list"/\o.dict=none/\o.data=.seq d9 n/\d9.size<=sizeLine/\Vals xs d9.toList
def zV (K:PySem.W.Frag)(H:Hp)(a:Addr)(xs:List V):Prop :=
 Rd H a (.tup xs) \/
  ∃(o:Obj) (d9:Array Value) (n:Nat),K.lookup a=some o/\o.cls=.type "tuple"/\o.data=.seq d9 n/\d9.size<=sizeLine/\Vals xs d9.toList
def absV:Value->Option V
 | .none=>some .fH
 | .bool b=>some (.bl b)
 | .int i _=>some (.int i)
 | .str x _=>some (.str x)
 | .bytes b _=>some (.byt b)
 | .float b _=>some (.flt b)
 | .ref a=>some (.ref a)
 | .type n=>some (.ty n)
 | _=>none
theorem RelV.abs {x:V}{u:Value}(r:RelV x u):absV u=some x:=by
 cases x with
 | fH=>cases r;rfl
 | bl _=>cases r;rfl
 | int _=>obtain⟨t,rfl⟩:=r;rfl
 | str _=>obtain⟨t,rfl⟩:=r;rfl
 | byt _=>obtain⟨t,rfl⟩:=r;rfl
 | flt _=>obtain⟨t,rfl⟩:=r;rfl
 | ref _=>cases r;rfl
 | ty _=>cases r;rfl
theorem RelV.inj {x y:V}{u:Value}(r:RelV x u)(q:RelV y u):x=y:=aK (r.abs.symm.trans q.abs)
theorem Vals.inj {xs ys:List V}{us:List Value}(h:Vals xs us)(g:Vals ys us):xs=ys:=by
 induction h generalizing ys with
 | nil=>cases g;rfl
 | cons r t ih =>
  cases g with
  | cons r' t'=>rw[r.inj r',ih t']
section
variable {X:Cx}{pins:List (Addr×Obj)}{σ:St}{H:Hp}{s:Shared}{a:Addr}{xs ys:List V}
theorem oW.of {K:PySem.W.Frag}(h:H a=some (.lst xs)):oW K H a xs:=.inl (.inl h)
theorem zV.of {K:PySem.W.Frag}(h:H a=some (.tup xs)):zV K H a xs:=.inl (.inl h)
theorem Inv.list (I:Inv X pins σ H s)(h:oW X.K H a xs):∃ d9:List Value,Vals xs d9/\PlainL s.heap a d9.toArray/\xs.length<=sizeLine:=by
 rcases h with h | ⟨o,d9,n,hk,hc,hd,hs,hz,r⟩
 ·obtain⟨z,d9,n,r,e⟩:=h.ok I.dZ
  exact⟨d9,r,⟨_,n,e,rfl,rfl,rfl⟩,z⟩
 ·refine⟨d9.toList,r,⟨o,n,I.pP a o hk,hc,hd,by simpa using hs⟩,?_⟩
  have e:=r.length
  simp only[bW]at e
  omega
theorem Inv.tuple (I:Inv X pins σ H s)(h:zV X.K H a xs):∃ d9:List Value,Vals xs d9/\IsTup s.heap a d9.toArray/\xs.length<=sizeLine:=by
 rcases h with h | ⟨o,d9,n,hk,hc,hs,hz,r⟩
 ·obtain⟨z,d9,r,p⟩:=h.ok I.dZ
  exact⟨d9,r,p,z⟩
 ·refine⟨d9.toList,r,⟨o,I.pP a o hk,hc,n,by simpa using hs⟩,?_⟩
  have e:=r.length
  simp only[bW]at e
  omega
theorem Inv.list_inj (I:Inv X pins σ H s)(h:oW X.K H a xs)(h':oW X.K H a ys):xs=ys:=by
 obtain⟨d9,r,⟨o,n,e,_,_,d⟩,_⟩:=I.list h
 obtain⟨its',r',⟨o',n',e',_,_,d'⟩,_⟩:=I.list h'
 rw[e]at e';cases e'
 rw[d]at d'
 injection d' with d1 _
 have:d9=its':=by simpa using bI Array.toList d1
 subst this
 exact r.inj r'
end
abbrev Cx.wM (X:Cx)(E:Value->Shared->Prop):Cx:={ X with xe:=E}
abbrev Cx.nox (X:Cx):Cx:=X.wM fun _ _=>False
theorem Cx.Ok.wM {X:Cx}(ok:X.Ok)(E:Value->Shared->Prop):(X.wM E).Ok :=
 ⟨ok.mod,ok.kind,ok.glob,ok.blt,ok.above,ok.inj,ok.has,ok.cab,ok.hd,ok.frames,ok.stk,ok.exf,ok.bs,ok.bsz,ok.noex,ok.exfs,ok.pJ,ok.frf⟩
theorem Cx.Ok.nZ {X:Cx}{E:Value->Shared->Prop}(ok:(X.wM E).Ok):X.Ok :=
 ⟨ok.mod,ok.kind,ok.glob,ok.blt,ok.above,ok.inj,ok.has,ok.cab,ok.hd,ok.frames,ok.stk,ok.exf,ok.bs,ok.bsz,ok.noex,ok.exfs,ok.pJ,ok.frf⟩
section
variable {X:Cx}{pins:List (Addr×Obj)}{σ:St}{H:Hp}{s:Shared}{E:Value->Shared->Prop}
theorem Inv.wM (I:Inv X pins σ H s)(E:Value->Shared->Prop):Inv (X.wM E) pins σ H s:=⟨I.ok.wM E,I.os,I.bare,I.base,I.loc,I.cell,I.free,I.jq,I.pin,I.dZ,I.len⟩
theorem Inv.nZ (I:Inv (X.wM E) pins σ H s):Inv X pins σ H s:=⟨I.ok.nZ,I.os,I.bare,I.base,I.loc,I.cell,I.free,I.jq,I.pin,I.dZ,I.len⟩
theorem SP.nZ {D:Ends}{f:Flow}{s':Shared}(h:SP (X.wM E) pins D f s'):SP X pins D f s':=by
 cases f with
 | next=>obtain⟨fO,H',I,q⟩:=h;exact⟨fO,H',I.nZ,q⟩
 | brk=>obtain⟨fO,H',I,q⟩:=h;exact⟨fO,H',I.nZ,q⟩
 | cont=>obtain⟨fO,H',I,q⟩:=h;exact⟨fO,H',I.nZ,q⟩
 | ret u=>obtain⟨v,fO,H',I,r,q⟩:=h;exact⟨v,fO,H',I.nZ,r,q⟩
theorem zX.nox {st:List Stmt}{t:TS}(h:zX X.nox st t):zX X st t:=fun pins s σ H D I hw =>
 bc (h pins s σ H D (I.wM _) hw) (fun _ _ q=>q.nZ) fun _ _ z=>False.elim z
end
section
variable {X:Cx}{st:Stmt}{rest:List Stmt}{t u:TS}{e:Expr}{te:TE}{pos:Pos}
def tNext:TS:=fun D σ H=>D.nx σ H
def tSeq (t u:TS):TS:=fun D σ H=>t { D with nx:=u D} σ H
theorem lx:zX X [] tNext:=fun _ _ σ H _ I h=>cO ⟨σ,H,I,h⟩
theorem fP (h1:PS X st t)(h2:zX X rest u):zX X (st::rest) (tSeq t u):=by
 intro pins s σ H D I h
 refine wpAny_execs_cons (fq (h1 pins s σ H { D with nx:=u D} I h) fun f s1 q=>?_)
 cases f with
 | next =>
  obtain⟨fO,H',I',q⟩:=q
  exact h2 pins s1 fO H' D I' q
 | ret v=>exact q
 | brk=>exact q
 | cont=>exact q
theorem ja (h1:PS X st t):zX X [st] t:=by
 intro pins s σ H D I h
 refine wpAny_execs_cons (fq (h1 pins s σ H D I h) fun f s1 q=>?_)
 cases f with
 | next=>exact cO q
 | ret v=>exact q
 | brk=>exact q
 | cont=>exact q
theorem Inv.quiet {pins:List (Addr×Obj)}{σ:St}{H:Hp}{s:Shared}(I:Inv X pins σ H s):interactive X.env=false:=by simp[interactive,I.ok.kind]
def tDrop (te:TE):TS:=fun D σ H=>te σ H fun _ H1=>D.nx σ H1
theorem ps_expr (he:PE X e te)(hs:swapsWith e none pos.line X.env=pure false:=by rfl):PS X (.Expr e pos) (tDrop te):=by
 intro pins s σ H D I h
 exact wpAny_Expr_any (fq (he pins s σ H _ I h) fun v s1 p5=>by obtain⟨x,H1,I1,r1,q1⟩:=p5;exact⟨σ,H1,I1,q1⟩) I.quiet hs
def tRet (te:TE):TS:=fun D σ H=>te σ H D.rt
theorem lK (he:PE X e te):PS X (.Return (some e) pos) (tRet te):=by
 intro pins s σ H D I h
 exact wpAny_Return_some (fq (he pins s σ H _ I h) fun v s1 qY=>by obtain⟨x,H1,I1,r1,q1⟩:=qY;exact⟨x,σ,H1,I1,r1,q1⟩)
def tIfS (c:TT)(t u:TS):TS:=fun D σ H=>c σ H fun b H1=>if b=true then t D σ H1 else u D σ H1
theorem tj {c:Expr}{a b:List Stmt}{tc:TT}(hc:PT X c tc)(ha:zX X a t)(hb:zX X b u):PS X (.If c a b pos) (tIfS tc t u):=by
 intro pins s σ H D I h
 refine wpAny_If (fq (hc pins s σ H _ I h) fun d s1 p4=>?_)
 obtain⟨H1,I1,q1⟩:=p4
 cases d with
 | true=>exact ha pins s1 σ H1 D I1 q1
 | false=>exact hb pins s1 σ H1 D I1 q1
end
abbrev TG:=V->St->Hp->(St->Hp->Prop)->Prop
abbrev x9:=List V->St->Hp->(St->Hp->Prop)->Prop
def PG (X:Cx)(target:Expr)(t:TG):Prop :=
 ∀(pins:List (Addr×Obj)) (s:Shared) (σ:St) (H:Hp) (v:V) (u:Value) (Q:St->Hp->Prop),Inv X pins σ H s->RelV v u->t v σ H Q ->
  wpAny (model X.prog X.w) X.A (assign target X.env u) (fun _ s'=>∃ fO H',Inv X pins fO H' s'/\Q fO H') X.xe s
def PGs (X:Cx)(ts:List Expr)(t:x9):Prop :=
 ∀(pins:List (Addr×Obj)) (s:Shared) (σ:St) (H:Hp) (vs:List V) (us:List Value) (Q:St->Hp->Prop),Inv X pins σ H s->Vals vs us->t vs σ H Q ->
  wpAny (model X.prog X.w) X.A (assignInOrder ((assignEach ts X.env).map (·.2)) us) (fun _ s'=>∃ fO H',Inv X pins fO H' s'/\Q fO H') X.xe s
abbrev TSet:=V->V->V->Hp->(Hp->Prop)->Prop
def PSet (X:Cx)(t:TSet):Prop :=
 ∀(pins:List (Addr×Obj)) (s:Shared) (σ:St) (H:Hp) (o i v:V) (ov iv u:Value) (Q:Hp->Prop),Inv X pins σ H s->RelV o ov->RelV i iv->RelV v u->t o i v H Q ->
  wpAny (model X.prog X.w) X.A (setItem ov iv u) (fun _ s'=>∃ H',Inv X pins σ H' s'/\Q H') X.xe s
abbrev TIp:=V->V->Hp->VK->Prop
def PIp (X:Cx)(op:Operator)(t:TIp):Prop :=
 ∀(pins:List (Addr×Obj)) (s:Shared) (σ:St) (H:Hp) (x y:V) (v u:Value) (Q:VK),Inv X pins σ H s->RelV x v->RelV y u->t x y H Q ->
  wpAny (model X.prog X.w) X.A (inplaceOp op v u) (EP X pins σ Q) X.xe s
section
variable {X:Cx}{pos:Pos}
def rf (i:Nat):TG:=fun v σ H Q=>Q (σ.set i (some v)) H
theorem uw {i:Nat}{x:Str}(hN:X.N.Nodup)(hi:X.N[i]?=some x)(hx:Loc X.env.scope x)(hf:X.fn x=true\/X.env.scope.names.lookup x=some .local:=by first | exact .inl rfl | exact .inr rfl | assumption):PG X (.Name x pos) (rf i):=by
 intro pins s σ H v u Q I r h
 exact wpAny_assign_Name (kC I hN hi hx r (fun s' I'=>⟨_,H,I',h⟩) hf)
def gNil:x9:=fun vs σ H Q=>vs=[]/\Q σ H
def gCons (t:TG)(u:x9):x9:=fun vs σ H Q=>∃ v r,vs=v::r/\t v σ H fun fO H'=>u r fO H' Q
theorem pgs_nil:PGs X [] gNil:=by
 intro pins s σ H vs us Q I r h
 obtain⟨e,h⟩:=h
 subst e
 cases r
 exact assignInOrder_nil ⟨σ,H,I,h⟩
theorem pgs_cons {e:Expr}{es:List Expr}{t:TG}{u:x9}(h1:PG X e t)(h2:PGs X es u)
 (hs:(assignEach (e::es) X.env).map (·.2)=assign e X.env::(assignEach es X.env).map (·.2):=by rfl):PGs X (e::es) (gCons t u):=by
 intro pins s σ H vs us Q I r h
 obtain⟨v,vr,e1,h⟩:=h
 subst e1
 cases r with
 | cons r rr =>
  rw[hs]
  refine cW (fq (h1 pins s σ H _ _ _ I r h) fun _ s1 pH=>?_)
  obtain⟨Ai,H1,I1,q1⟩:=pH
  exact h2 pins s1 Ai H1 _ _ Q I1 rr q1
def gTup (K:PySem.W.Frag)(n:Nat)(t:x9):TG:=fun v σ H Q=>∃ a xs,v=.ref a/\zV K H a xs/\xs.length=n/\t xs σ H Q
theorem pg_tup {es:List Expr}{k:Nat}{t:x9}{n:Nat}(hc:X.calm=true)(h:PGs X es t)
 (hn:(assignEach es X.env).length=n:=by rfl) (hst:(assignEach es X.env).findIdx? (·.1)=none:=by rfl):PG X (.Tuple es k pos) (gTup X.K n t):=by
 intro pins s σ H v u Q I r hw
 obtain⟨a,xs,e1,hq,hl,hw⟩:=hw
 subst e1
 cases r
 obtain⟨d9,rv,ht,hz⟩:=I.tuple hq
 refine assign_Tuple_tuple (I.ok.hd hc) ht (by simp[hn,<- hl,rv.length]) hst fun h' hx=>?_
 have I1:Inv X pins σ H { s with heap:=h'}:=I.kept (t':=s.toks) fun b o e=>hx b o (aB (jj e)) e
 exact h pins _ σ H xs _ Q I1 (by simpa using rv) hw
def gSub (to ti:TE)(t:TSet):TG:=fun v σ H Q=>to σ H fun o H1=>ti σ H1 fun i H2=>t o i v H2 fun H3=>Q σ H3
theorem vi {o i:Expr}{to ti:TE}{t:TSet}(ho:PE X o to)(hi:PE X i ti)(hs:PSet X t)
 (ha:∀ v,assign (.Subscript o i pos) X.env v=(do
   let ov <- holding [v] (eval o X.env)
   let iv <- holding [v,ov] (eval i X.env)
   standAt pos
   holding [v,ov,iv] (setItem ov iv v)
   release [v,ov,iv] []):=by intro _;rfl):PG X (.Subscript o i pos) (gSub to ti t):=by
 intro pins s σ H v u Q I r h
 rw[ha]
 refine dY (bG (fq (ho pins s σ H _ I h) fun ov s1 qk=>?_))
 obtain⟨x,H1,I1,r1,q1⟩:=qk
 refine dY (bG (fq (hi pins s1 σ H1 _ I1 q1) fun iv s2 nP=>?_))
 obtain⟨y,H2,I2,r2,q2⟩:=nP
 refine dY (cM (dY (bG (fq (hs pins s2 σ H2 x y v ov iv u _ I2 r1 r2 r q2) fun _ s3 pI=>?_))))
 obtain⟨H3,I3,q3⟩:=pI
 exact wpAny_release ⟨σ,H3,I3,q3⟩
def tAsg (te:TE)(g:TG):TS:=fun D σ H=>te σ H fun x H1=>g x σ H1 D.nx
theorem sj {tg e:Expr}{te:TE}{g:TG}(he:PE X e te)(hg:PG X tg g)(hs:swapsWithSole [tg] e pos.line X.env=pure false:=by rfl)(hw:swappedStores [tg] e X.env=pure none:=by rfl)
 (h1:(assignEach [tg] X.env).map (·.2)=[assign tg X.env]:=by rfl):PS X (.Assign [tg] e pos) (tAsg te g):=by
 intro pins s σ H D I h
 refine wpAny_Assign_stores (fq (he pins s σ H _ I h) fun v s1 p5=>?_) hs hw
 obtain⟨x,H1,I1,r1,q1⟩:=p5
 rw[h1]
 exact fq (hg pins s1 σ H1 x v _ I1 r1 q1) fun _ s2 q=>q
theorem si {i:Nat}{x:Str}{e:Expr}{te:TE}{pos':Pos}(hN:X.N.Nodup)(hi:X.N[i]?=some x)(hx:Loc X.env.scope x)(he:PE X e te)(hs:swapsWith e (some (.Name x pos')) pos.line X.env=pure false:=by rfl)(hf:X.fn x=true\/X.env.scope.names.lookup x=some .local:=by first | exact .inl rfl | exact .inr rfl | assumption) :
 PS X (.Assign [.Name x pos'] e pos) (tAsg te (rf i)):=by
 intro pins s σ H D I h
 refine wpAny_Assign_Name (fq (he pins s σ H _ I h) fun v s1 qY=>?_) hs
 obtain⟨y,H1,I1,r1,q1⟩:=qY
 exact kC I1 hN hi hx r1 (fun s2 I2=>⟨_,H1,I2,q1⟩) hf
def tAug (i:Nat)(te:TE)(ti:TIp):TS:=fun D σ H=>∃ x,σ[i]?=some (some x)/\te σ H fun y H1=>ti x y H1 fun z H2=>D.nx (σ.set i (some z)) H2
theorem ps_aug {i:Nat}{x:Str}{e:Expr}{te:TE}{op:Operator}{ti:TIp}{pos':Pos}(hN:X.N.Nodup)(hi:X.N[i]?=some x)(hx:Loc X.env.scope x)(he:PE X e te)(ho:PIp X op ti)(hf:X.fn x=true\/X.env.scope.names.lookup x=some .local:=by first | exact .inl rfl | exact .inr rfl | assumption) :
 PS X (.AugAssign (.Name x pos') op e pos) (tAug i te ti):=by
 intro pins s σ H D I h
 obtain⟨v,e1,h⟩:=h
 obtain⟨m,hn,hl⟩:=I.loc
 have vis:Vis X.env.scope x:=by rcases hx with k | k;exact .inl k;exact .inr (.inl k)
 obtain⟨u,r,l⟩:=hl i x v hi e1 vis
 refine wpAny_AugAssign_Name ?_
 have go:wpAny (model X.prog X.w) X.A (eval e X.env) (fun w s₂=>wpAny (model X.prog X.w) X.A (inplaceOp op u w) (fun r s₃=>wpAny (model X.prog X.w) X.A (storeName X.env x r) (fun _=>SP X pins D .next) X.xe s₃) X.xe s₂) X.xe s:=by
  refine fq (he pins s σ H _ I h) fun w s1 p4=>?_
  obtain⟨y,H1,I1,r1,q1⟩:=p4
  refine fq (ho pins s1 σ H1 v y u w _ I1 r r1 q1) fun z s2 pH=>?_
  obtain⟨zv,H2,I2,r2,q2⟩:=pH
  exact kC I2 hN hi hx r2 (fun s3 I3=>⟨_,H2,I3,q2⟩) hf
 rcases l with⟨hk,hm⟩ | ⟨hk,c,hc,tJ⟩
 ·exact wpAny_loadName_local I.ok.kind hk hn hm go
 ·rcases hk with hk | hk
  ·exact wpAny_loadName_cell I.ok.kind hk hc tJ go
  ·rcases hx with k | k
   ·have:X.env.scope.names.lookup x=some .free:=hk
    rw[k]at this;cases this
   ·have:X.env.scope.names.lookup x=some .free:=hk
    rw[k]at this;cases this
def tAugS (to ti te:TE)(tget:V->V->Hp->VK->Prop)(tip:TIp)(tset:TSet):TS:=fun D σ H=>to σ H fun o H1=>ti σ H1 fun i H2=>tget o i H2 fun x H3=>te σ H3 fun y H4=>tip x y H4 fun z H5=>tset o i z H5 fun H6=>D.nx σ H6
def PGet (X:Cx)(t:V->V->Hp->VK->Prop):Prop :=
 ∀(pins:List (Addr×Obj)) (s:Shared) (σ:St) (H:Hp) (o i:V) (ov iv:Value) (Q:VK),Inv X pins σ H s->RelV o ov->RelV i iv->t o i H Q ->
  wpAny (model X.prog X.w) X.A (getItem ov iv) (EP X pins σ Q) X.xe s
theorem ps_augS {o i e:Expr}{to ti te:TE}{tget:V->V->Hp->VK->Prop}{tip:TIp}{tset:TSet}{op:Operator}{qm:Pos}(ho:PE X o to)(hi:PE X i ti)(hg:PGet X tget)(he:PE X e te)(hp:PIp X op tip)(hs:PSet X tset)
 (ha:∀ ov iv new,augStore i ov iv new=(do holding [new,ov,iv] (setItem ov iv new);release [new,ov,iv] [];pure .next):=by intros;rfl):PS X (.AugAssign (.Subscript o i qm) op e pos) (tAugS to ti te tget tip tset):=by
 intro pins s σ H D I h
 refine wpAny_AugAssign_SubscriptAny (fq (ho pins s σ H _ I h) fun ov s1 qk=>?_) ha
 obtain⟨x1,H1,I1,r1,q1⟩:=qk
 refine fq (hi pins s1 σ H1 _ I1 q1) fun iv s2 nP=>?_
 obtain⟨x2,H2,I2,r2,q2⟩:=nP
 refine fq (hg pins s2 σ H2 x1 x2 ov iv _ I2 r1 r2 q2) fun old s3 pI=>?_
 obtain⟨x3,H3,I3,r3,q3⟩:=pI
 refine fq (he pins s3 σ H3 _ I3 q3) fun v s4 p5=>?_
 obtain⟨x4,H4,I4,r4,q4⟩:=p5
 refine fq (hp pins s4 σ H4 x3 x4 old v _ I4 r3 r4 q4) fun new s5 qY=>?_
 obtain⟨x5,H5,I5,r5,q5⟩:=qY
 exact fq (hs pins s5 σ H5 x1 x2 x5 ov iv new _ I5 r1 r2 r5 q5) fun _ s6 p4=>by obtain⟨H6,I6,q6⟩:=p4;exact⟨σ,H6,I6,q6⟩
def ipI (f:Int->Int->Int):TIp:=fun x y H Q=>∃ i j,x=.int i/\y=.int j/\Q (.int (f i j)) H
theorem ip_add:PIp X .Add (ipI fun i j=>i+j):=by
 intro pins s σ H x y v u Q I r1 r2 h
 obtain⟨i,j,e1,e2,q⟩:=h
 subst e1;subst e2
 obtain⟨t,rfl⟩:=r1
 obtain⟨t',rfl⟩:=r2
 exact iadd_int ⟨.int _,H,I.tok _,⟨_,rfl⟩,q⟩
end
section
variable {X:Cx}{pos:Pos}
def tWhile (c:TT)(tb:TS):TS:=fun D σ H=>∃ W:Nat->St->Hp->Prop,(∃ m,W m σ H)/\∀ m σ H,W m σ H ->
 c σ H fun b H1=>if b=true then ∃ N:St->Hp->Prop,(∀ fO H',N fO H'->∃ m',m'<m/\W m' fO H')/\tb { D with nx:=N,ct:=N,bk:=D.nx} σ H1 else D.nx σ H1
theorem ps_while {c:Expr}{body:List Stmt}{tc:TT}{tb:TS}(hp:PassesOwn (model X.prog X.w) X.A X.env X.xe)(hc:PT X c tc)(hb:zX X body tb):PS X (.While c body [] pos) (tWhile tc tb):=by
 intro pins s σ H D I h
 obtain⟨W,⟨m0,w0⟩,turn⟩:=h
 refine wpAny_While (codeAny_whileLoop (fun n s'=>∃ fO H',Inv X pins fO H' s'/\W n fO H') ?_ m0 ⟨σ,H,I,w0⟩)
 rintro n s1 ⟨Ai,H1,I1,w1⟩
 refine b9 hp (fq (hc pins s1 Ai H1 _ I1 (turn n Ai H1 w1)) fun b s2 pH=>?_)
 obtain⟨H2,I2,q2⟩:=pH
 cases b with
 | true =>
  obtain⟨N,hN,q2⟩:=q2
  rw[ag rfl]
  refine b9 hp (fq (hb pins s2 Ai H2 _ I2 q2) fun f s3 q3=>?_)
  cases f with
  | next =>
   obtain⟨σ3,H3,I3,n3⟩:=q3
   obtain⟨m',hm,w3⟩:=hN σ3 H3 n3
   exact⟨m',hm,σ3,H3,I3,w3⟩
  | cont =>
   obtain⟨σ3,H3,I3,n3⟩:=q3
   obtain⟨m',hm,w3⟩:=hN σ3 H3 n3
   exact⟨m',hm,σ3,H3,I3,w3⟩
  | brk=>exact q3
  | ret v=>exact q3
 | false =>
  rw[ae aA]
  exact cO ⟨Ai,H2,I2,q2⟩
end
structure It where
 go:Nat->Hp->Prop
 yld:Nat->Hp->V->Hp->Prop
 stop:Nat->Hp->Prop
def ny (X:Cx)(pins:List (Addr×Obj))(H:Hp)(b:Addr):Prop :=
 H b=none/\b≠X.env.locals/\b∉X.fs/\(b∈X.ex\/X.s₀.heap.objs.size<=b)/\(∀ x c,X.env.cells.lookup x=some c->c≠b)/\∀ p∈X.pn++pins,p.1≠b
theorem Inv.fpOk {X:Cx}{pins:List (Addr×Obj)}{σ:St}{H H':Hp}{s:Shared}{b:Addr}(I:Inv X pins σ H s)(hb:s.heap.objs.size<=b)(hn:H' b=none):ny X pins H' b:=by
 refine⟨hn,bg (aq I.lt hb),I.nofs hb,.inr (ar I.sz hb),fun x c e z=>?_,fun p hp z=>?_⟩
 ·obtain⟨v,q⟩:=I.cell x c e
  exact absurd (aq q.lt (by rw[z];exact hb)) (bt _)
 ·exact absurd (aq (jj (I.pin p hp).1) (by rw[z];exact hb)) (bt _)
structure Turn (P:Program)(w:World)(K:PySem.W.Frag)(tg:Expr)(J:It)(fp:List Addr)(it:Addr)(tn:Nat->Heap->Prop)(CM:Cx->Prop:=fun X=>X.calm=true):Prop where
 mem:it∈fp
 obj:∀ i h,tn i h->∀ b∈fp,∃ o,h.get? b=some o/\∀ v,o.data≠.cell v
 keep:∀ i h h',tn i h->(∀ b∈fp,∀ o,h.get? b=some o->h'.get? b=some o)->tn i h'
 item:∀(X:Cx),X.prog=P->X.w=w->X.K=K->CM X->∀(i:Nat) (pins:List (Addr×Obj)) (s:Shared) (σ:St) (H:Hp) (E:Value->Shared->Prop),Inv X pins σ H s->(∀ b∈fp,ny X pins H b)->tn i s.heap->J.go i H ->
  wpAny (model P w) X.A (pyNext (.ref it)) (fun r s1=>∃ u,r=some u /\
   wpAny (model P w) X.A (letOwnedTupleGo tg (.ref it) u) (fun _ s2=>∃ x H',Inv X pins σ H' s2/\RelV x u/\J.yld i H x H'/\tn (i+1) s2.heap/\∀ b∈fp,H' b=none) E s1) E s
 done:∀(X:Cx),X.prog=P->X.w=w->X.K=K->CM X->∀(i:Nat) (pins:List (Addr×Obj)) (s:Shared) (σ:St) (H:Hp) (E:Value->Shared->Prop),Inv X pins σ H s->(∀ b∈fp,ny X pins H b)->tn i s.heap->J.stop i H ->
  wpAny (model P w) X.A (pyNext (.ref it)) (fun r s1=>r=none/\Inv X pins σ H s1) E s
 self:∀(A:Around) (i:Nat) (s:Shared) (Q:Value->Shared->Prop) (E:Value->Shared->Prop),tn i s.heap->Q (.ref it) s->wpAny (model P w) A (pyIter (.ref it)) Q E s
abbrev TI:=St->Hp->(It->Hp->Prop)->Prop
def PIE (X:Cx)(pins:List (Addr×Obj))(σ:St)(tg:Expr)(R:It->Hp->Prop)(itv:Value)(s2:Shared):Prop :=
 ∃(it:Addr) (fp:List Addr) (tn:Nat->Heap->Prop) (J:It) (H':Hp),itv=.ref it/\Inv X pins σ H' s2/\Turn X.prog X.w X.K tg J fp it tn/\tn 0 s2.heap/\(∀ b∈fp,ny X pins H' b)/\R J H'
def PI (X:Cx)(tg iter:Expr)(wi:TI):Prop :=
 ∀(pins:List (Addr×Obj)) (s:Shared) (σ:St) (H:Hp) (R:It->Hp->Prop),Inv X pins σ H s->wi σ H R ->
  wpAny (model X.prog X.w) X.A (eval iter X.env) (fun v s1=>wpAny (model X.prog X.w) X.A (pyIter v) (PIE X pins σ tg R) X.xe s1) X.xe s
theorem xN {M:Model}{A:Around}{E:Value->Shared->Prop}{s:Shared}{tg:Expr}{it:Addr}{u:Value}{o:Obj}{n:String}{vs:Array Value}{Q:Unit->Shared->Prop}(ho:s.heap.get? it=some o)(hc:o.cls=.type n)(hd:o.data=.fields vs)
 (hn:["enumerate", "zip", "dict_itemiterator", "dict_reverseitemiterator", "odict_iterator", "itertools.zip_longest", "itertools.pairwise"].contains n=false) (hQ:Q () s):wpAny M A (letOwnedTupleGo tg (.ref it) u) Q E s:=by
 unfold letOwnedTupleGo
 cases tg <;> first
  | exact aj hQ
  | (cases u <;> first
      | exact aj hQ
      | (refine dY (wpAny_load ho ?_)
         rw[hc,hd]
         show wpAny M A (if(["enumerate", "zip", "dict_itemiterator", "dict_reverseitemiterator", "odict_iterator", "itertools.zip_longest", "itertools.pairwise"].contains n&&vs[0]?==some (rawInt _))=true then _ else _) Q E s
         rw[ae (by intro h;rw[hn,Bool.false_and]at h;cases h)]
         exact aj hQ))
def Itl (K:PySem.W.Frag)(a:Addr):It :=
 ⟨fun i H=>∃ xs x,oW K H a xs/\xs[i]?=some x,fun i H x H'=>H'=H/\∀ xs,oW K H a xs->xs[i]?=some x,fun i H=>∃ xs,oW K H a xs/\xs.length<=i⟩
def Itr (lo:Int)(n:Nat):It:=⟨fun i _=>i<n,fun i H x H'=>H'=H/\x=.int (lo+i),fun i _=>n<=i⟩
theorem turn_list {P:Program}{w:World}{K:PySem.W.Frag}{tg:Expr}(a it:Addr):Turn P w K tg (Itl K a) [it] it (fun i h=>h.IsListIter it a i) where
 mem:=by simp
 obj:=fun i h st b hb=>by
  have e:b=it:=by simpa using hb
  subst e
  obtain⟨o,e,c,d⟩:=st
  exact⟨o,e,fun v z=>by rw[d]at z;cases z⟩
 keep:=fun i h h' st k=>st.at fun o e=>k it (by simp) o e
 item:=by
  intro X hP hw hK hc i pins s σ H E I hf st hg
  subst hP hw hK
  obtain⟨xs,x,hq,hx⟩:=hg
  obtain⟨d9,rv,p,hz⟩:=I.list hq
  obtain⟨u,hu,ru⟩:=rv.get hx
  obtain⟨f0,f1,f2,f3,f4,f5⟩:=hf it (by simp)
  refine wpAny_pyNext_list_item st p.isList (x:=u) (by simpa using hu) fun h' st' sb=>?_
  have I1:Inv X pins σ H { s with heap:=h'}:=I.turned (t':=s.toks) (fun b o hb e=>(sb.2 b hb).trans e) f0 f1 f3 f4 f5
  obtain⟨o,e,c,d⟩:=id st'
  exact⟨u,rfl,xN (s:={ s with heap:=h'}) e c d (by decide) ⟨x,H,I1,ru,⟨rfl,fun ys hy=>by rw[I.list_inj hy hq];exact hx⟩,st',fun b hb=>(hf b hb).1⟩⟩
 done:=by
  intro X hP hw hK hc i pins s σ H E I hf st hg
  subst hP hw hK
  obtain⟨xs,hq,hx⟩:=hg
  obtain⟨d9,rv,p,hz⟩:=I.list hq
  obtain⟨f0,f1,f2,f3,f4,f5⟩:=hf it (by simp)
  have hl:=rv.length
  exact wpAny_pyNext_list_end (I.ok.hd hc) st p.isList (by simp;omega) fun h' eb=>⟨rfl,I.turned (t':=s.toks) (fun b o hb e=>eb b o hb e) f0 f1 f3 f4 f5⟩
 self:=fun _ _ _ _ _ st h=>wpAny_pyIter_listiter st h
theorem mD {P:Program}{w:World}{K:PySem.W.Frag}{tg:Expr}(it:Addr)(lo:Int)(n:Nat):Turn P w K tg (Itr lo n) [it] it (fun i h=>IsRangeIter h it (lo+(i:Nat)*1) ((n:Int) - (i:Nat)) 1) where
 mem:=by simp
 obj:=fun i h st b hb=>by
  have e:b=it:=by simpa using hb
  subst e
  exact⟨_,st,fun v z=>by
   have z':Data.fields _=Data.cell v:=z
   cases z'⟩
 keep:=fun i h h' st k=>k it (by simp) _ st
 item:=by
  intro X hP hw hK hc i pins s σ H E I hf st hg
  subst hP hw hK
  obtain⟨f0,f1,f2,f3,f4,f5⟩:=hf it (by simp)
  have W:=Walks.range (prog:=X.prog) (w:=X.w) (I.ok.hd hc) it lo 1 n
  refine W.item i s _ _ hg st fun v h' tk hv st' kk=>?_
  obtain⟨t,rfl⟩:=hv
  have I1:Inv X pins σ H { s with heap:=h',toks:=tk}:=I.turned (fun b o hb e=>kk b o (by simpa using hb) e) f0 f1 f3 f4 f5
  refine⟨_,rfl,xN (s:={ s with heap:=h',toks:=tk}) (n := "range_iterator") st' rfl rfl (by decide) ⟨.int (lo+i),H,I1,⟨t,?_⟩,⟨rfl,rfl⟩,st',fun b hb=>(hf b hb).1⟩⟩
  rw[Int.mul_one]
 done:=by
  intro X hP hw hK hc i pins s σ H E I hf st hg
  subst hP hw hK
  obtain⟨f0,f1,f2,f3,f4,f5⟩:=hf it (by simp)
  exact wpAny_pyNext_range_end (I.ok.hd hc) st (by have:n<=i:=hg;omega) fun h' eb=>⟨rfl,I.turned (t':=s.toks) (fun b o hb e=>eb b o hb e) f0 f1 f3 f4 f5⟩
 self:=fun _ _ _ _ _ st h=>wpAny_pyIter_rangeiter st h
section
variable {X:Cx}{tg:Expr}
def iList (K:PySem.W.Frag)(tl:TE):TI:=fun σ H R=>tl σ H fun x H1=>∃ a,x=.ref a/\(∃ xs,oW K H1 a xs)/\R (Itl K a) H1
theorem pi_list {l:Expr}{tl:TE}(hl:PE X l tl):PI X tg l (iList X.K tl):=by
 intro pins s σ H R I h
 refine fq (hl pins s σ H _ I h) fun v s1 qk=>?_
 obtain⟨x,H1,I1,r1,q1⟩:=qk
 obtain⟨a,e,⟨xs,hq⟩,q⟩:=q1
 subst e
 cases r1
 obtain⟨d9,rv,p,hz⟩:=I1.list hq
 refine wpAny_pyIter_list p.isList ?_
 refine⟨s1.heap.objs.size,[s1.heap.objs.size],_,_,H1,rfl,I1.kept (t':=s1.toks) fun b o e=>iV _ e,turn_list a _,⟨_,av _ rfl,rfl,rfl⟩,fun b hb=>?_,q⟩
 have e:b=s1.heap.objs.size:=by simpa using hb
 subst e
 exact I1.fpOk (aa _) (I1.dZ.fresh (aa _))
theorem range_it {pins:List (Addr×Obj)}{σ:St}{H:Hp}{s:Shared}{R:It->Hp->Prop}{E:Value->Shared->Prop}{lo hi:Int}{t u v:Tok}{tk:Nat}(I:Inv X pins σ H s)(h1:-(2 ^ 62)<=lo)(h2:lo<2 ^ 62)(h3:-(2 ^ 62)<=hi)(h4:hi<2 ^ 62)
 (q:R (Itr lo (hi - lo).toNat) H):wpAny (model X.prog X.w) X.A (pyIter (.ref s.heap.objs.size)) (PIE X pins σ tg R) E { s with heap:=s.heap.push { cls:=.type "range",data:=.fields #[.int lo t,.int hi u,.int 1 v]},toks:=tk}:=by
 refine wpAny_pyIter_range (IsRange.new ..) (small_one h1 h2 h3 h4) ?_
 have I1:Inv X pins σ H { s with heap:=s.heap.push { cls:=.type "range",data:=.fields #[.int lo t,.int hi u,.int 1 v]},toks:=tk}:=I.kept fun b o e=>iV _ e
 refine⟨(s.heap.push { cls:=.type "range",data:=.fields #[.int lo t,.int hi u,.int 1 v]}).objs.size,[(s.heap.push { cls:=.type "range",data:=.fields #[.int lo t,.int hi u,.int 1 v]}).objs.size],_,_,H,rfl,
  I1.kept (t':=tk) fun b o e=>iV _ e,mD _ lo (hi - lo).toNat,?_,fun b hb=>?_,q⟩
 ·have e1:lo+((0:Nat):Int)*1=lo:=by simp
  have e2:(((hi - lo).toNat:Nat):Int) - ((0:Nat):Int)=Builtin.Range.rangeSize lo hi 1:=by rw[rangeSize_one];split <;> omega
  show IsRangeIter _ _ (lo+((0:Nat):Int)*1) ((((hi - lo).toNat:Nat):Int) - ((0:Nat):Int)) 1
  rw[e1,e2]
  exact av _ rfl
 ·have e:b=(s.heap.push { cls:=.type "range",data:=.fields #[.int lo t,.int hi u,.int 1 v]}).objs.size:=by simpa using hb
  subst e
  exact I1.fpOk (aa _) (I1.dZ.fresh (aa _))
def iRng1 (ta:TA):TI:=fun σ H R=>ta σ H fun vs H1=>∃ j:Int,vs=[.int j] /\ -(2 ^ 62)<=j/\j<2 ^ 62/\R (Itr 0 j.toNat) H1
def iRng2 (ta:TA):TI:=fun σ H R=>ta σ H fun vs H1=>∃ i j:Int,vs=[.int i,.int j]/\(-(2 ^ 62)<=i/\i<2 ^ 62 /\ -(2 ^ 62)<=j/\j<2 ^ 62)/\R (Itr i (j - i).toNat) H1
theorem pi_range1 {a:Expr}{ta:TA}{p pos:Pos}(hg:Gl X "range")(hm:X.mg "range"=none)(ha:PA X [a] ta)(hs:starEach [a] X.env=[(false,eval a X.env)]:=by rfl):PI X tg (.Call (.Name "range" p) [a] [] pos) (iRng1 ta):=by
 intro pins s σ H R I h
 refine Call_ (oF I hg hm boot_range (bw (fq (ha pos pins s σ H _ I h) fun us s1 nP=>?_) hs rfl))
 obtain⟨vs,H1,I1,r1,q1⟩:=nP
 obtain⟨j,e,q1,q2,q⟩:=q1
 subst e
 cases r1 with
 | cons r rr =>
  cases rr
  obtain⟨t,rfl⟩:=r
  exact call_range_1 (range_it I1 (by omega) (by omega) q1 q2 (by simpa using q))
theorem pi_range2 {a b:Expr}{ta:TA}{p pos:Pos}(hg:Gl X "range")(hm:X.mg "range"=none)(ha:PA X [a,b] ta)(hs:starEach [a,b] X.env=[(false,eval a X.env),(false,eval b X.env)]:=by rfl)(hs2:starEach [b] X.env=[(false,eval b X.env)]:=by rfl) :
 PI X tg (.Call (.Name "range" p) [a,b] [] pos) (iRng2 ta):=by
 intro pins s σ H R I h
 refine Call_ (oF I hg hm boot_range (bw (fq (ha pos pins s σ H _ I h) fun us s1 pI=>?_) (by rw[hs,hs2]) (by rw[hs2];rfl)))
 obtain⟨vs,H1,I1,r1,q1⟩:=pI
 obtain⟨i,j,e,⟨q1,q2,q3,q4⟩,q⟩:=q1
 subst e
 cases r1 with
 | cons r rr =>
  cases rr with
  | cons r' rr =>
   cases rr
   obtain⟨t,rfl⟩:=r
   obtain⟨t',rfl⟩:=r'
   exact call_range_2 (range_it I1 q1 q2 q3 q4 q)
def tFor (wi:TI)(g:TG)(tb:TS):TS:=fun D σ H=>wi σ H fun J H1=>∃ W:Nat->Nat->St->Hp->Prop,(∃ m,W 0 m σ H1)/\∀ i m σ H,W i m σ H ->
 (J.stop i H/\D.nx σ H)\/(J.go i H/\∃ N:St->Hp->Prop,(∀ fO H',N fO H'->∃ m',m'<m/\W (i+1) m' fO H')/\∀ x H',J.yld i H x H'->g x σ H' fun lU H2=>tb { D with nx:=N,ct:=N,bk:=D.nx} lU H2)
def sq (fp:List Addr)(h:Heap):List (Addr×Obj):=fp.filterMap fun b=>(h.get? b).map fun o=>(b,o)
theorem jx {fp:List Addr}{h:Heap}{b:Addr}{o:Obj}(hb:b∈fp)(e:h.get? b=some o):(b,o)∈sq fp h:=List.mem_filterMap.mpr ⟨b,hb,by rw[e];rfl⟩
theorem of_pinsAt {fp:List Addr}{h:Heap}{p:Addr×Obj}(hp:p∈sq fp h):p.1∈fp/\h.get? p.1=some p.2:=by
 obtain⟨b,hb,e⟩:=List.mem_filterMap.mp hp
 cases q:h.get? b with
 | none=>rw[q]at e;cases e
 | some o =>
  rw[q]at e
  have e':(b,o)=p:=aK e
  subst e'
  exact⟨hb,q⟩
theorem Inv.pinned {pins:List (Addr×Obj)}{σ:St}{H:Hp}{s:Shared}{fp:List Addr}(I:Inv X pins σ H s)(hf:∀ b∈fp,ny X pins H b)(ho:∀ b∈fp,∃ o,s.heap.get? b=some o/\∀ v,o.data≠.cell v):Inv X (pins++sq fp s.heap) σ H s :=
 I.mT fun p hp=>(List.mem_append.mp hp).elim (fun z=>I.pin p (aD _ z)) fun z=>by
  obtain⟨hb,e⟩:=of_pinsAt z
  obtain⟨f0,f1,f2,_⟩:=hf p.1 hb
  obtain⟨o,e',d⟩:=ho p.1 hb
  rw[e]at e';cases e'
  exact⟨e,f0,f1,f2,d⟩
theorem Inv.n5 {pins pl:List (Addr×Obj)}{σ:St}{H:Hp}{s:Shared}(I:Inv X (pins++pl) σ H s):Inv X pins σ H s:=I.mT fun p hp=>I.pin p (aD _ (bS _ hp))
theorem ps_for {iter:Expr}{body:List Stmt}{wi:TI}{g:TG}{tb:TS}{pos:Pos}(hp:PassesOwn (model X.prog X.w) X.A X.env X.xe)(hc:X.calm=true)(hi:PI X tg iter wi)(hg:PG X tg g)(hb:zX X body tb)
 (hs:∀ x,foldedSetIterable iter X.env x=pure x:=by intro _;rfl):PS X (.For tg iter body [] pos) (tFor wi g tb):=by
 intro pins s σ H D I h
 refine wpAny_For (fq (hi pins s σ H _ I h) fun v s1 h1=>fq h1 fun itv s2 h2=>?_) hs
 obtain⟨it,fp,tn,J,H2,e,I2,T,st2,f2,W,⟨m0,w0⟩,turn⟩:=h2
 subst e
 have uV:∀ {H':Hp},(∀ b∈fp,H' b=none)->∀ b∈fp,ny X pins H' b:=fun hn b hb=>⟨hn b hb,(f2 b hb).2⟩
 refine codeAny_forLoop_any (fun n s'=>∃ i fO H',Inv X pins fO H' s'/\tn i s'.heap/\(∀ b∈fp,H' b=none)/\W i n fO H') ?_ m0 ⟨0,σ,H2,I2,st2,fun b hb=>(f2 b hb).1,w0⟩
 rintro n s3 ⟨i,σ3,H3,I3,st3,fr3,w3⟩
 rcases turn i n σ3 H3 w3 with⟨stop,qn⟩ | ⟨go,N,hN,step⟩
 ·refine b9 hp (fq (T.done X rfl rfl rfl hc i pins s3 σ3 H3 X.xe I3 (uV fr3) st3 stop) fun r s4 p5=>?_)
  obtain⟨hr,I4⟩:=p5
  subst hr
  exact cO ⟨σ3,H3,I4,qn⟩
 ·refine b9 hp (fq (T.item X rfl rfl rfl hc i pins s3 σ3 H3 X.xe I3 (uV fr3) st3 go) fun r s4 qY=>?_)
  obtain⟨u,hr,h4⟩:=qY
  subst hr
  refine b9 hp (fq h4 fun _ s5 p4=>?_)
  obtain⟨x,H5,I5,r5,y5,st5,fr5⟩:=p4
  have I5':=I5.pinned (uV fr5) (T.obj _ _ st5)
  refine b9 hp (fq (hg _ s5 σ3 H5 x u _ I5' r5 (step x H5 y5)) fun _ s6 pH=>?_)
  obtain⟨σ6,H6,I6,q6⟩:=pH
  refine b9 hp (fq (hb _ s6 σ6 H6 _ I6 q6) fun f s7 q7=>?_)
  have again:∀ {σ7:St} {H7:Hp},Inv X (pins++sq fp s5.heap) σ7 H7 s7->N σ7 H7->∃ m,m<n/\∃ i fO H',Inv X pins fO H' s7/\tn i s7.heap/\(∀ b∈fp,H' b=none)/\W i m fO H':=fun {σ7 H7} I7 n7=>by
   obtain⟨m',hm,w7⟩:=hN σ7 H7 n7
   refine⟨m',hm,i+1,σ7,H7,I7.n5,T.keep _ _ _ st5 fun b hb o e=>(I7.pin (b,o) (aD _ (aD _ (jx hb e)))).1,fun b hb=>?_,w7⟩
   obtain⟨o,e,d⟩:=T.obj _ _ st5 b hb
   exact(I7.pin (b,o) (aD _ (aD _ (jx hb e)))).2.1
  cases f with
  | next=>obtain⟨σ7,H7,I7,n7⟩:=q7;exact again I7 n7
  | cont=>obtain⟨σ7,H7,I7,n7⟩:=q7;exact again I7 n7
  | brk=>obtain⟨σ7,H7,I7,q7⟩:=q7;exact⟨σ7,H7,I7.n5,q7⟩
  | ret v=>obtain⟨x7,σ7,H7,I7,r7,q7⟩:=q7;exact⟨x7,σ7,H7,I7.n5,r7,q7⟩
end
abbrev R2:=V->V->Hp->VK->Prop
def iT (X:Cx)(f:Value->Value->Sem Value)(r:R2):Prop :=
 ∀(pins:List (Addr×Obj)) (s:Shared) (σ:St) (H:Hp) (x y:V) (v u:Value) (Q:VK),Inv X pins σ H s->RelV x v->RelV y u->r x y H Q ->
  wpAny (model X.prog X.w) X.A (f v u) (EP X pins σ Q) X.xe s
def UnR (X:Cx)(f:Value->Sem Value)(r:V->Hp->VK->Prop):Prop :=
 ∀(pins:List (Addr×Obj)) (s:Shared) (σ:St) (H:Hp) (x:V) (v:Value) (Q:VK),Inv X pins σ H s->RelV x v->r x H Q ->
  wpAny (model X.prog X.w) X.A (f v) (EP X pins σ Q) X.xe s
def gM (X:Cx)(f:Value)(r:List V->Hp->VK->Prop):Prop :=
 ∀(pins:List (Addr×Obj)) (s:Shared) (σ:St) (H:Hp) (xs:List V) (us:List Value) (Q:VK),Inv X pins σ H s->Vals xs us->r xs H Q ->
  wpAny (model X.prog X.w) X.A (call f us) (EP X pins σ Q) X.xe s
def tOp (r:R2)(ta tb:TE):TE:=fun σ H Q=>ta σ H fun x H1=>tb σ H1 fun y H2=>r x y H2 Q
def tUn (r:V->Hp->VK->Prop)(ta:TE):TE:=fun σ H Q=>ta σ H fun x H1=>r x H1 Q
def rI (C:Int->Int->Prop)(g:Int->Int->V):R2:=fun x y H Q=>∃ i j,x=.int i/\y=.int j/\C i j/\Q (g i j) H
def rI0 (g:Int->Int->V):R2:=fun x y H Q=>∃ i j,x=.int i/\y=.int j/\Q (g i j) H
def rU (g:Int->V):V->Hp->VK->Prop:=fun x H Q=>∃ i,x=.int i/\Q (g i) H
section
variable {X:Cx}{a b c:Expr}{ta tb tc:TE}{pos:Pos}
theorem binT (ha:PE X a ta)(hb:PE X b tb){pins:List (Addr×Obj)}{s:Shared}{σ:St}{H:Hp}{R:V->V->Hp->Prop}(I:Inv X pins σ H s)
 (h:ta σ H fun x H1=>tb σ H1 fun y H2=>R x y H2) {Q:Value->Shared->Prop} {f:Value->Value->Sem Value}
 (hf:∀ v u s2 x y H2,Inv X pins σ H2 s2->RelV x v->RelV y u->R x y H2->wpAny (model X.prog X.w) X.A (f v u) Q X.xe s2) :
 wpAny (model X.prog X.w) X.A (eval a X.env) (fun v s₁=>wpAny (model X.prog X.w) X.A (eval b X.env) (fun u s₂=>wpAny (model X.prog X.w) X.A (f v u) Q X.xe s₂) X.xe s₁) X.xe s:=by
 refine fq (ha pins s σ H _ I h) fun v s1 qk=>?_
 obtain⟨x,H1,I1,r1,q1⟩:=qk
 refine fq (hb pins s1 σ H1 _ I1 q1) fun u s2 nP=>?_
 obtain⟨y,H2,I2,r2,q2⟩:=nP
 exact hf v u s2 x y H2 I2 r1 r2 q2
theorem iQ {op:Operator}{r:R2}(ho:iT X (binaryOp op) r)(ha:PE X a ta)(hb:PE X b tb):PE X (.BinOp a op b pos) (tOp r ta tb):=by
 intro pins s σ H Q I h
 exact wpAny_BinOp (binT ha hb I h fun v u s2 x y H2 I2 rx ry q=>ho pins s2 σ H2 x y v u Q I2 rx ry q)
theorem pe_un {op:UnaryOp}{r:V->Hp->VK->Prop}(ho:UnR X (unaryOp op) r)(ha:PE X a ta):PE X (.UnaryOp op a pos) (tUn r ta):=by
 intro pins s σ H Q I h
 exact UnaryOp_ (fq (ha pins s σ H _ I h) fun v s1 pI=>by obtain⟨x,H1,I1,r1,q1⟩:=pI;exact ho pins s1 σ H1 x v Q I1 r1 q1)
theorem opI {f:Value->Value->Sem Value}{C:Int->Int->Prop}{g:Int->Int->Int}
 (rule:∀(i j:Int) (t u:Tok) (s:Shared) (Q:Value->Shared->Prop) (E:Value->Shared->Prop),C i j->Q (.int (g i j) s.toks) { s with toks:=s.toks+1}->wpAny (model X.prog X.w) X.A (f (.int i t) (.int j u)) Q E s) :
 iT X f (rI C fun i j=>.int (g i j)):=by
 intro pins s σ H x y v u Q I rx ry h
 obtain⟨i,j,rfl,rfl,hc,q⟩:=h
 obtain⟨t,rfl⟩:=rx
 obtain⟨t',rfl⟩:=ry
 exact rule i j t t' s _ _ hc ⟨.int (g i j),H,I.tok _,⟨_,rfl⟩,q⟩
theorem opI0 {f:Value->Value->Sem Value}{g:Int->Int->Int}
 (rule:∀(i j:Int) (t u:Tok) (s:Shared) (Q:Value->Shared->Prop) (E:Value->Shared->Prop),Q (.int (g i j) s.toks) { s with toks:=s.toks+1}->wpAny (model X.prog X.w) X.A (f (.int i t) (.int j u)) Q E s) :
 iT X f (rI0 fun i j=>.int (g i j)):=by
 intro pins s σ H x y v u Q I rx ry h
 obtain⟨i,j,rfl,rfl,q⟩:=h
 obtain⟨t,rfl⟩:=rx
 obtain⟨t',rfl⟩:=ry
 exact rule i j t t' s _ _ ⟨.int (g i j),H,I.tok _,⟨_,rfl⟩,q⟩
theorem opB0 {f:Value->Value->Sem Value}{g:Int->Int->Bool}
 (rule:∀(i j:Int) (t u:Tok) (s:Shared) (Q:Value->Shared->Prop) (E:Value->Shared->Prop),Q (.bool (g i j)) s->wpAny (model X.prog X.w) X.A (f (.int i t) (.int j u)) Q E s) :
 iT X f (rI0 fun i j=>.bl (g i j)):=by
 intro pins s σ H x y v u Q I rx ry h
 obtain⟨i,j,rfl,rfl,q⟩:=h
 obtain⟨t,rfl⟩:=rx
 obtain⟨t',rfl⟩:=ry
 exact rule i j t t' s _ _ ⟨.bl (g i j),H,I,rfl,q⟩
def CDiv (i j:Int):Prop:=0<j/\j<1073741824
def CPow (i j:Int):Prop:=0<=j/\j<=1000000/\i.natAbs<2 ^ 64
def CMul (i j:Int):Prop:=(-(2 ^ 64)<i/\i<2 ^ 64)\/(-(2 ^ 64)<j/\j<2 ^ 64)
theorem CMul.ok {i j:Int}(h:CMul i j):IntMulOk i j:=by
 rcases h with⟨h1,h2⟩ | ⟨h1,h2⟩
 ·exact .of_left (intBits_le_64 h1 h2)
 ·exact .of_right (intBits_le_64 h1 h2)
theorem op_add:iT X (binaryOp .Add) (rI0 fun i j=>.int (i+j)):=opI0 fun _ _ _ _ _ _ _ q=>add_int q
theorem op_sub:iT X (binaryOp .Sub) (rI0 fun i j=>.int (i - j)):=opI0 fun _ _ _ _ _ _ _ q=>sub_int q
theorem op_mul:iT X (binaryOp .Mult) (rI CMul fun i j=>.int (i*j)):=opI fun _ _ _ _ _ _ _ hc q=>mul_int q hc.ok
theorem op_fdiv:iT X (binaryOp .FloorDiv) (rI CDiv fun i j=>.int (i / j)):=opI fun i j _ _ _ _ _ hc q=>by
 have h1:(0:Int)<j:=hc.1
 have h2:j<1073741824:=hc.2
 exact floordiv_int (by omega) (by rw[Int.fdiv_eq_ediv_of_nonneg i (by omega)];exact q) (.inl (PyProof.noPylong_small (by omega)))
theorem op_mod:iT X (binaryOp .Mod) (rI (fun _ j=>0<j) fun i j=>.int (i%j)):=opI fun i j _ _ _ _ _ hc q=>by
 have h1:(0:Int)<j:=hc
 exact mod_int' (by omega) (by rw[Int.fmod_eq_emod_of_nonneg i (by omega)];exact q)
theorem op_pow:iT X (binaryOp .Pow) (rI CPow fun i j=>.int (i ^ j.toNat)):=opI fun _ _ _ _ _ _ _ hc q=>pow_int_small hc.1 hc.2.1 hc.2.2 q
theorem unI {f:Value->Sem Value}{g:Int->Int}
 (rule:∀(i:Int) (t:Tok) (s:Shared) (Q:Value->Shared->Prop) (E:Value->Shared->Prop),Q (.int (g i) s.toks) { s with toks:=s.toks+1}->wpAny (model X.prog X.w) X.A (f (.int i t)) Q E s) :
 UnR X f (rU fun i=>.int (g i)):=by
 intro pins s σ H x v Q I rx h
 obtain⟨i,rfl,q⟩:=h
 obtain⟨t,rfl⟩:=rx
 exact rule i t s _ _ ⟨.int (g i),H,I.tok _,⟨_,rfl⟩,q⟩
theorem un_neg:UnR X (unaryOp .USub) (rU fun i=>.int (-i)):=unI fun _ _ _ _ _ q=>neg_int q
end
def scal:V->V->Bool
 | .fH,.fH=>true | .fH,.int _=>true | .int _,.fH=>true | .fH,.bl _=>true | .bl _,.fH=>true | .fH,.str _=>true | .str _,.fH=>true
 | .int _,.int _=>true | .bl _,.bl _=>true | .str _,.str _=>true | .byt _,.byt _=>true
 | .int _,.str _=>true | .str _,.int _=>true | .bl _,.str _=>true | .str _,.bl _=>true
 | _,_=>false
def rEq:R2:=fun x y H Q=>scal x y=true/\Q (.bl (decide (x=y))) H
def rNe:R2:=fun x y H Q=>scal x y=true/\Q (.bl (!decide (x=y))) H
theorem dec_int {i j:Int}:decide (V.int i=V.int j)=(i==j):=by
 rw[cz]
 simp
theorem dec_bl {i j:Bool}:decide (V.bl i=V.bl j)=(i==j):=by
 rw[cz]
 simp
theorem dec_str {i j:Str}:decide (V.str i=V.str j)=(i==j):=by
 rw[cz]
 simp
theorem dec_byt {i j:Array UInt8}:decide (V.byt i=V.byt j)=(i.toList==j.toList):=by
 rw[cz]
 cases i
 cases j
 simp
section
variable {X:Cx}{a b c:Expr}{ta tb tc:TE}{pos:Pos}
theorem fj {pins:List (Addr×Obj)}{σ:St}{H:Hp}{s:Shared}{Q:VK}{k k':Bool}(I:Inv X pins σ H s)(q:Q (.bl k) H)(e:k=k'):EP X pins σ Q (.bool k') s:=by
 subst e
 exact⟨.bl k,H,I,rfl,q⟩
theorem op_eq:iT X (compareOp .Eq) rEq:=by
 intro pins s σ H x y v u Q I rx ry h
 obtain⟨hs,q⟩:=h
 cases x with
 | fH =>
  cases rx
  cases y with
  | fH=>cases ry;exact PySem.EqNone.eq_none_none (fj I q (by simp))
  | bl j=>cases ry;exact PySem.EqNone.eq_none_bool (fj I q (by simp))
  | int j=>obtain⟨t',rfl⟩:=ry;exact PySem.EqNone.eq_none_int (fj I q (by simp))
  | str j=>obtain⟨t',rfl⟩:=ry;exact PySem.EqNone.eq_none_str (fj I q (by simp))
  | _=>exact absurd (show false=true from hs) aA
 | bl i =>
  cases rx
  cases y with
  | fH=>cases ry;exact PySem.EqNone.eq_bool_none (fj I q (by simp))
  | bl j=>cases ry;exact eq_bool (fj I q dec_bl)
  | str j=>obtain⟨t',rfl⟩:=ry;exact PySem.EqMixed.eq_bool_str (fj I q (by simp))
  | _=>exact absurd (show false=true from hs) aA
 | int i =>
  obtain⟨t,rfl⟩:=rx
  cases y with
  | fH=>cases ry;exact PySem.EqNone.eq_int_none (fj I q (by simp))
  | int j=>obtain⟨t',rfl⟩:=ry;exact eq_int (fj I q dec_int)
  | str j=>obtain⟨t',rfl⟩:=ry;exact PySem.EqMixed.eq_int_str (fj I q (by simp))
  | _=>exact absurd (show false=true from hs) aA
 | str i =>
  obtain⟨t,rfl⟩:=rx
  cases y with
  | fH=>cases ry;exact PySem.EqNone.eq_str_none (fj I q (by simp))
  | bl j=>cases ry;exact PySem.EqMixed.eq_str_bool (fj I q (by simp))
  | int j=>obtain⟨t',rfl⟩:=ry;exact PySem.EqMixed.eq_str_int (fj I q (by simp))
  | str j=>obtain⟨t',rfl⟩:=ry;exact eq_str (fj I q dec_str)
  | _=>exact absurd (show false=true from hs) aA
 | byt i =>
  obtain⟨t,rfl⟩:=rx
  cases y with
  | byt j=>obtain⟨t',rfl⟩:=ry;exact PySem.W.eq_bytes (fj I q dec_byt)
  | _=>exact absurd (show false=true from hs) aA
 | _=>cases y <;> exact absurd (show false=true from hs) aA
theorem op_ne:iT X (compareOp .NotEq) rNe:=by
 intro pins s σ H x y v u Q I rx ry h
 obtain⟨hs,q⟩:=h
 cases x with
 | fH =>
  cases rx
  cases y with
  | fH=>cases ry;exact PySem.EqNone.ne_none_none (fj I q (by simp))
  | bl j=>cases ry;exact PySem.EqNone.ne_none_bool (fj I q (by simp))
  | int j=>obtain⟨t',rfl⟩:=ry;exact PySem.EqNone.ne_none_int (fj I q (by simp))
  | str j=>obtain⟨t',rfl⟩:=ry;exact PySem.EqNone.ne_none_str (fj I q (by simp))
  | _=>exact absurd (show false=true from hs) aA
 | bl i =>
  cases rx
  cases y with
  | fH=>cases ry;exact PySem.EqNone.ne_bool_none (fj I q (by simp))
  | bl j=>cases ry;exact ne_bool (fj I q (bI not dec_bl))
  | str j=>obtain⟨t',rfl⟩:=ry;exact PySem.EqMixed.ne_bool_str (fj I q (by simp))
  | _=>exact absurd (show false=true from hs) aA
 | int i =>
  obtain⟨t,rfl⟩:=rx
  cases y with
  | fH=>cases ry;exact PySem.EqNone.ne_int_none (fj I q (by simp))
  | int j=>obtain⟨t',rfl⟩:=ry;exact ne_int (fj I q (bI not dec_int))
  | str j=>obtain⟨t',rfl⟩:=ry;exact PySem.EqMixed.ne_int_str (fj I q (by simp))
  | _=>exact absurd (show false=true from hs) aA
 | str i =>
  obtain⟨t,rfl⟩:=rx
  cases y with
  | fH=>cases ry;exact PySem.EqNone.ne_str_none (fj I q (by simp))
  | bl j=>cases ry;exact PySem.EqMixed.ne_str_bool (fj I q (by simp))
  | int j=>obtain⟨t',rfl⟩:=ry;exact PySem.EqMixed.ne_str_int (fj I q (by simp))
  | str j=>obtain⟨t',rfl⟩:=ry;exact ne_str (fj I q (bI not dec_str))
  | _=>exact absurd (show false=true from hs) aA
 | byt i =>
  obtain⟨t,rfl⟩:=rx
  cases y with
  | byt j=>obtain⟨t',rfl⟩:=ry;exact PySem.W.ne_bytes (fj I q (bI not dec_byt))
  | _=>exact absurd (show false=true from hs) aA
 | _=>cases y <;> exact absurd (show false=true from hs) aA
theorem op_lt:iT X (compareOp .Lt) (rI0 fun i j=>.bl (decide (i<j))):=opB0 fun _ _ _ _ _ _ _ q=>lt_int q
theorem op_le:iT X (compareOp .LtE) (rI0 fun i j=>.bl (decide (i<=j))):=opB0 fun _ _ _ _ _ _ _ q=>le_int q
theorem op_gt:iT X (compareOp .Gt) (rI0 fun i j=>.bl (decide (j<i))):=opB0 fun _ _ _ _ _ _ _ q=>gt_int q
theorem op_ge:iT X (compareOp .GtE) (rI0 fun i j=>.bl (decide (j<=i))):=opB0 fun _ _ _ _ _ _ _ q=>ge_int q
theorem op_in_str:iT X (compareOp .In) (fun x y H Q=>∃ i j,x=.str i/\y=.str j/\Q (.bl (!(Builtin.Str.occurrences j i 0 j.length 1).isEmpty)) H):=by
 intro pins s σ H x y v u Q I rx ry h
 obtain⟨i,j,rfl,rfl,q⟩:=h
 obtain⟨t,rfl⟩:=rx
 obtain⟨t',rfl⟩:=ry
 exact in_str (fj I q rfl)
theorem iT.or {f:Value->Value->Sem Value}{r r':R2}(h:iT X f r)(h':iT X f r'):iT X f (fun x y H Q=>r x y H Q\/r' x y H Q):=by
 intro pins s σ H x y v u Q I rx ry q
 rcases q with q | q
 ·exact h pins s σ H x y v u Q I rx ry q
 ·exact h' pins s σ H x y v u Q I rx ry q
theorem gz (b:Expr){op:CmpOp}(h:op≠.In:=by decide)(h2:op≠.NotIn:=by decide):behindInMarks op b=false:=by
 have e1:(op==CmpOp.In)=false:=by cases op <;> first | rfl | exact absurd rfl h
 have e2:(op==CmpOp.NotIn)=false:=by cases op <;> first | rfl | exact absurd rfl h2
 cases b <;> simp[behindInMarks,e1,e2]
theorem qK {op:CmpOp}{r:R2}(ho:iT X (compareOp op) r)(ha:PE X a ta)(hb:PE X b tb)(hm:behindInMarks op b=false):PE X (.Compare a [op] [b] pos) (tOp r ta tb):=by
 intro pins s σ H Q I h
 exact wpAny_Compare1 (binT ha hb I h fun v u s2 x y H2 I2 rx ry q=>ho pins s2 σ H2 x y v u Q I2 rx ry q) hm
def tChain (r r':R2)(ta tb tc:TE):TE:=fun σ H Q=>ta σ H fun x H1=>tb σ H1 fun y H2=>r x y H2 fun z H3=>∃ k,z=.bl k /\
 (if k=true then tc σ H3 fun w' H4=>r' y w' H4 Q else Q (.bl false) H3)
theorem pe_chain {op op':CmpOp}{r r':R2}(ho:iT X (compareOp op) r)(vH:iT X (compareOp op') r')(ha:PE X a ta)(hb:PE X b tb)(hc:PE X c tc)
 (hm:lastMarks [op,op'] [b,c]=false:=by with_unfolding_all rfl):PE X (.Compare a [op,op'] [b,c] pos) (tChain r r' ta tb tc):=by
 intro pins s σ H Q I h
 refine Compare_chain (fq (ha pins s σ H _ I h) fun v s1 ⟨x,H1,I1,r1,q1⟩=>chain_link (fq (hb pins s1 σ H1 _ I1 q1) fun u s2 ⟨y,H2,I2,r2,q2⟩ =>
  fq (ho pins s2 σ H2 x y v u _ I2 r1 r2 q2) fun d s3 ⟨z,H3,I3,r3,k,e,q3⟩=>?_)) hm
 subst e
 cases r3
 refine bH ?_
 cases k with
 | false=>exact ite_ff ⟨.bl false,H3,I3,rfl,q3⟩
 | true=>exact ite_tt (chain_last (fq (hc pins s3 σ H3 _ I3 q3) fun w' s4 qY=>by obtain⟨z',H4,I4,r4,q4⟩:=qY;exact vH pins s4 σ H4 y z' u w' Q I4 r2 r4 q4))
theorem pW:(sizeLine:Nat)<2 ^ 63:=by rw[sizeLine_eq];decide
theorem op_add_str:iT X (binaryOp .Add) (fun x y H Q=>∃ i j,x=.str i/\y=.str j/\i.length+j.length<=sizeLine/\Q (.str (i++j)) H):=by
 intro pins s σ H x y v u Q I rx ry h
 obtain⟨i,j,rfl,rfl,hz,q⟩:=h
 obtain⟨t,rfl⟩:=rx
 obtain⟨t',rfl⟩:=ry
 exact add_str (fun t' tk=>⟨.str (i++j),H,I.tok _,⟨_,rfl⟩,q⟩) hz
theorem vals1 {x:V}{us:List Value}(r:Vals [x] us):∃ u,us=[u]/\RelV x u:=by
 cases r with
 | cons r1 r2=>cases r2;exact⟨_,rfl,r1⟩
theorem vals2 {x y:V}{us:List Value}(r:Vals [x,y] us):∃ u w',us=[u,w']/\RelV x u/\RelV y w':=by
 cases r with
 | cons r1 r2 =>
  cases r2 with
  | cons r3 r4=>cases r4;exact⟨_,_,rfl,r1,r3⟩
theorem call_max2 (hc:X.calm=true):gM X (.builtin "max") (fun xs H Q=>∃ i j,xs=[.int i,.int j]/\Q (.int (if j>i then j else i)) H):=by
 intro pins s σ H xs us Q I r h
 obtain⟨i,j,rfl,q⟩:=h
 obtain⟨u,w',rfl,⟨t,rfl⟩,⟨t',rfl⟩⟩:=vals2 r
 refine max_two_ints (I.ok.hd hc) fun h' tk k=>⟨_,H,I.kept k,?_,q⟩
 by_cases hj:j>i
 ·rw[ag hj,ag hj];exact⟨_,rfl⟩
 ·rw[ae hj,ae hj];exact⟨_,rfl⟩
end
structure ObjM (h:Heap)(x dx C:Addr)(mA:Str->Option Value):Prop where
 obj:h.get? x=some (PySem.W.instObj C dx)
 ns:h.Ns1 dx mA
 ne:dx≠x
theorem lookIn_ns {h:Heap}{dx:Addr}{mA:Str->Option Value}(n:h.Ns1 dx mA):∃ od,h.get? dx=some od/\∀ name,PySem.W.lookIn name od=some (mA name):=by
 obtain⟨o,es,ep,ho,hd,hk,_,hm⟩:=n
 refine⟨o,ho,fun name=>?_⟩
 have e:=hm name
 unfold nsFind findBy at e
 rw[<- Array.find?_toList]at e
 unfold PySem.W.lookIn
 rw[hd]
 dsimp only
 split
 ·rename_i y q
  rw[q]at e
  exact bI some e
 ·rename_i q
  rw[q]at e
  have a:es.toList.any (·.refKey)=false:=by
   rw[List.any_eq_false]
   intro y hy
   obtain⟨z,t,hkey⟩:=hk y (Array.mem_toList_iff.mp hy)
   simp[DictEntry.refKey,hkey]
  have a':¬ es.toList.any (·.refKey)=true:=by rw[a];exact aA
  rw[ae a']
  exact bI some e
theorem ObjM.look {h:Heap}{x dx C:Addr}{mA:Str->Option Value}(I:ObjM h x dx C mA):∃ od,PySem.W.InstAt h x (PySem.W.instObj C dx) C (some od)/\∀ name,PySem.W.lookIn name od=some (mA name) :=
 let ⟨od,ho,hl⟩:=lookIn_ns I.ns
 ⟨od,⟨I.obj,rfl,rfl,ho⟩,hl⟩
section
variable {prog:Program}{w:World}{A:Around}{E:Value->Shared->Prop}{s:Shared}{K:PySem.W.Frag}{x dx C f:Addr}{mA:Str->Option Value}{name:Str}{v:Value}
theorem get_map {expr:Bool}{Q:Value->Shared->Prop}(X:K.In s.heap)(I:ObjM s.heap x dx C mA)(hg:PySem.W.plainGet K C name=true)(hh:PySem.W.hasDictIn K C=true)
 (ha:PySem.W.findIn K (.ref C) name=some none) (hv:mA name=some v) (hv':PySem.W.handedIn v=true) (h:Q v { s with toks:=s.toks+1}) :
 wpAny (model prog w) A (getAttr (.ref x) name expr) Q E s:=by
 obtain⟨od,J,hl⟩:=I.look
 exact PySem.W.get_value X J (PySem.W.plainGet_of hg).1 (PySem.W.findObj_own hh ha rfl (by rw[hl,hv])) hv' h
theorem get_meth {pl:Sem Bool}{Q:Value×List Value->Shared->Prop}(X:K.In s.heap)(I:ObjM s.heap x dx C mA)(hg:PySem.W.plainGet K C name=true)
 (hf:PySem.W.findIn K (.ref C) name=some (some (.ref f))) (ht:PySem.W.isFn K (.ref f)=true) (hv:mA name=none) (h:Q (.ref f,[.ref x]) s) :
 wpAny (model prog w) A (getMethod (.ref x) name pl) Q E s:=by
 obtain⟨od,J,hl⟩:=I.look
 exact PySem.W.method_fn X J (PySem.W.plainGet_of hg).1 (PySem.W.plainGet_of hg).2 hf (beq_iff_eq.mp ht) (by show(PySem.W.lookIn name od).map (·.isSome)=some false;rw[hl,hv];rfl) h
theorem set_map {ns:List Str}{Q:Unit->Shared->Prop}(X:K.In s.heap)(I:ObjM s.heap x dx C mA)
 (hs:PySem.W.findIn K (.ref C) "__setattr__"=some (some (.builtin "object.__setattr__"))) (hp:PySem.W.plainOver K C=true) (ht:PySem.W.takerIn K C name=some none) (hh:PySem.W.hasDictIn K C=true)
 (hw:PySem.Within mA ns) (hsz:ns.length<=sizeLine)
 (h:∀ h',ObjM h' x dx C (fun y=>if y=name then some v else mA y)->Heap.SameBut dx s.heap h'->Q () { s with heap:=h',toks:=s.toks+2}) :
 wpAny (model prog w) A (setAttr (.ref x) name v) Q E s:=by
 obtain⟨od,J,hl⟩:=I.look
 refine PySem.W.set_plain X J hs (PySem.W.osa_open (s:={ s with toks:=s.toks+1}) (r:=none) X J hp ht fun b=>?_)
 obtain⟨cd,hc,hd'⟩:=PySem.W.any_some hh
 have hx:s.heap.get? x=some ⟨.ref C,some dx,.plain,#[]⟩:=I.obj
 refine dY (aj (dY (dY (wpAny_loadPart hx (dY (PySem.W.Looks.here (s:={ s with toks:=s.toks+1}) (PySem.W.looks_clsIn X hc) ?_))))))
 rw[hd']
 refine aj (a:=some dx) (dY (aj (dY ?_)))
 refine wpAny_nsSet1 (s:={ s with toks:=s.toks+1}) I.ns fun h' hn2 hs2=>?_
 obtain⟨oD,esD,epD,hoD,hdD,hcD⟩:=hn2.count (PySem.Within.cons name v hw)
 refine dY (wpAny_lookBehind hoD (by rw[hdD];exact pastItsLine_dict (ar hcD (by rw[aE];omega))) ?_)
 exact aj (h _ ⟨(hs2.2 _ (bb I.ne)).trans I.obj,hn2,I.ne⟩ hs2)
theorem make_map {R:Result->Shared->Prop}{vs:List Value}{kw:List (Str×Value)}(X:K.In s.heap)(hm:PySem.W.makesIn K C=true)
 (hi:PySem.W.findIn K (.ref C) "__init__"=some (some (.ref f))) (hf:PySem.W.typeIn K (.ref f)=some (.type "function"))
 (h:codeAny (model prog w) (A.under (.builtin "type.__call__" ⟨.ref C::vs,kw⟩)) (.call (.ref f) ⟨.ref (s.heap.objs.size+1)::vs,kw⟩) (PySem.W.InitBack (s.heap.objs.size+1) R)
   { s with heap:=(s.heap.push PySem.W.emptyDict).push (PySem.W.instObj C s.heap.objs.size)}) :
 codeAny (model prog w) A (.call (.ref C) ⟨vs,kw⟩) R s:=by
 obtain⟨hh,g,d,t,os⟩:=s
 exact PySem.W.make_core (PySem.W.makes_of X hm) (PySem.W.looks_findIn X hi) (fun self=>PySem.W.bind_fn X self hf) (.inl rfl) h
end
def kF (f:Str)(v:V):List (Str×V)->List (Str×V)
 | []=>[(f,v)]
 | (g,x)::r=>if g=f then(g,v)::r else(g,x)::kF f v r
theorem tq (f g:Str)(v:V):∀ fs:List (Str×V),(kF f v fs).lookup g=if g=f then some v else fs.lookup g
 | []=>by
  show List.lookup g [(f,v)]=_
  by_cases h:g=f
  ·have hb:(g==f)=true:=beq_iff_eq.mpr h
   simp only[List.lookup,hb,ag h]
  ·have hb:(g==f)=false:=beq_eq_false_iff_ne.mpr h
   simp only[List.lookup,hb,ae h]
 | (k,x)::r=>by
  have ih:=tq f g v r
  rw[show kF f v ((k,x)::r)=(if k=f then(k,v)::r else(k,x)::kF f v r)from rfl]
  by_cases hk:k=f
  ·rw[ag hk]
   by_cases h:g=k
   ·have hb:(g==k)=true:=beq_iff_eq.mpr h
    simp only[List.lookup,hb,ag (h.trans hk)]
   ·have hb:(g==k)=false:=beq_eq_false_iff_ne.mpr h
    simp only[List.lookup,hb,ae (fun e:g=f=>h (e.trans hk.symm))]
  ·rw[ae hk]
   by_cases h:g=k
   ·have hb:(g==k)=true:=beq_iff_eq.mpr h
    simp only[List.lookup,hb,ae (fun e:g=f=>hk (h.symm.trans e))]
   ·have hb:(g==k)=false:=beq_eq_false_iff_ne.mpr h
    simp only[List.lookup,hb]
    exact ih
theorem sx (f:Str)(v:V):∀ fs:List (Str×V),f∈(kF f v fs).map (·.1)/\∀ g,g∈fs.map (·.1)->g∈(kF f v fs).map (·.1)
 | []=>⟨by simp[kF],fun g h=>by simp at h⟩
 | (k,x)::r=>by
  obtain⟨i1,i2⟩:=sx f v r
  rw[show kF f v ((k,x)::r)=(if k=f then(k,v)::r else(k,x)::kF f v r)from rfl]
  by_cases hk:k=f
  ·rw[ag hk]
   subst hk
   exact⟨by simp,fun g h=>by simpa using h⟩
  ·rw[ae hk]
   refine⟨?_,fun g h=>?_⟩
   ·rw[ah]
    exact mZ _ i1
   ·rw[ah]at h ⊢
    rcases List.mem_cons.mp h with e | e
    ·exact List.mem_cons.mpr (.inl e)
    ·exact mZ _ (i2 g e)
theorem tw (f:Str)(v:V):∀ fs:List (Str×V),(kF f v fs).length<=fs.length+1
 | []=>by simp[kF]
 | (k,x)::r=>by
  have ih:=tw f v r
  rw[show kF f v ((k,x)::r)=(if k=f then(k,v)::r else(k,x)::kF f v r)from rfl]
  by_cases hk:k=f
  ·rw[ag hk,aE,aE];omega
  ·rw[ae hk,aE,aE];omega
theorem oX.some_of {v:V}{o:Option Value}(r:oX (some v) o):∃ u,o=some u/\RelV v u:=by
 cases o with
 | none=>exact(show False from r).elim
 | some u=>exact⟨u,rfl,r⟩
theorem oX.none_of {o:Option Value}(r:oX none o):o=none:=by
 cases o with
 | none=>rfl
 | some u=>exact(show False from r).elim
theorem handed_of {v:V}{u:Value}(r:RelV v u):PySem.W.handedIn u=true:=by
 cases v with
 | fH=>cases(show u=Value.none from r);rfl
 | bl b=>cases(show u=Value.bool b from r);rfl
 | int i=>obtain⟨t,e⟩:=(show ∃ t,u=Value.int i t from r);cases e;rfl
 | str x=>obtain⟨t,e⟩:=(show ∃ t,u=Value.str x t from r);cases e;rfl
 | byt b=>obtain⟨t,e⟩:=(show ∃ t,u=Value.bytes b t from r);cases e;rfl
 | flt b=>obtain⟨t,e⟩:=(show ∃ t,u=Value.float b t from r);cases e;rfl
 | ref a=>cases(show u=Value.ref a from r);rfl
 | ty n=>cases(show u=Value.type n from r);rfl
section
variable {P:Program}{w:World}{H H':Hp}{h h':Heap}{a C dx:Addr}{fs fs':List (Str×V)}
theorem uB (dZ:nu P w H h)(e:H a=some (.ins C dx fs)):∃ mA,ObjM h a dx C mA/\(∀ f,oX (fs.lookup f) (mA f))/\PySem.Within mA (fs.map (·.1))/\fs.length<=1000/\H dx=some (.own a):=by
 obtain⟨d,z,ne,ob,mA,n,r,q⟩:=(show fo P w H h a (.ins C dx fs)from dZ a _ e)
 exact⟨mA,⟨ob,n,ne⟩,r,q,z,d⟩
end
structure wL (K:PySem.W.Frag)(C:Addr):Prop where
 pg:PySem.W.plainGet K C Str.empty=true
 hd:PySem.W.hasDictIn K C=true
 po:PySem.W.plainOver K C=true
 sa:PySem.W.findIn K (.ref C) "__setattr__"=some (some (.builtin "object.__setattr__"))
theorem wL.get {K:PySem.W.Frag}{C:Addr}(c:wL K C)(f:Str):PySem.W.plainGet K C f=true:=c.pg
def kN (K:PySem.W.Frag)(C:Addr)(f:Str):Prop:=PySem.W.findIn K (.ref C) f=some none
theorem kN.taker {K:PySem.W.Frag}{C:Addr}{f:Str}(n:kN K C f):PySem.W.takerIn K C f=some none:=by
 unfold PySem.W.takerIn
 rw[show PySem.W.findIn K (.ref C) f=some none from n]
 rfl
structure Meth (K:PySem.W.Frag)(C:Addr)(m:Str)(f:Addr):Prop where
 at_:PySem.W.findIn K (.ref C) m=some (some (.ref f))
 fn:PySem.W.isFn K (.ref f)=true
 kp:PySem.W.keepIn K (.ref f)=true
section
variable {X:Cx}{pins:List (Addr×Obj)}{σ:St}{H:Hp}{s:Shared}{a C dx:Addr}{fs:List (Str×V)}{f:Str}{v:V}{A:Around}{E:Value->Shared->Prop}
theorem vJ {b:Bool}{Q:Value->Shared->Prop}(I:Inv X pins σ H s)(e:H a=some (.ins C dx fs))(c:wL X.K C)(n:kN X.K C f)(l:fs.lookup f=some v)
 (h:∀ u s',Inv X pins σ H s'->RelV v u->Q u s'):wpAny (model X.prog X.w) A (getAttr (.ref a) f b) Q E s:=by
 obtain⟨mA,O,r,_,_,_⟩:=uB I.dZ e
 obtain⟨u,hu,ru⟩:=oX.some_of (v:=v) (o:=mA f) (by rw[<- l];exact r f)
 exact get_map I.pP O (c.get f) c.hd n hu (handed_of ru) (h u _ (I.tok _) ru)
theorem p7 {m:Str}{g:Addr}{pl:Sem Bool}{Q:Value×List Value->Shared->Prop}(I:Inv X pins σ H s)(e:H a=some (.ins C dx fs))(c:wL X.K C)(k:Meth X.K C m g)(l:fs.lookup m=none)
 (h:Q (.ref g,[.ref a]) s):wpAny (model X.prog X.w) A (getMethod (.ref a) m pl) Q E s:=by
 obtain⟨mA,O,r,_,_,_⟩:=uB I.dZ e
 have hn:mA m=none:=oX.none_of (by rw[<- l];exact r m)
 exact get_meth I.pP O (c.get m) k.at_ k.fn hn h
theorem u5 {y:V}{u:Value}{Q:Unit->Shared->Prop}(I:Inv X pins σ H s)(e:H a=some (.ins C dx fs))(c:wL X.K C)(n:kN X.K C f)(hl:fs.length<1000)(ry:RelV y u)
 (h:∀ s',Inv X pins σ (upd H a (.ins C dx (kF f y fs))) s'->Q () s'):wpAny (model X.prog X.w) A (setAttr (.ref a) f u) Q E s:=by
 obtain⟨mA,O,r,wi,_,ho⟩:=uB I.dZ e
 have hz:(fs.map (·.1)).length<=sizeLine:=by rw[fg,sizeLine_eq];omega
 refine set_map I.pP O c.sa c.po n.taker c.hd wi hz fun h' O' sb=>h _ ?_
 have hd:∃ o,h'.get? dx=some o:=let ⟨o,_,_,e',_⟩:=O'.ns;⟨o,e'⟩
 refine I.write (x:=a) (e:=dx) (by rw[e];exact True.intro) (.inr ho) (fun b q hb z=>(sb.2 b hb).trans z) hd ?_
 refine⟨by rw[dR O.ne];exact ho,?_,O.ne,O'.obj,_,O'.ns,fun g=>?_,fun g hg=>?_⟩
 ·have:=tw f y fs;omega
 ·show oX ((kF f y fs).lookup g) (if g=f then some u else mA g)
  rw[tq]
  by_cases q:g=f
  ·rw[ag q,ag q];exact ry
  ·rw[ae q,ae q];exact r g
 ·by_cases q:g=f
  ·rw[q];exact(sx f y fs).1
  ·refine(sx f y fs).2 g (wi g fun z=>hg ?_)
   show(if g=f then some u else mA g)=none
   rw[ae q];exact z
theorem Inv.made (I:Inv X pins σ H s):Inv X pins σ (upd (upd H s.heap.objs.size (.own (s.heap.objs.size+1))) (s.heap.objs.size+1) (.ins C s.heap.objs.size []))
 { s with heap:=(s.heap.push PySem.W.emptyDict).push (PySem.W.instObj C s.heap.objs.size)}:=by
 have e1:(s.heap.push PySem.W.emptyDict).get? s.heap.objs.size=some PySem.W.emptyDict:=av s.heap rfl
 have e2:((s.heap.push PySem.W.emptyDict).push (PySem.W.instObj C s.heap.objs.size)).get? (s.heap.objs.size+1)=some (PySem.W.instObj C s.heap.objs.size):=by
  have:=av (s.heap.push PySem.W.emptyDict) (o:=PySem.W.instObj C s.heap.objs.size) rfl
  rwa [a6]at this
 have e3:(s.heap.push PySem.W.emptyDict).Ns s.heap.objs.size (fun _=>none):=⟨PySem.W.emptyDict,#[],_,e1,rfl,(fun e he=>absurd he (by simp)),fun _=>rfl⟩
 have I1:=I.laid (a:=s.heap.objs.size) (o:=.own (s.heap.objs.size+1)) (h':=s.heap.push PySem.W.emptyDict) (t':=s.toks) (fun b u q=>iV _ q) (aa _) ⟨_,e1⟩
 refine I1.laid (a:=s.heap.objs.size+1) (o:=.ins C s.heap.objs.size []) (t':=s.toks) (fun b u q=>iV _ q) (Nat.le_of_eq (a6 _ _)) ?_
 have ne:s.heap.objs.size≠s.heap.objs.size+1:=aB (bP _)
 refine⟨by rw[dR ne,dH],aW _,ne,e2,fun _=>none,(Heap.Ns1.of_empty e3).at fun o q=>iV _ q,fun _=>True.intro,fun y hy=>absurd rfl hy⟩
theorem attr_of {prog:Program}{w:World}{env:Env}{e:Expr}{f:Str}{pos:Pos}{s:Shared}{Q:Value->Shared->Prop}(hb:attributeBase e f env (eval e env)=eval e env)
 (h:wpAny (model prog w) A (eval e env) (fun o s₁=>wpAny (model prog w) A (getAttr o f true) Q E s₁) E s):wpAny (model prog w) A (eval (.Attribute e f pos) env) Q E s :=
 Attribute_any_ h (by rw[arm_eval_Attribute,hb])
end
def tFld (K:PySem.W.Frag)(ta:TE)(f:Str):TE:=fun σ H Q=>ta σ H fun x H1=>∃ a C dx fs v,x=.ref a/\H1 a=some (.ins C dx fs)/\wL K C/\kN K C f/\fs.lookup f=some v/\Q v H1
def sFld (K:PySem.W.Frag)(ta tv:TE)(f:Str):TS:=fun D σ H=>tv σ H fun y H1=>ta σ H1 fun x H2=>∃ a C dx fs,x=.ref a/\H2 a=some (.ins C dx fs)/\wL K C/\kN K C f/\fs.length<1000 /\
 D.nx σ (upd H2 a (.ins C dx (kF f y fs)))
def InOp (X:Cx)(op:Operator)(rd:V->V->Hp->VK->Prop):Prop :=
 ∀(pins:List (Addr×Obj)) (s:Shared) (σ:St) (H:Hp) (x y:V) (u v:Value) (Q:VK),Inv X pins σ H s->RelV x u->RelV y v->rd x y H Q->wpAny (model X.prog X.w) X.A (inplaceOp op u v) (EP X pins σ Q) X.xe s
def sFldAug (K:PySem.W.Frag)(ta tv:TE)(rd:V->V->Hp->VK->Prop)(f:Str):TS:=fun D σ H=>ta σ H fun x H1=>∃ a C dx fs v,x=.ref a/\H1 a=some (.ins C dx fs)/\wL K C/\kN K C f/\fs.lookup f=some v /\
 tv σ H1 fun y H2=>rd v y H2 fun z H3=>∃ dx' fs',H3 a=some (.ins C dx' fs')/\fs'.length<1000/\D.nx σ (upd H3 a (.ins C dx' (kF f z fs')))
section
variable {X:Cx}{o e value:Expr}{f:Str}{pos pos' qm:Pos}{ta tv:TE}
theorem pe_fld (he:PE X e ta)(hb:attributeBase e f X.env (eval e X.env)=eval e X.env):PE X (.Attribute e f pos) (tFld X.K ta f):=by
 intro pins s σ H Q I h
 refine attr_of hb (fq (he pins s σ H _ I h) fun u s1 p4=>?_)
 obtain⟨x,H1,I1,rx,a,C,dx,fs,v,ex,ea,c,n,l,q⟩:=p4
 subst ex
 obtain rfl:u=Value.ref a:=rx
 exact vJ I1 ea c n l fun u' s2 I2 ru=>⟨v,H1,I2,ru,q⟩
theorem ps_fld (ha:PE X o ta)(hv:PE X value tv)(hs:swapsWith value (some (.Attribute o f pos')) pos.line X.env=pure false):PS X (.Assign [.Attribute o f pos'] value pos) (sFld X.K ta tv f):=by
 intro pins s σ H D I h
 refine plainObj_wpAny_Assign_Attribute (fq (hv pins s σ H _ I h) fun u s1 pH=>?_) hs
 obtain⟨y,H1,I1,ry,q⟩:=pH
 refine fq (ha pins s1 σ H1 _ I1 q) fun ov s2 qk=>?_
 obtain⟨x,H2,I2,rx,a,C,dx,fs,ex,ea,c,n,l,q2⟩:=qk
 subst ex
 obtain rfl:ov=Value.ref a:=rx
 exact u5 I2 ea c n l ry fun s3 I3=>⟨σ,_,I3,q2⟩
theorem ps_fldaug {op:Operator}{rd:V->V->Hp->VK->Prop}(ha:PE X o ta)(hv:PE X value tv)(hop:InOp X op rd):PS X (.AugAssign (.Attribute o f qm) op value pos) (sFldAug X.K ta tv rd f):=by
 intro pins s σ H D I h
 refine wpAny_AugAssign_AttributeAny (fq (ha pins s σ H _ I h) fun ov s1 nP=>?_)
 obtain⟨x,H1,I1,rx,a,C,dx,fs,v,ex,ea,c,n,l,q⟩:=nP
 subst ex
 obtain rfl:ov=Value.ref a:=rx
 refine vJ I1 ea c n l fun u s2 I2 ru=>fq (hv pins s2 σ H1 _ I2 q) fun w3 s3 pI=>?_
 obtain⟨y,H2,I3,ry,q3⟩:=pI
 refine fq (hop pins s3 σ H2 v y u w3 _ I3 ru ry q3) fun w4 s4 p5=>?_
 obtain⟨z,H3,I4,rz,dx',fs',ea',l',q4⟩:=p5
 exact u5 I4 ea' c n l' rz fun s5 I5=>⟨σ,_,I5,q4⟩
def rAdd:V->V->Hp->VK->Prop:=fun x y H Q=>∃ i j,x=.int i/\y=.int j/\Q (.int (i+j)) H
theorem in_add:InOp X .Add rAdd:=by
 rintro pins s σ H x y u v Q I rx ry ⟨i,j,rfl,rfl,q⟩
 obtain⟨t,rfl⟩:=(show ∃ t,u=Value.int i t from rx)
 obtain⟨t',rfl⟩:=(show ∃ t',v=Value.int j t' from ry)
 exact PyProof.Rows.iadd_int ⟨.int (i+j),H,I.tok _,⟨_,rfl⟩,q⟩
theorem methcall_of {pl:Sem Bool}{m:Str}{apos:Pos}{args:List Expr}{pins:List (Addr×Obj)}{s:Shared}{σ:St}{H:Hp}{Q:Value->Shared->Prop}{te:TE}(he:PE X e te)(I:Inv X pins σ H s)
 (h:te σ H fun x H1=>∃ a C dx fs g,x=.ref a/\H1 a=some (.ins C dx fs)/\wL X.K C/\Meth X.K C m g/\fs.lookup m=none /\
   ∀ s1,Inv X pins σ H1 s1->wpAny (model X.prog X.w) X.A (callWith pos (.ref g) [.ref a] (backTo pos (starEach args X.env)) (backToKw pos (keywordEach [] X.env))) Q X.xe s1)
 (ht:eval (.Call (.Attribute e m apos) args [] pos) X.env=(do
   let ov <- eval e X.env
   standAt apos.atName
   let (f,first) <- holding [ov] (getMethod ov m pl)
   callWith pos f first (backTo pos (starEach args X.env)) (backToKw pos (keywordEach [] X.env)))) :
 wpAny (model X.prog X.w) X.A (eval (.Call (.Attribute e m apos) args [] pos) X.env) Q X.xe s:=by
 refine PySem.W.methodCall_KW (pl:=pl) (fq (he pins s σ H _ I h) fun u s1 qY=>?_) ht
 obtain⟨x,H1,I1,rx,a,C,dx,fs,g,ex,ea,c,k,l,q⟩:=qY
 subst ex
 obtain rfl:u=Value.ref a:=rx
 exact p7 I1 ea c k l (q s1 I1)
end
section
variable {X:Cx}{pins:List (Addr×Obj)}{σ:St}{H:Hp}{s:Shared}{A:Around}{E:Value->Shared->Prop}{Q:Value->Shared->Prop}{c:Value}{b:Bool}
inductive iE (K:PySem.W.Frag)(H:Hp):V->Value->Prop where
 | fH:iE K H .fH (.type "NoneType")
 | bl (x:Bool):iE K H (.bl x) (.type "bool")
 | int (i:Int):iE K H (.int i) (.type "int")
 | str (x:Str):iE K H (.str x) (.type "str")
 | flt (x:UInt64):iE K H (.flt x) (.type "float")
 | lst {a:Addr} {xs:List V} (e:H a=some (.lst xs)):iE K H (.ref a) (.type "list")
 | kI {a:Addr} {o:Obj} {xs:List V} (e:H a=some (.kI o (.lst xs))):iE K H (.ref a) (.type "list")
 | tup {a:Addr} {xs:List V} (e:H a=some (.tup xs)):iE K H (.ref a) (.type "tuple")
 | dK {a:Addr} {kvs:List (Key×V)} (e:H a=some (.dK kvs)):iE K H (.ref a) (.type "dict")
 | dT {a:Addr} {kvs:List (List Key×V)} (e:H a=some (.dT kvs)):iE K H (.ref a) (.type "dict")
 | ins {a C dx:Addr} {fs:List (Str×V)} (e:H a=some (.ins C dx fs)) (cl:wL K C) (ha:PySem.W.findIn K (.ref C) "__class__"=some (some (.builtin "object.__class__")))
  (hn:PySem.W.specialIn K (.builtin "object.__class__") "__get__"=some (some (.builtin "getset_descriptor.__get__"))) (htk:PySem.W.takesIn K (.builtin "object.__class__")=some true)
  (hm:PySem.W.mroIn K C (.type "object")=some true):iE K H (.ref a) (.ref C)
theorem isinst_ok {x:V}{u t:Value}(I:Inv X pins σ H s)(rx:RelV x u)(ty:iE X.K H x t)(e:PySem.W.kitOne X.K t c=some b)(h:∀ tk,Q (.bool b) { s with toks:=tk}) :
 wpAny (model X.prog X.w) A (call (.builtin "isinstance") [u,c]) Q E s:=by
 cases ty with
 | fH=>cases(show u=Value.none from rx);exact bq PySem.W.kitx_none I.pP True.intro e (fun z=>nomatch z) h
 | bl y=>cases(show u=Value.bool y from rx);exact bq PySem.W.kitx_bool I.pP True.intro e (fun z=>nomatch z) h
 | int i=>obtain⟨t,q⟩:=(show ∃ t,u=Value.int i t from rx);cases q;exact bq PySem.W.kitx_int I.pP True.intro e (fun z=>nomatch z) h
 | str y=>obtain⟨t,q⟩:=(show ∃ t,u=Value.str y t from rx);cases q;exact bq PySem.W.kitx_str I.pP True.intro e (fun z=>nomatch z) h
 | flt y=>obtain⟨t,q⟩:=(show ∃ t,u=Value.float y t from rx);cases q;exact bq PySem.W.kitx_float I.pP True.intro e (fun z=>nomatch z) h
 | @lst a xs ea =>
  cases(show u=Value.ref a from rx)
  obtain⟨_,_,n,_,h1⟩:=(show fo X.prog X.w H s.heap a (.lst xs)from I.dZ a _ ea)
  exact bq PySem.W.kitx_list I.pP ⟨_,h1,rfl⟩ e (fun z=>nomatch z) h
 | @kI a ob xs ea =>
  cases(show u=Value.ref a from rx)
  obtain⟨_,_,_,n,_,h1⟩:=(show fo X.prog X.w H s.heap a (.kI ob (.lst xs))from I.dZ a _ ea)
  exact bq PySem.W.kitx_list I.pP ⟨_,h1,rfl⟩ e (fun z=>nomatch z) h
 | @tup a xs ea =>
  cases(show u=Value.ref a from rx)
  obtain⟨_,_,_,p⟩:=(show fo X.prog X.w H s.heap a (.tup xs)from I.dZ a _ ea)
  obtain⟨o,h1,h2,_⟩:=p
  exact bq PySem.W.kitx_tuple I.pP ⟨o,h1,h2⟩ e (fun z=>nomatch z) h
 | @dK a kvs ea =>
  cases(show u=Value.ref a from rx)
  obtain⟨_,_,vs,_,p⟩:=(show fo X.prog X.w H s.heap a (.dK kvs)from I.dZ a _ ea)
  obtain⟨o,es,ep,h1,h2,_⟩:=p
  exact bq PySem.W.kitx_dict I.pP ⟨o,h1,h2.1⟩ e (fun z=>nomatch z) h
 | @dT a kvs ea =>
  cases(show u=Value.ref a from rx)
  obtain⟨_,_,xs,_,o,es,ep,h1,h2,_⟩:=(show fo X.prog X.w H s.heap a (.dT kvs)from I.dZ a _ ea)
  exact bq PySem.W.kitx_dict I.pP ⟨o,h1,h2.1⟩ e (fun z=>nomatch z) h
 | @ins a C dx fs ea cl ha hn htk hm =>
  cases(show u=Value.ref a from rx)
  obtain⟨mA,O,_⟩:=uB I.dZ ea
  obtain⟨od,J,_⟩:=O.look
  exact bq (PySem.W.kitx_own (cl.get _) cl.hd ha hn htk hm) I.pP J e (fun z=>nomatch z) h
end
structure gD (k:Nat)(A:Around):Prop where
 hd:A.handled=none
 dp:A.depth+3*k+5<recursionLimit
 un:A.units+16*k+200<cLine
theorem gD.mono {j k:Nat}{A:Around}(r:gD k A)(h:j<=k):gD j A:=⟨r.hd,by have:=r.dp;omega,by have:=r.un;omega⟩
theorem gD.deeper {k:Nat}{A:Around}(r:gD (k+1) A)(env:Env):gD k (A.deeper env) :=
 ⟨r.hd,by have:=r.dp;show A.depth+1+3*k+5<_;omega,by have:=r.un;show A.units+3+16*k+200<_;omega⟩
theorem make_depth {A:Around}{C:Addr}{us:List Value}{kw:List (Str×Value)}:(A.under (.builtin "type.__call__" ⟨.ref C::us,kw⟩)).depth=A.depth+1:=by
 first | rfl | simp[Around.under,Code.weight,Code.isCreation,Code.isGuard,Code.isCaller,Code.frames,Code.isFrame,guardIds]
theorem make_units {A:Around}{C:Addr}{us:List Value}{kw:List (Str×Value)}:(A.under (.builtin "type.__call__" ⟨.ref C::us,kw⟩)).units=A.units+1:=by
 first | rfl | simp[Around.under,Code.cUnits,Code.frames,Code.isFrame]
theorem gD.make {k:Nat}{A:Around}(r:gD (k+1) A)(C:Addr)(us:List Value)(kw:List (Str×Value)):gD k (A.under (.builtin "type.__call__" ⟨.ref C::us,kw⟩)) :=
 ⟨r.hd,by have:=r.dp;rw[make_depth];omega,by have:=r.un;rw[make_units];omega⟩
theorem gD.depth {k:Nat}{A:Around}(r:gD k A):A.depth<recursionLimit:=by have:=r.dp;omega
theorem gD.units {k:Nat}{A:Around}(r:gD k A):A.units+64<cLine:=by have:=r.un;omega
def tNil:TA:=fun _ H Q=>Q [] H
def tCons (ta:TE)(tr:TA):TA:=fun σ H Q=>ta σ H fun x H1=>tr σ H1 fun xs H2=>Q (x::xs) H2
section
variable {X:Cx}{e:Expr}{es:List Expr}{te:TE}{t:TA}{pos:Pos}
theorem fR:PA X [] tNil:=fun _ _ _ _ H Q I h=>Calls.spliced_nil ⟨[],H,I,.nil,h⟩
theorem dQ (ha:PE X e te)(hr:PA X es t)(hs:starEach (e::es) X.env=(false,eval e X.env)::starEach es X.env:=by rfl):PA X (e::es) (tCons te t):=by
 intro pos pins s σ H Q I h
 rw[hs]
 show wpAny _ _ (spliced ((false,eval e X.env)::backTo pos (starEach es X.env))) _ _ s
 refine Calls.spliced_cons (fq (ha pins s σ H _ I h) fun u s1 p4=>?_)
 obtain⟨x,H1,I1,r1,q1⟩:=p4
 exact fq (hr pos pins s1 σ H1 _ I1 q1) fun us s2 pH=>by obtain⟨xs,H2,I2,r2,q2⟩:=pH;exact⟨x::xs,H2,I2,.cons r1 r2,q2⟩
def tTup (t:TA):TE:=fun σ H Q=>t σ H fun xs H1=>xs.length<=sizeLine/\∀ p,H1 p=none->Q (.ref p) (upd H1 p (.tup xs))
def tLst (t:TA):TE:=fun σ H Q=>t σ H fun xs H1=>xs.length<=sizeLine/\∀ p,H1 p=none->Q (.ref p) (upd H1 p (.lst xs))
theorem pe_tup {x1}(h:PA X es t):PE X (.Tuple es x1 pos) (tTup t):=by
 intro pins s σ H Q I hq
 refine wpAny_Tuple_spliced (fq (h pos pins s σ H _ I hq) fun us s1 ⟨xs,H1,I1,r,z,q⟩=>⟨by rw[<- r.length];exact z,?_⟩)
 have hf:H1 s1.heap.objs.size=none:=I1.dZ.fresh (aa _)
 refine⟨.ref s1.heap.objs.size,upd H1 s1.heap.objs.size (.tup xs),I1.laid (t':=s1.toks) (fun b u e=>iV _ e) (aa _) ?_,rfl,q _ hf⟩
 exact⟨z,us,r,⟨_,av _ rfl,rfl,_,rfl⟩⟩
theorem pe_lst (h:PA X es t):PE X (.List es pos) (tLst t):=by
 intro pins s σ H Q I hq
 refine wpAny_List_spliced (fq (h pos pins s σ H _ I hq) fun us s1 ⟨xs,H1,I1,r,z,q⟩=>⟨by rw[<- r.length];exact z,?_⟩)
 have hf:H1 s1.heap.objs.size=none:=I1.dZ.fresh (aa _)
 refine⟨.ref s1.heap.objs.size,upd H1 s1.heap.objs.size (.lst xs),I1.laid (t':=s1.toks) (fun b u e=>iV _ e) (aa _) ?_,rfl,q _ hf⟩
 exact⟨z,us,0,r,av _ rfl⟩
end
abbrev Sp:=List V->Hp->VK->XK->Prop
abbrev CXT:=List Env->Hp->Shared->XK->Value->Shared->Prop
structure z9 (P:Program)(w:World)(K:PySem.W.Frag)(mg:Str->Option Value)(base:Heap)(A:Around)(outer:List Env)(s:Shared)(H:Hp):Prop where
 frames:A.frames=some outer
 mod:Mod K mg base
 bs:∀ b o,base.get? b=some o->s.heap.get? b=some o/\H b=none
 bsz:base.objs.size<=s.heap.objs.size
 pJ:s.heap.FunFrames base outer
 frf:∀ b∈xi outer,H b=none
 dZ:nu P w H s.heap
 bare:AllBare s.gens
def CE (outer:List Env)(P:Program)(w:World)(H:Hp)(s:Shared)(Q:VK)(u:Value)(s':Shared):Prop :=
 ∃ v H',s'.os=s.os/\AllBare s'.gens/\Un (xi outer) [] H H' s.heap s'.heap/\nu P w H' s'.heap/\RelV v u/\Q v H'
def CR (CX:CXT)(outer:List Env)(P:Program)(w:World)(H:Hp)(s:Shared)(Q:VK)(E:XK)(r:Result)(s':Shared):Prop :=
 match r with
 | .ok (.ret u)=>CE outer P w H s Q u s'
 | .ok _=>False
 | .error e=>CX outer H s E e s'
structure d7 (P:Program)(w:World)(K:PySem.W.Frag)(mg:Str->Option Value)(base:Heap)(CX:CXT)(k:Nat)(f:Addr)(fd:FuncData)(ps:List Str)(sp:Sp):Prop where
 len:∀ vs H Q E,sp vs H Q E->vs.length=ps.length
 run:∀(A:Around) (outer:List Env) (s:Shared) (H:Hp) (args:Args) (us:List Value) (vs:List V) (Q:VK) (E:XK),gD k A->z9 P w K mg base A outer s H->BindsTo s fd args (ps.zip us)->Vals vs us->sp vs H Q E ->
  codeAny (model P w) A (.call (.ref f) args) (CR CX outer P w H s Q E) s
theorem d7.mono {P:Program}{w:World}{K:PySem.W.Frag}{mg:Str->Option Value}{base:Heap}{CX:CXT}{j k:Nat}{f:Addr}{fd:FuncData}{ps:List Str}{sp:Sp}(F:d7 P w K mg base CX j f fd ps sp)(h:j<=k) :
 d7 P w K mg base CX k f fd ps sp:=⟨F.len,fun A outer s H args us vs Q E hr=>F.run A outer s H args us vs Q E (hr.mono h)⟩
theorem d7.imp {P:Program}{w:World}{K:PySem.W.Frag}{mg:Str->Option Value}{base:Heap}{CX:CXT}{k:Nat}{f:Addr}{fd:FuncData}{ps:List Str}{sp sp':Sp}(F:d7 P w K mg base CX k f fd ps sp)
 (h:∀ vs H Q E,sp' vs H Q E->sp vs H Q E):d7 P w K mg base CX k f fd ps sp' :=
 ⟨fun vs H Q E q=>F.len vs H Q E (h _ _ _ _ q),fun A outer s H args us vs Q E hr he hb hv hs=>F.run A outer s H args us vs Q E hr he hb hv (h _ _ _ _ hs)⟩
theorem z9.make {P:Program}{w:World}{K:PySem.W.Frag}{mg:Str->Option Value}{base:Heap}{A:Around}{outer:List Env}{s:Shared}{H:Hp}(e:z9 P w K mg base A outer s H)(C:Addr)(us:List Value)(kw:List (Str×Value)) :
 z9 P w K mg base (A.under (.builtin "type.__call__" ⟨.ref C::us,kw⟩)) outer s H:=⟨by first | exact e.frames | (simpa [Around.under,Code.envs,Code.isFrame,pushEnvs]using e.frames),e.mod,e.bs,e.bsz,e.pJ,e.frf,e.dZ,e.bare⟩
section
variable {X:Cx}{pins:List (Addr×Obj)}{σ:St}{H:Hp}{s s':Shared}
theorem Inv.env0 (I:Inv X pins σ H s):z9 X.prog X.w X.K X.mg X.base X.A X.stack s H :=
 ⟨I.ok.frames,I.ok.mod,I.bs,ar I.ok.bsz I.sz,I.stack,I.o8,I.dZ,I.bare⟩
theorem Inv.after {Q:VK}{u:Value}(I:Inv X pins σ H s)(h:CE X.stack X.prog X.w H s Q u s'):EP X pins σ Q u s':=by
 obtain⟨v,H',os,bare,un,dZ,r,q⟩:=h
 obtain⟨hh,g,d,t,os'⟩:=s'
 obtain rfl:os'=s.os:=os
 exact⟨v,H',I.call (h':=hh) (g':=g) (d':=d) (t':=t) (ch:=[]) un dZ bare (fun b z=>absurd z (by simp)),r,q⟩
end
def tCall (sp:Sp)(dvs:List V)(E:XK)(t:TA):TE:=fun σ H Q=>t σ H fun vs H1=>sp (vs++dvs) H1 Q E
def tMeth (C:Addr)(m:Str)(sp:Sp)(dvs:List V)(E:XK)(ta:TE)(t:TA):TE:=fun σ H Q=>ta σ H fun x H1=>∃ a dx fs,x=.ref a/\H1 a=some (.ins C dx fs)/\fs.lookup m=none /\
 t σ H1 fun vs H2=>sp (x::(vs++dvs)) H2 Q E
def tMake (C:Addr)(sp:Sp)(dvs:List V)(E:XK)(t:TA):TE:=fun σ H Q=>t σ H fun vs H1=>∀ x dx,H1 x=none->H1 dx=none->dx≠x ->
 sp (.ref x::(vs++dvs)) (upd (upd H1 dx (.own x)) x (.ins C dx [])) (fun v H2=>v=.fH/\Q (.ref x) H2) E
def Binds (K:PySem.W.Frag)(fd:FuncData)(ps:List Str)(ds:List Value):Prop :=
 ∀(s:Shared) (us:List Value),K.In s.heap->(us++ds).length=ps.length->BindsTo s fd ⟨us,[]⟩ (ps.zip (us++ds))
theorem Binds.all {K:PySem.W.Frag}{fd:FuncData}{ps:List Str}(h:∀ us:List Value,us.length=ps.length->bindArgs fd ⟨us,[]⟩=pure (ps.zip us)):Binds K fd ps []:=fun s us _ hl=>by
 rw[aN]at hl ⊢
 exact .of_eq (h us hl)
def Passes (CX:CXT)(X:Cx)(E:XK):Prop:=∀(pins:List (Addr×Obj)) (σ:St) (H:Hp) (s:Shared) (e:Value) (s':Shared),Inv X pins σ H s->CX X.stack H s E e s'->X.xe e s'
section
variable {X:Cx}{CX:CXT}{k:Nat}{f C:Addr}{fd:FuncData}{ps:List Str}{sp:Sp}{dvs:List V}{ds:List Value}{E:XK}{x m:Str}{p pos apos:Pos}{e o:Expr}{es:List Expr}{ta:TE}{t:TA}
theorem yO {pins:List (Addr×Obj)}{σ:St}{H:Hp}{s:Shared}{Q:VK}{us:List Value}{vs:List V}(F:d7 X.prog X.w X.K X.mg X.base CX k f fd ps sp)(hr:gD k X.A)(hb:Binds X.K fd ps ds)(hd:Vals dvs ds)(hx:Passes CX X E)
 (I:Inv X pins σ H s) (r:Vals vs us) (h:sp (vs++dvs) H Q E):wpAny (model X.prog X.w) X.A (call (.ref f) us) (EP X pins σ Q) X.xe s:=by
 have r2:Vals (vs++dvs) (us++ds):=r.append hd
 have hl:(us++ds).length=ps.length:=by rw[<- r2.length];exact F.len _ _ _ _ h
 refine wpAny_call (codeAny_mono (F.run X.A X.stack s H ⟨us,[]⟩ (us++ds) (vs++dvs) Q E hr I.env0 (hb s us I.pP hl) r2 h) fun r s' hq=>?_)
 cases r with
 | error e=>exact hx pins σ H s e s' I hq
 | ok fl =>
  cases fl with
  | ret u=>exact I.after hq
  | next=>exact False.elim hq
  | brk=>exact False.elim hq
  | cont=>exact False.elim hq
theorem pe_call (F:d7 X.prog X.w X.K X.mg X.base CX k f fd ps sp)(hr:gD k X.A)(hg:Gl X x)(hm:X.mg x=some (.ref f))(hk:PySem.W.keepIn X.K (.ref f)=true)(hb:Binds X.K fd ps ds)(hd:Vals dvs ds)(hx:Passes CX X E)
 (ha:PA X (e::es) t) (sC:(x==("__debug__" : Str))=false:=by decide) (he:starEach (e::es) X.env=(false,eval e X.env)::starEach es X.env:=by rfl) (kh:(backTo pos (starEach es X.env)).any (·.1)=false:=by rfl) :
 PE X (.Call (.Name x p) (e::es) [] pos) (tCall sp dvs E t):=by
 intro pins s σ H Q I h
 refine bO (mV I hg hm ?_ sC)
 refine cq (h₀:=X.base) I.ok.mod.kin hk (fq (ha pos pins s σ H _ I h) fun us s1 pI=>?_) he kh
 obtain⟨vs,H1,I1,r,q⟩:=pI
 refine⟨I1.pP,?_⟩
 exact yO F hr hb hd hx I1 r q
theorem yW {pl:Sem Bool}(he:PE X o ta)(c:wL X.K C)(hm:Meth X.K C m f)(F:d7 X.prog X.w X.K X.mg X.base CX k f fd ps sp)(hr:gD k X.A)(hb:Binds X.K fd ps ds)(hd:Vals dvs ds)(hx:Passes CX X E)(ha:PA X (e::es) t)
 (hst:starEach (e::es) X.env=(false,eval e X.env)::starEach es X.env:=by rfl) (kh:(backTo pos (starEach es X.env)).any (·.1)=false:=by rfl)
 (ht:eval (.Call (.Attribute o m apos) (e::es) [] pos) X.env=(do
   let ov <- eval o X.env
   standAt apos.atName
   let (f,first) <- holding [ov] (getMethod ov m pl)
   callWith pos f first (backTo pos (starEach (e::es) X.env)) (backToKw pos (keywordEach [] X.env))):=by rfl) :
 PE X (.Call (.Attribute o m apos) (e::es) [] pos) (tMeth C m sp dvs E ta t):=by
 intro pins s σ H Q I h
 refine PySem.W.methodCall_KW (pl:=pl) (fq (he pins s σ H _ I h) fun u s1 p5=>?_) ht
 obtain⟨x,H1,I1,rx,a,dx,fs,ex,ea,l,q⟩:=p5
 subst ex
 obtain rfl:u=Value.ref a:=rx
 refine p7 I1 ea c hm l ?_
 refine cq (first:=[.ref a]) (h₀:=X.base) I.ok.mod.kin hm.kp (fq (ha pos pins s1 σ H1 _ I1 q) fun us s2 qY=>?_) hst kh
 obtain⟨vs,H2,I2,r,q2⟩:=qY
 refine⟨I2.pP,?_⟩
 exact yO (us:=.ref a::us) (vs:=.ref a::vs) F hr hb hd hx I2 (.cons rfl r) q2
theorem pe_meth0 {pl:Sem Bool}(he:PE X o ta)(c:wL X.K C)(hm:Meth X.K C m f)(F:d7 X.prog X.w X.K X.mg X.base CX k f fd ps sp)(hr:gD k X.A)(hb:Binds X.K fd ps ds)(hd:Vals dvs ds)(hx:Passes CX X E)
 (ht:eval (.Call (.Attribute o m apos) [] [] pos) X.env=(do
   let ov <- eval o X.env
   standAt apos.atName
   let (f,first) <- holding [ov] (getMethod ov m pl)
   callWith pos f first (backTo pos (starEach [] X.env)) (backToKw pos (keywordEach [] X.env))):=by rfl) :
 PE X (.Call (.Attribute o m apos) [] [] pos) (tMeth C m sp dvs E ta tNil):=by
 intro pins s σ H Q I h
 refine PySem.W.methodCall_KW (pl:=pl) (fq (he pins s σ H _ I h) fun u s1 p4=>?_) ht
 obtain⟨x,H1,I1,rx,a,dx,fs,ex,ea,l,q⟩:=p4
 subst ex
 obtain rfl:u=Value.ref a:=rx
 refine p7 I1 ea c hm l ?_
 exact PySem.W.callWith_K0 (first:=[.ref a]) I1.pP hm.kp (yO (us:=[.ref a]) (vs:=[.ref a]) F hr hb hd hx I1 (.cons rfl .nil) q)
structure Mk (K:PySem.W.Frag)(C f:Addr):Prop where
 makes:PySem.W.makesIn K C=true
 init:PySem.W.findIn K (.ref C) "__init__"=some (some (.ref f))
 fn:PySem.W.isFn K (.ref f)=true
 kp:PySem.W.keepIn K (.ref C)=true
theorem run_make {pins:List (Addr×Obj)}{σ:St}{H:Hp}{s:Shared}{Q:VK}{us:List Value}{vs:List V}(M:Mk X.K C f)(F:d7 X.prog X.w X.K X.mg X.base CX k f fd ps sp)(hr:gD (k+1) X.A)(hb:Binds X.K fd ps ds)(hd:Vals dvs ds)
 (hx:Passes CX X E) (I:Inv X pins σ H s) (r:Vals vs us)
 (h:∀ x dx,H x=none->H dx=none->dx≠x->sp (.ref x::(vs++dvs)) (upd (upd H dx (.own x)) x (.ins C dx [])) (fun v H2=>v=.fH/\Q (.ref x) H2) E) :
 wpAny (model X.prog X.w) X.A (call (.ref C) us) (EP X pins σ Q) X.xe s:=by
 have hq:=h (s.heap.objs.size+1) s.heap.objs.size (I.dZ.fresh (Nat.le_succ _)) (I.dZ.fresh (aa _)) (aB (bP _))
 have I2:=Inv.made (C:=C) I
 have r2:Vals (V.ref (s.heap.objs.size+1)::(vs++dvs)) (Value.ref (s.heap.objs.size+1)::(us++ds)):=.cons rfl (r.append hd)
 have hl:(Value.ref (s.heap.objs.size+1)::us++ds).length=ps.length:=by
  have e:=r2.length
  rw[F.len _ _ _ _ hq]at e
  exact e.symm
 refine wpAny_call (make_map (f:=f) I.pP M.makes M.init (beq_iff_eq.mp M.fn) (codeAny_mono (F.run _ X.stack _ _ ⟨Value.ref (s.heap.objs.size+1)::us,[]⟩ (Value.ref (s.heap.objs.size+1)::(us++ds)) _ _ E (hr.make C us [])
  (I2.env0.make C us []) (hb _ (Value.ref (s.heap.objs.size+1)::us) I2.pP hl) r2 hq) fun r s' hq'=>?_))
 cases r with
 | error e=>exact hx pins σ _ _ e s' I2 hq'
 | ok fl =>
  cases fl with
  | ret u =>
   obtain⟨v,H',I3,rv,ev,q3⟩:=I2.after hq'
   subst ev
   exact⟨rv,⟨V.ref (s.heap.objs.size+1),H',I3,rfl,q3⟩⟩
  | next=>exact False.elim hq'
  | brk=>exact False.elim hq'
  | cont=>exact False.elim hq'
theorem pe_make (M:Mk X.K C f)(F:d7 X.prog X.w X.K X.mg X.base CX k f fd ps sp)(hr:gD (k+1) X.A)(hg:Gl X x)(hm:X.mg x=some (.ref C))(hb:Binds X.K fd ps ds)(hd:Vals dvs ds)(hx:Passes CX X E)
 (ha:PA X (e::es) t) (sC:(x==("__debug__" : Str))=false:=by decide) (he:starEach (e::es) X.env=(false,eval e X.env)::starEach es X.env:=by rfl) (kh:(backTo pos (starEach es X.env)).any (·.1)=false:=by rfl) :
 PE X (.Call (.Name x p) (e::es) [] pos) (tMake C sp dvs E t):=by
 intro pins s σ H Q I h
 refine bO (mV I hg hm ?_ sC)
 refine cq (h₀:=X.base) I.ok.mod.kin M.kp (fq (ha pos pins s σ H _ I h) fun us s1 pH=>?_) he kh
 obtain⟨vs,H1,I1,r,q⟩:=pH
 refine⟨I1.pP,?_⟩
 exact run_make M F hr hb hd hx I1 r q
end
structure dz (N P:List Str)(sc:Scope):Prop where
 kind:sc.kind=.function
 co:sc.isCoroutine=false
 gen:sc.isGenerator=false
 nd:N.Nodup
 pre:N.take P.length=P
 par:∀ x∈P,sc.names.lookup x=some .local\/sc.names.lookup x=some .cell
 nofree:∀ y∈sc.names,y.2≠.free
theorem xV {kindOf:Str->Option NameKind}{x:Str}:∀ {binds:List (Str×Value)} {m:Str->Option Value},(∀ v,(x,v)∉binds)->bindL kindOf binds m x=m x
 | [],_,_=>rfl
 | (n,v)::r,m,h=>by
  unfold bindL
  rw[xV fun w hw=>h w (mZ _ hw)]
  split
  ·have:x≠n:=by rintro rfl;exact h v aw
   simp[this]
  ·rfl
theorem xX {kindOf:Str->Option NameKind}{x:Str}:∀ {binds:List (Str×Value)} {m:Str->Option Value},(∀ v,(x,v)∉binds)->bindC kindOf binds m x=m x
 | [],_,_=>rfl
 | (n,v)::r,m,h=>by
  unfold bindC
  rw[xX fun w hw=>h w (mZ _ hw)]
  split
  ·rfl
  ·have:x≠n:=by rintro rfl;exact h v aw
   simp[this]
theorem xW {kindOf:Str->Option NameKind}{x:Str}{v:Value}:∀ {P:List Str} {vs:List Value} {i:Nat} {m:Str->Option Value},P.Nodup->P[i]?=some x->vs[i]?=some v->kindOf x=some .local ->
 bindL kindOf (P.zip vs) m x=some v
 | [],_,_,_,_,h,_,_=>by simp at h
 | _::_,[],_,_,_,_,h,_=>by simp at h
 | p::P,w::vs,0,m,nd,h1,h2,hk=>by
  simp at h1 h2;subst h1;subst h2
  show bindL kindOf ((p,w)::P.zip vs) m p=_
  unfold bindL
  rw[xV fun v hv=>(List.nodup_cons.mp nd).1 (List.of_mem_zip hv).1,ag hk]
  simp
 | p::P,w::vs,i+1,m,nd,h1,h2,hk=>by
  show bindL kindOf ((p,w)::P.zip vs) m x=_
  unfold bindL
  exact xW (i:=i) (List.nodup_cons.mp nd).2 (by simpa using h1) (by simpa using h2) hk
theorem xY {kindOf:Str->Option NameKind}{x:Str}{v:Value}:∀ {P:List Str} {vs:List Value} {i:Nat} {m:Str->Option Value},P.Nodup->P[i]?=some x->vs[i]?=some v->kindOf x≠some .local ->
 bindC kindOf (P.zip vs) m x=some v
 | [],_,_,_,_,h,_,_=>by simp at h
 | _::_,[],_,_,_,_,h,_=>by simp at h
 | p::P,w::vs,0,m,nd,h1,h2,hk=>by
  simp at h1 h2;subst h1;subst h2
  show bindC kindOf ((p,w)::P.zip vs) m p=_
  unfold bindC
  rw[xX fun v hv=>(List.nodup_cons.mp nd).1 (List.of_mem_zip hv).1,ae hk]
  simp
 | p::P,w::vs,i+1,m,nd,h1,h2,hk=>by
  show bindC kindOf ((p,w)::P.zip vs) m x=_
  unfold bindC
  exact xY (i:=i) (List.nodup_cons.mp nd).2 (by simpa using h1) (by simpa using h2) hk
def start (N:List Str)(vs:List V):St:=vs.map some++List.replicate (N.length - vs.length) none
def nR (CX:CXT)(P:Program)(w:World)(K:PySem.W.Frag)(mg:Str->Option Value)(base:Heap)(N:List Str)(qual:Str)(scope:Scope)(f:Addr)(cd:Value)(A:Around)(outer:List Env)(s:Shared)(H:Hp)(E:XK):Cx where
 prog:=P
 w:=w
 K:=K
 mg:=mg
 base:=base
 A:=A.deeper (envOfC qual scope s.heap.objs.size f cd)
 N:=N
 s₀:=s
 H₀:=H
 env:=envOfC qual scope s.heap.objs.size f cd
 outer:=outer
 stack:=envOfC qual scope s.heap.objs.size f cd::outer
 ex:=[]
 calm:=true
 fn:=fun _=>true
 pn:=[]
 xe:=fun e s'=>wpAny (model P w) (A.deeper (envOfC qual scope s.heap.objs.size f cd)) (leaving (envOfC qual scope s.heap.objs.size f cd) e) (fun _ s''=>CX outer H s E e s'') (fun e' s''=>CX outer H s E e' s'') s'
theorem l9 {sc:Scope}{n:Nat}{x:Str}(h:sc.names.lookup x=some .cell):∃ c,(cellsFrom n sc.names []).lookup x=some c:=by
 have q:=c7 sc.names n [] (.inl h)
 exact Option.isSome_iff_exists.mp q
theorem xJ {CX:CXT}{P:Program}{w:World}{K:PySem.W.Frag}{mg:Str->Option Value}{base:Heap}{N ps:List Str}{qual:Str}{scope:Scope}{f:Addr}{cd:Value}{A:Around}{outer:List Env}{s s1:Shared}{H:Hp}{E:XK}{us:List Value}{vs:List V}
 (S:dz N ps scope) (hd:A.handled=none) (e0:z9 P w K mg base A outer s H) (hl:vs.length=ps.length) (r:Vals vs us)
 (x:InCallC s s.heap.objs.size (bindL (envOfC qual scope s.heap.objs.size f cd).kindOf (ps.zip us) fun _=>none) (cellsFrom (s.heap.objs.size+1) scope.names []) (bindC (envOfC qual scope s.heap.objs.size f cd).kindOf (ps.zip us) fun _=>none) s1) :
 Inv (nR CX P w K mg base N qual scope f cd A outer s H E) [] (start N vs) H s1:=by
 have kh:ps.length<=N.length:=by have:=bI List.length S.pre;rw[aP]at this;omega
 obtain⟨h1,tk,rfl,hk⟩:=x.done
 have noA:∀ b:Addr,b∉(nR CX P w K mg base N qual scope f cd A outer s H E).ex:=fun b z=>absurd (show b∈([]:List Addr)from z) (by simp)
 refine⟨⟨e0.mod,S.kind,rfl,rfl,aa _,fun y z c h1 h2=>?_,fun y hy=>?_,fun y c _ h=>?_,fun _=>hd,Around.frames_deeper e0.frames,.inr ⟨rfl,rfl⟩,fun b z=>absurd z (noA b),e0.bs,e0.bsz,fun b _ _=>noA b,fun b z=>absurd z (noA b),e0.pJ,e0.frf⟩,
  rfl,e0.bare,Un.kept hk,⟨_,x.toInCall.ns,fun i y v h1 h2 h3=>?_⟩,fun y c h=>⟨_,x.cell y c h⟩,e0.dZ.fresh (aa _),fun y c h=>?_,fun p hp=>absurd (show p∈([]:List (Addr×Obj))from hp) (by simp),e0.dZ.kept hk,?_⟩
 ·exact name_of_addr x.apart (cj h1) (cj h2)
 ·have hy:scope.names.lookup y=some .cell\/scope.names.lookup y=some .free:=hy
  rcases hy with hy | hy
  ·exact l9 hy
  ·exact absurd rfl (S.nofree _ (cj hy))
 ·exact Nat.le_of_lt (x.above y c (cj h))
 ·have hi:i<vs.length:=by
   unfold start at h2
   by_cases hi:i<vs.length
   ·exact hi
   ·rw[p6 (by simpa using hi)]at h2
    rw[List.getElem?_replicate]at h2
    split at h2 <;> cases h2
  have ha:vs[i]?=some v:=by
   unfold start at h2
   rw[uD (by simpa using hi),tK]at h2
   cases e:vs[i]? with
   | none=>rw[e]at h2;cases h2
   | some a=>rw[e]at h2;cases h2;rfl
  obtain⟨u,hu,rv⟩:=r.get ha
  have hp:ps[i]?=some y:=by
   rw[<- S.pre,bu (by omega)];exact h1
  have ndP:ps.Nodup:=by rw[<- S.pre];exact S.nd.sublist (List.take_sublist _ _)
  refine⟨u,rv,?_⟩
  rcases S.par y (zk hp)with k | k
  ·exact .inl ⟨k,xW ndP hp hu k⟩
  ·obtain⟨c,e⟩:=l9 (n:=s.heap.objs.size+1) k
   refine .inr ⟨.inl k,c,e,?_⟩
   have q:=x.cell y c e
   rw[xY ndP hp hu (by show scope.names.lookup y≠_;rw[k];decide)]at q
   exact q
 ·exact e0.dZ.fresh (Nat.le_of_lt (x.above y c (cj h)))
 ·unfold start
  show _=N.length
  rw[kH,fg,aM]
  omega
theorem fn_of {CX:CXT}{P:Program}{w:World}{K:PySem.W.Frag}{mg:Str->Option Value}{base:Heap}{k:Nat}{f:Addr}{name qual:Str}{params:Arguments}{body:List Stmt}{scope:Scope}{dV kV doc pm fI ct oc:Value}{an od:Option Addr}
 {osl:Array (Option Value)} {N ps:List Str} {sp:Sp} (lk:K.lookup f=some ⟨oc,od,.func (PySem.W.fnOf name qual params body scope dV kV doc pm an fI ct),osl⟩) (xh:PySem.W.codeIn K fI qual=true) (S:dz N ps scope)
 (len:∀ vs H Q E,sp vs H Q E->vs.length=ps.length)
 (oG:∀(A:Around) (outer:List Env) (s:Shared) (H:Hp) (vs:List V) (Q:VK) (E:XK),gD k (A.deeper (envOfC qual scope s.heap.objs.size f fI))->sp vs H Q E ->
   ∃ t,zX (nR CX P w K mg base N qual scope f fI A outer s H E) body t/\t { nx:=fun _ H'=>Q .fH H',rt:=Q} (start N vs) H) :
 d7 P w K mg base CX (k+1) f (PySem.W.fnOf name qual params body scope dV kV doc pm an fI ct) ps sp:=by
 refine⟨len,fun A outer s H args us vs Q E hr e0 hb r hsp=>?_⟩
 have hl:=len _ _ _ _ hsp
 have KX:K.In s.heap:=e0.mod.kin.keeps fun b o e=>(e0.bs b o e).1
 have lim:s.heap.NoLimit:=e0.mod.nolimit.keeps fun b o e=>(e0.bs b o e).1
 have hkind:∀ y∈ps.zip us,scope.names.lookup y.1=some .local\/(scope.names.lookup y.1=some .cell/\((cellsFrom (s.heap.objs.size+1) scope.names []).lookup y.1).isSome=true):=fun⟨n,v⟩ hy=>by
  rcases S.par n (List.of_mem_zip hy).1 with q | q
  ·exact .inl q
  ·exact .inr ⟨q,c7 _ _ _ (.inl q)⟩
 refine codeAny_call_function hr.depth (KX _ _ lk) rfl S.co S.gen rfl (PySem.W.codeRec_of KX xh) (hb _ _ _ _ ?_)
 refine wpAny_newFunctionEnv_cells S.kind hkind fun env he s1 x=>?_
 subst he
 refine⟨lim.keeps x.toInCall.keep,codeAny_func ?_⟩
 obtain⟨t,ht,hq⟩:=oG A outer s H vs Q E (hr.deeper _) hsp
 have I:Inv (nR CX P w K mg base N qual scope f fI A outer s H E) [] (start N vs) H s1:=xJ S hr.hd e0 hl r x
 refine bc (ht [] s1 (start N vs) H _ I hq) (fun fl s' hs=>?_) fun e s' hs=>hs
 have fin:∀ {fO:St} {H':Hp} {v:V} {u:Value},Inv (nR CX P w K mg base N qual scope f fI A outer s H E) [] fO H' s'->RelV v u->Q v H'->CE outer P w H s Q u s' :=
  fun {fO H' v u} J rv q=>⟨v,H',J.os,J.bare,J.base,J.dZ,rv,q⟩
 cases fl with
 | ret u =>
  obtain⟨v,fO,H',J,rv,q⟩:=hs
  exact fin J rv q
 | next =>
  obtain⟨fO,H',J,q⟩:=hs
  exact fin (v:=V.fH) (u:=Value.none) J rfl q
 | brk =>
  obtain⟨_,_,_,q⟩:=hs
  exact False.elim q
 | cont =>
  obtain⟨_,_,_,q⟩:=hs
  exact False.elim q
section
variable {X:Cx}{x:Str}{p pos:Pos}{e:Expr}{es:List Expr}{t:TA}{id T:String}{r:List V->Hp->VK->Prop}
def tCB (r:List V->Hp->VK->Prop)(t:TA):TE:=fun σ H Q=>t σ H fun vs H1=>r vs H1 Q
theorem fh (hc:gM X (.builtin id) r)(hg:Gl X x)(hm:X.mg x=none)(hv:bootBuiltins x=some (.builtin id))(ha:PA X (e::es) t)(hn:x ≠ "__name__":=by decide)(sC:(x==("__debug__" : Str))=false:=by decide)
 (he:starEach (e::es) X.env=(false,eval e X.env)::starEach es X.env:=by rfl) (kh:(backTo pos (starEach es X.env)).any (·.1)=false:=by rfl):PE X (.Call (.Name x p) (e::es) [] pos) (tCB r t):=by
 intro pins s σ H Q I h
 refine bO (oF I hg hm hv ?_ hn sC)
 exact PyProof.Rows.callWith_builtin1 (fq (ha pos pins s σ H _ I h) fun us s1 qk=>by obtain⟨vs,H1,I1,r1,q1⟩:=qk;exact hc pins s1 σ H1 vs us Q I1 r1 q1) he kh
theorem xC (hc:gM X (.type T) r)(hg:Gl X x)(hm:X.mg x=none)(hv:bootBuiltins x=some (.type T))(ha:PA X (e::es) t)(hn:x ≠ "__name__":=by decide)(sC:(x==("__debug__" : Str))=false:=by decide)
 (he:starEach (e::es) X.env=(false,eval e X.env)::starEach es X.env:=by rfl) (kh:(backTo pos (starEach es X.env)).any (·.1)=false:=by rfl):PE X (.Call (.Name x p) (e::es) [] pos) (tCB r t):=by
 intro pins s σ H Q I h
 refine bO (oF I hg hm hv ?_ hn sC)
 exact bw (fq (ha pos pins s σ H _ I h) fun us s1 nP=>by obtain⟨vs,H1,I1,r1,q1⟩:=nP;exact hc pins s1 σ H1 vs us Q I1 r1 q1) he kh
end
end L2
namespace HT
open PySem PyProof.Rows
section
variable {prog:Program}{w:World}{A:Around}{E:Value->Shared->Prop}{s:Shared}
theorem cat_tup {t b:Addr}{vs ws:List Value}{Q:Value->Shared->Prop}(ht:IsTup s.heap t vs.toArray)(hb:IsTup s.heap b ws.toArray)(hv:vs≠[])
 (h1:ws=[]->Q (.ref t) s) (h2:ws≠[]->Q (.ref s.heap.objs.size) { s with heap:=s.heap.push { cls:=.type "tuple",data:=.seq (vs++ws).toArray}})
 (hsz:vs.length+ws.length<=sizeLine):wpAny (model prog w) A (binaryOp .Add (.ref t) (.ref b)) Q E s:=by
 obtain⟨⟨cls,dd,data,sl⟩,ho,hc,n,hd⟩:=id ht
 obtain⟨⟨cls2,dd2,data2,sl2⟩,ho2,hc2,n2,hd2⟩:=id hb
 simp only at hc hd hc2 hd2
 subst hc hd hc2 hd2
 have e:vs.toArray++ws.toArray=(vs++ws).toArray:=by simp
 by_cases hw:ws=[]
 ·exact concat_meets ⟨_,ho,rfl⟩ ⟨_,ho2,rfl⟩ noFill_tuple_add seq_tuple_add PySem.F.slot_tuple_add PySem.F.entry_tuple_add (PySem.F.args_tuple_add_2 _ _)
   (tuple_addW1 t b vs.toArray ws.toArray n n2 dd dd2 sl sl2 (by simpa using hv) (by simp[hw])) ⟨ho,ho2,h1 hw⟩
 ·refine concat_meets ⟨_,ho,rfl⟩ ⟨_,ho2,rfl⟩ noFill_tuple_add seq_tuple_add PySem.F.slot_tuple_add PySem.F.entry_tuple_add (PySem.F.args_tuple_add_2 _ _)
   (tuple_addW2 t b vs.toArray ws.toArray n n2 dd dd2 sl sl2 (by simpa using hv) (by simpa using hw) (by rw[au,au];exact hsz)) ⟨ho,ho2,?_⟩
  rw[e]
  exact h2 hw
def gN (n d:Nat):Option Int->Nat
 | none=>d
 | some v=>if v<0 then(v+(n:Int)).toNat else min v.toNat n
theorem qI (n d:Nat):gN n d none=d:=rfl
theorem lr (n d k:Nat):gN n d (some (k:Int))=min k n:=by
 show(if(k:Int)<0 then((k:Int)+(n:Int)).toNat else min (k:Int).toNat n)=min k n
 rw[ae (by omega),gxK]
theorem vf (n d:Nat)(hd:d<=n)(o:Option Int):gN n d o<=n:=by
 cases o with
 | none=>exact hd
 | some v =>
  show(if v<0 then(v+(n:Int)).toNat else min v.toNat n)<=n
  by_cases hv:v<0
  ·rw[ag hv];omega
  ·rw[ae hv];exact Nat.min_le_right _ _
theorem clip_eq (v:Int)(n d:Nat):(if v<0 then max (v+(n:Int)) 0 else min v (n:Int))=((gN n d (some v):Nat):Int):=by
 show(if v<0 then max (v+(n:Int)) 0 else min v (n:Int))=(((if v<0 then(v+(n:Int)).toNat else min v.toNat n):Nat):Int)
 by_cases hv:v<0
 ·simp only[ag hv];omega
 ·simp only[ae hv];omega
theorem adjust_gen (lo hi:Option Int)(n:Nat):Builtin.Slice.sliceAdjust lo hi 1 (n:Int)=(((gN n 0 lo:Nat):Int),((gN n n hi:Nat):Int)):=by
 have h1:¬ ((1:Int)<0):=by omega
 unfold Builtin.Slice.sliceAdjust
 simp only[h1,if_false]
 refine Prod.ext ?_ ?_
 ·cases lo with
  | none=>rfl
  | some v=>exact clip_eq v n 0
 ·cases hi with
  | none=>rfl
  | some v=>exact clip_eq v n n
theorem places_gen (i j:Nat):Builtin.Slice.slicePlaces (i:Int) (j:Int) 1=j - i:=by
 unfold Builtin.Slice.slicePlaces
 have h1:(1:Int)>0:=by omega
 simp only[h1,if_true,Int.ediv_one]
 split <;> omega
theorem u4 {v:Value}{o:Option Int}{Q:Option Int->Shared->Prop}(p:IsPart v o)(h:Q o s):wpAny (model prog w) A (Builtin.Slice.slicePartIndex v) Q E s:=by
 cases p with
 | none=>exact slicePart_none h
 | int i t=>exact slicePart_int h
theorem r9 {sl:Addr}{vl vu:Value}{lo hi:Option Int}{n:Nat}{Q:Int×Int×Nat->Shared->Prop}(hs:s.heap.IsSliceOf sl vl vu .none)(pl:IsPart vl lo)(pu:IsPart vu hi)
 (h:Q (((gN n 0 lo:Nat):Int),1,gN n n hi - gN n 0 lo) s):wpAny (model prog w) A (Builtin.Slice.sliceApplied (.ref sl) (pure (n:Int))) Q E s:=by
 obtain⟨os,hos,hcs,hds⟩:=id hs
 unfold Builtin.Slice.sliceApplied Builtin.Slice.sliceFields
 refine dY (dY (aS hos hds (x:=vl) rfl (dY (aS hos hds (x:=vu) rfl (dY (aS hos hds (x:=.none) rfl (aj ?_)))))))
 refine dY (slicePart_none ?_)
 show wpAny _ _ (if((1:Int)==0)=true then _ else _) _ _ s
 rw[ae (by decide)]
 refine dY (u4 pl (dY (u4 pu (dY (aj ?_)))))
 show wpAny _ _ (match Builtin.Slice.sliceAdjust lo hi 1 (n:Int)with | (lo,hi)=>pure (lo,(1:Int),Builtin.Slice.slicePlaces lo hi 1)) _ _ s
 rw[adjust_gen lo hi n]
 show wpAny _ _ (pure (((gN n 0 lo:Nat):Int),(1:Int),Builtin.Slice.slicePlaces ((gN n 0 lo:Nat):Int) ((gN n n hi:Nat):Int) 1)) _ _ s
 rw[places_gen]
 exact aj h
theorem pick_gen (xs:Array Value)(i k:Nat):((List.range k).filterMap fun(m:Nat)=>xs[((i:Int)+(m:Int)*1).toNat]?).toArray=((xs.toList.drop i).take k).toArray:=by
 have e:(fun(m:Nat)=>xs[((i:Int)+(m:Int)*1).toNat]?)=fun m=>xs[i+m]?:=by
  funext m
  have:((i:Int)+(m:Int)*1).toNat=i+m:=by omega
  rw[this]
 rw[e]
 have:=pick_run xs i k
 rw[List.filterMap_map]at this
 have e2:((fun x=>xs[x]?) ∘ fun x=>i+x)=fun m=>xs[i+m]?:=rfl
 rw[e2]at this
 rw[this]
theorem rb {t sl:Addr}{items:Array Value}{vl vu:Value}{lo hi:Option Int}{Q:Value->Shared->Prop}(ht:IsTup s.heap t items)(hs:s.heap.IsSliceOf sl vl vu .none)(pl:IsPart vl lo)(pu:IsPart vu hi)
 (hw:¬ (gN items.size 0 lo=0/\gN items.size items.size hi=items.size))
 (h:Q (.ref s.heap.objs.size) { s with heap:=s.heap.push { cls:=.type "tuple",data:=.seq ((items.toList.drop (gN items.size 0 lo)).take (gN items.size items.size hi - gN items.size 0 lo)).toArray}})
 (hsz:items.size<=sizeLine):wpAny (model prog w) A (getItem (.ref t) (.ref sl)) Q E s:=by
 have htake:sizeOk (.seq ((items.toList.drop (gN items.size 0 lo)).take (gN items.size items.size hi - gN items.size 0 lo)).toArray):=by
  show((items.toList.drop (gN items.size 0 lo)).take (gN items.size items.size hi - gN items.size 0 lo)).toArray.size<=sizeLine
  rw[au,aP,bQ,bW]
  omega
 have hj:gN items.size items.size hi<=items.size:=vf _ _ (aa _) hi
 obtain⟨os,hos,hcs,hds⟩:=id hs
 have hTs:s.TypeIs (.ref sl) "slice":=⟨os,hos,hcs⟩
 unfold getItem
 try with_reducible refine bG ?_
 first | refine dY (aj ?_) | skip
 refine dY (wpAny_sequenceKey ht.typeIs (by decide) ?_)
 refine dY (bA (name:=Str.ofString "__getitem__") ht.typeIs PyProof.Rows.slot_tuple_getitem
  (bN PyProof.Rows.slot_tuple_getitem ht.typeIs entry_tuple_getitem ?_ (args_tuple_getitem _ _)))
 show wpAny _ _ (Builtin.Tuple.tupleItemsOf (.ref t) >>= _) _ _ s
 refine dY (tupleItemsOf_ ht ?_)
 refine dY (wpAny_typeOf hTs ?_)
 rw[ag (by decide)]
 refine dY (r9 hs pl pu ?_)
 have hno:¬ ((((gN items.size 0 lo:Nat):Int)==0&&(1:Int)==1&&(gN items.size items.size hi - gN items.size 0 lo)==items.size)=true):=by
  intro q
  rw[aL,aL]at q
  have q1:((gN items.size 0 lo:Nat):Int)=0:=eq_of_beq q.1.1
  have q2:gN items.size items.size hi - gN items.size 0 lo=items.size:=eq_of_beq q.2
  exact hw ⟨by omega,by omega⟩
 show wpAny _ _ (if(((gN items.size 0 lo:Nat):Int)==0&&(1:Int)==1&&(gN items.size items.size hi - gN items.size 0 lo)==items.size)=true then _ else _) _ _ s
 rw[ae hno,pick_gen]
 first
  | exact dY (m:=Builtin.Tuple.tupleExact _) (aY (aj ⟨_,rfl,aj h⟩) htake)
  | exact dY (m:=Builtin.Tuple.tupleExact _) (aY (dY (aj (aj ⟨_,rfl,aj h⟩))) htake)
  | exact dY (dY (m:=Builtin.Tuple.tupleExact _) (aY (aj (aj ⟨_,rfl,aj h⟩)) htake))
  | exact dY (dY (m:=Builtin.Tuple.tupleExact _) (aY (aj ⟨_,rfl,aj h⟩) htake))
end
end HT
namespace L2
open PySem PySem.Spec PyProof.Rows
abbrev TO:=St->Hp->(Option Int->Hp->Prop)->Prop
def PO (X:Cx)(e:Option Expr)(t:TO):Prop :=
 ∀(pins:List (Addr×Obj)) (s:Shared) (σ:St) (H:Hp) (Q:Option Int->Hp->Prop),Inv X pins σ H s->t σ H Q ->
  wpAny (model X.prog X.w) X.A (evalPart e X.env) (fun u s'=>∃ o H',Inv X pins σ H' s'/\IsPart u o/\Q o H') X.xe s
def tNoPart:TO:=fun _ H Q=>Q none H
section
variable {X:Cx}{e:Expr}{te:TE}{lo hi:Option Expr}{tl th:TO}{pos p2:Pos}
theorem po_none:PO X none tNoPart:=by
 intro pins s σ H Q I h
 rw[evalPart_none]
 exact aj ⟨none,H,I,.none,h⟩
def SlR (X:Cx)(r:V->Option Int->Option Int->Hp->VK->Prop):Prop :=
 ∀(pins:List (Addr×Obj)) (s:Shared) (σ:St) (H:Hp) (x:V) (v vl vu:Value) (lo hi:Option Int) (sl:Addr) (Q:VK),Inv X pins σ H s->RelV x v->s.heap.IsSliceOf sl vl vu .none->IsPart vl lo->IsPart vu hi->r x lo hi H Q ->
  ∃ T id,typeLookup (.type T) "__getitem__"=pure (some (.builtin id))/\s.TypeIs v T/\wpAny (model X.prog X.w) X.A (getItem v (.ref sl)) (EP X pins σ Q) X.xe s
def tSl (r:V->Option Int->Option Int->Hp->VK->Prop)(te:TE)(tl th:TO):TE:=fun σ H Q=>te σ H fun x H1=>tl σ H1 fun l H2=>th σ H2 fun u H3=>r x l u H3 Q
theorem pe_slice {r:V->Option Int->Option Int->Hp->VK->Prop}(hr:SlR X r)(he:PE X e te)(hl:PO X lo tl)(hu:PO X hi th):PE X (.Subscript e (.Slice lo hi none p2) pos) (tSl r te tl th):=by
 intro pins s σ H Q I h
 refine Subscript_ (fq (he pins s σ H _ I h) fun v s1 pI=>?_)
 obtain⟨x,H1,I1,r1,q1⟩:=pI
 refine wpAny_Slice (fq (hl pins s1 σ H1 _ I1 q1) fun vl s2 p5=>?_)
 obtain⟨l,H2,I2,pl,q2⟩:=p5
 refine fq (hu pins s2 σ H2 _ I2 q2) fun vu s3 qY=>?_
 obtain⟨u,H3,I3,pu,q3⟩:=qY
 rw[evalPart_none]
 refine aj ?_
 have I4:Inv X pins σ H3 { s3 with heap:=s3.heap.push { cls:=.type "slice",data:=.fields #[vl,vu,.none]}}:=I3.kept (t':=s3.toks) fun b ob q=>iV _ q
 obtain⟨T,id,hT,ht,hg⟩:=hr pins { s3 with heap:=s3.heap.push { cls:=.type "slice",data:=.fields #[vl,vu,.none]}} σ H3 x v vl vu l u s3.heap.objs.size Q I4 r1 (Heap.IsSliceOf.new ..) pl pu q3
 show wpAny (model X.prog X.w) X.A (subscriptTail e (.Slice lo hi none p2) v (.ref s3.heap.objs.size)) (EP X pins σ Q) X.xe { s3 with heap:=s3.heap.push { cls:=.type "slice",data:=.fields #[vl,vu,.none]}}
 exact tail_any (ops:=[.ref s3.heap.objs.size,v]) ht hT hg (by with_unfolding_all rfl)
def zK (xs:List V)(lo hi:Option Int):List V:=(xs.drop (HT.gN xs.length 0 lo)).take (HT.gN xs.length xs.length hi - HT.gN xs.length 0 lo)
theorem tQ (xs:List V)(lo hi:Option Int):(zK xs lo hi).length<=xs.length:=by
 unfold zK
 rw[aP,bQ]
 omega
def rSlT (K:PySem.W.Frag):V->Option Int->Option Int->Hp->VK->Prop:=fun x lo hi H Q=>∃ a xs,x=.ref a/\zV K H a xs /\
 ¬ (HT.gN xs.length 0 lo=0/\HT.gN xs.length xs.length hi=xs.length)/\∀ p,H p=none->Q (.ref p) (upd H p (.tup (zK xs lo hi)))
theorem sl_tup:SlR X (rSlT X.K):=by
 intro pins s σ H x v vl vu lo hi sl Q I rx hs pl pu h
 obtain⟨a,xs,rfl,hx,hw,q⟩:=h
 cases rx
 obtain⟨d9,r,ht,hz⟩:=I.tuple hx
 have hlen:d9.toArray.size=xs.length:=by rw[au];exact r.length.symm
 refine⟨"tuple",_,PyProof.Rows.slot_tuple_getitem.lookup,ht.typeIs,?_⟩
 refine HT.rb ht hs pl pu (by rw[hlen];exact hw) ?_ (by rw[hlen];exact hz)
 rw[hlen]
 refine⟨.ref s.heap.objs.size,_,I.laid (t':=s.toks) (o:=.tup (zK xs lo hi)) (fun b ob q=>iV _ q) (aa _) ?_,rfl,q _ (I.dZ.fresh (aa _))⟩
 exact⟨ar (tQ xs lo hi) hz,_,(r.drop (HT.gN xs.length 0 lo)).take (HT.gN xs.length xs.length hi - HT.gN xs.length 0 lo),IsTup.new _ _⟩
def rCatT (K:PySem.W.Frag):R2:=fun x y H Q=>∃ a b xs ys,x=.ref a/\y=.ref b/\zV K H a xs/\zV K H b ys/\xs≠[]/\xs.length+ys.length<=sizeLine /\
 (ys=[]->Q (.ref a) H)/\(ys≠[]->∀ p,H p=none->Q (.ref p) (upd H p (.tup (xs++ys))))
theorem Vals.zc {xs:List V}{us:List Value}(r:Vals xs us):us=[]↔xs=[]:=by
 cases r with
 | nil=>simp
 | cons _ _=>simp
theorem op_catT:iT X (binaryOp .Add) (rCatT X.K):=by
 intro pins s σ H x y v u Q I rx ry h
 obtain⟨a,b,xs,ys,rfl,rfl,ha,hb,hx,hz,q1,q2⟩:=h
 cases rx
 cases ry
 obtain⟨d9,r1,p1,_⟩:=I.tuple ha
 obtain⟨pX,r2,p2,_⟩:=I.tuple hb
 refine HT.cat_tup p1 p2 (fun z=>hx (r1.zc.mp z)) (fun z=>⟨.ref a,H,I,rfl,q1 (r2.zc.mp z)⟩) (fun z=>?_) (by rw[<- r1.length,<- r2.length];exact hz)
 refine⟨.ref s.heap.objs.size,_,I.laid (t':=s.toks) (o:=.tup (xs++ys)) (fun b ob q=>iV _ q) (aa _) ?_,rfl,q2 (fun w=>z (r2.zc.mpr w)) _ (I.dZ.fresh (aa _))⟩
 exact⟨by rw[kH];exact hz,_,r1.append r2,IsTup.new _ _⟩
end
def ixN (n:Nat)(i:Int):Option Nat:=if 0<=i then(if i<n then some i.toNat else none)else if -(n:Int)<=i then some (i+n).toNat else none
def qh {α:Type}(xs:List α)(i:Int):Option α:=(ixN xs.length i).bind fun j=>xs[j]?
theorem ixN_seq {n:Nat}{i:Int}{j:Nat}(h:ixN n i=some j):seqIndex? i n=some j/\j<n /\ -(n:Int)<=i/\i<n:=by
 unfold ixN at h
 by_cases h0:0<=i
 ·rw[ag h0]at h
  by_cases h1:i<n
  ·rw[ag h1]at h
   have e:i.toNat=j:=aK h
   exact⟨by rw[seqIndex_of h0 h1,e],by omega,by omega,h1⟩
  ·rw[ae h1]at h;cases h
 ·rw[ae h0]at h
  by_cases h1:-(n:Int)<=i
  ·rw[ag h1]at h
   have e:(i+n).toNat=j:=aK h
   exact⟨by rw[seqIndex_neg (by omega) h1,e],by omega,h1,by omega⟩
  ·rw[ae h1]at h;cases h
theorem zS {α:Type}{xs:List α}{i:Int}{v:α}(h:qh xs i=some v):∃ j,seqIndex? i xs.length=some j/\xs[j]?=some v/\j<xs.length /\ -(xs.length:Int)<=i/\i<xs.length:=by
 unfold qh at h
 cases e:ixN xs.length i with
 | none=>rw[e]at h;cases h
 | some j =>
  rw[e]at h
  obtain⟨h1,h2,h3,h4⟩:=ixN_seq e
  exact⟨j,h1,h,h2,h3,h4⟩
theorem kj {α:Type}{xs:List α}{j:Nat}{v:α}(h:xs[j]?=some v):qh xs (j:Int)=some v:=by
 have hj:j<xs.length:=(lE h).1
 have e:ixN xs.length (j:Int)=some j:=by
  unfold ixN
  rw[ag (by omega),ag (by omega)];simp
 unfold qh;rw[e];exact h
def zW (b:Expr):Prop:=∀ o i,subscripted b false o i=operate [o,i] (getItem o i)
def IxR (X:Cx)(r:R2):Prop :=
 ∀(value slice:Expr) (pins:List (Addr×Obj)) (s:Shared) (σ:St) (H:Hp) (x y:V) (v u:Value) (Q:VK),Inv X pins σ H s->RelV x v->RelV y u->r x y H Q ->
  subscripted slice false v u=operate [v,u] (getItem v u)->wpAny (model X.prog X.w) X.A (subscriptTail value slice v u) (EP X pins σ Q) X.xe s
def MtR (X:Cx)(id:String)(r:V->List V->Hp->VK->Prop):Prop :=
 ∀(pins:List (Addr×Obj)) (s:Shared) (σ:St) (H:Hp) (x:V) (xs:List V) (v:Value) (us:List Value) (Q:VK),Inv X pins σ H s->RelV x v->Vals xs us->r x xs H Q ->
  wpAny (model X.prog X.w) X.A (call (.builtin id) (v::us)) (EP X pins σ Q) X.xe s
section
variable {X:Cx}{a b:Expr}{ta tb:TE}{pos:Pos}
theorem IxR.or {r r':R2}(h:IxR X r)(h':IxR X r'):IxR X (fun x y H Q=>r x y H Q\/r' x y H Q):=by
 intro value slice pins s σ H x y v u Q I rx ry q hs
 rcases q with q | q
 ·exact h value slice pins s σ H x y v u Q I rx ry q hs
 ·exact h' value slice pins s σ H x y v u Q I rx ry q hs
theorem oz {r:R2}(hr:IxR X r)(ha:PE X a ta)(hb:PE X b tb)(hs:zW b):PE X (.Subscript a b pos) (tOp r ta tb):=by
 intro pins s σ H Q I h
 exact Subscript_ (binT ha hb I h fun v u s2 x y H2 I2 rx ry q=>hr a b pins s2 σ H2 x y v u Q I2 rx ry q (hs _ _))
def rIxL (K:PySem.W.Frag):R2:=fun x y H Q=>∃ p xs i v,x=.ref p/\y=.int i/\oW K H p xs/\qh xs i=some v/\Q v H
def rIxT (K:PySem.W.Frag):R2:=fun x y H Q=>∃ p xs i v,x=.ref p/\y=.int i/\zV K H p xs/\qh xs i=some v/\Q v H
def rIxS:R2:=fun x y H Q=>∃ z i c,x=.str z/\y=.int i/\z.length<=sizeLine/\qh z.cps.toList i=some c/\Q (.str ⟨#[c]⟩) H
theorem ix_list:IxR X (rIxL X.K):=by
 intro value slice pins s σ H x y v u Q I rx ry h hs
 obtain⟨p,xs,i,z,rfl,rfl,hq,he,q⟩:=h
 cases rx
 obtain⟨t,rfl⟩:=ry
 obtain⟨d9,r,pl,hz⟩:=I.list hq
 obtain⟨j,h1,h2,h3,h4,h5⟩:=zS he
 obtain⟨w,ew,rw'⟩:=r.get h2
 have hl:=r.length
 have hn:=pW
 have fin:EP X pins σ Q w s:=⟨z,H,I,rw',q⟩
 by_cases h0:0<=i
 ·have hj:i.toNat=j:=by
   rw[seqIndex_of h0 h5]at h1
   exact aK h1
  exact item_listR pl.isList h0 (by omega) (by rw[hj];simpa using ew) fin hs
 ·have hj:(i+(d9.toArray.size:Int)).toNat=j:=by
   rw[seqIndex_neg (by omega) h4]at h1
   rw[au,<- hl]
   exact aK h1
  exact subscriptTail_builtinR (x:=w) pl.isList.typeIs slot_list_getitem.lookup
   (wpAny_getItem_list_neg (Q:=fun r s'=>r=w/\EP X pins σ Q r s') pl.isList (by omega) (by rw[au]<;> omega) (by omega) (by rw[hj];simpa using ew) ⟨rfl,fin⟩) hs
theorem ix_tup:IxR X (rIxT X.K):=by
 intro value slice pins s σ H x y v u Q I rx ry h hs
 obtain⟨p,xs,i,z,rfl,rfl,hq,he,q⟩:=h
 cases rx
 obtain⟨t,rfl⟩:=ry
 obtain⟨d9,r,pl,hz⟩:=I.tuple hq
 obtain⟨j,h1,h2,h3,h4,h5⟩:=zS he
 obtain⟨w,ew,rw'⟩:=r.get h2
 have hl:=r.length
 have hn:=pW
 have fin:EP X pins σ Q w s:=⟨z,H,I,rw',q⟩
 exact subscriptTail_builtinR (x:=w) pl.typeIs slot_tuple_getitem.lookup
  (getItem_tuple (j:=j) (Q:=fun r s'=>r=w/\EP X pins σ Q r s') pl (by omega) (by omega) (by rw[au,<- hl];exact h1) (by simpa using ew) ⟨rfl,fin⟩) hs
theorem ix_str:IxR X rIxS:=by
 intro value slice pins s σ H x y v u Q I rx ry h hs
 obtain⟨z,i,c,rfl,rfl,hz,he,q⟩:=h
 obtain⟨t,rfl⟩:=rx
 obtain⟨t',rfl⟩:=ry
 obtain⟨j,h1,h2,h3,h4,h5⟩:=zS he
 have hl:z.cps.toList.length=z.length:=by simp[Str.length]
 rw[hl]at h1 h4 h5
 have hn:=pW
 exact tail_any (typeIs_str s z t) slot_str_getitem.lookup (getItem_str (c:=c) (by
  have e1:decide (i < -(2 ^ 63:Int))=false:=ak (by omega)
  have e2:decide (i≥2 ^ 63)=false:=ak (by omega)
  rw[e1,e2,Bool.or_false]) (by rw[h1];simpa using h2) ⟨.str ⟨#[c]⟩,H,I.tok _,⟨_,rfl⟩,q⟩) hs
def rIx (K:PySem.W.Frag):R2:=fun x y H Q=>rIxL K x y H Q\/rIxT K x y H Q\/rIxS x y H Q
theorem ix_seq:IxR X (rIx X.K):=ix_list.or (ix_tup.or ix_str)
theorem mapSeq_set (d9:List Value)(n j:Nat)(u:Value):Obj.mapSeq (·.setIfInBounds j u) { cls:=.type "list",data:=.seq d9.toArray n}={ cls:=.type "list",data:=.seq (d9.set j u).toArray n}:=by
 simp[Obj.mapSeq]
theorem Inv.lst {pins:List (Addr×Obj)}{σ:St}{H:Hp}{s:Shared}{p:Addr}{xs:List V}(I:Inv X pins σ H s)(h:H p=some (.lst xs)) :
 ∃(d9:List Value) (n:Nat),Vals xs d9/\s.heap.get? p=some { cls:=.type "list",data:=.seq d9.toArray n}/\xs.length<=sizeLine:=by
 obtain⟨z,d9,n,r,e⟩:=I.dZ p _ h
 exact⟨d9,n,r,e,z⟩
theorem Inv.lstUpd {pins:List (Addr×Obj)}{σ:St}{H:Hp}{s:Shared}{p:Addr}{xs ys:List V}{d9 its':List Value}{n n':Nat}{f:Obj->Obj}(I:Inv X pins σ H s)(h:H p=some (.lst xs))
 (ho:s.heap.get? p=some { cls:=.type "list",data:=.seq d9.toArray n}) (hf:f { cls:=.type "list",data:=.seq d9.toArray n}={ cls:=.type "list",data:=.seq its'.toArray n'}) (r:Vals ys its') (hz:ys.length<=sizeLine) (t:Nat) :
 Inv X pins σ (upd H p (.lst ys)) { s with heap:=s.heap.update p f,toks:=t}:=by
 have e:(s.heap.update p f).get? p=some { cls:=.type "list",data:=.seq its'.toArray n'}:=by
  rw[b8 f ho (by rw[hf]<;> rfl),hf]
 refine I.write (x:=p) (e:=p) (by rw[h];trivial) (.inl rfl) (fun b u hb q=>(bj _ _ (bb hb)).trans q) ⟨_,e⟩ ?_
 exact⟨hz,its',n',r,e⟩
def rSetL:V->V->V->Hp->(Hp->Prop)->Prop:=fun o i v H Q=>∃ p xs k j,o=.ref p/\i=.int k/\H p=some (.lst xs)/\ixN xs.length k=some j/\Q (upd H p (.lst (xs.set j v)))
theorem set_list:PSet X rSetL:=by
 intro pins s σ H o i v ov iv u Q I ro ri rv h
 obtain⟨p,xs,k,j,rfl,rfl,hp,hj,q⟩:=h
 cases ro
 obtain⟨t,rfl⟩:=ri
 obtain⟨d9,n,r,ho,hz⟩:=I.lst hp
 obtain⟨h1,h2,h3,h4⟩:=ixN_seq hj
 have hl:=r.length
 have hn:=pW
 have I':Inv X pins σ (upd H p (.lst (xs.set j v))) { s with heap:=s.heap.update p (Obj.mapSeq (·.setIfInBounds j u))} :=
  I.lstUpd hp ho (mapSeq_set d9 n j u) (r.set rv j) (by rw[aH];exact hz) s.toks
 by_cases h0:0<=k
 ·have hk:k.toNat=j:=by
   rw[seqIndex_of h0 h4]at h1
   exact aK h1
  exact PySem.W.ki_setAt ho h0 (by omega) (by rw[au,<- hl];exact h4) (by rw[hk];exact⟨_,I',q⟩)
 ·have hk:(k+(d9.toArray.size:Int)).toNat=j:=by
   rw[seqIndex_neg (by omega) h3]at h1
   rw[au,<- hl]
   exact aK h1
  exact PySem.W.ki_setBack ho (by omega) (by rw[au,<- hl];exact h3) (by omega) (by rw[hk];exact⟨_,I',q⟩)
theorem yo (lo hi:Option Int)(n:Nat):(sliceBounds lo hi none n).1=((HT.gN n 0 lo:Nat):Int)/\(sliceBounds lo hi none n).2.1=((HT.gN n n hi:Nat):Int)/\(sliceBounds lo hi none n).2.2=1:=by
 refine⟨?_,?_,rfl⟩
 ·cases lo with
  | none=>simp[sliceBounds,HT.gN]
  | some i =>
   simp only[sliceBounds,HT.gN,Option.getD_none,show(1:Int)>0 by decide,if_true]
   by_cases h:i<0
   ·simp only[h,if_true]<;> omega
   ·simp only[h,if_false]<;> omega
 ·cases hi with
  | none=>simp[sliceBounds,HT.gN]
  | some i =>
   simp only[sliceBounds,HT.gN,Option.getD_none,show(1:Int)>0 by decide,if_true]
   by_cases h:i<0
   ·simp only[h,if_true]<;> omega
   ·simp only[h,if_false]<;> omega
theorem wQ (d9:List Value)(lo hi:Option Int):slicePick d9.toArray lo hi none=((d9.drop (HT.gN d9.length 0 lo)).take (HT.gN d9.length d9.length hi - HT.gN d9.length 0 lo)).toArray:=by
 obtain⟨h1,h2,h3⟩:=yo lo hi d9.toArray.size
 unfold slicePick
 rw[h1,h2,h3]
 simp only[sliceRange_one,pick_run,au]<;> rfl
def rSlL (K:PySem.W.Frag):V->Option Int->Option Int->Hp->VK->Prop:=fun x lo hi H Q=>∃ a xs,x=.ref a/\oW K H a xs/\∀ p,H p=none->Q (.ref p) (upd H p (.lst (zK xs lo hi)))
theorem sl_list:SlR X (rSlL X.K):=by
 intro pins s σ H x v vl vu lo hi sl Q I rx hs pl pu h
 obtain⟨a,xs,rfl,hx,q⟩:=h
 cases rx
 obtain⟨d9,r,ht,hz⟩:=I.list hx
 have hlen:=r.length
 refine⟨"list",_,slot_list_getitem.lookup,ht.isList.typeIs,?_⟩
 refine wpAny_getItem_list_slice ht.isList hs pl pu .none (by simp) ?_ (by rw[au]<;> omega)
 rw[wQ,<- hlen]
 refine⟨.ref s.heap.objs.size,_,I.laid (t':=s.toks) (o:=.lst (zK xs lo hi)) (fun b ob q=>iV _ q) (aa _) ?_,rfl,q _ (I.dZ.fresh (aa _))⟩
 exact⟨ar (tQ xs lo hi) hz,_,0,(r.drop (HT.gN xs.length 0 lo)).take (HT.gN xs.length xs.length hi - HT.gN xs.length 0 lo),av _ rfl⟩
def j3:V->Bool
 | .fH=>true
 | .bl _=>true
 | .int _=>true
 | .str _=>true
 | _=>false
def eqV:V->V->Bool
 | .fH,.fH=>true
 | .bl a,.bl b=>a==b
 | .bl a,.int b=>(if a then 1 else 0)==b
 | .int a,.bl b=>a==(if b then 1 else 0)
 | .int a,.int b=>a==b
 | .str a,.str b=>a==b
 | _,_=>false
theorem eqAt_V {A:Around}{s:Shared}{y x:V}{u v:Value}(ry:RelV y u)(rx:RelV x v)(fy:j3 y=true)(fx:j3 x=true):SeqAt.EqAt A s u v (eqV y x):=by
 cases y with
 | fH =>
  cases ry
  cases x with
  | fH=>cases rx;exact SeqAt.EqAt.same _
  | bl b=>cases rx;exact SeqAt.EqAt.none_bool b
  | int b=>obtain⟨t,rfl⟩:=rx;exact SeqAt.EqAt.none_int b t
  | str b=>obtain⟨t,rfl⟩:=rx;exact SeqAt.EqAt.none_str b t
  | _=>exact absurd (show false=true from fx) aA
 | bl a =>
  cases ry
  cases x with
  | fH=>cases rx;exact SeqAt.EqAt.bool_none a
  | bl b=>cases rx;exact SeqAt.EqAt.bool_bool a b
  | int b=>obtain⟨t,rfl⟩:=rx;exact SeqAt.EqAt.bool_int a b t
  | str b=>obtain⟨t,rfl⟩:=rx;exact SeqAt.EqAt.bool_str a b t
  | _=>exact absurd (show false=true from fx) aA
 | int a =>
  obtain⟨t',rfl⟩:=ry
  cases x with
  | fH=>cases rx;exact SeqAt.EqAt.int_none a t'
  | bl b=>cases rx;exact SeqAt.EqAt.int_bool a t' b
  | int b=>obtain⟨t,rfl⟩:=rx;exact SeqAt.EqAt.int_int a t' b t
  | str b=>obtain⟨t,rfl⟩:=rx;exact SeqAt.EqAt.int_str a t' b t
  | _=>exact absurd (show false=true from fx) aA
 | str a =>
  obtain⟨t',rfl⟩:=ry
  cases x with
  | fH=>cases rx;exact SeqAt.EqAt.str_none a t'
  | bl b=>cases rx;exact SeqAt.EqAt.str_bool a t' b
  | int b=>obtain⟨t,rfl⟩:=rx;exact SeqAt.EqAt.str_int a t' b t
  | str b=>obtain⟨t,rfl⟩:=rx;exact SeqAt.EqAt.str_str a t' b t
  | _=>exact absurd (show false=true from fx) aA
 | _=>exact absurd (show false=true from fy) aA
def eqU (x:V)(u:Value):Bool:=match u with
 | .none=>eqV .fH x
 | .bool b=>eqV (.bl b) x
 | .int i _=>eqV (.int i) x
 | .str z _=>eqV (.str z) x
 | _=>false
theorem eqU_of {x y:V}{u:Value}(r:RelV y u)(f:j3 y=true):eqU x u=eqV y x:=by
 cases y with
 | fH=>cases r;rfl
 | bl b=>cases r;rfl
 | int i=>obtain⟨t,rfl⟩:=r;rfl
 | str z=>obtain⟨t,rfl⟩:=r;rfl
 | _=>exact absurd (show false=true from f) aA
theorem rQ {x:V}:∀ {xs:List V} {us:List Value},Vals xs us->xs.all j3=true->us.any (eqU x)=xs.any fun y=>eqV y x
 | _,_,.nil,_=>rfl
 | y::xs,u::us,.cons r t,f=>by
  rw[cN,aL]at f
  rw[bp,bp,eqU_of r f.1,rQ t f.2]
theorem oC {A:Around}{s:Shared}{x:V}{v:Value}(rx:RelV x v)(fx:j3 x=true):∀ {xs:List V} {us:List Value},Vals xs us->xs.all j3=true->∀ u∈us,SeqAt.EqAt A s u v (eqU x u)
 | _,_,.nil,_=>fun u hu=>by cases hu
 | y::xs,u::us,.cons r t,f=>fun u' hu=>by
  rw[cN,aL]at f
  rcases List.mem_cons.mp hu with rfl | hu
  ·rw[eqU_of r f.1];exact eqAt_V r rx f.1 fx
  ·exact oC rx fx t f.2 u' hu
def inV (x:V)(xs:List V):Bool:=xs.any fun y=>eqV y x
def rIn (K:PySem.W.Frag)(neg:Bool):R2:=fun x y H Q=>∃ p xs,y=.ref p/\(oW K H p xs\/zV K H p xs)/\j3 x=true/\xs.all j3=true/\Q (.bl (if neg then !inV x xs else inV x xs)) H
theorem op_in_seq:iT X (compareOp .In) (rIn X.K false):=by
 intro pins s σ H x y v u Q I rx ry h
 obtain⟨p,xs,rfl,hq,fx,fs,q⟩:=h
 cases ry
 rcases hq with hq | hq
 ·obtain⟨d9,r,pl,hz⟩:=I.list hq
  refine SeqAt.in_listAt (eqU x) pl.isList (fun w hw=>oC rx fx r fs w (by simpa using hw)) ⟨.bl _,H,I,rfl,?_⟩
  rw[show d9.toArray.any (eqU x)=d9.any (eqU x) by simp,rQ r fs]
  exact q
 ·obtain⟨d9,r,pl,hz⟩:=I.tuple hq
  refine SeqAt.in_tupleAt (eqU x) pl (fun w hw=>oC rx fx r fs w (by simpa using hw)) ⟨.bl _,H,I,rfl,?_⟩
  rw[show d9.toArray.any (eqU x)=d9.any (eqU x) by simp,rQ r fs]
  exact q
theorem yY:iT X (compareOp .NotIn) (rIn X.K true):=by
 intro pins s σ H x y v u Q I rx ry h
 obtain⟨p,xs,rfl,hq,fx,fs,q⟩:=h
 cases ry
 rcases hq with hq | hq
 ·obtain⟨d9,r,pl,hz⟩:=I.list hq
  refine SeqAt.notIn_listAt (eqU x) pl.isList (fun w hw=>oC rx fx r fs w (by simpa using hw)) ⟨.bl _,H,I,rfl,?_⟩
  rw[show d9.toArray.any (eqU x)=d9.any (eqU x) by simp,rQ r fs]
  exact q
 ·obtain⟨d9,r,pl,hz⟩:=I.tuple hq
  refine SeqAt.notIn_tupleAt (eqU x) pl (fun w hw=>oC rx fx r fs w (by simpa using hw)) ⟨.bl _,H,I,rfl,?_⟩
  rw[show d9.toArray.any (eqU x)=d9.any (eqU x) by simp,rQ r fs]
  exact q
theorem yX:iT X (compareOp .NotIn) (fun x y H Q=>∃ i j,x=.str i/\y=.str j/\Q (.bl (!(!(Builtin.Str.occurrences j i 0 j.length 1).isEmpty))) H):=by
 intro pins s σ H x y v u Q I rx ry h
 obtain⟨i,j,rfl,rfl,q⟩:=h
 obtain⟨t,rfl⟩:=rx
 obtain⟨t',rfl⟩:=ry
 exact notIn_str ⟨.bl _,H,I,rfl,q⟩
theorem zQ:gM X (.builtin "len") (fun xs H Q=>∃ p ys,xs=[.ref p]/\(oW X.K H p ys\/zV X.K H p ys)/\Q (.int ys.length) H):=by
 intro pins s σ H xs us Q I r h
 obtain⟨p,ys,rfl,hq,q⟩:=h
 obtain⟨u,rfl,rx⟩:=vals1 r
 cases rx
 have hn:=pW
 rcases hq with hq | hq
 ·obtain⟨d9,r',pl,hz⟩:=I.list hq
  have hlen:=r'.length
  exact Calls.call_len_list pl.isList (by simp only[au]<;> omega) ⟨.int ys.length,H,I.tok _,⟨s.toks+1,by rw[au,hlen]⟩,q⟩
 ·obtain⟨d9,r',pl,hz⟩:=I.tuple hq
  have hlen:=r'.length
  exact len_tuple pl (by simp only[au]<;> omega) ⟨.int ys.length,H,I.tok _,⟨s.toks+1,by rw[au,hlen]⟩,q⟩
theorem zP:gM X (.builtin "len") (fun xs H Q=>∃ z,xs=[.str z]/\z.length<=sizeLine/\Q (.int z.length) H):=by
 intro pins s σ H xs us Q I r h
 obtain⟨z,rfl,hz,q⟩:=h
 obtain⟨u,rfl,t,rfl⟩:=vals1 r
 have hn:=pW
 exact len_str (by omega) ⟨.int z.length,H,I.tok _,⟨_,rfl⟩,q⟩
theorem gM.or {f:Value}{r r':List V->Hp->VK->Prop}(h:gM X f r)(h':gM X f r'):gM X f (fun xs H Q=>r xs H Q\/r' xs H Q):=by
 intro pins s σ H xs us Q I rs q
 rcases q with q | q
 ·exact h pins s σ H xs us Q I rs q
 ·exact h' pins s σ H xs us Q I rs q
theorem zO:gM X (.type "list") (fun xs H Q=>∃ p ys,xs=[.ref p]/\(oW X.K H p ys\/zV X.K H p ys)/\∀ l,H l=none->Q (.ref l) (upd H l (.lst ys))):=by
 intro pins s σ H xs us Q I r h
 obtain⟨p,ys,rfl,hq,q⟩:=h
 obtain⟨u,rfl,rx⟩:=vals1 r
 cases rx
 have fin:∀(d9:List Value),Vals ys d9->ys.length<=sizeLine->∀(h':Heap) (c':Nat),(∀ b o',s.heap.get? b=some o'->h'.get? b=some o') ->
  h'.get? s.heap.objs.size=some { cls:=.type "list",dict:=none,data:=.seq d9.toArray c',slots:=#[]}->EP X pins σ Q (.ref s.heap.objs.size) { s with heap:=h'}:=fun d9 r' hz h' c' kp e =>
  ⟨.ref s.heap.objs.size,_,I.laid (t':=s.toks) kp (aa _) (show fo X.prog X.w _ h' _ (.lst ys)from⟨hz,d9,c',r',e⟩),rfl,q _ (I.dZ.fresh (aa _))⟩
 rcases hq with hq | hq
 ·obtain⟨d9,r',pl,hz⟩:=I.list hq
  have hlen:=r'.length
  obtain⟨o,ho,hc,n,hd⟩:=pl.isList
  exact call_list_seq p (.inl rfl) ho hc hd (fun h' c' kp e=>fin d9 r' hz h' c' kp e) (by simp only[au]<;> omega)
 ·obtain⟨d9,r',pl,hz⟩:=I.tuple hq
  have hlen:=r'.length
  obtain⟨o,ho,hc,n,hd⟩:=pl
  exact call_list_seq p (.inr rfl) ho hc hd (fun h' c' kp e=>fin d9 r' hz h' c' kp e) (by simp only[au]<;> omega)
def tyV (K:PySem.W.Frag)(T:String)(x:V)(H:Hp):Prop:=match x with
 | .str _=>T = "str"
 | .int _=>T = "int"
 | .ref p=>(T = "list"/\∃ xs,oW K H p xs)\/(T = "tuple"/\∃ o,K.lookup p=some o/\o.cls=.type "tuple"/\o.dict=none) \/
  (T = "dict"/\((∃ kvs,H p=some (.dK kvs))\/∃ kvs,H p=some (.dT kvs)))\/(T = "set"/\∃ S n,H p=some (.set S n))
 | _=>False
theorem tyV_is {pins:List (Addr×Obj)}{σ:St}{H:Hp}{s:Shared}{T:String}{x:V}{v:Value}(I:Inv X pins σ H s)(r:RelV x v)(ty:tyV X.K T x H) :
 s.TypeIs v T/\∀ a,v=.ref a->∃ ob,s.heap.get? a=some ob/\ob.dict=none:=by
 cases x with
 | str z =>
  obtain⟨t,rfl⟩:=r
  cases(show T = "str" from ty)
  exact⟨typeIs_str s z t,fun _ e=>nomatch e⟩
 | int i =>
  obtain⟨t,rfl⟩:=r
  cases(show T = "int" from ty)
  exact⟨typeIs_int s i t,fun _ e=>nomatch e⟩
 | ref p =>
  cases r
  rcases ty with⟨rfl,xs,hq⟩ | ⟨rfl,o,hk,hc,hd⟩ | ⟨rfl,hk⟩ | ⟨rfl,S,n,hk⟩
  ·obtain⟨d9,_,pl,_⟩:=I.list hq
   refine⟨pl.isList.typeIs,fun a e=>?_⟩
   cases e
   obtain⟨o,n,e,c,hd,_⟩:=pl
   exact⟨o,e,hd⟩
  ·refine⟨⟨o,I.pP p o hk,hc⟩,fun a e=>?_⟩
   cases e
   exact⟨o,I.pP _ o hk,hd⟩
  ·have z:∃ o,s.heap.get? p=some o/\o.ExactDict:=by
    rcases hk with⟨kvs,hk⟩ | ⟨kvs,hk⟩
    ·obtain⟨_,_,_,_,o,_,_,e,ex,_⟩:=I.dZ p _ hk
     exact⟨o,e,ex⟩
    ·obtain⟨_,_,_,_,o,_,_,e,ex,_⟩:=I.dZ p _ hk
     exact⟨o,e,ex⟩
   obtain⟨o,e,ex⟩:=z
   refine⟨⟨o,e,ex.1⟩,fun a e2=>?_⟩
   cases e2
   exact⟨o,e,ex.2.1⟩
  ·obtain⟨o,_,_,_,e,ex,_⟩:=I.dZ p _ hk
   refine⟨⟨o,e,ex.1⟩,fun a e2=>?_⟩
   cases e2
   exact⟨o,e,ex.2.1⟩
 | _=>exact False.elim ty
def tBM (K:PySem.W.Frag)(T:String)(r:V->List V->Hp->VK->Prop)(to:TE)(t:TA):TE:=fun σ H Q=>to σ H fun x H1=>tyV K T x H1/\t σ H1 fun xs H2=>r x xs H2 Q
variable {o e:Expr}{es:List Expr}{to:TE}{t:TA}{name:Str}{apos fX:Pos}{T id:String}{r:V->List V->Hp->VK->Prop}
theorem pe_bm (pa:PlainAttrs T)(slot:Slot T name id)(hty:typeOf (.builtin id)=pure (.type "method_descriptor"))(hm:MtR X id r)(ho:PE X o to)(ha:PA X (e::es) t)
 (l6:attributeBase o name X.env (eval o X.env)=eval o X.env:=by rfl)
 (hfew:((backTo fX (starEach (e::es) X.env)).all (fun x=>!x.1)&&(backToKw fX (keywordEach [] X.env)).all (fun x=>x.1.isSome)
   && decide ((e::es).length+([]:List Keyword).length+(if([]:List Keyword).isEmpty then 0 else 1)<30))=true:=by rfl)
 (l5:(apos.endLine==fX.line)=true:=by rfl) (hs:starEach (e::es) X.env=(false,eval e X.env)::starEach es X.env:=by rfl) (hplain:(backTo fX (starEach es X.env)).any (·.1)=false:=by rfl) :
 PE X (.Call (.Attribute o name apos) (e::es) [] fX) (tBM X.K T r to t):=by
 intro pins s σ H Q I h
 refine wpAny_Call_method_late l6 hfew l5 rfl (fq (ho pins s σ H _ I h) fun v s1 p4=>?_)
 obtain⟨x,H1,I1,r1,ty,q1⟩:=p4
 obtain⟨h1,h2⟩:=tyV_is I1 r1 ty
 refine⟨T,id,pa,slot,hty,h1,h2,?_⟩
 have hA:=ha fX pins s1 σ H1 _ I1 q1
 rw[hs]at hA ⊢
 refine cx (by show(false||(backTo fX (starEach es X.env)).any (·.1))=false;rw[hplain]<;> rfl) (Calls.evalArgs_plain ?_)
 exact fq hA fun us s2 pH=>by obtain⟨vs,H2,I2,r2,q2⟩:=pH;exact hm pins s2 σ H2 x vs v us Q I2 r1 r2 q2
end
def MtM (X:Cx)(id:String)(r:V->List V->Hp->VK->Prop):Prop :=
 ∀(pins:List (Addr×Obj)) (s:Shared) (σ:St) (H:Hp) (x:V) (xs:List V) (v:Value) (us:List Value) (Q:VK),Inv X pins σ H s->RelV x v->Vals xs us->r x xs H Q ->
  wpAny (model X.prog X.w) X.A (call (.builtin id) (v::us)) (EP X pins σ Q) X.xe s
theorem Vals.one {x:V}{us:List Value}(h:Vals [x] us):∃ u,us=[u]/\RelV x u:=by
 cases h with
 | cons r t=>cases t;exact⟨_,rfl,r⟩
theorem Vals.two {x y:V}{us:List Value}(h:Vals [x,y] us):∃ u v,us=[u,v]/\RelV x u/\RelV y v:=by
 cases h with
 | cons r t=>obtain⟨v,rfl,q⟩:=Vals.one t;exact⟨_,v,rfl,r,q⟩
section
variable {X:Cx}{pins:List (Addr×Obj)}{σ:St}{H:Hp}{s:Shared}{l b:Addr}{xs ys zs:List V}
theorem Inv.lset {d9 its':List Value}{n:Nat}{f:Array Value->Array Value}{t':Nat}(I:Inv X pins σ H s)(hH:H l=some (.lst xs))
 (e:s.heap.get? l=some { cls:=.type "list",data:=.seq d9.toArray n}) (hf:f d9.toArray=its'.toArray) (hv:Vals ys its') (hz:ys.length<=sizeLine) :
 Inv X pins σ (upd H l (.lst ys)) { s with heap:=s.heap.update l (Obj.mapSeq f),toks:=t'}:=by
 have q:=PySem.IsL.update e f
 rw[hf]at q
 refine I.write (x:=l) (e:=l) (by rw[hH];exact trivial) (.inl rfl) (fun b' u hb hu=>(bj s.heap (Obj.mapSeq f) (bb hb)).trans hu) ⟨_,q⟩ ?_
 exact⟨hz,its',_,hv,q⟩
theorem Inv.lnew {d9:List Value}{t':Nat}(I:Inv X pins σ H s)(hv:Vals ys d9)(hz:ys.length<=sizeLine) :
 Inv X pins σ (upd H s.heap.objs.size (.lst ys)) { s with heap:=s.heap.push { cls:=.type "list",data:=.seq d9.toArray},toks:=t'} :=
 I.laid (fun _ _ q=>iV _ q) (aa _) ⟨hz,d9,0,hv,av _ rfl⟩
theorem Inv.fresh (I:Inv X pins σ H s):H s.heap.objs.size=none:=I.dZ.fresh (aa _)
theorem Inv.vB (I:Inv X pins σ H s)(hH:H l=some (.lst xs)):xs.length<=sizeLine/\∃(d9:List Value) (n:Nat),Vals xs d9/\xs.length=d9.length/\s.heap.get? l=some { cls:=.type "list",data:=.seq d9.toArray n}:=by
 obtain⟨z,d9,n,r,e⟩:=I.dZ l _ hH
 exact⟨z,d9,n,r,r.length,e⟩
theorem vw {n:Nat}(h:n<=sizeLine):Builtin.List.listTooLong n=false:=by
 unfold Builtin.List.listTooLong
 exact ak (by omega)
end
section
variable {X:Cx}
def rAppend:V->List V->Hp->VK->Prop:=fun x vs H Q=>∃ l xs y,x=.ref l/\vs=[y]/\H l=some (.lst xs)/\xs.length<sizeLine/\Q .fH (upd H l (.lst (xs++[y])))
theorem mt_append:MtM X "list.append" rAppend:=by
 intro pins s σ H x vs v us Q I rx rv h
 obtain⟨l,xs,y,rfl,rfl,hH,hz,q⟩:=h
 cases rx
 obtain⟨u,rfl,ru⟩:=rv.one
 obtain⟨z,d9,n,r,hl,e⟩:=I.vB hH
 refine call_meets F.slot_list_append ⟨_,e,rfl⟩ F.entry_list_append (F.args_list_append_2 _ _) (PySem.list_append l d9.toArray n u (by rw[au];omega)) ⟨e,?_⟩
 refine⟨.fH,_,I.lset (its':=d9++[u]) hH e (by simp) (r.append (.cons ru .nil)) ?_,rfl,q⟩
 rw[kH,aQ]
 omega
def rExtend:V->List V->Hp->VK->Prop:=fun x vs H Q=>∃ l b xs zs,x=.ref l/\vs=[.ref b]/\H l=some (.lst xs)/\H b=some (.lst zs)/\xs.length+zs.length<=sizeLine/\Q .fH (upd H l (.lst (xs++zs)))
theorem mt_extend:MtM X "list.extend" rExtend:=by
 intro pins s σ H x vs v us Q I rx rv h
 obtain⟨l,b,xs,zs,rfl,rfl,hH,hB,hz,q⟩:=h
 cases rx
 obtain⟨u,rfl,ru⟩:=rv.one
 cases ru
 obtain⟨z,d9,n,r,hl,e⟩:=I.vB hH
 obtain⟨z2,pX,n2,r2,hl2,e2⟩:=I.vB hB
 have hsz:d9.toArray.size+pX.toArray.size<=sizeLine:=by rw[au,au];omega
 have hlong:¬ (!d9.toArray.isEmpty&&Builtin.List.listTooLong (d9.toArray.size+pX.toArray.size))=true:=by
  rw[vw hsz,dc]
  exact aA
 refine call_meets F.slot_list_extend ⟨_,e,rfl⟩ F.entry_list_extend (F.args_list_extend_2 _ _)
  (AutoSeq1.list_extend_list_list_0 l d9.toArray n b pX.toArray n2 hlong (by rw[au];omega) (by omega)) ⟨e,e2,?_⟩
 refine⟨.fH,_,I.lset (its':=d9++pX) hH e (by simp) (r.append r2) ?_,rfl,q⟩
 rw[kH]
 omega
def rCat:R2:=fun x y H Q=>∃ l b xs zs,x=.ref l/\y=.ref b/\H l=some (.lst xs)/\H b=some (.lst zs)/\xs.length+zs.length<=sizeLine/\∀ p,H p=none->Q (.ref p) (upd H p (.lst (xs++zs)))
theorem op_cat:iT X (binaryOp .Add) rCat:=by
 intro pins s σ H x y v u Q I rx ry h
 obtain⟨l,b,xs,zs,rfl,rfl,hH,hB,hz,q⟩:=h
 cases rx
 cases ry
 obtain⟨z,d9,n,r,hl,e⟩:=I.vB hH
 obtain⟨z2,pX,n2,r2,hl2,e2⟩:=I.vB hB
 refine PySem.P.add_list e e2 ?_ (by rw[au,au];omega)
 have ea:d9.toArray++pX.toArray=(d9++pX).toArray:=by simp
 rw[ea]
 exact⟨.ref _,_,I.lnew (t':=s.toks) (r.append r2) (by rw[kH];omega),rfl,q _ I.fresh⟩
end
section
variable {prog:Program}{w:World}{A:Around}{E:Value->Shared->Prop}{s:Shared}
theorem splice_eq (d9 pX:List Value)(a c:Nat):d9.toArray.extract 0 a++pX.toArray++d9.toArray.extract c d9.toArray.size=(d9.take a++pX++d9.drop c).toArray:=by
 apply Array.toList_inj.mp
 first
  | (simp
     exact aV (by simp))
  | simp[aV]
  | simp
end
end L2
namespace Att
open PySem PySem.W PySem.Calls PyProof.Rows
theorem ua {P:Params}{h:Heap}:∀(ns:List Int) (vs:List Value),WellAll P h vs (ns.map WData.int)->IntsAre vs ns:=by
 intro ns
 induction ns with
 | nil =>
  intro vs w
  rw[List.map_nil]at w
  cases w
  exact .nil
 | cons n ns ih =>
  intro vs w
  rw[ah]at w
  cases w with
  | cons a b =>
   cases a
   exact .cons _ _ (ih _ b)
theorem script_of {l:OpenLaw}{n:Nat}(hn:l.most=some n){P:Params}{h:Heap}{args:List WData}{vals:List Value}
 (hpre:l.row.toRowW.claim.pre args=true) (hwl:WellAll P h vals args) :
 ∃ a vs ns,vals=[Value.ref a]/\args=[WData.list (ns.map WData.int)]/\h.get? a=some { cls:=.type "list",data:=.seq vs.toArray}/\IntsAre vs ns/\ns.length<=n:=by
 have hsh:WShape.hasAll [] args [.list .int]=true:=(pre_splitW hpre).1
 have hc:l.pre.holds [] { args:=args}=true:=(pre_splitW hpre).2
 obtain⟨d,r,rfl,h1,h2⟩:=hasAllW_cons hsh
 obtain rfl:=hasAllW_nil h2
 obtain⟨xs,rfl,h3⟩:=hasW_list h1
 obtain⟨ns,rfl⟩:=items_int h3
 have hlen:ns.length<=n:=by
  unfold OpenLaw.pre at hc
  have h4:(WTm.not (.lt (.lit (.int (n:Int))) (.len (.arg 0)))).holds [] { args:=[.list (ns.map .int)]}=true:=by
   have h4:=(holds_andW hc).1
   rw[hn]at h4
   exact h4
  have h5:=condW_of h4 (w_not (w_lt w_lit (w_len_list (w_arg rfl))))
  rw[fg]at h5
  refine Nat.le_of_not_lt fun q=>?_
  have q':(n:Int)<((ns.length:Nat):Int):=by omega
  first
   | (rw[af q']at h5;exact absurd h5 (by decide))
   | (simp at h5;omega)
 cases hwl with
 | cons w1 w2 =>
  cases w2
  cases w1 with
  | list ho hall=>exact⟨_,_,ns,rfl,rfl,ho,ua ns _ hall,hlen⟩
theorem post_true (l:OpenLaw)(args:List WData):l.row.toRowW.claim.post args (.bool true) args=true :=
 postW_of (r:=l.row.toRowW) (X:=(true==true))
  (show WShape.has [] (.bool true) .bool=true by first | rfl | decide | simp[WShape.has,WShape.arms,WShape.armsAll])
  (show(WTm.eq .res (.lit (.bool true))).value [] { args:=args,res:=some (.bool true),after:=args}=some (.bool (true==true))from w_eq_bool (w_res rfl) w_lit) rfl
theorem attach_call {l:OpenLaw}{n:Nat}{q:Program}{loose:List Str}{XP:(Str->Option Value)->Heap->Prop}{YP:World->Heap->Prop}{d:DefRec}
 (hn:l.most=some n) (hdf:d.params.defaults=[])
 (call:∀(w:World) (s₀ s₁:Shared) (mg mb:Str->Option Value) (fa:Addr) (o:Obj) (pm cd doc:Value) (a:Addr) (vs:List Value) (ns:List Int),
   Ground q loose [] XP w s₀ mg mb s₁.heap->YP w s₁.heap ->
   s₁.heap.get? fa=some o->o.data=.func (docDef d.name d.params d.body d.scope pm cd doc)->s₁.heap.CodeRec cd d.name->mg d.name=some (.ref fa) ->
   s₁.heap.get? a=some { cls:=.type "list",data:=.seq vs.toArray}->IntsAre vs ns->ns.length<=n->s₁.gens=#[] ->
   codeAny (model l.prog w) callerA (.call (.ref fa) ⟨[.ref a],[]⟩) (fun r s'=>r=.ok (.ret (.bool true))/\OldK s₁.heap s'.heap/\s'.os=s₁.os/\AllBare s'.gens) s₁) :
 WalkO q loose XP YP l.row.toRowW d [] (fun f vs=>PySem.call f vs):=by
 intro w s₀ s₁ mg mb G Y fa o pm cd doc dV kV ho hd xh hD hmg hg args vals as hpre hlay hrd hwl hlo
 obtain rfl:dV=.none:=Dflts.none hD hdf
 obtain rfl:kV=.none:=Dflts.noKw hD
 obtain⟨a,vs,ns,rfl,rfl,hobj,hints,hlen⟩:=script_of hn hpre hwl
 refine enter_call (codeAny_mono (call w s₀ s₁ mg mb fa o pm cd doc a vs ns G Y ho (fd_plain hd) xh hmg hobj hints hlen hg) fun r s' hq=>?_)
 obtain⟨rfl,h2,h3,h4⟩:=hq
 exact⟨.inl ⟨.bool true,.bool true,[],rfl,fun _=>rfl,.bool true,post_true l _,fun _=>⟨List.Pairwise.nil,fun _ hm=>(nomatch hm)⟩⟩,h2,h3,h4⟩
end Att
namespace L2
open PySem PySem.Spec PyProof.Rows
theorem vals_ints {vs:List Value}{ns:List Int}(h:IntsAre vs ns):Vals (ns.map V.int) vs:=by
 induction h with
 | nil=>exact .nil
 | cons n t h ih=>exact .cons ⟨t,rfl⟩ ih
def Only (H:Hp):Prop:=∀ b,H b=none\/∃ o xs,H b=some (.kI o (.lst xs))
theorem law_call {P:Program}{w:World}{K:PySem.W.Frag}{mg mb:Str->Option Value}{CX:CXT}{k:Nat}{fa a:Addr}{fd:FuncData}{x:Str}{sp:Sp}{s₁:Shared}{vs:List Value}{ns:List Int}
 (KX:K.In s₁.heap) (hns:s₁.heap.Ns mainGlobals mg) (hb:s₁.heap.Ns builtinsNs mb) (hbb:∀ x:Str,x ≠ "__name__"->mb x=bootBuiltins x) (hlim:s₁.heap.NoLimit) (hg:s₁.gens=#[])
 (ha:s₁.heap.get? a=some { cls:=.type "list",data:=.seq vs.toArray}) (hi:IntsAre vs ns) (hl:ns.length<=sizeLine) (hr:gD k callerA)
 (F:∀ base:Heap,K.In base->base.Ns mainGlobals mg->d7 P w K mg base CX k fa fd [x] sp) (hbind:∀(s:Shared) (u:Value),BindsTo s fd ⟨[u],[]⟩ [(x,u)])
 (hsp:∀ H:Hp,Only H->oW K H a (ns.map V.int)->sp [.ref a] H (fun v _=>v=.bl true) fun _ _ _=>False)
 (hCX:∀ H e s',CX [] H s₁ (fun _ _ _=>False) e s'->False) :
 codeAny (model P w) callerA (.call (.ref fa) ⟨[.ref a],[]⟩) (fun r s'=>r=.ok (.ret (.bool true))/\OldK s₁.heap s'.heap/\s'.os=s₁.os/\AllBare s'.gens) s₁:=by
 have rv:=vals_ints hi
 have lenV:=hi.length
 have core:∀ H:Hp,Only H->oW K H a (ns.map V.int)->nu P w H s₁.heap->(∀ b,H b≠none->b=a)->(H a≠none->K.lookup a=none) ->
  codeAny (model P w) callerA (.call (.ref fa) ⟨[.ref a],[]⟩) (fun r s'=>r=.ok (.ret (.bool true))/\OldK s₁.heap s'.heap/\s'.os=s₁.os/\AllBare s'.gens) s₁:=by
  intro H hO hS dZ hA hK
  have base_of:∀ {b:Addr} {o:Obj},s₁.heap.get? b=some o->H b=none->(zi s₁.heap H).get? b=some o:=fun e n=>hidT_get e n
  have noA:∀ {b:Addr} {o:Obj} {es:Array DictEntry} {ep:Nat},s₁.heap.get? b=some o->o.data=.dict es ep->H b=none:=fun {b o es ep} e d=>by
   cases q:H b with
   | none=>rfl
   | some u =>
    have e':b=a:=hA b (by rw[q];simp)
    subst e'
    rw[ha]at e;cases e
    have d':Data.seq vs.toArray _=Data.dict es ep:=d
    cases d'
  have nsK:∀ {b:Addr} {m:Str->Option Value},s₁.heap.Ns b m->(zi s₁.heap H).Ns b m:=fun {b m} qk=>by obtain⟨o,es,ep,e,d,r⟩:=qk;exact⟨o,es,ep,base_of e (noA e d),d,r⟩
  have hKb:K.In (zi s₁.heap H):=fun b o e=>base_of (KX b o e) (by
   cases q:H b with
   | none=>rfl
   | some u =>
    have e':b=a:=hA b (by rw[q];simp)
    subst e'
    rw[hK (by rw[q];simp)]at e;cases e)
  have hM:Mod K mg (zi s₁.heap H):=⟨hKb,nsK hns,⟨mb,nsK hb,hbb⟩,let ⟨mc,h1,h2⟩:=hlim;⟨mc,nsK h1,h2⟩⟩
  have e0:z9 P w K mg (zi s₁.heap H) callerA [] s₁ H:=⟨rfl,hM,fun b o e=>of_hidT e,Nat.le_of_eq (hidT_size _ _),trivial,fun b hb=>absurd (show b∈([]:List Addr)from hb) (by simp),dZ,.of_eq hg⟩
  refine codeAny_mono ((F _ hKb (nsK hns)).run callerA [] s₁ H ⟨[.ref a],[]⟩ [.ref a] [.ref a] _ _ hr e0 (hbind s₁ (.ref a)) (.cons rfl .nil) (hsp H hO hS)) fun r s' h=>?_
  cases r with
  | error e=>exact(hCX H e s' h).elim
  | ok fl =>
   cases fl with
   | next=>exact False.elim h
   | brk=>exact False.elim h
   | cont=>exact False.elim h
   | ret u =>
    obtain⟨v,H',os,bare,un,hok',r',q⟩:=h
    have q':v=.bl true:=q
    subst q'
    obtain rfl:u=Value.bool true:=r'
    refine⟨rfl,OldK.of_keep fun b o e=>?_,os,bare⟩
    cases q:H b with
    | none=>exact un.keep b o e q (by intro z;exact absurd (show b∈([]:List Addr)from z) (by simp)) (by simp)
    | some u =>
     rcases hO b with z | ⟨ob,xs,z⟩
     ·rw[q]at z;cases z
     ·have z2:=un.nQ b ob _ z
      obtain⟨e1,_⟩:=dZ b _ z
      obtain⟨e2,_⟩:=hok' b _ z2
      rw[e]at e1;cases e1
      exact e2
 cases hk:K.lookup a with
 | some o =>
  have e:=KX a o hk
  rw[ha]at e
  cases e
  refine core (fun _=>none) (fun _=>.inl rfl) (.inr ⟨_,vs.toArray,_,hk,rfl,rfl,rfl,by rw[au,lenV];exact hl,by simpa using rv⟩) (fun b u z=>by have z':(none:Option HO)=some u:=z;cases z') (fun b z=>absurd rfl z) fun z=>absurd rfl z
 | none =>
  refine core (fun b=>if b=a then some (.kI { cls:=.type "list",data:=.seq vs.toArray} (.lst (ns.map V.int)))else none) (fun b=>?_) (.inl (.inr ⟨{ cls:=.type "list",data:=.seq vs.toArray},ag rfl⟩)) (fun b u z=>?_) (fun b z=>?_) fun _=>hk
  ·by_cases hb:b=a
   ·exact .inr ⟨_,_,ag hb⟩
   ·exact .inl (ae hb)
  ·by_cases hb:b=a
   ·have z':=(ag hb).symm.trans z
    cases z'
    subst hb
    exact⟨ha,by rw[fg];exact hl,vs,_,rv,ha⟩
   ·have z':=(ae hb).symm.trans z
    cases z'
  ·by_cases hb:b=a
   ·exact hb
   ·exact absurd (ae hb) z
theorem walk_of {l:PySem.W.OpenLaw}{n k:Nat}{q:Program}{loose:List Str}{XP:(Str->Option Value)->Heap->Prop}{YP:World->Heap->Prop}{d:DefRec}{K:Params->PySem.W.Frag}{CX:World->CXT}{sp:World->Sp}{x:Str}
 (hn:l.most=some n) (hn2:n<=sizeLine) (hdf:d.params.defaults=[]) (hr:gD k callerA)
 (hY:∀(w:World) (h:Heap),YP w h->(K w.params).In h)
 (F:∀(w:World) (mg:Str->Option Value) (fa:Addr) (h:Heap),(K w.params).In h->h.Ns mainGlobals mg->mg d.name=some (.ref fa) ->
   ∃ fd:FuncData,(∀(s:Shared) (u:Value),BindsTo s fd ⟨[u],[]⟩ [(x,u)]) /\
    ∀ base:Heap,(K w.params).In base->base.Ns mainGlobals mg->d7 l.prog w (K w.params) mg base (CX w) k fa fd [x] (sp w))
 (hsp:∀(w:World) (H:Hp) (a:Addr) (ns:List Int),ns.length<=n->Only H->oW (K w.params) H a (ns.map V.int)->sp w [.ref a] H (fun v _=>v=.bl true) fun _ _ _=>False)
 (hCX:∀(w:World) (H:Hp) (s:Shared) (e:Value) (s':Shared),CX w [] H s (fun _ _ _=>False) e s'->False) :
 PySem.W.WalkO q loose XP YP l.row.toRowW d [] (fun f vs=>PySem.call f vs):=by
 refine Att.attach_call hn hdf fun w s₀ s₁ mg mb fa o pm cd doc a vs ns G Y ho hd xh hmg hobj hints hlen hg=>?_
 have KX:=hY w _ Y
 obtain⟨fd,hb,hF⟩:=F w mg fa _ KX G.T.g hmg
 exact law_call KX G.T.g G.T.b G.T.builtins G.T.nolimit hg hobj hints (ar hlen hn2) hr hF hb (fun H hO hS=>hsp w H a ns hlen hO hS) fun H e s'=>hCX w H s₁ e s'
def gU (s:Stmt):Arguments:=match s with
 | .FunctionDef _ a _ _ _ _ _ _ _ _=>a
 | _=>{ posonlyargs:=[],args:=[],vararg:=none,kwonlyargs:=[],kw_defaults:=[],kwarg:=none,defaults:=[]}
def gg (s:Stmt):List Stmt:=match s with
 | .FunctionDef _ _ b _ _ _ _ _ _ _=>b
 | _=>[]
def dn (s:Stmt):Scope:=match s with
 | .FunctionDef _ _ _ _ _ _ sc _ _ _=>sc
 | _=>{ kind:=.function,names:=[],isGenerator:=false,isCoroutine:=false}
abbrev jr:CXT:=fun _ _ _ _ _ _=>False
abbrev E0:XK:=fun _ _ _=>False
theorem pass0 {X:Cx}:Passes jr X E0:=fun _ _ _ _ _ _ _ h=>h.elim
structure gG (K:PySem.W.Frag)(x qual:Str)(st:Stmt)(f:Addr)(fd:FuncData):Prop where
 ex:∃(oc:Value) (od:Option Addr) (kV doc pm:Value) (an:Option Addr) (fI ct:Value) (osl:Array (Option Value)),
  fd=PySem.W.fnOf x qual (gU st) (gg st) (dn st) .none kV doc pm an fI ct/\K.lookup f=some ⟨oc,od,.func fd,osl⟩/\PySem.W.codeIn K fI qual=true
 kp:PySem.W.keepIn K (.ref f)=true
section
variable {P:Program}{w:World}{K:PySem.W.Frag}{mg:Str->Option Value}{base:Heap}
theorem gG.ok {x qual:Str}{st:Stmt}{f:Addr}{fd:FuncData}{N ps:List Str}{k:Nat}{sp:Sp}(F:gG K x qual st f fd)(S:dz N ps (dn st))(len:∀ vs H Q E,sp vs H Q E->vs.length=ps.length)
 (oG:∀(fI:Value) (A:Around) (outer:List Env) (s:Shared) (H:Hp) (vs:List V) (Q:VK) (E:XK),gD k (A.deeper (envOfC qual (dn st) s.heap.objs.size f fI))->sp vs H Q E ->
   ∃ t,zX (nR jr P w K mg base N qual (dn st) f fI A outer s H E).nox (gg st) t/\t { nx:=fun _ H'=>Q .fH H',rt:=Q} (start N vs) H):d7 P w K mg base jr (k+1) f fd ps sp:=by
 obtain⟨oc,od,kV,doc,pm,an,fI,ct,osl,rfl,lk,xh⟩:=F.ex
 refine fn_of lk xh S len fun A outer s H vs Q E hr hsp=>?_
 obtain⟨t,h,q⟩:=oG fI A outer s H vs Q E hr hsp
 exact⟨t,h.nox,q⟩
theorem gG.binds {x qual:Str}{st:Stmt}{f:Addr}{fd:FuncData}{ps:List Str}(F:gG K x qual st f fd)
 (h:∀(kV doc pm:Value) (an:Option Addr) (fI ct:Value) (us:List Value),us.length=ps.length->bindArgs (PySem.W.fnOf x qual (gU st) (gg st) (dn st) .none kV doc pm an fI ct) ⟨us,[]⟩=pure (ps.zip us)):Binds K fd ps []:=by
 obtain⟨oc,od,kV,doc,pm,an,fI,ct,osl,rfl,lk,xh⟩:=F.ex
 exact .all (h kV doc pm an fI ct)
theorem fun_mk {x qual:Str}{st:Stmt}{f:Addr}{oc:Value}{od an:Option Addr}{osl:Array (Option Value)}{kV doc pm fI ct:Value}(l:K.lookup f=some ⟨oc,od,.func (PySem.W.fnOf x qual (gU st) (gg st) (dn st) .none kV doc pm an fI ct),osl⟩)
 (c:PySem.W.codeIn K fI qual=true) (k:PySem.W.keepIn K (.ref f)=true):gG K x qual st f (PySem.W.fnOf x qual (gU st) (gg st) (dn st) .none kV doc pm an fI ct):=⟨⟨oc,od,kV,doc,pm,an,fI,ct,osl,rfl,l,c⟩,k⟩
end
theorem fe {A:Around}{k:Nat}(hr:gD k A):A.units+1<cLine:=bX (Nat.add_le_add_left (by decide:1<=64) _) hr.units
section
variable {X:Cx}
theorem pv (i:Nat){x:Str}{pos:Pos}(hN:X.N[i]?=some x:=by rfl)(hv:Vis X.env.scope x:=by first | exact Or.inl rfl | exact Or.inr (Or.inl rfl) | exact Or.inr (Or.inr rfl))(hd:(x==("__debug__" : Str))=false:=by decide)
 (xh:(x==("__classdict__" : Str))=false:=by decide):PE X (.Name x pos) (tVar i):=yV hN hv hd xh
end
def gd (H H':Hp):Prop:=∀ b o,H b=some o->H' b=some o
theorem gd.refl (H:Hp):gd H H:=fun _ _ h=>h
theorem gd.trans {H H1 H2:Hp}(a:gd H H1)(b:gd H1 H2):gd H H2:=fun c o h=>b c o (a c o h)
theorem gd.free {H H':Hp}(e:gd H H'){l:Addr}(h:H' l=Option.none):H l=Option.none:=by
 cases q:H l with
 | none=>rfl
 | some o =>
  rw[e l o q]at h
  cases h
end L2
namespace L2
open PySem PySem.W PyProof.Rows
noncomputable abbrev twRun:=Fast.tw14082659384304107361
noncomputable abbrev uR:=Fast.tw14364793385576792824
noncomputable abbrev twSeen:=Fast.tw4187177175401517315
noncomputable abbrev S00 (w:World)(os:OsState):Shared:=⟨boot_heap w.params,#[],boot_drawn,boot_toks,os⟩
theorem boot_size (P:Params):((boot_heap P).isNs mainGlobals,(boot_heap P).objs.size,(boot_heap P).nsMap mainGlobals "__annotations__")=(true,11,some (.ref 6)):=by kernel_rfl
theorem left_of {p q:Program}{loose:List Str}{Xt:Shared->Bool}{α:Type}{Yf:Shared->α}{Ya:World->α}{N M:Nat}
 (e:opening p=plainProg p.main.scope.names) (hN:Nat.ble 600 N=true) (f:∀ s,fenceModules? p s=some s) (le:Nat.ble M N=true)
 (h:∀(w:World) (os:OsState),(twRun uR p w 11 (some (.ref 6)) M (S00 w os) (topStub p)).map (fun s =>
   (staticsOk (importedModules p.main.body) (boot_heap w.params) s.heap&&namesBound p s.heap&&gensDone s&&laidKept (boot_heap w.params) s.heap,twSeen q loose (importedModules p.main.body) Xt true s,Yf s))=some (true,openGood q loose,Ya w)) :
 LeftO p q loose Xt Yf Ya N:=fun w=>by
 obtain⟨⟨h0,gs,d,k,os⟩,e1,e2⟩:=Option.map_eq_some_iff.mp (boot_open e hN f w)
 obtain⟨rfl,rfl,rfl,rfl⟩:h0=boot_heap w.params/\gs=#[]/\d=boot_drawn/\k=boot_toks:=by simpa using e2
 have b:=boot_size w.params
 simp only[Prod.mk.injEq]at b
 obtain⟨s1,r,e3⟩:=Option.map_eq_some_iff.mp (h w os)
 simp only[Prod.mk.injEq]at e3
 have r':topRun treeTable p w 11 (some (.ref 6)) M (S00 w os) (topStub p)=some s1:=by
  rw[show topRun=twRun from Fast.te14082659384304107361,show treeTable=uR from Fast.te14364793385576792824];exact r
 have r2:=topRun_mono (N - M) _ _ _ _ r'
 rw[show M+(N - M)=N by have:=Nat.le_of_ble_eq_true le;omega]at r2
 have t:topFrom treeTable p w N ⟨boot_heap w.params,#[],boot_drawn,boot_toks,os⟩=some s1:=by
  unfold topFrom
  dsimp only
  rw[b.1,b.2.1,b.2.2,r2]
  show(match staticsOk (importedModules p.main.body) (boot_heap w.params) s1.heap&&namesBound p s1.heap&&gensDone s1&&laidKept (boot_heap w.params) s1.heap with | true=>_ | false=>_)=_
  rw[e3.1]
 unfold openEnds
 rw[e1]
 show(topFrom treeTable p w N _).map _=_
 rw[t]
 refine bI some (Prod.ext ?_ e3.2.2)
 rw[<- e3.2.1]
 exact congrFun (congrFun (congrFun (congrFun (congrFun (congrFun Fast.te4187177175401517315 q) loose) (importedModules p.main.body)) Xt) true) s1
def hX (P:Params)(x:Str)(t:Nat)(v:Value):DictEntry:=⟨PyData.keyHash P x,.str x t,v⟩
def mainO (P:Params)(nm:Str)(t:Nat)(es:List (Str×Nat×Value)):Obj:=⟨.type "dict",none,.dict ((([("__name__",165,.str nm t),("__doc__",166,.none),("__package__",167,.none),("__loader__",168,.builtin "__main__.__loader__#opaque"),("__spec__",169,.none),("__annotations__",170,.ref 6),("__builtins__",171,.ref 4),("__file__",173,.str "/claim/cut.py" 172),("__cached__",174,.none)]:List (Str×Nat×Value))++es).map fun e=>hX P e.1 e.2.1 e.2.2).toArray (es.length+9),#[]⟩
abbrev sS (x:String):Str:=Str.ofString x
abbrev me (x:String)(t:Nat)(v:Value):Str×Nat×Value:=(Str.ofString x,t,v)
abbrev ko (a:Addr)(o:Obj):Addr×Obj:=(a,o)
abbrev sr (a:Addr):Option (Option Value):=some (some (.ref a))
abbrev sn:Option (Option Value):=some none
def fnQ (x q:Str)(s:Stmt)(pm:Value)(c:Addr):Obj:=⟨.type "function",none,.func (fnOf x q (gU s) (gg s) (dn s) .none .none .none pm none (.ref c) .none),#[]⟩
def coQ (x q:Str)(t l a r1 r2:Nat)(v1 v2:Value)(r3 t2:Nat):Obj:=⟨.type "code",none,.fields #[.str x t,.str q (t+1),.str "/claim/cut.py" (t+2),.int l 0,.int a 0,.int 0 0,.int 0 0,.int 3 0,.ref r1,.bool true,.int 181 0,.ref r2,.none,v1,v2,.ref r3,.int t2 0,.int l 0,.str "/claim/cut.py" (t2+1)],#[]⟩
theorem fun_of {K:Frag}{x q:Str}{s:Stmt}{f c:Addr}{pm:Value}(l:K.lookup f=some (fnQ x q s pm c):=by kernel_rfl)(c':codeIn K (.ref c) q=true:=by kernel_rfl)(k:keepIn K (.ref f)=true:=by kernel_rfl):gG K x q s f (fnOf x q (gU s) (gg s) (dn s) .none .none .none pm none (.ref c) .none):=fun_mk l c' k
theorem bn1 {α:Type}{P:List α->Prop}(h:∀ a,P [a])(us:List α)(e:us.length=1):P us:=by
 obtain⟨a,rfl⟩:=List.length_eq_one_iff.mp e
 exact h a
theorem bnS {α:Type}{P:List α->Prop}{n:Nat}(h:∀ a us,us.length=n->P (a::us))(us:List α)(e:us.length=n+1):P us:=by
 cases us with
 | nil=>cases e
 | cons a us=>exact h a us (Nat.succ.inj e)
def clsBody (s:Stmt):List Stmt:=match s with
 | .ClassDef _ _ _ b _ _ _ _ _ _ _=>b
 | _=>[]
def defPos (s:Stmt):Pos:=match s with
 | .FunctionDef _ _ _ _ _ _ _ _ _ p=>p
 | _=>⟨0,0,0,0⟩
end L2
namespace L2
open PySem PySem.Spec PyProof.Rows
def je (cells:List (Str×Addr)):List (Str×NameKind)->List (Str×Addr)->List (Str×Addr)
 | [],acc=>acc
 | (n,k)::r,acc=>if k==.free then je cells r ((n,(cells.lookup n).getD 0)::acc)else je cells r acc
theorem qc {env:Env}(f:Str×NameKind->List (Str×Addr)->Sem (ForInStep (List (Str×Addr))))
 (hf:∀ n k cs,f (n,k) cs=if k==.free then(do let a <- cellOf env n;pure (.yield ((n,a)::cs)))else pure (.yield cs)) :
 ∀(names:List (Str×NameKind)) (acc:List (Str×Addr)),(∀ y∈names,y.2=.free->∃ c,env.cells.lookup y.1=some c) ->
  forIn names acc f=pure (je env.cells names acc)
 | [],acc,_=>by rw[List.forIn_nil];rfl
 | (n,k)::r,acc,h=>by
  rw[List.forIn_cons,hf]
  unfold je
  have hr:∀ y∈r,y.2=.free->∃ c,env.cells.lookup y.1=some c:=fun y hy=>h y (mZ _ hy)
  by_cases hk:(k==NameKind.free)=true
  ·rw[ag hk,ag hk]
   obtain⟨c,hc⟩:=h (n,k) aw (by simpa using hk)
   have sD:env.cells.lookup n=some c:=hc
   have e:cellOf env n=pure c:=by unfold cellOf;rw[sD]
   rw[e,sD,pure_bind,pure_bind]
   exact qc f hf r _ hr
  ·rw[ae hk,ae hk,pure_bind]
   exact qc f hf r _ hr
theorem jJ {scope:Scope}{env:Env}(h:∀ y∈scope.names,y.2=.free->∃ c,env.cells.lookup y.1=some c):closureFor scope env=pure (je env.cells scope.names []):=by
 simp only[closureFor]
 rw[qc (env:=env) _ (fun n k cs=>by
  by_cases hk:(k==NameKind.free)=true
  ·simp only[hk,if_true]
  ·simp only[Bool.not_eq_true]at hk;simp only[hk,c4,if_false]) scope.names [] h]
 rfl
theorem m9 {cells:List (Str×Addr)}:∀ {names:List (Str×NameKind)} {acc:List (Str×Addr)},(∀ y∈names,y.2=.free->∃ c,cells.lookup y.1=some c) ->
 ∀ n c,(n,c)∈je cells names acc->(n,c)∈acc\/cells.lookup n=some c
 | [],acc,_,n,c,h=>.inl h
 | (m,k)::r,acc,hf,n,c,h=>by
  unfold je at h
  have hr:∀ y∈r,y.2=.free->∃ c,cells.lookup y.1=some c:=fun y hy=>hf y (mZ _ hy)
  split at h
  ·rename_i hk
   rcases m9 hr n c h with h | h
   ·rcases List.mem_cons.mp h with e | h
    ·cases e
     obtain⟨c,hc⟩:=hf (m,k) aw (by simpa using hk)
     have sD:cells.lookup m=some c:=hc
     exact .inr (by rw[sD];rfl)
    ·exact .inl h
   ·exact .inr h
  ·exact m9 hr n c h
theorem qd {cells:List (Str×Addr)}:∀(names:List (Str×NameKind)) (acc:List (Str×Addr)) (n:Str),(acc.lookup n).isSome=true->((je cells names acc).lookup n).isSome=true
 | [],acc,n,h=>h
 | (m,k)::r,acc,n,h=>by
  unfold je
  split
  ·refine qd r _ n ?_
   rw[cI]
   cases n==m
   ·exact h
   ·rfl
  ·exact qd r _ n h
theorem nc {cells:List (Str×Addr)}:∀(names:List (Str×NameKind)) (acc:List (Str×Addr)) (n:Str),(n,NameKind.free)∈names->((je cells names acc).lookup n).isSome=true
 | (m,k)::r,acc,n,h=>by
  unfold je
  rcases List.mem_cons.mp h with e | h
  ·cases e
   refine qd r _ m ?_
   simp
  ·split
   ·exact nc r _ n h
   ·exact nc r _ n h
theorem jL:∀(names:List (Str×NameKind)) (n:Nat) (a b:List (Str×Addr)),cellsFrom n names (a++b)=cellsFrom n names a++b
 | [],_,_,_=>rfl
 | (m,k)::r,n,a,b=>by
  unfold cellsFrom
  split
  ·exact jL r (n+1) ((m,n)::a) b
  ·exact jL r n a b
theorem lA {M:Model}{A:Around}{E:Value->Shared->Prop}{s:Shared}{scope:Scope}{cl:List (Str×Addr)}{env:Env}{Q:Env->Shared->Prop}
 (h:Q (newEnv scope s.heap.objs.size env.globals (cellsFrom (s.heap.objs.size+1) scope.names cl) env.qual none .none (some env) builtinsNs) { s with heap:=pushCells (s.heap.push { cls:=.type "dict",data:=.dict #[]}) scope.names}) :
 wpAny M A (newFunctionEnv scope env.globals cl [] env.qual none .none (some env)) Q E s:=by
 simp only[newFunctionEnv,Option.isSome_some,if_true]
 refine dY (wpAny_alloc ?_)
 refine dY (wpAny_layCells _ (fun name kind cells=>by cases hkc:kind==NameKind.cell <;> simp[hkc]) _ _ _ _ ?_)
 rw[show({ s with heap:=s.heap.push { cls:=.type "dict",data:=.dict #[]}}:Shared).heap.objs.size=s.heap.objs.size+1 from a6 ..]
 rw[List.forIn_nil]
 exact dY (aj (aj h))
def ft (js:List (Option Nat))(σ:St):St:=js.map fun o=>o.bind fun j=>(σ[j]?).join
def zN (XN:List Str)(xsc:Scope)(N:List Str)(js:List (Option Nat))(sc:Scope):Bool :=
 (sc.kind==.function)&&(sc.names.all fun y=>(y.2 != .local)||(sc.names.lookup y.1==some .local)) &&
 (sc.names.all fun y=>(y.2 != .free)||(xsc.names.lookup y.1==some .cell)||(xsc.names.lookup y.1==some .free)) &&
 (js.length==N.length)&&decide N.Nodup &&
 ((N.zip js).all fun p=>match p.2 with
   | none=>true
   | some j=>XN[j]?==some p.1&&sc.names.contains (p.1,NameKind.free)&&sc.names.lookup p.1==some .free&&!(sc.names.contains (p.1,NameKind.cell)))
structure gT (X:Cx)(N:List Str)(js:List (Option Nat))(sc:Scope):Prop where
 kind:sc.kind=.function
 loc:∀ y∈sc.names,y.2=.local->sc.names.lookup y.1=some .local
 free:∀ y∈sc.names,y.2=.free->X.env.kindOf y.1=some .cell\/X.env.kindOf y.1=some .free
 len:js.length=N.length
 nd:N.Nodup
 slot:∀(i:Nat) (x:Str) (j:Nat),N[i]?=some x->js[i]?=some (some j)->X.N[j]?=some x/\(x,NameKind.free)∈sc.names/\sc.names.lookup x=some .free/\(x,NameKind.cell)∉sc.names
theorem compOk {X:Cx}{XN:List Str}{xsc:Scope}{N:List Str}{js:List (Option Nat)}{sc:Scope}(h:zN XN xsc N js sc=true)(hN:X.N=XN:=by rfl)(hs:X.env.scope=xsc:=by rfl):gT X N js sc:=by
 subst hN;subst hs
 unfold zN at h
 simp only[aL,cn,Bool.or_eq_true,bne_iff_ne,beq_iff_eq,ba]at h
 obtain⟨⟨⟨⟨⟨h1,h2⟩,h3⟩,h4⟩,h5⟩,h6⟩:=h
 refine⟨h1,fun y hy e=>(h2 y hy).resolve_left fun z=>z e,fun y hy e=>?_,h4,h5,fun i x j e1 e2=>?_⟩
 ·rcases h3 y hy with(z | z) | z
  ·exact absurd e z
  ·exact .inl z
  ·exact .inr z
 ·have hm:(x,some j)∈N.zip js:=List.mem_iff_getElem?.mpr ⟨i,by rw[List.getElem?_zip_eq_some];exact⟨e1,e2⟩⟩
  have q:=h6 _ hm
  simp only[aL,beq_iff_eq,List.contains_iff_mem,Bool.not_eq_true',List.contains_eq_mem,ba,decide_eq_false_iff_not]at q
  exact⟨q.1.1.1,q.1.1.2,q.1.2,q.2⟩
theorem jK:∀(names:List (Str×NameKind)) (n:Nat) (acc:List (Str×Addr)) (x:Str) (c:Addr),(x,c)∈cellsFrom n names acc->(x,NameKind.cell)∈names\/(x,c)∈acc
 | [],_,_,_,_,h=>.inr h
 | (m,k)::r,n,acc,x,c,h=>by
  unfold cellsFrom at h
  split at h
  ·rename_i hk
   rcases jK r _ _ x c h with h | h
   ·exact .inl (mZ _ h)
   ·rcases List.mem_cons.mp h with e | h
    ·cases e
     have hk':k=NameKind.cell:=by simpa using hk
     exact .inl (by rw[hk'];exact aw)
    ·exact .inr h
  ·rcases jK r _ _ x c h with h | h
   ·exact .inl (mZ _ h)
   ·exact .inr h
theorem tu {α β:Type}(g:Str->α->β):∀(l:List (Str×α)) (x:Str),(l.map fun p=>(p.1,g p.1 p.2)).lookup x=(l.lookup x).map (g x)
 | [],_=>rfl
 | (n,k)::r,x=>by
  rw[ah,cI,cI]
  cases hb:x==n with
  | true=>rw[beq_iff_eq.mp hb];rfl
  | false=>exact tu g r x
def sf (env:Env)(x:Str)(k:NameKind):NameKind:=if(k==.free&&env.scope.kind==.function&&env.kindOf x==some .cell)then .cell else k
theorem jb {sc:Scope}{env:Env}{x:Str}:(relabel sc env).names.lookup x=(sc.names.lookup x).map (sf env x):=by
 rw[<- tu]
 unfold relabel
 congr 1
 refine bV fun p _=>?_
 obtain⟨n,k⟩:=p
 show(if _ then _ else _)=(n,sf env n k)
 unfold sf
 split <;> rfl
theorem relK_vis {env:Env}{x:Str}{k:NameKind}(h:sf env x k=.cell\/sf env x k=.free):k=.cell\/k=.free:=by
 unfold sf at h
 split at h
 ·rename_i q
  simp only[aL,beq_iff_eq]at q
  exact .inr q.1.1
 ·exact h
theorem xy {env:Env}{x:Str}:sf env x .free=.cell\/sf env x .free=.free:=by
 unfold sf
 split
 ·exact .inl rfl
 ·exact .inr rfl
def kR (sc:Scope)(C:Addr)(env:Env):Env where
 scope:=relabel sc env
 locals:=C
 globals:=env.globals
 cells:=cellsFrom (C+1) sc.names (je env.cells sc.names [])
 qual:=env.qual
 func:=none
 code:=env.code
 frame:=env.frame
 builtins:=env.builtins
def ky (X:Cx)(N:List Str)(sc:Scope)(fp:List Addr)(s:Shared)(H:Hp):Cx where
 prog:=X.prog
 w:=X.w
 K:=X.K
 mg:=X.mg
 base:=X.base
 A:=X.A
 N:=N
 s₀:=s
 H₀:=H
 env:=kR sc (s.heap.objs.size+1) X.env
 outer:=X.stack
 stack:=X.stack
 ex:=fp
 fn:=fun x=>sc.names.lookup x==some .cell
 calm:=X.calm
 pn:=[]
 xe:=fun _ _=>False
def qZ (sc:Scope)(h:Heap):Heap:=pushCells ((h.push { cls:=.type "list",dict:=none,data:=.seq ([]:List Value).toArray}).push { cls:=.type "dict",data:=.dict #[]}) sc.names
theorem tI {sc:Scope}{h:Heap}:∀ b o,h.get? b=some o->(qZ sc h).get? b=some o:=fun b o e=>cP _ _ b o (iV _ (iV _ e))
theorem heapC_acc {sc:Scope}{h:Heap}:(qZ sc h).get? h.objs.size=some { cls:=.type "list",dict:=none,data:=.seq ([]:List Value).toArray} :=
 cP _ _ _ _ (iV _ (av _ rfl))
theorem vK {js:List (Option Nat)}{σ:St}{i:Nat}{v:V}(h:(ft js σ)[i]?=some (some v)):∃ j,js[i]?=some (some j)/\σ[j]?=some (some v):=by
 unfold ft at h
 rw[tK]at h
 cases e:js[i]? with
 | none=>rw[e]at h;cases h
 | some o =>
  rw[e]at h
  cases o with
  | none=>cases h
  | some j =>
   refine⟨j,rfl,?_⟩
   have h':(σ[j]?).join=some v:=aK h
   cases q:σ[j]? with
   | none=>rw[q]at h';cases h'
   | some z=>rw[q]at h';have:z=some v:=h';rw[this]
section
variable {X:Cx}{pins:List (Addr×Obj)}{σ:St}{H:Hp}{s:Shared}{N:List Str}{js:List (Option Nat)}{sc:Scope}{fp:List Addr}
theorem inv_comp (I:Inv X pins σ H s)(hc:gT X N js sc)(hf:∀ b∈fp,ny X pins H b)(ho:∀ b∈fp,∃ o,s.heap.get? b=some o)(tk:Nat) :
 Inv (ky X N sc fp s H) [] (ft js σ) H { s with heap:=qZ sc s.heap,toks:=tk}:=by
 have hC:(s.heap.push { cls:=.type "list",dict:=none,data:=.seq ([]:List Value).toArray}).objs.size=s.heap.objs.size+1:=a6 ..
 have freeX:∀ y∈sc.names,y.2=.free->∃ c,X.env.cells.lookup y.1=some c:=fun y hy e=>I.ok.has y.1 (hc.free y hy e)
 have ok:=cellsFrom_ok sc.names ((s.heap.push { cls:=.type "list",dict:=none,data:=.seq ([]:List Value).toArray}).push { cls:=.type "dict",data:=.dict #[]}) (s.heap.objs.size+1+1) [] ⟨fun _ _ hm=>(nomatch hm),List.Pairwise.nil⟩
  (by rw[a6,hC];exact aa _)
 rw[a6,hC]at ok
 have eC:(kR sc (s.heap.objs.size+1) X.env).cells=cellsFrom (s.heap.objs.size+1+1) sc.names []++je X.env.cells sc.names []:=jL sc.names _ [] _
 have lk:∀ x c,(kR sc (s.heap.objs.size+1) X.env).cells.lookup x=some c->(x,c)∈cellsFrom (s.heap.objs.size+1+1) sc.names []\/X.env.cells.lookup x=some c:=fun x c e=>by
  rw[eC]at e
  rcases List.mem_append.mp (mem_of_lookup e)with h | h
  ·exact .inl h
  ·rcases m9 freeX x c h with h | h
   ·cases h
   ·exact .inr h
 have big:∀(x:Str) (c:Nat),(x,c)∈cellsFrom (s.heap.objs.size+1+1) sc.names []->s.heap.objs.size+1+1<=c:=fun x c h=>(ok.empty x c h).2
 have small:∀(x:Str) (c:Nat),X.env.cells.lookup x=some c->c<s.heap.objs.size:=fun x c h=>let ⟨_,q⟩:=I.cell x c h;q.lt
 have has:∀ x,((kR sc (s.heap.objs.size+1) X.env).kindOf x=some .cell\/(kR sc (s.heap.objs.size+1) X.env).kindOf x=some .free)->∃ c,(kR sc (s.heap.objs.size+1) X.env).cells.lookup x=some c:=fun x h=>by
  have h':(relabel sc X.env).names.lookup x=some .cell\/(relabel sc X.env).names.lookup x=some .free:=h
  rw[jb]at h'
  rw[eC,cZ]
  cases q:sc.names.lookup x with
  | none=>rw[q]at h';rcases h' with h' | h' <;> cases h'
  | some k =>
   rw[q]at h'
   have hk:=relK_vis (env:=X.env) (x:=x) (k:=k) (h'.elim (fun z=>.inl (aK z)) fun z=>.inr (aK z))
   rcases hk with rfl | rfl
   ·obtain⟨c,sD⟩:=l9 (n:=s.heap.objs.size+1+1) q
    exact⟨c,by rw[sD];rfl⟩
   ·have z:=nc (cells:=X.env.cells) sc.names [] x (mem_of_lookup q)
    obtain⟨c,sD⟩:=Option.isSome_iff_exists.mp z
    cases q2:(cellsFrom (s.heap.objs.size+1+1) sc.names []).lookup x with
    | none=>exact⟨c,by rw[sD];rfl⟩
    | some d=>exact⟨d,rfl⟩
 have okY:(ky X N sc fp s H).Ok:=by
  refine⟨I.ok.mod,hc.kind,I.ok.glob,I.ok.blt,Nat.le_succ _,fun x y c h1 h2=>?_,has,fun x c hx h=>?_,I.ok.hd,I.ok.frames,.inl rfl,fun b hb=>⟨?_,fun x c h=>?_⟩,I.bs,ar I.ok.bsz I.sz,fun b o e hb=>?_,fun b hb hs=>?_,I.stack,I.o8⟩
  ·rcases lk x c h1 with g1 | g1 <;> rcases lk y c h2 with g2 | g2
   ·exact name_of_addr ok.apart g1 g2
   ·exact absurd (aq (small _ _ g2) (ar (aZ _ 2) (big _ _ g1))) (bt _)
   ·exact absurd (aq (small _ _ g1) (ar (aZ _ 2) (big _ _ g2))) (bt _)
   ·exact I.ok.inj x y c g1 g2
  ·have hx':sc.names.lookup x=some .cell:=by simpa [ky]using hx
   have h':(kR sc (s.heap.objs.size+1) X.env).cells.lookup x=some c:=h
   rw[eC,cZ]at h'
   obtain⟨c2,sD⟩:=l9 (n:=s.heap.objs.size+1+1) hx'
   rw[sD]at h'
   have e:c2=c:=aK h'
   subst e
   exact ar (aZ _ 2) (big _ _ (mem_of_lookup sD))
  ·obtain⟨o,e⟩:=ho b hb
   exact aB (bh (jj e))
  ·obtain⟨o,e⟩:=ho b hb
   have l:=jj e
   rcases lk x c h with g | g
   ·exact bg (aq l (ar (aZ _ 2) (big _ _ g)))
   ·exact(hf b hb).2.2.2.2.1 x c g
  ·rcases(hf b hb).2.2.2.1 with z | z
   ·exact I.ok.noex b o e z
   ·exact absurd (aq (jj e) (ar I.ok.bsz z)) (bt _)
  ·rcases List.mem_cons.mp (I.uT b hs)with z | z
   ·exact(hf b hb).2.1 z
   ·exact(hf b hb).2.2.1 z
 have qP:∀ b u,s.heap.get? b=some u->(qZ sc s.heap).get? b=some u:=tI
 have nsC:(qZ sc s.heap).Ns (s.heap.objs.size+1) fun _=>none:=by
  have q:=(Heap.Ns.new (s.heap.push { cls:=.type "list",dict:=none,data:=.seq ([]:List Value).toArray}) (.type "dict")).keeps (cP sc.names _)
  rw[hC]at q
  exact q
 refine⟨okY,rfl,I.bare,Un.kept qP,⟨_,nsC,fun i x v e1 e2 e3=>?_⟩,fun x c h=>?_,I.dZ.fresh (Nat.le_succ _),fun x c h=>?_,fun p hp=>absurd (show p∈([]:List (Addr×Obj))from hp) (by simp),I.dZ.kept qP,?_⟩
 ·obtain⟨j,hj,hv⟩:=vK e2
  obtain⟨g1,g2,g3,g4⟩:=hc.slot i x j e1 hj
  have kx:=hc.free _ g2 rfl
  obtain⟨m,hn,hl⟩:=I.loc
  obtain⟨u,r,l⟩:=hl j x v g1 hv (.inr kx)
  refine⟨u,r,?_⟩
  rcases l with⟨z,_⟩ | ⟨_,c,hcc,tJ⟩
  ·have z':X.env.kindOf x=some .local:=z
   rcases kx with k | k <;> (have k':X.env.kindOf x=_:=k;rw[z']at k';cases k')
  ·have kY:(kR sc (s.heap.objs.size+1) X.env).kindOf x=some .cell\/(kR sc (s.heap.objs.size+1) X.env).kindOf x=some .free:=by
    show(relabel sc X.env).names.lookup x=some .cell\/(relabel sc X.env).names.lookup x=some .free
    rw[jb,g3]
    rcases xy (env:=X.env) (x:=x)with q | q
    ·exact .inl (show some (sf X.env x .free)=_ by rw[q])
    ·exact .inr (show some (sf X.env x .free)=_ by rw[q])
   obtain⟨c',h'⟩:=has x kY
   refine .inr ⟨kY,c',h',?_⟩
   rcases lk x c' h' with g | g
   ·rcases jK _ _ _ _ _ g with z | z
    ·exact absurd z g4
    ·cases z
   ·rw[hcc]at g;cases g
    exact tJ.keeps qP
 ·rcases lk x c h with g | g
  ·exact⟨_,(ok.empty x c g).1⟩
  ·obtain⟨v,q⟩:=I.cell x c g
   exact⟨v,q.keeps qP⟩
 ·rcases lk x c h with g | g
  ·exact I.dZ.fresh (ar (aZ _ 2) (big _ _ g))
  ·exact I.jq x c g
 ·show(ft js σ).length=N.length
  unfold ft
  rw[fg];exact hc.len
end
section
variable {X:Cx}{pins:List (Addr×Obj)}{σ:St}{H:Hp}{s:Shared}
theorem Inv.adopt {D:Addr}{ys:List V}{d9:List Value}{n:Nat}(I:Inv X pins σ H s)(hn:H D=none)(hL:D≠X.env.locals)(h1:X.s₀.heap.objs.size<=D)(h2:∀ x c,X.env.cells.lookup x=some c->c≠D)(h3:∀ p∈X.pn++pins,p.1≠D)
 (e:s.heap.get? D=some { cls:=.type "list",data:=.seq d9.toArray n}) (r:Vals ys d9) (hz:ys.length<=sizeLine):Inv X pins σ (upd H D (.lst ys)) s:=by
 have ne:∀ b,b∉[D]->b≠D:=fun b h z=>h (by simp[z])
 refine I.step (g':=s.gens) (d':=s.drawn) (t':=s.toks) (h':=s.heap) (ch:=[D]) (fun b hb=>?_) (fun b o _ _ _ q _=>q) (fun b o _ _ _ q _=>⟨o.slots,q⟩) (fun b o hb q z=>by rw[dR (ne b hb)];exact z) (fun b o _ q=>⟨o,q⟩)
  (fun b xs q=>by rw[dR (eJ q hn)];exact q) (fun b o u q=>by rw[dR (eJ q hn)];exact q) (fun b ps q=>⟨#[],by rw[dR (eJ q hn),q];simp⟩) (fun m q=>q) (fun b u q=>?_) I.bare
 ·have z:b=D:=by simpa using hb
  subst z
  exact⟨.inr h1,hL,h2,h3⟩
 ·by_cases hb:b=D
  ·subst hb;rw[dH]at q;cases q
   exact⟨hz,d9,n,r,e⟩
  ·rw[dR hb]at q
   exact(I.dZ b u q).uU (fun c v _ z=>z) (fun c z=>by rw[dR (eJ z hn)];exact z) fun c xs z=>by rw[dR (eJ z hn)];exact z
def PTs (X:Cx)(ifs:List Expr)(t:TT):Prop :=
 ∀(pins:List (Addr×Obj)) (s:Shared) (σ:St) (H:Hp) (Q:Bool->Hp->Prop),Inv X pins σ H s->t σ H Q ->
  wpAny (model X.prog X.w) X.A (forIn ifs true fun c r=>if r=true then do let ok <- isTrue c X.env (eval c X.env);pure (ForInStep.yield ok)else pure (ForInStep.yield r)) (TP X pins σ Q) X.xe s
def tYes:TT:=fun _ H Q=>Q true H
theorem pts_nil:PTs X [] tYes:=fun _ _ _ H _ I h=>wpAny_tests_nil ⟨H,I,h⟩
theorem pts_one {c:Expr}{t:TT}(h:PT X c t):PTs X [c] t:=fun pins s σ H Q I q=>wpAny_tests_one (h pins s σ H Q I q)
def Ext (σ fO:St):Prop:=σ.length=fO.length/\∀(i:Nat) v,σ[i]?=some (some v)->fO[i]?=some (some v)
theorem Ext.own2 {v u:Option V}{r:St}:Ext (none::none::r) (v::u::r):=⟨rfl,fun i z h=>by
 match i,h with
 | 0,h=>simp at h
 | 1,h=>simp at h
 | i+2,h=>simpa using h⟩
def wComp (js:List (Option Nat))(g:TG)(tt:TT)(te:TE)(J:It)(σ:St)(H1:Hp)(fin:List V->Hp->Prop):Prop :=
 ∃ W:Nat->Nat->List V->Hp->Prop,(∃ m,W 0 m [] H1)/\∀ i m ys H,W i m ys H ->
  (J.stop i H/\fin ys H)\/(J.go i H/\∀ x H',J.yld i H x H'->g x (ft js σ) H' fun lU H2=>Ext (ft js σ) lU/\tt lU H2 fun b H3 =>
    if b=true then te lU H3 fun y H4=>ys.length<sizeLine/\∃ m',m'<m/\W (i+1) m' (ys++[y]) H4 else ∃ m',m'<m/\W (i+1) m' ys H3)
theorem zM {prog:Program}{w:World}{A:Around}{R:Result->Shared->Prop}{s:Shared}{elt target iter:Expr}{ifs:List Expr}{scope:Scope}{pos:Pos}{it acc:Value}{env:Env}(I:Nat->Shared->Prop)
 (turn:∀ n s,I n s->wpAny (model prog w) A (pyNext it) (fun r s₁=>match r with
   | none=>R (.ok .next) s₁
   | some v=>wpAny (model prog w) A (letOwnedTupleGo target it v) (fun _ s₁'=>wpAny (model prog w) A (assign target env v) (fun _ s₂ =>
    wpAny (model prog w) A (forIn ifs true fun c r=>if r=true then do let ok <- isTrue c env (eval c env);pure (ForInStep.yield ok)else pure (ForInStep.yield r)) (fun ok s₃ =>
     if ok=true then wpAny (model prog w) A (eval elt env) (fun x s₄ =>
      wpAny (model prog w) A (call (.builtin "list.append") [acc,x]) (fun _ s₅=>∃ m,m<n/\I m s₅) (fun _ _=>False) s₄) (fun _ _=>False) s₃
     else ∃ m,m<n/\I m s₃) (fun _ _=>False) s₂) (fun _ _=>False) s₁') (fun _ _=>False) s₁) (fun _ _=>False) s)
 (n:Nat) (h:I n s) :
 codeAny (model prog w) A (.compLoop (.ListComp elt [⟨target,iter,ifs,0⟩] scope pos) 0 it acc env) R s:=by
 refine codeAny_loop rfl I (fun n s hI=>?_) n h
 show wpAny _ A ((compTurn (.ListComp elt [⟨target,iter,ifs,0⟩] scope pos) 0 it acc env).onRaise (fun x=>do noteFrame x env;theTreesLotGoes x)) _ _ s
 refine wpAny_noted ?_
 rw[compTurn_list]
 refine dY (cM (dY (bc (turn n s hI) (fun r s₁ h₁=>?_) fun _ _ h'=>h'.elim)))
 cases r with
 | none=>exact aj h₁
 | some v =>
  refine dY (bc h₁ (fun _ s₁' h₁'=>?_) fun _ _ h'=>h'.elim)
  refine dY (bc h₁' (fun _ s₂ h₂=>dY (bc h₂ (fun ok s₃ h₃=>?_) fun _ _ h'=>h'.elim)) fun _ _ h'=>h'.elim)
  cases ok with
  | false=>exact aj ⟨rfl,h₃⟩
  | true =>
   exact dY (dY (bc h₃ (fun x s₄ h₄=>dY (bc h₄ (fun _ s₅ h₅=>aj (aj ⟨rfl,h₅⟩)) fun _ _ h'=>h'.elim)) fun _ _ h'=>h'.elim))
variable {N:List Str}{js:List (Option Nat)}{sc:Scope}{fp:List Addr}{tg elt iter:Expr}{ifs:List Expr}{g:TG}{tt:TT}{te:TE}
def lobj (d9:List Value)(n:Nat):Obj:={ cls:=.type "list",data:=.seq d9.toArray n}
theorem qa {J:It}{it:Addr}{tn:Nat->Heap->Prop}{pos:Pos}{R:Result->Shared->Prop}{fin:List V->Hp->Prop}{tk:Nat}(I:Inv X pins σ H s)(hc:gT X N js sc){CM:Cx->Prop}(calm:CM (ky X N sc fp s H))
 (T:Turn X.prog X.w X.K tg J fp it tn CM) (st:tn 0 s.heap) (hf:∀ b∈fp,ny X pins H b)
 (hg:PG (ky X N sc fp s H) tg g) (ht:PTs (ky X N sc fp s H) ifs tt) (he:PE (ky X N sc fp s H) elt te) (q:wComp js g tt te J σ H fin)
 (hR:∀ s' H' ys m,Inv X pins σ (upd H' s.heap.objs.size (.lst ys)) s'->H' s.heap.objs.size=none->fin ys H'->s'.heap.Ns (s.heap.objs.size+1) m->H' (s.heap.objs.size+1)=none->R (.ok .next) s') :
 codeAny (model X.prog X.w) X.A (.compStart (.ListComp elt [⟨tg,iter,ifs,0⟩] sc pos) 0 (.ref it) (.ref s.heap.objs.size) (kR sc (s.heap.objs.size+1) X.env)) R { s with heap:=qZ sc s.heap,toks:=tk}:=by
 have hob:∀ b∈fp,∃ o,s.heap.get? b=some o:=fun b hb=>let ⟨o,e,_⟩:=T.obj 0 s.heap st b hb;⟨o,e⟩
 have I0:=inv_comp I hc hf hob tk
 have okY:=I0.ok
 obtain⟨W,⟨m0,w0⟩,turn⟩:=q
 have small:∀ b∈fp,b≠s.heap.objs.size:=fun b hb=>let ⟨o,e⟩:=hob b hb;aB (jj e)
 have uV:∀ {d9:List Value} {k:Nat} {H':Hp},(∀ b∈fp,H' b=none)->∀ b∈fp,ny (ky X N sc fp s H) [(s.heap.objs.size,lobj d9 k)] H' b:=fun {d9 k H'} hn b hb =>
  ⟨hn b hb,(okY.exf b hb).1,okY.exfs b hb,.inl hb,(okY.exf b hb).2,fun p hp=>by
   have e:p=(s.heap.objs.size,lobj d9 k):=by simpa [ky]using hp
   rw[e];exact(small b hb).symm⟩
 have st0:tn 0 (qZ sc s.heap):=T.keep 0 _ _ st fun b _ o e=>tI b o e
 have I1:Inv (ky X N sc fp s H) [(s.heap.objs.size,lobj [] 0)] (ft js σ) H { s with heap:=qZ sc s.heap,toks:=tk}:=I0.mT fun p hp=>by
  have e:p=(s.heap.objs.size,lobj [] 0):=by simpa using hp
  subst e
  refine⟨heapC_acc,I.dZ.fresh (aa _),aB (bP _),fun z=>?_,fun v z=>by cases z⟩
  obtain⟨_,o,ho,_⟩:=okY.pJ.mem z
  exact bt _ (jj ho)
 have loop:codeAny (model X.prog X.w) X.A (.compLoop (.ListComp elt [⟨tg,iter,ifs,0⟩] sc pos) 0 (.ref it) (.ref s.heap.objs.size) (kR sc (s.heap.objs.size+1) X.env)) R { s with heap:=qZ sc s.heap,toks:=tk}:=by
  refine zM (fun n s'=>∃ i ys d9 k H',Inv (ky X N sc fp s H) [(s.heap.objs.size,lobj d9 k)] (ft js σ) H' s'/\tn i s'.heap/\(∀ b∈fp,H' b=none)/\Vals ys d9/\ys.length<=sizeLine/\W i n ys H') ?_ m0
   ⟨0,[],[],0,H,I1,st0,fun b hb=>(hf b hb).1,.nil,aW _,w0⟩
  rintro n s3 ⟨i,ys,d9,k,H3,I3,st3,fr3,rv,hz,w3⟩
  have len:=rv.length
  rcases turn i n ys H3 w3 with⟨stop,qf⟩ | ⟨go,step⟩
  ·refine fq (T.done (ky X N sc fp s H) rfl rfl rfl calm i _ s3 _ H3 _ I3 (uV fr3) st3 stop) fun r s4 nP=>?_
   obtain⟨hr,I4⟩:=nP
   subst hr
   show R (.ok .next) s4
   have hD:=I4.pin (s.heap.objs.size,lobj d9 k) (aD _ aw)
   obtain⟨m,hns,_⟩:=I4.loc
   have IX:Inv X pins σ H3 s4:=I.xT (ch:=fp) I4.os I4.base I4.dZ I4.bare fun b hb=>by
    obtain⟨f0,f1,f2,f3,f4,f5⟩:=hf b hb
    exact⟨f3,f1,f4,f5⟩
   have neD:∀(b:Addr) (o:Obj),s.heap.get? b=some o->b≠s.heap.objs.size:=fun b o e=>aB (jj e)
   refine hR s4 H3 ys m (IX.adopt hD.2.1 (bg I.lt) I.sz (fun x c e=>?_) (fun p hp=>neD _ _ (I.pin p hp).1) hD.1 rv hz) hD.2.1 qf hns I4.free
   obtain⟨v,q⟩:=I.cell x c e
   exact aB q.lt
  ·refine fq (T.item (ky X N sc fp s H) rfl rfl rfl calm i _ s3 _ H3 _ I3 (uV fr3) st3 go) fun r s4 pI=>?_
   obtain⟨u,hr,h4⟩:=pI
   subst hr
   refine fq h4 fun _ s5 p5=>?_
   obtain⟨x,H5,I5,r5,y5,st5,fr5⟩:=p5
   have I5':=I5.pinned (uV fr5) (T.obj _ _ st5)
   refine fq (hg _ s5 _ H5 x u _ I5' r5 (step x H5 y5)) fun _ s6 ⟨σ6,H6,I6,⟨ext6,q6⟩⟩=>?_
   refine fq (ht _ s6 σ6 H6 _ I6 q6) fun b s7 qY=>?_
   obtain⟨H7,I7,q7⟩:=qY
   have back:∀ {s':Shared} {H':Hp},Inv (ky X N sc fp s H) ([(s.heap.objs.size,lobj d9 k)]++sq fp s5.heap) σ6 H' s'->tn (i+1) s'.heap/\(∀ b∈fp,H' b=none)/\Inv (ky X N sc fp s H) [(s.heap.objs.size,lobj d9 k)] (ft js σ) H' s':=fun {s' H'} I'=>by
    refine⟨T.keep _ _ _ st5 fun b hb o e=>(I'.pin (b,o) (aD _ (aD _ (jx hb e)))).1,fun b hb=>?_,(I'.weak ext6.1 ext6.2).n5⟩
    obtain⟨o,e,d⟩:=T.obj _ _ st5 b hb
    exact(I'.pin (b,o) (aD _ (aD _ (jx hb e)))).2.1
   cases b with
   | false =>
    rw[ae aA]at q7 ⊢
    obtain⟨m',hm,w7⟩:=q7
    obtain⟨t7,f7,I7'⟩:=back I7
    exact⟨m',hm,i+1,ys,d9,k,H7,I7',t7,f7,rv,hz,w7⟩
   | true =>
    rw[ag rfl]at q7 ⊢
    refine fq (he _ s7 σ6 H7 _ I7 q7) fun y s8 p4=>?_
    obtain⟨yv,H8,I8,ry,rW,m',hm,w8⟩:=p4
    obtain⟨t8,f8,I8'⟩:=back I8
    have hD:=I8'.pin (s.heap.objs.size,lobj d9 k) (aD _ aw)
    have eD:s8.heap.get? s.heap.objs.size=some { cls:=.type "list",data:=.seq d9.toArray k}:=hD.1
    refine call_meets F.slot_list_append ⟨_,eD,rfl⟩ F.entry_list_append (F.args_list_append_2 _ _) (PySem.list_append s.heap.objs.size d9.toArray k y (by rw[au];omega)) ⟨eD,?_⟩
    have q:=PySem.IsL.update eD (·.push y)
    have epush:d9.toArray.push y=(d9++[y]).toArray:=by simp
    have keep:∀(b:Addr) (o:Obj),b≠s.heap.objs.size->s8.heap.get? b=some o->(s8.heap.update s.heap.objs.size (Obj.mapSeq (·.push y))).get? b=some o:=fun b o hb e=>(bj s8.heap (Obj.mapSeq (·.push y)) (bb hb)).trans e
    have cellD:∀ x c,(ky X N sc fp s H).env.cells.lookup x=some c->c≠s.heap.objs.size:=fun x c e z=>by
     obtain⟨v,o,ho,hd⟩:=I8'.cell x c e
     rw[z,eD]at ho;cases ho
     cases hd
    have I9:Inv (ky X N sc fp s H) [] (ft js σ) H8 { s8 with heap:=s8.heap.update s.heap.objs.size (Obj.mapSeq (·.push y))} :=
     (I8'.mT (pins':=[]) fun p hp=>absurd hp (by simp)).turned (t':=s8.toks) keep hD.2.1 hD.2.2.1 (.inr (aa _)) cellD (fun p hp=>absurd (show p∈([]:List (Addr×Obj))from hp) (by simp))
    rw[epush]at q
    obtain⟨k',q'⟩:∃ k',(s8.heap.update s.heap.objs.size (Obj.mapSeq (·.push y))).get? s.heap.objs.size=some (lobj (d9++[y]) k'):=⟨_,q⟩
    refine⟨m',hm,i+1,ys++[yv],d9++[y],k',H8,I9.mT fun p hp=>?_,T.keep _ _ _ t8 fun b hb o e=>keep b o (small b hb) e,f8,rv.append (.cons ry .nil),by rw[kH,aQ];omega,w8⟩
    have e:p=(s.heap.objs.size,lobj (d9++[y]) k'):=by simpa using hp
    subst e
    exact⟨q',hD.2.1,hD.2.2.1,hD.2.2.2.1,fun v z=>by cases z⟩
 exact codeAny_compStart_list loop (T.self _ 0 _ _ _ st0 loop)
def tComp (wi:TI)(js:List (Option Nat))(g:TG)(tt:TT)(te:TE):TE:=fun σ H Q=>wi σ H fun J H1=>wComp js g tt te J σ H1 fun ys H'=>∀ D,H' D=none->Q (.ref D) (upd H' D (.lst ys))
theorem pe_comp {wi:TI}{pos:Pos}(hc:gT X N js sc)(calm:X.calm=true)(hi:PI X tg iter wi)(hg:∀ fp s H,PG (ky X N sc fp s H) tg g)(ht:∀ fp s H,PTs (ky X N sc fp s H) ifs tt)(he:∀ fp s H,PE (ky X N sc fp s H) elt te)
 (hs:∀ x,foldedSetIterable iter X.env x=pure x:=by intro _;rfl):PE X (.ListComp elt [⟨tg,iter,ifs,0⟩] sc pos) (tComp wi js g tt te):=by
 intro pins s σ H Q I h
 rw[eval_ListComp]
 refine cc (use:=none) rfl hs (jJ fun y hy e=>I.ok.has y.1 (hc.free y hy e)) hc.kind hc.loc (fq (hi pins s σ H _ I h) fun v s1 h1=>fq h1 fun itv s2 h2=>?_)
 obtain⟨it,fp,tn,J,H2,e,I2,T,st2,f2,q⟩:=h2
 subst e
 refine aY (lA ?_)
 have hC:(s2.heap.push { cls:=.type "list",dict:=none,data:=.seq ([]:List Value).toArray}).objs.size=s2.heap.objs.size+1:=a6 ..
 simp only[hC]
 refine qa (tk:=s2.toks) I2 hc calm T st2 f2 (hg fp s2 H2) (ht fp s2 H2) (he fp s2 H2) q fun s' H' ys m IX nD qf nC hn=>?_
 refine⟨m,nC,fun h' sb=>?_⟩
 have Af:∀(b:Addr) (o:Obj),s2.heap.get? b=some o->b≠s2.heap.objs.size+1:=fun b o e=>aB (bh (jj e))
 have IY:Inv X pins σ (upd H' s2.heap.objs.size (.lst ys)) { s' with heap:=h'}:=IX.turned (t':=s'.toks) (it:=s2.heap.objs.size+1) (fun b o hb e=>(sb.2 b hb).trans e) (by rw[dR (bg (bP _))];exact hn)
  (bg (bh I2.lt)) (.inr (bz I2.sz)) (fun x c e=>let ⟨v,z⟩:=I2.cell x c e;aB (bh z.lt)) (fun p hp=>Af _ _ (I2.pin p hp).1)
 exact⟨.ref _,_,IY,rfl,qf _ nD⟩
theorem ps_setComp {wi:TI}{pos pos' uW:Pos}{i:Nat}{x:Str}(hc:gT X N js sc)(calm:X.calm=true)(hN:X.N.Nodup)(hx':X.N[i]?=some x)(hx:Loc X.env.scope x)(hi:PI X tg iter wi)(hg:∀ fp s H,PG (ky X N sc fp s H) tg g)
 (ht:∀ fp s H,PTs (ky X N sc fp s H) ifs tt) (he:∀ fp s H,PE (ky X N sc fp s H) elt te) (hsw:swapsWith (.ListComp elt [⟨tg,iter,ifs,0⟩] sc pos) (some (.Name x pos')) uW.line X.env=pure true:=by rfl)
 (hs:∀ x,foldedSetIterable iter X.env x=pure x:=by intro _;rfl) (hf:X.fn x=true\/X.env.scope.names.lookup x=some .local:=by first | exact .inl rfl | exact .inr rfl | assumption) :
 PS X (.Assign [.Name x pos'] (.ListComp elt [⟨tg,iter,ifs,0⟩] sc pos) uW) (tAsg (tComp wi js g tt te) (rf i)):=by
 intro pins s σ H D I h
 rw[exec_Assign_Name_used _ _ _ _ hsw]
 refine dY (cM (dY ?_))
 show wpAny _ X.A (do let _ <- comprehension (.ListComp elt [⟨tg,iter,ifs,0⟩] sc pos) sc X.env _ (newList []) false (eval iter X.env) (some (assign (.Name x pos') X.env))) _ _ s
 refine dY (bc (cc (use:=some (assign (.Name x pos') X.env)) (Q:=fun _ s'=>SP X pins D .next s') rfl hs (jJ fun y hy e=>I.ok.has y.1 (hc.free y hy e)) hc.kind hc.loc
  (fq (hi pins s σ H _ I h) fun v s1 h1=>fq h1 fun itv s2 h2=>?_)) (fun _ s' hq=>aj (aj hq)) fun _ _ e=>e)
 obtain⟨it,fp,tn,J,H2,e,I2,T,st2,f2,q⟩:=h2
 subst e
 refine aY (lA ?_)
 have hC:(s2.heap.push { cls:=.type "list",dict:=none,data:=.seq ([]:List Value).toArray}).objs.size=s2.heap.objs.size+1:=a6 ..
 simp only[hC]
 refine qa (tk:=s2.toks) I2 hc calm T st2 f2 (hg fp s2 H2) (ht fp s2 H2) (he fp s2 H2) q fun s' H' ys m IX nD qf nC hn=>?_
 have Af:∀(b:Addr) (o:Obj),s2.heap.get? b=some o->b≠s2.heap.objs.size+1:=fun b o e=>aB (bh (jj e))
 have hnC:upd H' s2.heap.objs.size (.lst ys) (s2.heap.objs.size+1)=none:=by rw[dR (bg (bP _))];exact hn
 show wpAny _ X.A (assign (.Name x pos') X.env (.ref s2.heap.objs.size)) _ _ s'
 refine wpAny_assign_Name (xv (v:=.ref s2.heap.objs.size) IX hN hx' hx rfl (fun s'' IZ ch=>?_) hf)
 obtain⟨a,sba,ha⟩:=ch
 have hac:s2.heap.objs.size+1≠a:=by
  rcases ha with z | z
  ·rw[z];exact bg (bh I2.lt)
  ·obtain⟨v,z⟩:=I2.cell x a z
   exact bg (bh z.lt)
 refine⟨m,nC.sameBut sba hac,fun h' sb=>?_⟩
 have IY:Inv X pins (σ.set i (some (.ref s2.heap.objs.size))) (upd H' s2.heap.objs.size (.lst ys)) { s'' with heap:=h'}:=IZ.turned (t':=s''.toks) (it:=s2.heap.objs.size+1) (fun b o hb e=>(sb.2 b hb).trans e) hnC
  (bg (bh I2.lt)) (.inr (bz I2.sz)) (fun x c e=>let ⟨v,z⟩:=I2.cell x c e;aB (bh z.lt)) (fun p hp=>Af _ _ (I2.pin p hp).1)
 exact⟨_,_,IY,qf _ nD⟩
end
open Builtin Builtin.Str
def gi {α:Type}(xs:List α)(lo hi:Option Int):List α:=(xs.drop (HT.gN xs.length 0 lo)).take (HT.gN xs.length xs.length hi - HT.gN xs.length 0 lo)
theorem clip_lo (n:Nat)(lo:Option Int):(match lo with | none=>(0:Int) | some i=>max 0 (min (if i<0 then i+(n:Int)else i) (n:Int)))=((HT.gN n 0 lo:Nat):Int):=by
 cases lo with
 | none=>rfl
 | some i=>unfold HT.gN;dsimp only;split <;> omega
theorem clip_hi (n:Nat)(hi:Option Int):(match hi with | none=>(n:Int) | some i=>max 0 (min (if i<0 then i+(n:Int)else i) (n:Int)))=((HT.gN n n hi:Nat):Int):=by
 cases hi with
 | none=>rfl
 | some i=>unfold HT.gN;dsimp only;split <;> omega
theorem mF (lo hi:Option Int)(n:Nat):strSliceIndices lo hi 1 n=sliceRange ((HT.gN n 0 lo:Nat):Int) ((HT.gN n n hi:Nat):Int) 1:=by
 rw[<- clip_lo,<- clip_hi]
 unfold strSliceIndices
 cases lo <;> cases hi <;> rfl
theorem sliced_eq (x:Str)(lo hi:Option Int):(strSliceIndices lo hi 1 x.length).filterMap (x.cps[·]?)=gi x.cps.toList lo hi:=by
 have hl:x.cps.toList.length=x.length:=by simp[Str.length]
 unfold gi
 rw[hl]
 have ha:=HT.vf x.length 0 (aW _) lo
 have hb:=HT.vf x.length x.length (aa _) hi
 by_cases hab:HT.gN x.length 0 lo<=HT.gN x.length x.length hi
 ·rw[<- StrLaws.sliced_plain x hab hb,mF,mF]
  congr 2
  ·rw[HT.lr,cy ha]
  ·rw[HT.lr,cy hb]
 ·rw[mF]
  have e:HT.gN x.length x.length hi - HT.gN x.length 0 lo=0:=by omega
  rw[e,List.take_zero]
  unfold sliceRange
  have h1:¬ (((HT.gN x.length 0 lo:Nat):Int)<((HT.gN x.length x.length hi:Nat):Int)):=by omega
  simp[h1]
theorem cutL_len {α:Type}(xs:List α)(lo hi:Option Int):(gi xs lo hi).length<=xs.length:=by
 unfold gi
 rw[aP,bQ]
 omega
section
variable {X:Cx}
def rSlS:V->Option Int->Option Int->Hp->VK->Prop:=fun x lo hi H Q=>∃ z:Str,x=.str z/\z.length<=sizeLine/\Q (.str ⟨(gi z.cps.toList lo hi).toArray⟩) H
theorem sl_str:SlR X rSlS:=by
 intro pins s σ H x v vl vu lo hi sl Q I rx hs pl pu h
 obtain⟨z,rfl,hz,q⟩:=h
 obtain⟨t,rfl⟩:=rx
 refine⟨"str",_,F.slot_str_getitem.lookup,typeIs_str _ _ _,?_⟩
 obtain⟨l,el⟩:∃ l:Option (Int×Tok),vl=partValue l/\l.map (·.1)=lo:=by
  cases pl with
  | none=>exact⟨none,rfl,rfl⟩
  | int i t=>exact⟨some (i,t),rfl,rfl⟩
 obtain⟨u,eu⟩:∃ u:Option (Int×Tok),vu=partValue u/\u.map (·.1)=hi:=by
  cases pu with
  | none=>exact⟨none,rfl,rfl⟩
  | int i t=>exact⟨some (i,t),rfl,rfl⟩
 obtain⟨rfl,el⟩:=el
 obtain⟨rfl,eu⟩:=eu
 refine wpAny_getItem_str_slice (l:=l) (u:=u) (st:=none) hs rfl ?_
 unfold sliceMade
 have e:slicePicked z l u none=strSliceIndices lo hi 1 z.length:=by unfold slicePicked;rw[el,eu];rfl
 rw[e,sliced_eq]
 by_cases hc:(((none:Option (Int×Tok)).map (·.1)).getD 1==1&&(strSliceIndices lo hi 1 z.length).length==z.length)=true
 ·rw[ag hc]
  refine⟨.str z,H,I,⟨_,rfl⟩,?_⟩
  have sD:(strSliceIndices lo hi 1 z.length).length=z.length:=by simpa using hc
  have hl:z.cps.toList.length=z.length:=by simp[Str.length]
  have h3:gi z.cps.toList lo hi=z.cps.toList:=by
   rw[mF]at sD
   unfold sliceRange at sD
   have ha:=HT.vf z.length 0 (aW _) lo
   have hb:=HT.vf z.length z.length (aa _) hi
   rw[fg,gxJ]at sD
   unfold gi
   rw[hl]
   by_cases rW:((HT.gN z.length 0 lo:Nat):Int)<((HT.gN z.length z.length hi:Nat):Int)
   ·simp[rW]at sD
    have a0:HT.gN z.length 0 lo=0:=by omega
    have b0:HT.gN z.length z.length hi=z.length:=by omega
    rw[a0,b0,List.drop_zero,Nat.sub_zero,<- hl,List.take_length]
   ·simp[rW]at sD
    have z0:z.cps.toList=[]:=List.length_eq_zero_iff.mp (by omega)
    rw[z0];simp
  have e2:(⟨(gi z.cps.toList lo hi).toArray⟩:Str)=z:=by rw[h3]
  rw[e2]at q
  exact q
 ·rw[ae hc]
  refine⟨?_,.str _,H,I.tok _,⟨_,rfl⟩,q⟩
  have hl:z.cps.toList.length=z.length:=by simp[Str.length]
  have:=cutL_len z.cps.toList lo hi
  show(gi z.cps.toList lo hi).toArray.size<=sizeLine
  rw[au]
  omega
theorem xr:∀ {ys:List Str} {us:List Value},Vals (ys.map V.str) us->StrsAre us ys
 | [],_,h=>by cases h;exact .nil
 | y::r,_,h=>by
  cases h with
  | cons a b=>obtain⟨t,rfl⟩:=a;exact .cons _ _ (xr b)
theorem tM:∀(ys:List Str) (acc:Array Nat),ys.foldl (fun acc p=>acc++(#[]:Array Nat)++p.cps) acc=acc++(ys.map (·.cps.toList)).flatten.toArray
 | [],acc=>by simp
 | y::r,acc=>by
  rw[List.foldl_cons,tM r,ah,List.flatten_cons]
  apply Array.toList_inj.mp
  simp
theorem join_empty (z:Str)(hz:z.cps=#[])(ys:List Str):Txt.join z ys=⟨(ys.map (·.cps.toList)).flatten.toArray⟩:=by
 unfold Txt.join glued
 rw[hz]
 congr 1
 cases ys with
 | nil=>rfl
 | cons y r =>
  show List.foldl _ y.cps r=_
  rw[tM,ah,List.flatten_cons]
  apply Array.toList_inj.mp
  simp
def rJoin (K:PySem.W.Frag):V->List V->Hp->VK->Prop:=fun x vs H Q=>∃(z:Str) (l:Addr) (ys:List Str),x=.str z/\z.cps=#[]/\vs=[.ref l]/\oW K H l (ys.map V.str)/\(ys.map (·.length)).sum<=16777216/\Q (.str ⟨(ys.map (·.cps.toList)).flatten.toArray⟩) H
theorem mt_join:MtR X "str.join" (rJoin X.K):=by
 intro pins s σ H x vs v us Q I rx rv h
 obtain⟨z,l,ys,rfl,hz,rfl,hl,hs,q⟩:=h
 obtain⟨t,rfl⟩:=rx
 obtain⟨u,rfl,ru⟩:=rv.one
 cases ru
 obtain⟨d9,r,p,_⟩:=I.list hl
 have zl:z.length=0:=by unfold Str.length;rw[hz];rfl
 refine join_list p.isList (ys:=ys) (by simpa using xr r) (by rw[zl];omega) fun t' k=>?_
 rw[join_empty z hz]
 exact⟨.str _,H,I.tok _,⟨_,rfl⟩,q⟩
theorem rep_one (c:Nat):∀(n:Nat) (acc:Array Nat),(List.replicate n #[c]).foldl (·++·) acc=acc++(List.replicate n c).toArray
 | 0,acc=>by simp
 | n+1,acc=>by
  rw[List.replicate_succ,List.foldl_cons,rep_one c n,List.replicate_succ]
  apply Array.toList_inj.mp
  simp
theorem mul_one (c:Nat)(n:Int):Txt.mul ⟨#[c]⟩ n=⟨(List.replicate n.toNat c).toArray⟩:=by
 unfold Txt.mul
 by_cases h1:n<1
 ·rw[ag h1]
  have e:n.toNat=0:=by omega
  rw[e];rfl
 ·rw[ae h1]
  by_cases h2:(n==1||(⟨#[c]⟩:Str).length==0)=true
  ·rw[ag h2]
   have e:n=1:=by simpa [Str.length]using h2
   rw[e];rfl
  ·rw[ae h2]
   congr 1
   have:=rep_one c n.toNat #[]
   rw[this]
   apply Array.toList_inj.mp
   simp
theorem op_mul_str:iT X (binaryOp .Mult) (fun x y H Q=>∃(c:Nat) (n:Int),x=.str ⟨#[c]⟩/\y=.int n /\ -1000000<=n/\n<=1000000/\Q (.str ⟨(List.replicate n.toNat c).toArray⟩) H):=by
 intro pins s σ H x y v u Q I rx ry h
 obtain⟨c,n,rfl,rfl,h1,h2,q⟩:=h
 obtain⟨t,rfl⟩:=rx
 obtain⟨t',rfl⟩:=ry
 refine SB.mul ⟨?_,fun hn _=>?_,fun hn _=>?_⟩ fun t' k=>?_
 ·rw[ak (by omega),ak (by omega)];rfl
 ·have e:((⟨#[c]⟩:Str).length:Int)=1:=rfl
  rw[e]
  have:(1:Int)<=(2 ^ 63 - 1) / n:=(Int.le_ediv_iff_mul_le (by omega)).mpr (by omega)
  omega
 ·have e:(⟨#[c]⟩:Str).length=1:=rfl
  rw[e]
  unfold tooLong sizeLine
  rw[ak (by omega)]
 ·rw[mul_one]
  exact⟨.str _,H,I.tok _,⟨_,rfl⟩,q⟩
theorem xS (c:Nat):∀ l:List Nat,countIn (.str ⟨#[c]⟩) (l.map fun n=>PyData.str ⟨#[n]⟩)=((l.count c:Nat):Int)
 | []=>rfl
 | n::r=>by
  have h:=cnt_cons c n r
  unfold cnt at h
  rw[h,xS c r,cU]
  by_cases e:n=c
  ·rw[ag e,ag (by simpa using e)];omega
  ·rw[ae e,ae (by simpa using e)];omega
def rCount:V->List V->Hp->VK->Prop:=fun x vs H Q=>∃(z:Str) (c:Nat),x=.str z/\vs=[.str ⟨#[c]⟩]/\Q (.int ((z.cps.toList.count c:Nat):Int)) H
theorem mt_count:MtR X "str.count" rCount:=by
 intro pins s σ H x vs v us Q I rx rv h
 obtain⟨z,c,rfl,rfl,q⟩:=h
 obtain⟨t,rfl⟩:=rx
 obtain⟨u,rfl,ru⟩:=rv.one
 obtain⟨t',rfl⟩:=ru
 refine SC.count ?_
 rw[count_is,xS]
 exact⟨.int _,H,I.tok _,⟨_,rfl⟩,q⟩
def Its (l:List Nat):It:=⟨fun i _=>i<l.length,fun i H x H'=>H'=H/\∃ c,l[i]?=some c/\x=.str ⟨#[c]⟩,fun i _=>i=l.length⟩
theorem turn_str {P:Program}{w:World}{K:PySem.W.Frag}{tg:Expr}{it:Addr}{z:Str}{n:String}{St:Nat->Heap->Prop}
 (W:∀ A':Around,A'.handled=none->Walks P w A' it [it] [it] z.cps.size (SignAt z) St) (hn:["enumerate", "zip", "dict_itemiterator", "dict_reverseitemiterator", "odict_iterator", "itertools.zip_longest", "itertools.pairwise"].contains n=false)
 (ob:∀ i h,St i h->∃ o vs,h.get? it=some o/\o.cls=.type n/\o.data=.fields vs) (slf:∀(A:Around) (i:Nat) (s:Shared) (Q:Value->Shared->Prop) (E:Value->Shared->Prop),St i s.heap->Q (.ref it) s->wpAny (model P w) A (pyIter (.ref it)) Q E s):Turn P w K tg (Its z.cps.toList) [it] it St where
 mem:=by simp
 obj:=fun i h st b hb=>by
  have e:b=it:=by simpa using hb
  subst e
  obtain⟨o,vs,e,c,d⟩:=ob i h st
  exact⟨o,e,fun v z=>by rw[d]at z;cases z⟩
 keep:=fun i h h' st k=>(W { handled:=none,depth:=0,units:=0,frames:=none} rfl).frame i h h' st k
 item:=by
  intro X hP hw hK hc i pins s σ H E I hf st hg
  subst hP hw hK
  obtain⟨f0,f1,f2,f3,f4,f5⟩:=hf it (by simp)
  have hg':i<z.cps.toList.length:=hg
  refine(W X.A (I.ok.hd hc)).item i s _ _ (by simpa using hg') st fun v h' tk hv st' kk=>?_
  obtain⟨c,u,hcc,rfl⟩:=hv
  have I1:Inv X pins σ H { s with heap:=h',toks:=tk}:=I.turned (fun b o hb e=>kk b o (by simpa using hb) e) f0 f1 f3 f4 f5
  obtain⟨o,vs,e,c',d⟩:=ob _ _ st'
  refine⟨_,rfl,xN (s:={ s with heap:=h',toks:=tk}) (n:=n) e c' d hn ⟨.str ⟨#[c]⟩,H,I1,⟨u,rfl⟩,⟨rfl,c,by simpa using hcc,rfl⟩,st',fun b hb=>(hf b hb).1⟩⟩
 done:=by
  intro X hP hw hK hc i pins s σ H E I hf st hg
  subst hP hw hK
  obtain⟨f0,f1,f2,f3,f4,f5⟩:=hf it (by simp)
  have e:i=z.cps.size:=by have:i=z.cps.toList.length:=hg;simpa using this
  subst e
  exact(W X.A (I.ok.hd hc)).done s _ _ st fun h' tk eb=>⟨rfl,I.turned (t':=tk) (fun b o hb e=>eb b o (by simpa using hb) e) f0 f1 f3 f4 f5⟩
 self:=slf
def iStr (tl:TE):TI:=fun σ H R=>tl σ H fun x H1=>∃ z:Str,x=.str z/\R (Its z.cps.toList) H1
theorem pi_str {tg l:Expr}{tl:TE}(hl:PE X l tl):PI X tg l (iStr tl):=by
 intro pins s σ H R I h
 refine fq (hl pins s σ H _ I h) fun v s1 pH=>?_
 obtain⟨x,H1,I1,r1,z,e,q⟩:=pH
 subst e
 obtain⟨t,rfl⟩:=r1
 have fp:∀ b∈[s1.heap.objs.size],ny X pins H1 b:=fun b hb=>by
  have e:b=s1.heap.objs.size:=by simpa using hb
  subst e
  exact I1.fpOk (aa _) (I1.dZ.fresh (aa _))
 have kp:∀(o:Obj),Inv X pins σ H1 { s1 with heap:=s1.heap.push o}:=fun o=>I1.kept (t':=s1.toks) fun b o' e=>iV _ e
 cases ha:z.cps.all (·<128)
 ·refine wpAny_pyIter_wide ha ⟨s1.heap.objs.size,[s1.heap.objs.size],fun i h=>h.IsStrIter s1.heap.objs.size "str_iterator" z t i,_,H1,rfl,kp _,turn_str (n := "str_iterator") (fun A' hA=>Walks.strWide hA _ z t) (by decide) (fun i h st=>let ⟨o,a,b,c⟩:=st;⟨o,_,a,b,c⟩) (fun _ _ _ _ _ st h=>wpAny_pyIter_striter_wide st h),⟨_,av _ rfl,rfl,rfl⟩,fp,q⟩
 ·refine wpAny_pyIter_ascii ha ⟨s1.heap.objs.size,[s1.heap.objs.size],fun i h=>h.IsStrIter s1.heap.objs.size "str_ascii_iterator" z t i,_,H1,rfl,kp _,turn_str (n := "str_ascii_iterator") (fun A' hA=>Walks.strAscii hA _ z t) (by decide) (fun i h st=>let ⟨o,a,b,c⟩:=st;⟨o,_,a,b,c⟩) (fun _ _ _ _ _ st h=>wpAny_pyIter_striter_ascii st h),⟨_,av _ rfl,rfl,rfl⟩,fp,q⟩
theorem call_isi:gM X (.builtin "isinstance") (fun vs H Q=>∃ x T t b,vs=[x,.ty T]/\iE X.K H x t/\PySem.W.kitOne X.K t (.type T)=some b/\Q (.bl b) H):=by
 intro pins s σ H vs us Q I rv h
 obtain⟨x,T,t,b,rfl,ty,e,q⟩:=h
 obtain⟨u,w',rfl,r1,r2⟩:=vals2 rv
 cases r2
 exact isinst_ok I r1 ty e fun tk=>⟨.bl b,H,I.tok tk,rfl,q⟩
end
end L2
namespace L2
open PySem PySem.Spec PyProof.Rows
open Builtin Builtin.Str
section
variable {X:Cx}
theorem iT.imp {f:Value->Value->Sem Value}{r r':R2}(h:iT X f r)(hi:∀ x y H Q,r' x y H Q->r x y H Q):iT X f r':=fun pins s σ H x y v u Q I r1 r2 q=>h pins s σ H x y v u Q I r1 r2 (hi x y H Q q)
theorem PE.imp {e:Expr}{t t':TE}(h:PE X e t)(hi:∀ σ H Q,t' σ H Q->t σ H Q):PE X e t':=fun pins s σ H Q I q=>h pins s σ H Q I (hi σ H Q q)
theorem PT.imp {e:Expr}{t t':TT}(h:PT X e t)(hi:∀ σ H Q,t' σ H Q->t σ H Q):PT X e t':=fun pins s σ H Q I q=>h pins s σ H Q I (hi σ H Q q)
theorem PG.imp {e:Expr}{t t':TG}(h:PG X e t)(hi:∀ v σ H Q,t' v σ H Q->t v σ H Q):PG X e t':=fun pins s σ H v u Q I r q=>h pins s σ H v u Q I r (hi v σ H Q q)
theorem PGs.imp {e:List Expr}{t t':x9}(h:PGs X e t)(hi:∀ v σ H Q,t' v σ H Q->t v σ H Q):PGs X e t':=fun pins s σ H v u Q I r q=>h pins s σ H v u Q I r (hi v σ H Q q)
theorem PS.imp {e:Stmt}{t t':TS}(h:PS X e t)(hi:∀ D σ H,t' D σ H->t D σ H):PS X e t':=fun pins s σ H D I q=>h pins s σ H D I (hi D σ H q)
theorem gM.imp {f:Value}{r r':List V->Hp->VK->Prop}(h:gM X f r)(hi:∀ vs H Q,r' vs H Q->r vs H Q):gM X f r':=fun pins s σ H vs us Q I rv q=>h pins s σ H vs us Q I rv (hi vs H Q q)
theorem MtR.imp {id:String}{r r':V->List V->Hp->VK->Prop}(h:MtR X id r)(hi:∀ x vs H Q,r' x vs H Q->r x vs H Q):MtR X id r':=fun pins s σ H x vs v us Q I r1 rv q=>h pins s σ H x vs v us Q I r1 rv (hi x vs H Q q)
def cVar (i:Nat):TE:=fun σ H Q=>match σ[i]? with | some (some v)=>Q v H | _=>False
theorem jo (i:Nat){x:Str}{pos:Pos}(hN:X.N[i]?=some x:=by rfl)(hv:Vis X.env.scope x:=by first | exact Or.inl rfl | exact Or.inr (Or.inl rfl) | exact Or.inr (Or.inr rfl))(hd:(x==("__debug__" : Str))=false:=by decide)
 (xh:(x==("__classdict__" : Str))=false:=by decide):PE X (.Name x pos) (cVar i):=(yV (i:=i) hN hv hd xh).imp fun σ H Q q=>by
 unfold cVar at q
 split at q
 ·rename_i v e;exact⟨v,e,q⟩
 ·exact q.elim
def rAddC:R2:=fun x y H Q=>match x,y with
 | .int i,.int j=>Q (.int (i+j)) H
 | .str i,.str j=>i.length+j.length<=sizeLine/\Q (.str (i++j)) H
 | .ref l,.ref b=>∃ xs zs,H l=some (.lst xs)/\H b=some (.lst zs)/\xs.length+zs.length<=sizeLine/\∀ p,H p=none->Q (.ref p) (upd H p (.lst (xs++zs)))
 | _,_=>False
theorem addC:iT X (binaryOp .Add) rAddC:=(op_add.or (op_add_str.or op_cat)).imp fun x y H Q q=>by
 unfold rAddC at q
 split at q
 ·exact .inl ⟨_,_,rfl,rfl,q⟩
 ·exact .inr (.inl ⟨_,_,rfl,rfl,q.1,q.2⟩)
 ·obtain⟨xs,zs,a,b,c,d⟩:=q;exact .inr (.inr ⟨_,_,xs,zs,rfl,rfl,a,b,c,d⟩)
 ·exact q.elim
def rI2 (C:Int->Int->Prop)(g:Int->Int->V):R2:=fun x y H Q=>match x,y with
 | .int i,.int j=>C i j/\Q (g i j) H
 | _,_=>False
def yR (g:Int->Int->V):R2:=fun x y H Q=>match x,y with
 | .int i,.int j=>Q (g i j) H
 | _,_=>False
theorem iT.i2 {f:Value->Value->Sem Value}{C:Int->Int->Prop}{g:Int->Int->V}(h:iT X f (rI C g)):iT X f (rI2 C g):=h.imp fun x y H Q q=>by
 unfold rI2 at q
 split at q
 ·exact⟨_,_,rfl,rfl,q.1,q.2⟩
 ·exact q.elim
theorem iT.i2' {f:Value->Value->Sem Value}{g:Int->Int->V}(h:iT X f (rI0 g)):iT X f (yR g):=h.imp fun x y H Q q=>by
 unfold yR at q
 split at q
 ·exact⟨_,_,rfl,rfl,q⟩
 ·exact q.elim
theorem subC:iT X (binaryOp .Sub) (yR fun i j=>.int (i - j)):=op_sub.i2'
def rMulC:R2:=fun x y H Q=>match x,y with
 | .int i,.int j=>CMul i j/\Q (.int (i*j)) H
 | .str z,.int n=>∃ c:Nat,z=⟨#[c]⟩ /\ -1000000<=n/\n<=1000000/\Q (.str ⟨(List.replicate n.toNat c).toArray⟩) H
 | _,_=>False
theorem mulC:iT X (binaryOp .Mult) rMulC:=(op_mul.or op_mul_str).imp fun x y H Q q=>by
 unfold rMulC at q
 split at q
 ·exact .inl ⟨_,_,rfl,rfl,q.1,q.2⟩
 ·obtain⟨c,rfl,a,b,d⟩:=q;exact .inr ⟨c,_,rfl,rfl,a,b,d⟩
 ·exact q.elim
theorem divC:iT X (binaryOp .FloorDiv) (rI2 CDiv fun i j=>.int (i / j)):=op_fdiv.i2
theorem zd:iT X (binaryOp .Mod) (rI2 (fun _ j=>0<j) fun i j=>.int (i%j)):=op_mod.i2
theorem powC:iT X (binaryOp .Pow) (rI2 CPow fun i j=>.int (i ^ j.toNat)):=op_pow.i2
theorem ltC:iT X (compareOp .Lt) (yR fun i j=>.bl (decide (i<j))):=op_lt.i2'
theorem leC:iT X (compareOp .LtE) (yR fun i j=>.bl (decide (i<=j))):=op_le.i2'
theorem gtC:iT X (compareOp .Gt) (yR fun i j=>.bl (decide (j<i))):=op_gt.i2'
theorem geC:iT X (compareOp .GtE) (yR fun i j=>.bl (decide (j<=i))):=op_ge.i2'
def rEqC (neg:Bool):R2:=fun x y H Q=>match x,y with
 | .int i,.int j=>Q (.bl (neg != decide (i=j))) H
 | .str i,.str j=>Q (.bl (neg != decide (i=j))) H
 | .bl i,.bl j=>Q (.bl (neg != decide (i=j))) H
 | _,_=>False
theorem sG {p q:Prop}[Decidable p][Decidable q](h:p↔q):decide p=decide q:=by
 by_cases hp:p
 ·rw[af hp,af (h.mp hp)]
 ·rw[ak hp,ak fun z=>hp (h.mpr z)]
theorem dI {i j:Int}:decide (V.int i=V.int j)=decide (i=j):=sG (by simp)
theorem dS {i j:Str}:decide (V.str i=V.str j)=decide (i=j):=sG (by simp)
theorem dB {i j:Bool}:decide (V.bl i=V.bl j)=decide (i=j):=sG (by simp)
theorem eqC:iT X (compareOp .Eq) (rEqC false):=op_eq.imp fun x y H Q q=>by
 unfold rEqC at q
 split at q
 ·exact⟨rfl,by rw[dI];simpa using q⟩
 ·exact⟨rfl,by rw[dS];simpa using q⟩
 ·exact⟨rfl,by rw[dB];simpa using q⟩
 ·exact q.elim
theorem Af:iT X (compareOp .NotEq) (rEqC true):=op_ne.imp fun x y H Q q=>by
 unfold rEqC at q
 split at q
 ·exact⟨rfl,by rw[dI];simpa using q⟩
 ·exact⟨rfl,by rw[dS];simpa using q⟩
 ·exact⟨rfl,by rw[dB];simpa using q⟩
 ·exact q.elim
def cT (t:TE):TT:=fun σ H Q=>t σ H fun x H1=>match x with | .bl c=>Q c H1 | _=>False
end
def bK (Q:Bool->Hp->Prop):VK:=fun x H1=>match x with | .bl c=>Q c H1 | _=>False
section
variable {X:Cx}{a b e:Expr}{t ta tb:TE}{pos:Pos}
def cB (t:TE):TT:=fun σ H Q=>t σ H (bK Q)
theorem lu {op:CmpOp}{r:R2}(ho:iT X (compareOp op) r)(ha:PE X a ta)(hb:PE X b tb)(hm:behindInMarks op b=false):PT X (.Compare a [op] [b] pos) (cB (tOp r ta tb)):=by
 intro pins s σ H Q I h
 have hE:=qK (pos:=pos) ho ha hb hm
 refine wpAny_isTrue_Compare1 ?_ hm
 refine binT ha hb I h fun v u s2 x y H2 I2 rx ry q=>?_
 refine fq (ho _ s2 σ H2 x y v u _ I2 rx ry q) fun c s3 qk=>?_
 obtain⟨z,H3,I3,r3,q3⟩:=qk
 cases z with
 | bl d=>cases r3;exact bH ⟨H3,I3,q3⟩
 | _=>exact(show False from q3).elim
theorem qJ (h:PE X e t)(he:∀ whole,isTrue e X.env whole=(do let v <- whole;standAt e.pos;holding [v] (truthy v)):=by intro _;rfl):PT X e (cB t):=by
 intro pins s σ H Q I hw
 refine isTrue_plain (fq (h pins s σ H _ I hw) fun v s1 nP=>?_) (he _)
 obtain⟨x,H1,I1,r1,q1⟩:=nP
 cases x with
 | bl d=>cases r1;exact bH ⟨H1,I1,q1⟩
 | _=>exact(show False from q1).elim
def cAnd (ta tb:TE):TE:=fun σ H Q=>ta σ H fun x H1=>match x with | .bl c=>if c=true then tb σ H1 Q else Q (.bl false) H1 | _=>False
def cNot (ta:TE):TE:=fun σ H Q=>ta σ H fun x H1=>match x with | .bl c=>Q (.bl (!c)) H1 | _=>False
theorem ux {rest:List Expr}(ha:PE X a ta)(hb:PE X (.BoolOp .And (b::rest) pos) tb):PE X (.BoolOp .And (a::b::rest) pos) (cAnd ta tb):=by
 intro pins s σ H Q I h
 refine BoolOp_and (fq (ha pins s σ H _ I h) fun v s1 pI=>?_)
 obtain⟨x,H1,I1,r1,q1⟩:=pI
 cases x with
 | bl c =>
  cases r1
  refine bH ?_
  cases c with
  | true=>exact hb pins s1 σ H1 Q I1 q1
  | false=>exact⟨.bl false,H1,I1,rfl,q1⟩
 | _=>exact(show False from q1).elim
theorem pe_notC (ha:PE X a ta):PE X (.UnaryOp .Not a pos) (cNot ta):=by
 intro pins s σ H Q I h
 refine UnaryOp_ (fq (ha pins s σ H _ I h) fun v s1 p5=>?_)
 obtain⟨x,H1,I1,r1,q1⟩:=p5
 cases x with
 | bl c=>cases r1;exact not_of (bH ⟨.bl (!c),H1,I1,rfl,q1⟩)
 | _=>exact(show False from q1).elim
def opt {α:Type}(o:Option α)(k:α->Prop):Prop:=match o with | some v=>k v | none=>False
theorem gb {α:Type}{o:Option α}{k:α->Prop}(h:opt o k):∃ v,o=some v/\k v:=by
 cases o with
 | none=>exact h.elim
 | some v=>exact⟨v,rfl,h⟩
def rIxC:R2:=fun x y H Q=>match x,y with
 | .ref p,.int i=>∃ xs,(H p=some (.lst xs)\/H p=some (.tup xs))/\opt (qh xs i) fun v=>Q v H
 | .str z,.int i=>z.length<=sizeLine/\opt (qh z.cps.toList i) fun c=>Q (.str ⟨#[c]⟩) H
 | _,_=>False
theorem IxR.imp {r r':R2}(h:IxR X r)(hi:∀ x y H Q,r' x y H Q->r x y H Q):IxR X r':=fun value slice pins s σ H x y v u Q I r1 r2 q=>h value slice pins s σ H x y v u Q I r1 r2 (hi x y H Q q)
theorem ixC:IxR X rIxC:=ix_seq.imp fun x y H Q q=>by
 unfold rIxC at q
 split at q
 ·obtain⟨xs,h,q⟩:=q
  obtain⟨v,e,q⟩:=gb q
  rcases h with h | h
  ·exact .inl ⟨_,xs,_,v,rfl,rfl,oW.of h,e,q⟩
  ·exact .inr (.inl ⟨_,xs,_,v,rfl,rfl,zV.of h,e,q⟩)
 ·obtain⟨hz,q⟩:=q
  obtain⟨v,e,q⟩:=gb q
  exact .inr (.inr ⟨_,_,v,rfl,rfl,hz,e,q⟩)
 ·exact q.elim
def rSlC:V->Option Int->Option Int->Hp->VK->Prop:=fun x lo hi H Q=>match x with
 | .ref p=>∃ xs,H p=some (.lst xs)/\∀ l,H l=none->Q (.ref l) (upd H l (.lst (zK xs lo hi)))
 | .str z=>z.length<=sizeLine/\Q (.str ⟨(gi z.cps.toList lo hi).toArray⟩) H
 | _=>False
theorem slC:SlR X rSlC:=by
 intro pins s σ H x v vl vu lo hi sl Q I rx hs pl pu h
 unfold rSlC at h
 split at h
 ·obtain⟨xs,h1,h2⟩:=h
  exact sl_list pins s σ H _ v vl vu lo hi sl Q I rx hs pl pu ⟨_,xs,rfl,oW.of h1,h2⟩
 ·exact sl_str pins s σ H _ v vl vu lo hi sl Q I rx hs pl pu ⟨_,rfl,h.1,h.2⟩
 ·exact h.elim
def cNo:TO:=fun _ H Q=>Q none H
def cPart (t:TE):TO:=fun σ H Q=>t σ H fun x H1=>match x with | .int i=>Q (some i) H1 | _=>False
theorem po_noC:PO X none cNo:=po_none
theorem po_someC {te:TE}(h:PE X e te):PO X (some e) (cPart te):=by
 intro pins s σ H Q I hw
 rw[evalPart_some]
 refine fq (h pins s σ H _ I hw) fun u s1 qY=>?_
 obtain⟨x,H1,I1,r1,q1⟩:=qY
 cases x with
 | int i=>obtain⟨t,rfl⟩:=r1;exact⟨some i,H1,I1,.int i t,q1⟩
 | _=>exact(show False from q1).elim
def rLenC:List V->Hp->VK->Prop:=fun vs H Q=>match vs with
 | [.ref p]=>∃ xs,(H p=some (.lst xs)\/H p=some (.tup xs))/\Q (.int xs.length) H
 | [.str z]=>z.length<=sizeLine/\Q (.int z.length) H
 | _=>False
theorem lenC:gM X (.builtin "len") rLenC:=(zQ.or zP).imp fun vs H Q q=>by
 unfold rLenC at q
 split at q
 ·obtain⟨xs,h,q⟩:=q
  rcases h with h | h
  ·exact .inl ⟨_,xs,rfl,.inl (oW.of h),q⟩
  ·exact .inl ⟨_,xs,rfl,.inr (zV.of h),q⟩
 ·exact .inr ⟨_,rfl,q.1,q.2⟩
 ·exact q.elim
def rSetC:TSet:=fun o i v H Q=>match o,i with
 | .ref p,.int k=>∃ xs,H p=some (.lst xs)/\opt (ixN xs.length k) fun j=>Q (upd H p (.lst (xs.set j v)))
 | _,_=>False
theorem setC:PSet X rSetC:=by
 intro pins s σ H o i v ov iv u Q I ro ri rv h
 unfold rSetC at h
 split at h
 ·obtain⟨xs,hx,q⟩:=h
  obtain⟨j,e,q⟩:=gb q
  exact set_list pins s σ H _ _ v ov iv u Q I ro ri rv ⟨_,xs,_,j,rfl,rfl,hx,e,q⟩
 ·exact h.elim
def rGetC:V->V->Hp->VK->Prop:=fun o i H Q=>match o,i with
 | .ref p,.int k=>∃ xs,H p=some (.lst xs)/\0<=k/\opt (xs[k.toNat]?) fun v=>Q v H
 | _,_=>False
theorem getC:PGet X rGetC:=by
 intro pins s σ H o i ov iv Q I ro ri h
 unfold rGetC at h
 split at h
 ·obtain⟨xs,hx,h0,q⟩:=h
  obtain⟨v,e,q⟩:=gb q
  cases ro
  obtain⟨t,rfl⟩:=ri
  obtain⟨z,d9,n,r,hl,ho⟩:=I.vB hx
  obtain⟨w,ew,rw'⟩:=r.get e
  have rW:=(lE e).1
  have hn:=pW
  exact wpAny_getItem_list (x:=w) (⟨_,ho,rfl,n,rfl⟩:s.heap.IsList _ d9.toArray) h0 (by omega) (by simpa using ew) ⟨v,H,I,rw',q⟩
 ·exact h.elim
def ipC (f:Int->Int->Int):TIp:=fun x y H Q=>match x,y with | .int i,.int j=>Q (.int (f i j)) H | _,_=>False
theorem ip_addC:PIp X .Add (ipC fun i j=>i+j):=by
 intro pins s σ H x y v u Q I r1 r2 h
 unfold ipC at h
 split at h
 ·exact ip_add pins s σ H _ _ v u Q I r1 r2 ⟨_,_,rfl,rfl,h⟩
 ·exact h.elim
def cTup (n:Nat)(t:x9):TG:=fun v σ H Q=>match v with | .ref a=>∃ xs,H a=some (.tup xs)/\xs.length=n/\t xs σ H Q | _=>False
def cCons (t:TG)(u:x9):x9:=fun vs σ H Q=>match vs with | v::r=>t v σ H fun fO H'=>u r fO H' Q | []=>False
def cNil:x9:=fun vs σ H Q=>match vs with | []=>Q σ H | _=>False
theorem fJ {es:List Expr}{k:Nat}{t:x9}{n:Nat}(hc:X.calm=true)(h:PGs X es t)(hn:(assignEach es X.env).length=n:=by rfl)(hst:(assignEach es X.env).findIdx? (·.1)=none:=by rfl):PG X (.Tuple es k pos) (cTup n t) :=
 (pg_tup (pos:=pos) (k:=k) hc h hn hst).imp fun v σ H Q q=>by
  unfold cTup at q
  split at q
  ·obtain⟨xs,a,b,c⟩:=q;exact⟨_,xs,rfl,zV.of a,b,c⟩
  ·exact q.elim
theorem dt {es:List Expr}{t:TG}{u:x9}(h1:PG X e t)(h2:PGs X es u)(hs:(assignEach (e::es) X.env).map (·.2)=assign e X.env::(assignEach es X.env).map (·.2):=by rfl):PGs X (e::es) (cCons t u) :=
 (pgs_cons h1 h2 hs).imp fun v σ H Q q=>by
  unfold cCons at q
  split at q
  ·exact⟨_,_,rfl,q⟩
  ·exact q.elim
theorem fb:PGs X [] cNil:=pgs_nil.imp fun v σ H Q q=>by
 unfold cNil at q
 split at q
 ·exact⟨rfl,q⟩
 ·exact q.elim
def rJoinC:V->List V->Hp->VK->Prop:=fun x vs H Q=>match x,vs with
 | .str z,[.ref l]=>z.cps=#[]/\∃ ys:List Str,H l=some (.lst (ys.map V.str))/\(ys.map (·.length)).sum<=16777216/\Q (.str ⟨(ys.map (·.cps.toList)).flatten.toArray⟩) H
 | _,_=>False
theorem joinC:MtR X "str.join" rJoinC:=mt_join.imp fun x vs H Q q=>by
 unfold rJoinC at q
 split at q
 ·obtain⟨a,ys,b,c,d⟩:=q;exact⟨_,_,ys,rfl,a,rfl,oW.of b,c,d⟩
 ·exact q.elim
def yS:V->List V->Hp->VK->Prop:=fun x vs H Q=>match x,vs with
 | .str z,[.str y]=>∃ c:Nat,y=⟨#[c]⟩/\Q (.int ((z.cps.toList.count c:Nat):Int)) H
 | _,_=>False
theorem countC:MtR X "str.count" yS:=mt_count.imp fun x vs H Q q=>by
 unfold yS at q
 split at q
 ·obtain⟨c,rfl,q⟩:=q;exact⟨_,c,rfl,rfl,q⟩
 ·exact q.elim
def rIsiC (K:PySem.W.Frag):List V->Hp->VK->Prop:=fun vs H Q=>match vs with
 | [x,.ty T]=>∃ t b,iE K H x t/\PySem.W.kitOne K t (.type T)=some b/\Q (.bl b) H
 | _=>False
theorem qU:gM X (.builtin "isinstance") (rIsiC X.K):=call_isi.imp fun vs H Q q=>by
 unfold rIsiC at q
 split at q
 ·obtain⟨t,b,h1,h2,h3⟩:=q;exact⟨_,_,t,b,rfl,h1,h2,h3⟩
 ·exact q.elim
def rListC (K:PySem.W.Frag):List V->Hp->VK->Prop:=fun vs H Q=>match vs with
 | [.ref p]=>∃ ys,oW K H p ys/\∀ l,H l=none->Q (.ref l) (upd H l (.lst ys))
 | _=>False
theorem listC:gM X (.type "list") (rListC X.K):=zO.imp fun vs H Q q=>by
 unfold rListC at q
 split at q
 ·obtain⟨ys,h1,h2⟩:=q;exact⟨_,ys,rfl,.inl h1,h2⟩
 ·exact q.elim
def rMaxC:List V->Hp->VK->Prop:=fun vs H Q=>∃ i j,vs=[.int i,.int j]/\Q (.int (max i j)) H
theorem maxC (hc:X.calm=true):gM X (.builtin "max") rMaxC:=(call_max2 hc).imp fun vs H Q q=>by
 obtain⟨i,j,rfl,q⟩:=q
 refine⟨_,_,rfl,?_⟩
 have e:(if j>i then j else i)=max i j:=by split <;> omega
 rw[e];exact q
end
theorem lZ {c A B:Prop}[Decidable c](h1:c->A)(h2:¬ c->B):if decide c=true then A else B:=by
 by_cases h:c
 ·rw[ag (af h)];exact h1 h
 ·rw[ae (by simp[h])];exact h2 h
theorem iteDn {c A B:Prop}[Decidable c](h1:¬ c->A)(h2:c->B):if(true != decide c)=true then A else B:=by
 by_cases h:c
 ·rw[ae (by simp[h])];exact h2 h
 ·rw[ag (by simp[h])];exact h1 h
theorem vF {c A B:Prop}[Decidable c](h1:c->A)(h2:¬ c->B):if(false != decide c)=true then A else B:=by
 by_cases h:c
 ·rw[ag (by simp[h])];exact h1 h
 ·rw[ae (by simp[h])];exact h2 h
def CNx (n i:Nat)(Pv:Nat->List V->Hp->Prop)(ys:List V):VK:=fun y H4=>ys.length<sizeLine/\∃ m',m'<n - i/\(m'=n - (i+1)/\i+1<=n/\Pv (i+1) (ys++[y]) H4)
theorem cnx {n i:Nat}{Pv:Nat->List V->Hp->Prop}{ys:List V}{y:V}{H:Hp}(hi:i<n)(hl:ys.length<sizeLine)(p:Pv (i+1) (ys++[y]) H):CNx n i Pv ys y H:=⟨hl,n - (i+1),by omega,rfl,hi,p⟩
def CSk (n i:Nat)(Pv:Nat->List V->Hp->Prop)(ys:List V)(H3:Hp):Prop:=∃ m',m'<n - i/\(m'=n - (i+1)/\i+1<=n/\Pv (i+1) ys H3)
end L2
namespace L2
open PySem PySem.Spec PyProof.Rows
structure o3 (P:Program)(w:World)(K:PySem.W.Frag)(mg:Str->Option Value)(base:Heap)(x:Str)(k:Nat)(ps:List Str)(sp:Sp):Prop where
 ex:∃ f fd,d7 P w K mg base jr k f fd ps sp/\mg x=some (.ref f)/\PySem.W.keepIn K (.ref f)=true/\Binds K fd ps []
theorem vj {X:Cx}{x:Str}{p pos:Pos}{e:Expr}{es:List Expr}{t:TA}{k:Nat}{ps:List Str}{sp:Sp}(C:o3 X.prog X.w X.K X.mg X.base x k ps sp)(hr:gD k X.A)(hg:Gl X x)(ha:PA X (e::es) t)
 (sC:(x==("__debug__" : Str))=false:=by decide) (he:starEach (e::es) X.env=(false,eval e X.env)::starEach es X.env:=by rfl) (kh:(backTo pos (starEach es X.env)).any (·.1)=false:=by rfl) :
 PE X (.Call (.Name x p) (e::es) [] pos) (tCall sp [] E0 t):=by
 obtain⟨f,fd,F,hm,hk,hb⟩:=C.ex
 exact pe_call F hr hg hm hk hb .nil pass0 ha sC he kh
def tCut (t u:TS):TS:=fun D σ H=>∃ M:St->Hp->Prop,t { D with nx:=M} σ H/\∀ fO H',M fO H'->u D fO H'
theorem pss_cut {X:Cx}{st:Stmt}{rest:List Stmt}{t u:TS}(h1:PS X st t)(h2:zX X rest u):zX X (st::rest) (tCut t u):=by
 intro pins s σ H D I h
 obtain⟨M,a,b⟩:=h
 refine wpAny_execs_cons (fq (h1 pins s σ H { D with nx:=M} I a) fun f s1 q=>?_)
 cases f with
 | next =>
  obtain⟨fO,H',I',q⟩:=q
  exact h2 pins s1 fO H' D I' (b fO H' q)
 | ret v=>exact q
 | brk=>exact q
 | cont=>exact q
def SB (b:Addr)(H H':Hp):Prop:=∀ c o,c≠b->H c=some o->H' c=some o
theorem SB.trans {b:Addr}{H H1 H2:Hp}(h:SB b H H1)(h':SB b H1 H2):SB b H H2:=fun c o n e=>h' c o n (h c o n e)
theorem dj {α:Type}{o:Option α}{k:α->Prop}{v:α}(e:o=some v)(h:k v):opt o k:=by rw[e];exact h
def OB (b:Addr)(H H':Hp):Prop:=∀ c,c≠b->H' c=H c
theorem OB.refl {b:Addr}{H:Hp}:OB b H H:=fun _ _=>rfl
theorem OB.upd {b:Addr}{H H':Hp}{o:HO}(h:OB b H H'):OB b H (L2.upd H' b o):=fun c n=>by rw[dR n];exact h c n
theorem pM:(0:Int)<2147483647:=by decide
theorem pN:(0:Int)<1000000007:=by decide
def OX (l:List Nat):Prop:=∀ c∈l,c=111\/c=120
theorem OX.of {l:List Nat}(h:l.all (fun c=>c==111||c==120)=true):OX l:=fun c hc=>by
 have:=List.all_eq_true.mp h c hc
 simpa using this
theorem OX.app {a b:List Nat}(ha:OX a)(hb:OX b):OX (a++b):=fun c h=>(List.mem_append.mp h).elim (ha c) (hb c)
theorem OX.rep {c n:Nat}(h:c=111\/c=120):OX (List.replicate n c):=fun d hd=>by rw[(List.mem_replicate.mp hd).2];exact h
theorem wu {l:List Nat}{v:Int}(h0:0<=v)(h1:v<l.length):∃ c,qh l v=some c/\c∈l:=by
 have rW:v.toNat<l.length:=by omega
 refine⟨l[v.toNat],?_,cJ _⟩
 have q:=kj (xs:=l) (j:=v.toNat) (v:=l[v.toNat]) (tL rW)
 rwa [Int.toNat_of_nonneg h0]at q
theorem nk (a b:List Nat):((⟨a.toArray⟩:Str)++(⟨b.toArray⟩:Str))=⟨(a++b).toArray⟩:=by
 show(⟨a.toArray++b.toArray⟩:Str)=_
 congr 1
 simp
theorem lenS (a:List Nat):(⟨a.toArray⟩:Str).length=a.length:=by simp[Str.length]
theorem m3:∀ l:List Nat,((l.map fun c=>(⟨#[c]⟩:Str)).map (·.cps.toList)).flatten=l
 | []=>rfl
 | c::r=>by rw[ah,ah,List.flatten_cons,m3 r];rfl
theorem o7:∀ l:List Nat,((l.map fun c=>(⟨#[c]⟩:Str)).map (·.length)).sum=l.length
 | []=>rfl
 | c::r=>by
  rw[ah,ah,List.sum_cons,o7 r]
  show 1+r.length=r.length+1
  omega
def spLaw (K:PySem.W.Frag):Sp:=fun vs H Q _=>∃(a:Addr) (ns:List Int),vs=[.ref a]/\oW K H a (ns.map V.int)/\ns.length<=63/\∀ H',Q (.bl true) H'
theorem fne (b:Bool):(false != b)=b:=by cases b <;> rfl
theorem tne (b:Bool):(true != b)=!b:=by cases b <;> rfl
theorem gI (K:PySem.W.Frag)(T:String):PySem.W.kitOne K (.type T) (.type T)=some true:=by unfold PySem.W.kitOne;simp
def lR (c:Bool)(h:Heap)(it a:Addr)(k:Nat):Prop:=if c=true then h.IsTupleIter it a k else h.IsListIter it a k
def ud (c:Bool)(h:Heap)(a:Addr)(d9:Array Value):Prop:=if c=true then h.IsTuple a d9 else h.IsList a d9
theorem lR.extBut {c:Bool}{h h':Heap}{it a b:Addr}{k:Nat}(x:lR c h it a k)(hs:Heap.ExtBut b h h')(hab:it≠b):lR c h' it a k:=by
 cases c with
 | true=>exact Heap.IsTupleIter.extBut x hs hab
 | false=>exact Heap.IsListIter.extBut x hs hab
theorem ud.extBut {c:Bool}{h h':Heap}{a b:Addr}{d9:Array Value}(x:ud c h a d9)(hs:Heap.ExtBut b h h')(hab:a≠b):ud c h' a d9:=by
 cases c with
 | true=>exact Heap.IsTuple.extBut x hs hab
 | false=>exact Heap.IsList.extBut x hs hab
theorem ud.lt {c:Bool}{h:Heap}{a:Addr}{d9:Array Value}(x:ud c h a d9):a≠h.objs.size:=by
 cases c with
 | true=>obtain⟨o,e,_⟩:=x;exact aB (jj e)
 | false=>obtain⟨o,e,_⟩:=x;exact aB (jj e)
theorem lR.ex {c:Bool}{h:Heap}{it a:Addr}{k:Nat}(x:lR c h it a k):∃ o,h.get? it=some o:=by
 cases c with
 | true=>obtain⟨o,e,_⟩:=x;exact⟨o,e⟩
 | false=>obtain⟨o,e,_⟩:=x;exact⟨o,e⟩
theorem lR.data {c:Bool}{h:Heap}{it a:Addr}{k:Nat}(x:lR c h it a k):∃ o,h.get? it=some o/\∀ v,o.data≠.cell v:=by
 cases c with
 | true=>obtain⟨o,e,_,d⟩:=x;exact⟨o,e,fun v z=>by rw[d]at z;cases z⟩
 | false=>obtain⟨o,e,_,d⟩:=x;exact⟨o,e,fun v z=>by rw[d]at z;cases z⟩
theorem lR.at {c:Bool}{h h':Heap}{it a:Addr}{k:Nat}(x:lR c h it a k)(e:∀ o,h.get? it=some o->h'.get? it=some o):lR c h' it a k:=by
 cases c with
 | true=>obtain⟨o,q,r⟩:=x;exact⟨o,e o q,r⟩
 | false=>obtain⟨o,q,r⟩:=x;exact⟨o,e o q,r⟩
section
variable {prog:Program}{w:World}{A:Around}{E:Value->Shared->Prop}{s:Shared}
theorem nextT_item {it t:Addr}{i:Nat}{items}{x:Value}{Q:Value->Shared->Prop}(hit:s.heap.IsTupleIter it t i)(ht:s.heap.IsTuple t items)(hx:items[i]?=some x)
 (hQ:∀ h',h'.IsTupleIter it t (i+1)->Heap.SameBut it s.heap h'->Q x { s with heap:=h'}):wpAny (model prog w) A (Builtin.SmallTypes.nextOf (.ref it)) Q E s:=by
 obtain⟨o,ho,hc,hd⟩:=id hit
 obtain⟨ol,hol,_,nl,hdl⟩:=ht
 unfold Builtin.SmallTypes.nextOf
 refine dY (bA (name:=Str.ofString "__next__") hit.typeIs bY (bN bY hit.typeIs F.entry_tuple_iterator_next ?_ (F.args_tuple_iterator_next_1 _)))
 show wpAny _ _ (field (.ref it) 0 >>= _) _ _ s
 refine dY (aS ho hd (x:=.ref t) rfl ?_)
 show wpAny _ _ (if(Value.ref t==Value.none)=true then _ else _) _ _ s
 rw[ae (show ¬ ((Value.ref t==Value.none)=true)from aA)]
 show wpAny _ _ (field (.ref it) 1 >>= _) _ _ s
 refine dY (aS ho hd (x:=.int i 0) rfl ?_)
 show wpAny _ _ (seqItems? (.ref t) >>= _) _ _ s
 refine dY (bR hol hdl ?_)
 simp only[gxK,hx]
 refine dY (cD ho hd (by simp) (aj ⟨x,rfl,aj (hQ _ ?_ (Heap.SameBut.update ..))⟩))
 exact⟨_,b8 _ ho (Obj.isFreed_of_fields (cX hd _)),(Obj.cls_mapFields ..).trans hc,by rw[cX hd];simp[rawInt]⟩
theorem nextT_end {it t:Addr}{i:Nat}{items}{Q:Value->Shared->Prop}(hh:A.handled=none)(hit:s.heap.IsTupleIter it t i)(ht:s.heap.IsTuple t items)(hx:items[i]?=none)
 (hE:∀ h' e,Heap.ExtBut it s.heap h'->(∃ o,h'.get? e=some o/\o.cls=.type "StopIteration")->E (.ref e) { s with heap:=h'}):wpAny (model prog w) A (Builtin.SmallTypes.nextOf (.ref it)) Q E s:=by
 obtain⟨o,ho,hc,hd⟩:=id hit
 obtain⟨ol,hol,_,nl,hdl⟩:=ht
 unfold Builtin.SmallTypes.nextOf
 refine dY (bA (name:=Str.ofString "__next__") hit.typeIs bY (bN bY hit.typeIs F.entry_tuple_iterator_next ?_ (F.args_tuple_iterator_next_1 _)))
 show wpAny _ _ (field (.ref it) 0 >>= _) _ _ s
 refine dY (aS ho hd (x:=.ref t) rfl ?_)
 show wpAny _ _ (if(Value.ref t==Value.none)=true then _ else _) _ _ s
 rw[ae (show ¬ ((Value.ref t==Value.none)=true)from aA)]
 show wpAny _ _ (field (.ref it) 1 >>= _) _ _ s
 refine dY (aS ho hd (x:=.int i 0) rfl ?_)
 show wpAny _ _ (seqItems? (.ref t) >>= _) _ _ s
 refine dY (bR hol hdl ?_)
 simp only[gxK,hx]
 refine dY (wpAny_rule (dY (cD ho hd (by simp) ?_)))
 show wpAny _ _ (newExc (.type "StopIteration") [] >>= _) _ _ _
 refine dY ?_
 simp only[newExc,newTuple]
 refine dY (aY ?_ (by size_fits))
 refine dY (m:=firstArgMember _ _) (wpAny_of_eq (a:=Value.none) (by first | rfl | (simp only[firstArgMember];rfl)) ?_)
 refine aY ?_ (by size_fits)
 simp only[raiseNew]
 refine dY (wpAny_handled ?_)
 first | rw[show A.in1.handled=none from hh] | rw[hh]
 refine dY (aj (wpAny_throw ?_))
 exact hE _ _ (((Heap.SameBut.update ..).extBut.push _).push _) ⟨_,av _ rfl,rfl⟩
theorem vz {c:Bool}{it l:Addr}{i:Nat}{items:Array Value}{x:Value}{Q:Value->Shared->Prop}(hit:lR c s.heap it l i)(hl:ud c s.heap l items)(hx:items[i]?=some x)
 (hQ:∀ h',lR c h' it l (i+1)->Heap.SameBut it s.heap h'->Q x { s with heap:=h'}):wpAny (model prog w) A (Builtin.SmallTypes.nextOf (.ref it)) Q E s:=by
 cases c with
 | true=>exact nextT_item hit hl hx hQ
 | false=>exact wpAny_nextOf_list_item hit hl hx hQ
theorem nextG_end {c:Bool}{it l:Addr}{i:Nat}{items:Array Value}{Q:Value->Shared->Prop}(hh:A.handled=none)(hit:lR c s.heap it l i)(hl:ud c s.heap l items)(hx:items[i]?=none)
 (hE:∀ h' e,Heap.ExtBut it s.heap h'->(∃ o,h'.get? e=some o/\o.cls=.type "StopIteration")->E (.ref e) { s with heap:=h'}):wpAny (model prog w) A (Builtin.SmallTypes.nextOf (.ref it)) Q E s:=by
 cases c with
 | true=>exact nextT_end hh hit hl hx hE
 | false=>exact wpAny_nextOf_list_end hh hit hl hx hE
structure ZS (c:Bool)(z TI TO i1 i2 l1 l2:Addr)(f a b:Value)(k1 k2:Nat)(xs ys:Array Value)(h:Heap):Prop where
 z:IsZip h z TI TO f
 ti:IsPair h TI (.ref i1) (.ref i2)
 to:IsPair h TO a b
 n1:lR c h i1 l1 k1
 n2:lR c h i2 l2 k2
 q1:ud c h l1 xs
 q2:ud c h l2 ys
def ZK (z TO i1 i2:Addr)(h h':Heap):Prop:=∀ d o,d≠z->d≠TO->d≠i1->d≠i2->h.get? d=some o->h'.get? d=some o
theorem ZK.trans {z TO i1 i2:Addr}{h h1 h2:Heap}(a:ZK z TO i1 i2 h h1)(b:ZK z TO i1 i2 h1 h2):ZK z TO i1 i2 h h2:=fun d o q1 q2 q3 q4 e=>b d o q1 q2 q3 q4 (a d o q1 q2 q3 q4 e)
section
variable {c:Bool}{z TI TO i1 i2 l1 l2:Addr}{f f' a b x y:Value}{k1 k2:Nat}{xs ys:Array Value}{h h':Heap}
theorem ZS.mz (S:ZS c z TI TO i1 i2 l1 l2 f a b k1 k2 xs ys h)(D:ZipApart z TI TO i1 i2 l1 l2)(e:IsZip h' z TI TO f')(k:Heap.ExtBut z h h'):ZS c z TI TO i1 i2 l1 l2 f' a b k1 k2 xs ys h' :=
 ⟨e,k _ _ D.TIz S.ti,k _ _ D.TOz S.to,S.n1.extBut k D.i1z,S.n2.extBut k D.i2z,S.q1.extBut k D.l1z,S.q2.extBut k D.l2z⟩
theorem ZS.m1 {j:Nat}(S:ZS c z TI TO i1 i2 l1 l2 f a b k1 k2 xs ys h)(D:ZipApart z TI TO i1 i2 l1 l2)(e:lR c h' i1 l1 j)(k:Heap.ExtBut i1 h h'):ZS c z TI TO i1 i2 l1 l2 f a b j k2 xs ys h' :=
 ⟨k _ _ D.i1z.symm S.z,k _ _ D.TIi1 S.ti,k _ _ D.TOi1 S.to,e,S.n2.extBut k D.i12.symm,S.q1.extBut k D.l1i1,S.q2.extBut k D.l2i1⟩
theorem ZS.m2 {j:Nat}(S:ZS c z TI TO i1 i2 l1 l2 f a b k1 k2 xs ys h)(D:ZipApart z TI TO i1 i2 l1 l2)(e:lR c h' i2 l2 j)(k:Heap.ExtBut i2 h h'):ZS c z TI TO i1 i2 l1 l2 f a b k1 j xs ys h' :=
 ⟨k _ _ D.i2z.symm S.z,k _ _ D.TIi2 S.ti,k _ _ D.TOi2 S.to,S.n1.extBut k D.i12,e,S.q1.extBut k D.l1i2,S.q2.extBut k D.l2i2⟩
theorem ZS.mo (S:ZS c z TI TO i1 i2 l1 l2 f a b k1 k2 xs ys h)(D:ZipApart z TI TO i1 i2 l1 l2)(e:IsPair h' TO x y)(k:Heap.ExtBut TO h h'):ZS c z TI TO i1 i2 l1 l2 f x y k1 k2 xs ys h' :=
 ⟨k _ _ D.TOz.symm S.z,k _ _ D.TITO S.ti,e,S.n1.extBut k D.TOi1.symm,S.n2.extBut k D.TOi2.symm,S.q1.extBut k D.l1TO,S.q2.extBut k D.l2TO⟩
theorem ZS.push (S:ZS c z TI TO i1 i2 l1 l2 f a b k1 k2 xs ys h)(o:Obj):ZS c z TI TO i1 i2 l1 l2 f a b k1 k2 xs ys (h.push o) :=
 ⟨iV _ S.z,iV _ S.ti,iV _ S.to,S.n1.at fun _ e=>iV _ e,S.n2.at fun _ e=>iV _ e,
  S.q1.extBut (b:=h.objs.size) (fun _ _ _ e=>iV _ e) (S.q1.lt),S.q2.extBut (b:=h.objs.size) (fun _ _ _ e=>iV _ e) (S.q2.lt)⟩
theorem zk_z (k:Heap.ExtBut z h h'):ZK z TO i1 i2 h h':=fun d o q _ _ _ e=>k d o q e
theorem zk_o (k:Heap.ExtBut TO h h'):ZK z TO i1 i2 h h':=fun d o _ q _ _ e=>k d o q e
theorem zk_1 (k:Heap.ExtBut i1 h h'):ZK z TO i1 i2 h h':=fun d o _ _ q _ e=>k d o q e
theorem zk_2 (k:Heap.ExtBut i2 h h'):ZK z TO i1 i2 h h':=fun d o _ _ _ q e=>k d o q e
end
section
variable {c:Bool}{z TI TO i1 i2 l1 l2:Addr}{k1 k2:Nat}{xs ys:Array Value}{x y a b:Value}
theorem zip_turn {Q:Value->Shared->Prop}(D:ZipApart z TI TO i1 i2 l1 l2)(S:ZS c z TI TO i1 i2 l1 l2 .none a b k1 k2 xs ys s.heap)(hx:xs[k1]?=some x)(hy:ys[k2]?=some y)
 (hQ:∀ h',ZS c z TI TO i1 i2 l1 l2 (rawInt s.heap.objs.size) x y (k1+1) (k2+1) xs ys h'->IsPair h' s.heap.objs.size x y->ZK z TO i1 i2 s.heap h'->Q (.ref s.heap.objs.size) { s with heap:=h'}) :
 wpAny (model prog w) A (Builtin.«zip.__next__» ⟨[.ref z],[]⟩) (fun fin s'=>∃ v,fin=.done (.ret v)/\Q v s') E s:=by
 refine dY (aj (dY (aS S.z rfl (x:=.bool false) rfl (dY (aS S.z rfl (x:=.ref TI) rfl (dY (bR S.ti rfl ?_)))))))
 refine dY (m:=Builtin.SmallTypes.ownedTupleIsFree (.ref z)) (dY (aS S.z rfl (x:=.none) rfl (aj ?_)))
 refine dY (wpAny_rule (dY (aS S.z rfl (x:=.ref TO) rfl (dY (cp S.z (by simp) fun g1 e1 t1=>?_)))))
 have S1:=S.mz D (f':=.ellipsis) e1 t1.extBut
 refine dY ?_
 rw[show(#[Value.ref i1,Value.ref i2]:Array Value).toList.zipIdx=[(.ref i1,0),(.ref i2,1)]from rfl,List.forIn_cons]
 refine dY (dY (wpAny_onRaise (dY (vz S1.n1 S1.q1 hx fun g2 e2 t2=>aj ?_))))
 have S2:=S1.m1 D e2 t2.extBut
 refine dY (bR S2.to rfl (dY (wpAny_updateSeq_pair S2.to fun g3 e3 t3=>dY (wpAny_letGo (aj ?_)))))
 have S3:=S2.mo D (x:=x) (y:=b) e3 t3.extBut
 dsimp only
 rw[List.forIn_cons]
 refine dY (dY (wpAny_onRaise (dY (vz S3.n2 S3.q2 hy fun g4 e4 t4=>aj ?_))))
 have S4:=S3.m2 D e4 t4.extBut
 refine dY (bR S4.to rfl (dY (wpAny_updateSeq_pair S4.to fun g5 e5 t5=>dY (wpAny_letGo (aj ?_)))))
 have S5:=S4.mo D (x:=x) (y:=y) e5 t5.extBut
 dsimp only
 rw[List.forIn_nil]
 have sz:g5.objs.size=s.heap.objs.size:=t5.1.trans (t4.1.trans (t3.1.trans (t2.1.trans t1.1)))
 refine aj (dY (bR S5.to rfl (dY (wpAny_newTuple ?_))))
 have S6:=S5.push { cls:=.type "tuple",data:=.seq #[x,y]}
 refine dY (m:=Builtin.SmallTypes.ownedTupleHandOut (.ref z) (.ref g5.objs.size)) (dY (cp S6.z (by simp) fun g7 e7 t7=>?_))
 have S7:=S6.mz D (f':=rawInt g5.objs.size) e7 t7.extBut
 refine cp S7.z (by simp) fun g8 e8 t8=>?_
 have S8:=S7.mz D (f':=rawInt g5.objs.size) e8 t8.extBut
 have zlt:g5.objs.size≠z:=bg (jj S5.z)
 have hT:IsPair g8 g5.objs.size x y:=t8.extBut _ _ zlt (t7.extBut _ _ zlt (av _ rfl))
 have kk:ZK z TO i1 i2 s.heap g8:=((((((zk_z t1.extBut).trans (zk_1 t2.extBut)).trans (zk_o t3.extBut)).trans (zk_2 t4.extBut)).trans (zk_o t5.extBut)).trans (fun d o _ _ _ _ e=>iV _ e)).trans ((zk_z t7.extBut).trans (zk_z t8.extBut))
 rw[sz]at S8 hT
 refine aj ⟨_,rfl,?_⟩
 show Q (.ref g5.objs.size) _
 rw[sz]
 exact hQ g8 S8 hT kk
theorem zip_over {Q:Fin->Shared->Prop}(hh:A.handled=none)(D:ZipApart z TI TO i1 i2 l1 l2)(S:ZS c z TI TO i1 i2 l1 l2 .none a b k1 k2 xs ys s.heap)(hx:xs[k1]?=none)
 (hE:∀ h' e,ZK z TO i1 i2 s.heap h'->(∃ o,h'.get? e=some o/\o.cls=.type "StopIteration")->E (.ref e) { s with heap:=h'}) :
 wpAny (model prog w) A (Builtin.«zip.__next__» ⟨[.ref z],[]⟩) Q E s:=by
 refine dY (aj (dY (aS S.z rfl (x:=.bool false) rfl (dY (aS S.z rfl (x:=.ref TI) rfl (dY (bR S.ti rfl ?_)))))))
 refine dY (m:=Builtin.SmallTypes.ownedTupleIsFree (.ref z)) (dY (aS S.z rfl (x:=.none) rfl (aj ?_)))
 refine dY (wpAny_rule (dY (aS S.z rfl (x:=.ref TO) rfl (dY (cp S.z (by simp) fun g1 e1 t1=>?_)))))
 have S1:=S.mz D (f':=.ellipsis) e1 t1.extBut
 refine dY ?_
 rw[show(#[Value.ref i1,Value.ref i2]:Array Value).toList.zipIdx=[(.ref i1,0),(.ref i2,1)]from rfl,List.forIn_cons]
 refine dY (dY (wpAny_onRaise (dY (nextG_end hh S1.n1 S1.q1 hx fun g2 e t2 he=>?_))))
 obtain⟨oe,hoe,hce⟩:=he
 have hz2:IsZip g2 z TI TO .ellipsis:=t2 _ _ D.i1z.symm S1.z
 have hez:e≠z:=fun q=>by subst q;rw[hz2]at hoe;cases hoe;simp at hce
 exact cp hz2 (by simp) fun g3 _ t3=>hE g3 e (((zk_z t1.extBut).trans (zk_1 t2)).trans (zk_z t3.extBut)) ⟨oe,t3.extBut _ _ hez hoe,hce⟩
theorem zip_item {Q:Option Value->Shared->Prop}(D:ZipApart z TI TO i1 i2 l1 l2)(S:ZS c z TI TO i1 i2 l1 l2 .none a b k1 k2 xs ys s.heap)(hx:xs[k1]?=some x)(hy:ys[k2]?=some y)
 (hQ:∀ h',ZS c z TI TO i1 i2 l1 l2 (rawInt s.heap.objs.size) x y (k1+1) (k2+1) xs ys h'->IsPair h' s.heap.objs.size x y->ZK z TO i1 i2 s.heap h'->Q (some (.ref s.heap.objs.size)) { s with heap:=h'}) :
 wpAny (model prog w) A (pyNext (.ref z)) Q E s:=by
 have ty:s.TypeIs (.ref z) "zip":=⟨_,S.z,rfl⟩
 unfold pyNext
 exact dY (wpAny_attempt (bA (name:=Str.ofString "__next__") ty F.slot_zip_next (bN F.slot_zip_next ty F.entry_zip_next (zip_turn D S hx hy fun h' a1 a2 a3=>aj (hQ h' a1 a2 a3)) (F.args_zip_next_1 _))))
theorem zip_end {Q:Option Value->Shared->Prop}(hh:A.handled=none)(D:ZipApart z TI TO i1 i2 l1 l2)(S:ZS c z TI TO i1 i2 l1 l2 .none a b k1 k2 xs ys s.heap)(hx:xs[k1]?=none)
 (hQ:∀ h',ZK z TO i1 i2 s.heap h'->Q none { s with heap:=h'}):wpAny (model prog w) A (pyNext (.ref z)) Q E s:=by
 have ty:s.TypeIs (.ref z) "zip":=⟨_,S.z,rfl⟩
 unfold pyNext
 refine dY (wpAny_attempt (bA (name:=Str.ofString "__next__") ty F.slot_zip_next (bN F.slot_zip_next ty F.entry_zip_next (zip_over hh D S hx fun h' e hk he=>?_) (F.args_zip_next_1 _))))
 obtain⟨o,ho,hc⟩:=he
 exact dY (wpAny_isInstance (T := "StopIteration") (b:=true) ⟨o,ho,hc⟩ isSubtype_stop (aj (hQ _ hk)))
end
end
def SqC (c:Bool)(H:Hp)(a:Addr)(xs:List V):Prop:=if c=true then H a=some (.tup xs)else H a=some (.lst xs)
theorem SqC.inj {c:Bool}{H:Hp}{a:Addr}{xs ys:List V}(h:SqC c H a xs)(h':SqC c H a ys):xs=ys:=by
 cases c with
 | true=>have h1:H a=some (.tup xs):=h;have h2:H a=some (.tup ys):=h';rw[h1]at h2;cases h2;rfl
 | false=>have h1:H a=some (.lst xs):=h;have h2:H a=some (.lst ys):=h';rw[h1]at h2;cases h2;rfl
theorem SqC.ex {c:Bool}{H:Hp}{a:Addr}{xs:List V}(h:SqC c H a xs):∃ o,H a=some o:=by
 cases c with
 | true=>exact⟨_,h⟩
 | false=>exact⟨_,h⟩
theorem SqC.val {X:Cx}{pins:List (Addr×Obj)}{σ:St}{H:Hp}{s:Shared}{c:Bool}{a:Addr}{xs:List V}(I:Inv X pins σ H s)(h:SqC c H a xs):∃ d9:List Value,Vals xs d9/\ud c s.heap a d9.toArray:=by
 cases c with
 | true =>
  obtain⟨_,d9,r,p⟩:=(show fo X.prog X.w H s.heap a (.tup xs)from I.dZ a _ h)
  exact⟨d9,r,p⟩
 | false =>
  obtain⟨_,d9,n,r,_,e⟩:=I.vB h
  exact⟨d9,r,⟨_,e,rfl,n,rfl⟩⟩
def Itz (c:Bool)(a1 a2:Addr):It :=
 ⟨fun i H=>∃ xs ys x y,SqC c H a1 xs/\SqC c H a2 ys/\xs[i]?=some x/\ys[i]?=some y,
  fun i H v H'=>∃ T x y,v=.ref T/\H T=none/\H'=upd H T (.tup [x,y])/\(∀ xs,SqC c H a1 xs->xs[i]?=some x)/\(∀ ys,SqC c H a2 ys->ys[i]?=some y),
  fun i H=>∃ xs ys,SqC c H a1 xs/\SqC c H a2 ys/\xs.length<=i⟩
section
variable {X:Cx}{pins:List (Addr×Obj)}{σ:St}{H:Hp}{s:Shared}
theorem Inv.turnT {ch:List Addr}{h'':Heap}{x y:V}{u v:Value}(I:Inv X pins σ H s)(fr:∀ b∈ch,ny X pins H b)(kp':∀ b o,b∉ch->s.heap.get? b=some o->h''.get? b=some o)(hT':IsPair h'' s.heap.objs.size u v)(ru:RelV x u)(rv:RelV y v) :
 Inv X pins σ (upd H s.heap.objs.size (.tup [x,y])) { s with heap:=h''}:=by
 have hn:H s.heap.objs.size=none:=I.dZ.fresh (aa _)
 refine I.step (g':=s.gens) (d':=s.drawn) (t':=s.toks) (h':=h'') (ch:=ch) (fun b hb=>?_) (fun b o _ _ hb e _=>kp' b o hb e) (fun b o _ _ hb e _=>⟨o.slots,kp' b o hb e⟩)
  (fun b o hb e n=>by rw[dR (aB (jj e))];exact n) (fun b o hb e=>⟨o,kp' b o hb e⟩)
  (fun b zs e=>by rw[dR (eJ e hn)];exact e) (fun b o u e=>by rw[dR (eJ e hn)];exact e) (fun b ps e=>⟨#[],by rw[dR (eJ e hn),e];simp⟩) (fun m hm=>?_) (fun b o e=>?_) I.bare
 ·obtain⟨f0,f1,f2,f3,f4,f5⟩:=fr b hb
  exact⟨f3,f1,f4,f5⟩
 ·obtain⟨o,es,ep,ho,rr⟩:=hm
  exact⟨o,es,ep,kp' _ o (fun q=>(fr _ q).2.1 rfl) ho,rr⟩
 ·by_cases hb:b=s.heap.objs.size
  ·subst hb;rw[dH]at e;cases e
   exact⟨by show 2<=sizeLine;decide,[u,v],.cons ru (.cons rv .nil),⟨_,hT',rfl,0,rfl⟩⟩
  ·rw[dR hb]at e
   refine(I.dZ b o e).uU (fun d v' hd q=>kp' d v' (fun hm=>?_) q) (fun d q=>by rw[dR (eJ q hn)];exact q) fun d zs q=>by rw[dR (eJ q hn)];exact q
   have nn:=(fr d hm).1
   rcases hd with rfl | hd
   ·rw[nn]at e;cases e
   ·rw[nn]at hd;cases hd
theorem Inv.turnK {ch:List Addr}{h'':Heap}(I:Inv X pins σ H s)(fr:∀ b∈ch,ny X pins H b)(kp':∀ b o,b∉ch->s.heap.get? b=some o->h''.get? b=some o):Inv X pins σ H { s with heap:=h''}:=by
 refine I.step (g':=s.gens) (d':=s.drawn) (t':=s.toks) (h':=h'') (ch:=ch) (fun b hb=>?_) (fun b o _ _ hb e _=>kp' b o hb e) (fun b o _ _ hb e _=>⟨o.slots,kp' b o hb e⟩)
  (fun b o hb e n=>n) (fun b o hb e=>⟨o,kp' b o hb e⟩) (fun b zs e=>e) (fun b o u e=>e) (fun b ps e=>⟨#[],by rw[e];simp⟩) (fun m hm=>?_) (fun b o e=>?_) I.bare
 ·obtain⟨f0,f1,f2,f3,f4,f5⟩:=fr b hb
  exact⟨f3,f1,f4,f5⟩
 ·obtain⟨o,es,ep,ho,rr⟩:=hm
  exact⟨o,es,ep,kp' _ o (fun q=>(fr _ q).2.1 rfl) ho,rr⟩
 ·refine(I.dZ b o e).uU (fun d v' hd q=>kp' d v' (fun hm=>?_) q) (fun d q=>q) fun d zs q=>q
  have nn:=(fr d hm).1
  rcases hd with rfl | hd
  ·rw[nn]at e;cases e
  ·rw[nn]at hd;cases hd
end
theorem turn_zip {P:Program}{w:World}{K:PySem.W.Frag}{elts:List Expr}{kk:Nat}{qm:Pos}{c:Bool}{z TI TO i1 i2 l1 l2:Addr}(D:ZipApart z TI TO i1 i2 l1 l2) :
 Turn P w K (.Tuple elts kk qm) (Itz c l1 l2) [z,TI,TO,i1,i2] z (fun i h=>IsZip h z TI TO .none/\IsPair h TI (.ref i1) (.ref i2)/\(∃ a b,IsPair h TO a b)/\lR c h i1 l1 i/\lR c h i2 l2 i) where
 mem:=by simp
 obj:=fun i h st b hb=>by
  obtain⟨hz,hTI,⟨a,b',hTO⟩,h1,h2⟩:=st
  simp only[bF,bo,cE]at hb
  rcases hb with rfl | rfl | rfl | rfl | rfl
  ·exact⟨_,hz,fun v q=>by cases q⟩
  ·exact⟨_,hTI,fun v q=>by cases q⟩
  ·exact⟨_,hTO,fun v q=>by cases q⟩
  ·exact h1.data
  ·exact h2.data
 keep:=fun i h h' st k=>by
  obtain⟨hz,hTI,⟨a,b',hTO⟩,h1,h2⟩:=st
  exact⟨k z (by simp) _ hz,k TI (by simp) _ hTI,⟨a,b',k TO (by simp) _ hTO⟩,h1.at fun o e=>k i1 (by simp) o e,h2.at fun o e=>k i2 (by simp) o e⟩
 item:=by
  intro X hP hw hK hc i pins s σ H E I hf st hg
  subst hP hw hK
  obtain⟨hz,hTI,⟨a,b',hTO⟩,h1,h2⟩:=st
  obtain⟨xs,ys,x,y,q1,q2,ex,ey⟩:=hg
  obtain⟨us,r1,p1⟩:=q1.val I
  obtain⟨ws,r2,p2⟩:=q2.val I
  obtain⟨u,eu,ru⟩:=r1.get ex
  obtain⟨v,ev,rv⟩:=r2.get ey
  refine zip_item D ⟨hz,hTI,hTO,h1,h2,p1,p2⟩ (by simpa using eu) (by simpa using ev) fun h' S' hT hk=>?_
  refine⟨_,rfl,wpAny_letOwnedTupleGo_zip S'.z fun h'' e'' t''=>?_⟩
  have S'':=S'.mz D (f':=.none) e'' t''.extBut
  have Tz:s.heap.objs.size≠z:=bg (jj hz)
  have hT':IsPair h'' s.heap.objs.size u v:=t''.extBut _ _ Tz hT
  have kp:ZK z TO i1 i2 s.heap h'':=hk.trans (zk_z t''.extBut)
  have hn:H s.heap.objs.size=none:=I.dZ.fresh (aa _)
  have fr:∀ b∈[z,TO,i1,i2],ny X pins H b:=fun b hb=>hf b (by
   simp only[bF,bo,cE]at hb ⊢
   rcases hb with q | q | q | q <;> simp[q])
  have kp':∀ b o,b∉[z,TO,i1,i2]->s.heap.get? b=some o->h''.get? b=some o:=fun b o hb e=>kp b o (fun q=>hb (by simp[q])) (fun q=>hb (by simp[q])) (fun q=>hb (by simp[q])) (fun q=>hb (by simp[q])) e
  have I1:Inv X pins σ (upd H s.heap.objs.size (.tup [x,y])) { s with heap:=h''}:=I.turnT fr kp' hT' ru rv
  refine⟨.ref s.heap.objs.size,_,I1,rfl,⟨_,x,y,rfl,hn,rfl,fun zs q=>by rw[q.inj q1];exact ex,fun zs q=>by rw[q.inj q2];exact ey⟩,⟨S''.z,S''.ti,⟨_,_,S''.to⟩,S''.n1,S''.n2⟩,fun b hb=>?_⟩
  obtain⟨o,e,_⟩:∃ o,s.heap.get? b=some o/\True:=by
   simp only[bF,bo,cE]at hb
   rcases hb with rfl | rfl | rfl | rfl | rfl
   ·exact⟨_,hz,trivial⟩
   ·exact⟨_,hTI,trivial⟩
   ·exact⟨_,hTO,trivial⟩
   ·obtain⟨o,e⟩:=h1.ex;exact⟨o,e,trivial⟩
   ·obtain⟨o,e⟩:=h2.ex;exact⟨o,e,trivial⟩
  rw[dR (aB (jj e))]
  exact(hf b hb).1
 done:=by
  intro X hP hw hK hc i pins s σ H E I hf st hg
  subst hP hw hK
  obtain⟨hz,hTI,⟨a,b',hTO⟩,h1,h2⟩:=st
  obtain⟨xs,ys,q1,q2,hx⟩:=hg
  obtain⟨us,r1,p1⟩:=q1.val I
  obtain⟨ws,r2,p2⟩:=q2.val I
  have hl:=r1.length
  refine zip_end (I.ok.hd hc) D ⟨hz,hTI,hTO,h1,h2,p1,p2⟩ (by simp;omega) fun h' hk=>⟨rfl,?_⟩
  have fr:∀ b∈[z,TO,i1,i2],ny X pins H b:=fun b hb=>hf b (by
   simp only[bF,bo,cE]at hb ⊢
   rcases hb with q | q | q | q <;> simp[q])
  have kp':∀ b o,b∉[z,TO,i1,i2]->s.heap.get? b=some o->h'.get? b=some o:=fun b o hb e=>hk b o (fun q=>hb (by simp[q])) (fun q=>hb (by simp[q])) (fun q=>hb (by simp[q])) (fun q=>hb (by simp[q])) e
  exact I.turnK fr kp'
 self:=fun _ _ _ _ _ st h=>wpAny_pyIter_zip st.1 h
def pU (a:Addr):Obj:={ cls:=.type "tuple_iterator",data:=.fields #[.ref a,.int 0 0]}
def zH (l1 l2:Addr)(h:Heap):Heap :=
 ((((h.push (pU l1)).push (pU l2)).push { cls:=.type "tuple",data:=.seq #[.ref h.objs.size,.ref (h.push (pU l1)).objs.size]}).push { cls:=.type "tuple",data:=.seq #[.none,.none]}).push
  { cls:=.type "zip",data:=.fields #[.none,.bool false,.bool false,.ref ((h.push (pU l1)).push (pU l2)).objs.size,.ref (((h.push (pU l1)).push (pU l2)).push { cls:=.type "tuple",data:=.seq #[.ref h.objs.size,.ref (h.push (pU l1)).objs.size]}).objs.size]}
theorem zip_newT (l1 l2:Addr)(xs ys:Array Value):Meets (Builtin.«zip.__new__» ⟨[.type "zip",.ref l1,.ref l2],[]⟩) (fun _ R s=>s.heap.IsTuple l1 xs/\s.heap.IsTuple l2 ys /\
 R (.ok (.ret (.ref (s.heap.objs.size+4)))) { s with heap:=zH l1 l2 s.heap}) :=
 .of_wp fun prog w A R s h=>by
  obtain⟨hp,g,d,tk,os⟩:=s;obtain⟨hl1,hl2,h⟩:=h
  have hsub:=sub_zip
  have t1:Heap.IsTuple (Shared.heap ⟨hp,g,d,tk,os⟩) l1 xs:=hl1
  have t2:Heap.IsTuple (Shared.heap ⟨hp.push { cls:=.type "tuple_iterator",data:=.fields #[.ref l1,.int 0 0]},g,d,tk,os⟩) l2 ys:=Heap.IsTuple.push hl2 _
  wp_walk using wpAny_pyIter_tuple t1,wpAny_pyIter_tuple t2
  refine⟨_,rfl,?_⟩
  have e:hp.objs.size+4=((((hp.push (pU l1)).push (pU l2)).push { cls:=.type "tuple",data:=.seq #[.ref hp.objs.size,.ref (hp.push (pU l1)).objs.size]}).push { cls:=.type "tuple",data:=.seq #[.none,.none]}).objs.size:=by
   simp only[a6]
  have h':R (.ok (.ret (.ref (hp.objs.size+4)))) _:=h
  rw[e]at h'
  exact h'
theorem zip_made {prog:Program}{w:World}{A:Around}{E:Value->Shared->Prop}{s:Shared}{c:Bool}{l1 l2:Addr}{xs ys:Array Value}{Q:Value->Shared->Prop}(p1:ud c s.heap l1 xs)(p2:ud c s.heap l2 ys)
 (h:∀ h',IsZip h' (s.heap.objs.size+4) (s.heap.objs.size+2) (s.heap.objs.size+3) .none->IsPair h' (s.heap.objs.size+2) (.ref s.heap.objs.size) (.ref (s.heap.objs.size+1))->IsPair h' (s.heap.objs.size+3) .none .none ->
   lR c h' s.heap.objs.size l1 0->lR c h' (s.heap.objs.size+1) l2 0->(∀ b o,s.heap.get? b=some o->h'.get? b=some o)->Q (.ref (s.heap.objs.size+4)) { s with heap:=h'}) :
 wpAny (model prog w) A (call (.type "zip") [.ref l1,.ref l2]) Q E s:=by
 cases c with
 | false=>exact call_zip_2 p1 p2 fun h' a1 a2 a3 a4 a5 _ a7=>h h' a1 a2 a3 a4 a5 a7
 | true =>
  refine callType_new F.called_zip (by decide) (F.typeCall_zip_2 _ _) (F.newCall_zip_2 _ _) (fun obj=>F.args_object_init_3 obj _ _) F.entry_zip_new (zip_newT l1 l2 xs ys) ⟨p1,p2,?_⟩
  have z1:(s.heap.push (pU l1)).objs.size=s.heap.objs.size+1:=a6 ..
  have z2:((s.heap.push (pU l1)).push (pU l2)).objs.size=s.heap.objs.size+2:=by rw[a6,z1]
  have z3:(((s.heap.push (pU l1)).push (pU l2)).push { cls:=.type "tuple",data:=.seq #[.ref s.heap.objs.size,.ref (s.heap.push (pU l1)).objs.size]}).objs.size=s.heap.objs.size+3:=by rw[a6,z2]
  have z4:((((s.heap.push (pU l1)).push (pU l2)).push { cls:=.type "tuple",data:=.seq #[.ref s.heap.objs.size,.ref (s.heap.push (pU l1)).objs.size]}).push { cls:=.type "tuple",data:=.seq #[.none,.none]}).objs.size=s.heap.objs.size+4:=by rw[a6,z3]
  have g0:(zH l1 l2 s.heap).get? s.heap.objs.size=some (pU l1):=iV _ (iV _ (iV _ (iV _ (av _ rfl))))
  have g1:(zH l1 l2 s.heap).get? (s.heap.push (pU l1)).objs.size=some (pU l2):=iV _ (iV _ (iV _ (av _ rfl)))
  have g2:(zH l1 l2 s.heap).get? ((s.heap.push (pU l1)).push (pU l2)).objs.size=some _:=iV _ (iV _ (av _ rfl))
  have g3:(zH l1 l2 s.heap).get? (((s.heap.push (pU l1)).push (pU l2)).push { cls:=.type "tuple",data:=.seq #[.ref s.heap.objs.size,.ref (s.heap.push (pU l1)).objs.size]}).objs.size=some _:=iV _ (av _ rfl)
  have g4:(zH l1 l2 s.heap).get? ((((s.heap.push (pU l1)).push (pU l2)).push { cls:=.type "tuple",data:=.seq #[.ref s.heap.objs.size,.ref (s.heap.push (pU l1)).objs.size]}).push { cls:=.type "tuple",data:=.seq #[.none,.none]}).objs.size=some _:=av _ rfl
  rw[z1]at g1
  rw[z2,z1]at g2
  rw[z3]at g3
  rw[z4,z2,z3]at g4
  exact⟨⟨_,g4,rfl⟩,h _ g4 g2 g3 ⟨_,g0,rfl,rfl⟩ ⟨_,g1,rfl,rfl⟩ fun b o e=>iV _ (iV _ (iV _ (iV _ (iV _ e))))⟩
section
variable {X:Cx}
def iZip (ta:TA):TI:=fun σ H R=>ta σ H fun vs H1=>match vs with
 | [.ref a,.ref b]=>∃(c:Bool) (xs ys:List V),SqC c H1 a xs/\SqC c H1 b ys/\R (Itz c a b) H1
 | _=>False
theorem pi_zip {elts:List Expr}{kk:Nat}{qm:Pos}{a b:Expr}{ta:TA}{p pos:Pos}(hg:Gl X "zip")(hm:X.mg "zip"=none)(ha:PA X [a,b] ta)(hs:starEach [a,b] X.env=[(false,eval a X.env),(false,eval b X.env)]:=by rfl)(hs2:starEach [b] X.env=[(false,eval b X.env)]:=by rfl) :
 PI X (.Tuple elts kk qm) (.Call (.Name "zip" p) [a,b] [] pos) (iZip ta):=by
 intro pins s σ H R I h
 refine Call_ (oF I hg hm boot_zip (bw (fq (ha pos pins s σ H _ I h) fun us s1 p4=>?_) (by rw[hs,hs2]) (by rw[hs2];rfl)))
 obtain⟨vs,H1,I1,r1,q1⟩:=p4
 try dsimp only at q1
 split at q1
 ·rename_i l1 l2
  obtain⟨c,xs,ys,q1,q2,q⟩:=q1
  obtain⟨u1,u2,rfl,e1,e2⟩:=r1.two
  cases e1;cases e2
  obtain⟨us,r1,p1⟩:=q1.val I1
  obtain⟨ws,r2,p2⟩:=q2.val I1
  have lt:∀ {l:Addr} {o:HO},H1 l=some o->l<s1.heap.objs.size:=fun e=>I1.dZ.lt e
  obtain⟨o1,w1⟩:=q1.ex
  obtain⟨o2,w2⟩:=q2.ex
  refine zip_made p1 p2 fun h' hz hTI hTO n1 n2 kp=>wpAny_pyIter_zip hz ?_
  have I2:Inv X pins σ H1 { s1 with heap:=h'}:=I1.kept (t':=s1.toks) kp
  refine⟨s1.heap.objs.size+4,_,_,_,H1,rfl,I2,turn_zip (c:=c) (zipApart_new (lt w1) (lt w2)),⟨hz,hTI,⟨_,_,hTO⟩,n1,n2⟩,fun b hb=>?_,q⟩
  have hb':s1.heap.objs.size<=b:=by
   simp only[bF,bo,cE]at hb
   rcases hb with e | e | e | e | e <;> subst e
   ·exact aZ ..
   ·exact aZ ..
   ·exact aZ ..
   ·exact aa _
   ·exact aZ ..
  exact I1.fpOk hb' (I1.dZ.fresh hb')
 ·exact q1.elim
def rAllC (g:List Bool->Bool):List V->Hp->VK->Prop:=fun vs H Q=>match vs with
 | [.ref p]=>∃ bs:List Bool,H p=some (.lst (bs.map V.bl))/\Q (.bl (g bs)) H
 | _=>False
theorem range_all (bs:List Bool):(List.range bs.length).all (fun i=>bs.getD i true)=bs.all id:=by
 rw[cz,cn,cn]
 constructor
 ·intro h b hb
  obtain⟨i,hi,e⟩:=ck hb
  have:=h i (by simpa using hi)
  rw[aX,tL hi,e]at this
  exact this
 ·intro h i hi
  have hi':i<bs.length:=by simpa using hi
  rw[aX,tL hi']
  exact h _ (cJ _)
theorem allC (hc:X.calm=true):gM X (.builtin "all") (rAllC fun bs=>bs.all id):=by
 intro pins s σ H vs us Q I rv h
 unfold rAllC at h
 split at h
 ·rename_i p
  obtain⟨bs,hp,q⟩:=h
  obtain⟨u,rfl,ru⟩:=rv.one
  cases ru
  obtain⟨z,d9,n,r,hl,e⟩:=I.vB hp
  have isl:s.heap.IsList p d9.toArray:=⟨_,e,rfl,n,rfl⟩
  have lt:p≠s.heap.objs.size:=aB (jj e)
  refine call_all_walk (wpAny_pyIter_list isl ⟨_,_,_,_,_,_,fun i=>bs.getD i true,rfl,Walks.list (A:=X.A.in1) (I.ok.hd hc) s.heap.objs.size p lt d9.toArray,⟨⟨_,av _ rfl,rfl,rfl⟩,isl.push _⟩,?_,fun h' tk kp=>?_⟩)
  ·intro i v s' Q' E' hv hq
   have hv':d9[i]?=some v:=by simpa using hv
   have hb:∃ b,bs[i]?=some b/\v=.bool b:=by
    cases eb:(bs.map V.bl)[i]? with
    | none=>have:=r.none_of eb;rw[hv']at this;cases this
    | some y =>
     obtain⟨u,hu,ry⟩:=r.get eb
     rw[hv']at hu;cases hu
     rw[tK]at eb
     cases e2:bs[i]? with
     | none=>rw[e2]at eb;cases eb
     | some b=>rw[e2]at eb;cases eb;exact⟨b,rfl,ry⟩
   obtain⟨b,eb,rfl⟩:=hb
   have e3:bs.getD i true=b:=by rw[aX,eb];rfl
   have hq':Q' (bs.getD i true) s':=hq
   rw[e3]at hq'
   exact bH hq'
  ·have I2:Inv X pins σ H { s with heap:=h',toks:=tk}:=I.kept fun b o e'=>kp b o (by simpa using aB (jj e')) (iV _ e')
   have len:d9.toArray.size=bs.length:=by rw[au,<- hl,fg]
   rw[len,range_all]
   exact⟨.bl _,H,I2,rfl,q⟩
 ·exact h.elim
def rEqN:R2:=fun x y H Q=>match x,y with
 | .fH,.fH=>Q (.bl true) H
 | .int i,.int j=>Q (.bl (decide (i=j))) H
 | .str i,.str j=>Q (.bl (decide (i=j))) H
 | .bl i,.bl j=>Q (.bl (decide (i=j))) H
 | _,_=>False
theorem eqN:iT X (compareOp .Eq) rEqN:=op_eq.imp fun x y H Q q=>by
 unfold rEqN at q
 split at q
 ·exact⟨rfl,by simpa using q⟩
 ·exact⟨rfl,by rw[dI];exact q⟩
 ·exact⟨rfl,by rw[dS];exact q⟩
 ·exact⟨rfl,by rw[dB];exact q⟩
 ·exact q.elim
end
section
variable {js:List (Option Nat)}{g:TG}{tt:TT}{te:TE}{σ:St}{H:Hp}{fin:List V->Hp->Prop}
theorem compZip {c:Bool}{a1 a2:Addr}{xs zs:List V}(hn:xs.length=zs.length)(Pv:Nat->List V->Hp->Prop)(h0:Pv 0 [] H)(hl:∀ i ys H,Pv i ys H->SqC c H a1 xs/\SqC c H a2 zs)
 (hs:∀ i x y ys H T,i<xs.length->xs[i]?=some x->zs[i]?=some y->Pv i ys H->H T=none->g (.ref T) (ft js σ) (upd H T (.tup [x,y])) fun lU H2=>Ext (ft js σ) lU/\tt lU H2 fun b H3=>if b=true then te lU H3 (CNx xs.length i Pv ys)else CSk xs.length i Pv ys H3)
 (hd:∀ ys H,Pv xs.length ys H->fin ys H):wComp js g tt te (Itz c a1 a2) σ H fin:=by
 refine⟨fun i m ys H=>m=xs.length - i/\i<=xs.length/\Pv i ys H,⟨xs.length,by simp,aW _,h0⟩,?_⟩
 rintro i m ys H ⟨rfl,hi,p⟩
 obtain⟨q1,q2⟩:=hl i ys H p
 by_cases rW:i<xs.length
 ·refine .inr ⟨⟨xs,zs,xs[i],zs[i]'(by omega),q1,q2,by simp[rW],by simp[show i<zs.length by omega]⟩,fun v H' yl=>?_⟩
  obtain⟨T,x,y,rfl,hT,rfl,h1,h2⟩:=yl
  exact hs i x y ys H T rW (h1 xs q1) (h2 zs q2) p hT
 ·have e:i=xs.length:=by omega
  subst e
  exact .inl ⟨⟨xs,zs,q1,q2,aa _⟩,hd ys H p⟩
end
inductive DV where
 | fH | bl (b:Bool) | int (i:Int) | str (z:Str) | lst (ds:List DV) | tup (ds:List DV)
mutual
def dep:DV->Nat
 | .lst ds=>xl ds+1
 | .tup ds=>xl ds+1
 | _=>0
def xl:List DV->Nat
 | []=>0
 | d::ds=>max (dep d) (xl ds)
end
mutual
def wid:DV->Nat
 | .lst ds=>max ds.length (wN ds)
 | .tup ds=>max ds.length (wN ds)
 | _=>0
def wN:List DV->Nat
 | []=>0
 | d::ds=>max (wid d) (wN ds)
end
mutual
def Is (H:Hp):DV->V->Prop
 | .fH,v=>v=.fH
 | .bl b,v=>v=.bl b
 | .int i,v=>v=.int i
 | .str z,v=>v=.str z
 | .lst ds,v=>∃ p vs,v=.ref p/\H p=some (.lst vs)/\jT H ds vs
 | .tup ds,v=>∃ p vs,v=.ref p/\H p=some (.tup vs)/\jT H ds vs
def jT (H:Hp):List DV->List V->Prop
 | [],vs=>vs=[]
 | d::ds,vs=>∃ v r,vs=v::r/\Is H d v/\jT H ds r
end
mutual
theorem Is.mono {H H':Hp}(s:gd H H'):∀(d:DV) (v:V),Is H d v->Is H' d v
 | .fH,_,h=>h
 | .bl _,_,h=>h
 | .int _,_,h=>h
 | .str _,_,h=>h
 | .lst ds,_,h=>by
  obtain⟨p,vs,e,hp,q⟩:=h
  exact⟨p,vs,e,s _ _ hp,jT.mono s ds vs q⟩
 | .tup ds,_,h=>by
  obtain⟨p,vs,e,hp,q⟩:=h
  exact⟨p,vs,e,s _ _ hp,jT.mono s ds vs q⟩
theorem jT.mono {H H':Hp}(s:gd H H'):∀(ds:List DV) (vs:List V),jT H ds vs->jT H' ds vs
 | [],_,h=>h
 | d::ds,_,h=>by
  obtain⟨v,r,e,h1,h2⟩:=h
  exact⟨v,r,e,Is.mono s d v h1,jT.mono s ds r h2⟩
end
theorem jT.len {H:Hp}:∀ {ds:List DV} {vs:List V},jT H ds vs->vs.length=ds.length
 | [],_,h=>by rw[show _=[]from h];rfl
 | d::ds,_,h=>by obtain⟨v,r,rfl,_,h2⟩:=h;rw[aE,aE,jT.len h2]
theorem jT.get {H:Hp}:∀ {ds:List DV} {vs:List V} {i:Nat} {v:V},jT H ds vs->vs[i]?=some v->∃ d,ds[i]?=some d/\Is H d v
 | [],_,i,v,h,e=>by rw[show _=[]from h]at e;simp at e
 | d::ds,_,0,v,h,e=>by
  obtain⟨v',r,rfl,h1,h2⟩:=h
  simp at e;subst e;exact⟨d,rfl,h1⟩
 | d::ds,_,i+1,v,h,e=>by
  obtain⟨v',r,rfl,h1,h2⟩:=h
  obtain⟨d',e1,e2⟩:=jT.get (i:=i) h2 (by simpa using e)
  exact⟨d',by simpa using e1,e2⟩
theorem vX:∀ {ds:List DV} {i:Nat} {d:DV},ds[i]?=some d->dep d<=xl ds
 | d::ds,0,d',h=>by simp at h;subst h;unfold xl;omega
 | d::ds,i+1,d',h=>by have:=vX (ds:=ds) (i:=i) (by simpa using h);unfold xl;omega
theorem uQ:∀ {ds:List DV} {i:Nat} {d:DV},ds[i]?=some d->wid d<=wN ds
 | d::ds,0,d',h=>by simp at h;subst h;unfold wN;omega
 | d::ds,i+1,d',h=>by have:=uQ (ds:=ds) (i:=i) (by simpa using h);unfold wN;omega
def r0 (n:Nat):Sp:=fun vs H Q _=>match vs with
 | [x,y]=>∃ d,dep d<=n/\wid d<sizeLine/\Is H d x/\Is H d y/\∀ H',gd H H'->Q (.bl true) H'
 | _=>False
def spNo:Sp:=fun _ _ _ _=>False
def spS:Nat->Sp
 | 0=>spNo
 | n+1=>r0 n
theorem gd.upd {H:Hp}{p:Addr}{o:HO}(h:H p=none):gd H (L2.upd H p o):=fun b u e=>by rw[dR (eJ e h)];exact e
theorem zL {α:Type}{l:List α}{n:Int}(h:0<=n):gi l none (some n)=l.take n.toNat:=by
 obtain⟨m,rfl⟩:∃ m:Nat,n=(m:Int):=⟨n.toNat,by omega⟩
 unfold gi
 rw[HT.lr,HT.qI,List.drop_zero,Nat.sub_zero,gxK]
 by_cases hm:m<=l.length
 ·rw[cy hm]
 ·rw[Nat.min_eq_right (by omega),List.take_length,aV (by omega)]
theorem sJ {α:Type}{l:List α}{n:Int}(h:0<=n):gi l (some n) none=l.drop n.toNat:=by
 obtain⟨m,rfl⟩:∃ m:Nat,n=(m:Int):=⟨n.toNat,by omega⟩
 unfold gi
 rw[HT.lr,HT.qI,gxK]
 by_cases hm:m<=l.length
 ·rw[cy hm,aV (by rw[bQ];omega)]
 ·rw[Nat.min_eq_right (by omega),cw (aa _),cw (by omega),List.take_nil]
end L2
namespace L2
open PySem PySem.Spec PyProof.Rows
section
variable {X:Cx}
def rAppendC:V->List V->Hp->VK->Prop:=fun x vs H Q=>∃ l y xs,x=.ref l/\vs=[y]/\H l=some (.lst xs)/\xs.length<sizeLine/\Q .fH (upd H l (.lst (xs++[y])))
theorem appendC:MtR X "list.append" rAppendC:=MtR.imp mt_append fun x vs H Q q=>by
 obtain⟨l,y,xs,rfl,rfl,a,b,c⟩:=q
 exact⟨_,xs,_,rfl,rfl,a,b,c⟩
end
def nr (H:Hp):List V->List (Nat×Nat)->Prop:=Paired fun v r=>∃ p,v=.ref p/\H p=some (.tup [.int r.1,.int r.2])
def TupS (H H':Hp):Prop:=∀ p xs,H p=some (.tup xs)->H' p=some (.tup xs)
theorem TupS.trans {H H1 H2:Hp}(a:TupS H H1)(b:TupS H1 H2):TupS H H2:=fun p xs h=>b p xs (a p xs h)
theorem nr.mono {H H':Hp}(t:TupS H H'):∀ {vs:List V} {rs:List (Nat×Nat)},nr H vs rs->nr H' vs rs
 | _,_,.nil=>.nil
 | _,_,.cons ⟨p,e,h⟩ r=>.cons ⟨p,e,t _ _ h⟩ (nr.mono t r)
def dvp (r:Nat×Nat):DV:=.tup [.int r.1,.int r.2]
theorem nr.all {H:Hp}:∀ {vs:List V} {rs:List (Nat×Nat)},nr H vs rs->jT H (rs.map dvp) vs
 | _,_,.nil=>rfl
 | _,_,.cons ⟨p,e,h⟩ r=>⟨_,_,rfl,⟨p,_,e,h,_,_,rfl,rfl,_,_,rfl,rfl,rfl⟩,nr.all r⟩
def rr (l:List Nat):Nat->Nat×List (Nat×Nat)
 | 0=>(0,[])
 | i+1=>if l[i]?=some 120 then(i+1,if(rr l i).1<i then(rr l i).2++[((rr l i).1,i)]else(rr l i).2)else rr l i
inductive D where
 | fH | bl (b:Bool) | int (i:Int) | str (z:Str) | lst (ds:List D) | tup (ds:List D) | hJ (ks:List Key) (ds:List D) | mr (k:Nat) | obj (C:Addr) (ns:List Str) (ds:List D) | kK (ks:List Key) (ds:List D) | fn (a:Addr)
inductive MO where
 | box | lst (ds:List D) | hJ (ks:List Key) (ds:List D) | m4 (o:Obj) (kvs:List (Key×V)) (ds:List D) | ins (C:Addr) (ns:List Str) (ds:List D) | dtu (ks:List (List Key)) (ds:List D) | gx (φ:List Addr) (H:Hp) | exc (c:Value)
abbrev MS:=List MO
def zf (μ:MS)(k:Nat):Option (List D):=match μ[k]? with | some (.lst ds)=>some ds | _=>none
theorem pV {μ:MS}{k:Nat}{ds:List D}(h:zf μ k=some ds):μ[k]?=some (.lst ds):=by
 unfold zf at h
 split at h
 ·cases h;assumption
 ·cases h
theorem kG {μ:MS}{k:Nat}{ds:List D}(h:μ[k]?=some (.lst ds)):zf μ k=some ds:=by unfold zf;rw[h]
theorem ze {μ:MS}{ds:List D}:zf (μ++[.lst ds]) μ.length=some ds:=kG (by rw[p6 (aa _),aR];rfl)
abbrev DE:=List (Option D)
mutual
def ij (φ:List Addr)(H:Hp):D->V->Prop
 | .fH,v=>v=.fH
 | .bl b,v=>v=.bl b
 | .int i,v=>v=.int i
 | .str z,v=>v=.str z
 | .lst ds,v=>∃ p vs,v=.ref p/\p∉φ/\H p=some (.lst vs)/\dN φ H ds vs
 | .tup ds,v=>∃ p vs,v=.ref p/\p∉φ/\H p=some (.tup vs)/\dN φ H ds vs
 | .hJ ks ds,v=>∃ p kvs vs,v=.ref p/\p∉φ/\H p=some (.dK kvs)/\kvs.map (·.1)=ks/\vs=kvs.map (·.2)/\dN φ H ds vs
 | .mr k,v=>∃ p,φ[k]?=some p/\v=.ref p
 | .obj C ns ds,v=>∃ p dx fs vs,v=.ref p/\p∉φ/\H p=some (.ins C dx fs)/\fs.map (·.1)=ns/\vs=fs.map (·.2)/\dN φ H ds vs
 | .kK ks ds,v=>∃ p o kvs vs,v=.ref p/\p∉φ/\H p=some (.kI o (.dK kvs))/\kvs.map (·.1)=ks/\vs=kvs.map (·.2)/\dN φ H ds vs
 | .fn a,v=>v=.ref a
def dN (φ:List Addr)(H:Hp):List D->List V->Prop
 | [],vs=>vs=[]
 | d::ds,vs=>∃ v r,vs=v::r/\ij φ H d v/\dN φ H ds r
end
structure Fr (φ:List Addr)(H:Hp)(eB:List Addr)(H':Hp):Prop where
 ext:∃ ψ,eB=φ++ψ/\∀ c∈ψ,H c=none
 keep:∀ c o,c∉φ->H c=some o->H' c=some o
 dom:∀ c,H' c=none->H c=none
theorem Fr.refl (φ:List Addr)(H:Hp):Fr φ H φ H:=⟨⟨[],by simp,fun _ h=>nomatch h⟩,fun _ _ _ h=>h,fun _ h=>h⟩
theorem Fr.trans {φ ee il:List Addr}{H H1 H2:Hp}(a:Fr φ H ee H1)(b:Fr ee H1 il H2):Fr φ H il H2:=by
 obtain⟨⟨ψ,rfl,hψ⟩,k1,d1⟩:=a
 obtain⟨⟨χ,rfl,hχ⟩,k2,d2⟩:=b
 refine⟨⟨ψ++χ,by simp,fun c hc=>?_⟩,fun c o hc e=>k2 c o (fun h=>?_) (k1 c o hc e),fun c h=>d1 c (d2 c h)⟩
 ·rcases List.mem_append.mp hc with h | h
  ·exact hψ c h
  ·exact d1 c (hχ c h)
 ·rcases List.mem_append.mp h with h | h
  ·exact hc h
  ·rw[hψ c h]at e;cases e
theorem Fr.same {φ:List Addr}{H H':Hp}(h:gd H H'):Fr φ H φ H':=⟨⟨[],by simp,fun _ h=>nomatch h⟩,fun c o _ e=>h c o e,fun c e=>h.free e⟩
theorem Fr.new {φ:List Addr}{H:Hp}{p:Addr}{o:HO}(h:H p=none):Fr φ H φ (upd H p o):=.same (gd.upd h)
theorem Fr.put {φ:List Addr}{H:Hp}{p:Addr}{o:HO}(h:p∈φ):Fr φ H φ (upd H p o) :=
 ⟨⟨[],by simp,fun _ h=>nomatch h⟩,fun c u hc e=>by rw[dR (show c≠p from fun z=>hc (by rw[z];exact h))];exact e,fun c e=>by
  unfold upd at e
  split at e
  ·cases e
  ·exact e⟩
theorem Fr.snoc {φ:List Addr}{H:Hp}{p:Addr}(h:H p=none):Fr φ H (φ++[p]) H:=⟨⟨[p],rfl,fun c hc=>by rw[List.mem_singleton.mp hc];exact h⟩,fun _ _ _ e=>e,fun _ e=>e⟩
theorem Fr.xE {φ eB:List Addr}{H H':Hp}(f:Fr φ H eB H'){p:Addr}{o:HO}(h:p∉φ)(e:H p=some o):p∉eB:=by
 obtain⟨⟨ψ,rfl,hψ⟩,_,_⟩:=f
 intro hc
 rcases List.mem_append.mp hc with q | q
 ·exact h q
 ·rw[hψ p q]at e;cases e
theorem Fr.get {φ eB:List Addr}{H H':Hp}(f:Fr φ H eB H'){k:Nat}{p:Addr}(h:φ[k]?=some p):eB[k]?=some p:=by
 obtain⟨⟨ψ,rfl,hψ⟩,_,_⟩:=f
 rw[uD (lE h).1];exact h
mutual
theorem ij.mono {φ eB:List Addr}{H H':Hp}(f:Fr φ H eB H'):∀ {d:D} {v:V},ij φ H d v->ij eB H' d v
 | .fH,_,h=>h
 | .bl _,_,h=>h
 | .int _,_,h=>h
 | .str _,_,h=>h
 | .lst _,_,h=>by obtain⟨p,vs,e,n,hp,q⟩:=h;exact⟨p,vs,e,f.xE n hp,f.keep _ _ n hp,dN.mono f q⟩
 | .tup _,_,h=>by obtain⟨p,vs,e,n,hp,q⟩:=h;exact⟨p,vs,e,f.xE n hp,f.keep _ _ n hp,dN.mono f q⟩
 | .hJ _ _,_,h=>by obtain⟨p,kvs,vs,e,n,hp,q1,q2,q⟩:=h;exact⟨p,kvs,vs,e,f.xE n hp,f.keep _ _ n hp,q1,q2,dN.mono f q⟩
 | .mr _,_,h=>by obtain⟨p,e,q⟩:=h;exact⟨p,f.get e,q⟩
 | .obj _ _ _,_,h=>by obtain⟨p,dx,fs,vs,e,n,hp,q1,q2,q⟩:=h;exact⟨p,dx,fs,vs,e,f.xE n hp,f.keep _ _ n hp,q1,q2,dN.mono f q⟩
 | .kK _ _,_,h=>by obtain⟨p,dx,fs,vs,e,n,hp,q1,q2,q⟩:=h;exact⟨p,dx,fs,vs,e,f.xE n hp,f.keep _ _ n hp,q1,q2,dN.mono f q⟩
 | .fn _,_,h=>h
theorem dN.mono {φ eB:List Addr}{H H':Hp}(f:Fr φ H eB H'):∀ {ds:List D} {vs:List V},dN φ H ds vs->dN eB H' ds vs
 | [],_,h=>h
 | _::_,_,h=>by obtain⟨v,r,e,h1,h2⟩:=h;exact⟨v,r,e,ij.mono f h1,dN.mono f h2⟩
end
theorem dN.len {φ:List Addr}{H:Hp}:∀ {ds:List D} {vs:List V},dN φ H ds vs->vs.length=ds.length
 | [],_,h=>by rw[show _=[]from h];rfl
 | d::ds,_,h=>by obtain⟨v,r,rfl,_,h2⟩:=h;rw[aE,aE,dN.len h2]
theorem dN.get {φ:List Addr}{H:Hp}:∀ {ds:List D} {vs:List V} {i:Nat} {d:D},dN φ H ds vs->ds[i]?=some d->∃ v,vs[i]?=some v/\ij φ H d v
 | [],_,i,d,h,e=>by simp at e
 | d::ds,_,0,d',h,e=>by obtain⟨v',r,rfl,h1,h2⟩:=h;simp at e;subst e;exact⟨v',rfl,h1⟩
 | d::ds,_,i+1,d',h,e=>by
  obtain⟨v',r,rfl,h1,h2⟩:=h
  obtain⟨v,e1,e2⟩:=dN.get (i:=i) h2 (by simpa using e)
  exact⟨v,by simpa using e1,e2⟩
theorem dN.getV {φ:List Addr}{H:Hp}{ds:List D}{vs:List V}{i:Nat}{v:V}(h:dN φ H ds vs)(e:vs[i]?=some v):∃ d,ds[i]?=some d/\ij φ H d v:=by
 have hl:=h.len
 have hi:=(lE e).1
 obtain⟨u,e1,e2⟩:=h.get (d:=ds[i]'(by omega)) (tL (by omega))
 rw[e]at e1;cases e1
 exact⟨_,tL (by omega),e2⟩
theorem dN.app {φ:List Addr}{H:Hp}:∀ {ds es:List D} {vs us:List V},dN φ H ds vs->dN φ H es us->dN φ H (ds++es) (vs++us)
 | [],_,_,_,h,g=>by rw[show _=[]from h];exact g
 | d::ds,es,_,us,h,g=>by obtain⟨v,r,rfl,h1,h2⟩:=h;exact⟨v,r++us,rfl,h1,h2.app g⟩
theorem dN.take {φ:List Addr}{H:Hp}:∀ {ds:List D} {vs:List V} (n:Nat),dN φ H ds vs->dN φ H (ds.take n) (vs.take n)
 | _,_,0,_=>rfl
 | [],_,n+1,h=>by rw[show _=[]from h];rfl
 | d::ds,_,n+1,h=>by obtain⟨v,r,rfl,h1,h2⟩:=h;exact⟨v,r.take n,rfl,h1,h2.take n⟩
theorem dN.drop {φ:List Addr}{H:Hp}:∀ {ds:List D} {vs:List V} (n:Nat),dN φ H ds vs->dN φ H (ds.drop n) (vs.drop n)
 | _,_,0,h=>h
 | [],_,n+1,h=>by rw[show _=[]from h];rfl
 | d::ds,_,n+1,h=>by obtain⟨v,r,rfl,h1,h2⟩:=h;exact h2.drop n
theorem dN.set {φ:List Addr}{H:Hp}{d:D}{v:V}(hd:ij φ H d v):∀ {ds:List D} {vs:List V} (n:Nat),dN φ H ds vs->dN φ H (ds.set n d) (vs.set n v)
 | [],_,n,h=>by rw[show _=[]from h];cases n <;> rfl
 | e::ds,_,0,h=>by obtain⟨w,r,rfl,h1,h2⟩:=h;exact⟨v,r,rfl,hd,h2⟩
 | e::ds,_,n+1,h=>by obtain⟨w,r,rfl,h1,h2⟩:=h;exact⟨w,r.set n v,rfl,h1,h2.set hd n⟩
theorem dN.bls {φ:List Addr}{H:Hp}:∀ {ns:List Bool} {vs:List V},dN φ H (ns.map D.bl) vs->vs=ns.map V.bl
 | [],_,h=>h
 | n::ns,_,h=>by obtain⟨v,r,rfl,h1,h2⟩:=h;rw[show v=.bl n from h1,dN.bls h2];rfl
theorem dN.strs {φ:List Addr}{H:Hp}:∀ {ns:List Str} {vs:List V},dN φ H (ns.map D.str) vs->vs=ns.map V.str
 | [],_,h=>h
 | n::ns,_,h=>by obtain⟨v,r,rfl,h1,h2⟩:=h;rw[show v=.str n from h1,dN.strs h2];rfl
def BxF (φ:List Addr)(H:Hp)(b:Addr):Prop:=∃(q:Addr) (ns:List Int) (i r z:Int),H b=some (.lst [.ref q,.int i,.int r,.int z])/\H q=some (.lst (ns.map V.int))/\q∉φ/\0<=i/\0<=z/\z<2147483647
def j4 (p:Addr)(c:Value)(h:Heap):Prop:=∃ oe vs,h.get? p=some oe/\oe.cls=c/\oe.dict=none/\oe.data=.fields vs/\vs[2]?=some .none
def xp (φ:List Addr)(H:Hp):MO->Addr->Prop
 | .box,p=>BxF φ H p
 | .lst ds,p=>∃ vs,H p=some (.lst vs)/\dN φ H ds vs
 | .hJ ks ds,p=>∃ kvs vs,H p=some (.dK kvs)/\kvs.map (·.1)=ks/\vs=kvs.map (·.2)/\dN φ H ds vs
 | .m4 o kvs ds,p=>H p=some (.kI o (.dK kvs))/\dN φ H ds (kvs.map (·.2))
 | .ins C ns ds,p=>∃ dx fs,H p=some (.ins C dx fs)/\fs.map (·.1)=ns/\dN φ H ds (fs.map (·.2))
 | .dtu ks ds,p=>∃ kvs,H p=some (.dT kvs)/\kvs.map (·.1)=ks/\dN φ H ds (kvs.map (·.2))
 | .gx eI H0,p=>Fr eI H0 φ H/\H p=H0 p/\(∃ o,H p=some o)/\∀ zs,H p≠some (.tup zs)
 | .exc c,p=>H p=some (.ext (j4 p c))
structure d8 (φ:List Addr)(H:Hp)(μ:MS):Prop where
 nd:φ.Nodup
 len:φ.length=μ.length
 at_:∀(k:Nat) (m:MO),μ[k]?=some m->∃ p,φ[k]?=some p/\xp φ H m p
theorem xp.mono {φ eB:List Addr}{H H':Hp}(f:Fr φ H eB H'){m:MO}{p:Addr}(s:∀ o,H p=some o->H' p=some o)(h:xp φ H m p):xp eB H' m p:=by
 cases m with
 | box=>obtain⟨q,ns,i,r,z,h1,h2,h3,h4⟩:=h;exact⟨q,ns,i,r,z,s _ h1,f.keep _ _ h3 h2,f.xE h3 h2,h4⟩
 | lst ds=>obtain⟨vs,h1,h2⟩:=h;exact⟨vs,s _ h1,h2.mono f⟩
 | hJ ks ds=>obtain⟨kvs,vs,h1,h2,h3,h4⟩:=h;exact⟨kvs,vs,s _ h1,h2,h3,h4.mono f⟩
 | m4 o kvs ds=>exact⟨s _ h.1,h.2.mono f⟩
 | ins C ns ds=>obtain⟨dx,fs,h1,h2,h3⟩:=h;exact⟨dx,fs,s _ h1,h2,h3.mono f⟩
 | dtu ks ds=>obtain⟨kvs,h1,h2,h3⟩:=h;exact⟨kvs,s _ h1,h2,h3.mono f⟩
 | gx eI H0=>obtain⟨h1,h2,⟨o,h3⟩,h4⟩:=h;exact⟨h1.trans f,(s _ h3).trans (h3.symm.trans h2),⟨o,s _ h3⟩,fun zs e=>h4 zs (h3.trans ((s _ h3).symm.trans e))⟩
 | exc c=>exact s _ h
theorem xp.ex {φ:List Addr}{H:Hp}{m:MO}{p:Addr}(h:xp φ H m p):∃ o,H p=some o:=by
 cases m with
 | box=>obtain⟨q,ns,i,r,z,h1,_⟩:=h;exact⟨_,h1⟩
 | lst ds=>obtain⟨vs,h1,_⟩:=h;exact⟨_,h1⟩
 | hJ ks ds=>obtain⟨kvs,vs,h1,_⟩:=h;exact⟨_,h1⟩
 | m4 o kvs ds=>exact⟨_,h.1⟩
 | ins C ns ds=>obtain⟨dx,fs,h1,_⟩:=h;exact⟨_,h1⟩
 | dtu ks ds=>obtain⟨kvs,h1,_⟩:=h;exact⟨_,h1⟩
 | gx eI H0=>exact h.2.2.1
 | exc c=>exact⟨_,h⟩
theorem d8.same {φ:List Addr}{H H':Hp}{μ:MS}(h:d8 φ H μ)(s:gd H H'):d8 φ H' μ :=
 ⟨h.nd,h.len,fun k m e=>let ⟨p,e1,e2⟩:=h.at_ k m e;⟨p,e1,e2.mono (.same s) fun o q=>s _ _ q⟩⟩
theorem d8.mem {φ:List Addr}{H:Hp}{μ:MS}(h:d8 φ H μ){p:Addr}(hp:p∈φ):∃ o,H p=some o:=by
 obtain⟨k,hk,e⟩:=ck hp
 obtain⟨q,e1,e2⟩:=h.at_ k (μ[k]'(by have:=h.len;omega)) (tL _)
 rw[tL hk,e]at e1
 cases e1
 exact e2.ex
theorem d8.fresh {φ:List Addr}{H:Hp}{μ:MS}(h:d8 φ H μ){p:Addr}(hp:H p=none):p∉φ:=fun q=>by
 obtain⟨o,e⟩:=h.mem q
 rw[hp]at e;cases e
theorem d8.snoc {φ:List Addr}{H:Hp}{μ:MS}{m:MO}{p:Addr}{o:HO}(h:d8 φ H μ)(hp:H p=none)(hm:xp (φ++[p]) (upd H p o) m p):d8 (φ++[p]) (upd H p o) (μ++[m])/\Fr φ H (φ++[p]) (upd H p o):=by
 have f1:Fr φ H (φ++[p]) H:=.snoc hp
 have f:Fr φ H (φ++[p]) (upd H p o):=⟨f1.ext,fun c u hc e=>gd.upd hp _ _ e,fun c e=>(gd.upd hp).free e⟩
 refine⟨⟨?_,by rw[kH,kH,h.len];rfl,fun k n e=>?_⟩,f⟩
 ·rw[bD]
  exact⟨h.nd,by simp,fun a ha b hb=>by rw[List.mem_singleton.mp hb];intro z;exact h.fresh hp (by rw[<- z];exact ha)⟩
 ·by_cases hk:k<μ.length
  ·rw[uD hk]at e
   obtain⟨q,e1,e2⟩:=h.at_ k n e
   exact⟨q,f.get e1,e2.mono f fun u eu=>gd.upd hp _ _ eu⟩
  ·have hk':k=μ.length:=by
    have:=(lE e).1
    rw[kH,aQ]at this
    omega
   subst hk'
   rw[p6 (aa _),aR]at e
   cases e
   exact⟨p,by rw[p6 (by rw[h.len];exact aa _),h.len,aR];rfl,hm⟩
theorem d8.put {φ:List Addr}{H:Hp}{μ:MS}{m:MO}{p:Addr}{o:HO}{k:Nat}(h:d8 φ H μ)(hk:φ[k]?=some p)(hm:xp φ (upd H p o) m p):d8 φ (upd H p o) (μ.set k m):=by
 have hp:p∈φ:=zk hk
 have f:Fr φ H φ (upd H p o):=.put hp
 refine⟨h.nd,by rw[aH];exact h.len,fun j n e=>?_⟩
 by_cases hj:k=j
 ·subst hj
  have hl:k<μ.length:=by have:=(lE hk).1;have:=h.len;omega
  rw[az hl]at e
  cases e
  exact⟨p,hk,hm⟩
 ·rw[ao hj]at e
  obtain⟨q,e1,e2⟩:=h.at_ j n e
  refine⟨q,e1,e2.mono f fun u eu=>?_⟩
  rw[dR]
  ·exact eu
  ·intro z
   subst z
   have a1:=lE hk
   have a2:=lE e1
   obtain⟨i1,r1⟩:=a1
   obtain⟨i2,r2⟩:=a2
   rcases Nat.lt_or_gt_of_ne hj with z | z
   ·exact List.pairwise_iff_getElem.mp h.nd k j i1 i2 z (r1.trans r2.symm)
   ·exact List.pairwise_iff_getElem.mp h.nd j k i2 i1 z (r2.trans r1.symm)
def iF (φ:List Addr)(H:Hp)(ρ:DE)(σ:St):Prop:=ρ.length=σ.length/\∀(i:Nat) (d:D),ρ[i]?=some (some d)->∃ v,σ[i]?=some (some v)/\ij φ H d v
theorem iF.mono {φ eB:List Addr}{H H':Hp}{ρ:DE}{σ:St}(f:Fr φ H eB H')(h:iF φ H ρ σ):iF eB H' ρ σ:=⟨h.1,fun i d e=>let ⟨v,a,b⟩:=h.2 i d e;⟨v,a,b.mono f⟩⟩
theorem iF.set {φ:List Addr}{H:Hp}{ρ:DE}{σ:St}{d:D}{v:V}(h:iF φ H ρ σ)(hd:ij φ H d v)(i:Nat):iF φ H (ρ.set i (some d)) (σ.set i (some v)):=by
 refine⟨by rw[aH,aH];exact h.1,fun j e hj=>?_⟩
 by_cases hij:i=j
 ·subst hij
  have hl:i<ρ.length:=by have:=(lE hj).1;rwa [aH]at this
  rw[az hl]at hj
  cases hj
  exact⟨v,az (by rw[<- h.1];exact hl),hd⟩
 ·rw[ao hij]at hj
  obtain⟨u,a,b⟩:=h.2 j e hj
  exact⟨u,by rw[ao hij];exact a,b⟩
def lv (μ:MS):D->Option (List D)
 | .lst ds=>some ds
 | .mr k=>zf μ k
 | _=>none
def lc:D->List D->MS->Prop
 | .mr k,ds=>fun μ=>zf μ k=some ds
 | _,_=>fun _=>True
theorem pL {φ:List Addr}{H:Hp}{μ:MS}{d:D}{v:V}{ds:List D}(M:d8 φ H μ)(i:ij φ H d v)(h:lv μ d=some ds):∃ p vs,v=.ref p/\H p=some (.lst vs)/\dN φ H ds vs:=by
 cases d with
 | lst es=>cases h;obtain⟨p,vs,rfl,_,hp,ha⟩:=i;exact⟨p,vs,rfl,hp,ha⟩
 | mr k =>
  obtain⟨p,hp,rfl⟩:=i
  have e:=pV (show zf μ k=some ds from h)
  obtain⟨q,e1,vs,hv,ha⟩:=M.at_ k _ e
  rw[hp]at e1;cases e1
  exact⟨p,vs,rfl,hv,ha⟩
 | _=>cases h
theorem lv_stay {φ eB:List Addr}{H H':Hp}{μ μ':MS}{d:D}{p:Addr}{ds:List D}(M:d8 φ H μ)(i:ij φ H d (.ref p))(h:lv μ d=some ds)(f:Fr φ H eB H')(M':d8 eB H' μ')(c:lc d ds μ'):∃ vs,H' p=some (.lst vs)/\dN eB H' ds vs:=by
 cases d with
 | lst es=>cases h;obtain⟨p',vs,e,n,hp,ha⟩:=i;cases e;exact⟨vs,f.keep _ _ n hp,ha.mono f⟩
 | mr k =>
  obtain⟨p',hp,e⟩:=i
  cases e
  obtain⟨q,e1,vs,hv,ha⟩:=M'.at_ k _ (pV c)
  rw[f.get hp]at e1;cases e1
  exact⟨vs,hv,ha⟩
 | _=>cases h
abbrev DK:=D->MS->Prop
abbrev De:=DE->MS->DK->Prop
abbrev DA:=DE->MS->(List D->MS->Prop)->Prop
abbrev Dt:=DE->MS->(Bool->MS->Prop)->Prop
def sQ (φ:List Addr)(H:Hp)(K:DK)(Q:VK):Prop:=∀ d μ' eB v H',K d μ'->Fr φ H eB H'->d8 eB H' μ'->ij eB H' d v->Q v H'
theorem sQ.mono {φ ee:List Addr}{H H1:Hp}{K:DK}{Q:VK}(h:sQ φ H K Q)(f:Fr φ H ee H1):sQ ee H1 K Q:=fun d μ' eB v H' k g m i=>h d μ' eB v H' k (f.trans g) m i
def tD (w:De):TE:=fun σ H Q=>∃ φ ρ μ K,iF φ H ρ σ/\d8 φ H μ/\w ρ μ K/\sQ φ H K Q
def tDA (w:DA):TA:=fun σ H Q=>∃ φ ρ μ K,iF φ H ρ σ/\d8 φ H μ/\w ρ μ K/\∀ ds μ' eB vs H',K ds μ'->Fr φ H eB H'->d8 eB H' μ'->dN eB H' ds vs->Q vs H'
def wO (w:Dt):TT:=fun σ H Q=>∃ φ ρ μ K,iF φ H ρ σ/\d8 φ H μ/\w ρ μ K/\∀ b μ' eB H',K b μ'->Fr φ H eB H'->d8 eB H' μ'->Q b H'
section
variable {X:Cx}{a b e:Expr}{pos:Pos}
abbrev PD (X:Cx)(e:Expr)(w:De):Prop:=PE X e (tD w)
def dVar (i:Nat):De:=fun ρ μ K=>match ρ[i]? with | some (some d)=>K d μ | _=>False
def dC (d:D):De:=fun _ μ K=>K d μ
theorem dv (i:Nat){x:Str}{pos:Pos}(hN:X.N[i]?=some x:=by rfl)(hv:Vis X.env.scope x:=by first | exact Or.inl rfl | exact Or.inr (Or.inl rfl) | exact Or.inr (Or.inr rfl))(hd:(x==("__debug__" : Str))=false:=by decide)
 (xh:(x==("__classdict__" : Str))=false:=by decide):PD X (.Name x pos) (dVar i):=(yV (i:=i) hN hv hd xh).imp fun σ H Q q=>by
 obtain⟨φ,ρ,μ,K,E,M,w,L⟩:=q
 unfold dVar at w
 split at w
 ·rename_i d hd
  obtain⟨v,e,r⟩:=E.2 i d hd
  exact⟨v,e,L d μ φ v H w (.refl _ _) M r⟩
 ·exact w.elim
theorem dg {i j pos}:PD X (.Constant (.int i) j pos) (dC (.int i)):=fu.imp fun σ H Q pH=>by obtain⟨φ,ρ,μ,K,E,M,w,L⟩:=pH;exact L _ _ φ _ H w (.refl _ _) M rfl
theorem sI {b j pos}:PD X (.Constant (.bool b) j pos) (dC (.bl b)):=pe_bl.imp fun σ H Q qk=>by obtain⟨φ,ρ,μ,K,E,M,w,L⟩:=qk;exact L _ _ φ _ H w (.refl _ _) M rfl
theorem d_non {j pos}:PD X (.Constant .none j pos) (dC .fH):=pe_non.imp fun σ H Q nP=>by obtain⟨φ,ρ,μ,K,E,M,w,L⟩:=nP;exact L _ _ φ _ H w (.refl _ _) M rfl
theorem du {x j pos}:PD X (.Constant (.str x) j pos) (dC (.str x)):=pe_str.imp fun σ H Q pI=>by obtain⟨φ,ρ,μ,K,E,M,w,L⟩:=pI;exact L _ _ φ _ H w (.refl _ _) M rfl
abbrev ue:=D->D->MS->DK->Prop
def zJ (ro:ue)(wa wb:De):De:=fun ρ μ K=>wa ρ μ fun x dJ=>wb ρ dJ fun y eW=>ro x y eW K
def nS (r:R2)(ro:ue):Prop:=∀ φ H x y dx dy μ K Q,d8 φ H μ->ij φ H dx x->ij φ H dy y->ro dx dy μ K->sQ φ H K Q->r x y H Q
theorem tD_op {r:R2}{ro:ue}{wa wb:De}(so:nS r ro){σ:St}{H:Hp}{Q:VK}(h:tD (zJ ro wa wb) σ H Q):tOp r (tD wa) (tD wb) σ H Q:=by
 obtain⟨φ,ρ,μ,K,E,M,w,L⟩:=h
 refine⟨φ,ρ,μ,_,E,M,w,fun d1 dJ ee v1 H1 k1 f1 M1 i1=>?_⟩
 refine⟨ee,ρ,dJ,_,E.mono f1,M1,k1,fun d2 eW il v2 H2 k2 f2 M2 i2=>?_⟩
 exact so il H2 v1 v2 d1 d2 eW K Q M2 (i1.mono f2) i2 k2 (L.mono (f1.trans f2))
theorem rD {op:Operator}{r:R2}{ro:ue}{wa wb:De}(h:iT X (binaryOp op) r)(so:nS r ro)(ha:PD X a wa)(hb:PD X b wb):PD X (.BinOp a op b pos) (zJ ro wa wb):=(iQ h ha hb).imp fun σ H Q q=>tD_op so q
theorem tN {op:CmpOp}{r:R2}{ro:ue}{wa wb:De}(h:iT X (compareOp op) r)(so:nS r ro)(ha:PD X a wa)(hb:PD X b wb)(hm:behindInMarks op b=false):PD X (.Compare a [op] [b] pos) (zJ ro wa wb):=(qK h ha hb hm).imp fun σ H Q q=>tD_op so q
theorem d_ix {r:R2}{ro:ue}{wa wb:De}(h:IxR X r)(so:nS r ro)(ha:PD X a wa)(hb:PD X b wb)(hs:zW b):PD X (.Subscript a b pos) (zJ ro wa wb):=(oz h ha hb hs).imp fun σ H Q q=>tD_op so q
def p8 (w:De):Dt:=fun ρ μ K=>w ρ μ fun d μ'=>match d with | .bl b=>K b μ' | _=>False
theorem tD_bool {w:De}{σ:St}{H:Hp}{Q:Bool->Hp->Prop}(h:wO (p8 w) σ H Q):cB (tD w) σ H Q:=by
 obtain⟨φ,ρ,μ,K,E,M,k,L⟩:=h
 refine⟨φ,ρ,μ,_,E,M,k,fun d μ' eB v H' k' f M' i=>?_⟩
 cases d with
 | bl b=>cases(show v=_ from i);exact L b μ' eB H' k' f M'
 | _=>exact k'.elim
theorem gF {w:De}(h:PD X e w)(he:∀ whole,isTrue e X.env whole=(do let v <- whole;standAt e.pos;holding [v] (truthy v)):=by intro _;rfl):PT X e (wO (p8 w)):=(qJ h he).imp fun σ H Q q=>tD_bool q
theorem m6 {op:CmpOp}{r:R2}{ro:ue}{wa wb:De}(h:iT X (compareOp op) r)(so:nS r ro)(ha:PD X a wa)(hb:PD X b wb)(hm:behindInMarks op b=false):PT X (.Compare a [op] [b] pos) (wO (p8 (zJ ro wa wb))) :=
 (lu h ha hb hm).imp fun σ H Q q=>by
  obtain⟨φ,ρ,μ,K,E,M,k,L⟩:=q
  refine tD_op so ⟨φ,ρ,μ,_,E,M,k,fun d μ' eB v H' k' f M' i=>?_⟩
  cases d with
  | bl b=>cases(show v=_ from i);exact L b μ' eB H' k' f M'
  | _=>exact k'.elim
def dIsN (neg:Bool)(w:De):De:=fun ρ μ K=>w ρ μ fun d μ'=>match d with | .fH=>K (.bl (!neg)) μ' | _=>K (.bl neg) μ'
theorem isN_of {φ:List Addr}{H:Hp}{d:D}{v:V}(i:ij φ H d v):decide (v=V.fH)=(match d with | .fH=>true | _=>false):=by
 cases d with
 | fH=>cases(show v=_ from i);rfl
 | bl _=>cases(show v=_ from i);rfl
 | int _=>cases(show v=_ from i);rfl
 | str _=>cases(show v=_ from i);rfl
 | lst _=>obtain⟨p,vs,rfl,_⟩:=i;rfl
 | tup _=>obtain⟨p,vs,rfl,_⟩:=i;rfl
 | hJ _ _=>obtain⟨p,kvs,vs,rfl,_⟩:=i;rfl
 | mr _=>obtain⟨p,_,rfl⟩:=i;rfl
 | obj _ _ _=>obtain⟨p,dx,fs,vs,rfl,_⟩:=i;rfl
 | kK _ _=>obtain⟨p,dx,fs,vs,rfl,_⟩:=i;rfl
 | fn _=>cases(show v=_ from i);rfl
theorem tD_isN {w:De}{σ:St}{H:Hp}{Q:VK}(h:tD (dIsN false w) σ H Q):tIsN (tD w) σ H Q:=by
 obtain⟨φ,ρ,μ,K,E,M,k,L⟩:=h
 refine⟨φ,ρ,μ,_,E,M,k,fun d μ' eB v H' k' f M' i=>?_⟩
 show Q (.bl _) H'
 rw[isN_of i]
 cases d <;> exact L _ μ' eB _ H' k' f M' rfl
theorem tD_notN {w:De}{σ:St}{H:Hp}{Q:VK}(h:tD (dIsN true w) σ H Q):tNotN (tD w) σ H Q:=by
 obtain⟨φ,ρ,μ,K,E,M,k,L⟩:=h
 refine⟨φ,ρ,μ,_,E,M,k,fun d μ' eB v H' k' f M' i=>?_⟩
 show Q (.bl _) H'
 rw[isN_of i]
 cases d <;> exact L _ μ' eB _ H' k' f M' rfl
end
end L2
namespace L2
open PySem PySem.Spec PyProof.Rows
section
variable {X:Cx}{a b e:Expr}{es:List Expr}{pos:Pos}
theorem PA.imp {es:List Expr}{t t':TA}(h:PA X es t)(hi:∀ σ H Q,t' σ H Q->t σ H Q):PA X es t':=fun pos pins s σ H Q I q=>h pos pins s σ H Q I (hi σ H Q q)
theorem zX.imp {st:List Stmt}{t t':TS}(h:zX X st t)(hi:∀ D σ H,t' D σ H->t D σ H):zX X st t':=fun pins s σ H D I q=>h pins s σ H D I (hi D σ H q)
def dNil:DA:=fun _ μ K=>K [] μ
def tO (wa:De)(wr:DA):DA:=fun ρ μ K=>wa ρ μ fun x dJ=>wr ρ dJ fun xs eW=>K (x::xs) eW
abbrev tY (X:Cx)(es:List Expr)(w:DA):Prop:=PA X es (tDA w)
theorem fB:tY X [] dNil:=fR.imp fun σ H Q p5=>by obtain⟨φ,ρ,μ,K,E,M,w,L⟩:=p5;exact L [] μ φ [] H w (.refl _ _) M rfl
theorem dh {wa:De}{wr:DA}(ha:PD X e wa)(hr:tY X es wr)(hs:starEach (e::es) X.env=(false,eval e X.env)::starEach es X.env:=by rfl):tY X (e::es) (tO wa wr):=(dQ ha hr hs).imp fun σ H Q q=>by
 obtain⟨φ,ρ,μ,K,E,M,w,L⟩:=q
 refine⟨φ,ρ,μ,_,E,M,w,fun d1 dJ ee v1 H1 k1 f1 M1 i1=>?_⟩
 refine⟨ee,ρ,dJ,_,E.mono f1,M1,k1,fun ds eW il vs H2 k2 f2 M2 i2=>?_⟩
 exact L _ eW il _ H2 k2 (f1.trans f2) M2 ⟨v1,vs,rfl,i1.mono f2,i2⟩
theorem al_lst {φ:List Addr}{H:Hp}{μ:MS}{K:DK}{Q:VK}{ds:List D}{vs:List V}{p:Addr}(L:sQ φ H K Q)(M:d8 φ H μ)(h:dN φ H ds vs)(k:K (.lst ds) μ)(hp:H p=none):Q (.ref p) (upd H p (.lst vs)) :=
 L _ μ φ _ _ k (.new hp) (M.same (gd.upd hp)) ⟨p,vs,rfl,M.fresh hp,dH,h.mono (.new hp)⟩
theorem al_tup {φ:List Addr}{H:Hp}{μ:MS}{K:DK}{Q:VK}{ds:List D}{vs:List V}{p:Addr}(L:sQ φ H K Q)(M:d8 φ H μ)(h:dN φ H ds vs)(k:K (.tup ds) μ)(hp:H p=none):Q (.ref p) (upd H p (.tup vs)) :=
 L _ μ φ _ _ k (.new hp) (M.same (gd.upd hp)) ⟨p,vs,rfl,M.fresh hp,dH,h.mono (.new hp)⟩
theorem al_mr {φ:List Addr}{H:Hp}{μ:MS}{K:DK}{Q:VK}{ds:List D}{vs:List V}{p:Addr}(L:sQ φ H K Q)(M:d8 φ H μ)(h:dN φ H ds vs)(k:K (.mr μ.length) (μ++[.lst ds]))(hp:H p=none):Q (.ref p) (upd H p (.lst vs)):=by
 have f:Fr φ H (φ++[p]) (upd H p (.lst vs)):=⟨(Fr.snoc (φ:=φ) hp).ext,fun c u _ e=>gd.upd hp _ _ e,fun c e=>(gd.upd hp).free e⟩
 obtain⟨M',_⟩:=M.snoc (m:=.lst ds) (o:=.lst vs) hp ⟨vs,dH,h.mono f⟩
 exact L _ _ _ _ _ k f M' ⟨p,by rw[p6 (by rw[M.len];exact aa _),M.len,aR];rfl,rfl⟩
def nL (m:Bool)(ds:List D)(μ:MS)(K:DK):Prop:=match m with | false=>K (.lst ds) μ | true=>K (.mr μ.length) (μ++[.lst ds])
theorem al_n {m:Bool}{φ:List Addr}{H:Hp}{μ:MS}{K:DK}{Q:VK}{ds:List D}{vs:List V}{p:Addr}(L:sQ φ H K Q)(M:d8 φ H μ)(h:dN φ H ds vs)(k:nL m ds μ K)(hp:H p=none):Q (.ref p) (upd H p (.lst vs)):=by
 cases m with
 | false=>exact al_lst L M h k hp
 | true=>exact al_mr L M h k hp
def dLst (m:Bool)(w:DA):De:=fun ρ μ K=>w ρ μ fun ds dJ=>ds.length<=sizeLine/\nL m ds dJ K
def dTup (w:DA):De:=fun ρ μ K=>w ρ μ fun ds dJ=>ds.length<=sizeLine/\K (.tup ds) dJ
theorem ik {w:DA}(m:Bool)(h:tY X es w):PD X (.List es pos) (dLst m w):=(pe_lst h).imp fun σ H Q ⟨φ,ρ,μ,K,E,M,w,L⟩ =>
 ⟨φ,ρ,μ,_,E,M,w,fun ds dJ ee vs H1 k1 f1 M1 i1=>⟨by rw[i1.len];exact k1.1,fun p hp=>al_n (L.mono f1) M1 i1 k1.2 hp⟩⟩
theorem gu {w:DA}{x1}(h:tY X es w):PD X (.Tuple es x1 pos) (dTup w):=(pe_tup h).imp fun σ H Q ⟨φ,ρ,μ,K,E,M,w,L⟩ =>
 ⟨φ,ρ,μ,_,E,M,w,fun ds dJ ee vs H1 k1 f1 M1 i1=>⟨by rw[i1.len];exact k1.1,fun p hp=>al_tup (L.mono f1) M1 i1 k1.2 hp⟩⟩
abbrev iN:=List D->MS->DK->Prop
def gv (f:iN):Sp:=fun vs H Q _=>∃ φ ds μ K,dN φ H ds vs/\d8 φ H μ/\f ds μ K/\sQ φ H K Q
def xR (f:iN)(w:DA):De:=fun ρ μ K=>w ρ μ fun ds dJ=>f ds dJ K
theorem d_call {f:iN}{w:DA}{x:Str}{p:Pos}{k:Nat}{ps:List Str}(C:o3 X.prog X.w X.K X.mg X.base x k ps (gv f))(hr:gD k X.A)(hg:Gl X x)(ha:tY X (e::es) w)
 (sC:(x==("__debug__" : Str))=false:=by decide) (he:starEach (e::es) X.env=(false,eval e X.env)::starEach es X.env:=by rfl) (kh:(backTo pos (starEach es X.env)).any (·.1)=false:=by rfl) :
 PD X (.Call (.Name x p) (e::es) [] pos) (xR f w):=(vj C hr hg ha sC he kh).imp fun σ H Q ⟨φ,ρ,μ,K,E,M,w,L⟩ =>
 ⟨φ,ρ,μ,_,E,M,w,fun ds dJ ee vs H1 k1 f1 M1 i1=>by show gv f (vs++[]) H1 Q E0;rw[aN];exact⟨ee,ds,dJ,K,i1,M1,k1,L.mono f1⟩⟩
def lP (r:List V->Hp->VK->Prop)(f:iN):Prop:=∀ φ H vs ds μ K Q,d8 φ H μ->dN φ H ds vs->f ds μ K->sQ φ H K Q->r vs H Q
theorem tD_cb {r:List V->Hp->VK->Prop}{f:iN}{w:DA}(so:lP r f){σ:St}{H:Hp}{Q:VK}(h:tD (xR f w) σ H Q):tCB r (tDA w) σ H Q:=by
 obtain⟨φ,ρ,μ,K,E,M,w,L⟩:=h
 exact⟨φ,ρ,μ,_,E,M,w,fun ds dJ ee vs H1 k1 f1 M1 i1=>so ee H1 vs ds dJ K Q M1 i1 k1 (L.mono f1)⟩
theorem pS {r:List V->Hp->VK->Prop}{f:iN}{w:DA}{id:String}{x:Str}{p:Pos}(hc:gM X (.builtin id) r)(so:lP r f)(hg:Gl X x)(hm:X.mg x=none)(hv:bootBuiltins x=some (.builtin id))(ha:tY X (e::es) w)(hn:x ≠ "__name__":=by decide)(sC:(x==("__debug__" : Str))=false:=by decide)
 (he:starEach (e::es) X.env=(false,eval e X.env)::starEach es X.env:=by rfl) (kh:(backTo pos (starEach es X.env)).any (·.1)=false:=by rfl):PD X (.Call (.Name x p) (e::es) [] pos) (xR f w) :=
 (fh hc hg hm hv ha hn sC he kh).imp fun σ H Q q=>tD_cb so q
theorem d_ty {r:List V->Hp->VK->Prop}{f:iN}{w:DA}{T:String}{x:Str}{p:Pos}(hc:gM X (.type T) r)(so:lP r f)(hg:Gl X x)(hm:X.mg x=none)(hv:bootBuiltins x=some (.type T))(ha:tY X (e::es) w)(hn:x ≠ "__name__":=by decide)(sC:(x==("__debug__" : Str))=false:=by decide)
 (he:starEach (e::es) X.env=(false,eval e X.env)::starEach es X.env:=by rfl) (kh:(backTo pos (starEach es X.env)).any (·.1)=false:=by rfl):PD X (.Call (.Name x p) (e::es) [] pos) (xR f w) :=
 (xC hc hg hm hv ha hn sC he kh).imp fun σ H Q q=>tD_cb so q
abbrev DMt:=D->List D->MS->DK->Prop
def SoMt (K:PySem.W.Frag)(T:String)(r:V->List V->Hp->VK->Prop)(f:DMt):Prop:=∀ φ H x vs d ds μ K' Q,d8 φ H μ->ij φ H d x->dN φ H ds vs->f d ds μ K'->sQ φ H K' Q->r x vs H Q
def TyD (T:String)(μ:MS):D->Prop
 | .str _=>T = "str"
 | .lst _=>T = "list"
 | .hJ _ _=>T = "dict"
 | .mr k=>match μ[k]? with | some (.lst _)=>T = "list" | some (.hJ _ _)=>T = "dict" | _=>False
 | _=>False
theorem TyD.is {Kf:PySem.W.Frag}{T:String}{φ:List Addr}{H:Hp}{μ:MS}{d:D}{v:V}(M:d8 φ H μ)(i:ij φ H d v)(h:TyD T μ d):tyV Kf T v H:=by
 cases d with
 | str z=>cases(show v=_ from i);exact h
 | lst ds=>obtain⟨p,vs,rfl,_,hp,_⟩:=i;exact .inl ⟨h,vs,oW.of hp⟩
 | hJ ks ds=>obtain⟨p,kvs,vs,rfl,_,hp,_⟩:=i;exact .inr (.inr (.inl ⟨h,.inl ⟨kvs,hp⟩⟩))
 | mr k =>
  obtain⟨p,hp,rfl⟩:=i
  unfold TyD at h
  dsimp only at h
  cases e:μ[k]? with
  | none=>rw[e]at h;exact h.elim
  | some m =>
   obtain⟨q,e1,e2⟩:=M.at_ k m e
   rw[hp]at e1;cases e1
   rw[e]at h
   cases m with
   | box=>exact h.elim
   | lst ds=>obtain⟨vs,hv,_⟩:=e2;exact .inl ⟨h,vs,oW.of hv⟩
   | hJ ks ds=>obtain⟨kvs,vs,hv,_⟩:=e2;exact .inr (.inr (.inl ⟨h,.inl ⟨kvs,hv⟩⟩))
   | _=>exact h.elim
 | _=>exact(show False from h).elim
def dMt (T:String)(f:DMt)(wo:De)(w:DA):De:=fun ρ μ K=>wo ρ μ fun x dJ=>TyD T dJ x/\w ρ dJ fun ds eW=>f x ds eW K
theorem zE {o:Expr}{name:Str}{apos fX:Pos}{T id:String}{r:V->List V->Hp->VK->Prop}{f:DMt}{wo:De}{w:DA}(pa:PlainAttrs T)(slot:Slot T name id)(hty:typeOf (.builtin id)=pure (.type "method_descriptor"))(hm:MtR X id r)(so:SoMt X.K T r f)(ho:PD X o wo)(ha:tY X (e::es) w)
 (l6:attributeBase o name X.env (eval o X.env)=eval o X.env:=by rfl)
 (hfew:((backTo fX (starEach (e::es) X.env)).all (fun x=>!x.1)&&(backToKw fX (keywordEach [] X.env)).all (fun x=>x.1.isSome)
   && decide ((e::es).length+([]:List Keyword).length+(if([]:List Keyword).isEmpty then 0 else 1)<30))=true:=by rfl)
 (l5:(apos.endLine==fX.line)=true:=by rfl) (hs:starEach (e::es) X.env=(false,eval e X.env)::starEach es X.env:=by rfl) (hplain:(backTo fX (starEach es X.env)).any (·.1)=false:=by rfl) :
 PD X (.Call (.Attribute o name apos) (e::es) [] fX) (dMt T f wo w):=(pe_bm pa slot hty hm ho ha l6 hfew l5 hs hplain).imp fun σ H Q q=>by
 obtain⟨φ,ρ,μ,K,E,M,w,L⟩:=q
 refine⟨φ,ρ,μ,_,E,M,w,fun d1 dJ ee v1 H1 k1 f1 M1 i1=>⟨TyD.is M1 i1 k1.1,?_⟩⟩
 exact⟨ee,ρ,dJ,_,E.mono f1,M1,k1.2,fun ds eW il vs H2 k2 f2 M2 i2=>so il H2 v1 vs d1 ds eW K Q M2 (i1.mono f2) i2 k2 (L.mono (f1.trans f2))⟩
def dAnd (wa wb:De):De:=fun ρ μ K=>wa ρ μ fun x dJ=>match x with | .bl c=>if c=true then wb ρ dJ K else K (.bl false) dJ | _=>False
def dNot (wa:De):De:=fun ρ μ K=>wa ρ μ fun x dJ=>match x with | .bl c=>K (.bl (!c)) dJ | _=>False
theorem d_and {rest:List Expr}{wa wb:De}(ha:PD X a wa)(hb:PD X (.BoolOp .And (b::rest) pos) wb):PD X (.BoolOp .And (a::b::rest) pos) (dAnd wa wb):=(ux ha hb).imp fun σ H Q q=>by
 obtain⟨φ,ρ,μ,K,E,M,w,L⟩:=q
 refine⟨φ,ρ,μ,_,E,M,w,fun d1 dJ ee v1 H1 k1 f1 M1 i1=>?_⟩
 cases d1 with
 | bl c =>
  cases(show v1=_ from i1)
  cases c with
  | true=>exact⟨ee,ρ,dJ,_,E.mono f1,M1,k1,L.mono f1⟩
  | false=>exact L _ dJ ee _ H1 k1 f1 M1 rfl
 | _=>exact k1.elim
theorem d_one {op}{w:De}(h:PD X a w):PD X (.BoolOp op [a] pos) w:=pe_one h
theorem d_not {wa:De}(ha:PD X a wa):PD X (.UnaryOp .Not a pos) (dNot wa):=(pe_notC ha).imp fun σ H Q q=>by
 obtain⟨φ,ρ,μ,K,E,M,w,L⟩:=q
 refine⟨φ,ρ,μ,_,E,M,w,fun d1 dJ ee v1 H1 k1 f1 M1 i1=>?_⟩
 cases d1 with
 | bl c=>cases(show v1=_ from i1);exact L _ dJ ee _ H1 k1 f1 M1 rfl
 | _=>exact k1.elim
def dNeg (wa:De):De:=fun ρ μ K=>wa ρ μ fun x dJ=>match x with | .int i=>K (.int (-i)) dJ | _=>False
theorem d_neg {wa:De}(ha:PD X a wa):PD X (.UnaryOp .USub a pos) (dNeg wa):=(pe_un un_neg ha).imp fun σ H Q q=>by
 obtain⟨φ,ρ,μ,K,E,M,w,L⟩:=q
 refine⟨φ,ρ,μ,_,E,M,w,fun d1 dJ ee v1 H1 k1 f1 M1 i1=>?_⟩
 cases d1 with
 | int c=>cases(show v1=_ from i1);exact⟨c,rfl,L _ dJ ee _ H1 k1 f1 M1 rfl⟩
 | _=>exact k1.elim
def dtAnd (t u:Dt):Dt:=fun ρ μ K=>t ρ μ fun c dJ=>if c=true then u ρ dJ K else K false dJ
def dtOr (t u:Dt):Dt:=fun ρ μ K=>t ρ μ fun c dJ=>if c=true then K true dJ else u ρ dJ K
def dtNot (t:Dt):Dt:=fun ρ μ K=>t ρ μ fun c dJ=>K (!c) dJ
abbrev PDT (X:Cx)(e:Expr)(w:Dt):Prop:=PT X e (wO w)
theorem tDT_and {t u:Dt}{σ:St}{H:Hp}{Q:Bool->Hp->Prop}(h:wO (dtAnd t u) σ H Q):tAnd (wO t) (wO u) σ H Q:=by
 obtain⟨φ,ρ,μ,K,E,M,w,L⟩:=h
 refine⟨φ,ρ,μ,_,E,M,w,fun b dJ ee H1 k1 f1 M1=>?_⟩
 cases b with
 | true=>exact⟨ee,ρ,dJ,_,E.mono f1,M1,k1,fun b eW il H2 k2 f2 M2=>L b eW il H2 k2 (f1.trans f2) M2⟩
 | false=>exact L _ dJ ee H1 k1 f1 M1
theorem tDT_or {t u:Dt}{σ:St}{H:Hp}{Q:Bool->Hp->Prop}(h:wO (dtOr t u) σ H Q):tOr (wO t) (wO u) σ H Q:=by
 obtain⟨φ,ρ,μ,K,E,M,w,L⟩:=h
 refine⟨φ,ρ,μ,_,E,M,w,fun b dJ ee H1 k1 f1 M1=>?_⟩
 cases b with
 | false=>exact⟨ee,ρ,dJ,_,E.mono f1,M1,k1,fun b eW il H2 k2 f2 M2=>L b eW il H2 k2 (f1.trans f2) M2⟩
 | true=>exact L _ dJ ee H1 k1 f1 M1
abbrev PDW (X:Cx)(e:Expr)(w:Dt):Prop:=PW X e (wO w)
theorem PW.imp {e:Expr}{t t':TT}(h:PW X e t)(hi:∀ σ H Q,t' σ H Q->t σ H Q):PW X e t':=fun wh pins s σ H Q I q=>h wh pins s σ H Q I (hi σ H Q q)
theorem gW {t:Dt}(h:PDT X a t):PDW X (.BoolOp .And [a] pos) t:=pw_and1 h
theorem jZ {t:Dt}(h:PDT X a t):PDW X (.BoolOp .Or [a] pos) t:=pw_or1 h
theorem jm {rest:List Expr}{t u:Dt}(ha:PDT X a t)(hb:PDW X (.BoolOp .And (b::rest) pos) u):PDW X (.BoolOp .And (a::b::rest) pos) (dtAnd t u):=(pw_and ha hb).imp fun σ H Q q=>tDT_and q
theorem og {rest:List Expr}{t u:Dt}(ha:PDT X a t)(hb:PDW X (.BoolOp .Or (b::rest) pos) u):PDW X (.BoolOp .Or (a::b::rest) pos) (dtOr t u):=(pw_or ha hb).imp fun σ H Q q=>tDT_or q
theorem lW {t:Dt}(h:PDT X a t):PDT X (.UnaryOp .Not a pos) (dtNot t):=(pt_not h).imp fun σ H Q q=>by
 obtain⟨φ,ρ,μ,K,E,M,w,L⟩:=q
 exact⟨φ,ρ,μ,_,E,M,w,fun b dJ ee H1 k1 f1 M1=>L _ dJ ee H1 k1 f1 M1⟩
def dIf (t:Dt)(wa wb:De):De:=fun ρ μ K=>t ρ μ fun c dJ=>if c=true then wa ρ dJ K else wb ρ dJ K
theorem vY {c:Expr}{t:Dt}{wa wb:De}(hc:PDT X c t)(ha:PD X a wa)(hb:PD X b wb):PD X (.IfExp c a b pos) (dIf t wa wb):=(pe_ifExp hc ha hb).imp fun σ H Q q=>by
 obtain⟨φ,ρ,μ,K,E,M,w,L⟩:=q
 refine⟨φ,ρ,μ,_,E,M,w,fun b dJ ee H1 k1 f1 M1=>?_⟩
 cases b with
 | true=>exact⟨ee,ρ,dJ,_,E.mono f1,M1,k1,L.mono f1⟩
 | false=>exact⟨ee,ρ,dJ,_,E.mono f1,M1,k1,L.mono f1⟩
theorem d_isN {j pos'}{w:De}(h:PD X a w):PD X (.Compare a [.Is] [.Constant .none j pos'] pos) (dIsN false w):=(pe_cmp (pc_isN h)).imp fun σ H Q q=>tD_isN q
theorem d_notN {j pos'}{w:De}(h:PD X a w):PD X (.Compare a [.IsNot] [.Constant .none j pos'] pos) (dIsN true w):=(pe_cmp (pc_notN h)).imp fun σ H Q q=>tD_notN q
theorem tB_of {w:De}{t:TE}{σ:St}{H:Hp}{Q:Bool->Hp->Prop}(hi:∀ Q,tD w σ H Q->t σ H Q)(h:wO (p8 w) σ H Q):tB t σ H Q:=by
 obtain⟨φ,ρ,μ,K,E,M,k,L⟩:=h
 refine hi _ ⟨φ,ρ,μ,_,E,M,k,fun d μ' eB v H' k' f M' i=>?_⟩
 cases d with
 | bl b=>cases(show v=_ from i);exact⟨b,rfl,L b μ' eB H' k' f M'⟩
 | _=>exact k'.elim
theorem t_isN {j pos'}{w:De}(h:PD X a w):PDT X (.Compare a [.Is] [.Constant .none j pos'] pos) (p8 (dIsN false w)):=(yU (pc_isN h)).imp fun σ H Q q=>tB_of (fun Q q=>tD_isN q) q
theorem ye {j pos'}{w:De}(h:PD X a w):PDT X (.Compare a [.IsNot] [.Constant .none j pos'] pos) (p8 (dIsN true w)):=(yU (pc_notN h)).imp fun σ H Q q=>tB_of (fun Q q=>tD_notN q) q
end
structure DN where
 nx:DE->MS->Prop
 rt:DK
 bk:DE->MS->Prop:=fun _ _=>False
 ct:DE->MS->Prop:=fun _ _=>False
abbrev Ds:=DN->DE->MS->Prop
def LiS (φ:List Addr)(H:Hp)(k:DE->MS->Prop)(q:St->Hp->Prop):Prop:=∀ ip μ' eB fO H',k ip μ'->Fr φ H eB H'->iF eB H' ip fO->d8 eB H' μ'->q fO H'
theorem LiS.mono {φ ee:List Addr}{H H1:Hp}{k:DE->MS->Prop}{q:St->Hp->Prop}(h:LiS φ H k q)(f:Fr φ H ee H1):LiS ee H1 k q:=fun ip μ' eB fO H' a b c d=>h ip μ' eB fO H' a (f.trans b) c d
structure LiN (φ:List Addr)(H:Hp)(N:DN)(E:Ends):Prop where
 nx:LiS φ H N.nx E.nx
 rt:sQ φ H N.rt E.rt
 bk:LiS φ H N.bk E.bk
 ct:LiS φ H N.ct E.ct
theorem LiN.mono {φ ee:List Addr}{H H1:Hp}{N:DN}{E:Ends}(h:LiN φ H N E)(f:Fr φ H ee H1):LiN ee H1 N E:=⟨h.nx.mono f,h.rt.mono f,h.bk.mono f,h.ct.mono f⟩
def tDS (w:Ds):TS:=fun E σ H=>∃ φ ρ μ N,iF φ H ρ σ/\d8 φ H μ/\w N ρ μ/\LiN φ H N E
abbrev wC (X:Cx)(st:Stmt)(w:Ds):Prop:=PS X st (tDS w)
abbrev PDB (X:Cx)(st:List Stmt)(w:Ds):Prop:=zX X st (tDS w)
section
variable {X:Cx}{a b e:Expr}{es:List Expr}{pos:Pos}{st:Stmt}{rest:List Stmt}
def dNx:Ds:=fun N ρ μ=>N.nx ρ μ
def dSeq (t u:Ds):Ds:=fun N ρ μ=>t { N with nx:=fun ip μ'=>u N ip μ'} ρ μ
def dCut (t u:Ds):Ds:=fun N ρ μ=>∃ M:DE->MS->Prop,t { N with nx:=M} ρ μ/\∀ ip μ',M ip μ'->u N ip μ'
theorem eM:PDB X [] dNx:=lx.imp fun E σ H qY=>by obtain⟨φ,ρ,μ,N,A,M,w,L⟩:=qY;exact L.nx ρ μ φ σ H w (.refl _ _) A M
theorem dk {t u:Ds}(h1:wC X st t)(h2:PDB X rest u):PDB X (st::rest) (dSeq t u):=(fP h1 h2).imp fun E σ H ⟨φ,ρ,μ,N,A,M,w,L⟩ =>
 ⟨φ,ρ,μ,_,A,M,w,⟨fun ip μ' eB fO H' k f A' M'=>⟨eB,ip,μ',N,A',M',k,L.mono f⟩,L.rt,L.bk,L.ct⟩⟩
theorem xZ {t u:Ds}(h1:wC X st t)(h2:PDB X rest u):PDB X (st::rest) (dCut t u):=(fP h1 h2).imp fun E σ H ⟨φ,ρ,μ,N,A,M,⟨P,w1,w2⟩,L⟩ =>
 ⟨φ,ρ,μ,_,A,M,w1,⟨fun ip μ' eB fO H' k f A' M'=>⟨eB,ip,μ',N,A',M',w2 ip μ' k,L.mono f⟩,L.rt,L.bk,L.ct⟩⟩
theorem dr {t:Ds}(h:wC X st t):PDB X [st] t:=ja h
def dExpr (w:De):Ds:=fun N ρ μ=>w ρ μ fun _ μ'=>N.nx ρ μ'
theorem iq {w:De}(h:PD X e w)(hs:swapsWith e none pos.line X.env=pure false:=by rfl):wC X (.Expr e pos) (dExpr w):=(ps_expr h hs).imp fun E σ H p4=>by obtain⟨φ,ρ,μ,N,A,M,w,L⟩:=p4;exact⟨φ,ρ,μ,_,A,M,w,fun d dJ ee v1 H1 k1 f1 M1 i1=>L.nx ρ dJ ee σ H1 k1 f1 (A.mono f1) M1⟩
def dRet (w:De):Ds:=fun N ρ μ=>w ρ μ N.rt
theorem dP {w:De}(h:PD X e w):wC X (.Return (some e) pos) (dRet w):=(lK h).imp fun E σ H pH=>by obtain⟨φ,ρ,μ,N,A,M,w,L⟩:=pH;exact⟨φ,ρ,μ,_,A,M,w,L.rt⟩
def dIfS (c:Dt)(t u:Ds):Ds:=fun N ρ μ=>c ρ μ fun b dJ=>if b=true then t N ρ dJ else u N ρ dJ
theorem fw {c:Expr}{body orelse:List Stmt}{t:Dt}{u v:Ds}(hc:PDT X c t)(h1:PDB X body u)(h2:PDB X orelse v):wC X (.If c body orelse pos) (dIfS t u v):=(tj hc h1 h2).imp fun E σ H ⟨φ,ρ,μ,N,A,M,w,L⟩ =>
 ⟨φ,ρ,μ,_,A,M,w,fun b dJ ee H1 k1 f1 M1=>by
  cases b with
  | true=>exact⟨ee,ρ,dJ,N,A.mono f1,M1,k1,L.mono f1⟩
  | false=>exact⟨ee,ρ,dJ,N,A.mono f1,M1,k1,L.mono f1⟩⟩
def dSet (i:Nat)(w:De):Ds:=fun N ρ μ=>w ρ μ fun d μ'=>N.nx (ρ.set i (some d)) μ'
theorem s_set {i:Nat}{x:Str}{w:De}{pos':Pos}(hN:X.N.Nodup)(hi:X.N[i]?=some x)(hx:Loc X.env.scope x)(he:PD X e w)(hf:X.fn x=true\/X.env.scope.names.lookup x=some .local:=by first | exact .inl rfl | exact .inr rfl | assumption)
 (hsw:swapsWith e (some (.Name x pos')) pos.line X.env=pure false:=by rfl):wC X (.Assign [.Name x pos'] e pos) (dSet i w):=(si (pos:=pos) (pos':=pos') hN hi hx he hsw hf).imp fun E σ H ⟨φ,ρ,μ,N,A,M,w,L⟩ =>
 ⟨φ,ρ,μ,_,A,M,w,fun d dJ ee v1 H1 k1 f1 M1 i1=>L.nx _ dJ ee _ H1 k1 f1 ((A.mono f1).set i1 i) M1⟩
abbrev DG:=D->DE->MS->(DE->MS->Prop)->Prop
abbrev DGs:=List D->DE->MS->(DE->MS->Prop)->Prop
def SoG (g:TG)(w:DG)(S:List Nat):Prop:=∀ φ H ρ σ μ d v K,iF φ H ρ σ->d8 φ H μ->ij φ H d v->w d ρ μ K->g v σ H fun lU H2=>H2=H/\lU.length=σ.length/\(∀ i,i∉S->lU[i]?=σ[i]?)/\∃ jV,iF φ H jV lU/\K jV μ
def SoGs (g:x9)(w:DGs)(S:List Nat):Prop:=∀ φ H ρ σ μ ds vs K,iF φ H ρ σ->d8 φ H μ->dN φ H ds vs->w ds ρ μ K->g vs σ H fun lU H2=>H2=H/\lU.length=σ.length/\(∀ i,i∉S->lU[i]?=σ[i]?)/\∃ jV,iF φ H jV lU/\K jV μ
def mw (g:TG):Prop:=∀ v σ H Q Q',(∀ fO H',Q fO H'->Q' fO H')->g v σ H Q->g v σ H Q'
def wD (g:x9):Prop:=∀ v σ H Q Q',(∀ fO H',Q fO H'->Q' fO H')->g v σ H Q->g v σ H Q'
def zC (i:Nat):DG:=fun d ρ μ K=>K (ρ.set i (some d)) μ
def dgTup (n:Nat)(t:DGs):DG:=fun d ρ μ K=>match d with | .tup ds=>ds.length=n/\t ds ρ μ K | _=>False
def dgCons (t:DG)(u:DGs):DGs:=fun ds ρ μ K=>match ds with | d::r=>t d ρ μ fun ip μ'=>u r ip μ' K | []=>False
def dgNil:DGs:=fun ds ρ μ K=>match ds with | []=>K ρ μ | _=>False
theorem dD (i:Nat):SoG (rf i) (zC i) [i]:=fun φ H ρ σ μ d v K E M h w=>⟨rfl,aH,fun j hj=>ao (fun z=>hj (by simp[z])),_,E.set h i,w⟩
theorem de (i:Nat):mw (rf i):=fun v σ H Q Q' h q=>h _ _ q
theorem gy:SoGs cNil dgNil []:=fun φ H ρ σ μ ds vs K E M h w=>by
 cases ds with
 | nil=>cases(show vs=[]from h);exact⟨rfl,rfl,fun _ _=>rfl,ρ,E,w⟩
 | cons d r=>exact w.elim
theorem dA:wD cNil:=fun v σ H Q Q' h q=>by
 cases v with
 | nil=>exact h _ _ q
 | cons x r=>exact q
theorem dm {g:TG}{u:x9}(h1:mw g)(h2:wD u):wD (cCons g u):=fun v σ H Q Q' h q=>by
 cases v with
 | nil=>exact q
 | cons x r=>exact h1 _ _ _ _ _ (fun fO H' q'=>h2 _ _ _ _ _ h q') q
theorem gA {n:Nat}{u:x9}(h2:wD u):mw (cTup n u):=fun v σ H Q Q' h q=>by
 cases v with
 | ref a=>obtain⟨xs,e,l,q⟩:=q;exact⟨xs,e,l,h2 _ _ _ _ _ h q⟩
 | _=>exact q
theorem dG {g:TG}{u:x9}{w:DG}{y:DGs}{S T:List Nat}(h1:SoG g w S)(m1:mw g)(h2:SoGs u y T)(m2:wD u):SoGs (cCons g u) (dgCons w y) (S++T):=fun φ H ρ σ μ ds vs K E M h k=>by
 cases ds with
 | nil=>exact k.elim
 | cons d r =>
  obtain⟨v,vr,rfl,hd,hr⟩:=h
  refine m1 _ _ _ _ _ (fun Ai H1 qk=>?_) (h1 φ H ρ σ μ d v _ E M hd k)
  obtain⟨e1,l1,n1,ρ1,E1,k1⟩:=qk
  subst e1
  refine m2 _ _ _ _ _ (fun lU H2 nP=>?_) (h2 φ H1 ρ1 Ai μ r vr K E1 M hr k1)
  obtain⟨e2,l2,n2,jV,E2,k2⟩:=nP
  refine⟨e2,l2.trans l1,fun i hi=>?_,jV,E2,k2⟩
  rw[n2 i (fun z=>hi (aD _ z)),n1 i (fun z=>hi (bS _ z))]
theorem gw {n:Nat}{u:x9}{y:DGs}{S:List Nat}(h2:SoGs u y S):SoG (cTup n u) (dgTup n y) S:=fun φ H ρ σ μ d v K E M h k=>by
 cases d with
 | tup ds =>
  obtain⟨p,vs,rfl,hn,hp,ha⟩:=h
  exact⟨vs,hp,by rw[ha.len];exact k.1,h2 φ H ρ σ μ ds vs K E M ha k.2⟩
 | _=>exact k.elim
structure Tg (X:Cx)(tg:Expr)(g:TG)(w:DG)(S:List Nat):Prop where
 pg:PG X tg g
 so:SoG g w S
 mo:mw g
def dAsg (w:De)(g:DG):Ds:=fun N ρ μ=>w ρ μ fun d dJ=>g d ρ dJ N.nx
theorem i7 {tg:Expr}{w:De}{g:TG}{y:DG}{S:List Nat}(he:PD X e w)(hg:Tg X tg g y S)(hs:swapsWithSole [tg] e pos.line X.env=pure false:=by rfl)(hw:swappedStores [tg] e X.env=pure none:=by rfl)
 (h1:(assignEach [tg] X.env).map (·.2)=[assign tg X.env]:=by rfl):wC X (.Assign [tg] e pos) (dAsg w y):=(sj he hg.pg hs hw h1).imp fun E σ H ⟨φ,ρ,μ,N,A,M,w,L⟩ =>
 ⟨φ,ρ,μ,_,A,M,w,fun d dJ ee v1 H1 k1 f1 M1 i1=>hg.mo _ _ _ _ _ (fun lU H2 ⟨e2,_,_,jV,E2,k2⟩=>by subst e2;exact L.nx jV dJ ee lU _ k2 f1 E2 M1) (hg.so ee H1 ρ σ dJ d v1 _ (A.mono f1) M1 i1 k1)⟩
def SoSet (t:TSet)(w:D->D->D->MS->(MS->Prop)->Prop):Prop:=∀ φ H o i v dO di d μ K Q,d8 φ H μ->ij φ H dO o->ij φ H di i->ij φ H d v->w dO di d μ K->(∀ μ' H',K μ'->Fr φ H φ H'->d8 φ H' μ'->Q H')->t o i v H Q
def dsetL:D->D->D->MS->(MS->Prop)->Prop:=fun o i d μ K=>match o,i with
 | .mr k,.int j=>opt (zf μ k) fun ds=>opt (ixN ds.length j) fun n=>K (μ.set k (.lst (ds.set n d)))
 | _,_=>False
theorem so_set:SoSet rSetC dsetL:=fun φ H o i v dO di d μ K Q M hO hi hd w q=>by
 unfold dsetL at w
 split at w
 ·rename_i k j
  obtain⟨ds,em,w⟩:=gb w
  have em:=pV em
  obtain⟨p,hp,rfl⟩:=hO
  cases(show i=_ from hi)
  obtain⟨p',e1,vs,hv,ha⟩:=M.at_ k _ em
  rw[hp]at e1;cases e1
  obtain⟨n,en,w⟩:=gb w
  refine⟨vs,hv,dj (v:=n) (by rw[ha.len];exact en) ?_⟩
  have f:Fr φ H φ (upd H p (.lst (vs.set n v))):=.put (zk hp)
  exact q _ _ w f (M.put hp ⟨_,dH,(ha.set hd n).mono f⟩)
 ·exact w.elim
def dAsgS (w wo wi:De):Ds:=fun N ρ μ=>w ρ μ fun d dJ=>wo ρ dJ fun o eW=>wi ρ eW fun i nO=>dsetL o i d nO fun μ4=>N.nx ρ μ4
theorem s_asgS {o i:Expr}{w wo wi:De}{pos':Pos}(he:PD X e w)(ho:PD X o wo)(hi:PD X i wi)
 (ha:∀ v,assign (.Subscript o i pos') X.env v=(do
   let ov <- holding [v] (eval o X.env)
   let iv <- holding [v,ov] (eval i X.env)
   standAt pos'
   holding [v,ov,iv] (setItem ov iv v)
   release [v,ov,iv] []):=by intro _;rfl) (hs:swapsWithSole [.Subscript o i pos'] e pos.line X.env=pure false:=by rfl) (hw:swappedStores [.Subscript o i pos'] e X.env=pure none:=by rfl)
 (h1:(assignEach [.Subscript o i pos'] X.env).map (·.2)=[assign (.Subscript o i pos') X.env]:=by rfl):wC X (.Assign [.Subscript o i pos'] e pos) (dAsgS w wo wi):=(sj he (vi ho hi setC ha) hs hw h1).imp fun E σ H hq=>by
 obtain⟨φ,ρ,μ,N,A,M,w,L⟩:=hq
 refine⟨φ,ρ,μ,_,A,M,w,fun d dJ ee v1 H1 k1 f1 M1 i1=>?_⟩
 refine⟨ee,ρ,dJ,_,A.mono f1,M1,k1,fun d2 eW il v2 H2 k2 f2 M2 i2=>?_⟩
 refine⟨il,ρ,eW,_,A.mono (f1.trans f2),M2,k2,fun d3 nO yb v3 H3 k3 f3 M3 i3=>?_⟩
 exact so_set yb H3 _ _ _ d2 d3 d nO _ _ M3 (i2.mono f3) i3 (i1.mono (f2.trans f3)) k3 fun μ' H' k4 f4 M4=>L.nx ρ μ' yb σ H' k4 ((f1.trans (f2.trans f3)).trans f4) (A.mono ((f1.trans (f2.trans f3)).trans f4)) M4
def SoIp (t:TIp)(ro:ue):Prop:=∀ φ H x y dx dy μ K Q,d8 φ H μ->ij φ H dx x->ij φ H dy y->ro dx dy μ K->sQ φ H K Q->t x y H Q
def dAug (i:Nat)(w:De)(ro:ue):Ds:=fun N ρ μ=>match ρ[i]? with | some (some x)=>w ρ μ fun y dJ=>ro x y dJ fun z eW=>N.nx (ρ.set i (some z)) eW | _=>False
theorem s_aug {i:Nat}{x:Str}{w:De}{op:Operator}{ti:TIp}{ro:ue}{pos':Pos}(hN:X.N.Nodup)(hi:X.N[i]?=some x)(hx:Loc X.env.scope x)(he:PD X e w)(ho:PIp X op ti)(so:SoIp ti ro)(hf:X.fn x=true\/X.env.scope.names.lookup x=some .local:=by first | exact .inl rfl | exact .inr rfl | assumption) :
 wC X (.AugAssign (.Name x pos') op e pos) (dAug i w ro):=(ps_aug (pos:=pos) (pos':=pos') hN hi hx he ho hf).imp fun E σ H hq=>by
 obtain⟨φ,ρ,μ,N,A,M,w,L⟩:=hq
 unfold dAug at w
 split at w
 ·rename_i d hd
  obtain⟨v,hv,hdv⟩:=A.2 i d hd
  refine⟨v,hv,φ,ρ,μ,_,A,M,w,fun d1 dJ ee v1 H1 k1 f1 M1 i1=>?_⟩
  exact so ee H1 _ _ d d1 dJ _ _ M1 (hdv.mono f1) i1 k1 fun d2 eW il v2 H2 k2 f2 M2 i2=>L.nx _ eW il _ H2 k2 (f1.trans f2) ((A.mono (f1.trans f2)).set i2 i) M2
 ·exact w.elim
def dWhile (c:Dt)(b:Ds):Ds:=fun N ρ μ=>∃ W:Nat->DE->MS->Prop,(∃ m,W m ρ μ)/\∀ m ρ μ,W m ρ μ ->
 c ρ μ fun t dJ=>if t=true then b { N with nx:=fun ip μ'=>∃ m',m'<m/\W m' ip μ',ct:=fun ip μ'=>∃ m',m'<m/\W m' ip μ',bk:=N.nx} ρ dJ else N.nx ρ dJ
theorem s_while {c:Expr}{body:List Stmt}{t:Dt}{u:Ds}(hp:PassesOwn (model X.prog X.w) X.A X.env X.xe)(hc:PDT X c t)(hb:PDB X body u):wC X (.While c body [] pos) (dWhile t u):=(ps_while hp hc hb).imp fun E σ H ⟨φ,ρ,μ,N,A,M,⟨W,⟨m0,w0⟩,turn⟩,L⟩=>by
 refine⟨fun m fO H'=>∃ eB ip μ',Fr φ H eB H'/\iF eB H' ip fO/\d8 eB H' μ'/\W m ip μ',⟨m0,φ,ρ,μ,.refl _ _,A,M,w0⟩,?_⟩
 rintro m fO H' ⟨eB,ip,μ',f',A',M',w'⟩
 refine⟨eB,ip,μ',_,A',M',turn m ip μ' w',fun b dJ ee H1 k1 f1 M1=>?_⟩
 cases b with
 | true =>
  refine⟨fun lU H2=>∃ m',m'<m/\∃ il jV eW,Fr φ H il H2/\iF il H2 jV lU/\d8 il H2 eW/\W m' jV eW,fun lU H2 q=>q,ee,ip,dJ,_,A'.mono f1,M1,k1,?_⟩
  have nx:LiS ee H1 (fun ip μ'=>∃ m',m'<m/\W m' ip μ') fun lU H2=>∃ m',m'<m/\∃ il jV eW,Fr φ H il H2/\iF il H2 jV lU/\d8 il H2 eW/\W m' jV eW:=fun jV eW il lU H2 ⟨m',hm,w2⟩ f2 A2 M2=>⟨m',hm,il,jV,eW,(f'.trans f1).trans f2,A2,M2,w2⟩
  exact⟨nx,L.rt.mono (f'.trans f1),L.nx.mono (f'.trans f1),nx⟩
 | false=>exact L.nx ip dJ ee fO H1 k1 (f'.trans f1) (A'.mono f1) M1
def Wk (J:It)(φ:List Addr)(H:Hp)(ds:List D)(c:MS->Prop):Prop:=∀ eB H' μ',Fr φ H eB H'->d8 eB H' μ'->c μ'->∀ i,
 (∀ d,ds[i]?=some d->J.go i H'/\∀ x H'',J.yld i H' x H''->Fr eB H' eB H''/\d8 eB H'' μ'/\ij eB H'' d x)/\(i=ds.length->J.stop i H')
abbrev DI:=DE->MS->(List D->(MS->Prop)->MS->Prop)->Prop
def tDI (w:DI):TI:=fun σ H R=>∃ φ ρ μ K,iF φ H ρ σ/\d8 φ H μ/\w ρ μ K/\∀ ds c μ' eB J H',K ds c μ'->Fr φ H eB H'->d8 eB H' μ'->Wk J eB H' ds c->R J H'
abbrev PDI (X:Cx)(tg iter:Expr)(w:DI):Prop:=PI X tg iter (tDI w)
theorem PI.imp {tg iter:Expr}{t t':TI}(h:PI X tg iter t)(hi:∀ σ H Q,t' σ H Q->t σ H Q):PI X tg iter t':=fun pins s σ H Q I q=>h pins s σ H Q I (hi σ H Q q)
def xj (g:DG)(b:Ds)(N:DN)(c:MS->Prop):List D->DE->MS->Prop
 | [],ρ,μ=>c μ/\N.nx ρ μ
 | d::ds,ρ,μ=>c μ/\g d ρ μ fun jV eW=>b { N with nx:=fun ip μ'=>xj g b N c ds ip μ',ct:=fun ip μ'=>xj g b N c ds ip μ',bk:=N.nx} jV eW
def dFor (wi:DI)(g:DG)(b:Ds):Ds:=fun N ρ μ=>wi ρ μ fun ds c dJ=>xj g b N c ds ρ dJ
theorem sY {tg iter:Expr}{body:List Stmt}{wi:DI}{g:TG}{y:DG}{S:List Nat}{u:Ds}(hp:PassesOwn (model X.prog X.w) X.A X.env X.xe)(hc:X.calm=true)(hi:PDI X tg iter wi)(hg:Tg X tg g y S)(hb:PDB X body u)
 (hs:∀ x,foldedSetIterable iter X.env x=pure x:=by intro _;rfl):wC X (.For tg iter body [] pos) (dFor wi y u):=(ps_for hp hc hi hg.pg hb hs).imp fun E σ H hq=>by
 obtain⟨φ,ρ,μ,N,A,M,w,L⟩:=hq
 refine⟨φ,ρ,μ,_,A,M,w,fun ds c dJ ee J H1 k1 f1 M1 wk=>?_⟩
 refine⟨fun i m fO H'=>m=ds.length - i/\i<=ds.length/\∃ eB ip μ',Fr ee H1 eB H'/\iF eB H' ip fO/\d8 eB H' μ'/\xj y u N c (ds.drop i) ip μ',⟨ds.length,rfl,aW _,ee,ρ,dJ,.refl _ _,A.mono f1,M1,k1⟩,?_⟩
 rintro i m fO H' ⟨rfl,hi,eB,ip,μ',f',A',M',w'⟩
 by_cases rW:i<ds.length
 ·rw[cK rW]at w'
  obtain⟨c',w'⟩:=w'
  obtain⟨go,yld⟩:=(wk eB H' μ' f' M' c' i).1 ds[i] (tL rW)
  refine .inr ⟨go,fun lU H2=>∃ il jV eW,Fr ee H1 il H2/\iF il H2 jV lU/\d8 il H2 eW/\xj y u N c (ds.drop (i+1)) jV eW,fun lU H2 q=>⟨ds.length - (i+1),by omega,rfl,rW,q⟩,fun x H2 hy=>?_⟩
  obtain⟨f2,M2,i2⟩:=yld x H2 hy
  refine hg.mo _ _ _ _ _ (fun σ3 H3 pH=>?_) (hg.so eB H2 ip fO μ' _ x _ (A'.mono f2) M2 i2 w')
  obtain⟨e3,_,_,ρ3,E3,k3⟩:=pH
  subst e3
  refine⟨eB,ρ3,μ',_,E3,M2,k3,?_⟩
  have nx:LiS eB H3 (fun ip μ'=>xj y u N c (ds.drop (i+1)) ip μ') fun lU H2=>∃ il jV eW,Fr ee H1 il H2/\iF il H2 jV lU/\d8 il H2 eW/\xj y u N c (ds.drop (i+1)) jV eW:=fun jV eW il lU H2 w2 g2 A2 N2=>⟨il,jV,eW,(f'.trans f2).trans g2,A2,N2,w2⟩
  have ff:=f1.trans (f'.trans f2)
  exact⟨nx,L.rt.mono ff,L.nx.mono ff,nx⟩
 ·have e:i=ds.length:=by omega
  subst e
  rw[List.drop_length]at w'
  exact .inl ⟨(wk eB H' μ' f' M' w'.1 _).2 rfl,L.nx ip μ' eB fO H' w'.2 (f1.trans f') A' M'⟩
end
def mE (js:List (Option Nat))(ρ:DE):DE:=js.map fun o=>o.bind fun j=>(ρ[j]?).join
theorem iF.ft {φ:List Addr}{H:Hp}{ρ:DE}{σ:St}(h:iF φ H ρ σ)(js:List (Option Nat)):iF φ H (mE js ρ) (ft js σ):=by
 refine⟨by unfold mE L2.ft;rw[fg,fg],fun i d e=>?_⟩
 unfold mE at e
 rw[tK]at e
 unfold L2.ft
 rw[tK]
 cases q:js[i]? with
 | none=>rw[q]at e;cases e
 | some o =>
  rw[q]at e
  cases o with
  | none=>cases e
  | some j =>
   have e':(ρ[j]?).join=some d:=aK e
   have e2:ρ[j]?=some (some d):=by
    cases z:ρ[j]? with
    | none=>rw[z]at e';cases e'
    | some y=>rw[z]at e';have:y=some d:=e';rw[this]
   obtain⟨v,hv,hd⟩:=h.2 j d e2
   refine⟨v,?_,hd⟩
   show some ((σ[j]?).join)=_
   rw[hv];rfl
def dItem (ρ:DE)(y:DG)(t:Dt)(w:De)(d:D)(μ:MS)(K:Option D->MS->Prop):Prop:=y d ρ μ fun jV eW=>t jV eW fun b nO=>if b=true then w jV nO (fun z μ4=>K (some z) μ4)else K none nO
def rH (it:D->MS->(Option D->MS->Prop)->Prop)(c:MS->Prop):List D->MS->(List D->MS->Prop)->Prop
 | [],μ,K=>c μ/\K [] μ
 | d::ds,μ,K=>c μ/\it d μ fun o dJ=>rH it c ds dJ fun ys eW=>K (o.toList++ys) eW
def oA (S:List Nat)(js:List (Option Nat)):Bool:=S.all fun i=>js[i]?==some none
theorem ext_of {js:List (Option Nat)}{σ lU:St}{S:List Nat}(ho:oA S js=true)(hl:lU.length=(ft js σ).length)(hn:∀ i,i∉S->lU[i]?=(ft js σ)[i]?):Ext (ft js σ) lU:=by
 refine⟨hl.symm,fun i v e=>?_⟩
 by_cases hi:i∈S
 ·have q:=List.all_eq_true.mp ho i hi
  have q':js[i]?=some none:=by simpa using q
  obtain⟨j,e1,_⟩:=vK e
  rw[q']at e1;cases e1
 ·rw[hn i hi];exact e
def tP (m:Bool)(wi:DI)(js:List (Option Nat))(y:DG)(t:Dt)(w:De):De:=fun ρ μ K=>wi ρ μ fun ds c dJ=>ds.length<=sizeLine/\rH (dItem (mE js ρ) y t w) c ds dJ fun ys eW=>nL m ys eW K
theorem yf {m:Bool}{wi:DI}{js:List (Option Nat)}{g:TG}{y:DG}{S:List Nat}{t:Dt}{w:De}(so:SoG g y S)(mo:mw g)(ho:oA S js=true){σ:St}{H:Hp}{Q:VK}(h:tD (tP m wi js y t w) σ H Q):tComp (tDI wi) js g (wO t) (tD w) σ H Q:=by
 obtain⟨φ,ρ,μ,K,A,M,k,L⟩:=h
 refine⟨φ,ρ,μ,_,A,M,k,fun ds c dJ ee J H1 k1 f1 M1 wk=>?_⟩
 obtain⟨hz,k1⟩:=k1
 refine⟨fun i n ys H'=>n=ds.length - i/\i<=ds.length/\ys.length<=i/\∃ eB zs μ',Fr ee H1 eB H'/\dN eB H' zs ys/\d8 eB H' μ'/\rH (dItem (mE js ρ) y t w) c (ds.drop i) μ' fun r eW=>nL m (zs++r) eW K,
  ⟨ds.length,rfl,aW _,aW _,ee,[],dJ,.refl _ _,rfl,M1,k1⟩,?_⟩
 rintro i n ys H' ⟨rfl,hi,hy,eB,zs,μ',f',Z',M',w'⟩
 by_cases rW:i<ds.length
 ·rw[cK rW]at w'
  obtain⟨c',w'⟩:=w'
  obtain⟨go,yld⟩:=(wk eB H' μ' f' M' c' i).1 ds[i] (tL rW)
  refine .inr ⟨go,fun x H2 hy2=>?_⟩
  obtain⟨f2,M2,i2⟩:=yld x H2 hy2
  have E2:iF eB H2 (mE js ρ) (ft js σ):=((A.mono (f1.trans (f'.trans f2))).ft js)
  refine mo _ _ _ _ _ (fun σ3 H3 qk=>?_) (so eB H2 _ _ μ' _ x _ E2 M2 i2 w')
  obtain⟨e3,l3,n3,ρ3,E3,k3⟩:=qk
  refine⟨ext_of ho l3 n3,?_⟩
  subst e3
  refine⟨eB,ρ3,μ',_,E3,M2,k3,fun b μ4 φ4 H4 k4 f4 M4=>?_⟩
  have ff:=f'.trans (f2.trans f4)
  cases b with
  | true =>
   refine⟨φ4,ρ3,μ4,_,E3.mono f4,M4,k4,fun d5 μ5 φ5 v5 H5 k5 f5 M5 i5=>⟨by omega,ds.length - (i+1),by omega,rfl,rW,by rw[kH,aQ];omega,φ5,zs++[d5],μ5,ff.trans f5,(Z'.mono (f2.trans (f4.trans f5))).app ⟨v5,[],rfl,i5,rfl⟩,M5,?_⟩⟩
   have e:(fun r eW=>nL m (zs++[d5]++r) eW K)=fun r eW=>nL m (zs++((some d5).toList++r)) eW K:=by funext r eW;rw[aI];rfl
   rw[e]
   exact k5
  | false =>
   exact⟨ds.length - (i+1),by omega,rfl,rW,by omega,φ4,zs,μ4,ff,Z'.mono (f2.trans f4),M4,k4⟩
 ·have e:i=ds.length:=by omega
  subst e
  rw[List.drop_length]at w'
  refine .inl ⟨(wk eB H' μ' f' M' w'.1 _).2 rfl,fun p hp=>?_⟩
  have q:nL m (zs++[]) μ' K:=w'.2
  rw[aN]at q
  exact al_n (L.mono (f1.trans f')) M' Z' q hp
section
variable {X:Cx}{a b e:Expr}{es:List Expr}{pos:Pos}
variable {N:List Str}{js:List (Option Nat)}{sc:Scope}{tg elt iter:Expr}{ifs:List Expr}{g:TG}{y:DG}{S:List Nat}{t:Dt}{w:De}
abbrev xo (X:Cx)(ifs:List Expr)(t:Dt):Prop:=PTs X ifs (wO t)
theorem PTs.imp {ifs:List Expr}{t t':TT}(h:PTs X ifs t)(hi:∀ σ H Q,t' σ H Q->t σ H Q):PTs X ifs t':=fun pins s σ H Q I q=>h pins s σ H Q I (hi σ H Q q)
def dYes:Dt:=fun _ μ K=>K true μ
theorem jW:xo X [] dYes:=pts_nil.imp fun σ H Q nP=>by obtain⟨φ,ρ,μ,K,A,M,k,L⟩:=nP;exact L true μ φ H k (.refl _ _) M
theorem rX {c:Expr}(h:PDT X c t):xo X [c] t:=pts_one h
theorem d_comp (m:Bool){wi:DI}(hc:gT X N js sc)(calm:X.calm=true)(so:SoG g y S)(mo:mw g)(ho:oA S js=true)(hi:PDI X tg iter wi)(hg:∀ fp s H,PG (ky X N sc fp s H) tg g)(ht:∀ fp s H,xo (ky X N sc fp s H) ifs t)(he:∀ fp s H,PD (ky X N sc fp s H) elt w)
 (hs:∀ x,foldedSetIterable iter X.env x=pure x:=by intro _;rfl):PD X (.ListComp elt [⟨tg,iter,ifs,0⟩] sc pos) (tP m wi js y t w):=(pe_comp hc calm hi hg ht he hs).imp fun σ H Q q=>yf so mo ho q
theorem s_setComp (m:Bool){wi:DI}{pos' uW:Pos}{i:Nat}{x:Str}(hc:gT X N js sc)(calm:X.calm=true)(so:SoG g y S)(mo:mw g)(ho:oA S js=true)(hN:X.N.Nodup)(hx':X.N[i]?=some x)(hx:Loc X.env.scope x)(hi:PDI X tg iter wi)(hg:∀ fp s H,PG (ky X N sc fp s H) tg g)
 (ht:∀ fp s H,xo (ky X N sc fp s H) ifs t) (he:∀ fp s H,PD (ky X N sc fp s H) elt w) (hsw:swapsWith (.ListComp elt [⟨tg,iter,ifs,0⟩] sc pos) (some (.Name x pos')) uW.line X.env=pure true:=by rfl)
 (hs:∀ x,foldedSetIterable iter X.env x=pure x:=by intro _;rfl) (hf:X.fn x=true\/X.env.scope.names.lookup x=some .local:=by first | exact .inl rfl | exact .inr rfl | assumption) :
 wC X (.Assign [.Name x pos'] (.ListComp elt [⟨tg,iter,ifs,0⟩] sc pos) uW) (dSet i (tP m wi js y t w)):=(ps_setComp hc calm hN hx' hx hi hg ht he hsw hs hf).imp fun E σ H ⟨φ,ρ,μ,N,A,M,w,L⟩ =>
 yf so mo ho ⟨φ,ρ,μ,_,A,M,w,fun d dJ ee v1 H1 k1 f1 M1 i1=>L.nx _ dJ ee _ H1 k1 f1 ((A.mono f1).set i1 i) M1⟩
def dItL (w:De):DI:=fun ρ μ K=>w ρ μ fun d dJ=>opt (lv dJ d) fun ds=>K ds (lc d ds) dJ
theorem wk_list {Kf:PySem.W.Frag}{p:Addr}{φ:List Addr}{H:Hp}{ds:List D}{c:MS->Prop}(h:∀ eB H' μ',Fr φ H eB H'->d8 eB H' μ'->c μ'->∃ vs,H' p=some (.lst vs)/\dN eB H' ds vs):Wk (Itl Kf p) φ H ds c:=fun eB H' μ' f M c' i=>by
 obtain⟨vs,hp,ha⟩:=h eB H' μ' f M c'
 refine⟨fun d hd=>?_,fun hi=>⟨vs,oW.of hp,by rw[ha.len,hi];exact aa _⟩⟩
 obtain⟨v,hv,hi⟩:=ha.get hd
 refine⟨⟨vs,v,oW.of hp,hv⟩,fun x H'' hy=>?_⟩
 obtain⟨rfl,hy⟩:=hy
 have e:=hy vs (oW.of hp)
 rw[hv]at e;cases e
 exact⟨.refl _ _,M,hi⟩
theorem i_list {w:De}(h:PD X a w):PDI X tg a (dItL w):=(pi_list h).imp fun σ H Q hq=>by
 obtain⟨φ,ρ,μ,K,A,M,k,L⟩:=hq
 refine⟨φ,ρ,μ,_,A,M,k,fun d dJ ee v1 H1 k1 f1 M1 i1=>?_⟩
 obtain⟨ds,el,k1⟩:=gb k1
 obtain⟨p,vs,rfl,hp,ha⟩:=pL M1 i1 el
 exact⟨p,rfl,⟨vs,oW.of hp⟩,L ds _ dJ ee _ H1 k1 f1 M1 (wk_list fun eB H' μ' f M c=>lv_stay M1 i1 el f M c)⟩
def kg (lo:Int)(n:Nat):List D:=(List.range n).map fun i=>D.int (lo+(i:Nat))
theorem Aj {lo:Int}{n:Nat}{φ:List Addr}{H:Hp}:Wk (Itr lo n) φ H (kg lo n) fun _=>True:=fun eB H' μ' f M _ i=>by
 have hl:(kg lo n).length=n:=by unfold kg;rw[fg,gxJ]
 refine⟨fun d hd=>?_,fun hi=>by rw[hl]at hi;exact Nat.le_of_eq hi.symm⟩
 have hi:i<n:=by have:=(lE hd).1;omega
 refine⟨hi,fun x H'' hy=>?_⟩
 obtain⟨rfl,rfl⟩:=hy
 refine⟨.refl _ _,M,?_⟩
 unfold kg at hd
 rw[tK,cL hi]at hd
 cases hd
 rfl
def dItR1 (w:DA):DI:=fun ρ μ K=>w ρ μ fun ds dJ=>match ds with
 | [.int j] => -(2 ^ 62)<=j/\j<2 ^ 62/\K (kg 0 j.toNat) (fun _=>True) dJ
 | _=>False
def dItR2 (w:DA):DI:=fun ρ μ K=>w ρ μ fun ds dJ=>match ds with
 | [.int i,.int j]=>(-(2 ^ 62)<=i/\i<2 ^ 62 /\ -(2 ^ 62)<=j/\j<2 ^ 62)/\K (kg i (j - i).toNat) (fun _=>True) dJ
 | _=>False
theorem iC {w:DA}{p:Pos}(hg:Gl X "range")(hm:X.mg "range"=none)(ha:tY X [a] w)(hs:starEach [a] X.env=[(false,eval a X.env)]:=by rfl):PDI X tg (.Call (.Name "range" p) [a] [] pos) (dItR1 w):=(pi_range1 hg hm ha hs).imp fun σ H Q hq=>by
 obtain⟨φ,ρ,μ,K,A,M,k,L⟩:=hq
 refine⟨φ,ρ,μ,_,A,M,k,fun ds dJ ee vs H1 k1 f1 M1 i1=>?_⟩
 split at k1
 ·obtain⟨v,r,rfl,h1,h2⟩:=i1
  cases(show v=_ from h1);cases(show r=[]from h2)
  exact⟨_,rfl,k1.1,k1.2.1,L _ _ dJ ee _ H1 k1.2.2 f1 M1 Aj⟩
 ·exact k1.elim
theorem i_range2 {w:DA}{p:Pos}(hg:Gl X "range")(hm:X.mg "range"=none)(ha:tY X [a,b] w)(hs:starEach [a,b] X.env=[(false,eval a X.env),(false,eval b X.env)]:=by rfl)(hs2:starEach [b] X.env=[(false,eval b X.env)]:=by rfl):PDI X tg (.Call (.Name "range" p) [a,b] [] pos) (dItR2 w):=(pi_range2 hg hm ha hs hs2).imp fun σ H Q hq=>by
 obtain⟨φ,ρ,μ,K,A,M,k,L⟩:=hq
 refine⟨φ,ρ,μ,_,A,M,k,fun ds dJ ee vs H1 k1 f1 M1 i1=>?_⟩
 split at k1
 ·obtain⟨v,r,rfl,h1,u,r',rfl,h2,h3⟩:=i1
  cases(show v=_ from h1);cases(show u=_ from h2);cases(show r'=[]from h3)
  exact⟨_,_,rfl,k1.1,L _ _ dJ ee _ H1 k1.2 f1 M1 Aj⟩
 ·exact k1.elim
def dItS (w:De):DI:=fun ρ μ K=>w ρ μ fun d dJ=>match d with
 | .str z=>K (z.cps.toList.map fun c=>D.str ⟨#[c]⟩) (fun _=>True) dJ
 | _=>False
theorem i_str {w:De}(h:PD X a w):PDI X tg a (dItS w):=(pi_str h).imp fun σ H Q hq=>by
 obtain⟨φ,ρ,μ,K,A,M,k,L⟩:=hq
 refine⟨φ,ρ,μ,_,A,M,k,fun d dJ ee v1 H1 k1 f1 M1 i1=>?_⟩
 split at k1
 ·rename_i z
  cases(show v1=_ from i1)
  refine⟨z,rfl,L _ _ dJ ee _ H1 k1 f1 M1 fun eB H' μ' f M _ i=>⟨fun d hd=>?_,fun hi=>by rw[fg]at hi;exact hi⟩⟩
  have hi:i<z.cps.toList.length:=by have:=(lE hd).1;rwa [fg]at this
  refine⟨hi,fun x H'' hy=>?_⟩
  obtain⟨rfl,c,hc,rfl⟩:=hy
  rw[tK,hc]at hd
  cases hd
  exact⟨.refl _ _,M,rfl⟩
 ·exact k1.elim
end
mutual
def wJ (n:Nat):D->Prop
 | .lst ds=>pj n ds
 | .tup ds=>pj n ds
 | .hJ _ ds=>pj n ds
 | .mr k=>k<n
 | .obj _ _ ds=>pj n ds
 | .kK _ ds=>pj n ds
 | _=>True
def pj (n:Nat):List D->Prop
 | []=>True
 | d::ds=>wJ n d/\pj n ds
end
def moB (n:Nat):MO->Prop
 | .box=>True
 | .lst ds=>pj n ds
 | .hJ _ ds=>pj n ds
 | .m4 _ _ ds=>pj n ds
 | .ins _ _ ds=>pj n ds
 | .dtu _ ds=>pj n ds
 | .gx eI _=>eI.length<=n
 | .exc _=>True
theorem Fr.takeN {eI φ:List Addr}{H0 H:Hp}{n:Nat}(f:Fr eI H0 φ H)(h:eI.length<=n):Fr eI H0 (φ.take n) H:=by
 obtain⟨⟨ψ,rfl,hψ⟩,k,d⟩:=f
 exact⟨⟨ψ.take (n - eI.length),by rw[List.take_append,aV h],fun c hc=>hψ c (aO hc)⟩,k,d⟩
theorem Fr.late {eI φ:List Addr}{H0 H:Hp}{j:Nat}{p:Addr}(f:Fr eI H0 φ H)(h:eI.length<=j)(hp:φ[j]?=some p):H0 p=none:=by
 obtain⟨⟨ψ,rfl,hψ⟩,k,d⟩:=f
 rw[p6 h]at hp
 exact hψ p (zk hp)
theorem Fr.takeP {eI φ:List Addr}{H0 H:Hp}{n:Nat}{p:Addr}(f:Fr eI H0 φ H)(h:eI.length<=n)(hp:H0 p=none):Fr eI H0 (φ.take n++[p]) H:=by
 obtain⟨⟨ψ,e,hψ⟩,k,d⟩:=f.takeN h
 exact⟨⟨ψ++[p],by rw[e,aI],fun c hc=>by rcases List.mem_append.mp hc with z | z;exact hψ c z;rw[List.mem_singleton.mp z];exact hp⟩,k,d⟩
mutual
theorem ij.iD {n:Nat}{φ:List Addr}{H:Hp}:∀ {d:D} {v:V},wJ n d->ij φ H d v->ij (φ.take n) H d v
 | .fH,_,_,h=>h
 | .bl _,_,_,h=>h
 | .int _,_,_,h=>h
 | .str _,_,_,h=>h
 | .lst _,_,m,h=>by obtain⟨p,vs,e,nn,hp,q⟩:=h;exact⟨p,vs,e,fun z=>nn (aO z),hp,dN.iD m q⟩
 | .tup _,_,m,h=>by obtain⟨p,vs,e,nn,hp,q⟩:=h;exact⟨p,vs,e,fun z=>nn (aO z),hp,dN.iD m q⟩
 | .hJ _ _,_,m,h=>by obtain⟨p,kvs,vs,e,nn,hp,q1,q2,q⟩:=h;exact⟨p,kvs,vs,e,fun z=>nn (aO z),hp,q1,q2,dN.iD m q⟩
 | .mr k,_,m,h=>by obtain⟨p,e,q⟩:=h;exact⟨p,by rw[bu m];exact e,q⟩
 | .obj _ _ _,_,m,h=>by obtain⟨p,dx,fs,vs,e,nn,hp,q1,q2,q⟩:=h;exact⟨p,dx,fs,vs,e,fun z=>nn (aO z),hp,q1,q2,dN.iD m q⟩
 | .kK _ _,_,m,h=>by obtain⟨p,dx,fs,vs,e,nn,hp,q1,q2,q⟩:=h;exact⟨p,dx,fs,vs,e,fun z=>nn (aO z),hp,q1,q2,dN.iD m q⟩
 | .fn _,_,_,h=>h
theorem dN.iD {n:Nat}{φ:List Addr}{H:Hp}:∀ {ds:List D} {vs:List V},pj n ds->dN φ H ds vs->dN (φ.take n) H ds vs
 | [],_,_,h=>h
 | _::_,_,m,h=>by obtain⟨v,r,e,h1,h2⟩:=h;exact⟨v,r,e,ij.iD m.1 h1,dN.iD m.2 h2⟩
end
theorem d8.iD {n:Nat}{φ:List Addr}{H:Hp}{μ:MS}(h:d8 φ H μ)(hm:∀(k:Nat) (m:MO),k<n->μ[k]?=some m->moB n m):d8 (φ.take n) H (μ.take n):=by
 refine⟨h.nd.sublist (List.take_sublist _ _),by rw[aP,aP,h.len],fun k m e=>?_⟩
 have hk:k<n:=by have:=(lE e).1;rw[aP]at this;omega
 rw[bu hk]at e
 obtain⟨p,e1,e2⟩:=h.at_ k m e
 refine⟨p,by rw[bu hk];exact e1,?_⟩
 have hb:=hm k m hk e
 cases m with
 | box=>obtain⟨q,ns,i,r,z,h1,h2,h3,h4⟩:=e2;exact⟨q,ns,i,r,z,h1,h2,fun z=>h3 (aO z),h4⟩
 | lst ds=>obtain⟨vs,h1,h2⟩:=e2;exact⟨vs,h1,h2.iD hb⟩
 | hJ ks ds=>obtain⟨kvs,vs,h1,h2,h3,h4⟩:=e2;exact⟨kvs,vs,h1,h2,h3,h4.iD hb⟩
 | m4 o kvs ds=>exact⟨e2.1,e2.2.iD hb⟩
 | ins C ns ds=>obtain⟨dx,fs,h1,h2,h3⟩:=e2;exact⟨dx,fs,h1,h2,h3.iD hb⟩
 | dtu ks ds=>obtain⟨kvs,h1,h2,h3⟩:=e2;exact⟨kvs,h1,h2,h3.iD hb⟩
 | gx eI H0=>exact⟨e2.1.takeN hb,e2.2⟩
 | exc c=>exact e2
mutual
theorem ij.bound {φ:List Addr}{H:Hp}:∀ {d:D} {v:V},ij φ H d v->wJ φ.length d
 | .fH,_,_=>True.intro
 | .bl _,_,_=>True.intro
 | .int _,_,_=>True.intro
 | .str _,_,_=>True.intro
 | .lst _,_,h=>by obtain⟨p,vs,e,nn,hp,q⟩:=h;exact dN.bound q
 | .tup _,_,h=>by obtain⟨p,vs,e,nn,hp,q⟩:=h;exact dN.bound q
 | .hJ _ _,_,h=>by obtain⟨p,kvs,vs,e,nn,hp,q1,q2,q⟩:=h;exact dN.bound q
 | .mr k,_,h=>by obtain⟨p,e,q⟩:=h;exact(lE e).1
 | .obj _ _ _,_,h=>by obtain⟨p,dx,fs,vs,e,nn,hp,q1,q2,q⟩:=h;exact dN.bound q
 | .kK _ _,_,h=>by obtain⟨p,dx,fs,vs,e,nn,hp,q1,q2,q⟩:=h;exact dN.bound q
 | .fn _,_,_=>True.intro
theorem dN.bound {φ:List Addr}{H:Hp}:∀ {ds:List D} {vs:List V},dN φ H ds vs->pj φ.length ds
 | [],_,_=>True.intro
 | _::_,_,h=>by obtain⟨v,r,e,h1,h2⟩:=h;exact⟨ij.bound h1,dN.bound h2⟩
end
theorem d8.bound {φ:List Addr}{H:Hp}{μ:MS}(h:d8 φ H μ):∀(k:Nat) (m:MO),μ[k]?=some m->moB μ.length m:=fun k m e=>by
 obtain⟨p,e1,e2⟩:=h.at_ k m e
 rw[<- h.len]
 cases m with
 | box=>exact True.intro
 | lst ds=>obtain⟨vs,h1,h2⟩:=e2;exact h2.bound
 | hJ ks ds=>obtain⟨kvs,vs,h1,h2,h3,h4⟩:=e2;exact h4.bound
 | m4 o kvs ds=>exact e2.2.bound
 | ins C ns ds=>obtain⟨dx,fs,h1,h2,h3⟩:=e2;exact h3.bound
 | dtu ks ds=>obtain⟨kvs,h1,h2,h3⟩:=e2;exact h3.bound
 | gx eI H0=>obtain⟨⟨ψ,e,_⟩,_⟩:=e2.1;show eI.length<=φ.length;rw[e,kH];omega
 | exc c=>exact True.intro
theorem jv {n:Nat}{eB:List Addr}{p q:Addr}(hp:p∈eB)(h:q∉eB):q∉eB.take n++[p]:=fun z=>by
 rcases List.mem_append.mp z with z | z
 ·exact h (aO z)
 ·exact h (by rw[List.mem_singleton.mp z];exact hp)
mutual
theorem ij.addP {n:Nat}{eB:List Addr}{H:Hp}{p:Addr}(hp:p∈eB):∀ {d:D} {v:V},wJ n d->ij eB H d v->ij (eB.take n++[p]) H d v
 | .fH,_,_,h=>h
 | .bl _,_,_,h=>h
 | .int _,_,_,h=>h
 | .str _,_,_,h=>h
 | .lst _,_,m,h=>by obtain⟨q,vs,e,nn,hq,z⟩:=h;exact⟨q,vs,e,jv hp nn,hq,dN.nM hp m z⟩
 | .tup _,_,m,h=>by obtain⟨q,vs,e,nn,hq,z⟩:=h;exact⟨q,vs,e,jv hp nn,hq,dN.nM hp m z⟩
 | .hJ _ _,_,m,h=>by obtain⟨q,kvs,vs,e,nn,hq,q1,q2,z⟩:=h;exact⟨q,kvs,vs,e,jv hp nn,hq,q1,q2,dN.nM hp m z⟩
 | .mr k,_,m,h=>by
  obtain⟨q,e,z⟩:=h
  have hk:k<(eB.take n).length:=by rw[aP];have:=(lE e).1;have m':k<n:=m;omega
  exact⟨q,by rw[uD hk,bu m];exact e,z⟩
 | .obj _ _ _,_,m,h=>by obtain⟨q,dx,fs,vs,e,nn,hq,q1,q2,z⟩:=h;exact⟨q,dx,fs,vs,e,jv hp nn,hq,q1,q2,dN.nM hp m z⟩
 | .kK _ _,_,m,h=>by obtain⟨q,dx,fs,vs,e,nn,hq,q1,q2,z⟩:=h;exact⟨q,dx,fs,vs,e,jv hp nn,hq,q1,q2,dN.nM hp m z⟩
 | .fn _,_,_,h=>h
theorem dN.nM {n:Nat}{eB:List Addr}{H:Hp}{p:Addr}(hp:p∈eB):∀ {ds:List D} {vs:List V},pj n ds->dN eB H ds vs->dN (eB.take n++[p]) H ds vs
 | [],_,_,h=>h
 | _::_,_,m,h=>by obtain⟨v,r,e,h1,h2⟩:=h;exact⟨v,r,e,ij.addP hp m.1 h1,dN.nM hp m.2 h2⟩
end
def ug (R:D->D->Prop)(ds es:List D):Prop:=ds.length=es.length/\∀(i:Nat) (a b:D),ds[i]?=some a->es[i]?=some b->R a b
def FrzR (n:Nat)(μ:MS):Nat->D->D->Prop
 | 0,d,d'=>d'=d/\wJ n d
 | k+1,d,d'=>(d'=d/\wJ n d)\/(∃ j ds es,d=.mr j/\n<=j/\μ[j]?=some (.lst ds)/\d'=.lst es/\ug (FrzR n μ k) ds es)\/(∃ ds es,d=.lst ds/\d'=.lst es/\ug (FrzR n μ k) ds es)\/(∃ ds es,d=.tup ds/\d'=.tup es/\ug (FrzR n μ k) ds es)\/(∃ j ks ds es,d=.mr j/\n<=j/\μ[j]?=some (.hJ ks ds)/\d'=.hJ ks es/\ug (FrzR n μ k) ds es)
theorem dN.vt {φ:List Addr}{H:Hp}:∀ {ds:List D} {vs:List V},ds.length=vs.length->(∀(i:Nat) (d:D) (v:V),ds[i]?=some d->vs[i]?=some v->ij φ H d v)->dN φ H ds vs
 | [],vs,hl,_=>by cases vs with
  | nil=>rfl
  | cons v r=>simp at hl
 | d::ds,vs,hl,h=>by cases vs with
  | nil=>simp at hl
  | cons v r=>exact⟨v,r,rfl,h 0 d v rfl rfl,dN.vt (by simpa using hl) fun i a b e1 e2=>h (i+1) a b (by simpa using e1) (by simpa using e2)⟩
theorem FrzR.is {n:Nat}{φ:List Addr}{H:Hp}{μ:MS}(M:d8 φ H μ)(nin:∀ {j:Nat} {p:Addr},n<=j->φ[j]?=some p->p∉φ.take n):∀ {k:Nat} {d d':D} {v:V},FrzR n μ k d d'->ij φ H d v->ij (φ.take n) H d' v:=by
 intro k
 induction k with
 | zero=>intro d d' v h i;obtain⟨rfl,hb⟩:=h;exact i.iD hb
 | succ k ih =>
  have all:∀ {ds es:List D} {vs:List V},ug (FrzR n μ k) ds es->dN φ H ds vs->dN (φ.take n) H es vs:=fun {ds es vs} ha hd =>
   dN.vt (by rw[hd.len,ha.1]) fun i b v e1 e2=>by
    obtain⟨a,e3,hv⟩:=hd.getV e2
    exact ih (ha.2 i a b e3 e1) hv
  intro d d' v h i
  rcases h with⟨rfl,hb⟩ | ⟨j,ds,es,rfl,hj,e,rfl,ha⟩ | ⟨ds,es,rfl,rfl,ha⟩ | ⟨ds,es,rfl,rfl,ha⟩ | ⟨j,ks,ds,es,rfl,hj,e,rfl,ha⟩
  ·exact i.iD hb
  ·obtain⟨p,hp,rfl⟩:=i
   obtain⟨p',e1,vs,hv,hd⟩:=M.at_ j _ e
   rw[hp]at e1;cases e1
   exact⟨p,vs,rfl,nin hj hp,hv,all ha hd⟩
  ·obtain⟨p,vs,rfl,hn,hp,hd⟩:=i
   exact⟨p,vs,rfl,fun z=>hn (aO z),hp,all ha hd⟩
  ·obtain⟨p,vs,rfl,hn,hp,hd⟩:=i
   exact⟨p,vs,rfl,fun z=>hn (aO z),hp,all ha hd⟩
  ·obtain⟨p,hp,rfl⟩:=i
   obtain⟨p',e1,kvs,vs,hv,h1,h2,hd⟩:=M.at_ j _ e
   rw[hp]at e1;cases e1
   exact⟨p,kvs,vs,rfl,nin hj hp,hv,h1,h2,all ha hd⟩
def wG (n:Nat)(μ:MS):Nat->D->D->Prop
 | 0,d,d'=>d'=d/\wJ n d
 | k+1,d,d'=>(d'=d/\wJ n d)\/(∃ j ds es,d=.mr j/\n<=j/\μ[j]?=some (.lst ds)/\d'=.lst es/\ug (wG n μ k) ds es)\/(∃ ds es,d=.lst ds/\d'=.lst es/\ug (wG n μ k) ds es)\/(∃ ds es,d=.tup ds/\d'=.tup es/\ug (wG n μ k) ds es)\/(∃ j o kvs ds es,d=.mr j/\n<=j/\μ[j]?=some (.m4 o kvs ds)/\d'=.kK (kvs.map (·.1)) es/\ug (wG n μ k) ds es)\/(∃ j C ns ds es,d=.mr j/\n<=j/\μ[j]?=some (.ins C ns ds)/\d'=.obj C ns es/\ug (wG n μ k) ds es)
theorem wG.is {n:Nat}{φ:List Addr}{H:Hp}{μ:MS}(M:d8 φ H μ)(nin:∀ {j:Nat} {p:Addr},n<=j->φ[j]?=some p->p∉φ.take n):∀ {k:Nat} {d d':D} {v:V},wG n μ k d d'->ij φ H d v->ij (φ.take n) H d' v:=by
 intro k
 induction k with
 | zero=>intro d d' v h i;obtain⟨rfl,hb⟩:=h;exact i.iD hb
 | succ k ih =>
  have all:∀ {ds es:List D} {vs:List V},ug (wG n μ k) ds es->dN φ H ds vs->dN (φ.take n) H es vs:=fun {ds es vs} ha hd =>
   dN.vt (by rw[hd.len,ha.1]) fun i b v e1 e2=>by
    obtain⟨a,e3,hv⟩:=hd.getV e2
    exact ih (ha.2 i a b e3 e1) hv
  intro d d' v h i
  rcases h with⟨rfl,hb⟩ | ⟨j,ds,es,rfl,hj,e,rfl,ha⟩ | ⟨ds,es,rfl,rfl,ha⟩ | ⟨ds,es,rfl,rfl,ha⟩ | ⟨j,o,kvs,ds,es,rfl,hj,e,rfl,ha⟩ | ⟨j,C,ns,ds,es,rfl,hj,e,rfl,ha⟩
  ·exact i.iD hb
  ·obtain⟨p,hp,rfl⟩:=i
   obtain⟨p',e1,vs,hv,hd⟩:=M.at_ j _ e
   rw[hp]at e1;cases e1
   exact⟨p,vs,rfl,nin hj hp,hv,all ha hd⟩
  ·obtain⟨p,vs,rfl,hn,hp,hd⟩:=i
   exact⟨p,vs,rfl,fun z=>hn (aO z),hp,all ha hd⟩
  ·obtain⟨p,vs,rfl,hn,hp,hd⟩:=i
   exact⟨p,vs,rfl,fun z=>hn (aO z),hp,all ha hd⟩
  ·obtain⟨p,hp,rfl⟩:=i
   obtain⟨p',e1,hv,hd⟩:=M.at_ j _ e
   rw[hp]at e1;cases e1
   exact⟨p,o,kvs,_,rfl,nin hj hp,hv,rfl,rfl,all ha hd⟩
  ·obtain⟨p,hp,rfl⟩:=i
   obtain⟨p',e1,dx,fs,hv,h1,hd⟩:=M.at_ j _ e
   rw[hp]at e1;cases e1
   exact⟨p,dx,fs,_,rfl,nin hj hp,hv,h1,rfl,all ha hd⟩
inductive Fz (n:Nat)(K:DK):DK where
 | keep {d μ} (k:K d μ):Fz n K d μ
 | drop {d μ} (hd:wJ n d) (hm:∀(j:Nat) (m:MO),j<n->μ[j]?=some m->moB n m) (k:K d (μ.take n)):Fz n K d μ
 | lst {j ds μ} (hj:n<=j) (e:μ[j]?=some (.lst ds)) (hd:pj n ds) (hm:∀(j:Nat) (m:MO),j<n->μ[j]?=some m->moB n m) (k:K (.lst ds) (μ.take n)):Fz n K (.mr j) μ
 | one {j ds μ} (hj:n<=j) (e:μ[j]?=some (.lst ds)) (hd:pj n ds) (hm:∀(j:Nat) (m:MO),j<n->μ[j]?=some m->moB n m) (k:K (.mr n) (μ.take n++[.lst ds])):Fz n K (.mr j) μ
 | deep {f d d' μ} (e:FrzR n μ f d d') (hm:∀(j:Nat) (m:MO),j<n->μ[j]?=some m->moB n m) (k:K d' (μ.take n)):Fz n K d μ
 | hJ {j ks ds μ} (hj:n<=j) (e:μ[j]?=some (.hJ ks ds)) (hd:pj n ds) (hm:∀(j:Nat) (m:MO),j<n->μ[j]?=some m->moB n m) (k:K (.hJ ks ds) (μ.take n)):Fz n K (.mr j) μ
 | obj {j C ns ds μ} (hj:n<=j) (e:μ[j]?=some (.ins C ns ds)) (hd:pj n ds) (hm:∀(j:Nat) (m:MO),j<n->μ[j]?=some m->moB n m) (k:K (.obj C ns ds) (μ.take n)):Fz n K (.mr j) μ
 | kK {j o kvs ds μ} (hj:n<=j) (e:μ[j]?=some (.m4 o kvs ds)) (hd:pj n ds) (hm:∀(j:Nat) (m:MO),j<n->μ[j]?=some m->moB n m) (k:K (.kK (kvs.map (·.1)) ds) (μ.take n)):Fz n K (.mr j) μ
 | deepQ {f d d' μ} (e:wG n μ f d d') (hm:∀(j:Nat) (m:MO),j<n->μ[j]?=some m->moB n m) (k:K d' (μ.take n)):Fz n K d μ
theorem sQ.fz {φ:List Addr}{H:Hp}{μ:MS}{K:DK}{Q:VK}(M:d8 φ H μ)(L:sQ φ H K Q):sQ φ H (Fz μ.length K) Q:=fun d μ' eB v H' k f M' i=>by
 have eφ:eB.take μ.length=φ:=by
  obtain⟨⟨ψ,rfl,_⟩,_,_⟩:=f
  rw[<- M.len,aU]
 have f0:Fr φ H (eB.take μ.length) H':=by
  rw[eφ]
  exact⟨⟨[],by simp,fun _ h=>nomatch h⟩,f.keep,f.dom⟩
 have nin:∀ {j:Nat} {p:Addr},μ.length<=j->eB[j]?=some p->p∉eB.take μ.length:=fun {j p} hj e hp=>by
  obtain⟨i,hi,ei⟩:=ck hp
  rw[aP]at hi
  rw[List.getElem_take]at ei
  obtain⟨hj',ej⟩:=lE e
  exact List.pairwise_iff_getElem.mp M'.nd i j (by omega) hj' (by omega) (ei.trans ej.symm)
 cases k with
 | keep k=>exact L d μ' eB v H' k f M' i
 | drop hd hm k=>exact L d _ _ v H' k f0 (M'.iD hm) (i.iD hd)
 | @lst j ds _ hj e hd hm k =>
  obtain⟨p,hp,rfl⟩:=i
  obtain⟨p',e1,vs,hv,ha⟩:=M'.at_ j _ e
  rw[hp]at e1;cases e1
  exact L _ _ _ _ H' k f0 (M'.iD hm) ⟨p,vs,rfl,nin hj hp,hv,ha.iD hd⟩
 | @one j ds _ hj e hd hm k =>
  obtain⟨p,hp,rfl⟩:=i
  obtain⟨p',e1,vs,hv,ha⟩:=M'.at_ j _ e
  rw[hp]at e1;cases e1
  have M0:=M'.iD hm
  have hpn:p∉φ:=by have:=nin hj hp;rwa [eφ]at this
  have hH:H p=none:=by
   obtain⟨⟨ψ,rfl,hψ⟩,_,_⟩:=f
   refine hψ p ?_
   have q:=zk hp
   rcases List.mem_append.mp q with q | q
   ·exact absurd q hpn
   ·exact q
  have M1:d8 (eB.take μ.length) H' (μ'.take μ.length):=M0
  rw[eφ]at M1
  have f1:Fr φ H (φ++[p]) H':=⟨⟨[p],rfl,fun c hc=>by rw[List.mem_singleton.mp hc];exact hH⟩,f.keep,f.dom⟩
  have len:(μ'.take μ.length).length=μ.length:=by rw[<- M1.len,M.len]
  have pin:p∈eB:=zk hp
  have hdv:dN (φ++[p]) H' ds vs:=by
   have q:=dN.nM pin hd ha
   rwa [eφ]at q
  have M2:d8 (φ++[p]) H' (μ'.take μ.length++[.lst ds]):=by
   refine⟨?_,by rw[kH,kH,M1.len];rfl,fun k m ek=>?_⟩
   ·rw[bD]
    exact⟨M.nd,by simp,fun a ha b hb=>by rw[List.mem_singleton.mp hb];intro z;exact hpn (by rw[<- z];exact ha)⟩
   ·by_cases hk:k<μ.length
    ·rw[uD (by rw[len];exact hk)]at ek
     rw[bu hk]at ek
     obtain⟨q,e1,e2⟩:=M'.at_ k m ek
     have e1':φ[k]?=some q:=by rw[<- eφ,bu hk];exact e1
     refine⟨q,by rw[uD (by rw[M.len];exact hk)];exact e1',?_⟩
     have hb:=hm k m hk ek
     cases m with
     | box =>
      obtain⟨b,ns,i,r,z,h1,h2,h3,h4⟩:=e2
      exact⟨b,ns,i,r,z,h1,h2,by have:=jv (n:=μ.length) pin h3;rwa [eφ]at this,h4⟩
     | lst es=>obtain⟨us,h1,h2⟩:=e2;exact⟨us,h1,by have:=dN.nM pin hb h2;rwa [eφ]at this⟩
     | hJ ks es=>obtain⟨kvs,us,h1,h2,h3,h4⟩:=e2;exact⟨kvs,us,h1,h2,h3,by have:=dN.nM pin hb h4;rwa [eφ]at this⟩
     | m4 o kvs es=>exact⟨e2.1,by have:=dN.nM pin hb e2.2;rwa [eφ]at this⟩
     | ins C ns es=>obtain⟨dx,fs,h1,h2,h3⟩:=e2;exact⟨dx,fs,h1,h2,by have:=dN.nM pin hb h3;rwa [eφ]at this⟩
     | dtu ks es=>obtain⟨kvs,h1,h2,h3⟩:=e2;exact⟨kvs,h1,h2,by have:=dN.nM pin hb h3;rwa [eφ]at this⟩
     | gx eI H0=>exact⟨by have:=e2.1.takeP (n:=μ.length) hb (p:=p) (e2.1.late (ar hb hj) hp);rwa [eφ]at this,e2.2⟩
     | exc c=>exact e2
    ·have hk':k=μ.length:=by
      have:=(lE ek).1
      rw[kH,aQ,len]at this
      omega
     subst hk'
     rw[p6 (by rw[len];exact aa _),len,aR]at ek
     cases ek
     exact⟨p,by rw[p6 (by rw[M.len];exact aa _),M.len,aR];rfl,vs,hv,hdv⟩
  exact L _ _ _ _ H' k f1 M2 ⟨p,by rw[p6 (by rw[M.len];exact aa _),M.len,aR];rfl,rfl⟩
 | @deep f' d d' _ e hm k=>exact L _ _ _ _ H' k f0 (M'.iD hm) (e.is M' nin i)
 | @hJ j ks ds _ hj e hd hm k =>
  obtain⟨p,hp,rfl⟩:=i
  obtain⟨p',e1,kvs,vs,hv,h1,h2,ha⟩:=M'.at_ j _ e
  rw[hp]at e1;cases e1
  exact L _ _ _ _ H' k f0 (M'.iD hm) ⟨p,kvs,vs,rfl,nin hj hp,hv,h1,h2,ha.iD hd⟩
 | @obj j C ns ds _ hj e hd hm k =>
  obtain⟨p,hp,rfl⟩:=i
  obtain⟨p',e1,dx,fs,h1,h2,h3⟩:=M'.at_ j _ e
  rw[hp]at e1;cases e1
  exact L _ _ _ _ H' k f0 (M'.iD hm) ⟨p,dx,fs,_,rfl,nin hj hp,h1,h2,rfl,h3.iD hd⟩
 | @kK j o kvs ds _ hj e hd hm k =>
  obtain⟨p,hp,rfl⟩:=i
  obtain⟨p',e1,h1,h3⟩:=M'.at_ j _ e
  rw[hp]at e1;cases e1
  exact L _ _ _ _ H' k f0 (M'.iD hm) ⟨p,o,kvs,_,rfl,nin hj hp,h1,rfl,rfl,h3.iD hd⟩
 | @deepQ f' d d' _ e hm k=>exact L _ _ _ _ H' k f0 (M'.iD hm) (e.is M' nin i)
def retN (n:Nat)(K:DK):DN:={ nx:=fun _ μ'=>Fz n K .fH μ',rt:=fun d μ'=>Fz n K d μ'}
def om (N:List Str)(ds:List D):DE:=ds.map some++List.replicate (N.length - ds.length) none
theorem iF.start {φ:List Addr}{H:Hp}{N:List Str}{ds:List D}{vs:List V}(h:dN φ H ds vs):iF φ H (om N ds) (start N vs):=by
 have hl:=h.len
 unfold om L2.start
 refine⟨by simp[hl],fun i d e=>?_⟩
 by_cases hi:i<ds.length
 ·rw[uD (by rw[fg];exact hi),tK]at e
  have e':ds[i]?=some d:=by
   cases q:ds[i]? with
   | none=>rw[q]at e;cases e
   | some z=>rw[q]at e;cases e;rfl
  obtain⟨v,hv,hd⟩:=h.get e'
  exact⟨v,by rw[uD (by rw[fg];omega),tK,hv];rfl,hd⟩
 ·rw[p6 (by rw[fg];omega)]at e
  have:=zk e
  have:=List.eq_of_mem_replicate this
  cases this
section
variable {P:Program}{w:World}{K:PySem.W.Frag}{mg:Str->Option Value}{base:Heap}
theorem gG.nT {x qual:Str}{st:Stmt}{f:Addr}{fd:FuncData}{N ps:List Str}{k:Nat}{fs:iN}(F:gG K x qual st f fd)(S:dz N ps (dn st))(len:∀ ds μ Kd,fs ds μ Kd->ds.length=ps.length)
 (oG:∀(fI:Value) (A:Around) (outer:List Env) (s:Shared) (H:Hp) (E:XK),gD k (A.deeper (envOfC qual (dn st) s.heap.objs.size f fI)) ->
   ∃ W,PDB (nR jr P w K mg base N qual (dn st) f fI A outer s H E).nox (gg st) W/\∀ ds μ Kd,(∀(j:Nat) (m:MO),μ[j]?=some m->moB μ.length m)->pj μ.length ds->fs ds μ Kd->W (retN μ.length Kd) (om N ds) μ):d7 P w K mg base jr (k+1) f fd ps (gv fs):=by
 refine F.ok S (fun vs H Q E h=>?_) (fun fI A outer s H vs Q E hr h=>?_)
 ·obtain⟨φ,ds,μ,Kd,ha,M,hf,L⟩:=h
  rw[ha.len];exact len ds μ Kd hf
 ·obtain⟨φ,ds,μ,Kd,ha,M,hf,L⟩:=h
  obtain⟨W,hW,q⟩:=oG fI A outer s H E hr
  refine⟨_,hW,φ,om N ds,μ,retN μ.length Kd,.start ha,M,q ds μ Kd M.bound (by rw[<- M.len];exact ha.bound) hf,⟨fun ip μ' eB fO H' k' f' A' M'=>?_,L.fz M,fun _ _ _ _ _ k' _ _ _=>k'.elim,fun _ _ _ _ _ k' _ _ _=>k'.elim⟩⟩
  exact L.fz M .fH μ' eB .fH H' k' f' M' rfl
end
end L2
namespace L2
open PySem PySem.Spec PyProof.Rows
theorem sQ.val {φ:List Addr}{H:Hp}{μ:MS}{K:DK}{Q:VK}{d:D}{v:V}(L:sQ φ H K Q)(M:d8 φ H μ)(k:K d μ)(i:ij φ H d v):Q v H:=L d μ φ v H k (.refl _ _) M i
def dAdd (m:Bool):ue:=fun x y μ K=>match x,y with
 | .int i,.int j=>K (.int (i+j)) μ
 | .str i,.str j=>i.length+j.length<=sizeLine/\K (.str (i++j)) μ
 | x,y=>opt (lv μ x) fun xs=>opt (lv μ y) fun ys=>xs.length+ys.length<=sizeLine/\nL m (xs++ys) μ K
theorem so_add {m:Bool}:nS rAddC (dAdd m):=fun φ H x y dx dy μ K Q M hx hy k L=>by
 unfold dAdd at k
 split at k
 ·cases(show x=_ from hx);cases(show y=_ from hy);exact L.val M k rfl
 ·cases(show x=_ from hx);cases(show y=_ from hy);exact⟨k.1,L.val M k.2 rfl⟩
 ·obtain⟨xs,ex,k⟩:=gb k
  obtain⟨ys,ey,k⟩:=gb k
  obtain⟨p,vx,rfl,hp,ax⟩:=pL M hx ex
  obtain⟨q,vy,rfl,hq,ay⟩:=pL M hy ey
  exact⟨vx,vy,hp,hq,by rw[ax.len,ay.len];exact k.1,fun l hl=>al_n L M (ax.app ay) k.2 hl⟩
def dI2 (C:Int->Int->Prop)(g:Int->Int->D):ue:=fun x y μ K=>match x,y with
 | .int i,.int j=>C i j/\K (g i j) μ
 | _,_=>False
def we (g:Int->Int->D):ue:=fun x y μ K=>match x,y with
 | .int i,.int j=>K (g i j) μ
 | _,_=>False
theorem so_i2 {C:Int->Int->Prop}{g:Int->Int->Int}:nS (rI2 C fun i j=>.int (g i j)) (dI2 C fun i j=>.int (g i j)):=fun φ H x y dx dy μ K Q M hx hy k L=>by
 unfold dI2 at k
 split at k
 ·cases(show x=_ from hx);cases(show y=_ from hy);exact⟨k.1,L.val M k.2 rfl⟩
 ·exact k.elim
theorem so_i2' {g:Int->Int->Int}:nS (yR fun i j=>.int (g i j)) (we fun i j=>.int (g i j)):=fun φ H x y dx dy μ K Q M hx hy k L=>by
 unfold we at k
 split at k
 ·cases(show x=_ from hx);cases(show y=_ from hy);exact L.val M k rfl
 ·exact k.elim
theorem r6 {g:Int->Int->Bool}:nS (yR fun i j=>.bl (g i j)) (we fun i j=>.bl (g i j)):=fun φ H x y dx dy μ K Q M hx hy k L=>by
 unfold we at k
 split at k
 ·cases(show x=_ from hx);cases(show y=_ from hy);exact L.val M k rfl
 ·exact k.elim
def dMul:ue:=fun x y μ K=>match x,y with
 | .int i,.int j=>CMul i j/\K (.int (i*j)) μ
 | .str z,.int n=>∃ c:Nat,z=⟨#[c]⟩ /\ -1000000<=n/\n<=1000000/\K (.str ⟨(List.replicate n.toNat c).toArray⟩) μ
 | _,_=>False
theorem uX:nS rMulC dMul:=fun φ H x y dx dy μ K Q M hx hy k L=>by
 unfold dMul at k
 split at k
 ·cases(show x=_ from hx);cases(show y=_ from hy);exact⟨k.1,L.val M k.2 rfl⟩
 ·cases(show x=_ from hx);cases(show y=_ from hy)
  obtain⟨c,rfl,h1,h2,k⟩:=k
  exact⟨c,rfl,h1,h2,L.val M k rfl⟩
 ·exact k.elim
def dEqS (neg:Bool):ue:=fun x y μ K=>match x,y with
 | .int i,.int j=>K (.bl (neg != decide (i=j))) μ
 | .str i,.str j=>K (.bl (neg != decide (i=j))) μ
 | .bl i,.bl j=>K (.bl (neg != decide (i=j))) μ
 | _,_=>False
theorem uY {neg:Bool}:nS (rEqC neg) (dEqS neg):=fun φ H x y dx dy μ K Q M hx hy k L=>by
 unfold dEqS at k
 split at k
 ·cases(show x=_ from hx);cases(show y=_ from hy);exact L.val M k rfl
 ·cases(show x=_ from hx);cases(show y=_ from hy);exact L.val M k rfl
 ·cases(show x=_ from hx);cases(show y=_ from hy);exact L.val M k rfl
 ·exact k.elim
def dIx:ue:=fun x y μ K=>match x,y with
 | .str z,.int i=>z.length<=sizeLine/\opt (qh z.cps.toList i) fun c=>K (.str ⟨#[c]⟩) μ
 | .tup ds,.int i=>opt (qh ds i) fun d=>K d μ
 | x,.int i=>opt (lv μ x) fun ds=>opt (qh ds i) fun d=>K d μ
 | _,_=>False
theorem dN.qh {φ:List Addr}{H:Hp}{ds:List D}{vs:List V}{i:Int}{d:D}(h:dN φ H ds vs)(e:qh ds i=some d):∃ v,qh vs i=some v/\ij φ H d v:=by
 unfold L2.qh at e ⊢
 rw[h.len]
 cases q:ixN ds.length i with
 | none=>rw[q]at e;cases e
 | some j=>rw[q]at e;exact h.get e
theorem so_ix:nS rIxC dIx:=fun φ H x y dx dy μ K Q M hx hy k L=>by
 unfold dIx at k
 split at k
 ·cases(show x=_ from hx);cases(show y=_ from hy)
  obtain⟨c,e,k'⟩:=gb k.2
  exact⟨k.1,dj e (L.val M k' rfl)⟩
 ·cases(show y=_ from hy)
  obtain⟨d,e,k⟩:=gb k
  obtain⟨p,vs,rfl,_,hp,ha⟩:=hx
  obtain⟨v,ev,iv⟩:=ha.qh e
  exact⟨vs,.inr hp,dj ev (L.val M k iv)⟩
 ·cases(show y=_ from hy)
  obtain⟨ds,el,k⟩:=gb k
  obtain⟨d,e,k⟩:=gb k
  obtain⟨p,vs,rfl,hp,ha⟩:=pL M hx el
  obtain⟨v,ev,iv⟩:=ha.qh e
  exact⟨vs,.inl hp,dj ev (L.val M k iv)⟩
 ·exact k.elim
abbrev DO:=DE->MS->(Option Int->MS->Prop)->Prop
def tDO (w:DO):TO:=fun σ H Q=>∃ φ ρ μ K,iF φ H ρ σ/\d8 φ H μ/\w ρ μ K/\∀ o μ' eB H',K o μ'->Fr φ H eB H'->d8 eB H' μ'->Q o H'
def dNo:DO:=fun _ μ K=>K none μ
def dPart (w:De):DO:=fun ρ μ K=>w ρ μ fun d dJ=>match d with | .int i=>K (some i) dJ | _=>False
def cutD (ds:List D)(lo hi:Option Int):List D:=(ds.drop (HT.gN ds.length 0 lo)).take (HT.gN ds.length ds.length hi - HT.gN ds.length 0 lo)
def dSlc (m:Bool)(w:De)(l h:DO):De:=fun ρ μ K=>w ρ μ fun x dJ=>l ρ dJ fun lo eW=>h ρ eW fun hi nO=>match x with
 | .str z=>z.length<=sizeLine/\K (.str ⟨(gi z.cps.toList lo hi).toArray⟩) nO
 | x=>opt (lv nO x) fun ds=>nL m (cutD ds lo hi) nO K
section
variable {X:Cx}{a b e:Expr}{es:List Expr}{pos:Pos}
theorem PO.imp {e:Option Expr}{t t':TO}(h:PO X e t)(hi:∀ σ H Q,t' σ H Q->t σ H Q):PO X e t':=fun pins s σ H Q I q=>h pins s σ H Q I (hi σ H Q q)
theorem qM:PO X none (tDO dNo):=po_noC.imp fun σ H Q pH=>by obtain⟨φ,ρ,μ,K,A,M,k,L⟩:=pH;exact L none μ φ H k (.refl _ _) M
theorem ir {w:De}(h:PD X e w):PO X (some e) (tDO (dPart w)):=(po_someC h).imp fun σ H Q ⟨φ,ρ,μ,K,A,M,k,L⟩ =>
 ⟨φ,ρ,μ,_,A,M,k,fun d dJ ee v1 H1 k1 f1 M1 i1=>by
  cases d with
  | int i=>cases(show v1=_ from i1);exact L _ dJ ee H1 k1 f1 M1
  | _=>exact k1.elim⟩
theorem dN.cut {φ:List Addr}{H:Hp}{ds:List D}{vs:List V}(h:dN φ H ds vs)(lo hi:Option Int):dN φ H (cutD ds lo hi) (zK vs lo hi):=by
 unfold cutD zK
 rw[h.len]
 exact(h.drop _).take _
theorem jI (m:Bool){lo hi:Option Expr}{w:De}{l h:DO}{p:Pos}(ha:PD X a w)(hl:PO X lo (tDO l))(hh:PO X hi (tDO h)):PD X (.Subscript a (.Slice lo hi none p) pos) (dSlc m w l h):=(pe_slice slC ha hl hh).imp fun σ H Q hq=>by
 obtain⟨φ,ρ,μ,K,A,M,k,L⟩:=hq
 refine⟨φ,ρ,μ,_,A,M,k,fun d dJ ee v1 H1 k1 f1 M1 i1=>?_⟩
 refine⟨ee,ρ,dJ,_,A.mono f1,M1,k1,fun lo eW il H2 k2 f2 M2=>?_⟩
 refine⟨il,ρ,eW,_,A.mono (f1.trans f2),M2,k2,fun hi nO yb H3 k3 f3 M3=>?_⟩
 have i3:=i1.mono (f2.trans f3)
 have L3:=L.mono (f1.trans (f2.trans f3))
 split at k3
 ·cases(show v1=_ from i3);exact⟨k3.1,L3.val M3 k3.2 rfl⟩
 ·obtain⟨ds,el,k⟩:=gb k3
  obtain⟨p,vs,rfl,hp,ha⟩:=pL M3 i3 el
  exact⟨vs,hp,fun l hl=>al_n L3 M3 (ha.cut lo hi) k hl⟩
end
def fLen:iN:=fun ds μ K=>match ds with
 | [.str z]=>z.length<=sizeLine/\K (.int z.length) μ
 | [.tup xs]=>K (.int xs.length) μ
 | [x]=>opt (lv μ x) fun xs=>K (.int xs.length) μ
 | _=>False
theorem so_len:lP rLenC fLen:=fun φ H vs ds μ K Q M h k L=>by
 unfold fLen at k
 split at k
 ·obtain⟨v,r,rfl,h1,h2⟩:=h;cases(show r=[]from h2);cases(show v=_ from h1);exact⟨k.1,L.val M k.2 rfl⟩
 ·obtain⟨v,r,rfl,h1,h2⟩:=h;cases(show r=[]from h2)
  obtain⟨p,vs,rfl,_,hp,ha⟩:=h1
  exact⟨vs,.inr hp,by rw[ha.len];exact L.val M k rfl⟩
 ·obtain⟨v,r,rfl,h1,h2⟩:=h;cases(show r=[]from h2)
  obtain⟨xs,el,k⟩:=gb k
  obtain⟨p,vs,rfl,hp,ha⟩:=pL M h1 el
  exact⟨vs,.inl hp,by rw[ha.len];exact L.val M k rfl⟩
 ·exact k.elim
def fMax:iN:=fun ds μ K=>match ds with | [.int i,.int j]=>K (.int (max i j)) μ | _=>False
theorem so_max:lP rMaxC fMax:=fun φ H vs ds μ K Q M h k L=>by
 unfold fMax at k
 split at k
 ·obtain⟨v,r,rfl,h1,u,r',rfl,h2,h3⟩:=h;cases(show r'=[]from h3);cases(show v=_ from h1);cases(show u=_ from h2);exact⟨_,_,rfl,L.val M k rfl⟩
 ·exact k.elim
def fMaxL:iN:=fun ds μ K=>match ds with
 | [x]=>∃ ns:List Int,lv μ x=some (ns.map D.int)/\ns≠[]/\∀ m,m∈ns->(∀ y∈ns,y<=m)->K (.int m) μ
 | _=>False
def fAll (g:List Bool->Bool):iN:=fun ds μ K=>match ds with
 | [x]=>∃ bs:List Bool,lv μ x=some (bs.map D.bl)/\K (.bl (g bs)) μ
 | _=>False
theorem yj {g:List Bool->Bool}:lP (rAllC g) (fAll g):=fun φ H vs ds μ K Q M h k L=>by
 unfold fAll at k
 split at k
 ·obtain⟨v,r,rfl,h1,h2⟩:=h;cases(show r=[]from h2)
  obtain⟨bs,el,k⟩:=k
  obtain⟨p,vs,rfl,hp,ha⟩:=pL M h1 el
  exact⟨bs,by rw[hp,ha.bls],L.val M k rfl⟩
 ·exact k.elim
def fList (m:Bool):iN:=fun ds μ K=>match ds with
 | [x]=>opt (lv μ x) fun xs=>nL m xs μ K
 | _=>False
theorem so_list {Kf:PySem.W.Frag}{m:Bool}:lP (rListC Kf) (fList m):=fun φ H vs ds μ K Q M h k L=>by
 unfold fList at k
 split at k
 ·obtain⟨v,r,rfl,h1,h2⟩:=h;cases(show r=[]from h2)
  obtain⟨xs,el,k⟩:=gb k
  obtain⟨p,vs,rfl,hp,ha⟩:=pL M h1 el
  exact⟨vs,oW.of hp,fun l hl=>al_n L M ha k hl⟩
 ·exact k.elim
def fJoin:DMt:=fun d ds μ K=>match d,ds with
 | .str z,[x]=>z.cps=#[]/\∃ ys:List Str,lv μ x=some (ys.map D.str)/\(ys.map (·.length)).sum<=16777216/\K (.str ⟨(ys.map (·.cps.toList)).flatten.toArray⟩) μ
 | _,_=>False
theorem qv {Kf:PySem.W.Frag}:SoMt Kf "str" rJoinC fJoin:=fun φ H x vs d ds μ K Q M hx h k L=>by
 unfold fJoin at k
 split at k
 ·cases(show x=_ from hx)
  obtain⟨v,r,rfl,h1,h2⟩:=h;cases(show r=[]from h2)
  obtain⟨hz,ys,el,hs,k⟩:=k
  obtain⟨p,vs,rfl,hp,ha⟩:=pL M h1 el
  exact⟨hz,ys,by rw[hp,ha.strs],hs,L.val M k rfl⟩
 ·exact k.elim
def fCount:DMt:=fun d ds μ K=>match d,ds with
 | .str z,[.str y]=>∃ c:Nat,y=⟨#[c]⟩/\K (.int ((z.cps.toList.count c:Nat):Int)) μ
 | _,_=>False
theorem so_count {Kf:PySem.W.Frag}:SoMt Kf "str" yS fCount:=fun φ H x vs d ds μ K Q M hx h k L=>by
 unfold fCount at k
 split at k
 ·cases(show x=_ from hx)
  obtain⟨v,r,rfl,h1,h2⟩:=h;cases(show r=[]from h2);cases(show v=_ from h1)
  obtain⟨c,rfl,k⟩:=k
  exact⟨c,rfl,L.val M k rfl⟩
 ·exact k.elim
theorem mr_at {φ:List Addr}{H:Hp}{μ:MS}{k:Nat}{x:V}{ds:List D}(M:d8 φ H μ)(hx:ij φ H (.mr k) x)(e:μ[k]?=some (.lst ds)):∃ p vs,x=.ref p/\φ[k]?=some p/\H p=some (.lst vs)/\dN φ H ds vs:=by
 obtain⟨p,hp,rfl⟩:=hx
 obtain⟨q,e1,vs,hv,ha⟩:=M.at_ k _ e
 rw[hp]at e1;cases e1
 exact⟨p,vs,rfl,hp,hv,ha⟩
theorem mr_put {φ:List Addr}{H:Hp}{μ:MS}{K:DK}{Q:VK}{k:Nat}{p:Addr}{ds:List D}{vs:List V}{d:D}{v:V}(L:sQ φ H K Q)(M:d8 φ H μ)(hp:φ[k]?=some p)(ha:dN φ H ds vs)(hd:ij φ H d v)(kk:K d (μ.set k (.lst ds))):Q v (upd H p (.lst vs)):=by
 have f:Fr φ H φ (upd H p (.lst vs)):=.put (zk hp)
 exact L d _ φ v _ kk f (M.put hp ⟨_,dH,ha.mono f⟩) (hd.mono f)
def fAppend:DMt:=fun d ds μ K=>match d,ds with
 | .mr k,[y]=>opt (zf μ k) fun xs=>xs.length<sizeLine/\K .fH (μ.set k (.lst (xs++[y])))
 | _,_=>False
theorem xw {Kf:PySem.W.Frag}:SoMt Kf "list" rAppendC fAppend:=fun φ H x vs d ds μ K Q M hx h k L=>by
 unfold fAppend at k
 split at k
 ·obtain⟨xs,em,k⟩:=gb k
  ·obtain⟨p,us,rfl,hp,hv,ha⟩:=mr_at M hx (pV em)
   obtain⟨v,r,rfl,h1,h2⟩:=h;cases(show r=[]from h2)
   exact⟨_,_,us,rfl,rfl,hv,by rw[ha.len];exact k.1,mr_put (d:=.fH) (v:=.fH) L M hp (ha.app (show dN φ H [_] [v]from⟨v,[],rfl,h1,rfl⟩)) rfl k.2⟩
 ·exact k.elim
theorem so_ipI {f:Int->Int->Int}:SoIp (ipC f) (we fun i j=>.int (f i j)):=fun φ H x y dx dy μ K Q M hx hy k L=>by
 unfold we at k
 split at k
 ·cases(show x=_ from hx);cases(show y=_ from hy);exact L.val M k rfl
 ·exact k.elim
mutual
def deq:D->D->Bool
 | .fH,.fH=>true
 | .bl a,.bl b=>a==b
 | .bl a,.int b=>(if a then 1 else 0)==b
 | .int a,.bl b=>a==(if b then 1 else 0)
 | .int a,.int b=>a==b
 | .str a,.str b=>a==b
 | .lst xs,.lst ys=>deqL xs ys
 | .tup xs,.tup ys=>deqL xs ys
 | _,_=>false
def deqL:List D->List D->Bool
 | [],[]=>true
 | x::xs,y::ys=>deq x y&&deqL xs ys
 | _,_=>false
end
end L2
namespace L2
open PySem PySem.Spec PyProof.Rows
def zo:D->Bool
 | .fH=>true
 | .bl _=>true
 | .int _=>true
 | .str _=>true
 | _=>false
section
variable {X:Cx}
def rInC (neg:Bool):R2:=fun x y H Q=>match x,y with
 | .str z,.str t=>∃ c:Nat,z=⟨#[c]⟩/\Q (.bl (neg != decide (c∈t.cps.toList))) H
 | x,.ref p=>∃ xs,(H p=some (.lst xs)\/H p=some (.tup xs))/\j3 x=true/\xs.all j3=true/\Q (.bl (neg != inV x xs)) H
 | _,_=>False
theorem inC:iT X (compareOp .In) (rInC false):=(op_in_str.or op_in_seq).imp fun x y H Q q=>by
 unfold rInC at q
 split at q
 ·obtain⟨c,rfl,q⟩:=q
  exact .inl ⟨_,_,rfl,rfl,by rw[StrLaws.found_one];rw[fne]at q;exact q⟩
 ·obtain⟨xs,h,h1,h2,q⟩:=q
  rw[fne]at q
  rcases h with h | h
  ·exact .inr ⟨_,xs,rfl,.inl (oW.of h),h1,h2,q⟩
  ·exact .inr ⟨_,xs,rfl,.inr (zV.of h),h1,h2,q⟩
 ·exact q.elim
theorem notInC:iT X (compareOp .NotIn) (rInC true):=(yX.or yY).imp fun x y H Q q=>by
 unfold rInC at q
 split at q
 ·obtain⟨c,rfl,q⟩:=q
  exact .inl ⟨_,_,rfl,rfl,by rw[StrLaws.found_one];rw[tne]at q;exact q⟩
 ·obtain⟨xs,h,h1,h2,q⟩:=q
  rw[tne]at q
  rcases h with h | h
  ·exact .inr ⟨_,xs,rfl,.inl (oW.of h),h1,h2,q⟩
  ·exact .inr ⟨_,xs,rfl,.inr (zV.of h),h1,h2,q⟩
 ·exact q.elim
end
def dIn (neg:Bool):ue:=fun x y μ K=>match x,y with
 | .str z,.str t=>∃ c:Nat,z=⟨#[c]⟩/\K (.bl (neg != decide (c∈t.cps.toList))) μ
 | x,y=>opt (lv μ y) fun ds=>zo x=true/\ds.all zo=true/\K (.bl (neg != ds.any fun d=>deq d x)) μ
theorem flt_is {φ:List Addr}{H:Hp}{d:D}{v:V}(i:ij φ H d v)(h:zo d=true):j3 v=true:=by
 cases d <;> first | exact(Bool.noConfusion (show false=true from h)) | (cases(show v=_ from i);rfl)
theorem flt_eq {φ:List Addr}{H:Hp}{d e:D}{v u:V}(i:ij φ H d v)(j:ij φ H e u)(h:zo d=true)(h':zo e=true):eqV v u=deq d e:=by
 cases d <;> first
  | exact(Bool.noConfusion (show false=true from h))
  | (cases(show v=_ from i)
     cases e <;> first
      | exact(Bool.noConfusion (show false=true from h'))
      | (cases(show u=_ from j);unfold eqV deq;rfl))
theorem zm {φ:List Addr}{H:Hp}{x:D}{v:V}(i:ij φ H x v)(hx:zo x=true):∀ {ds:List D} {vs:List V},dN φ H ds vs->ds.all zo=true->vs.all j3=true/\inV v vs=ds.any fun d=>deq d x
 | [],_,h,_=>by cases(show _=[]from h);exact⟨rfl,rfl⟩
 | d::ds,_,h,f=>by
  obtain⟨u,r,rfl,h1,h2⟩:=h
  rw[cN,aL]at f
  obtain⟨a,b⟩:=zm i hx h2 f.2
  unfold inV at b ⊢
  rw[cN,bp,bp,a,b,flt_is h1 f.1,flt_eq h1 i f.1 hx]
  exact⟨rfl,rfl⟩
theorem so_in {neg:Bool}:nS (rInC neg) (dIn neg):=fun φ H x y dx dy μ K Q M hx hy k L=>by
 unfold dIn at k
 split at k
 ·cases(show x=_ from hx);cases(show y=_ from hy)
  obtain⟨c,rfl,k⟩:=k
  exact⟨c,rfl,L.val M k rfl⟩
 ·obtain⟨ds,el,f1,f2,k⟩:=gb k
  obtain⟨p,vs,rfl,hp,ha⟩:=pL M hy el
  obtain⟨a,b⟩:=zm hx f1 ha f2
  have fx:=flt_is hx f1
  have key:∃ xs,(H p=some (.lst xs)\/H p=some (.tup xs))/\j3 x=true/\xs.all j3=true/\Q (.bl (neg != inV x xs)) H:=⟨vs,.inl hp,fx,a,by rw[b];exact L.val M k rfl⟩
  unfold rInC
  cases x <;> exact key
theorem range_any (bs:List Bool):(List.range bs.length).any (fun i=>bs.getD i false)=bs.any id:=by
 rw[cz,List.any_eq_true,List.any_eq_true]
 constructor
 ·rintro⟨i,hi,e⟩
  have hi':i<bs.length:=by simpa using hi
  rw[aX,tL hi']at e
  exact⟨_,cJ hi',e⟩
 ·rintro⟨b,hb,e⟩
  obtain⟨i,hi,e2⟩:=ck hb
  refine⟨i,by simpa using hi,?_⟩
  rw[aX,tL hi,e2]
  exact e
theorem anyC {X:Cx}(hc:X.calm=true):gM X (.builtin "any") (rAllC fun bs=>bs.any id):=by
 intro pins s σ H vs us Q I rv h
 unfold rAllC at h
 split at h
 ·rename_i p
  obtain⟨bs,hp,q⟩:=h
  obtain⟨u,rfl,ru⟩:=rv.one
  cases ru
  obtain⟨z,d9,n,r,hl,e⟩:=I.vB hp
  have isl:s.heap.IsList p d9.toArray:=⟨_,e,rfl,n,rfl⟩
  have lt:p≠s.heap.objs.size:=aB (jj e)
  refine call_any_walk (wpAny_pyIter_list isl ⟨_,_,_,_,_,_,fun i=>bs.getD i false,rfl,Walks.list (A:=X.A.in1) (I.ok.hd hc) s.heap.objs.size p lt d9.toArray,⟨⟨_,av _ rfl,rfl,rfl⟩,isl.push _⟩,?_,fun h' tk kp=>?_⟩)
  ·intro i v s' Q' E' hv hq
   have hv':d9[i]?=some v:=by simpa using hv
   have hb:∃ b,bs[i]?=some b/\v=.bool b:=by
    cases eb:(bs.map V.bl)[i]? with
    | none=>have:=r.none_of eb;rw[hv']at this;cases this
    | some y =>
     obtain⟨u,hu,ry⟩:=r.get eb
     rw[hv']at hu;cases hu
     rw[tK]at eb
     cases e2:bs[i]? with
     | none=>rw[e2]at eb;cases eb
     | some b=>rw[e2]at eb;cases eb;exact⟨b,rfl,ry⟩
   obtain⟨b,eb,rfl⟩:=hb
   have e3:bs.getD i false=b:=by rw[aX,eb];rfl
   have hq':Q' (bs.getD i false) s':=hq
   rw[e3]at hq'
   exact bH hq'
  ·have I2:Inv X pins σ H { s with heap:=h',toks:=tk}:=I.kept fun b o e'=>kp b o (by simpa using aB (jj e')) (iV _ e')
   have len:d9.toArray.size=bs.length:=by rw[au,<- hl,fg]
   rw[len,range_any]
   exact⟨.bl _,H,I2,rfl,q⟩
 ·exact h.elim
def BxQ (H:Hp)(b q:Addr):Prop:=∃(ns:List Int) (i r z:Int),H b=some (.lst [.ref q,.int i,.int r,.int z])/\H q=some (.lst (ns.map V.int))/\q≠b/\0<=i/\0<=z/\z<2147483647
def uh:Sp:=fun vs H Q _=>match vs with
 | [.ref b,.int n]=>∃ q,BxQ H b q/\0<n/\n<1073741824/\∀ v H',0<=v->v<n->BxQ H' b q->OB b H H'->Q (.int v) H'
 | _=>False
theorem sV {vs:List V}{H:Hp}{Q:VK}{E:XK}(h:uh vs H Q E):∃ b n q,vs=[.ref b,.int n]/\BxQ H b q/\0<n/\n<1073741824/\∀ v H',0<=v->v<n->BxQ H' b q->OB b H H'->Q (.int v) H':=by
 unfold uh at h
 split at h
 ·obtain⟨q,h⟩:=h;exact⟨_,_,q,rfl,h⟩
 ·exact h.elim
def fTake:iN:=fun ds μ K=>match ds with
 | [.mr k,.int n]=>μ[k]?=some .box/\0<n/\n<1073741824/\∀ v,0<=v->v<n->K (.int v) μ
 | _=>False
theorem take_imp {vs:List V}{H:Hp}{Q:VK}{E:XK}(h:gv fTake vs H Q E):uh vs H Q E:=by
 obtain⟨φ,ds,μ,K,ha,M,k,L⟩:=h
 unfold fTake at k
 split at k
 ·rename_i kk n
  obtain⟨v,r,rfl,h1,u,r',rfl,h2,h3⟩:=ha
  cases(show r'=[]from h3);cases(show u=_ from h2)
  obtain⟨b,hb,rfl⟩:=h1
  obtain⟨em,hn,hn2,k⟩:=k
  obtain⟨b',e1,q,ns,i,r,z,g1,g2,g3,g4,g5,g6⟩:=M.at_ kk _ em
  rw[hb]at e1;cases e1
  have bin:b∈φ:=zk hb
  have qb:q≠b:=fun e=>g3 (by rw[e];exact bin)
  refine⟨q,⟨ns,i,r,z,g1,g2,qb,g4,g5,g6⟩,hn,hn2,fun v H' v0 v1 B' ob=>?_⟩
  obtain⟨ns',i',r',z',b1,b2,b3,b4,b5,b6⟩:=B'
  have f:Fr φ H φ H':=⟨⟨[],by simp,fun _ h=>nomatch h⟩,fun c o hc e=>(ob c (fun e'=>hc (by rw[e'];exact bin))).trans e,fun c e=>by
   by_cases hc:c=b
   ·rw[hc,b1]at e;cases e
   ·rw[<- ob c hc];exact e⟩
  refine L _ μ φ _ H' (k v v0 v1) f ⟨M.nd,M.len,fun j m ej=>?_⟩ rfl
  by_cases hj:j=kk
  ·subst hj
   rw[em]at ej;cases ej
   exact⟨b,hb,q,ns',i',r',z',b1,b2,g3,b4,b5,b6⟩
  ·obtain⟨p,e1,e2⟩:=M.at_ j m ej
   refine⟨p,e1,e2.mono f fun o eo=>?_⟩
   have pb:p≠b:=fun e=>by
    subst e
    obtain⟨i1,r1⟩:=lE hb
    obtain⟨i2,r2⟩:=lE e1
    rcases Nat.lt_or_gt_of_ne hj with z | z
    ·exact List.pairwise_iff_getElem.mp M.nd j kk i2 i1 z (r2.trans r1.symm)
    ·exact List.pairwise_iff_getElem.mp M.nd kk j i1 i2 z (r1.trans r2.symm)
   rw[ob p pb];exact eo
 ·exact k.elim
def yi (K:PySem.W.Frag):Sp:=fun vs H Q _=>match vs with
 | [.ref a]=>∃ ns:List Int,oW K H a (ns.map V.int)/\∀ b q H',BxQ H' b q->H b=none->H q=none->gd H H'->Q (.ref b) H'
 | _=>False
theorem box_start {H:Hp}{b q:Addr}(h:BxQ H b q):d8 [b] H [.box]:=by
 obtain⟨ns,i,r,z,h1,h2,h3,h4,h5,h6⟩:=h
 refine⟨by simp,rfl,fun k m e=>?_⟩
 cases k with
 | zero=>cases e;exact⟨b,rfl,q,ns,i,r,z,h1,h2,by simpa using h3,h4,h5,h6⟩
 | succ k=>simp at e
mutual
def nF:Nat->D->Prop
 | n+1,.lst ds=>ds.length<=100000/\smL n ds
 | n+1,.tup ds=>ds.length<=100000/\smL n ds
 | 0,.lst _=>False
 | 0,.tup _=>False
 | _,.hJ _ _=>False
 | _,.mr _=>False
 | _,.obj _ _ _=>False
 | _,.kK _ _=>False
 | _,.fn _=>False
 | _,_=>True
def smL:Nat->List D->Prop
 | _,[]=>True
 | n,d::ds=>nF n d/\smL n ds
end
theorem yn {n:Nat}:∀ {ds:List D},(∀ d∈ds,nF n d)->smL n ds
 | [],_=>by unfold smL;trivial
 | d::ds,h=>by unfold smL;exact⟨h d aw,yn fun x hx=>h x (mZ _ hx)⟩
theorem u0 {n:Nat}{ds:List D}(hl:ds.length<=100000)(h:∀ d∈ds,nF n d):nF (n+1) (.lst ds):=by unfold nF;exact⟨hl,yn h⟩
theorem r8 {n:Nat}{ds:List D}(hl:ds.length<=100000)(h:∀ d∈ds,nF n d):nF (n+1) (.tup ds):=by unfold nF;exact⟨hl,yn h⟩
theorem jX {n:Nat}{i:Int}:nF n (.int i):=by cases n <;> (unfold nF;trivial)
theorem iK {n:Nat}{i:Str}:nF n (.str i):=by cases n <;> (unfold nF;trivial)
theorem sm_bl {n:Nat}{i:Bool}:nF n (.bl i):=by cases n <;> (unfold nF;trivial)
theorem sm_ints {n:Nat}{ns:List Int}(h:ns.length<=100000):nF (n+1) (.lst (ns.map D.int)):=u0 (by rw[fg];exact h) fun d hd=>by
 obtain⟨i,_,rfl⟩:=List.mem_map.mp hd;exact jX
mutual
def rZ:D->DV
 | .fH=>.fH
 | .bl b=>.bl b
 | .int i=>.int i
 | .str z=>.str z
 | .lst ds=>.lst (n8 ds)
 | .tup ds=>.tup (n8 ds)
 | _=>.fH
def n8:List D->List DV
 | []=>[]
 | d::ds=>rZ d::n8 ds
end
theorem rY:∀ ds:List D,(n8 ds).length=ds.length
 | []=>rfl
 | d::ds=>by unfold n8;rw[aE,aE,rY ds]
mutual
theorem oq {φ:List Addr}{H:Hp}:∀ {n:Nat} {d:D},nF n d->(∀ v,ij φ H d v->Is H (rZ d) v)/\dep (rZ d)<=n/\wid (rZ d)<=100000:=fun {n d} h=>by
 cases d with
 | lst ds =>
  cases n with
  | zero=>exact absurd h (by unfold nF;exact id)
  | succ n =>
   unfold nF at h
   obtain⟨a,b,c⟩:=ym (φ:=φ) (H:=H) h.2
   refine⟨fun v hv=>?_,?_,?_⟩
   ·obtain⟨p,vs,rfl,_,hp,q⟩:=hv
    unfold rZ
    exact⟨p,vs,rfl,hp,a vs q⟩
   ·unfold rZ dep;omega
   ·have:=rY ds
    unfold rZ wid;omega
 | tup ds =>
  cases n with
  | zero=>exact absurd h (by unfold nF;exact id)
  | succ n =>
   unfold nF at h
   obtain⟨a,b,c⟩:=ym (φ:=φ) (H:=H) h.2
   refine⟨fun v hv=>?_,?_,?_⟩
   ·obtain⟨p,vs,rfl,_,hp,q⟩:=hv
    unfold rZ
    exact⟨p,vs,rfl,hp,a vs q⟩
   ·unfold rZ dep;omega
   ·have:=rY ds
    unfold rZ wid;omega
 | fH=>exact⟨fun v hv=>hv,aW _,aW _⟩
 | bl b=>exact⟨fun v hv=>hv,aW _,aW _⟩
 | int b=>exact⟨fun v hv=>hv,aW _,aW _⟩
 | str b=>exact⟨fun v hv=>hv,aW _,aW _⟩
 | hJ _ _=>exact absurd h (by cases n <;> (unfold nF;exact id))
 | mr _=>exact absurd h (by cases n <;> (unfold nF;exact id))
 | obj _ _ _=>exact absurd h (by cases n <;> (unfold nF;exact id))
 | kK _ _=>exact absurd h (by cases n <;> (unfold nF;exact id))
 | fn _=>exact absurd h (by cases n <;> (unfold nF;exact id))
theorem ym {φ:List Addr}{H:Hp}:∀ {n:Nat} {ds:List D},smL n ds->(∀ vs,dN φ H ds vs->jT H (n8 ds) vs)/\xl (n8 ds)<=n/\wN (n8 ds)<=100000:=fun {n ds} h=>by
 cases ds with
 | nil=>exact⟨fun vs hv=>hv,aW _,aW _⟩
 | cons d ds =>
  unfold smL at h
  obtain⟨a,b,c⟩:=oq (φ:=φ) (H:=H) h.1
  obtain⟨a',b',c'⟩:=ym (φ:=φ) (H:=H) h.2
  refine⟨fun vs hv=>?_,?_,?_⟩
  ·obtain⟨v,r,rfl,h1,h2⟩:=hv
   unfold n8
   exact⟨v,r,rfl,a v h1,a' r h2⟩
  ·unfold n8 xl;omega
  ·unfold n8 wN;omega
end
def frzD (μ:MS):D->Option D
 | .mr k=>(zf μ k).map .lst
 | x=>some x
theorem frzD_is {φ:List Addr}{H:Hp}{μ:MS}{x d:D}{v:V}{n:Nat}(M:d8 φ H μ)(e:frzD μ x=some d)(hs:nF n d)(h:ij φ H x v):Is H (rZ d) v:=by
 cases x with
 | mr k =>
  obtain⟨p,hp,rfl⟩:=h
  have e':(zf μ k).map D.lst=some d:=e
  cases q:zf μ k with
  | none=>rw[q]at e';cases e'
  | some ds =>
   rw[q]at e';cases e'
   obtain⟨p',e1,vs,hv,ha⟩:=M.at_ k _ (pV q)
   rw[hp]at e1;cases e1
   cases n with
   | zero=>exact absurd hs (by unfold nF;exact id)
   | succ n =>
    unfold nF at hs
    unfold rZ
    exact⟨p,vs,rfl,hv,(ym (φ:=φ) (H:=H) hs.2).1 vs ha⟩
 | fH=>cases e;exact(oq (φ:=φ) (H:=H) hs).1 v h
 | bl b=>cases e;exact(oq (φ:=φ) (H:=H) hs).1 v h
 | int b=>cases e;exact(oq (φ:=φ) (H:=H) hs).1 v h
 | str b=>cases e;exact(oq (φ:=φ) (H:=H) hs).1 v h
 | lst b=>cases e;exact(oq (φ:=φ) (H:=H) hs).1 v h
 | tup b=>cases e;exact(oq (φ:=φ) (H:=H) hs).1 v h
 | obj _ _ _=>cases e;exact(oq (φ:=φ) (H:=H) hs).1 v h
 | kK _ _=>cases e;exact(oq (φ:=φ) (H:=H) hs).1 v h
 | fn _=>cases e;exact(oq (φ:=φ) (H:=H) hs).1 v h
 | hJ _ _=>cases e;exact absurd hs (by cases n <;> (unfold nF;exact id))
def fSame:iN:=fun ds μ K=>match ds with
 | [x,y]=>∃ d,frzD μ x=some d/\frzD μ y=some d/\nF 5 d/\K (.bl true) μ
 | _=>False
theorem same_imp {vs:List V}{H:Hp}{Q:VK}{E:XK}(h:gv fSame vs H Q E):r0 5 vs H Q E:=by
 obtain⟨φ,ds,μ,K,ha,M,k,L⟩:=h
 unfold fSame at k
 split at k
 ·obtain⟨v,r,rfl,h1,u,r',rfl,h2,h3⟩:=ha
  cases(show r'=[]from h3)
  obtain⟨d,e1,e2,hs,k⟩:=k
  obtain⟨a,b,c⟩:=oq (φ:=φ) (H:=H) hs
  exact⟨rZ d,b,bX c (by decide),frzD_is M e1 hs h1,frzD_is M e2 hs h2,fun H' S=>L _ μ φ _ H' k (.same S) (M.same S) rfl⟩
 ·exact k.elim
theorem jc {g:DG}{b:Ds}{N:DN}{c:MS->Prop}(Pv:List D->DE->MS->Prop):∀ {ds:List D} {ρ:DE} {μ:MS},Pv ds ρ μ->(∀ d ds' ρ μ,Pv (d::ds') ρ μ->c μ/\∀(nx:DE->MS->Prop),(∀ ip μ',Pv ds' ip μ'->nx ip μ')->g d ρ μ fun jV eW=>b { N with nx:=nx,ct:=nx,bk:=N.nx} jV eW)->(∀ ρ μ,Pv [] ρ μ->c μ/\N.nx ρ μ)->xj g b N c ds ρ μ
 | [],ρ,μ,h,hs,hd=>hd ρ μ h
 | d::ds,ρ,μ,h,hs,hd=>by
  obtain⟨c',st⟩:=hs d ds ρ μ h
  exact⟨c',st _ fun ip μ' h'=>jc Pv h' hs hd⟩
end L2
namespace L2
open PySem PySem.Spec PyProof.Rows
structure iI (mg:Str->Option Value):Prop where
 len:mg "len"=none
 range:mg "range"=none
 list:mg "list"=none
 isinstance:mg "isinstance"=none
 max:mg "max"=none
 min:mg "min"=none
 bool:mg "bool"=none
 tuple:mg "tuple"=none
 str:mg "str"=none
 int:mg "int"=none
 all:mg "all"=none
 any:mg "any"=none
 zip:mg "zip"=none
 enumerate:mg "enumerate"=none
 reversed:mg "reversed"=none
 dict:mg "dict"=none
 sorted:mg "sorted"=none
abbrev txt (l:List Nat):Str:=⟨l.toArray⟩
def fBars:iN:=fun ds μ K=>match ds with
 | [.mr k,.int n]=>μ[k]?=some .box/\1<=n/\n<=1000/\∀ l:List Nat,l.length=n.toNat->OX l->K (.str (txt l)) μ
 | _=>False
abbrev Tk:=List Nat×Int
def iU (t:Tk):D:=.tup [.str (txt t.1),.int t.2]
theorem sz {n:Nat}(h:n<=100000):n<=sizeLine:=ar h (by decide)
def cutN (l:List Nat)(a b:Int):List Nat:=gi l (some a) (some b)
def bad (ts:List Tk)(p:Int×Int):Bool:=ts.all fun t=>decide (120∈cutN t.1 p.1 p.2)
theorem pC {α:Type}(g:α->D)(P:α->Prop){it:D->MS->(Option D->MS->Prop)->Prop}{c:MS->Prop}{μ:MS}(hc:c μ):∀ {ds:List D} {K:List D->MS->Prop},(∀ d∈ds,∀(K':Option D->MS->Prop),(∀ a,P a->K' (some (g a)) μ)->it d μ K')->(∀ as:List α,as.length=ds.length->(∀ a∈as,P a)->K (as.map g) μ)->rH it c ds μ K
 | [],K,_,k=>⟨hc,k [] rfl fun _ h=>nomatch h⟩
 | d::ds,K,h,k=>⟨hc,h d aw _ fun a ha=>pC g P hc (fun x hx=>h x (mZ _ hx)) fun as hl hp=>k (a::as) (by rw[aE,aE,hl]) fun x hx=>by
  rcases List.mem_cons.mp hx with e | e
  ·rw[e];exact ha
  ·exact hp x e⟩
theorem rngD_eq (lo:Int)(n:Nat):kg lo n=((List.range n).map fun i=>lo+(i:Nat)).map D.int:=by unfold kg;rw[aC];rfl
theorem gY (lo:Int)(n:Nat):(kg lo n).length=n:=by unfold kg;rw[fg,gxJ]
theorem rP {α β:Type}{g:α->β}{xs:List α}{i:Nat}{a:α}(h:xs[i]?=some a):qh (xs.map g) (i:Int)=some (g a):=kj (by rw[tK,h];rfl)
theorem kT (l:List Nat):(txt l).length=l.length:=lenS l
theorem m8 {α:Type}(l:List α)(lo hi:Option Int):(gi l lo hi).length<=l.length:=cutL_len l lo hi
theorem sm_tk {n:Nat}(t:Tk):nF (n+1) (iU t):=by
 unfold iU
 refine r8 (by simp) fun d hd=>?_
 simp only[bF,bo,cE]at hd
 rcases hd with rfl | rfl
 ·exact iK
 ·exact jX
theorem sm_tks {n:Nat}{ts:List Tk}(h:ts.length<=100000):nF (n+2) (.lst (ts.map iU)):=u0 (by rw[fg];exact h) fun d hd=>by
 obtain⟨t,_,rfl⟩:=List.mem_map.mp hd;exact sm_tk t
theorem fM {μ:MS}{x y:MO}:(μ++[x]).set μ.length y=μ++[y]:=by
 rw[List.set_append_right _ _ (aa _),aR];rfl
theorem law_env {m:Nat}{b:Addr}{H:Hp}{x:Option V}:iF [b] H (none::some (.mr 0)::List.replicate m none) (x::some (.ref b)::List.replicate m none):=by
 refine⟨by simp,fun i d e=>?_⟩
 cases i with
 | zero=>cases e
 | succ i =>
  cases i with
  | zero=>cases e;exact⟨_,rfl,b,rfl,rfl⟩
  | succ i =>
   have:=List.eq_of_mem_replicate (zk (show(List.replicate m (none:Option D))[i]?=some (some d)from e))
   cases this
def lawN:DN:={ nx:=fun _ _=>False,rt:=fun d _=>d=.bl true}
theorem law_go {m:Nat}{b q a:Addr}{H:Hp}{Q:VK}{W:Ds}(B:BxQ H b q)(w:W lawN (none::some (.mr 0)::List.replicate m none) [.box])(k:∀ H',Q (.bl true) H'):tDS W { nx:=fun _ H'=>Q .fH H',rt:=Q} (some (.ref a)::some (.ref b)::List.replicate m none) H :=
 ⟨[b],_,[.box],lawN,law_env,box_start B,w,⟨fun _ _ _ _ _ z=>z.elim,fun d μ' eB v H' kd _ _ i=>by cases(show d=.bl true from kd);cases(show v=_ from i);exact k H',fun _ _ _ _ _ z=>z.elim,fun _ _ _ _ _ z=>z.elim⟩⟩
section
variable {κ:Type}[DecidableEq κ]
def lV (kvs:List (κ×V))(k:κ):Option V:=(kvs.find? fun kv=>decide (kv.1=k)).map (·.2)
def putK (kvs:List (κ×V))(k:κ)(v:V):List (κ×V) :=
 if(kvs.any fun kv=>decide (kv.1=k))=true then kvs.map (fun kv=>if kv.1=k then(kv.1,v)else kv)else kvs++[(k,v)]
def pQ (kvs:List (κ×V))(k:κ):List (κ×V):=kvs.filter fun kv=>decide (kv.1≠k)
theorem nX {p:κ×V}{r:List (κ×V)}{k:κ}(e:p.1=k):lV (p::r) k=some p.2:=by simp[lV,br,e]
theorem nY {p:κ×V}{r:List (κ×V)}{k:κ}(e:¬ p.1=k):lV (p::r) k=lV r k:=by simp[lV,br,e]
theorem Ak (k:κ):∀ kvs:List (κ×V),(kvs.any fun kv=>decide (kv.1=k))=(lV kvs k).isSome
 | []=>rfl
 | p::r=>by
  rw[bp]
  by_cases e:p.1=k
  ·simp only[nX e,af e,Bool.true_or,Option.isSome_some]
  ·rw[nY e,ak e,Bool.false_or];exact Ak k r
theorem oE (kvs:List (κ×V))(k:κ)(v:V):(putK kvs k v).length<=kvs.length+1:=by
 unfold putK
 split
 ·rw[fg];omega
 ·rw[kH,aE,bU];omega
theorem oX.kr {o:Option V}{u:Option Value}(r:oX o u):o.isSome=u.isSome:=by
 cases o with
 | none=>cases u with
  | none=>rfl
  | some _=>exact(show False from r).elim
 | some _=>cases u with
  | none=>exact(show False from r).elim
  | some _=>rfl
theorem KV.val {kvs:List (κ×V)}{vs:List (κ×Value)}(r:KV kvs vs)(k:κ):oX (lV kvs k) (valueAt vs k):=by
 unfold KV at r
 induction r with
 | nil=>exact True.intro
 | @cons p q ps qs h t ih =>
  obtain⟨h1,h2⟩:=h
  by_cases e:p.1=k
  ·have e':q.1=k:=h1.symm.trans e
   have b:valueAt (q::qs) k=some q.2:=by simp[valueAt,br,e']
   rw[nX e,b];exact h2
  ·have e':¬ q.1=k:=fun z=>e (h1.trans z)
   have b:valueAt (q::qs) k=valueAt qs k:=by simp[valueAt,br,e']
   rw[nY e,b];exact ih
theorem KV.any {kvs:List (κ×V)}{vs:List (κ×Value)}(r:KV kvs vs)(k:κ):(kvs.any fun kv=>decide (kv.1=k))=vs.any fun kv=>decide (kv.1=k):=by
 unfold KV at r
 induction r with
 | nil=>rfl
 | cons h t ih=>rw[bp,bp,ih,h.1]
theorem KV.repl {kvs:List (κ×V)}{vs:List (κ×Value)}(r:KV kvs vs)(k:κ){y:V}{u:Value}(ry:RelV y u) :
 KV (kvs.map fun kv=>if kv.1=k then(kv.1,y)else kv) (vs.map fun kv=>if kv.1=k then(kv.1,u)else kv):=by
 unfold KV at r ⊢
 induction r with
 | nil=>exact .nil
 | @cons p q ps qs h t ih =>
  rw[ah,ah]
  refine .cons ?_ ih
  obtain⟨h1,h2⟩:=h
  by_cases e:p.1=k
  ·rw[ag e,ag (h1.symm.trans e)];exact⟨h1,ry⟩
  ·rw[ae e,ae (fun z=>e (h1.trans z))];exact⟨h1,h2⟩
theorem KV.put {kvs:List (κ×V)}{vs:List (κ×Value)}(r:KV kvs vs)(k:κ){y:V}{u:Value}(ry:RelV y u):KV (putK kvs k y) (stored vs k u):=by
 unfold putK stored
 rw[r.any k]
 by_cases e:(vs.any fun kv=>decide (kv.1=k))=true
 ·rw[ag e,ag e];exact r.repl k ry
 ·rw[ae e,ae e];exact Paired.snoc r ⟨rfl,ry⟩
theorem KV.drop {kvs:List (κ×V)}{vs:List (κ×Value)}(r:KV kvs vs)(k:κ):KV (pQ kvs k) (without vs k):=by
 unfold KV at r ⊢
 unfold pQ without
 induction r with
 | nil=>exact .nil
 | @cons p q ps qs h t ih =>
  obtain⟨h1,h2⟩:=h
  rw[a9,a9]
  by_cases e:p.1=k
  ·have a:¬ decide (p.1≠k)=true:=by simp[e]
   have b:¬ decide (q.1≠k)=true:=by simp[h1.symm.trans e]
   rw[ae a,ae b];exact ih
  ·have e':¬ q.1=k:=fun z=>e (h1.trans z)
   have a:decide (p.1≠k)=true:=by simp[e]
   have b:decide (q.1≠k)=true:=by simp[e']
   rw[ag a,ag b];exact .cons ⟨h1,h2⟩ ih
theorem KV.length {kvs:List (κ×V)}{vs:List (κ×Value)}(r:KV kvs vs):kvs.length=vs.length:=Paired.length r
theorem dropK_le (kvs:List (κ×V))(k:κ):(pQ kvs k).length<=kvs.length:=bE _ _
end
theorem qR {P:Program}{w:World}{k:Key}{u:Value}(r:RelV (kV k) u):(eS P w).is k u=true:=by
 cases k with
 | inl i=>obtain⟨t,e⟩:=(show ∃ t,u=Value.int i t from r);subst e;exact mixKind_int P w i t
 | inr x=>obtain⟨t,e⟩:=(show ∃ t,u=Value.str x t from r);subst e;exact mixKind_str P w x t
theorem xH {P:Program}{w:World}:∀ {ks:List Key} {us:List Value},Vals (ks.map kV) us->ItemsAre (eS P w) ks us
 | [],_,r=>by rw[List.map_nil]at r;cases r;exact .nil
 | k::ks,_,r=>by
  rw[ah]at r
  cases r with
  | cons h t=>exact .cons (qR h) (xH t)
abbrev KT (H:Hp):List (List Key×V)->List (List Key×Addr×Value)->Prop:=Paired fun p q=>p.1=q.1/\H q.2.1=some (.tup (p.1.map kV))/\RelV p.2 q.2.2
theorem KT.val {H:Hp}{kvs:List (List Key×V)}{xs:List (List Key×Addr×Value)}(r:KT H kvs xs)(k:List Key):oX (lV kvs k) ((atKey xs k).map (·.2)):=by
 induction r with
 | nil=>exact True.intro
 | @cons p q ps qs h t ih =>
  obtain⟨h1,_,h2⟩:=h
  by_cases e:p.1=k
  ·have e':q.1=k:=h1.symm.trans e
   have b:atKey (q::qs) k=some q.2:=by simp[atKey,br,e']
   rw[nX e,b];exact h2
  ·have e':¬ q.1=k:=fun z=>e (h1.trans z)
   have b:atKey (q::qs) k=atKey qs k:=by simp[atKey,br,e']
   rw[nY e,b];exact ih
theorem KT.repl {H:Hp}{kvs:List (List Key×V)}{xs:List (List Key×Addr×Value)}(r:KT H kvs xs)(k:List Key){y:V}{u:Value}(ry:RelV y u) :
 KT H (kvs.map fun kv=>if kv.1=k then(kv.1,y)else kv) (xs.map (putAt k u)):=by
 induction r with
 | nil=>exact .nil
 | @cons p q ps qs h t ih =>
  rw[ah,ah]
  refine .cons ?_ ih
  obtain⟨h1,h2,h3⟩:=h
  unfold putAt
  by_cases e:p.1=k
  ·rw[ag e,ag (h1.symm.trans e)];exact⟨h1,h2,ry⟩
  ·rw[ae e,ae (fun z=>e (h1.trans z))];exact⟨h1,h2,h3⟩
theorem KT.put {H:Hp}{kvs:List (List Key×V)}{xs:List (List Key×Addr×Value)}(r:KT H kvs xs)(k:List Key){b:Addr}{y:V}{u:Value}(hb:H b=some (.tup (k.map kV)))(ry:RelV y u) :
 KT H (putK kvs k y) (storedH xs k b u):=by
 have e:(kvs.any fun kv=>decide (kv.1=k))=(atKey xs k).isSome:=by
  rw[Ak,(r.val k).kr,bx]
 unfold putK storedH
 rw[e]
 by_cases q:(atKey xs k).isSome=true
 ·rw[ag q,ag q];exact r.repl k ry
 ·rw[ae q,ae q];exact Paired.snoc r ⟨rfl,hb,ry⟩
theorem KT.keeps {H H':Hp}{kvs:List (List Key×V)}{xs:List (List Key×Addr×Value)}(r:KT H kvs xs)(ht:∀ b ys,H b=some (.tup ys)->H' b=some (.tup ys)):KT H' kvs xs :=
 Paired.mapP r fun _ _ z=>⟨z.1,ht _ _ z.2.1,z.2.2⟩
section
variable {P:Program}{w:World}{H:Hp}{h:Heap}{a:Addr}
theorem rd_of {u:HO}(ok:nu P w H h)(e:Rd H a u):fo P w H h a u:=e.ok ok
theorem lG {kvs:List (Key×V)}(ok:nu P w H h)(e:Rd H a (.dK kvs)):kvs.length<=sizeLine/\(a==sysModules)=false/\∃ vs,KV kvs vs/\h.DictOf (eS P w) a vs :=
 show fo P w H h a (.dK kvs)from rd_of ok e
theorem dk_of {kvs:List (Key×V)}(ok:nu P w H h)(e:H a=some (.dK kvs)):kvs.length<=sizeLine/\(a==sysModules)=false/\∃ vs,KV kvs vs/\h.DictOf (eS P w) a vs:=lG ok (.inl e)
theorem vD {ks:List Key}(ok:nu P w H h)(e:H a=some (.tup (ks.map kV))):(tupleKind (eS P w)).is h ks a:=by
 obtain⟨_,d9,r,o,h1,h2,n,h3⟩:=(show fo P w H h a (.tup (ks.map kV))from ok a _ e)
 exact⟨o,d9.toArray,n,h1,h2,h3,by simpa using xH r⟩
theorem xQ {kvs:List (List Key×V)}(ok:nu P w H h)(e:Rd H a (.dT kvs)):kvs.length<=sizeLine/\(a==sysModules)=false /\
 ∃ xs,KT H kvs xs/\h.DictOfH (tupleKind (eS P w)) a xs:=by
 obtain⟨z,y,xs,r,o,es,ep,h1,h2,h3,h4,h5⟩:=(show fo P w H h a (.dT kvs)from rd_of ok e)
 refine⟨z,y,xs,r,o,es,ep,h1,h2,h3,h4,fun x hx=>?_,h5⟩
 have all:∀ {l:List (List Key×V)} {m:List (List Key×Addr×Value)},KT H l m->∀ x∈m,(tupleKind (eS P w)).is h x.1 x.2.1:=by
  intro l m q
  induction q with
  | nil=>intro x hx;exact nomatch hx
  | @cons p q ps qs hq t ih =>
   intro x hx
   rcases List.mem_cons.mp hx with e | hx
   ·subst e
    exact vD ok (by rw[<- hq.1];exact hq.2.1)
   ·exact ih x hx
 exact all r x hx
theorem dt_of {kvs:List (List Key×V)}(ok:nu P w H h)(e:H a=some (.dT kvs)):kvs.length<=sizeLine/\(a==sysModules)=false /\
 ∃ xs,KT H kvs xs/\h.DictOfH (tupleKind (eS P w)) a xs:=xQ ok (.inl e)
end
def DGet (H:Hp)(a:Addr)(y:V)(r:Option V):Prop :=
 (∃ kvs k,Rd H a (.dK kvs)/\y=kV k/\r=lV kvs k)\/∃ kvs k b,Rd H a (.dT kvs)/\y=.ref b/\H b=some (.tup (k.map kV))/\r=lV kvs k
def DPut (H:Hp)(a:Addr)(y v:V)(H':Hp):Prop :=
 (∃ kvs k,H a=some (.dK kvs)/\y=kV k/\kvs.length<sizeLine/\H'=upd H a (.dK (putK kvs k v))) \/
 ∃ kvs k b,H a=some (.dT kvs)/\y=.ref b/\H b=some (.tup (k.map kV))/\kvs.length<sizeLine/\H'=upd H a (.dT (putK kvs k v))
theorem DPut.k {H:Hp}{a:Addr}{kvs:List (Key×V)}{k:Key}{v:V}(e:H a=some (.dK kvs))(hl:kvs.length<sizeLine):DPut H a (kV k) v (upd H a (.dK (putK kvs k v))):=.inl ⟨kvs,k,e,rfl,hl,rfl⟩
section
variable {X:Cx}{pins:List (Addr×Obj)}{σ:St}{H:Hp}{s:Shared}{a:Addr}{y v:V}{u r:Value}{o:Option V}{A:Around}{E:Value->Shared->Prop}
theorem Inv.big (I:Inv X pins σ H s):sysModules<s.heap.objs.size:=by
 have h:mainGlobals<s.heap.objs.size:=(I.mod.glob.keeps I.bk).lt
 exact Nat.lt_trans (by decide) h
theorem d_getItem {Q:Value->Shared->Prop}(hu:A.units+1<cLine)(I:Inv X pins σ H s)(g:DGet H a y (some v))(ry:RelV y u)(h:∀ w' s',Inv X pins σ H s'->RelV v w'->Q w' s') :
 wpAny (model X.prog X.w) A (getItem (.ref a) u) Q E s:=by
 rcases g with⟨kvs,k,e,ey,l⟩ | ⟨kvs,k,b,e,ey,eb,l⟩
 ·subst ey
  obtain⟨z,hd,vs,rel,dd⟩:=lG I.dZ e
  obtain⟨w',hw,rw'⟩:=oX.some_of (v:=v) (o:=valueAt vs k) (by rw[l];exact rel.val k)
  exact wpAny_getItem_of (qR ry) dd.mapOf hw (h w' _ (I.tok _) rw')
 ·subst ey
  cases(show u=Value.ref b from ry)
  obtain⟨z,hd,xs,rel,dd⟩:=xQ I.dZ e
  obtain⟨w',hw,rw'⟩:=oX.some_of (v:=v) (o:=(atKey xs k).map (·.2)) (by rw[l];exact rel.val k)
  obtain⟨p,hp,hp2⟩:=Option.map_eq_some_iff.mp hw
  refine wpAny_getItem_heap (cV hu) (vD I.dZ eb) dd hp ?_
  rw[hp2]
  exact h w' _ (I.tok _) rw'
theorem d_in {Q:Value->Shared->Prop}(hu:A.units+1<cLine)(I:Inv X pins σ H s)(g:DGet H a y o)(ry:RelV y u)(h:∀ s',Inv X pins σ H s'->Q (.bool o.isSome) s') :
 wpAny (model X.prog X.w) A (compareOp .In u (.ref a)) Q E s:=by
 rcases g with⟨kvs,k,e,ey,l⟩ | ⟨kvs,k,b,e,ey,eb,l⟩
 ·subst ey
  obtain⟨z,hd,vs,rel,dd⟩:=lG I.dZ e
  refine wpAny_in_of (qR ry) hd dd.mapOf ?_
  rw[<- (rel.val k).kr,<- l]
  exact h _ (I.tok _)
 ·subst ey
  cases(show u=Value.ref b from ry)
  obtain⟨z,hd,xs,rel,dd⟩:=xQ I.dZ e
  refine wpAny_in_heap (cV hu) (vD I.dZ eb) hd dd ?_
  have q:=(rel.val k).kr
  rw[bx]at q
  rw[<- q,<- l]
  exact h _ (I.tok _)
theorem d_notIn {Q:Value->Shared->Prop}(hu:A.units+1<cLine)(I:Inv X pins σ H s)(g:DGet H a y o)(ry:RelV y u)(h:∀ s',Inv X pins σ H s'->Q (.bool (!o.isSome)) s') :
 wpAny (model X.prog X.w) A (compareOp .NotIn u (.ref a)) Q E s:=by
 rcases g with⟨kvs,k,e,ey,l⟩ | ⟨kvs,k,b,e,ey,eb,l⟩
 ·subst ey
  obtain⟨z,hd,vs,rel,dd⟩:=lG I.dZ e
  refine wpAny_notIn_of (qR ry) hd dd.mapOf ?_
  rw[<- (rel.val k).kr,<- l]
  exact h _ (I.tok _)
 ·subst ey
  cases(show u=Value.ref b from ry)
  obtain⟨z,hd,xs,rel,dd⟩:=xQ I.dZ e
  refine wpAny_notIn_heap (cV hu) (vD I.dZ eb) hd dd ?_
  have q:=(rel.val k).kr
  rw[bx]at q
  rw[<- q,<- l]
  exact h _ (I.tok _)
theorem pB {h':Heap}{t':Nat}{ob:HO}(I:Inv X pins σ H s)(mu:Mut (H a))(hs:Heap.SameBut a s.heap h')(he:∃ q,h'.get? a=some q)(new:fo X.prog X.w (upd H a ob) h' a ob) :
 Inv X pins σ (upd H a ob) { s with heap:=h',toks:=t'} :=
 I.write (x:=a) (e:=a) mu (.inl rfl) (fun b q hb z=>(hs.2 b hb).trans z) he new
theorem sF {P:Program}{w:World}{H':Hp}{h':Heap}{kvs:List (Key×V)}{vs:List (Key×Value)}(z:kvs.length<=sizeLine)(hd:(a==sysModules)=false)(rel:KV kvs vs)(dd:h'.DictOf (eS P w) a vs) :
 fo P w H' h' a (.dK kvs):=⟨z,hd,vs,rel,dd⟩
theorem d_setItem {H':Hp}{Q:Unit->Shared->Prop}(hu:A.units+1<cLine)(I:Inv X pins σ H s)(g:DPut H a y v H')(ry:RelV y u)(rv:RelV v r)(h:∀ s',Inv X pins σ H' s'->Q () s') :
 wpAny (model X.prog X.w) A (setItem (.ref a) u r) Q E s:=by
 rcases g with⟨kvs,k,e,ey,l,eH⟩ | ⟨kvs,k,b,e,ey,eb,l,eH⟩
 ·subst ey eH
  obtain⟨z,hd,vs,rel,dd⟩:=dk_of I.dZ e
  have hz:vs.length<=sizeLine:=by rw[<- rel.length];exact z
  have hl:(putK kvs k v).length<=sizeLine:=by have:=oE kvs k v;omega
  refine wpAny_setItem_pairs (hsz:=hz) (qR ry) dd fun h' dd' hs=>h _ ?_
  have he:∃ q,h'.get? a=some q:=let ⟨q,_,_,hq,_⟩:=dd';⟨q,hq⟩
  exact pB I (by rw[e];exact True.intro) hs he (sF hl hd (rel.put k rv) dd')
 ·subst ey eH
  cases(show u=Value.ref b from ry)
  obtain⟨z,hd,xs,rel,dd⟩:=dt_of I.dZ e
  have hz:xs.length<=sizeLine:=by rw[<- Paired.length rel];exact z
  have hl:(putK kvs k v).length<=sizeLine:=by have:=oE kvs k v;omega
  refine wpAny_setItem_heap (hsz:=hz) (cV hu) (vD I.dZ eb) dd fun h' dd' hs=>h _ ?_
  obtain⟨q,es,ep,hq,h2,h3,h4,_,h5⟩:=dd'
  refine pB I (by rw[e];exact True.intro) hs ⟨q,hq⟩ ⟨hl,hd,_,(rel.put k eb rv).keeps fun c ys ec=>?_,q,es,ep,hq,h2,h3,h4,h5⟩
  rw[dR (ne_of ec e (fun z=>nomatch z))]
  exact ec
end
section
variable {X:Cx}{pins:List (Addr×Obj)}{σ:St}{H:Hp}{s:Shared}{a:Addr}{kvs:List (Key×V)}{k:Key}{u:Value}{A:Around}{E:Value->Shared->Prop}
theorem d_delItem {Q:Unit->Shared->Prop}(I:Inv X pins σ H s)(e:H a=some (.dK kvs))(ry:RelV (kV k) u)(l:(lV kvs k).isSome=true)(h:∀ s',Inv X pins σ (upd H a (.dK (pQ kvs k))) s'->Q () s') :
 wpAny (model X.prog X.w) A (delItem (.ref a) u) Q E s:=by
 obtain⟨z,hd,vs,rel,dd⟩:=dk_of I.dZ e
 refine wpAny_delItem_slot dd.typeIs (by decide) PySem.F.slot_dict_delitem
  (call_meetsIn PySem.F.slot_dict_delitem dd.typeIs PySem.F.entry_dict_delitem (PySem.F.args_dict_delitem_2 _ _) (meets_dict_delitem_pairs (eS X.prog X.w) a (qR ry)) ⟨vs,dd,by rw[<- rel.length];exact z,by rw[<- (rel.val k).kr];exact l,fun h' dd' hs=>h _ ?_⟩)
 have he:∃ q,h'.get? a=some q:=let ⟨q,_,_,hq,_⟩:=dd';⟨q,hq⟩
 exact pB I (by rw[e];exact True.intro) hs he (sF (ar (dropK_le kvs k) z) hd (rel.drop k) dd')
theorem d_pop {v:V}{more:List Value}{Q:Value->Shared->Prop}(I:Inv X pins σ H s)(e:H a=some (.dK kvs))(ry:RelV (kV k) u)(l:lV kvs k=some v)(hm:more=[]\/∃ x,more=[x])
 (h:∀ w' s',Inv X pins σ (upd H a (.dK (pQ kvs k))) s'->RelV v w'->Q w' s'):wpAny (model X.prog X.w) A (call (.builtin "dict.pop") (.ref a::u::more)) Q E s:=by
 obtain⟨z,hd,vs,rel,dd⟩:=dk_of I.dZ e
 obtain⟨w',hw,rw'⟩:=oX.some_of (v:=v) (o:=valueAt vs k) (by rw[<- l];exact rel.val k)
 have hp:(keyPart u).isSome=true:=by
  cases k with
  | inl i=>obtain⟨t,q⟩:=(show ∃ t,u=Value.int i t from ry);subst q;rfl
  | inr x=>obtain⟨t,q⟩:=(show ∃ t,u=Value.str x t from ry);subst q;rfl
 have ha:argsOk "dict.pop" ⟨.ref a::u::more,[]⟩:=by
  rcases hm with q | ⟨x,q⟩
  ·subst q;exact PySem.F.args_dict_pop_2 _ _
  ·subst q;exact PySem.F.args_dict_pop_3 _ _ _
 refine call_meetsIn PySem.F.slot_dict_pop dd.typeIs PySem.F.entry_dict_pop ha (meets_dict_pop_there (eS X.prog X.w) a (qR ry) more hm hp)
  ⟨vs,w',dd,by rw[<- rel.length];exact z,hw,fun h' dd' hs=>h w' _ ?_ rw'⟩
 have he:∃ q,h'.get? a=some q:=let ⟨q,_,_,hq,_⟩:=dd';⟨q,hq⟩
 exact pB I (by rw[e];exact True.intro) hs he (sF (ar (dropK_le kvs k) z) hd (rel.drop k) dd')
theorem d_len {Q:Value->Shared->Prop}(I:Inv X pins σ H s)(e:Rd H a (.dK kvs))(h:∀ t s',Inv X pins σ H s'->Q (.int kvs.length t) s'):wpAny (model X.prog X.w) A (call (.builtin "len") [.ref a]) Q E s:=by
 obtain⟨z,hd,vs,rel,dd⟩:=lG I.dZ e
 refine call_len_dict hd dd (by rw[<- rel.length];rw[sizeLine_eq]at z;omega) ?_
 rw[<- rel.length]
 exact h _ _ (I.tok _)
end
def NoSl (i:Expr):Prop:=∀ ov iv,subscripted i false ov iv=operate [ov,iv] (getItem ov iv)
theorem subD_of {prog:Program}{w:World}{A:Around}{E:Value->Shared->Prop}{s:Shared}{env:Env}{value slice:Expr}{pos:Pos}{T id:String}{Q:Value->Shared->Prop}
 (hl:typeLookup (.type T) "__getitem__"=pure (some (.builtin id))) (hs:NoSl slice)
 (h:wpAny (model prog w) A (eval value env) (fun o s₁=>wpAny (model prog w) A (eval slice env) (fun i s₂=>s₂.TypeIs o T/\wpAny (model prog w) A (getItem o i) Q E s₂) E s₁) E s) :
 wpAny (model prog w) A (eval (.Subscript value slice pos) env) Q E s:=by
 refine Subscript_ (bc h (fun o s₁ h₁=>bc h₁ (fun i s₂ h₂=>?_) fun _ _ x=>x) fun _ _ x=>x)
 obtain⟨hT,h₂⟩:=h₂
 unfold subscriptTail
 refine dY ?_
 rw[getitemInPython_of_ne hT.not_modules]
 refine dY (wpAny_specialOf hT hl ?_)
 have fin:wpAny (model prog w) A (subscripted slice false o i) (fun r s₃=>wpAny (model prog w) A (letTemporaryGo value o r >>= fun _=>pure r) Q E s₃) E s₂:=by
  rw[hs o i]
  exact wpAny_operating (bc h₂ (fun r s₃ h₃=>dY (wpAny_letTemporaryGo (aj h₃))) fun _ _ x=>x)
 first
  | exact aj (dY fin)
  | exact dY (aj (dY fin))
  | exact dY fin
theorem dict_typeIs {X:Cx}{pins:List (Addr×Obj)}{σ:St}{H:Hp}{s:Shared}{a:Addr}{y:V}{o:Option V}(I:Inv X pins σ H s)(g:DGet H a y o):s.TypeIs (.ref a) "dict":=by
 rcases g with⟨kvs,k,e,_,_⟩ | ⟨kvs,k,b,e,_,_,_⟩
 ·obtain⟨_,_,vs,_,dd⟩:=lG I.dZ e
  exact dd.typeIs
 ·obtain⟨_,_,xs,_,dd⟩:=xQ I.dZ e
  exact dd.typeIs
def tDGet (td ty:TE):TE:=fun σ H Q=>td σ H fun x H1=>ty σ H1 fun y H2=>∃ a v,x=.ref a/\DGet H2 a y (some v)/\Q v H2
def tDIn (ty td:TE):TE:=fun σ H Q=>ty σ H fun y H1=>td σ H1 fun x H2=>∃ a o,x=.ref a/\DGet H2 a y o/\Q (.bl o.isSome) H2
def tDNotIn (ty td:TE):TE:=fun σ H Q=>ty σ H fun y H1=>td σ H1 fun x H2=>∃ a o,x=.ref a/\DGet H2 a y o/\Q (.bl (!o.isSome)) H2
def sDPut (td ty tv:TE):TS:=fun D σ H=>tv σ H fun v H1=>td σ H1 fun x H2=>ty σ H2 fun y H3=>∃ a H4,x=.ref a/\DPut H3 a y v H4/\D.nx σ H4
section
variable {X:Cx}{o i e value:Expr}{pos pos' qm:Pos}{td ty tv:TE}
theorem pe_dget (hu:X.A.units+1<cLine)(ho:PE X o td)(hi:PE X i ty)(hs:NoSl i):PE X (.Subscript o i pos) (tDGet td ty):=by
 intro pins s σ H Q I h
 refine subD_of PySem.F.slot_dict_getitem.lookup hs (fq (ho pins s σ H _ I h) fun u s1 nP=>?_)
 obtain⟨x,H1,I1,rx,q1⟩:=nP
 refine fq (hi pins s1 σ H1 _ I1 q1) fun iv s2 pI=>?_
 obtain⟨y,H2,I2,ry,a,v,ex,g,q2⟩:=pI
 subst ex
 obtain rfl:u=Value.ref a:=rx
 exact⟨dict_typeIs I2 g,d_getItem hu I2 g ry fun w' s3 I3 rw'=>⟨v,H2,I3,rw',q2⟩⟩
theorem pc_din (hu:X.A.units+1<cLine)(hi:PE X i ty)(ho:PE X o td):PC X .In i o (tDIn ty td):=by
 intro pins s σ H Q I h
 refine fq (hi pins s σ H _ I h) fun iv s1 p5=>?_
 obtain⟨y,H1,I1,ry,q1⟩:=p5
 refine fq (ho pins s1 σ H1 _ I1 q1) fun u s2 qY=>?_
 obtain⟨x,H2,I2,rx,a,ov,ex,g,q2⟩:=qY
 subst ex
 obtain rfl:u=Value.ref a:=rx
 exact d_in hu I2 g ry fun s3 I3=>⟨.bl ov.isSome,H2,I3,rfl,q2⟩
theorem pc_dnotin (hu:X.A.units+1<cLine)(hi:PE X i ty)(ho:PE X o td):PC X .NotIn i o (tDNotIn ty td):=by
 intro pins s σ H Q I h
 refine fq (hi pins s σ H _ I h) fun iv s1 p4=>?_
 obtain⟨y,H1,I1,ry,q1⟩:=p4
 refine fq (ho pins s1 σ H1 _ I1 q1) fun u s2 pH=>?_
 obtain⟨x,H2,I2,rx,a,ov,ex,g,q2⟩:=pH
 subst ex
 obtain rfl:u=Value.ref a:=rx
 exact d_notIn hu I2 g ry fun s3 I3=>⟨.bl (!ov.isSome),H2,I3,rfl,q2⟩
theorem ps_dput (hu:X.A.units+1<cLine)(ho:PE X o td)(hi:PE X i ty)(hv:PE X value tv)(hs:swapsWith value (some (.Subscript o i pos')) pos.line X.env=pure false) :
 PS X (.Assign [.Subscript o i pos'] value pos) (sDPut td ty tv):=by
 intro pins s σ H D I h
 refine wpAny_Assign_Subscript (fq (hv pins s σ H _ I h) fun r s1 qk=>?_) hs
 obtain⟨v,H1,I1,rv,q1⟩:=qk
 refine fq (ho pins s1 σ H1 _ I1 q1) fun u s2 nP=>?_
 obtain⟨x,H2,I2,rx,q2⟩:=nP
 refine fq (hi pins s2 σ H2 _ I2 q2) fun iv s3 pI=>?_
 obtain⟨y,H3,I3,ry,a,H4,ex,g,q3⟩:=pI
 subst ex
 obtain rfl:u=Value.ref a:=rx
 exact d_setItem hu I3 g ry rv fun s4 I4=>⟨σ,H4,I4,q3⟩
end
theorem dk_empty {P:Program}{w:World}{H:Hp}(h:Heap)(hb:sysModules<h.objs.size):fo P w H (h.push { cls:=.type "dict",data:=.dict #[]}) h.objs.size (.dK []) :=
 ⟨aW _,beq_eq_false_iff_ne.mpr (bb (aB hb)),[],.nil,Heap.DictOf.new h⟩
def tDNewK:TE:=fun _ H Q=>∀ p,H p=none->Q (.ref p) (upd H p (.dK []))
section
variable {X:Cx}{pos:Pos}
theorem pe_dnewK:PE X (.Dict [] [] pos) tDNewK:=fun pins s σ H Q I h =>
 wpAny_Dict_empty ⟨.ref s.heap.objs.size,_,I.laid (a:=s.heap.objs.size) (o:=.dK []) (t':=s.toks) (fun _ _ q=>iV _ q) (aa _) (dk_empty s.heap I.big),rfl,h _ (I.dZ.fresh (aa _))⟩
end
structure M1 (X:Cx)(o:Expr)(m:Str)(apos:Pos)(e:Expr)(fX:Pos):Prop where
 base:attributeBase o m X.env (eval o X.env)=eval o X.env
 ku:((backTo fX (starEach [e] X.env)).all (fun x=>!x.1)&&(backToKw fX (keywordEach [] X.env)).all (fun x=>x.1.isSome)
  && decide (([e]:List Expr).length+([]:List Keyword).length+(if([]:List Keyword).isEmpty then 0 else 1)<30))=true
 line:(apos.endLine==fX.line)=true
 trees:backTo fX (starEach [e] X.env)=[(false,eval e X.env)]
structure M2 (X:Cx)(o:Expr)(m:Str)(apos:Pos)(e f:Expr)(fX:Pos):Prop where
 base:attributeBase o m X.env (eval o X.env)=eval o X.env
 ku:((backTo fX (starEach [e,f] X.env)).all (fun x=>!x.1)&&(backToKw fX (keywordEach [] X.env)).all (fun x=>x.1.isSome)
  && decide (([e,f]:List Expr).length+([]:List Keyword).length+(if([]:List Keyword).isEmpty then 0 else 1)<30))=true
 line:(apos.endLine==fX.line)=true
 trees:backTo fX (starEach [e,f] X.env)=[(false,eval e X.env),(false,eval f X.env)]
def IsD (H:Hp)(a:Addr):Prop:=(∃ kvs,Rd H a (.dK kvs))\/∃ kvs,Rd H a (.dT kvs)
theorem isD_at {X:Cx}{pins:List (Addr×Obj)}{σ:St}{H:Hp}{s:Shared}{a:Addr}(I:Inv X pins σ H s)(d:IsD H a) :
 s.TypeIs (.ref a) "dict"/\(∀ b,Value.ref a=.ref b->∃ ob,s.heap.get? b=some ob/\ob.dict=none)/\(a==sysModules)=false:=by
 rcases d with⟨kvs,e⟩ | ⟨kvs,e⟩
 ·obtain⟨_,hd,vs,_,dd⟩:=lG I.dZ e
  refine⟨dd.typeIs,fun b q=>?_,hd⟩
  cases q
  obtain⟨ob,_,_,h1,h2,_⟩:=dd
  exact⟨ob,h1,h2.2.1⟩
 ·obtain⟨_,hd,xs,_,dd⟩:=xQ I.dZ e
  refine⟨dd.typeIs,fun b q=>?_,hd⟩
  cases q
  obtain⟨ob,_,_,h1,h2,_⟩:=dd
  exact⟨ob,h1,h2.2.1⟩
def tDPop1 (td ty:TE):TE:=fun σ H Q=>td σ H fun x H1=>∃ a,x=.ref a/\IsD H1 a/\ty σ H1 fun y H2=>∃ kvs k v,H2 a=some (.dK kvs)/\y=kV k/\lV kvs k=some v/\Q v (upd H2 a (.dK (pQ kvs k)))
section
variable {X:Cx}{o e f:Expr}{apos fX:Pos}{td ty tx:TE}
theorem pe_dpop1 (ho:PE X o td)(he:PE X e ty)(m:M1 X o "pop" apos e fX):PE X (.Call (.Attribute o "pop" apos) [e] [] fX) (tDPop1 td ty):=by
 intro pins s σ H Q I h
 refine wpAny_Call_method m.base m.ku m.line PySem.F.plainAttrs_dict PySem.F.slot_dict_pop PySem.F.type_dict_pop (fq (ho pins s σ H _ I h) fun u s1 p5=>?_)
 obtain⟨x,H1,I1,rx,a,ex,d,q1⟩:=p5
 subst ex
 obtain rfl:u=Value.ref a:=rx
 obtain⟨t1,t2,_⟩:=isD_at I1 d
 refine⟨t1,t2,?_⟩
 rw[m.trees]
 refine cx rfl (Calls.evalArgs_plain (Calls.spliced_cons (fq (he pins s1 σ H1 _ I1 q1) fun iv s2 qY=>?_)))
 obtain⟨y,H2,I2,ry,kvs,k,v,ea,ey,l,q2⟩:=qY
 refine Calls.spliced_nil ?_
 subst ey
 exact d_pop I2 ea ry l (.inl rfl) fun w' s3 I3 rw'=>⟨v,_,I3,rw',q2⟩
end
section
variable {X:Cx}{pins:List (Addr×Obj)}{σ:St}{H:Hp}{s:Shared}{a:Addr}{kvs:List (Key×V)}{A:Around}{E:Value->Shared->Prop}
theorem d_copyOf {Q:Value->Shared->Prop}(I:Inv X pins σ H s)(e:Rd H a (.dK kvs))(h:∀ p s',H p=none->Inv X pins σ (upd H p (.dK kvs)) s'->Q (.ref p) s'):wpAny (model X.prog X.w) A (call (.type "dict") [.ref a]) Q E s:=by
 obtain⟨z,hd,vs,rel,dd⟩:=lG I.dZ e
 refine kt_call_dict hd dd (by rw[<- rel.length];exact z) fun h' dd' hs=>?_
 refine h _ _ (I.dZ.fresh (aa _)) (I.laid (a:=s.heap.objs.size) (o:=.dK kvs) (t':=s.toks) (fun b q hq=>?_) (aa _) (sF z (beq_eq_false_iff_ne.mpr (bb (aB I.big))) rel dd'))
 exact(hs.2 b (aB (jj hq))).trans (iV _ hq)
end
def wK (X:Cx)(N:List Str)(sc:Scope)(fp:List Addr)(s:Shared)(H:Hp):Cx where
 prog:=X.prog
 w:=X.w
 K:=X.K
 mg:=X.mg
 base:=X.base
 A:=X.A
 N:=N
 s₀:=s
 H₀:=H
 env:=kR sc s.heap.objs.size X.env
 outer:=X.stack
 stack:=X.stack
 ex:=fp
 fn:=fun x=>sc.names.lookup x==some .cell
 calm:=X.calm
 pn:=[]
 xe:=fun _ _=>False
def vI (sc:Scope)(h:Heap):Heap:=pushCells (h.push { cls:=.type "dict",data:=.dict #[]}) sc.names
theorem tH {sc:Scope}{h:Heap}:∀ b o,h.get? b=some o->(vI sc h).get? b=some o:=fun b o e=>cP _ _ b o (iV _ e)
section
variable {X:Cx}{pins:List (Addr×Obj)}{σ:St}{H:Hp}{s:Shared}{N:List Str}{js:List (Option Nat)}{sc:Scope}{fp:List Addr}
theorem inv_compE (I:Inv X pins σ H s)(hc:gT X N js sc)(hf:∀ b∈fp,ny X pins H b)(ho:∀ b∈fp,∃ o,s.heap.get? b=some o)(tk:Nat) :
 Inv (wK X N sc fp s H) [] (ft js σ) H { s with heap:=vI sc s.heap,toks:=tk}:=by
 have freeX:∀ y∈sc.names,y.2=.free->∃ c,X.env.cells.lookup y.1=some c:=fun y hy e=>I.ok.has y.1 (hc.free y hy e)
 have ok:=cellsFrom_ok sc.names (s.heap.push { cls:=.type "dict",data:=.dict #[]}) (s.heap.objs.size+1) [] ⟨fun _ _ hm=>(nomatch hm),List.Pairwise.nil⟩
  (by rw[a6];exact aa _)
 rw[a6]at ok
 have eC:(kR sc s.heap.objs.size X.env).cells=cellsFrom (s.heap.objs.size+1) sc.names []++je X.env.cells sc.names []:=jL sc.names _ [] _
 have lk:∀ x c,(kR sc s.heap.objs.size X.env).cells.lookup x=some c->(x,c)∈cellsFrom (s.heap.objs.size+1) sc.names []\/X.env.cells.lookup x=some c:=fun x c e=>by
  rw[eC]at e
  rcases List.mem_append.mp (mem_of_lookup e)with h | h
  ·exact .inl h
  ·rcases m9 freeX x c h with h | h
   ·cases h
   ·exact .inr h
 have big:∀(x:Str) (c:Nat),(x,c)∈cellsFrom (s.heap.objs.size+1) sc.names []->s.heap.objs.size+1<=c:=fun x c h=>(ok.empty x c h).2
 have small:∀(x:Str) (c:Nat),X.env.cells.lookup x=some c->c<s.heap.objs.size:=fun x c h=>let ⟨_,q⟩:=I.cell x c h;q.lt
 have has:∀ x,((kR sc s.heap.objs.size X.env).kindOf x=some .cell\/(kR sc s.heap.objs.size X.env).kindOf x=some .free)->∃ c,(kR sc s.heap.objs.size X.env).cells.lookup x=some c:=fun x h=>by
  have h':(relabel sc X.env).names.lookup x=some .cell\/(relabel sc X.env).names.lookup x=some .free:=h
  rw[jb]at h'
  rw[eC,cZ]
  cases q:sc.names.lookup x with
  | none=>rw[q]at h';rcases h' with h' | h' <;> cases h'
  | some k =>
   rw[q]at h'
   have hk:=relK_vis (env:=X.env) (x:=x) (k:=k) (h'.elim (fun z=>.inl (aK z)) fun z=>.inr (aK z))
   rcases hk with rfl | rfl
   ·obtain⟨c,sD⟩:=l9 (n:=s.heap.objs.size+1) q
    exact⟨c,by rw[sD];rfl⟩
   ·have z:=nc (cells:=X.env.cells) sc.names [] x (mem_of_lookup q)
    obtain⟨c,sD⟩:=Option.isSome_iff_exists.mp z
    cases q2:(cellsFrom (s.heap.objs.size+1) sc.names []).lookup x with
    | none=>exact⟨c,by rw[sD];rfl⟩
    | some d=>exact⟨d,rfl⟩
 have okY:(wK X N sc fp s H).Ok:=by
  refine⟨I.ok.mod,hc.kind,I.ok.glob,I.ok.blt,aa _,fun x y c h1 h2=>?_,has,fun x c hx h=>?_,I.ok.hd,I.ok.frames,.inl rfl,fun b hb=>⟨?_,fun x c h=>?_⟩,I.bs,ar I.ok.bsz I.sz,fun b o e hb=>?_,fun b hb hs=>?_,I.stack,I.o8⟩
  ·rcases lk x c h1 with g1 | g1 <;> rcases lk y c h2 with g2 | g2
   ·exact name_of_addr ok.apart g1 g2
   ·exact absurd (aq (small _ _ g2) (ar (aZ _ 1) (big _ _ g1))) (bt _)
   ·exact absurd (aq (small _ _ g1) (ar (aZ _ 1) (big _ _ g2))) (bt _)
   ·exact I.ok.inj x y c g1 g2
  ·have hx':sc.names.lookup x=some .cell:=by simpa [wK]using hx
   have h':(kR sc s.heap.objs.size X.env).cells.lookup x=some c:=h
   rw[eC,cZ]at h'
   obtain⟨c2,sD⟩:=l9 (n:=s.heap.objs.size+1) hx'
   rw[sD]at h'
   have e:c2=c:=aK h'
   subst e
   exact ar (aZ _ 1) (big _ _ (mem_of_lookup sD))
  ·obtain⟨o,e⟩:=ho b hb
   exact aB (jj e)
  ·obtain⟨o,e⟩:=ho b hb
   have l:=jj e
   rcases lk x c h with g | g
   ·exact bg (aq l (ar (aZ _ 1) (big _ _ g)))
   ·exact(hf b hb).2.2.2.2.1 x c g
  ·rcases(hf b hb).2.2.2.1 with z | z
   ·exact I.ok.noex b o e z
   ·exact absurd (aq (jj e) (ar I.ok.bsz z)) (bt _)
  ·rcases List.mem_cons.mp (I.uT b hs)with z | z
   ·exact(hf b hb).2.1 z
   ·exact(hf b hb).2.2.1 z
 have qP:∀ b u,s.heap.get? b=some u->(vI sc s.heap).get? b=some u:=tH
 have nsC:(vI sc s.heap).Ns s.heap.objs.size fun _=>none:=by
  have q:=(Heap.Ns.new s.heap (.type "dict")).keeps (cP sc.names _)
  exact q
 refine⟨okY,rfl,I.bare,Un.kept qP,⟨_,nsC,fun i x v e1 e2 e3=>?_⟩,fun x c h=>?_,I.dZ.fresh (aa _),fun x c h=>?_,fun p hp=>absurd (show p∈([]:List (Addr×Obj))from hp) (by simp),I.dZ.kept qP,?_⟩
 ·obtain⟨j,hj,hv⟩:=vK e2
  obtain⟨g1,g2,g3,g4⟩:=hc.slot i x j e1 hj
  have kx:=hc.free _ g2 rfl
  obtain⟨m,hn,hl⟩:=I.loc
  obtain⟨u,r,l⟩:=hl j x v g1 hv (.inr kx)
  refine⟨u,r,?_⟩
  rcases l with⟨z,_⟩ | ⟨_,c,hcc,tJ⟩
  ·have z':X.env.kindOf x=some .local:=z
   rcases kx with k | k <;> (have k':X.env.kindOf x=_:=k;rw[z']at k';cases k')
  ·have kY:(kR sc s.heap.objs.size X.env).kindOf x=some .cell\/(kR sc s.heap.objs.size X.env).kindOf x=some .free:=by
    show(relabel sc X.env).names.lookup x=some .cell\/(relabel sc X.env).names.lookup x=some .free
    rw[jb,g3]
    rcases xy (env:=X.env) (x:=x)with q | q
    ·exact .inl (show some (sf X.env x .free)=_ by rw[q])
    ·exact .inr (show some (sf X.env x .free)=_ by rw[q])
   obtain⟨c',h'⟩:=has x kY
   refine .inr ⟨kY,c',h',?_⟩
   rcases lk x c' h' with g | g
   ·rcases jK _ _ _ _ _ g with z | z
    ·exact absurd z g4
    ·cases z
   ·rw[hcc]at g;cases g
    exact tJ.keeps qP
 ·rcases lk x c h with g | g
  ·exact⟨_,(ok.empty x c g).1⟩
  ·obtain⟨v,q⟩:=I.cell x c g
   exact⟨v,q.keeps qP⟩
 ·rcases lk x c h with g | g
  ·exact I.dZ.fresh (ar (aZ _ 1) (big _ _ g))
  ·exact I.jq x c g
 ·show(ft js σ).length=N.length
  unfold ft
  rw[fg];exact hc.len
end
theorem xn {prog:Program}{w:World}{A:Around}{R:Result->Shared->Prop}{s:Shared}{kx vx target iter:Expr}{ifs:List Expr}{scope:Scope}{pos:Pos}{it:Value}{D:Addr}{env:Env}(I:Nat->Shared->Prop)
 (turn:∀ n s,I n s->wpAny (model prog w) A (pyNext it) (fun r s₁=>match r with
   | none=>R (.ok .next) s₁
   | some v=>wpAny (model prog w) A (letOwnedTupleGo target it v) (fun _ s₁'=>wpAny (model prog w) A (assign target env v) (fun _ s₂ =>
    wpAny (model prog w) A (forIn ifs true fun c r=>if r=true then do let ok <- isTrue c env (eval c env);pure (ForInStep.yield ok)else pure (ForInStep.yield r)) (fun ok s₃ =>
     if ok=true then wpAny (model prog w) A (eval kx env) (fun kv s₄=>wpAny (model prog w) A (eval vx env) (fun vv s₅ =>
      wpAny (model prog w) A (dictSet D kv vv) (fun _ s₆=>∃ m,m<n/\I m s₆) (fun _ _=>False) s₅) (fun _ _=>False) s₄) (fun _ _=>False) s₃
     else ∃ m,m<n/\I m s₃) (fun _ _=>False) s₂) (fun _ _=>False) s₁') (fun _ _=>False) s₁) (fun _ _=>False) s)
 (n:Nat) (h:I n s) :
 codeAny (model prog w) A (.compLoop (.DictComp kx vx [⟨target,iter,ifs,0⟩] scope pos) 0 it (.ref D) env) R s:=by
 refine codeAny_loop rfl I (fun n s hI=>?_) n h
 show wpAny _ A ((compTurn (.DictComp kx vx [⟨target,iter,ifs,0⟩] scope pos) 0 it (.ref D) env).onRaise (fun x=>do noteFrame x env;theTreesLotGoes x)) _ _ s
 refine wpAny_noted ?_
 rw[compTurn_dict]
 refine dY (cM (dY (bc (turn n s hI) (fun r s₁ h₁=>?_) fun _ _ h'=>h'.elim)))
 cases r with
 | none=>exact aj h₁
 | some v =>
  refine dY (bc h₁ (fun _ s₁' h₁'=>?_) fun _ _ h'=>h'.elim)
  refine dY (bc h₁' (fun _ s₂ h₂=>dY (bc h₂ (fun ok s₃ h₃=>?_) fun _ _ h'=>h'.elim)) fun _ _ h'=>h'.elim)
  cases ok with
  | false=>exact aj ⟨rfl,h₃⟩
  | true =>
   exact dY (dY (bc h₃ (fun x s₄ h₄=>dY (bG (bc h₄ (fun y s₅ h₅=>dY (cM (bG (bc h₅ (fun _ s₆ h₆=>aj ⟨rfl,h₆⟩) fun _ _ h'=>h'.elim)))) fun _ _ h'=>h'.elim))) fun _ _ h'=>h'.elim))
def wCompD (js:List (Option Nat))(g:TG)(tt:TT)(tk tv:TE)(J:It)(σ:St)(D:Addr)(H1:Hp)(fin:List (Key×V)->Hp->Prop):Prop :=
 ∃ W:Nat->Nat->List (Key×V)->Hp->Prop,(∃ m,W 0 m [] H1)/\∀ i m kvs H,W i m kvs H ->
  (J.stop i H/\fin kvs H)\/(J.go i H/\∀ x H',J.yld i H x H'->g x (ft js σ) H' fun lU H2=>Ext (ft js σ) lU/\tt lU H2 fun b H3 =>
    if b=true then tk lU H3 fun k H4=>tv lU H4 fun v H5=>∃(kk:Key) (kvs':List (Key×V)),k=kV kk/\H5 D=some (.dK kvs')/\kvs'.length<sizeLine/\∃ m',m'<m/\W (i+1) m' (putK kvs' kk v) (upd H5 D (.dK (putK kvs' kk v)))else ∃ m',m'<m/\W (i+1) m' kvs H3)
section
variable {X:Cx}{pins:List (Addr×Obj)}{σ:St}{H:Hp}{s:Shared}
theorem dict_set {A:Around}{E:Value->Shared->Prop}{a:Addr}{kvs:List (Key×V)}{k:Key}{u r:Value}{v:V}{Q:Unit->Shared->Prop}(I:Inv X pins σ H s)(e:H a=some (.dK kvs))(l:kvs.length<sizeLine)(ry:RelV (kV k) u)(rv:RelV v r)
 (h:∀ s',Inv X pins σ (upd H a (.dK (putK kvs k v))) s'->Q () s'):wpAny (model X.prog X.w) A (dictSet a u r) Q E s:=by
 obtain⟨z,hd,vs,rel,dd⟩:=dk_of I.dZ e
 have hz:vs.length<=sizeLine:=by rw[<- rel.length];exact z
 have hl:(putK kvs k v).length<=sizeLine:=by have:=oE kvs k v;omega
 refine wpAny_dictSet_pairs (hsz:=hz) (qR ry) dd fun h' dd' hs=>h _ ?_
 have he:∃ q,h'.get? a=some q:=let ⟨q,_,_,hq,_⟩:=dd';⟨q,hq⟩
 exact pB I (by rw[e];exact True.intro) hs he (sF hl hd (rel.put k rv) dd')
variable {N:List Str}{js:List (Option Nat)}{sc:Scope}{fp:List Addr}{tg kx vx iter:Expr}{ifs:List Expr}{g:TG}{tt:TT}{tk tv:TE}
theorem compD_block {J:It}{it D:Addr}{tn:Nat->Heap->Prop}{pos:Pos}{R:Result->Shared->Prop}{fin:List (Key×V)->Hp->Prop}{tok:Nat}(I:Inv X pins σ H s)(hc:gT X N js sc)(calm:X.calm=true)
 (T:Turn X.prog X.w X.K tg J fp it tn) (st:tn 0 s.heap) (hf:∀ b∈fp,ny X pins H b)
 (hg:PG (wK X N sc fp s H) tg g) (ht:PTs (wK X N sc fp s H) ifs tt) (hk:PE (wK X N sc fp s H) kx tk) (hv:PE (wK X N sc fp s H) vx tv) (q:wCompD js g tt tk tv J σ D H fin)
 (hR:∀ s' H' kvs m,Inv X pins σ H' s'->fin kvs H'->s'.heap.Ns s.heap.objs.size m->H' s.heap.objs.size=none->R (.ok .next) s') :
 codeAny (model X.prog X.w) X.A (.compStart (.DictComp kx vx [⟨tg,iter,ifs,0⟩] sc pos) 0 (.ref it) (.ref D) (kR sc s.heap.objs.size X.env)) R { s with heap:=vI sc s.heap,toks:=tok}:=by
 have hob:∀ b∈fp,∃ o,s.heap.get? b=some o:=fun b hb=>let ⟨o,e,_⟩:=T.obj 0 s.heap st b hb;⟨o,e⟩
 have I0:=inv_compE I hc hf hob tok
 have okY:=I0.ok
 obtain⟨W,⟨m0,w0⟩,turn⟩:=q
 have uV:∀ {H':Hp},(∀ b∈fp,H' b=none)->∀ b∈fp,ny (wK X N sc fp s H) [] H' b:=fun {H'} hn b hb =>
  ⟨hn b hb,(okY.exf b hb).1,okY.exfs b hb,.inl hb,(okY.exf b hb).2,fun p hp=>absurd (show p∈([]:List (Addr×Obj))from hp) (by simp)⟩
 have st0:tn 0 (vI sc s.heap):=T.keep 0 _ _ st fun b _ o e=>tH b o e
 have loop:codeAny (model X.prog X.w) X.A (.compLoop (.DictComp kx vx [⟨tg,iter,ifs,0⟩] sc pos) 0 (.ref it) (.ref D) (kR sc s.heap.objs.size X.env)) R { s with heap:=vI sc s.heap,toks:=tok}:=by
  refine xn (fun n s'=>∃ i kvs H',Inv (wK X N sc fp s H) [] (ft js σ) H' s'/\tn i s'.heap/\(∀ b∈fp,H' b=none)/\W i n kvs H') ?_ m0
   ⟨0,[],H,I0,st0,fun b hb=>(hf b hb).1,w0⟩
  rintro n s3 ⟨i,kvs,H3,I3,st3,fr3,w3⟩
  rcases turn i n kvs H3 w3 with⟨stop,qf⟩ | ⟨go,step⟩
  ·refine fq (T.done (wK X N sc fp s H) rfl rfl rfl calm i _ s3 _ H3 _ I3 (uV fr3) st3 stop) fun r s4 p4=>?_
   obtain⟨hr,I4⟩:=p4
   subst hr
   show R (.ok .next) s4
   obtain⟨m,hns,_⟩:=I4.loc
   have IX:Inv X pins σ H3 s4:=I.xT (ch:=fp) I4.os I4.base I4.dZ I4.bare fun b hb=>by
    obtain⟨f0,f1,f2,f3,f4,f5⟩:=hf b hb
    exact⟨f3,f1,f4,f5⟩
   exact hR s4 H3 kvs m IX qf hns I4.free
  ·refine fq (T.item (wK X N sc fp s H) rfl rfl rfl calm i _ s3 _ H3 _ I3 (uV fr3) st3 go) fun r s4 pH=>?_
   obtain⟨u,hr,h4⟩:=pH
   subst hr
   refine fq h4 fun _ s5 qk=>?_
   obtain⟨x,H5,I5,r5,y5,st5,fr5⟩:=qk
   have I5':=I5.pinned (uV fr5) (T.obj _ _ st5)
   refine fq (hg _ s5 _ H5 x u _ I5' r5 (step x H5 y5)) fun _ s6 ⟨σ6,H6,I6,⟨ext6,q6⟩⟩=>?_
   refine fq (ht _ s6 σ6 H6 _ I6 q6) fun b s7 nP=>?_
   obtain⟨H7,I7,q7⟩:=nP
   have back:∀ {s':Shared} {H':Hp},Inv (wK X N sc fp s H) ([]++sq fp s5.heap) σ6 H' s'->tn (i+1) s'.heap/\(∀ b∈fp,H' b=none)/\Inv (wK X N sc fp s H) [] (ft js σ) H' s':=fun {s' H'} I'=>by
    refine⟨T.keep _ _ _ st5 fun b hb o e=>(I'.pin (b,o) (aD _ (aD _ (jx hb e)))).1,fun b hb=>?_,(I'.weak ext6.1 ext6.2).n5⟩
    obtain⟨o,e,d⟩:=T.obj _ _ st5 b hb
    exact(I'.pin (b,o) (aD _ (aD _ (jx hb e)))).2.1
   cases b with
   | false =>
    obtain⟨m',hm,w7⟩:=q7
    obtain⟨t7,f7,I7'⟩:=back I7
    exact⟨m',hm,i+1,kvs,H7,I7',t7,f7,w7⟩
   | true =>
    refine fq (hk _ s7 σ6 H7 _ I7 q7) fun y s8 pI=>?_
    obtain⟨yk,H8,I8,ry,q8⟩:=pI
    refine fq (hv _ s8 σ6 H8 _ I8 q8) fun z s9 p5=>?_
    obtain⟨zv,H9,I9,rz,kk,kvs',ek,eD,hl,m',hm,w9⟩:=p5
    subst ek
    refine dict_set (X:=wK X N sc fp s H) I9 eD hl ry rz fun s10 I10=>?_
    obtain⟨t8,f8,I8'⟩:=back I10
    exact⟨m',hm,i+1,_,_,I8',t8,f8,w9⟩
 exact codeAny_compStart_dict loop (T.self _ 0 _ _ _ st0 loop)
def tCompD (wi:TI)(js:List (Option Nat))(g:TG)(tt:TT)(tk tv:TE):TE:=fun σ H Q=>wi σ H fun J H1=>∀ D,H1 D=none->wCompD js g tt tk tv J σ D (upd H1 D (.dK [])) fun _ H'=>Q (.ref D) H'
end
def mY:D->Option Key
 | .int i=>some (.inl i)
 | .str z=>some (.inr z)
 | _=>none
theorem mX {φ:List Addr}{H:Hp}{d:D}{v:V}{k:Key}(e:mY d=some k)(i:ij φ H d v):v=kV k:=by
 cases d with
 | int n=>cases e;exact i
 | str z=>cases e;exact i
 | _=>cases e
def dput (kvs:List (Key×D))(k:Key)(d:D):List (Key×D):=if(kvs.any fun kv=>decide (kv.1=k))=true then kvs.map (fun kv=>if kv.1=k then(kv.1,d)else kv)else kvs++[(k,d)]
def oN (kvs:List (Key×D))(k:Key):Option D:=(kvs.find? fun kv=>decide (kv.1=k)).map (·.2)
theorem dput_len (kvs:List (Key×D))(k:Key)(d:D):(dput kvs k d).length<=kvs.length+1:=by
 unfold dput
 split
 ·rw[fg];omega
 ·rw[kH,aQ];omega
def dItemD (ρ:DE)(y:DG)(t:Dt)(wk wv:De)(d:D)(μ:MS)(K:Option (Key×D)->MS->Prop):Prop:=y d ρ μ fun jV eW=>t jV eW fun b nO=>if b=true then wk jV nO fun kd μ4=>opt (mY kd) fun k=>wv jV μ4 fun v μ5=>K (some (k,v)) μ5 else K none nO
theorem Fr.noext {φ eB:List Addr}{H H':Hp}(f:Fr φ H eB H')(hl:eB.length=φ.length):eB=φ:=by
 obtain⟨⟨ψ,rfl,_⟩,_,_⟩:=f
 rw[kH]at hl
 have:ψ=[]:=List.length_eq_zero_iff.mp (by omega)
 rw[this,aN]
section
variable {X:Cx}{a b e:Expr}{es:List Expr}{pos:Pos}
variable {N:List Str}{js:List (Option Nat)}{sc:Scope}{tg kx vx iter:Expr}{ifs:List Expr}{g:TG}{y:DG}{S:List Nat}{t:Dt}{wk wv:De}
theorem vW {φ:List Addr}{H:Hp}{ks:List Key}:∀ {ds:List D} {kvs:List (Key×V)} {k:Key} {d:D},kvs.map (·.1)=ks->dN φ H ds (kvs.map (·.2))->oN (ks.zip ds) k=some d->∃ v,lV kvs k=some v/\ij φ H d v:=by
 intro ds kvs
 induction kvs generalizing ks ds with
 | nil=>intro k d h1 h2 h3;cases h1;cases h3
 | cons p kvs ih =>
  intro k d h1 h2 h3
  cases ks with
  | nil=>cases h1
  | cons k0 ks =>
   cases ds with
   | nil=>cases(show _=_ from h2)
   | cons d0 ds =>
    obtain⟨v,r,e,h4,h5⟩:=h2
    simp only[ah,bM]at h1 e
    obtain⟨rfl,rfl⟩:=e
    obtain⟨rfl,h1⟩:=h1
    rw[cY]at h3
    unfold oN at h3
    rw[br]at h3
    by_cases hk:p.1=k
    ·simp only[hk,decide_true]at h3
     cases h3
     exact⟨p.2,nX hk,h4⟩
    ·simp only[hk,decide_false]at h3
     obtain⟨v,a,b⟩:=ih h1 h5 (k:=k) (d:=d) h3
     exact⟨v,by rw[nY hk];exact a,b⟩
end
def clN (l:List Nat)(e:Nat):Nat:=e+((l.drop e).takeWhile (·==111)).length
def farF (es:List Int)(l:List Nat)(e:Int):Int:=(es.filter fun x=>decide (x<=(clN l e.toNat:Int))).foldl max e
structure RowOk (es row:List Int):Prop where
 len:row.length=es.length
 mem:∀ x∈row,x∈es
theorem zip_parts {α β:Type}:∀ l:List (α×β),(l.map (·.1)).zip (l.map (·.2))=l
 | []=>rfl
 | p::l=>by rw[ah,ah,cY,zip_parts l]
section
variable {X:Cx}{N:List Str}{sc:Scope}{js:List (Option Nat)}{tg iter kx vx:Expr}{ifs:List Expr}{g:TG}{tt:TT}{tk tv:TE}
theorem pe_compD {wi:TI}{pos:Pos}(hc:gT X N js sc)(calm:X.calm=true)(hi:PI X tg iter wi)(hg:∀ fp s H,PG (wK X N sc fp s H) tg g)
 (ht:∀ fp s H,PTs (wK X N sc fp s H) ifs tt) (hk:∀ fp s H,PE (wK X N sc fp s H) kx tk) (hv:∀ fp s H,PE (wK X N sc fp s H) vx tv)
 (hs:∀ x,foldedSetIterable iter X.env x=pure x:=by intro _;rfl):PE X (.DictComp kx vx [⟨tg,iter,ifs,0⟩] sc pos) (tCompD wi js g tt tk tv):=by
 intro pins s σ H Q I h
 rw[show eval (.DictComp kx vx [⟨tg,iter,ifs,0⟩] sc pos) X.env=comprehension (.DictComp kx vx [⟨tg,iter,ifs,0⟩] sc pos) sc X.env (firstIterPos [⟨tg,iter,ifs,0⟩] pos) newDict (firstAsync [⟨tg,iter,ifs,0⟩]) (firstIter [⟨tg,iter,ifs,0⟩] X.env)from rfl]
 refine cc (use:=none) rfl hs (jJ fun y hy e=>I.ok.has y.1 (hc.free y hy e)) hc.kind hc.loc (fq (hi pins s σ H _ I h) fun v s1 h1=>fq h1 fun itv s2 h2=>?_)
 obtain⟨it,fp,tn,J,H2,e,I2,T,st2,f2,q⟩:=h2
 subst e
 refine aY (lA ?_)
 have hD:H2 s2.heap.objs.size=none:=I2.dZ.fresh (aa _)
 have I3:Inv X pins σ (upd H2 s2.heap.objs.size (.dK [])) { s2 with heap:=s2.heap.push { cls:=.type "dict",data:=.dict #[]}}:=I2.laid (t':=s2.toks) (fun _ _ q=>iV _ q) (aa _) (dk_empty s2.heap I2.big)
 have hC:(s2.heap.push { cls:=.type "dict",data:=.dict #[]}).objs.size=s2.heap.objs.size+1:=a6 ..
 have st3:tn 0 (s2.heap.push { cls:=.type "dict",data:=.dict #[]}):=T.keep 0 _ _ st2 fun b _ o e=>iV _ e
 have hob:∀ b∈fp,b≠s2.heap.objs.size:=fun b hb=>let ⟨o,e,_⟩:=T.obj 0 s2.heap st2 b hb;aB (jj e)
 have f3:∀ b∈fp,ny X pins (upd H2 s2.heap.objs.size (.dK [])) b:=fun b hb=>⟨by rw[dR (hob b hb)];exact(f2 b hb).1,(f2 b hb).2⟩
 refine compD_block (s:={ s2 with heap:=s2.heap.push { cls:=.type "dict",data:=.dict #[]}}) (tok:=s2.toks) I3 hc calm T st3 f3 (hg fp _ _) (ht fp _ _) (hk fp _ _) (hv fp _ _) (q s2.heap.objs.size hD) fun s' H' kvs m IX qf nC hn=>?_
 have rW:s2.heap.objs.size<(s2.heap.push { cls:=.type "dict",data:=.dict #[]}).objs.size:=by rw[hC];exact bP _
 have Af:∀(b:Addr) (o:Obj),s2.heap.get? b=some o->b≠(s2.heap.push { cls:=.type "dict",data:=.dict #[]}).objs.size:=fun b o e=>aB (Nat.lt_trans (jj e) rW)
 refine⟨m,nC,fun h' sb=>?_⟩
 have IY:Inv X pins σ H' { s' with heap:=h'}:=IX.turned (t':=s'.toks) (it:=(s2.heap.push { cls:=.type "dict",data:=.dict #[]}).objs.size) (fun b o hb e=>(sb.2 b hb).trans e) hn
  (bg (Nat.lt_trans I2.lt rW)) (.inr (Nat.le_of_lt (bX I2.sz rW))) (fun x c e=>let ⟨v,z⟩:=I2.cell x c e;aB (Nat.lt_trans z.lt rW)) (fun p hp=>Af _ _ (I2.pin p hp).1)
 exact⟨.ref _,_,IY,rfl,qf⟩
variable {y:DG}{S:List Nat}{t:Dt}{wk wv:De}
end
theorem kq (lo:Int)(n:Nat):kg lo (n+1)=.int lo::kg (lo+1) n:=by
 unfold kg
 rw[List.range_succ_eq_map,ah,aC]
 congr 1
 ·simp
 ·refine bV fun i _=>?_
  show D.int (lo+((i+1:Nat):Int))=_
  congr 1
  omega
theorem gm {μ g:MS}(hm:∀(j:Nat) (m:MO),μ[j]?=some m->moB μ.length m):∀(j:Nat) (m:MO),j<μ.length->(μ++g)[j]?=some m->moB μ.length m:=fun j m hj e=>by
 rw[uD hj]at e;exact hm j m e
theorem lvM_ty {μ:MS}{k:Nat}{ds:List D}(h:zf μ k=some ds):TyD "list" μ (.mr k):=by show(match μ[k]? with | some (.lst _) => "list" = "list" | some (.hJ _ _) => "list" = "dict" | _=>False);rw[pV h]
theorem cutD_to {α:Type}(g:α->D)(ts:List α)(k:Nat):cutD (ts.map g) none (some (k:Int))=(ts.take k).map g:=by
 unfold cutD
 rw[HT.qI,HT.lr,fg,List.drop_zero,Nat.sub_zero,<- List.map_take]
 congr 1
 rcases Nat.le_total k ts.length with h | h
 ·rw[cy h]
 ·rw[Nat.min_eq_right h,aV (aa _),aV h]
end L2
namespace L2
end L2
namespace L2
open PySem PySem.Spec PyProof.Rows
def Rises (row:List Int):Prop:=∀(i j:Nat) (a b:Int),i<=j->row[i]?=some a->row[j]?=some b->a<=b
structure RowGood (es:List Int)(ts:List Tk)(a:Int)(row:List Int):Prop where
 ok:RowOk es row
 up:Rises row
 ge:∀(i:Nat) (x e:Int),row[i]?=some x->es[i]?=some e->e<=x
 far:∀(i:Nat) (x e:Int),row[i]?=some x->es[i]?=some e->∀ t∈ts,t.2<=a->farF es t.1 e<=x
structure GoodTo (es:List Int)(ts:List Tk)(a:Int)(row:List Int)(k:Nat):Prop where
 mem:∀(i:Nat) (x:Int),i<k->row[i]?=some x->x∈es
 up:∀(i j:Nat) (x y:Int),i<=j->j<k->row[i]?=some x->row[j]?=some y->x<=y
 ge:∀(i:Nat) (x e:Int),i<k->row[i]?=some x->es[i]?=some e->e<=x
 far:∀(i:Nat) (x e:Int),i<k->row[i]?=some x->es[i]?=some e->∀ t∈ts,t.2<=a->farF es t.1 e<=x
theorem GoodTo.all {es:List Int}{ts:List Tk}{a:Int}{row:List Int}(g:GoodTo es ts a row row.length)(hl:row.length=es.length):RowGood es ts a row:=by
 have lt:∀ {i:Nat} {x:Int},row[i]?=some x->i<row.length:=fun e=>(lE e).1
 exact⟨⟨hl,fun x hx=>by obtain⟨i,hi,e⟩:=ck hx;exact g.mem i x hi (by rw[tL hi,e])⟩,fun i j x y hij e1 e2=>g.up i j x y hij (lt e2) e1 e2,fun i x e e1 e2=>g.ge i x e (lt e1) e1 e2,fun i x e e1 e2=>g.far i x e (lt e1) e1 e2⟩
theorem ie {α:Type}{it:D->MS->(Option D->MS->Prop)->Prop}{c:MS->Prop}{μ:MS}(hc:c μ)(g:α->D)(f:α->Option D):∀ {xs:List α} {K:List D->MS->Prop},(∀ x∈xs,∀(K':Option D->MS->Prop),K' (f x) μ->it (g x) μ K')->K (xs.filterMap f) μ->rH it c (xs.map g) μ K
 | [],K,_,k=>⟨hc,k⟩
 | x::xs,K,h,k=>⟨hc,h x aw _ (ie hc g f (fun y hy=>h y (mZ _ hy)) (by
  cases e:f x with
  | none=>rw[List.filterMap_cons_none e]at k;exact k
  | some y=>rw[List.filterMap_cons_some e]at k;exact k))⟩
theorem pD {α:Type}{it:D->MS->(Option D->MS->Prop)->Prop}{c:MS->Prop}{μ:MS}(hc:c μ)(g f:α->D){xs:List α}{K:List D->MS->Prop}(h:∀ x∈xs,∀(K':Option D->MS->Prop),K' (some (f x)) μ->it (g x) μ K')(k:K (xs.map f) μ):rH it c (xs.map g) μ K:=by
 refine ie hc g (fun x=>some (f x)) h ?_
 rw[List.filterMap_eq_map']
 exact k
theorem atI_maps {α:Type}{g:α->D}{xs:List α}{k:Nat}{x:α}(h:xs[k]?=some x):qh (xs.map g) (k:Int)=some (g x):=rP h
end L2
namespace L2
end L2
namespace L2
open PySem PySem.Spec PyProof.Rows
theorem gD.le {j k:Nat}{A:Around}(r:gD k A)(h:j<=k:=by first | decide | exact aa _ | omega):gD j A:=r.mono h
theorem lo {sc:Scope}{x:Str}(h:Loc sc x:=by first | exact Or.inl rfl | exact Or.inr rfl):Loc sc x:=h
theorem lvM_at {μ g:MS}{i:Nat}{ds:List D}(h:g[i]?=some (.lst ds)):zf (μ++g) (μ.length+i)=some ds:=kG (by rw[p6 (by omega),bT];exact h)
theorem jw {n:Nat}:∀ {ds:List D},(∀ d∈ds,wJ n d)->pj n ds
 | [],_=>by unfold pj;trivial
 | d::ds,h=>by unfold pj;exact⟨h d aw,jw fun x hx=>h x (mZ _ hx)⟩
end L2
namespace L2
end L2
namespace L2
open PySem PySem.Spec PyProof.Rows
def joinT (a b:Tk)(p:Int):Tk:=(a.1.take p.toNat++b.1.drop p.toNat,max a.2 b.2+1)
def uI:iN:=fun ds μ K=>match ds with
 | [.tup [.str z,.int a],.tup [.str y,.int b],.int p]=>∃ x u:Tk,z=txt x.1/\a=x.2/\y=txt u.1/\b=u.2/\0<=p/\x.1.length<=1000/\u.1.length<=1000/\K (iU (joinT x u p)) μ
 | _=>False
theorem at0 {μ:MS}{x:List D}{y:MO}:zf (μ++[.lst x,y]) μ.length=some x:=lvM_at (μ:=μ) (g:=[.lst x,y]) (i:=0) rfl
section
variable {X:Cx}{e:Expr}{pos:Pos}
def dDNew:De:=fun _ μ K=>K (.mr μ.length) (μ++[.hJ [] []])
theorem zI:PD X (.Dict [] [] pos) dDNew:=pe_dnewK.imp fun σ H Q ⟨φ,ρ,μ,K,A,M,k,L⟩=>fun p hp=>by
 obtain⟨M',f⟩:=M.snoc (o:=.dK []) (m:=.hJ [] []) hp ⟨[],[],dH,rfl,rfl,rfl⟩
 exact L _ _ _ _ _ k f M' ⟨p,by rw[p6 (by rw[M.len];exact aa _),M.len,aR];rfl,rfl⟩
end
def Itd (a:Addr)(o:Obj)(kvs:List (Key×V)):It:=⟨fun i H=>i<kvs.length/\H a=some (.kI o (.dK kvs)),fun i H x H'=>H'=H/\∃ p,kvs[i]?=some p/\x=kV p.1,fun i H=>kvs.length<=i/\H a=some (.kI o (.dK kvs))⟩
theorem kV_of {k:Key}{u:Value}(h:vE k u=true):RelV (kV k) u:=by
 rcases fY h with⟨i,t,rfl,rfl⟩ | ⟨x,t,rfl,rfl⟩
 ·exact⟨t,rfl⟩
 ·exact⟨t,rfl⟩
theorem pair_at {κ:Type}{kvs:List (κ×V)}{vs:List (κ×Value)}(h:KV kvs vs):∀ {i:Nat} {p:κ×V},kvs[i]?=some p->∃ v,vs[i]?=some (p.1,v):=by
 unfold KV at h
 induction h with
 | nil=>intro i p e;simp at e
 | @cons a b as bs r _ ih =>
  intro i p e
  cases i with
  | zero =>
   simp at e
   subst e
   refine⟨b.2,?_⟩
   rw[r.1];rfl
  | succ i=>exact ih (by simpa using e)
theorem turn_dict {P:Program}{w:World}{K:PySem.W.Frag}{tg:Expr}(a it:Addr){o:Obj}{kvs:List (Key×V)}{vs:List (Key×Value)}{ep:Nat}(kv:KV kvs vs)(hd:∀ h:Heap,h.get? a=some o->h.DictAt (eS P w) a vs ep) :
 Turn P w K tg (Itd a o kvs) [it] it (fun i h=>h.IsKeyIter it a i vs.length ep) where
 mem:=by simp
 obj:=fun i h st b hb=>by
  have e:b=it:=by simpa using hb
  subst e
  obtain⟨o,e,c,d⟩:=st
  exact⟨o,e,fun v z=>by rw[d]at z;cases z⟩
 keep:=fun i h h' st k=>st.at fun o e=>k it (by simp) o e
 item:=by
  intro X hP hw hK hc i pins s σ H E I hf st hg
  subst hP hw hK
  obtain⟨hi,hq⟩:=hg
  obtain⟨p,hp⟩:∃ p,kvs[i]?=some p:=⟨_,tL hi⟩
  obtain⟨v,hv⟩:=pair_at kv hp
  have ho:s.heap.get? a=some o:=(show fo X.prog X.w H s.heap a (.kI o (.dK kvs))from I.dZ a _ hq).1
  obtain⟨f0,f1,f2,f3,f4,f5⟩:=hf it (by simp)
  refine wpAny_pyNext_dict_item st (hd _ ho) hv fun key h' hkey st' sb=>?_
  have I1:Inv X pins σ H { s with heap:=h'}:=I.turned (t':=s.toks) (fun b o hb e=>(sb.2 b hb).trans e) f0 f1 f3 f4 f5
  obtain⟨oi,e,c,d⟩:=id st'
  exact⟨key,rfl,xN (s:={ s with heap:=h'}) e c d (by decide) ⟨kV p.1,H,I1,kV_of hkey,⟨rfl,p,hp,rfl⟩,st',fun b hb=>(hf b hb).1⟩⟩
 done:=by
  intro X hP hw hK hc i pins s σ H E I hf st hg
  subst hP hw hK
  obtain⟨hi,hq⟩:=hg
  have ho:s.heap.get? a=some o:=(show fo X.prog X.w H s.heap a (.kI o (.dK kvs))from I.dZ a _ hq).1
  obtain⟨f0,f1,f2,f3,f4,f5⟩:=hf it (by simp)
  have hl:=KV.length kv
  exact wpAny_pyNext_dict_end (I.ok.hd hc) st (hd _ ho) (List.getElem?_eq_none_iff.mpr (by omega)) fun h' eb=>⟨rfl,I.turned (t':=s.toks) (fun b o hb e=>eb b o hb e) f0 f1 f3 f4 f5⟩
 self:=fun _ _ _ _ _ st h=>wpAny_pyIter_keyiter st h
theorem freeze {X:Cx}{pins:List (Addr×Obj)}{σ:St}{H:Hp}{s:Shared}{a:Addr}{kvs:List (Key×V)}(I:Inv X pins σ H s)(e:Rd H a (.dK kvs)):∃ o vs ep,KV kvs vs/\(∀ h:Heap,h.get? a=some o->h.DictAt (eS X.prog X.w) a vs ep)/\s.heap.DictAt (eS X.prog X.w) a vs ep/\(a==sysModules)=false/\Inv X pins σ (upd H a (.kI o (.dK kvs))) s:=by
 obtain⟨z,hd,vs,rel,dd⟩:=lG I.dZ e
 obtain⟨ep,da⟩:=dd.dictAt
 obtain⟨o,es,ho,r⟩:=id da
 refine⟨o,vs,ep,rel,fun h e=>⟨o,es,e,r⟩,da,hd,?_⟩
 rcases e with e | ⟨o',e⟩
 ·exact pB (t':=s.toks) I (by rw[e];exact True.intro) ⟨rfl,fun b _=>rfl⟩ ⟨o,ho⟩ ⟨ho,sF z hd rel dd⟩
 ·have vH:s.heap.get? a=some o':=(show fo X.prog X.w H s.heap a (.kI o' (.dK kvs))from I.dZ a _ e).1
  rw[ho]at vH
  cases vH
  have:upd H a (.kI o (.dK kvs))=H:=by
   funext b
   unfold upd
   split
   ·rename_i q;rw[q,e]
   ·rfl
  rw[this];exact I
section
variable {X:Cx}{tg:Expr}
def iDict (tl:TE):TI:=fun σ H R=>tl σ H fun v H1=>∃ a kvs,v=.ref a/\((H1 a=some (.dK kvs)/\∀ o,R (Itd a o kvs) (upd H1 a (.kI o (.dK kvs))))\/∃ o,H1 a=some (.kI o (.dK kvs))/\R (Itd a o kvs) H1)
theorem pi_dict {l:Expr}{tl:TE}(hl:PE X l tl):PI X tg l (iDict tl):=by
 intro pins s σ H R I h
 refine fq (hl pins s σ H _ I h) fun v s1 hq=>?_
 obtain⟨x,H1,I1,r1,q1⟩:=hq
 obtain⟨a,kvs,e,q⟩:=q1
 subst e
 cases r1
 obtain⟨o,vs,ep,kv,hd,da,hs,I2,q⟩:∃ o vs ep,KV kvs vs/\(∀ h:Heap,h.get? a=some o->h.DictAt (eS X.prog X.w) a vs ep)/\s1.heap.DictAt (eS X.prog X.w) a vs ep/\(a==sysModules)=false/\Inv X pins σ (upd H1 a (.kI o (.dK kvs))) s1/\R (Itd a o kvs) (upd H1 a (.kI o (.dK kvs))):=by
  rcases q with⟨e,q⟩ | ⟨o,e,q⟩
  ·obtain⟨o,vs,ep,kv,hd,da,hs,I2⟩:=freeze I1 (.inl e)
   exact⟨o,vs,ep,kv,hd,da,hs,I2,q o⟩
  ·obtain⟨o',vs,ep,kv,hd,da,hs,I2⟩:=freeze I1 (.inr ⟨o,e⟩)
   have ho:s1.heap.get? a=some o:=(show fo X.prog X.w H1 s1.heap a (.kI o (.dK kvs))from I1.dZ a _ e).1
   have vH:s1.heap.get? a=some o':=(show fo X.prog X.w _ s1.heap a (.kI o' (.dK kvs))from I2.dZ a _ dH).1
   rw[ho]at vH
   cases vH
   have:upd H1 a (.kI o (.dK kvs))=H1:=by
    funext b
    unfold upd
    split
    ·rename_i q;rw[q,e]
    ·rfl
   exact⟨o,vs,ep,kv,hd,da,hs,I2,by rw[this];exact q⟩
 refine wpAny_pyIter_dict hs da ?_
 refine⟨s1.heap.objs.size,[s1.heap.objs.size],_,_,_,rfl,I2.kept (t':=s1.toks) fun b o e=>iV _ e,turn_dict a _ kv hd,⟨_,av _ rfl,rfl,rfl⟩,fun b hb=>?_,q⟩
 have e:b=s1.heap.objs.size:=by simpa using hb
 subst e
 exact I2.fpOk (aa _) (I2.dZ.fresh (aa _))
end
def mW:Key->D
 | .inl i=>.int i
 | .inr z=>.str z
theorem zg {φ:List Addr}{H:Hp}(k:Key):ij φ H (mW k) (kV k):=by cases k <;> rfl
def uc (μ:MS)(k:Nat):Option (List Key×List D):=match μ[k]? with | some (.hJ ks ds)=>some (ks,ds) | some (.m4 _ kvs ds)=>some (kvs.map (·.1),ds) | _=>none
theorem zB {φ:List Addr}{H:Hp}{μ:MS}{k:Nat}{ks:List Key}{ds:List D}{v:V}(M:d8 φ H μ)(i:ij φ H (.mr k) v)(h:uc μ k=some (ks,ds)):∃ p kvs,φ[k]?=some p/\v=.ref p/\Rd H p (.dK kvs)/\kvs.map (·.1)=ks/\dN φ H ds (kvs.map (·.2)):=by
 obtain⟨p,hp,rfl⟩:=i
 unfold uc at h
 split at h
 ·rename_i e;cases h
  obtain⟨q,e1,kvs,vs,h1,h2,h3,h4⟩:=M.at_ k _ e
  rw[hp]at e1;cases e1
  subst h3
  exact⟨p,kvs,hp,rfl,.inl h1,h2,h4⟩
 ·rename_i e;cases h
  obtain⟨q,e1,h1,h4⟩:=M.at_ k _ e
  rw[hp]at e1;cases e1
  exact⟨p,_,hp,rfl,.inr ⟨_,h1⟩,rfl,h4⟩
 ·cases h
theorem dval_rel {φ:List Addr}{H:Hp}{ks:List Key}:∀ {ds:List D} {kvs:List (Key×V)} (k:Key),kvs.map (·.1)=ks->dN φ H ds (kvs.map (·.2))->(oN (ks.zip ds) k=none/\lV kvs k=none)\/∃ d v,oN (ks.zip ds) k=some d/\lV kvs k=some v/\ij φ H d v:=by
 intro ds kvs
 induction kvs generalizing ks ds with
 | nil=>intro k h1 h2;cases h1;exact .inl ⟨rfl,rfl⟩
 | cons p kvs ih =>
  intro k h1 h2
  cases ks with
  | nil=>cases h1
  | cons k0 ks =>
   cases ds with
   | nil=>cases(show _=_ from h2)
   | cons d0 ds =>
    obtain⟨v,r,e,h4,h5⟩:=h2
    simp only[ah,bM]at h1 e
    obtain⟨rfl,rfl⟩:=e
    obtain⟨rfl,h1⟩:=h1
    rw[cY]
    unfold oN
    rw[br]
    by_cases hk:p.1=k
    ·simp only[hk,decide_true]
     exact .inr ⟨_,_,rfl,nX hk,h4⟩
    ·simp only[hk,decide_false]
     rw[nY hk]
     exact ih k h1 h5
theorem dput_rel {φ:List Addr}{H:Hp}{k:Key}{d:D}{v:V}(hd:ij φ H d v){kd:List (Key×D)}{kv:List (Key×V)}(e:kv.map (·.1)=kd.map (·.1))(ha:dN φ H (kd.map (·.2)) (kv.map (·.2))):(putK kv k v).map (·.1)=(dput kd k d).map (·.1)/\dN φ H ((dput kd k d).map (·.2)) ((putK kv k v).map (·.2)):=by
 have ea:(kv.any fun p=>decide (p.1=k))=kd.any fun p=>decide (p.1=k):=by
  have:(kv.map (·.1)).any (fun x=>decide (x=k))=(kd.map (·.1)).any fun x=>decide (x=k):=by rw[e]
  rw[List.any_map,List.any_map]at this
  exact this
 unfold putK dput
 rw[ea]
 by_cases q:(kd.any fun p=>decide (p.1=k))=true
 ·rw[ag q,ag q]
  clear q ea
  induction kd generalizing kv with
  | nil =>
   cases kv with
   | nil=>exact⟨rfl,rfl⟩
   | cons _ _=>cases e
  | cons p kd ih =>
   cases kv with
   | nil=>cases e
   | cons p' kv =>
    simp only[ah,bM]at e
    obtain⟨v0,r,e2,h4,h5⟩:=ha
    simp only[ah,bM]at e2
    obtain⟨rfl,rfl⟩:=e2
    obtain⟨i1,i2⟩:=ih e.2 h5
    by_cases hk:p.1=k
    ·have hk':p'.1=k:=by rw[e.1,hk]
     simp only[ah,ag hk,ag hk']
     exact⟨by rw[i1,e.1],_,_,rfl,hd,i2⟩
    ·have hk':¬ p'.1=k:=by rw[e.1];exact hk
     simp only[ah,ae hk,ae hk']
     exact⟨by rw[i1,e.1],_,_,rfl,h4,i2⟩
 ·rw[ae q,ae q,aG,aG,aG,aG]
  exact⟨by rw[e];rfl,ha.app ⟨v,[],rfl,hd,rfl⟩⟩
section
variable {X:Cx}{a b e:Expr}{pos:Pos}
def ixM (μ:MS)(j:Nat)(y:D):Option (Option D):=(uc μ j).bind fun q=>(mY y).map fun k=>oN (q.1.zip q.2) k
theorem ixM_ex {μ:MS}{j:Nat}{y:D}{o:Option D}(h:ixM μ j y=some o):∃ ks ds k,uc μ j=some (ks,ds)/\mY y=some k/\oN (ks.zip ds) k=o:=by
 unfold ixM at h
 cases e:uc μ j with
 | none=>rw[e]at h;cases h
 | some q =>
  rw[e]at h
  cases e2:mY y with
  | none=>rw[e2]at h;cases h
  | some k=>rw[e2]at h;cases h;exact⟨q.1,q.2,k,rfl,rfl,rfl⟩
def dIxKM:ue:=fun x y μ K=>match x with
 | .mr j=>∃ d,ixM μ j y=some (some d)/\K d μ
 | _=>False
def dAsgKM (w wo wi:De):Ds:=fun N ρ μ=>w ρ μ fun d dJ=>wo ρ dJ fun o eW=>wi ρ eW fun i nO=>match o with
 | .mr j=>∃ kd kd':List (Key×D),nO[j]?=some (.hJ (kd.map (·.1)) (kd.map (·.2)))/\kd.length<sizeLine/\(mY i).map (fun k=>dput kd k d)=some kd'/\N.nx ρ (nO.set j (.hJ (kd'.map (·.1)) (kd'.map (·.2))))
 | _=>False
theorem iZ {o i:Expr}{w wo wi:De}{pos':Pos}(hu:X.A.units+1<cLine)(he:PD X e w)(ho:PD X o wo)(hi:PD X i wi)(hs:swapsWith e (some (.Subscript o i pos')) pos.line X.env=pure false:=by rfl) :
 wC X (.Assign [.Subscript o i pos'] e pos) (dAsgKM w wo wi):=(ps_dput hu ho hi he hs).imp fun E σ H hq=>by
 obtain⟨φ,ρ,μ,N,A,M,w,L⟩:=hq
 refine⟨φ,ρ,μ,_,A,M,w,fun d dJ ee v1 H1 k1 f1 M1 i1=>?_⟩
 refine⟨ee,ρ,dJ,_,A.mono f1,M1,k1,fun d2 eW il v2 H2 k2 f2 M2 i2=>?_⟩
 refine⟨il,ρ,eW,_,A.mono (f1.trans f2),M2,k2,fun d3 nO yb v3 H3 k3 f3 M3 i3=>?_⟩
 cases d2 with
 | mr j =>
  obtain⟨kd,kd',em,hl,ek',k3⟩:=k3
  obtain⟨k,ek,rfl⟩:=Option.map_eq_some_iff.mp ek'
  obtain⟨p,hp,rfl⟩:=i2.mono f3
  obtain⟨p',e1,kvs,vs,hv,h1,h2,ha⟩:=M3.at_ j _ em
  rw[hp]at e1;cases e1
  subst h2
  cases mX ek i3
  have f4:Fr yb H3 yb (upd H3 p (.dK (putK kvs k v1))):=.put (zk hp)
  obtain⟨g1,g2⟩:=dput_rel (k:=k) ((i1.mono (f2.trans f3)).mono f4) h1 (ha.mono f4)
  refine⟨p,_,rfl,DPut.k hv (by have:=bI List.length h1;rw[fg,fg]at this;omega),?_⟩
  have M4:=M3.put (k:=j) (p:=p) (o:=.dK (putK kvs k v1)) (m:=.hJ ((dput kd k d).map (·.1)) ((dput kd k d).map (·.2))) hp ⟨putK kvs k v1,_,dH,g1,rfl,g2⟩
  exact L.nx ρ _ yb σ _ k3 ((f1.trans (f2.trans f3)).trans f4) (A.mono ((f1.trans (f2.trans f3)).trans f4)) M4
 | _=>exact k3.elim
def rDictC:List V->Hp->VK->Prop:=fun vs H Q=>match vs with
 | [.ref a]=>∃ kvs,Rd H a (.dK kvs)/\∀ p,H p=none->Q (.ref p) (upd H p (.dK kvs))
 | _=>False
theorem dictC:gM X (.type "dict") rDictC:=by
 intro pins s σ H xs us Q I r h
 unfold rDictC at h
 split at h
 ·rename_i a
  obtain⟨kvs,rd,q⟩:=h
  cases r with
  | cons r1 r2 =>
   cases r2
   cases r1
   exact d_copyOf I rd fun p s' hp I'=>⟨.ref p,_,I',rfl,q p hp⟩
 ·exact h.elim
end
def jnT (l1 l2:List Nat)(p:Int):List Nat:=l1.take p.toNat++l2.drop p.toNat
theorem jnT_low {l1 l2:List Nat}{p:Int}{k:Nat}(h:p<=l1.length)(hk:(k:Int)<p):(jnT l1 l2 p)[k]?=l1[k]?:=by
 unfold jnT
 rw[uD (by rw[aP];omega),List.getElem?_take,ag (by omega)]
theorem jnT_high {l1 l2:List Nat}{p:Int}{k:Nat}(h0:0<=p)(h:p<=l1.length)(hk:p<=(k:Int)):(jnT l1 l2 p)[k]?=l2[k]?:=by
 unfold jnT
 rw[p6 (by rw[aP];omega),aP,List.getElem?_drop]
 congr 1;omega
theorem jnT_len {l1 l2:List Nat}{p:Int}(h0:0<=p)(h1:p<=l1.length)(h:l1.length=l2.length):(jnT l1 l2 p).length=l1.length:=by
 unfold jnT
 rw[kH,aP,bQ];omega
theorem jnT_ox {l1 l2:List Nat}{p:Int}(h1:OX l1)(h2:OX l2):OX (jnT l1 l2 p):=fun c hc=>by
 rcases List.mem_append.mp hc with q | q
 ·exact h1 c (aO q)
 ·exact h2 c (List.mem_of_mem_drop q)
end L2
namespace L2
open PySem PySem.Spec PyProof.Rows PySem.SeqAt
end L2
namespace L2
open PySem PySem.Spec PyProof.Rows
theorem cutD_from {α:Type}(g:α->D)(ts:List α)(k:Nat):cutD (ts.map g) (some (k:Int)) none=(ts.drop k).map g:=by
 unfold cutD
 rw[HT.lr,HT.qI,fg,<- List.map_drop,<- List.map_take]
 by_cases q:k<=ts.length
 ·rw[cy q,aV (by rw[bQ];omega)]
 ·rw[cw (by omega),cw (by omega),List.take_nil]
def kQ (C:Addr)(μ:MS)(k:Nat):Option (List Str×List D):=match μ[k]? with | some (.ins C' ns ds)=>if C'=C then some (ns,ds)else none | _=>none
theorem qW {C:Addr}{μ:MS}{k:Nat}{q:List Str×List D}(h:kQ C μ k=some q):μ[k]?=some (.ins C q.1 q.2):=by
 unfold kQ at h
 split at h
 ·rename_i C' ns ds e
  by_cases z:C'=C
  ·rw[ag z]at h;cases h;rw[e,z]
  ·rw[ae z]at h;cases h
 ·cases h
theorem fF {C:Addr}{μ:MS}{k:Nat}{ns:List Str}{ds:List D}(h:μ[k]?=some (.ins C ns ds)):kQ C μ k=some (ns,ds):=by unfold kQ;rw[h];exact ag rfl
def lD (f:Str):List Str->List D->Option D
 | n::ns,d::ds=>if n=f then some d else lD f ns ds
 | _,_=>none
def putN (f:Str)(d:D):List Str->List D->List Str×List D
 | n::ns,e::ds=>if n=f then(n::ns,d::ds)else(n::(putN f d ns ds).1,e::(putN f d ns ds).2)
 | _,_=>([f],[d])
theorem qO {φ:List Addr}{H:Hp}{f:Str}{d:D}:∀ {fs:List (Str×V)} {ds:List D},dN φ H ds (fs.map (·.2))->lD f (fs.map (·.1)) ds=some d->∃ v,fs.lookup f=some v/\ij φ H d v
 | [],ds,h,e=>by cases ds <;> cases e
 | (n,x)::fs,ds,h,e=>by
  cases ds with
  | nil=>cases e
  | cons d0 ds =>
   obtain⟨v,r,e1,h1,h2⟩:=h
   simp only[ah,bM]at e1
   obtain⟨rfl,rfl⟩:=e1
   simp only[ah,lD]at e
   rw[cI]
   by_cases q:n=f
   ·rw[ag q]at e;cases e
    subst q
    exact⟨x,by simp,h1⟩
   ·rw[ae q]at e
    have:(f==n)=false:=beq_eq_false_iff_ne.mpr fun z=>q z.symm
    simp only[this]
    exact qO h2 e
theorem vC {φ:List Addr}{H:Hp}{f:Str}:∀ {fs:List (Str×V)} {ds:List D},dN φ H ds (fs.map (·.2))->lD f (fs.map (·.1)) ds=none->fs.lookup f=none
 | [],ds,h,e=>rfl
 | (n,x)::fs,ds,h,e=>by
  cases ds with
  | nil=>cases(show _=_ from h)
  | cons d0 ds =>
   obtain⟨v,r,e1,h1,h2⟩:=h
   simp only[ah,bM]at e1
   obtain⟨rfl,rfl⟩:=e1
   simp only[ah,lD]at e
   rw[cI]
   by_cases q:n=f
   ·rw[ag q]at e;cases e
   ·rw[ae q]at e
    have:(f==n)=false:=beq_eq_false_iff_ne.mpr fun z=>q z.symm
    simp only[this]
    exact vC h2 e
theorem yT {φ:List Addr}{H:Hp}{f:Str}{d:D}{v:V}(hd:ij φ H d v):∀ {fs:List (Str×V)} {ds:List D},dN φ H ds (fs.map (·.2))->(kF f v fs).map (·.1)=(putN f d (fs.map (·.1)) ds).1/\dN φ H (putN f d (fs.map (·.1)) ds).2 ((kF f v fs).map (·.2))
 | [],ds,h=>by cases ds <;> exact⟨rfl,v,[],rfl,hd,rfl⟩
 | (n,x)::fs,ds,h=>by
  cases ds with
  | nil=>cases(show _=_ from h)
  | cons d0 ds =>
   obtain⟨v',r,e1,h1,h2⟩:=h
   simp only[ah,bM]at e1
   obtain⟨rfl,rfl⟩:=e1
   simp only[kF,ah,putN]
   by_cases q:n=f
   ·rw[ag q,ag q]
    exact⟨rfl,_,_,rfl,hd,h2⟩
   ·rw[ae q,ae q]
    obtain⟨i1,i2⟩:=yT hd h2
    exact⟨by simp only[ah,i1],_,_,rfl,h1,i2⟩
section
variable {X:Cx}{a b e o:Expr}{es:List Expr}{pos:Pos}{C:Addr}
def dFld (C:Addr)(f:Str)(w:De):De:=fun ρ μ K=>w ρ μ fun x dJ=>match x with
 | .mr k=>∃ d,(kQ C dJ k).bind (fun q=>lD f q.1 q.2)=some d/\K d dJ
 | .obj C' ns ds=>C'=C/\∃ d,lD f ns ds=some d/\K d dJ
 | _=>False
theorem eG {f:Str}{w:De}(c:wL X.K C)(n:kN X.K C f)(h:PD X e w)(hb:attributeBase e f X.env (eval e X.env)=eval e X.env:=by rfl):PD X (.Attribute e f pos) (dFld C f w):=(pe_fld h hb).imp fun σ H Q hq=>by
 obtain⟨φ,ρ,μ,K,A,M,k,L⟩:=hq
 refine⟨φ,ρ,μ,_,A,M,k,fun d1 dJ ee v1 H1 k1 f1 M1 i1=>?_⟩
 cases d1 with
 | mr j =>
  obtain⟨d,e1,k1⟩:=k1
  obtain⟨q,e2,e3⟩:=Option.bind_eq_some_iff.mp e1
  obtain⟨p,hp,rfl⟩:=i1
  obtain⟨p',e4,dx,fs,h1,h2,h3⟩:=M1.at_ j _ (qW e2)
  rw[hp]at e4;cases e4
  rw[<- h2]at e3
  obtain⟨v,l,iv⟩:=qO h3 e3
  exact⟨p,C,dx,fs,v,rfl,h1,c,n,l,L _ dJ ee v H1 k1 f1 M1 iv⟩
 | obj C' ns ds =>
  obtain⟨rfl,d,e3,k1⟩:=k1
  obtain⟨p,dx,fs,vs,rfl,_,h1,h2,rfl,h3⟩:=i1
  rw[<- h2]at e3
  obtain⟨v,l,iv⟩:=qO h3 e3
  exact⟨p,_,dx,fs,v,rfl,h1,c,n,l,L _ dJ ee v H1 k1 f1 M1 iv⟩
 | _=>exact k1.elim
def dSFld (C:Addr)(f:Str)(w wo:De):Ds:=fun N ρ μ=>w ρ μ fun d dJ=>wo ρ dJ fun x eW=>match x with
 | .mr k=>∃ q q':List Str×List D,kQ C eW k=some q/\putN f d q.1 q.2=q'/\q.1.length<1000/\N.nx ρ (eW.set k (.ins C q'.1 q'.2))
 | _=>False
theorem ve {f:Str}{w wo:De}{pos':Pos}(c:wL X.K C)(n:kN X.K C f)(he:PD X e w)(ho:PD X o wo)(hs:swapsWith e (some (.Attribute o f pos')) pos.line X.env=pure false:=by rfl):wC X (.Assign [.Attribute o f pos'] e pos) (dSFld C f w wo) :=
 (ps_fld ho he hs).imp fun E σ H hq=>by
 obtain⟨φ,ρ,μ,N,A,M,k,L⟩:=hq
 refine⟨φ,ρ,μ,_,A,M,k,fun d dJ ee v1 H1 k1 f1 M1 i1=>?_⟩
 refine⟨ee,ρ,dJ,_,A.mono f1,M1,k1,fun d2 eW il v2 H2 k2 f2 M2 i2=>?_⟩
 cases d2 with
 | mr j =>
  obtain⟨q,_,e2,rfl,hl,k2⟩:=k2
  obtain⟨p,hp,rfl⟩:=i2
  obtain⟨p',e4,dx,fs,h1,h2,h3⟩:=M2.at_ j _ (qW e2)
  rw[hp]at e4;cases e4
  have f4:Fr il H2 il (upd H2 p (.ins C dx (kF f v1 fs))):=.put (zk hp)
  obtain⟨g1,g2⟩:=yT (f:=f) ((i1.mono f2).mono f4) (h3.mono f4)
  rw[h2]at g1 g2
  refine⟨p,C,dx,fs,rfl,h1,c,n,by rw[<- h2,fg]at hl;exact hl,?_⟩
  exact L.nx ρ _ il σ _ k2 ((f1.trans f2).trans f4) (A.mono ((f1.trans f2).trans f4)) (M2.put hp ⟨dx,_,dH,g1,g2⟩)
 | _=>exact k2.elim
structure wH (P:Program)(w:World)(K:PySem.W.Frag)(mg:Str->Option Value)(base:Heap)(C:Addr)(m:Str)(k:Nat)(ps:List Str)(sp:Sp):Prop where
 ex:∃ f fd,d7 P w K mg base jr k f fd ps sp/\Meth K C m f/\Binds K fd ps []
def sZ (C:Addr)(m:Str)(μ:MS):D->Prop
 | .mr k=>(kQ C μ k).map (fun q=>lD m q.1 q.2)=some none
 | .obj C' ns es=>C'=C/\lD m ns es=none
 | _=>False
theorem vg {m:Str}{φ:List Addr}{H:Hp}{μ:MS}{d:D}{v:V}(M:d8 φ H μ)(i:ij φ H d v)(h:sZ C m μ d):∃ p dx fs,v=.ref p/\H p=some (.ins C dx fs)/\fs.lookup m=none:=by
 cases d with
 | mr j =>
  obtain⟨q,e2,e3⟩:=Option.map_eq_some_iff.mp (show(kQ C μ j).map (fun q=>lD m q.1 q.2)=some none from h)
  obtain⟨p,hp,rfl⟩:=i
  obtain⟨p',e4,dx,fs,h1,h2,h3⟩:=M.at_ j _ (qW e2)
  rw[hp]at e4;cases e4
  rw[<- h2]at e3
  exact⟨p,dx,fs,rfl,h1,vC h3 e3⟩
 | obj C' ns es =>
  obtain⟨rfl,e3⟩:=(show C'=C/\lD m ns es=none from h)
  obtain⟨p,dx,fs,vs0,rfl,_,h1,h2,rfl,h3⟩:=i
  rw[<- h2]at e3
  exact⟨p,dx,fs,rfl,h1,vC h3 e3⟩
 | _=>exact(show False from h).elim
def dMeth (C:Addr)(m:Str)(f:iN)(wo:De)(w:DA):De:=fun ρ μ K=>wo ρ μ fun x dJ=>sZ C m dJ x/\w ρ dJ fun ds eW=>f (x::ds) eW K
theorem tD_meth {m:Str}{f:iN}{wo:De}{w:DA}{σ:St}{H:Hp}{Q:VK}(h:tD (dMeth C m f wo w) σ H Q):tMeth C m (gv f) [] E0 (tD wo) (tDA w) σ H Q:=by
 obtain⟨φ,ρ,μ,K,A,M,k,L⟩:=h
 refine⟨φ,ρ,μ,_,A,M,k,fun d1 dJ ee v1 H1 k1 f1 M1 i1=>?_⟩
 obtain⟨p,dx,fs,rfl,h1,h2⟩:=vg M1 i1 k1.1
 refine⟨p,dx,fs,rfl,h1,h2,ee,ρ,dJ,_,A.mono f1,M1,k1.2,fun ds eW il vs H2 k2 f2 M2 i2=>?_⟩
 show gv f (.ref p::(vs++[])) H2 Q E0
 rw[aN]
 exact⟨il,d1::ds,eW,K,⟨_,vs,rfl,ij.mono f2 i1,i2⟩,M2,k2,L.mono (f1.trans f2)⟩
theorem d_meth {m:Str}{f:iN}{wo:De}{w:DA}{apos:Pos}{pl:Sem Bool}{k:Nat}{ps:List Str}(CM:wH X.prog X.w X.K X.mg X.base C m k ps (gv f))(c:wL X.K C)(hr:gD k X.A)(ho:PD X o wo)(ha:tY X (e::es) w)
 (hst:starEach (e::es) X.env=(false,eval e X.env)::starEach es X.env:=by rfl) (kh:(backTo pos (starEach es X.env)).any (·.1)=false:=by rfl)
 (ht:eval (.Call (.Attribute o m apos) (e::es) [] pos) X.env=(do
   let ov <- eval o X.env
   standAt apos.atName
   let (f,first) <- holding [ov] (getMethod ov m pl)
   callWith pos f first (backTo pos (starEach (e::es) X.env)) (backToKw pos (keywordEach [] X.env))):=by rfl) :
 PD X (.Call (.Attribute o m apos) (e::es) [] pos) (dMeth C m f wo w):=by
 obtain⟨f',fd,F,hm,hb⟩:=CM.ex
 exact(yW ho c hm F hr hb .nil pass0 ha hst kh ht).imp fun σ H Q hq=>tD_meth hq
theorem gh {m:Str}{f:iN}{wo:De}{apos:Pos}{pl:Sem Bool}{k:Nat}{ps:List Str}(CM:wH X.prog X.w X.K X.mg X.base C m k ps (gv f))(c:wL X.K C)(hr:gD k X.A)(ho:PD X o wo)
 (ht:eval (.Call (.Attribute o m apos) [] [] pos) X.env=(do
   let ov <- eval o X.env
   standAt apos.atName
   let (f,first) <- holding [ov] (getMethod ov m pl)
   callWith pos f first (backTo pos (starEach [] X.env)) (backToKw pos (keywordEach [] X.env))):=by rfl) :
 PD X (.Call (.Attribute o m apos) [] [] pos) (dMeth C m f wo dNil):=by
 obtain⟨f',fd,F,hm,hb⟩:=CM.ex
 refine(pe_meth0 ho c hm F hr hb .nil pass0 ht).imp fun σ H Q hq=>?_
 obtain⟨φ,ρ,μ,K,A,M,k,L⟩:=hq
 refine⟨φ,ρ,μ,_,A,M,k,fun d1 dJ ee v1 H1 k1 f1 M1 i1=>?_⟩
 obtain⟨p,dx,fs,rfl,h1,h2⟩:=vg M1 i1 k1.1
 exact⟨p,dx,fs,rfl,h1,h2,ee,[d1],dJ,K,⟨_,[],rfl,i1,rfl⟩,M1,k1.2,L.mono f1⟩
structure CalI (P:Program)(w:World)(K:PySem.W.Frag)(mg:Str->Option Value)(base:Heap)(x:Str)(C:Addr)(k:Nat)(ps:List Str)(sp:Sp):Prop where
 ex:∃ f fd,d7 P w K mg base jr k f fd ps sp/\Mk K C f/\mg x=some (.ref C)/\Binds K fd ps []
def dMake (C:Addr)(f:iN)(w:DA):De:=fun ρ μ K=>w ρ μ fun ds dJ=>f (.mr dJ.length::ds) (dJ++[.ins C [] []]) fun d eW=>d=.fH/\K (.mr dJ.length) eW
theorem tD_make {f:iN}{w:DA}{σ:St}{H:Hp}{Q:VK}(h:tD (dMake C f w) σ H Q):tMake C (gv f) [] E0 (tDA w) σ H Q:=by
 obtain⟨φ,ρ,μ,K,A,M,k,L⟩:=h
 refine⟨φ,ρ,μ,_,A,M,k,fun ds dJ ee vs H1 k1 f1 M1 i1 x dx hx hdx ne=>?_⟩
 have S1:gd H1 (upd H1 dx (.own x)):=gd.upd hdx
 have hx':upd H1 dx (.own x) x=none:=by rw[dR (bb ne)];exact hx
 have fa:Fr ee H1 ee (upd H1 dx (.own x)):=.same S1
 obtain⟨M2,f2⟩:=(M1.same S1).snoc (m:=.ins C [] []) (o:=.ins C dx []) hx' ⟨dx,[],dH,rfl,rfl⟩
 have f3:=fa.trans f2
 have hin:ij (ee++[x]) (upd (upd H1 dx (.own x)) x (.ins C dx [])) (.mr dJ.length) (.ref x):=⟨x,by rw[p6 (by rw[M1.len];exact aa _),M1.len,aR];rfl,rfl⟩
 show gv f (.ref x::(vs++[])) _ _ E0
 rw[aN]
 refine⟨ee++[x],.mr dJ.length::ds,dJ++[.ins C [] []],_,⟨_,vs,rfl,hin,i1.mono f3⟩,M2,k1,fun d nO yb v H3 k3 f4 M3 i3=>?_⟩
 obtain⟨rfl,k3⟩:=k3
 exact⟨i3,L _ nO yb _ H3 k3 ((f1.trans f3).trans f4) M3 (hin.mono f4)⟩
theorem oP {x:Str}{f:iN}{w:DA}{p:Pos}{k:Nat}{ps:List Str}(CI:CalI X.prog X.w X.K X.mg X.base x C k ps (gv f))(hr:gD (k+1) X.A)(hg:Gl X x)(ha:tY X (e::es) w)
 (sC:(x==("__debug__" : Str))=false:=by decide) (he:starEach (e::es) X.env=(false,eval e X.env)::starEach es X.env:=by rfl) (kh:(backTo pos (starEach es X.env)).any (·.1)=false:=by rfl) :
 PD X (.Call (.Name x p) (e::es) [] pos) (dMake C f w):=by
 obtain⟨f',fd,F,M,hm,hb⟩:=CI.ex
 exact(pe_make M F hr hg hm hb .nil pass0 ha sC he kh).imp fun σ H Q hq=>tD_make hq
theorem fC {P:Program}{w:World}{K:PySem.W.Frag}{mg:Str->Option Value}{base h:Heap}{x q:Str}{st:Stmt}{f:Addr}{fd:FuncData}{k:Nat}{ps:List Str}{sp:Sp}(G:K.In h)(N:h.Ns mainGlobals mg)(F:gG K x q st f fd)(ok:d7 P w K mg base jr k f fd ps sp)(hb:Binds K fd ps [])
 (a:PySem.W.nsIn K mainGlobals x=some (some (.ref f)):=by kernel_rfl):o3 P w K mg base x k ps sp:=⟨f,fd,ok,aT G N a,F.kp,hb⟩
theorem lI {P:Program}{w:World}{K:PySem.W.Frag}{mg:Str->Option Value}{base:Heap}{C:Addr}{x q:Str}{st:Stmt}{f:Addr}{fd:FuncData}{k:Nat}{ps:List Str}{sp:Sp}(F:gG K x q st f fd)(ok:d7 P w K mg base jr k f fd ps sp)(hb:Binds K fd ps [])
 (a:PySem.W.findIn K (.ref C) x=some (some (.ref f)):=by kernel_rfl) (i:PySem.W.isFn K (.ref f)=true:=by kernel_rfl):wH P w K mg base C x k ps sp:=⟨f,fd,ok,⟨a,i,F.kp⟩,hb⟩
theorem cali_of {P:Program}{w:World}{K:PySem.W.Frag}{mg:Str->Option Value}{base h:Heap}{C:Addr}{y q:Str}{st:Stmt}{f:Addr}{fd:FuncData}{k:Nat}{ps:List Str}{sp:Sp}(G:K.In h)(N:h.Ns mainGlobals mg)(F:gG K "__init__" q st f fd)(ok:d7 P w K mg base jr k f fd ps sp)(hb:Binds K fd ps [])
 (n:PySem.W.nsIn K mainGlobals y=some (some (.ref C)):=by kernel_rfl) (a:PySem.W.findIn K (.ref C) "__init__"=some (some (.ref f)):=by kernel_rfl) (i:PySem.W.isFn K (.ref f)=true:=by kernel_rfl) (m:PySem.W.makesIn K C=true:=by kernel_rfl) (p:PySem.W.keepIn K (.ref C)=true:=by kernel_rfl):CalI P w K mg base y C k ps sp:=⟨f,fd,ok,⟨m,a,i,p⟩,aT G N n,hb⟩
end
def bmN:List Str:=["places", "rows", "tables", "whole", "counts"]
abbrev At (g:Heap)(b:Addr):Prop:=∃ u,g.get? b=some u
structure Kp (g:Heap)(l:List Env)(h h':Heap):Prop where
 other:∀ b o,h.get? b=some o->At g b->b∉xi l->h'.get? b=some o
 slot:∀ b o,h.get? b=some o->At g b->b∈xi l->∃ sl,h'.get? b=some { o with slots:=sl}
theorem Kp.trans {g:Heap}{l:List Env}{h1 h2 h3:Heap}(a:Kp g l h1 h2)(b:Kp g l h2 h3):Kp g l h1 h3 :=
 ⟨fun c o q lt hc=>b.other c o (a.other c o q lt hc) lt hc,fun c o q lt hc=>by
  obtain⟨sl,e⟩:=a.slot c o q lt hc
  obtain⟨sl',e'⟩:=b.slot c _ e lt hc
  exact⟨sl',e'⟩⟩
theorem Kp.any {g:Heap}{l:List Env}{h h':Heap}(a:Kp g l h h'){b:Addr}{o:Obj}(q:h.get? b=some o)(lt:At g b):∃ sl,h'.get? b=some { o with slots:=sl}:=by
 by_cases hb:b∈xi l
 ·exact a.slot b o q lt hb
 ·exact⟨o.slots,a.other b o q lt hb⟩
theorem Kp.of {g:Heap}{l:List Env}{h h':Heap}(k:∀ b o,h.get? b=some o->At g b->h'.get? b=some o):Kp g l h h':=⟨fun b o q lt _=>k b o q lt,fun b o q lt _=>⟨o.slots,k b o q lt⟩⟩
abbrev Gk (g h:Heap):Prop:=∀ b,At g b->At h b
theorem Kp.gk {g:Heap}{l:List Env}{h h':Heap}(a:Kp g l h h')(k:Gk g h):Gk g h':=fun b hb=>by
 obtain⟨o,e⟩:=k b hb
 obtain⟨sl,e'⟩:=a.any e hb
 exact⟨_,e'⟩
theorem Gk.fresh {g h:Heap}(k:Gk g h):g.get? h.objs.size=none:=by
 cases q:g.get? h.objs.size with
 | none=>rfl
 | some o=>obtain⟨o',e⟩:=k _ ⟨o,q⟩;exact absurd (jj e) (bt _)
theorem at_ne {g:Heap}{b c:Addr}(h:At g b)(hc:g.get? c=none):c≠b:=fun z=>by obtain⟨u,e⟩:=h;rw[<- z,hc]at e;cases e
def z7 (g:Heap)(e:Addr)(cls fl:Value)(h:Heap):Prop:=∃(oe:Obj) (vs:Array Value) (T:Addr) (oT:Obj) (ts:Array Value),(h.get? e=some oe/\(oe.cls=cls/\oe.dict=none)/\oe.data=.fields vs/\vs[1]?=some (.ref T)/\vs[2]?=some .none)/\(g.get? T=none/\T≠e/\h.get? T=some oT/\oT.data=.fields ts/\ts[3]?=some fl)/\g.get? e=none
section
variable {M:Model}{A:Around}{E:Value->Shared->Prop}{s:Shared}
theorem xP {base:Heap}{env:Env}{outer:List Env}{L e:Addr}{oe:Obj}{vs:Array Value}{head:Value}{hadNext:Bool}{g:Heap}{Q:Unit->Shared->Prop}
 (hfr:A.frames=some (env::outer)) (hl:s.heap.FunFrames base (env::outer)) (hf:env.frame=some L) (he:s.heap.get? e=some oe) (hdi:oe.dict=none) (hd:oe.data=.fields vs) (h1:1<vs.size) (h2:vs[2]?=some .none) (hn:g.get? e=none) (hs:Gk g s.heap)
 (h:∀ h',z7 g e oe.cls (rawInt L) h'->Kp g (env::outer) s.heap h'->Q () { s with heap:=h'}) :
 wpAny M A (do let a <- frameOf env;let pl <- entryPlaceOf L hadNext;let b <- EntryCells.newEntry head a .none (rawInt L) .none pl;setField (.ref e) 1 b) Q E s:=by
 have hene:e∉(env::outer).filterMap (·.frame):=fun hm=>by
  obtain⟨_,o,ho,hnf⟩:=hl.mem hm
  rw[he]at ho;injection ho with ho;subst ho;exact hnf vs hd
 refine dY (wpAny_frameOf_fun hfr hl hf fun m x=>?_)
 refine dY (wpAny_entryPlaceOf fun pl kh=>?_)
 unfold EntryCells.newEntry newFields
 refine dY (aY ?_ (kh.sizeOk5 _ _ _ _ _))
 obtain⟨rec,hrec⟩:∃ rec:Obj,rec={ cls:=.type "traceback",dict:=none,data:=.fields ([head,.ref L,.none,rawInt L,.none]++(if pl.isEmpty then List.replicate 6 Value.none else pl)).toArray}:=⟨_,rfl⟩
 rw[<- hrec]
 have e1:m.get? e=some oe:=(x.2.1 e hene).trans he
 have e2:=iV rec e1
 have hT:(m.push rec).get? m.objs.size=some rec:=av m (by rw[hrec];rfl)
 have hTe:m.objs.size≠e:=bg (jj e1)
 have hd3:=cX hd (·.setIfInBounds 1 (Value.ref m.objs.size))
 have e3:=b8 (Obj.mapFields (·.setIfInBounds 1 (Value.ref m.objs.size))) e2 (Obj.isFreed_of_fields hd3)
 refine cD e2 hd h1 (h _ ⟨_,_,m.objs.size,rec,_,⟨e3,⟨Obj.cls_mapFields _ _,by show(Obj.mapFields _ oe).dict=none;unfold Obj.mapFields;split <;> exact hdi⟩,hd3,by simp[h1],by rw[Array.getElem?_setIfInBounds_ne (by decide)];exact h2⟩,⟨by rw[x.1];exact hs.fresh,hTe,?_,by rw[hrec],?_⟩,hn⟩ ⟨fun b o q lt hb=>?_,fun b o q lt hb=>?_⟩)
 ·rw[bj _ _ (bb hTe)];exact hT
 ·first | (simp;done) | (rcases kh with rfl | ⟨_,_,_,_,_,_,_,rfl⟩<;> simp)
 ·rw[bj _ _ (at_ne lt hn)]
  exact iV _ ((x.2.1 b hb).trans q)
 ·obtain⟨sl,q'⟩:=x.2.2 b o q
  exact⟨sl,by rw[bj _ _ (at_ne lt hn)];exact iV _ q'⟩
theorem note_first {base:Heap}{env:Env}{outer:List Env}{L e:Addr}{oe:Obj}{vs:Array Value}{g:Heap}{Q:Unit->Shared->Prop}
 (hfr:A.frames=some (env::outer)) (hl:s.heap.FunFrames base (env::outer)) (hf:env.frame=some L) (he:s.heap.get? e=some oe) (hdi:oe.dict=none) (hd:oe.data=.fields vs) (h1:vs[1]?=some .none) (h2:vs[2]?=some .none) (hn:g.get? e=none) (hs:Gk g s.heap)
 (h:∀ h',z7 g e oe.cls (rawInt L) h'->Kp g (env::outer) s.heap h'->Q () { s with heap:=h'}):wpAny M A (noteFrame (.ref e) env) Q E s:=by
 unfold noteFrame
 simp only[hf]
 refine dY (aS he hd h1 ?_)
 rw[ae (by decide)]
 exact xP hfr hl hf he hdi hd (Array.getElem?_eq_some_iff.mp h1).1 h2 hn hs h
theorem xF {base:Heap}{env:Env}{outer:List Env}{L e:Addr}{cls:Value}{g:Heap}{Q:Unit->Shared->Prop}
 (hfr:A.frames=some (env::outer)) (hl:s.heap.FunFrames base (env::outer)) (hf:env.frame=some L) (hs:Gk g s.heap) (x:z7 g e cls .none s.heap)
 (h:∀ h',z7 g e cls (rawInt L) h'->Kp g (env::outer) s.heap h'->Q () { s with heap:=h'}):wpAny M A (noteFrame (.ref e) env) Q E s:=by
 obtain⟨oe,vs,T,oT,ts,⟨he,hc,hd,h1,h2⟩,⟨hn,hTe,hT,hdT,h3⟩,hne⟩:=x
 unfold noteFrame
 simp only[hf]
 refine dY (aS he hd h1 ?_)
 rw[ag (show(Value.ref T != Value.none)=true from by simp)]
 refine dY (aS hT hdT h3 ?_)
 rw[ae (show ¬ ((Value.none==rawInt L)=true)from by simp[rawInt])]
 refine dY (cD hT hdT (Array.getElem?_eq_some_iff.mp h3).1 ?_)
 have other:∀ b,b≠T->(s.heap.update T (Obj.mapFields (·.setIfInBounds 3 Value.none))).get? b=s.heap.get? b:=fun b hb=>bj _ _ (bb hb)
 have ff:(s.heap.update T (Obj.mapFields (·.setIfInBounds 3 Value.none))).FunFrames base (env::outer):=hl.of_keeps fun b o q nf=>⟨o,(other b fun z=>by rw[z,hT]at q;cases q;exact nf _ hdT).trans q,rfl⟩
 have k0:Kp g (env::outer) s.heap (s.heap.update T (Obj.mapFields (·.setIfInBounds 3 Value.none))):=Kp.of fun b o q lt=>(other b (bb (at_ne lt hn))).trans q
 exact xP (g:=g) hfr ff hf ((other e (bb hTe)).trans he) hc.2 hd (Array.getElem?_eq_some_iff.mp h1).1 h2 hne (k0.gk hs) fun h' a k=>h h' (hc.1▸a) (k0.trans k)
theorem lF {l:List Env}{e:Addr}{cls fl:Value}{g:Heap}{Q:Unit->Shared->Prop}(x:z7 g e cls fl s.heap)
 (h:∀ h',z7 g e cls .none h'->Kp g l s.heap h'->(∀ b o,s.heap.get? b=some o->(∀ vs,o.data≠.fields vs)->h'.get? b=some o)->Q () { s with heap:=h'}):wpAny M A (setFlight (.ref e) none) Q E s:=by
 obtain⟨oe,vs,T,oT,ts,⟨he,hc,hd,h1,h2⟩,⟨hn,hTe,hT,hdT,h3⟩,hne⟩:=x
 unfold setFlight
 refine dY (aS he hd h1 ?_)
 rw[ag (show(Value.ref T != Value.none)=true from by simp)]
 have h3s:=(Array.getElem?_eq_some_iff.mp h3).1
 have hd3:=cX hdT (·.setIfInBounds 3 ((none:Option Addr).elim Value.none fun f=>rawInt f))
 have other:∀ b,b≠T->(s.heap.update T (Obj.mapFields (·.setIfInBounds 3 ((none:Option Addr).elim Value.none fun f=>rawInt f)))).get? b=s.heap.get? b:=fun b hb=>bj _ _ (bb hb)
 refine cD hT hdT h3s (h _ ⟨oe,vs,T,_,_,⟨(other e (bb hTe)).trans he,hc,hd,h1,h2⟩,⟨hn,hTe,b8 _ hT (Obj.isFreed_of_fields hd3),hd3,by simp[h3s]⟩,hne⟩ (Kp.of fun b o q lt=>(other b (bb (at_ne lt hn))).trans q) fun b o q nf=>(other b fun z=>by rw[z,hT]at q;cases q;exact nf _ hdT).trans q)
end
def mB (P:Program)(w:World):CXT:=fun outer H s E ev s'=>∃(e:Addr) (cls:Value) (H':Hp) (g:Heap),ev=.ref e/\s'.os=s.os/\AllBare s'.gens/\Un (xi outer) [] H H' s.heap s'.heap/\nu P w H' s'.heap/\(Gk s.heap g/\(∀ b,H' b≠none->At g b)/\Gk g s'.heap)/\z7 g e cls .none s'.heap/\E cls none H'
theorem at_of {P:Program}{w:World}{H:Hp}{h:Heap}{a:Addr}{o:HO}(x:nu P w H h)(e:H a=some o):At h a:=by
 have x:=x a o e
 cases o with
 | lst xs=>obtain⟨_,_,_,_,e⟩:=x;exact⟨_,e⟩
 | tup xs=>obtain⟨_,_,_,_,e,_⟩:=x;exact⟨_,e⟩
 | dK kvs=>obtain⟨_,_,_,_,o,_,_,e,_⟩:=x;exact⟨_,e⟩
 | dT kvs=>obtain⟨_,_,_,_,o,_,_,e,_⟩:=x;exact⟨_,e⟩
 | set S n=>obtain⟨o,_,_,_,e,_⟩:=x;exact⟨_,e⟩
 | ins C dx fs=>obtain⟨_,_,_,e,_⟩:=x;exact⟨_,e⟩
 | own y=>obtain⟨_,e⟩:=x;exact⟨_,e⟩
 | xd fs=>obtain⟨_,⟨_,_,_,e,_⟩,_⟩:=x;exact⟨_,e⟩
 | rng lo hi=>obtain⟨_,_,_,e⟩:=x;exact⟨_,e⟩
 | kI ob u=>obtain⟨e,_⟩:=x;exact⟨_,e⟩
 | tbl ps=>exact⟨_,(show h.get? a=some _ from x)⟩
 | met f y=>exact⟨_,(show h.get? a=some _ from x)⟩
 | ext φ=>obtain⟨_,⟨_,e⟩,_⟩:=x;exact⟨_,e⟩
theorem hok_kp {P:Program}{w:World}{g h h':Heap}{l:List Env}{H:Hp}(x:nu P w H h)(hb:∀ b,H b≠none->At g b/\b∉xi l)(k:Kp g l h h'):nu P w H h':=fun a o e =>
 (x a o e).uU (fun b u hb' q=>by
   have hn:H b≠none:=by rcases hb' with rfl | z <;> intro y <;> simp_all
   exact k.other b u q (hb b hn).1 (hb b hn).2) (fun _ q=>q) fun _ _ q=>q
section
variable {X:Cx}{pins:List (Addr×Obj)}{σ:St}{H H':Hp}{s:Shared}{g h1 h2:Heap}
theorem Inv.exit (I:Inv X pins σ H s)(hx:X.ex=[])(u:Un (xi X.stack) [] H H' s.heap h1)(hg:Gk s.heap g)(k:Kp g X.stack h1 h2):Un X.fs [] X.H₀ H' X.s₀.heap h2:=by
 have nx:∀ b,b∉X.ex:=fun b z=>by rw[hx]at z;cases z
 have nn:∀ b:Addr,b∉([]:List Addr):=fun b z=>by cases z
 have atg:∀ b o,X.s₀.heap.get? b=some o->At g b:=fun b o e=>by
  obtain⟨o',e'⟩:=I.base.there b o e (nx b)
  exact hg b ⟨o',e'⟩
 refine⟨fun b o e n hb _=>?_,fun b o e n hb _=>?_,fun b o e n _=>?_,fun b o e _=>?_,fun b xs e=>u.n6 b xs (I.base.n6 b xs e),fun b o xs e=>u.nQ b o xs (I.base.nQ b o xs e),fun b ps e=>?_⟩
 ·have e1:=I.base.keep b o e n hb (nx b)
  have n1:=I.base.free b o e n (nx b)
  have hs:b∉xi X.stack:=fun z=>by
   rcases List.mem_cons.mp (I.uT b z)with y | y
   ·exact absurd y (aB (aq (jj e) I.ok.above))
   ·exact hb y
  exact k.other b o (u.keep b o e1 n1 hs (nn b)) (atg b o e) hs
 ·obtain⟨sl,e1⟩:=I.base.slot b o e n hb (nx b)
  have n1:=I.base.free b o e n (nx b)
  obtain⟨sl2,e2⟩:=u.any e1 n1 (nn b)
  obtain⟨sl3,e3⟩:=k.any e2 (atg b o e)
  exact⟨sl3,e3⟩
 ·obtain⟨o',e1⟩:=I.base.there b o e (nx b)
  exact u.free b o' e1 (I.base.free b o e n (nx b)) (nn b)
 ·obtain⟨o',e1⟩:=I.base.there b o e (nx b)
  obtain⟨o2,e2⟩:=u.there b o' e1 (nn b)
  obtain⟨sl,e3⟩:=k.any e2 (atg b o e)
  exact⟨_,e3⟩
 ·obtain⟨m1,e1⟩:=I.base.oa b ps e
  obtain⟨m2,e2⟩:=u.oa b _ e1
  exact⟨m1++m2,by rw[e2,Array.append_assoc]⟩
end
section
variable {P:Program}{w:World}{K:PySem.W.Frag}{mg:Str->Option Value}{base:Heap}{N:List Str}{qual:Str}{scope:Scope}{f:Addr}{cd:Value}{A:Around}{outer:List Env}{s₀ s:Shared}{H₀ H:Hp}{E:XK}{pins:List (Addr×Obj)}{σ:St}
theorem flies:Passes (mB P w) (nR (mB P w) P w K mg base N qual scope f cd A outer s₀ H₀ E) E:=fun pins σ H s ev s' I c=>by
 obtain⟨e,cls,H',g,rfl,os,bare,un,dZ,⟨g1,g2,g3⟩,ex,hE⟩:=c
 have I2:=I.xT (s':=s') (ch:=[]) os un dZ bare (fun b z=>absurd z (by simp))
 have hfr:(nR (mB P w) P w K mg base N qual scope f cd A outer s₀ H₀ E).A.frames=some (envOfC qual scope s₀.heap.objs.size f cd::outer):=I.ok.frames
 show wpAny _ _ (leaving _ (.ref e)) _ _ s'
 unfold leaving
 refine dY (xF hfr I2.stack rfl g3 ex fun h1 x1 k1=>?_)
 refine lF (l:=envOfC qual scope s₀.heap.objs.size f cd::outer) x1 fun h2 x2 k2 _=>?_
 have k:=k1.trans k2
 exact⟨e,cls,H',g,rfl,os.trans I.os,bare,I.exit rfl un g1 k,hok_kp dZ (fun b hb=>⟨g2 b hb,fun z=>hb (I2.o8 b z)⟩) k,⟨fun b hb=>by
  obtain⟨o,e0⟩:=hb
  obtain⟨o',e1⟩:=I.base.there b o e0 (by simp[nR])
  exact g1 b ⟨o',e1⟩,g2,k.gk g3⟩,x2,hE⟩
theorem raises {h':Heap}{e:Addr}{cls:Value}{vs:List Value}(I:Inv (nR (mB P w) P w K mg base N qual scope f cd A outer s₀ H₀ E) pins σ H s)(x:Heap.MadeExcOf s.heap h' e cls vs)(hE:E cls none H):(nR (mB P w) P w K mg base N qual scope f cd A outer s₀ H₀ E).xe (.ref e) { s with heap:=h'}:=by
 have hfr:(nR (mB P w) P w K mg base N qual scope f cd A outer s₀ H₀ E).A.frames=some (envOfC qual scope s₀.heap.objs.size f cd::outer):=I.ok.frames
 obtain⟨t,he,htn,ht⟩:=x.there
 have ff:h'.FunFrames base (envOfC qual scope s₀.heap.objs.size f cd::outer):=(show s.heap.FunFrames base _ from I.stack).of_keeps fun b o q _=>⟨o,x.keeps b o q,rfl⟩
 have gk:Gk s.heap h':=fun b p4=>by obtain⟨o,q⟩:=p4;exact⟨o,x.keeps b o q⟩
 show wpAny _ _ (leaving _ (.ref e)) _ _ _
 unfold leaving
 refine dY (note_first (s:={ s with heap:=h'}) (g:=s.heap) hfr ff rfl he rfl rfl rfl rfl x.new gk fun h1 x1 k1=>?_)
 refine lF (l:=envOfC qual scope s₀.heap.objs.size f cd::outer) x1 fun h2 x2 k2 _=>?_
 have k:=k1.trans k2
 have un:Un (xi (envOfC qual scope s₀.heap.objs.size f cd::outer)) [] H H s.heap h':=Un.kept x.keeps
 have dZ:nu P w H h':=(show nu P w H s.heap from I.dZ).kept x.keeps
 refine⟨e,cls,H,s.heap,rfl,I.os,I.bare,I.exit rfl un (fun b hb=>hb) k,hok_kp dZ (fun b hb=>⟨?_,fun z=>hb (I.o8 b z)⟩) k,⟨fun b hb=>?_,fun b hb=>?_,k.gk gk⟩,x2,hE⟩
 ·cases q:H b with
  | none=>exact absurd q hb
  | some o=>exact at_of (show nu P w H s.heap from I.dZ) q
 ·obtain⟨o,e0⟩:=hb
  obtain⟨o',e1⟩:=I.base.there b o e0 (by simp[nR])
  exact⟨o',e1⟩
 ·cases q:H b with
  | none=>exact absurd q hb
  | some o=>exact at_of (show nu P w H s.heap from I.dZ) q
end
abbrev DX:=Value->MS->Prop
def rT (φ:List Addr)(H:Hp)(Kx:DX)(E:XK):Prop:=∀ c μ' eB H',Kx c μ'->Fr φ H eB H'->d8 eB H' μ'->E c none H'
theorem rT.mono {φ ee:List Addr}{H H1:Hp}{Kx:DX}{E:XK}(h:rT φ H Kx E)(f:Fr φ H ee H1):rT ee H1 Kx E:=fun c μ' eB H' k g M=>h c μ' eB H' k (f.trans g) M
abbrev iM:=List D->MS->DK->DX->Prop
def jt (f:iM):Sp:=fun vs H Q E=>∃ φ ds μ K Kx,dN φ H ds vs/\d8 φ H μ/\f ds μ K Kx/\sQ φ H K Q/\rT φ H Kx E
structure rV (P:Program)(w:World)(K:PySem.W.Frag)(mg:Str->Option Value)(base:Heap)(x:Str)(k:Nat)(ps:List Str)(sp:Sp):Prop where
 ex:∃ f fd,d7 P w K mg base (mB P w) k f fd ps sp/\mg x=some (.ref f)/\PySem.W.keepIn K (.ref f)=true/\Binds K fd ps []
structure Rz (X:Cx)(eI:List Addr)(H0:Hp)(Kx:DX):Prop where
 ex:∃ E:XK,rT eI H0 Kx E/\Passes (mB X.prog X.w) X E
structure Rm (X:Cx)(eI:List Addr)(H0:Hp)(Kx:DX):Prop where
 ex:∃ E:XK,rT eI H0 Kx E/\Passes (mB X.prog X.w) X E/\∀(pins:List (Addr×Obj)) (σ:St) (H:Hp) (s:Shared) (h':Heap) (e:Addr) (cls:Value) (vs:List Value),Inv X pins σ H s->Heap.MadeExcOf s.heap h' e cls vs->E cls none H->X.xe (.ref e) { s with heap:=h'}
theorem Rm.z {X:Cx}{eI:List Addr}{H0:Hp}{Kx:DX}(h:Rm X eI H0 Kx):Rz X eI H0 Kx:=let ⟨E,a,b,_⟩:=h.ex;⟨E,a,b⟩
theorem d8.hist {φ eI:List Addr}{H H0:Hp}{μ:MS}(M:d8 φ H μ)(e:μ[0]?=some (.gx eI H0)):Fr eI H0 φ H:=let ⟨_,_,h⟩:=M.at_ 0 _ e;h.1
theorem xp.nt {φ:List Addr}{H:Hp}{m:MO}{p:Addr}(h:xp φ H m p)(zs:List V):H p≠some (.tup zs):=fun e=>by
 cases m with
 | box=>obtain⟨q,ns,i,r,z,h1,_⟩:=h;rw[e]at h1;cases h1
 | lst ds=>obtain⟨vs,h1,_⟩:=h;rw[e]at h1;cases h1
 | hJ ks ds=>obtain⟨kvs,vs,h1,_⟩:=h;rw[e]at h1;cases h1
 | m4 o kvs ds=>have h1:=h.1;rw[e]at h1;cases h1
 | ins C ns ds=>obtain⟨dx,fs,h1,_⟩:=h;rw[e]at h1;cases h1
 | dtu ks ds=>obtain⟨kvs,h1,_⟩:=h;rw[e]at h1;cases h1
 | gx eI H0=>exact h.2.2.2 zs e
 | exc c=>rw[show _=_ from h]at e;cases e
theorem d8.ghost {φ:List Addr}{H:Hp}{μ:MS}{m:MO}(M:d8 φ H μ)(e:μ[0]?=some m):d8 φ H (μ.set 0 (.gx φ H)):=by
 have h0:0<μ.length:=(lE e).1
 refine⟨M.nd,by rw[aH];exact M.len,fun k n en=>?_⟩
 by_cases hk:k=0
 ·subst hk
  rw[az h0]at en
  cases en
  obtain⟨p,e1,e2⟩:=M.at_ 0 m e
  exact⟨p,e1,.refl _ _,rfl,e2.ex,e2.nt⟩
 ·rw[ao (bb hk)]at en
  exact M.at_ k n en
theorem d8.back {φ eB:List Addr}{H H':Hp}{μ μ':MS}{m:MO}(M:d8 φ H μ)(e:μ[0]?=some m)(M':d8 eB H' μ')(e':μ'[0]?=some (.gx φ H)):d8 eB H' (μ'.set 0 m):=by
 have h0:0<μ'.length:=(lE e').1
 refine⟨M'.nd,by rw[aH];exact M'.len,fun k n en=>?_⟩
 by_cases hk:k=0
 ·subst hk
  rw[az h0]at en
  cases en
  obtain⟨p',e1,f,hp,_⟩:=M'.at_ 0 _ e'
  obtain⟨p,e2,im⟩:=M.at_ 0 m e
  have:=f.get e2
  rw[e1]at this
  cases this
  exact⟨p',e1,im.mono f fun o q=>hp.trans q⟩
 ·rw[ao (bb hk)]at en
  exact M'.at_ k n en
def gK (eI:List Addr)(H0:Hp)(m:MO)(K:DK):DK:=fun d μ'=>μ'[0]?=some (.gx eI H0)/\K d (μ'.set 0 m)
def gX (eI:List Addr)(H0:Hp)(m:MO)(K:DX):DX:=fun c μ'=>μ'[0]?=some (.gx eI H0)/\K c (μ'.set 0 m)
theorem sQ.ghost {φ:List Addr}{H:Hp}{μ:MS}{m:MO}{K:DK}{Q:VK}(L:sQ φ H K Q)(M:d8 φ H μ)(e:μ[0]?=some m):sQ φ H (gK φ H m K) Q:=fun d μ' eB v H' ⟨e',k⟩ f M' i=>L d _ eB v H' k f (M.back e M' e') i
theorem rT.ghost {φ:List Addr}{H:Hp}{μ:MS}{m:MO}{K:DX}{Q:XK}(L:rT φ H K Q)(M:d8 φ H μ)(e:μ[0]?=some m):rT φ H (gX φ H m K) Q:=fun c μ' eB H' ⟨e',k⟩ f M'=>L c _ eB H' k f (M.back e M' e')
section
variable {X:Cx}{e:Expr}{es:List Expr}{pos:Pos}{eI:List Addr}{H0:Hp}{Kx:DX}
def dCallX (eI:List Addr)(H0:Hp)(Kx:DX)(f:iM)(w:DA):De:=fun ρ μ K=>w ρ μ fun ds dJ=>dJ[0]?=some (.gx eI H0)/\f ds dJ K Kx
theorem lH {f:iM}{w:DA}{x:Str}{p:Pos}{k:Nat}{ps:List Str}(Z:Rz X eI H0 Kx)(C:rV X.prog X.w X.K X.mg X.base x k ps (jt f))(hr:gD k X.A)(hg:Gl X x)(ha:tY X (e::es) w)
 (sC:(x==("__debug__" : Str))=false:=by decide) (he:starEach (e::es) X.env=(false,eval e X.env)::starEach es X.env:=by rfl) (kh:(backTo pos (starEach es X.env)).any (·.1)=false:=by rfl) :
 PD X (.Call (.Name x p) (e::es) [] pos) (dCallX eI H0 Kx f w):=by
 obtain⟨E,LX,hp⟩:=Z.ex
 obtain⟨f',fd,F,hm,hk,hb⟩:=C.ex
 exact(pe_call F hr hg hm hk hb .nil hp ha sC he kh).imp fun σ H Q ⟨φ,ρ,μ,K,Ee,M,w,L⟩ =>
  ⟨φ,ρ,μ,_,Ee,M,w,fun ds dJ ee vs H1 k1 f1 M1 i1=>by show jt f (vs++[]) H1 Q E;rw[aN];exact⟨ee,ds,dJ,K,Kx,i1,M1,k1.2,L.mono f1,LX.mono (M1.hist k1.1)⟩⟩
def dRaise (eI:List Addr)(H0:Hp)(Kx:DX)(C:Addr)(w:DA):Ds:=fun _ ρ μ=>w ρ μ fun ds dJ=>ds.length<=sizeLine/\dJ[0]?=some (.gx eI H0)/\Kx (.ref C) dJ
theorem ia {w:DA}{x:Str}{C:Addr}{bm bmN:List Value}{B Bn newId nid initId inN:String}{np fX:Pos}(Z:Rm X eI H0 Kx)(hc:X.calm=true)(O:OwnCls x C bm newId X.mg X.base)(Fn:ExcBaseFacts Bn newId inN bmN)(hBn:bm.contains (.type Bn)=true)
 (FB:ExcBaseFacts B nid initId bm) (hg:Gl X x) (ha:tY X (e::es) w) (hd:(x==("__debug__" : Str))=false:=by decide)
 (he:starEach (e::es) X.env=(false,eval e X.env)::starEach es X.env:=by rfl) (kh:(backTo fX (starEach es X.env)).any (·.1)=false:=by rfl) :
 wC X (.Raise (some (.Call (.Name x np) (e::es) [] fX)) none pos) (dRaise eI H0 Kx C w):=fun pins s σ H D I hq=>by
 obtain⟨φ,ρ,μ,N,A,M,k,L⟩:=hq
 obtain⟨E,LX,hp,mk⟩:=Z.ex
 obtain⟨tl,Na,nm,q,bs,hdct,sn,sub,ab,col,dd,k0,k1,k2,k3,k5,mN,hC,hN,hni,T⟩:=O.obj
 refine wpAny_Raise_call_subU (C:=C) (nm:=nm) (q:=q) (N:=Na) (bs:=bs) (bm:=tl) (hdct:=hdct) (sn:=sn) (sub:=sub) (ab:=ab) (col:=col) (dd:=dd) (k0:=k0) (k1:=k1) (k2:=k2) (k3:=k3) (k5:=k5)
  Fn hBn FB (mN:=mN) (T.hasType FB.hasBase) (I.ok.hd hc) (by rw[he];show(false||(backTo fX (starEach es X.env)).any (·.1))=false;rw[kh];rfl) hni (mV I hg O.bound ⟨rfl,?_⟩ hd)
 have h:=ha fX pins s σ H (fun vs H1=>vs.length<=sizeLine/\E (.ref C) none H1) I ⟨φ,ρ,μ,_,A,M,k,fun ds dJ ee vs H1 k1 f1 M1 i1=>⟨by rw[i1.len];exact k1.1,LX (.ref C) dJ ee H1 k1.2.2 (M1.hist k1.2.1) M1⟩⟩
 rw[he]at h ⊢
 refine Calls.evalArgs_plain (bc h (fun us s2 pH=>by obtain⟨vs,H1,I1,r1,q1⟩:=pH;exact⟨rfl,by rw[<- r1.length];exact q1.1,I1.bk _ _ hC,hN.keeps I1.bk,T.keeps I1.bk,fun h' e' mx=>mk pins σ H1 s2 h' e' _ _ I1 mx q1.2⟩) fun _ _ y=>y)
end
def FX (n:Nat)(K:DX):DX:=fun c μ'=>K c μ'\/((∀(j:Nat) (m:MO),j<n->μ'[j]?=some m->moB n m)/\K c (μ'.take n))
theorem rT.fx {φ:List Addr}{H:Hp}{μ:MS}{K:DX}{E:XK}(M:d8 φ H μ)(L:rT φ H K E):rT φ H (FX μ.length K) E:=fun c μ' eB H' k f M'=>by
 rcases k with k | ⟨hm,k⟩
 ·exact L c μ' eB H' k f M'
 ·have eφ:eB.take μ.length=φ:=by
   obtain⟨⟨ψ,rfl,_⟩,_,_⟩:=f
   rw[<- M.len,aU]
  have f0:Fr φ H (eB.take μ.length) H':=by
   rw[eφ]
   exact⟨⟨[],by simp,fun _ h=>nomatch h⟩,f.keep,f.dom⟩
  exact L c _ _ H' k f0 (M'.iD hm)
section
variable {P:Program}{w:World}{K:PySem.W.Frag}{mg:Str->Option Value}{base:Heap}
theorem gG.xg {x qual:Str}{st:Stmt}{f:Addr}{fd:FuncData}{N ps:List Str}{k:Nat}{fs:iM}(F:gG K x qual st f fd)(S:dz N ps (dn st))(len:∀ ds μ Kd Kx,fs ds μ Kd Kx->ds.length=ps.length/\∃ m,μ[0]?=some m)
 (oG:∀(fI:Value) (A:Around) (outer:List Env) (s:Shared) (H:Hp) (E:XK),gD k (A.deeper (envOfC qual (dn st) s.heap.objs.size f fI))->∀(eI:List Addr) (Kb:DX),Rm (nR (mB P w) P w K mg base N qual (dn st) f fI A outer s H E) eI H Kb ->
   ∃ W,PDB (nR (mB P w) P w K mg base N qual (dn st) f fI A outer s H E) (gg st) W/\∀ ds μ m Kd Kx,(∀(j:Nat) (m':MO),(μ.set 0 (.gx eI H))[j]?=some m'->moB (μ.set 0 (.gx eI H)).length m')->pj (μ.set 0 (.gx eI H)).length ds->μ[0]?=some m->fs ds μ Kd Kx->Kb=FX (μ.set 0 (.gx eI H)).length (gX eI H m Kx) ->
    W (retN (μ.set 0 (.gx eI H)).length (gK eI H m Kd)) (om N ds) (μ.set 0 (.gx eI H))):d7 P w K mg base (mB P w) (k+1) f fd ps (jt fs):=by
 obtain⟨oc,od,kV,doc,pm,an,fI,ct,osl,rfl,lk,xh⟩:=F.ex
 refine fn_of lk xh S (fun vs H Q E h=>?_) fun A outer s H vs Q E hr hsp=>?_
 ·obtain⟨φ,ds,μ,Kd,Kx,ha,M,hf,L,LX⟩:=h
  rw[ha.len];exact(len ds μ Kd Kx hf).1
 ·obtain⟨φ,ds,μ,Kd,Kx,ha,M,hf,L,LX⟩:=hsp
  obtain⟨_,m,em⟩:=len ds μ Kd Kx hf
  have Mg:=M.ghost em
  have Lg:=(L.ghost M em).fz Mg
  obtain⟨W,hW,q⟩:=oG fI A outer s H E hr φ (FX (μ.set 0 (.gx φ H)).length (gX φ H m Kx)) ⟨E,(LX.ghost M em).fx Mg,flies,fun pins σ H' s' h' e cls vs I x hE=>raises I x hE⟩
  refine⟨_,hW,φ,om N ds,μ.set 0 (.gx φ H),retN (μ.set 0 (.gx φ H)).length (gK φ H m Kd),.start ha,Mg,q ds μ m Kd Kx Mg.bound (by rw[<- Mg.len];exact ha.bound) em hf rfl,⟨fun ip μ' eB fO H' k' f' A' M'=>?_,Lg,fun _ _ _ _ _ k' _ _ _=>k'.elim,fun _ _ _ _ _ k' _ _ _=>k'.elim⟩⟩
  exact Lg .fH μ' eB .fH H' k' f' M' rfl
end
theorem xk:entryFor table "proto.unchain"=some Builtin.«proto.unchain»:=entryFor_of_tree (by kernel_rfl)
section
variable {prog:Program}{w:World}{A:Around}{E:Value->Shared->Prop}{s:Shared}
theorem yQ {α:Type}{e h:Addr}{oh oe:Obj}{vs ws:Array Value}{Q:α->Shared->Prop}(hh:A.handled=some (.ref h))(hne:h≠e)(ho:s.heap.get? h=some oh)(hd:oh.data=.fields vs)(h2:vs[2]?=some .none)(he:s.heap.get? e=some oe)(hde:oe.data=.fields ws)(h2e:2<ws.size)
 (hE:E (.ref e) { s with heap:=s.heap.update e (Obj.mapFields (·.setIfInBounds 2 (.ref h)))}):wpAny (model prog w) A (raiseNew (.ref e):Sem α) Q E s:=by
 unfold raiseNew
 refine dY (wpAny_handled ?_)
 rw[hh]
 dsimp only
 rw[ag (show(Value.ref h != Value.ref e)=true from by simp[hne])]
 refine dY (bG (wpAny_runValue (codeAny_builtin xk ?_)))
 unfold Builtin.«proto.unchain»
 dsimp only
 refine dY (aS ho hd h2 ?_)
 rw[ag (by decide)]
 refine dY (aj (aj ?_))
 exact dY (show wpAny _ _ (setField (.ref e) 2 (.ref h)) _ _ _ from cD he hde h2e (wpAny_throw hE))
theorem range_endH {it h:Addr}{oh:Obj}{vs:Array Value}{x left step:Int}{Q:Option Value->Shared->Prop}(hh:A.handled=some (.ref h))(ho:s.heap.get? h=some oh)(hd:oh.data=.fields vs)(h2:vs[2]?=some .none)(hit:IsRangeIter s.heap it x left step)(hleft:left<=0)
 (hQ:∀ h',(∀ b o,s.heap.get? b=some o->h'.get? b=some o)->Q none { s with heap:=h'}):wpAny (model prog w) A (pyNext (.ref it)) Q E s:=by
 have hT:s.TypeIs (.ref it) "range_iterator":=⟨_,hit,rfl⟩
 unfold pyNext
 refine dY (wpAny_attempt (bA (name:=Str.ofString "__next__") hT F.slot_range_iterator_next
  (bN F.slot_range_iterator_next hT F.entry_range_iterator_next ?_ (F.args_range_iterator_next_1 _))))
 show wpAny _ _ (field (.ref it) 0 >>= _) _ _ s
 refine dY (aS hit rfl (x:=rawInt x) rfl ?_)
 show wpAny _ _ (field (.ref it) 1 >>= _) _ _ s
 refine dY (aS hit rfl (x:=rawInt left) rfl ?_)
 show wpAny _ _ (field (.ref it) 2 >>= _) _ _ s
 refine dY (aS hit rfl (x:=rawInt step) rfl ?_)
 show wpAny _ _ (if left<=0 then _ else _) _ _ s
 rw[ag hleft]
 refine dY (wpAny_rule (dY ?_))
 show wpAny _ _ (newExc (.type "StopIteration") [] >>= _) _ _ _
 refine dY ?_
 simp only[newExc,newTuple]
 refine dY (aY ?_ (by size_fits))
 refine dY (m:=firstArgMember _ _) (wpAny_of_eq (a:=Value.none) (by first | rfl | (simp only[firstArgMember];rfl)) ?_)
 refine aY ?_ (by size_fits)
 obtain⟨g,hg⟩:∃ g,g=s.heap.push { cls:=Value.type "tuple",data:=Data.seq #[]}:=⟨_,rfl⟩
 show wpAny _ _ (raiseNew (.ref (s.heap.push { cls:=Value.type "tuple",data:=Data.seq #[]}).objs.size)) _ _ { s with heap:=(s.heap.push { cls:=Value.type "tuple",data:=Data.seq #[]}).push { cls:=Value.type "StopIteration",data:=Data.fields (#[Value.ref s.heap.objs.size,Value.none,Value.none,Value.none,Value.bool false,Value.none]++ownMembersOf (Value.type "StopIteration") [])}}
 rw[<- hg]
 have k1:∀ b o,s.heap.get? b=some o->g.get? b=some o:=fun b o e=>by rw[hg];exact iV _ e
 have k2:=fun b o (e:g.get? b=some o)=>iV (h:=g) { cls:=Value.type "StopIteration",data:=Data.fields (#[Value.ref s.heap.objs.size,Value.none,Value.none,Value.none,Value.bool false,Value.none]++ownMembersOf (Value.type "StopIteration") [])} e
 have ne:h≠g.objs.size:=aB (jj (k1 _ _ ho))
 have eN:=av g (o:={ cls:=Value.type "StopIteration",data:=Data.fields (#[Value.ref s.heap.objs.size,Value.none,Value.none,Value.none,Value.bool false,Value.none]++ownMembersOf (Value.type "StopIteration") [])}) rfl
 refine yQ (s:={ s with heap:=g.push _}) (hh:=hh) ne (k2 _ _ (k1 _ _ ho)) hd h2 eN rfl (by rw[Array.size_append];show 2<6+_;omega) ?_
 refine dY (wpAny_isInstance (T := "StopIteration") (b:=true) ⟨_,b8 _ eN rfl,rfl⟩ isSubtype_stop ?_)
 exact aj (hQ _ fun b o e=>by
  have e2:=k2 _ _ (k1 _ _ e)
  rw[bj _ _ (bg (jj (k1 _ _ e)))]
  exact e2)
end
structure ExF (K:PySem.W.Frag)(C:Addr):Prop where
 cl:(PySem.W.clsIn K C).isSome=true
 ga:PySem.W.findIn K (.ref C) "__getattribute__"=some (some (.builtin "BaseException.__getattribute__"))
 gn:PySem.W.findIn K (.ref C) "__getattr__"=some none
 ca:PySem.W.findIn K (.ref C) "__class__"=some (some (.builtin "object.__class__"))
 cg:PySem.W.specialIn K (.builtin "object.__class__") "__get__"=some (some (.builtin "getset_descriptor.__get__"))
 ct:PySem.W.takesIn K (.builtin "object.__class__")=some true
 mo:PySem.W.mroIn K C (.type "object")=some true
 mb:PySem.W.mroIn K C (.type "BaseException")=some true
section
variable {prog:Program}{w:World}{A:Around}{E:Value->Shared->Prop}{s:Shared}{K:PySem.W.Frag}{e C:Addr}{oe:Obj}
theorem exc_class {Q:Option Value->Shared->Prop}(X:K.In s.heap)(I:PySem.W.InstAt s.heap e oe C none)(f:ExF K C)(h:Q (some (.ref C)) { s with toks:=s.toks+1}):wpAny (model prog w) A (getAttr? (.ref e) "__class__") Q E s:=by
 obtain⟨hh,g,d,t,os⟩:=s
 have L0:=I.type (M:=model prog w)
 have L1:=PySem.W.looks_findIn (M:=model prog w) X f.ga
 have L2:=PySem.W.looks_findIn (M:=model prog w) X f.gn
 have hf:PySem.W.findObj K C none "__class__"=some (.bind (.builtin "getset_descriptor.__get__") (.builtin "object.__class__")):=by
  obtain⟨cd,hc⟩:=Option.isSome_iff_exists.mp f.cl
  unfold PySem.W.findObj
  rw[hc,Option.bind_some,f.ca,Option.bind_some]
  simp[f.cg,f.ct]
 have L3:=PySem.W.looks_find (M:=model prog w) X I hf
 have LB:=PySem.W.looks_mroIn (M:=model prog w) X f.mb
 unfold getAttr? getAttrBy? getAttrBy
 refine dY (wpAny_mkText (dY (wpAny_attempt (bG (dY (L0.at (dY (L1.at ?_))))))))
 show wpAny _ _ (getAttrByItsOwn _ _ _ _ _ _) _ _ _
 unfold getAttrByItsOwn
 refine dY (show wpAny _ _ (typeLookup (.ref C) "__getattr__") _ _ _ from L2.at ?_)
 refine dY (wpAny_attempt (bG ?_))
 show wpAny _ _ (boundAndCalled _ _ _) _ _ _
 unfold boundAndCalled
 have ga:=PySem.F.attr_ValueError.ga
 refine dY (wpAny_of_eq (ga.bind (.ref e)) (wpAny_call (codeAny_call_builtin ga.plain F.entry_bexc_ga ?_)))
 have LI:PySem.W.Looks (model prog w) hh (isInstance (.ref e) (.type "BaseException")) true:=L0.andThen LB
 have hk:builtinKind "BaseException.__getattribute__"=some .slot:=by decide +kernel
 have hsplit:splitId "BaseException.__getattribute__"=some ("BaseException", "__getattribute__"):=by decide +kernel
 have ha:=F.args_bexc_ga (.ref e) (.str "__class__" t)
 show wpAny _ _ (checkBuiltinCall "BaseException.__getattribute__" ⟨[.ref e,.str "__class__" t],[]⟩) _ _ _
 simp only[checkBuiltinCall,hk,hsplit]
 refine dY (LI.at ?_)
 simp only[if_true,Bool.not_true,c4,if_false]
 refine wpAny_of_eq ha ?_
 show wpAny _ _ (Builtin.«object.__getattribute__» ⟨[.ref e,.str "__class__" t],[]⟩) _ _ _
 unfold Builtin.«object.__getattribute__»
 refine dY (aj (dY (aj (dY (L0.at (dY (L3.at ?_)))))))
 show wpAny _ _ (holding [Value.builtin "object.__class__"] (call (.builtin "getset_descriptor.__get__") [.builtin "object.__class__",.ref e,.ref C]) >>= fun v=>ret v) _ _ _
 refine dY (bG (wpAny_call (PySem.W.class_get (ox:=oe) (od:=none) X I f.mo ?_)))
 refine aj ?_
 exact PySem.W.handed_on rfl (aj h)
theorem kitx_exc (f:ExF K C):PySem.W.KitX K (.ref e) (.ref C) (fun h=>∃ oe,PySem.W.InstAt h e oe C none) where
 ty:=fun _ _ _ qk=>by obtain⟨_,I⟩:=qk;exact I.type
 it:=fun _ _ X _=>by
  obtain⟨cdD,hcD⟩:=Option.isSome_iff_exists.mp f.cl
  unfold PySem.W.clsIn at hcD
  split at hcD
  ·rename_i c' d' cd' sl' ho
   intro A' Q' E' s' k q
   unfold isType loadHead
   exact dY (wpAny_loadPart (k _ _ (X _ _ ho)) (aj q))
  ·cases hcD
 ne:=fun h tp dd d9 n sl X htp=>by
  obtain⟨cdD,hcD⟩:=Option.isSome_iff_exists.mp f.cl
  refine Bool.eq_false_iff.mpr fun q=>?_
  have e:C=tp:=Value.ref.inj (beq_iff_eq.mp q)
  subst e
  unfold PySem.W.clsIn at hcD
  split at hcD
  ·rename_i c' d' cd' sl' ho
   have z:=(X _ _ ho).symm.trans htp
   cases z
  ·cases hcD
 ca:=fun X ⟨_,I⟩ k=>exc_class X I f k
theorem exc_match {h:Heap}{g:Array GenState}{d:Drawn}{t:Nat}{os:OsState}{B:Addr}{Q:Bool->Shared->Prop}{nB qB nC qC:Str}{NB NC:Addr}{bsB bmB bsC bmC:List Value}{hdB hdC:Bool}{snB snC:List Str}{subB subC:List Value}{abB abC:Bool}{colB colC:Option Bool}{ddB ddC:Option Addr}{b0 b1 b2 b3 b5 c0 c1 c2 c3 c5:Option Value}{idB idC:String}
 (hB:h.get? B=some (excClassObj nB qB B NB bsB bmB hdB snB subB abB colB ddB b0 b1 b2 b3 b5 idB)) (hC:h.get? C=some (excClassObj nC qC C NC bsC bmC hdC snC subC abC colC ddC c0 c1 c2 c3 c5 idC)) (he:h.get? e=some oe) (hcls:oe.cls=.ref C)
 (hbB:bmB.contains (.type "BaseException")=true) (hin:(Value.ref C::bmC).contains (.ref B)=true) (hq:Q true ⟨h,g,d,t,os⟩):wpAny (model prog w) A (excMatches (.ref e) (.ref B)) Q E ⟨h,g,d,t,os⟩:=by
 have hcB:(Value.ref B::bmB).contains (.type "BaseException")=true:=by rw[List.contains_cons,hbB,Bool.or_true]
 have f:=tc_notTuple
 unfold excMatches
 repeat (first | (with_reducible refine wpAny_loadPart_at he ?_;rw[hcls]) | with_reducible refine wpAny_loadPart_at hB ?_ | (with_reducible refine wpAny_isSubtype_exc hB ?_;rw[hcB]) | (with_reducible refine wpAny_isSubtype_exc hC ?_;rw[hin]) | wp_step)
 exact hq
end
section
variable {X:Cx}{a e:Expr}{es:List Expr}{pos:Pos}
theorem isiE {c:V}{cv:Value}(rc:∀ u,RelV c u->u=cv):gM X (.builtin "isinstance") (fun vs H Q=>∃ e C b,vs=[.ref e,c]/\H e=some (.ext (j4 e (.ref C)))/\ExF X.K C/\PySem.W.kitOne X.K (.ref C) cv=some b/\Q (.bl b) H):=by
 intro pins s σ H vs us Q I r q
 obtain⟨e,C,b,rfl,he,f,hk,q⟩:=q
 obtain⟨u1,u2,rfl,r1,r2⟩:=r.two
 cases(show u1=.ref e from r1)
 have:=rc u2 r2
 subst this
 obtain⟨⟨oe,ws,h1,h2,h3,h4,_⟩,_,_⟩:=(show fo X.prog X.w H s.heap e (.ext (j4 e (.ref C)))from I.dZ e _ he)
 exact bq (kitx_exc f) I.pP ⟨oe,h1,h2,by unfold PySem.W.notCls;rw[h4],by rw[h3];trivial⟩ hk (fun z=>nomatch z) fun tk=>⟨.bl b,H,I.tok tk,rfl,q⟩
def dIsiE (K:PySem.W.Frag)(cv:Value)(w:De):De:=fun ρ μ Kd=>w ρ μ fun d dJ=>match d with
 | .mr k=>∃ C b,dJ[k]?=some (.exc (.ref C))/\ExF K C/\PySem.W.kitOne K (.ref C) cv=some b/\Kd (.bl b) dJ
 | _=>False
theorem tD_isiE {c:V}{cv:Value}{w:De}{σ:St}{H:Hp}{Q:VK}(h:tD (dIsiE X.K cv w) σ H Q):tCB (fun vs H Q=>∃ e C b,vs=[.ref e,c]/\H e=some (.ext (j4 e (.ref C)))/\ExF X.K C/\PySem.W.kitOne X.K (.ref C) cv=some b/\Q (.bl b) H) (tCons (tD w) (tCons (tC c) tNil)) σ H Q:=by
 obtain⟨φ,ρ,μ,K,A,M,k,L⟩:=h
 refine⟨φ,ρ,μ,_,A,M,k,fun d dJ ee v1 H1 k1 f1 M1 i1=>?_⟩
 cases d with
 | mr j =>
  obtain⟨C,b,e1,f,hk,k1⟩:=k1
  obtain⟨p,hp,rfl⟩:=i1
  obtain⟨p',e2,e3⟩:=M1.at_ j _ e1
  rw[hp]at e2;cases e2
  exact⟨p,C,b,rfl,e3,f,hk,L _ dJ ee _ H1 k1 f1 M1 rfl⟩
 | _=>exact k1.elim
theorem hU {w:De}{B:Addr}{x:Str}{p p2:Pos}(hg:Gl X "isinstance")(hm:X.mg "isinstance"=none)(hg2:Gl X x)(hm2:X.mg x=some (.ref B))(ha:PD X a w)(hd:(x==("__debug__" : Str))=false:=by decide)
 (hs:starEach [a,.Name x p2] X.env=(false,eval a X.env)::starEach [.Name x p2] X.env:=by rfl) (hs2:starEach [.Name x p2] X.env=(false,eval (.Name x p2) X.env)::starEach [] X.env:=by rfl) (kh:(backTo pos (starEach [.Name x p2] X.env)).any (·.1)=false:=by rfl) :
 PD X (.Call (.Name "isinstance" p) [a,.Name x p2] [] pos) (dIsiE X.K (.ref B) w) :=
 (fh (isiE (c:=.ref B) (cv:=.ref B) fun u r=>r) hg hm boot_isinstance (dQ ha (dQ (pe_glob (v:=.ref B) hg2 hm2 rfl hd) fR hs2) hs) (by decide) (by decide) hs kh).imp fun σ H Q q=>tD_isiE q
theorem d_isiV {w:De}{T:String}{x:Str}{p p2:Pos}(hg:Gl X "isinstance")(hm:X.mg "isinstance"=none)(hg2:Gl X x)(hm2:X.mg x=none)(hv:bootBuiltins x=some (.type T))(ha:PD X a w)(hn:x ≠ "__name__":=by decide)(hd:(x==("__debug__" : Str))=false:=by decide)
 (hs:starEach [a,.Name x p2] X.env=(false,eval a X.env)::starEach [.Name x p2] X.env:=by rfl) (hs2:starEach [.Name x p2] X.env=(false,eval (.Name x p2) X.env)::starEach [] X.env:=by rfl) (kh:(backTo pos (starEach [.Name x p2] X.env)).any (·.1)=false:=by rfl) :
 PD X (.Call (.Name "isinstance" p) [a,.Name x p2] [] pos) (dIsiE X.K (.type T) w) :=
 (fh (isiE (c:=.ty T) (cv:=.type T) fun u r=>r) hg hm boot_isinstance (dQ ha (dQ (gO (v:=.ty T) hg2 hm2 hv rfl hn hd) fR hs2) hs) (by decide) (by decide) hs kh).imp fun σ H Q q=>tD_isiE q
end
def ItrH (lo:Int)(n:Nat)(e:Addr):It:=⟨fun i _=>i<n,fun i H x H'=>H'=H/\x=.int (lo+i),fun i H=>n<=i/\∃ c,H e=some (.ext (j4 e c))⟩
def HndBy (e:Addr):Cx->Prop:=fun X=>X.A.handled=some (.ref e)
theorem turn_rangeH {P:Program}{w:World}{K:PySem.W.Frag}{tg:Expr}(it:Addr)(lo:Int)(n:Nat)(e:Addr):Turn P w K tg (ItrH lo n e) [it] it (fun i h=>IsRangeIter h it (lo+(i:Nat)*1) ((n:Int) - (i:Nat)) 1) (HndBy e) where
 mem:=by simp
 obj:=(mD (P:=P) (w:=w) (K:=K) (tg:=tg) it lo n).obj
 keep:=(mD (P:=P) (w:=w) (K:=K) (tg:=tg) it lo n).keep
 item:=by
  intro X hP hw hK hc i pins s σ H E I hf st hg
  subst hP hw hK
  obtain⟨f0,f1,f2,f3,f4,f5⟩:=hf it (by simp)
  refine wpAny_pyNext_range_item st (by have:i<n:=hg;omega) fun h' st' kk=>?_
  have I1:Inv X pins σ H { s with heap:=h',toks:=s.toks+1}:=I.turned (fun b o hb e=>kk.extBut b o hb e) f0 f1 f3 f4 f5
  have st2:IsRangeIter h' it (lo+((i+1:Nat):Int)*1) ((n:Int) - ((i+1:Nat):Int)) 1:=by
   have e1:lo+((i+1:Nat):Int)*1=lo+(i:Int)*1+1:=by omega
   have e2:(n:Int) - ((i+1:Nat):Int)=(n:Int) - (i:Int) - 1:=by omega
   rw[e1,e2];exact st'
  refine⟨_,rfl,xN (s:={ s with heap:=h',toks:=s.toks+1}) (n := "range_iterator") st' rfl rfl (by decide) ⟨.int (lo+i),H,I1,⟨s.toks,by rw[Int.mul_one]⟩,⟨rfl,rfl⟩,st2,fun b hb=>(hf b hb).1⟩⟩
 done:=by
  intro X hP hw hK hc i pins s σ H E I hf st hg
  subst hP hw hK
  obtain⟨f0,f1,f2,f3,f4,f5⟩:=hf it (by simp)
  obtain⟨hg,c,he⟩:=hg
  obtain⟨⟨oe,ws,h1,h2,h3,h4,h5⟩,_,_⟩:=(show fo X.prog X.w H s.heap e (.ext (j4 e c))from I.dZ e _ he)
  exact range_endH hc h1 h4 h5 st (by omega) fun h' k=>⟨rfl,I.kept (t':=s.toks) k⟩
 self:=(mD (P:=P) (w:=w) (K:=K) (tg:=tg) it lo n).self
section
variable {X:Cx}{tg:Expr}{CM:Cx->Prop}
def PIH (X:Cx)(CM:Cx->Prop)(tg iter:Expr)(wi:TI):Prop :=
 ∀(pins:List (Addr×Obj)) (s:Shared) (σ:St) (H:Hp) (R:It->Hp->Prop),Inv X pins σ H s->wi σ H R ->
  wpAny (model X.prog X.w) X.A (eval iter X.env) (fun v s1=>wpAny (model X.prog X.w) X.A (pyIter v) (fun itv s2=>∃(it:Addr) (fp:List Addr) (tn:Nat->Heap->Prop) (J:It) (H':Hp),itv=.ref it/\Inv X pins σ H' s2/\Turn X.prog X.w X.K tg J fp it tn CM/\tn 0 s2.heap/\(∀ b∈fp,ny X pins H' b)/\R J H') X.xe s1) X.xe s
theorem PIH.imp {iter:Expr}{t t':TI}(h:PIH X CM tg iter t)(hi:∀ σ H Q,t' σ H Q->t σ H Q):PIH X CM tg iter t':=fun pins s σ H R I q=>h pins s σ H R I (hi σ H R q)
def iRngH (e:Addr)(ta:TA):TI:=fun σ H R=>ta σ H fun vs H1=>∃ j:Int,vs=[.int j] /\ -(2 ^ 62)<=j/\j<2 ^ 62/\R (ItrH 0 j.toNat e) H1
theorem pi_rangeH {a:Expr}{ta:TA}{e:Addr}{p pos:Pos}(hg:Gl X "range")(hm:X.mg "range"=none)(ha:PA X [a] ta)(hs:starEach [a] X.env=[(false,eval a X.env)]:=by rfl):PIH X (HndBy e) tg (.Call (.Name "range" p) [a] [] pos) (iRngH e ta):=by
 intro pins s σ H R I h
 refine Call_ (oF I hg hm boot_range (bw (fq (ha pos pins s σ H _ I h) fun us s1 nP=>?_) hs rfl))
 obtain⟨vs,H1,I1,r1,q1⟩:=nP
 obtain⟨j,e',q1,q2,q⟩:=q1
 subst e'
 cases r1 with
 | cons r rr =>
  cases rr
  obtain⟨t,rfl⟩:=r
  refine call_range_1 ?_
  refine wpAny_pyIter_range (IsRange.new ..) (small_one (by omega) (by omega) q1 q2) ?_
  obtain⟨o,ho⟩:∃ o:Obj,o={ cls:=.type "range",data:=.fields #[.int 0 s1.toks,.int j t,.int 1 (s1.toks+1)]}:=⟨_,rfl⟩
  have I2:Inv X pins σ H1 { s1 with heap:=s1.heap.push o,toks:=s1.toks+1+1}:=I1.kept fun b u e=>iV _ e
  rw[<- ho]
  refine⟨(s1.heap.push o).objs.size,[(s1.heap.push o).objs.size],_,_,H1,rfl,I2.kept (t':=s1.toks+1+1) fun b u e=>iV _ e,turn_rangeH _ 0 j.toNat e,?_,fun b hb=>?_,q⟩
  ·have e1:(0:Int)+((0:Nat):Int)*1=0:=by simp
   have e2:((j.toNat:Nat):Int) - ((0:Nat):Int)=Builtin.Range.rangeSize 0 j 1:=by rw[rangeSize_one];split <;> omega
   show IsRangeIter _ _ ((0:Int)+((0:Nat):Int)*1) (((j.toNat:Nat):Int) - ((0:Nat):Int)) 1
   rw[e1,e2]
   exact av _ rfl
  ·have e':b=(s1.heap.push o).objs.size:=by simpa using hb
   subst e'
   exact I2.fpOk (aa _) (I2.dZ.fresh (aa _))
variable {N:List Str}{js:List (Option Nat)}{sc:Scope}{elt iter:Expr}{ifs:List Expr}{g:TG}{tt:TT}{te:TE}
theorem pe_compH {wi:TI}{pos:Pos}(hc:gT X N js sc)(calm:∀ fp s H,CM (ky X N sc fp s H))(hi:PIH X CM tg iter wi)(hg:∀ fp s H,PG (ky X N sc fp s H) tg g)(ht:∀ fp s H,PTs (ky X N sc fp s H) ifs tt)(he:∀ fp s H,PE (ky X N sc fp s H) elt te)
 (hs:∀ x,foldedSetIterable iter X.env x=pure x:=by intro _;rfl):PE X (.ListComp elt [⟨tg,iter,ifs,0⟩] sc pos) (tComp wi js g tt te):=by
 intro pins s σ H Q I h
 rw[eval_ListComp]
 refine cc (use:=none) rfl hs (jJ fun y hy e=>I.ok.has y.1 (hc.free y hy e)) hc.kind hc.loc (fq (hi pins s σ H _ I h) fun v s1 h1=>fq h1 fun itv s2 h2=>?_)
 obtain⟨it,fp,tn,J,H2,e,I2,T,st2,f2,q⟩:=h2
 subst e
 refine aY (lA ?_)
 have hC:(s2.heap.push { cls:=.type "list",dict:=none,data:=.seq ([]:List Value).toArray}).objs.size=s2.heap.objs.size+1:=a6 ..
 simp only[hC]
 refine qa (tk:=s2.toks) I2 hc (calm fp s2 H2) T st2 f2 (hg fp s2 H2) (ht fp s2 H2) (he fp s2 H2) q fun s' H' ys m IX nD qf nC hn=>?_
 refine⟨m,nC,fun h' sb=>?_⟩
 have Af:∀(b:Addr) (o:Obj),s2.heap.get? b=some o->b≠s2.heap.objs.size+1:=fun b o e=>aB (bh (jj e))
 have IY:Inv X pins σ (upd H' s2.heap.objs.size (.lst ys)) { s' with heap:=h'}:=IX.turned (t':=s'.toks) (it:=s2.heap.objs.size+1) (fun b o hb e=>(sb.2 b hb).trans e) (by rw[dR (bg (bP _))];exact hn)
  (bg (bh I2.lt)) (.inr (bz I2.sz)) (fun x c e=>let ⟨v,z⟩:=I2.cell x c e;aB (bh z.lt)) (fun p hp=>Af _ _ (I2.pin p hp).1)
 exact⟨.ref _,_,IY,rfl,qf _ nD⟩
end
abbrev hC (eI:List Addr)(H0:Hp)(k:Nat):MS->Prop:=fun μ=>μ[0]?=some (.gx eI H0)/\∃ c,μ[k]?=some (.exc c)
theorem hC_ext {eI φ:List Addr}{H0 H:Hp}{k:Nat}{μ:MS}{e:Addr}(hk:eI[k]?=some e)(M:d8 φ H μ)(h:hC eI H0 k μ):φ[k]?=some e/\∃ c,H e=some (.ext (j4 e c)):=by
 obtain⟨h1,c,h2⟩:=h
 have:=(M.hist h1).get hk
 obtain⟨p,e1,e2⟩:=M.at_ k _ h2
 rw[this]at e1;cases e1
 exact⟨this,c,e2⟩
theorem wk_rangeH {lo:Int}{n k:Nat}{φ eI:List Addr}{H H0:Hp}{e:Addr}(hk:eI[k]?=some e):Wk (ItrH lo n e) φ H (kg lo n) (hC eI H0 k):=fun eB H' μ' f M c i=>by
 have hl:(kg lo n).length=n:=by unfold kg;rw[fg,gxJ]
 refine⟨fun d hd=>?_,fun hi=>⟨by rw[hl]at hi;exact Nat.le_of_eq hi.symm,(hC_ext hk M c).2⟩⟩
 have hi:i<n:=by have:=(lE hd).1;omega
 refine⟨hi,fun x H'' hy=>?_⟩
 obtain⟨rfl,rfl⟩:=hy
 refine⟨.refl _ _,M,?_⟩
 unfold kg at hd
 rw[tK,cL hi]at hd
 cases hd
 rfl
def dItRH (eI:List Addr)(H0:Hp)(k:Nat)(w:DA):DI:=fun ρ μ K=>w ρ μ fun ds dJ=>match ds with
 | [.int j] => -(2 ^ 62)<=j/\j<2 ^ 62/\K (kg 0 j.toNat) (hC eI H0 k) dJ
 | _=>False
section
variable {X:Cx}{a:Expr}{pos:Pos}{N:List Str}{js:List (Option Nat)}{sc:Scope}{tg elt iter:Expr}{ifs:List Expr}{g:TG}{y:DG}{S:List Nat}{t:Dt}{w:De}{eI:List Addr}{H0:Hp}{k:Nat}{e:Addr}
theorem i_rangeH {w:DA}{p:Pos}(hk:eI[k]?=some e)(hg:Gl X "range")(hm:X.mg "range"=none)(ha:tY X [a] w)(hs:starEach [a] X.env=[(false,eval a X.env)]:=by rfl):PIH X (HndBy e) tg (.Call (.Name "range" p) [a] [] pos) (tDI (dItRH eI H0 k w)):=(pi_rangeH hg hm ha hs).imp fun σ H Q hq=>by
 obtain⟨φ,ρ,μ,K,A,M,k,L⟩:=hq
 refine⟨φ,ρ,μ,_,A,M,k,fun ds dJ ee vs H1 k1 f1 M1 i1=>?_⟩
 split at k1
 ·obtain⟨v,r,rfl,h1,h2⟩:=i1
  cases(show v=_ from h1);cases(show r=[]from h2)
  exact⟨_,rfl,k1.1,k1.2.1,L _ _ dJ ee _ H1 k1.2.2 f1 M1 (wk_rangeH hk)⟩
 ·exact k1.elim
theorem d_compH (m:Bool){wi:DI}(hc:gT X N js sc)(hh:X.A.handled=some (.ref e))(so:SoG g y S)(mo:mw g)(ho:oA S js=true)(hi:PIH X (HndBy e) tg iter (tDI wi))(hg:∀ fp s H,PG (ky X N sc fp s H) tg g)(ht:∀ fp s H,xo (ky X N sc fp s H) ifs t)(he:∀ fp s H,PD (ky X N sc fp s H) elt w)
 (hs:∀ x,foldedSetIterable iter X.env x=pure x:=by intro _;rfl):PD X (.ListComp elt [⟨tg,iter,ifs,0⟩] sc pos) (tP m wi js y t w):=(pe_compH hc (fun _ _ _=>hh) hi hg ht he hs).imp fun σ H Q q=>yf so mo ho q
end
structure rS (k:Nat)(A:Around):Prop where
 dp:A.depth+3*k+5<recursionLimit
 un:A.units+16*k+200<cLine
theorem rS.deeper {k:Nat}{A:Around}(r:rS (k+1) A)(env:Env):rS k (A.deeper env) :=
 ⟨by have:=r.dp;show A.depth+1+3*k+5<_;omega,by have:=r.un;show A.units+3+16*k+200<_;omega⟩
theorem rS.depth {k:Nat}{A:Around}(r:rS k A):A.depth<recursionLimit:=by have:=r.dp;omega
abbrev Cx.hnd (X:Cx)(A:Around):Cx:={ X with A:=A,calm:=false,xe:=fun _ _=>False}
theorem Inv.hnd {X:Cx}{pins:List (Addr×Obj)}{σ:St}{H:Hp}{s:Shared}(I:Inv X pins σ H s){A:Around}(hf:A.frames=some X.stack):Inv (X.hnd A) pins σ H s :=
 ⟨⟨I.ok.mod,I.ok.kind,I.ok.glob,I.ok.blt,I.ok.above,I.ok.inj,I.ok.has,I.ok.cab,(fun z=>by cases z),hf,I.ok.stk,I.ok.exf,I.ok.bs,I.ok.bsz,I.ok.noex,I.ok.exfs,I.ok.pJ,I.ok.frf⟩,I.os,I.bare,I.base,I.loc,I.cell,I.free,I.jq,I.pin,I.dZ,I.len⟩
structure FnOkH (P:Program)(w:World)(K:PySem.W.Frag)(mg:Str->Option Value)(base:Heap)(k:Nat)(f:Addr)(fd:FuncData)(ps:List Str)(fs:iN):Prop where
 len:∀ ds μ Kd,fs ds μ Kd->ds.length=ps.length
 run:∀(A:Around) (outer:List Env) (s:Shared) (H:Hp) (args:Args) (us:List Value) (vs:List V) (Q:VK) (e:Addr),rS k A->A.handled=some (.ref e)->z9 P w K mg base A outer s H->BindsTo s fd args (ps.zip us)->Vals vs us ->
  (∃ φ ds μ Kd kx,dN φ H ds vs/\d8 φ H μ/\φ[kx]?=some e/\kx≠0/\(∃ c,μ[kx]?=some (.exc c))/\fs ds μ Kd/\sQ φ H Kd Q)->codeAny (model P w) A (.call (.ref f) args) (CR jr outer P w H s Q E0) s
section
variable {P:Program}{w:World}{K:PySem.W.Frag}{mg:Str->Option Value}{base:Heap}
abbrev cxH (P:Program)(w:World)(K:PySem.W.Frag)(mg:Str->Option Value)(base:Heap)(N:List Str)(qual:Str)(scope:Scope)(f:Addr)(cd:Value)(A:Around)(outer:List Env)(s:Shared)(H:Hp):Cx :=
 (nR jr P w K mg base N qual scope f cd { A with handled:=none} outer s H E0).hnd (A.deeper (envOfC qual scope s.heap.objs.size f cd))
theorem gG.okH {x qual:Str}{st:Stmt}{f:Addr}{fd:FuncData}{N ps:List Str}{k:Nat}{fs:iN}(F:gG K x qual st f fd)(S:dz N ps (dn st))(len:∀ ds μ Kd,fs ds μ Kd->ds.length=ps.length/\∃ m,μ[0]?=some m)
 (oG:∀(fI:Value) (A:Around) (outer:List Env) (s:Shared) (H:Hp),rS k (A.deeper (envOfC qual (dn st) s.heap.objs.size f fI))->∀(eI:List Addr) (kx:Nat) (e:Addr),eI[kx]?=some e->A.handled=some (.ref e) ->
   ∃ W,PDB (cxH P w K mg base N qual (dn st) f fI A outer s H) (gg st) W/\∀ ds μ m Kd,(∀(j:Nat) (m':MO),(μ.set 0 (.gx eI H))[j]?=some m'->moB (μ.set 0 (.gx eI H)).length m')->pj (μ.set 0 (.gx eI H)).length ds->μ[0]?=some m->hC eI H kx (μ.set 0 (.gx eI H))->fs ds μ Kd ->
    W (retN (μ.set 0 (.gx eI H)).length (gK eI H m Kd)) (om N ds) (μ.set 0 (.gx eI H))):FnOkH P w K mg base (k+1) f fd ps fs:=by
 obtain⟨oc,od,kV,doc,pm,an,fI,ct,osl,rfl,lk,xh⟩:=F.ex
 refine⟨fun ds μ Kd h=>(len ds μ Kd h).1,fun A outer s H args us vs Q e hr hh e0 hb r hsp=>?_⟩
 obtain⟨φ,ds,μ,Kd,kx,ha,M,hk,hk0,hex,hf,L⟩:=hsp
 obtain⟨hl',m,em⟩:=len ds μ Kd hf
 have hl:vs.length=ps.length:=by rw[ha.len];exact hl'
 have KX:K.In s.heap:=e0.mod.kin.keeps fun b o e=>(e0.bs b o e).1
 have lim:s.heap.NoLimit:=e0.mod.nolimit.keeps fun b o e=>(e0.bs b o e).1
 have hkind:∀ y∈ps.zip us,(dn st).names.lookup y.1=some .local\/((dn st).names.lookup y.1=some .cell/\((cellsFrom (s.heap.objs.size+1) (dn st).names []).lookup y.1).isSome=true):=fun⟨n,v⟩ hy=>by
  rcases S.par n (List.of_mem_zip hy).1 with q | q
  ·exact .inl q
  ·exact .inr ⟨q,c7 _ _ _ (.inl q)⟩
 refine codeAny_call_function hr.depth (KX _ _ lk) rfl S.co S.gen rfl (PySem.W.codeRec_of KX xh) (hb _ _ _ _ ?_)
 refine wpAny_newFunctionEnv_cells S.kind hkind fun env he s1 x=>?_
 subst he
 refine⟨lim.keeps x.toInCall.keep,codeAny_func ?_⟩
 have e1:z9 P w K mg base { A with handled:=none} outer s H:=⟨e0.frames,e0.mod,e0.bs,e0.bsz,e0.pJ,e0.frf,e0.dZ,e0.bare⟩
 have I0:Inv (nR jr P w K mg base N qual (dn st) f fI { A with handled:=none} outer s H E0) [] (start N vs) H s1:=xJ S rfl e1 hl r x
 have I:Inv (cxH P w K mg base N qual (dn st) f fI A outer s H) [] (start N vs) H s1:=I0.hnd (Around.frames_deeper e0.frames)
 have Mg:=M.ghost em
 have Lg:=(L.ghost M em).fz Mg
 have hc:hC φ H kx (μ.set 0 (.gx φ H)):=⟨az (lE em).1,by rw[ao (bb hk0)];exact hex⟩
 obtain⟨W,hW,q⟩:=oG fI A outer s H (hr.deeper _) φ kx e hk hh
 refine bc (hW [] s1 (start N vs) H { nx:=fun _ H'=>Q .fH H',rt:=Q} I ⟨φ,om N ds,μ.set 0 (.gx φ H),retN (μ.set 0 (.gx φ H)).length (gK φ H m Kd),.start ha,Mg,q ds μ m Kd Mg.bound (by rw[<- Mg.len];exact ha.bound) em hc hf,⟨fun ip μ' eB fO H' k' f' A' M'=>Lg .fH μ' eB .fH H' k' f' M' rfl,Lg,fun _ _ _ _ _ k' _ _ _=>k'.elim,fun _ _ _ _ _ k' _ _ _=>k'.elim⟩⟩) (fun fl s' hs=>?_) fun e s' hs=>hs.elim
 have fin:∀ {fO:St} {H':Hp} {v:V} {u:Value},Inv (cxH P w K mg base N qual (dn st) f fI A outer s H) [] fO H' s'->RelV v u->Q v H'->CE outer P w H s Q u s' :=
  fun {fO H' v u} J rv q=>⟨v,H',J.os,J.bare,J.base,J.dZ,rv,q⟩
 cases fl with
 | ret u =>
  obtain⟨v,fO,H',J,rv,q⟩:=hs
  exact fin J rv q
 | next =>
  obtain⟨fO,H',J,q⟩:=hs
  exact fin (v:=V.fH) (u:=Value.none) J rfl q
 | brk =>
  obtain⟨_,_,_,q⟩:=hs
  exact False.elim q
 | cont =>
  obtain⟨_,_,_,q⟩:=hs
  exact False.elim q
end
structure CalH (P:Program)(w:World)(K:PySem.W.Frag)(mg:Str->Option Value)(base:Heap)(x:Str)(k:Nat)(ps:List Str)(fs:iN):Prop where
 ex:∃ f fd,FnOkH P w K mg base k f fd ps fs/\mg x=some (.ref f)/\PySem.W.keepIn K (.ref f)=true/\Binds K fd ps []
section
variable {X:Cx}{e:Expr}{es:List Expr}{pos:Pos}{eI:List Addr}{H0:Hp}{kx:Nat}{ea:Addr}
def dCallH (eI:List Addr)(H0:Hp)(kx:Nat)(f:iN)(w:DA):De:=fun ρ μ K=>w ρ μ fun ds dJ=>hC eI H0 kx dJ/\f ds dJ K
theorem d_callH {f:iN}{w:DA}{x:Str}{p:Pos}{k:Nat}{ps:List Str}(hk:eI[kx]?=some ea)(hk0:kx≠0)(hh:X.A.handled=some (.ref ea))(C:CalH X.prog X.w X.K X.mg X.base x k ps f)(hr:rS k X.A)(hg:Gl X x)(ha:tY X (e::es) w)
 (sC:(x==("__debug__" : Str))=false:=by decide) (he:starEach (e::es) X.env=(false,eval e X.env)::starEach es X.env:=by rfl) (kh:(backTo pos (starEach es X.env)).any (·.1)=false:=by rfl) :
 PD X (.Call (.Name x p) (e::es) [] pos) (dCallH eI H0 kx f w):=by
 obtain⟨f',fd,F,hm,hkp,hb⟩:=C.ex
 intro pins s σ H Q I h
 obtain⟨φ,ρ,μ,K,A,M,w,L⟩:=h
 refine bO (mV I hg hm ?_ sC)
 refine cq (h₀:=X.base) I.ok.mod.kin hkp (fq (ha pos pins s σ H (fun vs H1=>∃ φ ds μ Kd kx,dN φ H1 ds vs/\d8 φ H1 μ/\φ[kx]?=some ea/\kx≠0/\(∃ c,μ[kx]?=some (.exc c))/\f ds μ Kd/\sQ φ H1 Kd Q) I ⟨φ,ρ,μ,_,A,M,w,fun ds dJ ee vs H1 k1 f1 M1 i1=>⟨ee,ds,dJ,K,kx,i1,M1,(hC_ext hk M1 k1.1).1,hk0,k1.1.2,k1.2,L.mono f1⟩⟩) fun us s1 p5=>?_) he kh
 obtain⟨vs,H1,I1,r,q⟩:=p5
 refine⟨I1.pP,?_⟩
 have hl:us.length=ps.length:=by
  obtain⟨ee,ds,dJ,Kd,kx1,i1,_,_,_,_,hf,_⟩:=q
  rw[<- r.length,i1.len];exact F.len _ _ _ hf
 refine wpAny_call (codeAny_mono (F.run X.A X.stack s1 H1 ⟨us,[]⟩ us vs Q ea hr hh I1.env0 (by have:=hb s1 us I1.pP (by rw[aN];exact hl);rwa [aN]at this) r q) fun r s' hq=>?_)
 cases r with
 | error e=>exact hq.elim
 | ok fl =>
  cases fl with
  | ret u=>exact I1.after hq
  | next=>exact False.elim hq
  | brk=>exact False.elim hq
  | cont=>exact False.elim hq
end
structure ExSub (K:PySem.W.Frag)(C B:Addr):Prop where
 ex:∃(nB qB:Str) (NB:Addr) (bsB bmB:List Value) (hdB:Bool) (snB:List Str) (subB:List Value) (abB:Bool) (colB:Option Bool) (ddB:Option Addr) (b0 b1 b2 b3 b5:Option Value) (idB:String) (nC qC:Str) (NC:Addr) (bsC bmC:List Value) (hdC:Bool) (snC:List Str) (subC:List Value) (abC:Bool) (colC:Option Bool) (ddC:Option Addr) (c0 c1 c2 c3 c5:Option Value) (idC:String),
  K.lookup B=some (excClassObj nB qB B NB bsB bmB hdB snB subB abB colB ddB b0 b1 b2 b3 b5 idB)/\K.lookup C=some (excClassObj nC qC C NC bsC bmC hdC snC subC abC colC ddC c0 c1 c2 c3 c5 idC)/\bmB.contains (.type "BaseException")=true/\(Value.ref C::bmC).contains (.ref B)=true
section
variable {X:Cx}{pins:List (Addr×Obj)}{σ:St}{H:Hp}{s:Shared}
theorem Inv.track (I:Inv X pins σ H s){e:Addr}{c:Value}(hn:H e=none)(x:j4 e c s.heap)(h0:X.s₀.heap.get? e=none)(hl:e≠X.env.locals)(hc:∀ y a,X.env.cells.lookup y=some a->a≠e)(hp:∀ p∈X.pn++pins,p.1≠e) :
 Inv X pins σ (upd H e (.ext (j4 e c))) s:=by
 have ne0:∀ b o,X.s₀.heap.get? b=some o->b≠e:=fun b o q z=>by rw[z,h0]at q;cases q
 have ne1:∀ b o,H b=some o->b≠e:=fun b o q z=>by rw[z,hn]at q;cases q
 refine⟨I.ok,I.os,I.bare,⟨I.base.keep,I.base.slot,fun b o q n hx=>?_,I.base.there,fun b xs q=>?_,fun b o xs q=>?_,fun b ps q=>?_⟩,I.loc,I.cell,?_,fun y a q=>?_,fun p hq=>?_,fun a o q=>?_,I.len⟩
 ·rw[dR (ne0 b o q)];exact I.base.free b o q n hx
 ·have:=I.base.n6 b xs q
  rw[dR (ne1 b _ this)];exact this
 ·have:=I.base.nQ b o xs q
  rw[dR (ne1 b _ this)];exact this
 ·obtain⟨m,this⟩:=I.base.oa b ps q
  exact⟨m,by rw[dR (ne1 b _ this)];exact this⟩
 ·rw[dR (bb hl)];exact I.free
 ·rw[dR (hc y a q)];exact I.jq y a q
 ·obtain⟨h1,h2,h3⟩:=I.pin p hq
  exact⟨h1,by rw[dR (hp p hq)];exact h2,h3⟩
 ·by_cases z:a=e
  ·subst z
   rw[dH]at q
   cases q
   obtain⟨oe,vs,q1,q2⟩:=x
   exact⟨⟨oe,vs,q1,q2⟩,⟨oe,q1⟩,fun h1 h2 ⟨o,v,e1,e2⟩ k=>⟨o,v,k o e1,e2⟩⟩
  ·rw[dR z]at q
   exact(I.dZ a o q).uU (fun _ _ _ k=>k) (fun b k=>by rw[dR (ne1 b _ k)];exact k) fun b xs k=>by rw[dR (ne1 b _ k)];exact k
theorem Inv.forget (I:Inv X pins σ H s){h':Heap}{m':Str->Option Value}{t:Nat}(hn:h'.Ns X.env.locals m')(hs:Heap.SameBut X.env.locals s.heap h'):Inv X pins (σ.map fun _=>none) H { s with heap:=h',toks:=t}:=by
 have ne:∀ b o,X.s₀.heap.get? b=some o->b≠X.env.locals:=fun b o e=>aB (aq (jj e) I.ok.above)
 refine⟨I.ok,I.os,I.bare,⟨fun b o e n hb hx=>?_,fun b o e n hb hx=>?_,I.base.free,fun b o e hx=>?_,I.base.n6,I.base.nQ,I.base.oa⟩,⟨m',hn,fun j y v' e1 e2 e3=>?_⟩,fun y c e=>?_,I.free,I.jq,fun p hp=>?_,fun b ob e=>?_,by rw[fg];exact I.len⟩
 ·exact(hs.2 b (ne b o e)).trans (I.base.keep b o e n hb hx)
 ·obtain⟨sl,e1⟩:=I.base.slot b o e n hb hx
  exact⟨sl,(hs.2 b (ne b o e)).trans e1⟩
 ·obtain⟨o',e1⟩:=I.base.there b o e hx
  exact⟨o',(hs.2 b (ne b o e)).trans e1⟩
 ·rw[tK]at e2
  cases q:σ[j]? <;> rw[q]at e2 <;> cases e2
 ·obtain⟨w',z⟩:=I.cell y c e
  exact⟨w',z.sameBut hs (I.cne y c e)⟩
 ·obtain⟨e,n,ne,nf,d⟩:=I.pin p hp
  exact⟨(hs.2 p.1 ne).trans e,n,ne,nf,d⟩
 ·refine(I.dZ b ob e).uU (fun c w' hc q=>(hs.2 c ?_).trans q) (fun _ q=>q) fun _ _ q=>q
  rintro rfl
  rcases hc with rfl | hc
  ·rw[I.free]at e;cases e
  ·rw[I.free]at hc;cases hc
theorem Un.kp {fs:List Addr}{l:List Env}{H H':Hp}{h h1 h2 g:Heap}(u:Un fs [] H H' h h1)(k:Kp g l h1 h2)(hg:Gk h g)(hl:∀ b,b∈xi l->b∈fs):Un fs [] H H' h h2:=by
 refine⟨fun b o e n hb hx=>k.other b o (u.keep b o e n hb hx) (hg b ⟨o,e⟩) fun z=>hb (hl b z),fun b o e n hb hx=>?_,u.free,fun b o e hx=>?_,u.n6,u.nQ,u.oa⟩
 ·obtain⟨sl,e1⟩:=u.slot b o e n hb hx
  obtain⟨sl2,e2⟩:=k.any e1 (hg b ⟨o,e⟩)
  exact⟨sl2,e2⟩
 ·obtain⟨o',e1⟩:=u.there b o e hx
  obtain⟨sl,e2⟩:=k.any e1 (hg b ⟨o,e⟩)
  exact⟨_,e2⟩
end
def dTry (K:PySem.W.Frag)(B:Addr)(n i:Nat)(u:List Addr->Hp->DX->Ds)(v:List Addr->Hp->Nat->Ds):Ds:=fun N ρ μ=>∃ m,μ[0]?=some m/\∀ eI H0,
 u eI H0 (gX eI H0 m fun c μ'=>∃ C,c=.ref C/\ExSub K C B/\∀ ee H1,v ee H1 μ'.length { nx:=fun _ _=>False,rt:=gK ee H1 m N.rt} ((List.replicate n none).set i (some (.mr μ'.length))) ((μ'++[MO.exc c]).set 0 (.gx ee H1)))
  { nx:=fun ip μ'=>μ'[0]?=some (.gx eI H0)/\N.nx ip (μ'.set 0 m),rt:=gK eI H0 m N.rt,bk:=fun ip μ'=>μ'[0]?=some (.gx eI H0)/\N.bk ip (μ'.set 0 m),ct:=fun ip μ'=>μ'[0]?=some (.gx eI H0)/\N.ct ip (μ'.set 0 m)} ρ (μ.set 0 (.gx eI H0))
theorem LiS.ghost {φ:List Addr}{H:Hp}{μ:MS}{m:MO}{k:DE->MS->Prop}{q:St->Hp->Prop}(L:LiS φ H k q)(M:d8 φ H μ)(e:μ[0]?=some m):LiS φ H (fun ip μ'=>μ'[0]?=some (.gx φ H)/\k ip (μ'.set 0 m)) q:=fun ip μ' eB fO H' ⟨e',k'⟩ f A M'=>L ip _ eB fO H' k' f A (M.back e M' e')
theorem Inv.caught {X:Cx}{pins:List (Addr×Obj)}{σ:St}{H H':Hp}{s s':Shared}{g h2:Heap}(I:Inv X pins σ H s)(os:s'.os=s.os)(bare:AllBare s'.gens)(un:Un (xi X.stack) [] H H' s.heap s'.heap)(dZ:nu X.prog X.w H' s'.heap)(g1:Gk s.heap g)(g2:∀ b,H' b≠none->At g b)(k:Kp g X.stack s'.heap h2) :
 Inv X pins σ H' { s' with heap:=h2}:=by
 have I2:=I.xT (s':=s') (ch:=[]) os un dZ bare (fun b z=>absurd z (by simp))
 exact I.xT (s':={ s' with heap:=h2}) (ch:=[]) os (un.kp k g1 fun b z=>z) (hok_kp dZ (fun b hb=>⟨g2 b hb,fun z=>hb (I2.o8 b z)⟩) k) bare (fun b z=>absurd z (by simp))
theorem z7.is {g h:Heap}{e:Addr}{cls fl:Value}(x:z7 g e cls fl h):j4 e cls h:=by
 obtain⟨oe,vs,T,oT,ts,⟨h1,⟨h2,h3⟩,h4,_,h5⟩,_⟩:=x
 exact⟨oe,vs,h1,h2,h3,h4,h5⟩
section
variable {X:Cx}{body suite:List Stmt}{b0:Stmt}{x n:Str}{np hpos pos:Pos}{B:Addr}{i:Nat}{u:List Addr->Hp->DX->Ds}{v:List Addr->Hp->Nat->Ds}
theorem s_try (hex:X.ex=[])(hst:X.stack=X.env::X.outer)(hfm:X.env.frame=some X.env.locals)(hN:X.N.Nodup)(hi:X.N[i]?=some n)(hn:X.env.scope.names.lookup n=some .local)(hg:Gl X x)(hm:X.mg x=some (.ref B))
 (hb:∀(pn:List (Addr×Obj)) (xe:Value->Shared->Prop) (eI:List Addr) (H0:Hp) (Kx:DX),Rz { X with pn:=pn,xe:=xe} eI H0 Kx->PDB { X with pn:=pn,xe:=xe} body (u eI H0 Kx))
 (hs:∀(pn:List (Addr×Obj)) (e:Addr) (ee:List Addr) (H1:Hp) (kx:Nat),ee[kx]?=some e->kx≠0->PDB (Cx.hnd { X with pn:=pn} (X.A.mark (some (.ref e)))) (b0::suite) (v ee H1 kx)) (hd:(x==("__debug__" : Str))=false:=by decide) :
 wC X (.Try body [.ExceptHandler (some (.Name x np)) (some n) (b0::suite) hpos] [] [] pos) (dTry X.K B X.N.length i u v):=fun pins s σ H D I hq=>by
 obtain⟨φ,ρ,μ,N,A,M,⟨m,em,w⟩,L⟩:=hq
 have w:=w φ H
 refine wpAny_Try_except ?_
 obtain⟨xe,hxe⟩:∃ xe:Value->Shared->Prop,xe=fun ev s₁=>wpAny (model X.prog X.w) X.A (noteFrame ev X.env) (fun _ s₂=>wpAny (model X.prog X.w) X.A (setFlight ev none) (fun _ s₃=>wpAny (model X.prog X.w) X.A (handleBy ev X.env [.ExceptHandler (some (.Name x np)) (some n) (b0::suite) hpos]) (SP X pins D) X.xe s₃) X.xe s₂) X.xe s₁:=⟨_,rfl⟩
 have I':Inv { X with pn:=X.pn++pins,xe:=xe} [] σ H s:=⟨⟨I.ok.mod,I.ok.kind,I.ok.glob,I.ok.blt,I.ok.above,I.ok.inj,I.ok.has,I.ok.cab,I.ok.hd,I.ok.frames,I.ok.stk,I.ok.exf,I.ok.bs,I.ok.bsz,I.ok.noex,I.ok.exfs,I.ok.pJ,I.ok.frf⟩,I.os,I.bare,I.base,I.loc,I.cell,I.free,I.jq,(fun p hp=>I.pin p (by simpa using hp)),I.dZ,I.len⟩
 have back:∀ {pins1:List (Addr×Obj)} {Ai:St} {H1:Hp} {s1:Shared},Inv { X with pn:=X.pn++pins,xe:=xe} pins1 Ai H1 s1->Inv X pins Ai H1 s1:=fun J=>⟨I.ok,J.os,J.bare,J.base,J.loc,J.cell,J.free,J.jq,(fun p hp=>J.pin p (bS _ hp)),J.dZ,J.len⟩
 have Mg:=M.ghost em
 have hfr:X.A.frames=some (X.env::X.outer):=by rw[<- hst];exact I.ok.frames
 obtain⟨Kx,hKx⟩:∃ Kx:DX,Kx=fun c μ'=>∃ C,c=.ref C/\ExSub X.K C B/\∀ ee H1,v ee H1 μ'.length { nx:=fun _ _=>False,rt:=gK ee H1 m N.rt} ((List.replicate X.N.length none).set i (some (.mr μ'.length))) ((μ'++[MO.exc c]).set 0 (.gx ee H1)):=⟨_,rfl⟩
 rw[<- hKx]at w
 have Z:Rz { X with pn:=X.pn++pins,xe:=xe} φ H (gX φ H m Kx):=by
  refine⟨fun c _ H'=>∃ eB μ',gX φ H m Kx c μ'/\Fr φ H eB H'/\d8 eB H' μ',fun c μ' eB H' k f M=>⟨eB,μ',k,f,M⟩,fun pins1 Ai H1 s1 ev s' J c=>?_⟩
  obtain⟨e,cls,H',g,rfl,os,bare,un,dZ,⟨g1,g2,g3⟩,ex,eB,μ',⟨e0,hK⟩,f',M'⟩:=c
  rw[hKx]at hK
  obtain⟨C,rfl,sub,hv⟩:=hK
  show xe (.ref e) s'
  rw[hxe]
  have J2:=J.xT (s':=s') (ch:=[]) os un dZ bare (fun b z=>absurd z (by simp))
  have ff:s'.heap.FunFrames X.base (X.env::X.outer):=by rw[<- hst];exact J2.stack
  refine xF hfr ff hfm g3 ex fun h1 x1 k1=>?_
  refine lF (l:=X.env::X.outer) x1 fun h2 x2 k2 _=>?_
  have k12:Kp g X.stack s'.heap h2:=by rw[hst];exact k1.trans k2
  have J3:=(J.caught os bare un dZ g1 g2 k12).mT (pins':=[]) (fun p hp=>absurd hp (by simp))
  have eN:g.get? e=none:=by obtain⟨_,_,_,_,_,_,_,z⟩:=ex;exact z
  have hHe:H' e=none:=by
   cases q:H' e with
   | none=>rfl
   | some o=>obtain⟨u,z⟩:=g2 e (by rw[q];simp);rw[eN]at z;cases z
  have J4:Inv (Cx.hnd { X with pn:=X.pn++pins} (X.A.mark (some (.ref e)))) [] Ai H' { s' with heap:=h2}:=J3.hnd I.ok.frames
  refine wpAny_handleBy_cons (codeAny_handlers_test (mV J4 hg hm ?_ hd)) (by intro q;cases q)
  obtain⟨nB,qB,NB,bsB,bmB,hdB,snB,subB,abB,colB,ddB,b0',b1,b2,b3,b5,idB,nC,qC,NC,bsC,bmC,hdC,snC,subC,abC,colC,ddC,c0,c1,c2,c3,c5,idC,lB,lC,hbB,hin⟩:=sub.ex
  obtain⟨oe,vs,q1,q2,q3,q4,q5⟩:=x2.is
  refine exc_match (J4.pP _ _ lB) (J4.pP _ _ lC) q1 q2 hbB hin ?_
  refine codeAny_handlers_suite_as (lF (l:=X.env::X.outer) (s:={ s' with heap:=h2}) x2 fun h3 x3 k3 _=>?_)
  have k13:Kp g X.stack s'.heap h3:=k12.trans (by rw[hst];exact k3)
  have J5:=(J.caught os bare un dZ g1 g2 k13).mT (pins':=[]) (fun p hp=>absurd hp (by simp))
  have atg:∀ b o,s1.heap.get? b=some o->b≠e:=fun b o q z=>by
   obtain⟨u,y⟩:=g1 b ⟨o,q⟩
   rw[z,eN]at y;cases y
  have J6:=J5.track hHe x3.is (by
   cases q:X.s₀.heap.get? e with
   | none=>rfl
   | some o =>
    obtain⟨o',y⟩:=J.base.there e o q (by show e∉X.ex;rw[hex];simp)
    exact absurd rfl (atg e o' y)) (by
   obtain⟨mm,⟨oo,_,_,y,_⟩,_⟩:=J.loc
   exact fun z=>atg _ oo y z.symm) (fun y a q=>by
   obtain⟨w',o,z,_⟩:=J.cell y a q
   exact atg a o z) (fun p hp=>atg p.1 p.2 (J.pin p (bS _ (by simpa using hp))).1)
  have J7:Inv (Cx.hnd { X with pn:=X.pn++pins} (X.A.mark (some (.ref e)))) [] Ai (upd H' e (.ext (j4 e (.ref C)))) { s' with heap:=h3}:=J6.hnd I.ok.frames
  refine kC (X:=Cx.hnd { X with pn:=X.pn++pins} (X.A.mark (some (.ref e)))) J7 hN hi (.inl hn) (v:=.ref e) (u:=.ref e) rfl (fun s8 J8=>?_) (.inr hn)
  have Mb:=M.back em M' e0
  obtain⟨dJ,hμ1⟩:∃ dJ,dJ=μ'.set 0 m:=⟨_,rfl⟩
  rw[<- hμ1]at Mb hv
  have h0l:0<μ'.length:=(lE e0).1
  have em1:dJ[0]?=some m:=by rw[hμ1];exact az h0l
  have l1:dJ.length≠0:=by rw[hμ1,aH];omega
  obtain⟨Msn,f2⟩:=Mb.snoc (m:=.exc (.ref C)) (o:=.ext (j4 e (.ref C))) hHe dH
  have em2:(dJ++[MO.exc (.ref C)])[0]?=some m:=by rw[uD (by omega)];exact em1
  have hk:(eB++[e])[dJ.length]?=some e:=by rw[p6 (by rw[Mb.len];exact aa _),Mb.len,aR];rfl
  have ls:Ai.length=X.N.length:=J.len
  have hil:i<Ai.length:=by rw[ls];exact(lE hi).1
  have A2:iF (eB++[e]) (upd H' e (.ext (j4 e (.ref C)))) ((List.replicate X.N.length none).set i (some (.mr dJ.length))) (Ai.set i (some (.ref e))):=by
   refine⟨by rw[aH,aH,aM,ls],fun j d q=>?_⟩
   by_cases z:i=j
   ·subst z
    rw[az (by rw[aM,<- ls];exact hil)]at q
    cases q
    exact⟨.ref e,az hil,e,hk,rfl⟩
   ·rw[ao z,List.getElem?_replicate]at q
    split at q <;> cases q
  have L2:LiN (eB++[e]) (upd H' e (.ext (j4 e (.ref C)))) { nx:=fun _ _=>False,rt:=gK (eB++[e]) (upd H' e (.ext (j4 e (.ref C)))) m N.rt} { nx:=fun _ _=>False,rt:=D.rt} :=
   ⟨fun _ _ _ _ _ k' _ _ _=>k'.elim,(L.rt.mono (f'.trans f2)).ghost Msn em2,fun _ _ _ _ _ k' _ _ _=>k'.elim,fun _ _ _ _ _ k' _ _ _=>k'.elim⟩
  refine bc (hs (X.pn++pins) e (eB++[e]) (upd H' e (.ext (j4 e (.ref C)))) dJ.length hk l1 [] s8 _ _ { nx:=fun _ _=>False,rt:=D.rt} J8 ⟨eB++[e],_,_,_,A2,Msn.ghost em2,hv _ _,L2⟩) (fun f s9 q=>?_) (fun _ _ z=>z.elim)
  cases f with
  | next=>obtain⟨_,_,_,q⟩:=q;exact q.elim
  | brk=>obtain⟨_,_,_,q⟩:=q;exact q.elim
  | cont=>obtain⟨_,_,_,q⟩:=q;exact q.elim
  | ret r =>
   obtain⟨v',σ9,H9,J9,rv,qr⟩:=q
   have J9x:Inv X pins σ9 H9 s9:=⟨I.ok,J9.os,J9.bare,J9.base,J9.loc,J9.cell,J9.free,J9.jq,(fun p hp=>J9.pin p (bS _ hp)),J9.dZ,J9.len⟩
   obtain⟨mm,hns,_⟩:=J9.loc
   show wpAny _ _ (do bindName X.env n .none;unbindBehindTheSuite X.env n hpos) _ _ _
   refine wpAny_nameGoes hn hns (by rw[I.ok.kind];rfl) fun h' m' hns' hsb=>?_
   exact⟨v',_,H9,J9x.forget hns' hsb,rv,qr⟩
 have oG:=hb _ _ φ H _ Z [] s σ H D I' ⟨φ,ρ,μ.set 0 (.gx φ H),_,A,Mg,w,⟨L.nx.ghost M em,L.rt.ghost M em,L.bk.ghost M em,L.ct.ghost M em⟩⟩
 refine bc oG (fun f s1 q=>?_) (fun ev s1 q=>by have q:xe ev s1:=q;rw[hxe]at q;exact q)
 cases f with
 | next=>obtain⟨fO,H',J,q⟩:=q;exact cO ⟨fO,H',back J,q⟩
 | brk=>obtain⟨fO,H',J,q⟩:=q;exact⟨fO,H',back J,q⟩
 | cont=>obtain⟨fO,H',J,q⟩:=q;exact⟨fO,H',back J,q⟩
 | ret u=>obtain⟨v',fO,H',J,r,q⟩:=q;exact⟨v',fO,H',back J,r,q⟩
end
abbrev mC:List Value:=[.type "ValueError",.type "Exception",.type "BaseException",.type "object"]
theorem cls_of {K:PySem.W.Frag}{C:Addr}{bmB:List Value}{newId:String}(q:PySem.W.excIn K C bmB newId=true):∃(bm:List Value) (ns:Addr) (nm qn:Str) (bs:List Value) (hd:Bool) (sn:List Str) (sub:List Value) (ab:Bool) (col:Option Bool) (dd:Option Addr) (k0 k1 k2 k3 k5:Option Value),
 K.lookup C=some (excClassObj nm qn C ns bs bm hd sn sub ab col dd k0 k1 k2 k3 k5 newId)/\PySem.W.nsOkIn K ns=true/\PySem.W.nsIn K ns "__init__"=some none/\PySem.W.tailIn K bmB bm=true:=by
 unfold PySem.W.excIn at q
 split at q
 ·rename_i dd cd sl ho
  split at q
  ·rename_i C' bm k0 k1 k2 k3 n k5 hm hs
   simp only[aL,beq_iff_eq,Bool.not_eq_true']at q
   obtain⟨⟨⟨⟨⟨rfl,rfl⟩,hdel⟩,ht⟩,dZ⟩,hni⟩:=q
   obtain⟨nm,bs,mro,ns,qn,hd,sn,sub,ab,col,del⟩:=cd
   dsimp only at hm hdel dZ hni
   subst hm hdel
   have hsl:sl=#[k0,k1,k2,k3,some (.builtin n),k5]:=by
    obtain⟨l⟩:=sl
    simp only at hs
    rw[hs]
   subst hsl
   exact⟨bm,ns,nm,qn,bs,hd,sn,sub,ab,col,dd,k0,k1,k2,k3,k5,ho,dZ,hni,ht⟩
  ·cases q
 ·cases q
theorem gZ {K:PySem.W.Frag}{h:Heap}{mg:Str->Option Value}{x:Str}{C:Addr}(X:K.In h)(G:h.Ns mainGlobals mg)(e:PySem.W.nsIn K mainGlobals x=some (some (.ref C)))(q:PySem.W.excIn K C mC "ValueError.__new__"=true):OwnCls x C mC "ValueError.__new__" mg h:=by
 obtain⟨bm,ns,nm,qn,bs,hd,sn,sub,ab,col,dd,k0,k1,k2,k3,k5,h1,h2,h3,h4⟩:=cls_of q
 exact⟨aT X G e,bm,ns,nm,qn,bs,hd,sn,sub,ab,col,dd,k0,k1,k2,k3,k5,_,X _ _ h1,.of_isNs (PySem.W.isNs_of_in X h2),PySem.W.nsMap_none_of_in X h2 h3,PySem.W.tail_of_in X h4⟩
def subIn (K:PySem.W.Frag)(C B:Addr):Bool:=match K.lookup C with
 | some ⟨_,_,.cls cd,_⟩=>cd.mro.contains (.ref B)
 | _=>false
theorem sub_of {K:PySem.W.Frag}{C B:Addr}(qB:PySem.W.excIn K B mC "ValueError.__new__"=true)(qC:PySem.W.excIn K C mC "ValueError.__new__"=true)(s:subIn K C B=true):ExSub K C B:=by
 obtain⟨bm,ns,nm,qn,bs,hd,sn,sub,ab,col,dd,k0,k1,k2,k3,k5,h1,h2,h3,h4⟩:=cls_of qB
 obtain⟨bm',ns',nm',qn',bs',hd',sn',sub',ab',col',dd',k0',k1',k2',k3',k5',h1',h2',h3',h4'⟩:=cls_of qC
 refine⟨nm,qn,ns,bs,bm,hd,sn,sub,ab,col,dd,k0,k1,k2,k3,k5,_,nm',qn',ns',bs',bm',hd',sn',sub',ab',col',dd',k0',k1',k2',k3',k5',_,h1,h1',?_,?_⟩
 ·have tl:∀ l,PySem.W.tailIn K mC l=true->l.contains (.type "BaseException")=true:=fun l=>by
   induction l with
   | nil=>intro z;exact absurd (show(mC==[])=true from z) (by decide)
   | cons v r ih =>
    intro z
    unfold PySem.W.tailIn at z
    rcases Bool.or_eq_true_iff.mp z with q | q
    ·rw[beq_iff_eq.mp q];decide
    ·rw[List.contains_cons]
     have:PySem.W.tailIn K mC r=true:=by
      split at q
      ·split at q
       ·simp only[aL]at q;exact q.2
       ·cases q
      ·cases q
     rw[ih this,Bool.or_true]
  exact tl _ h4
 ·unfold subIn at s
  rw[h1']at s
  exact s
theorem roomM {k:Nat}{A:Around}{h:Option Value}(r:gD k A):rS k (A.mark h):=⟨r.dp,r.un⟩
theorem jf {P:Program}{w:World}{K:PySem.W.Frag}{mg:Str->Option Value}{base h:Heap}{x q:Str}{st:Stmt}{f:Addr}{fd:FuncData}{k:Nat}{ps:List Str}{sp:Sp}(G:K.In h)(N:h.Ns mainGlobals mg)(F:gG K x q st f fd)(ok:d7 P w K mg base (mB P w) k f fd ps sp)(hb:Binds K fd ps [])
 (a:PySem.W.nsIn K mainGlobals x=some (some (.ref f)):=by kernel_rfl):rV P w K mg base x k ps sp:=⟨f,fd,ok,aT G N a,F.kp,hb⟩
theorem calh_of {P:Program}{w:World}{K:PySem.W.Frag}{mg:Str->Option Value}{base h:Heap}{x q:Str}{st:Stmt}{f:Addr}{fd:FuncData}{k:Nat}{ps:List Str}{sp:iN}(G:K.In h)(N:h.Ns mainGlobals mg)(F:gG K x q st f fd)(ok:FnOkH P w K mg base k f fd ps sp)(hb:Binds K fd ps [])
 (a:PySem.W.nsIn K mainGlobals x=some (some (.ref f)):=by kernel_rfl):CalH P w K mg base x k ps sp:=⟨f,fd,ok,aT G N a,F.kp,hb⟩
theorem eE {μ:MS}{m n:MO}(em:μ[0]?=some m):(μ.set 0 n)[0]?=some n:=az (lE em).1
theorem q9 {μ:MS}{m n:MO}(em:μ[0]?=some m):(μ.set 0 n).set 0 m=μ:=by
 cases μ with
 | nil=>cases em
 | cons a r=>cases em;rfl
theorem fm {μ:MS}{m:MO}{n:Nat}{eI:List Addr}{H:Hp}{c:Value}{Kb Kx:DX}(hK:Kb=FX n (gX eI H m Kx))(em:μ[0]?=some m)(k:Kx c μ):(μ.set 0 (.gx eI H))[0]?=some (.gx eI H)/\Kb c (μ.set 0 (.gx eI H)):=⟨eE em,by rw[hK];exact .inl ⟨eE em,by rw[q9 em];exact k⟩⟩
theorem iR {μ:MS}{m:MO}{eI:List Addr}{H:Hp}{d:D}{K:DK}(em:μ[0]?=some m)(k:K d μ):gK eI H m K d (μ.set 0 (.gx eI H)):=⟨eE em,by rw[q9 em];exact k⟩
def runOk (n e a b:Int):Prop:=e<a/\a<b/\b<=n
instance (n e a b:Int):Decidable (runOk n e a b):=by unfold runOk;infer_instance
def kitB (K:PySem.W.Frag)(cs:List Addr)(j:Nat):Bool:=(List.range 17).all fun i=>PySem.W.kitOne K (.ref (cs.getD j 0)) (.ref (cs.getD i 0))==some (decide (i=j))
structure km (K:PySem.W.Frag)(cs:List Addr)(cH:Addr)(j:Nat):Prop where
 ef:ExF K (cs.getD j 0)
 kit:kitB K cs j=true
 kv:PySem.W.kitOne K (.ref (cs.getD j 0)) (.type "ValueError")=some true
 sub:ExSub K (cs.getD j 0) cH
theorem km.at_ {K:PySem.W.Frag}{cs:List Addr}{cH:Addr}{j:Nat}(h:km K cs cH j)(i:Nat)(hi:i<17):PySem.W.kitOne K (.ref (cs.getD j 0)) (.ref (cs.getD i 0))=some (decide (i=j)):=by
 have:=List.all_eq_true.mp h.kit i (List.mem_range.mpr hi)
 simpa using this
def qQ (j:Nat):Str:=(["BadBars", "BadMake", "BadNumber", "BadText", "BadName", "BadAge", "BadBar", "BadPlace", "BadSize", "Taken", "Full", "NoTake", "Shut", "Joined", "Needed", "NothingLeft", "NoWay"]:List Str).getD j ""
structure OwnB (x:Str)(C:Addr)(mg:Str->Option Value):Prop where
 bound:mg x=some (.ref C)
section
variable {X:Cx}{a b e o:Expr}{es:List Expr}{pos:Pos}
def dFz (w:De):De:=fun ρ μ K=>w ρ μ (Fz μ.length K)
theorem zG {w:De}(h:PD X e w):PD X e (dFz w):=h.imp fun σ H Q hq=>by
 obtain⟨φ,ρ,μ,K,A,M,k,L⟩:=hq
 exact⟨φ,ρ,μ,_,A,M,k,L.fz M⟩
def tFrz (t:TE):TE:=fun σ H Q=>t σ H fun v H1=>∃ a kvs,v=.ref a/\H1 a=some (.dK kvs)/\∀ o,Q v (upd H1 a (.kI o (.dK kvs)))
theorem pe_frz {t:TE}(h:PE X e t):PE X e (tFrz t):=fun pins s σ H Q I q =>
 fq (h pins s σ H _ I q) fun v s1 hq=>by
  obtain⟨x,H1,I1,r1,a,kvs,ex,e1,q1⟩:=hq
  subst ex
  obtain⟨o,vs,ep,kv,hd,da,hs,I2⟩:=freeze I1 (.inl e1)
  exact⟨_,_,I2,r1,q1 o⟩
def dFrz (w:De):De:=fun ρ μ K=>w ρ μ fun x dJ=>match x with
 | .mr j=>∃ ks ds,dJ[j]?=some (.hJ ks ds)/\∀(o:Obj) (kvs:List (Key×V)),kvs.map (·.1)=ks->K (.mr j) (dJ.set j (.m4 o kvs ds))
 | _=>False
theorem vZ {w:De}(h:PD X e w):PD X e (dFrz w):=(pe_frz h).imp fun σ H Q hq=>by
 obtain⟨φ,ρ,μ,K,A,M,k,L⟩:=hq
 refine⟨φ,ρ,μ,_,A,M,k,fun d dJ ee v1 H1 k1 f1 M1 i1=>?_⟩
 cases d with
 | mr k =>
  have i1':=i1
  obtain⟨p,hp,rfl⟩:=i1
  obtain⟨ks,ds,em,k1⟩:=k1
  obtain⟨p',e1,kvs,vs,h1,h2,h3,h4⟩:=M1.at_ k _ em
  rw[hp]at e1;cases e1
  subst h3
  refine⟨p,kvs,rfl,h1,fun o=>?_⟩
  have f2:Fr ee H1 ee (upd H1 p (.kI o (.dK kvs))):=.put (zk hp)
  have M2:=M1.put (k:=k) (p:=p) (o:=.kI o (.dK kvs)) (m:=.m4 o kvs ds) hp ⟨dH,h4.mono f2⟩
  exact L _ _ ee _ _ (k1 o kvs h2) (f1.trans f2) M2 (i1'.mono f2)
 | _=>exact k1.elim
def dNewF:De:=fun _ μ K=>K (.kK [] []) μ
theorem rF:PD X (.Dict [] [] pos) dNewF:=(zG (vZ zI)).imp fun σ H Q hq=>by
 obtain⟨φ,ρ,μ,K,A,M,k,L⟩:=hq
 refine⟨φ,ρ,μ,K,A,M,⟨[],[],by rw[p6 (aa _),aR];rfl,fun o kvs hk=>?_⟩,L⟩
 have e0:(μ++[MO.hJ [] []]).set μ.length (.m4 o kvs [])=μ++[.m4 o kvs []]:=fM
 rw[e0]
 refine Fz.kK (aa _) (by rw[p6 (aa _),aR];rfl) (show pj _ []from True.intro) (gm M.bound) ?_
 rw[aU,hk]
 exact k
theorem fdc_is {φ:List Addr}{H:Hp}{ks:List Key}{ds:List D}{v:V}(i:ij φ H (.kK ks ds) v):∃ p o kvs,v=.ref p/\H p=some (.kI o (.dK kvs))/\kvs.map (·.1)=ks/\dN φ H ds (kvs.map (·.2)):=by
 obtain⟨p,o,kvs,vs,rfl,_,h1,h2,rfl,h3⟩:=i
 exact⟨p,o,kvs,rfl,h1,h2,h3⟩
def ixF (ks:List Key)(ds:List D)(y:D):Option (Option D):=(mY y).map fun k=>oN (ks.zip ds) k
def dIxF:ue:=fun x y μ K=>match x with
 | .kK ks ds=>∃ d,ixF ks ds y=some (some d)/\K d μ
 | .mr j=>∃ d,ixM μ j y=some (some d)/\K d μ
 | _=>False
theorem iS {wa wb:De}(hu:X.A.units+1<cLine)(ha:PD X a wa)(hb:PD X b wb)(hs:NoSl b):PD X (.Subscript a b pos) (zJ dIxF wa wb):=(pe_dget hu ha hb hs).imp fun σ H Q hq=>by
 obtain⟨φ,ρ,μ,K,A,M,k,L⟩:=hq
 refine⟨φ,ρ,μ,_,A,M,k,fun d1 dJ ee v1 H1 k1 f1 M1 i1=>?_⟩
 refine⟨ee,ρ,dJ,_,A.mono f1,M1,k1,fun d2 eW il v2 H2 k2 f2 M2 i2=>?_⟩
 cases d1 with
 | kK ks ds =>
  obtain⟨d,ex,k2⟩:=k2
  obtain⟨k,ek,ed⟩:=Option.map_eq_some_iff.mp ex
  obtain⟨p,o,kvs,rfl,rd,e1,ha⟩:=fdc_is (i1.mono f2)
  cases mX ek i2
  obtain⟨v,ev,iv⟩:=vW e1 ha ed
  exact⟨p,v,rfl,.inl ⟨kvs,k,.inr ⟨o,rd⟩,rfl,ev.symm⟩,(L.mono (f1.trans f2)).val M2 k2 iv⟩
 | mr j =>
  obtain⟨d,ex,k2⟩:=k2
  obtain⟨ks,ds,k,em,ek,ed⟩:=ixM_ex ex
  obtain⟨p,kvs,hp,rfl,rd,e1,ha⟩:=zB M2 (i1.mono f2) em
  cases mX ek i2
  obtain⟨v,ev,iv⟩:=vW e1 ha ed
  exact⟨p,v,rfl,.inl ⟨kvs,k,rd,rfl,ev.symm⟩,(L.mono (f1.trans f2)).val M2 k2 iv⟩
 | _=>exact k2.elim
def dInF (neg:Bool):ue:=fun x y μ K=>match y with
 | .kK ks ds=>∃ o,ixF ks ds x=some o/\K (.bl (neg != o.isSome)) μ
 | .mr j=>∃ o,ixM μ j x=some o/\K (.bl (neg != o.isSome)) μ
 | _=>False
theorem inF_ex {neg:Bool}{φ:List Addr}{H:Hp}{μ:MS}{x y:D}{vx vy:V}{K:DK}{Q:VK}(M:d8 φ H μ)(ix:ij φ H x vx)(iy:ij φ H y vy)(k:dInF neg x y μ K)(L:sQ φ H K Q):∃ p o,vy=.ref p/\DGet H p vx o/\Q (.bl (neg != o.isSome)) H:=by
 cases y with
 | kK ks ds =>
  obtain⟨oo,ex,k2⟩:=k
  obtain⟨k,ek,rfl⟩:=Option.map_eq_some_iff.mp ex
  obtain⟨p,o,kvs,rfl,rd,e1,ha⟩:=fdc_is iy
  cases mX ek ix
  refine⟨p,lV kvs k,rfl,.inl ⟨kvs,k,.inr ⟨o,rd⟩,rfl,rfl⟩,?_⟩
  have es:(lV kvs k).isSome=(oN (ks.zip ds) k).isSome:=by
   rcases dval_rel k e1 ha with⟨g1,g2⟩ | ⟨d,v,g1,g2,_⟩<;> (rw[g1,g2];rfl)
  rw[es]
  exact L.val M k2 rfl
 | mr j =>
  obtain⟨oo,ex,k2⟩:=k
  obtain⟨ks,ds,k,em,ek,rfl⟩:=ixM_ex ex
  obtain⟨p,kvs,hp,rfl,rd,e1,ha⟩:=zB M iy em
  cases mX ek ix
  refine⟨p,lV kvs k,rfl,.inl ⟨kvs,k,rd,rfl,rfl⟩,?_⟩
  have es:(lV kvs k).isSome=(oN (ks.zip ds) k).isSome:=by
   rcases dval_rel k e1 ha with⟨g1,g2⟩ | ⟨d,v,g1,g2,_⟩<;> (rw[g1,g2];rfl)
  rw[es]
  exact L.val M k2 rfl
 | _=>exact(show False from k).elim
theorem tD_inF {wa wb:De}{σ:St}{H:Hp}{Q:VK}(h:tD (zJ (dInF false) wa wb) σ H Q):tDIn (tD wa) (tD wb) σ H Q:=by
 obtain⟨φ,ρ,μ,K,A,M,k,L⟩:=h
 refine⟨φ,ρ,μ,_,A,M,k,fun d1 dJ ee v1 H1 k1 f1 M1 i1=>?_⟩
 refine⟨ee,ρ,dJ,_,A.mono f1,M1,k1,fun d2 eW il v2 H2 k2 f2 M2 i2=>?_⟩
 obtain⟨p,o,e,g,q⟩:=inF_ex M2 (i1.mono f2) i2 k2 (L.mono (f1.trans f2))
 rw[fne]at q
 exact⟨p,o,e,g,q⟩
theorem tD_notinF {wa wb:De}{σ:St}{H:Hp}{Q:VK}(h:tD (zJ (dInF true) wa wb) σ H Q):tDNotIn (tD wa) (tD wb) σ H Q:=by
 obtain⟨φ,ρ,μ,K,A,M,k,L⟩:=h
 refine⟨φ,ρ,μ,_,A,M,k,fun d1 dJ ee v1 H1 k1 f1 M1 i1=>?_⟩
 refine⟨ee,ρ,dJ,_,A.mono f1,M1,k1,fun d2 eW il v2 H2 k2 f2 M2 i2=>?_⟩
 obtain⟨p,o,e,g,q⟩:=inF_ex M2 (i1.mono f2) i2 k2 (L.mono (f1.trans f2))
 rw[tne]at q
 exact⟨p,o,e,g,q⟩
theorem t_inF {wa wb:De}(hu:X.A.units+1<cLine)(ha:PD X a wa)(hb:PD X b wb)(hmk:behindInMarks .In b=false):PDT X (.Compare a [.In] [b] pos) (p8 (zJ (dInF false) wa wb)):=(yU (pc_din hu ha hb) hmk).imp fun σ H Q hq=>tB_of (fun Q q=>tD_inF q) hq
theorem jQ {wa wb:De}(hu:X.A.units+1<cLine)(ha:PD X a wa)(hb:PD X b wb)(hmk:behindInMarks .NotIn b=false):PDT X (.Compare a [.NotIn] [b] pos) (p8 (zJ (dInF true) wa wb)):=(yU (pc_dnotin hu ha hb) hmk).imp fun σ H Q hq=>tB_of (fun Q q=>tD_notinF q) hq
def dcv (μ:MS):D->Option (List Key×List D)
 | .kK ks ds=>some (ks,ds)
 | .mr j=>uc μ j
 | _=>none
theorem zD {φ:List Addr}{H:Hp}{μ:MS}{d:D}{v:V}{q:List Key×List D}(M:d8 φ H μ)(i:ij φ H d v)(h:dcv μ d=some q):∃ p kvs,v=.ref p/\Rd H p (.dK kvs)/\kvs.map (·.1)=q.1/\dN φ H q.2 (kvs.map (·.2)):=by
 cases d with
 | kK ks ds =>
  cases h
  obtain⟨p,o,kvs,rfl,rd,e1,ha⟩:=fdc_is i
  exact⟨p,kvs,rfl,.inr ⟨o,rd⟩,e1,ha⟩
 | mr j =>
  obtain⟨p,kvs,hp,rfl,rd,e1,ha⟩:=zB M i (ks:=q.1) (ds:=q.2) h
  exact⟨p,kvs,rfl,rd,e1,ha⟩
 | _=>cases h
def fDictF:iN:=fun ds μ K=>match ds with
 | [x]=>opt (dcv μ x) fun q=>K (.mr μ.length) (μ++[.hJ q.1 q.2])
 | _=>False
theorem uZ:lP rDictC fDictF:=fun φ H vs ds μ K Q M h k L=>by
 unfold fDictF at k
 split at k
 ·obtain⟨v,r,rfl,h1,h2⟩:=h;cases(show r=[]from h2)
  obtain⟨q,em,k⟩:=gb k
  obtain⟨p,kvs,rfl,rd,e1,ha⟩:=zD M h1 em
  refine⟨kvs,rd,fun p' hp'=>?_⟩
  have f:Fr φ H (φ++[p']) (upd H p' (.dK kvs)):=⟨(Fr.snoc (φ:=φ) hp').ext,fun c u _ e=>gd.upd hp' _ _ e,fun c e=>(gd.upd hp').free e⟩
  obtain⟨M',f'⟩:=M.snoc (o:=.dK kvs) (m:=.hJ q.1 q.2) hp' ⟨kvs,_,dH,e1,rfl,ha.mono f⟩
  exact L _ _ _ _ _ k f' M' ⟨p',by rw[p6 (by rw[M.len];exact aa _),M.len,aR];rfl,rfl⟩
 ·exact k.elim
def rLenD:List V->Hp->VK->Prop:=fun vs H Q=>match vs with
 | [.ref a]=>∃ kvs,Rd H a (.dK kvs)/\Q (.int kvs.length) H
 | _=>False
theorem lenD:gM X (.builtin "len") rLenD:=by
 intro pins s σ H xs us Q I r h
 unfold rLenD at h
 split at h
 ·obtain⟨kvs,rd,q⟩:=h
  obtain⟨u,rfl,ru⟩:=r.one
  cases ru
  exact d_len I rd fun t s' I'=>⟨.int _,H,I',⟨t,rfl⟩,q⟩
 ·exact h.elim
def fLenD:iN:=fun ds μ K=>match ds with
 | [x]=>opt (dcv μ x) fun q=>K (.int q.1.length) μ
 | _=>False
theorem so_lenD:lP rLenD fLenD:=fun φ H vs ds μ K Q M h k L=>by
 unfold fLenD at k
 split at k
 ·obtain⟨v,r,rfl,h1,h2⟩:=h;cases(show r=[]from h2)
  obtain⟨q,em,k⟩:=gb k
  obtain⟨p,kvs,rfl,rd,e1,ha⟩:=zD M h1 em
  have el:kvs.length=q.1.length:=by rw[<- e1,fg]
  exact⟨kvs,rd,by rw[el];exact L.val M k rfl⟩
 ·exact k.elim
def rListD:List V->Hp->VK->Prop:=fun vs H Q=>match vs with
 | [.ref a]=>∃ kvs,Rd H a (.dK kvs)/\∀ p,H p=none->Q (.ref p) (upd H p (.lst (kvs.map fun kv=>kV kv.1)))
 | _=>False
theorem _root_.L2.Vals.vt:∀ {xs:List V} {us:List Value},xs.length=us.length->(∀(i:Nat) (x:V) (u:Value),xs[i]?=some x->us[i]?=some u->RelV x u)->Vals xs us
 | [],us,hl,_=>by cases us with
  | nil=>exact .nil
  | cons v r=>simp at hl
 | d::ds,us,hl,h=>by cases us with
  | nil=>simp at hl
  | cons v r=>exact .cons (h 0 d v rfl rfl) (Vals.vt (by simpa using hl) fun i a b e1 e2=>h (i+1) a b (by simpa using e1) (by simpa using e2))
theorem items_rel {kvs:List (Key×V)}{vs:List (Key×Value)}{acc:Array Value}(kv:KV kvs vs)(h:ItemsOf (fun i v=>∃ k x,vs[i]?=some (k,x)/\(eS X.prog X.w).is k v=true) acc vs.length):Vals (kvs.map fun kv=>kV kv.1) acc.toList:=by
 refine Vals.vt (by rw[fg,kv.length,<- h.1];exact(bW (xs:=acc)).symm) fun i x u e1 e2=>?_
 rw[tK]at e1
 cases q:kvs[i]? with
 | none=>rw[q]at e1;cases e1
 | some p =>
  rw[q]at e1;cases e1
  obtain⟨v,hv⟩:=pair_at kv q
  obtain⟨k,x,e3,e4⟩:=h.2 i u (by rw[<- Array.getElem?_toList];exact e2)
  rw[hv]at e3;cases e3
  exact kV_of e4
theorem listD (calm:X.calm=true):gM X (.type "list") rListD:=by
 intro pins s σ H xs us Q I r h
 unfold rListD at h
 split at h
 ·rename_i a
  obtain⟨kvs,rd,q⟩:=h
  obtain⟨u,rfl,ru⟩:=r.one
  cases ru
  obtain⟨z,hd,vs,rel,dd⟩:=lG I.dZ rd
  obtain⟨ep,da⟩:=dd.dictAt
  refine PySem.W.kdl_call (PySem.W.kdl_dict (knd:=eS X.prog X.w) (kvs:=vs) (ep:=ep) hd) (I.ok.hd calm) da (by rw[<- rel.length];exact z) fun h' tk acc' c' kp hl it=>?_
  have I2:Inv X pins σ (upd H s.heap.objs.size (.lst (kvs.map fun kv=>kV kv.1))) { s with heap:=h',toks:=tk}:=I.laid (a:=s.heap.objs.size) (o:=.lst _) (t':=tk) kp (aa _) ⟨by rw[fg];exact z,acc'.toList,c',items_rel (X:=X) rel it,hl⟩
  exact⟨.ref s.heap.objs.size,_,I2,rfl,q _ (I.dZ.fresh (aa _))⟩
 ·exact h.elim
def fListD (m:Bool):iN:=fun ds μ K=>match ds with
 | [x]=>opt (dcv μ x) fun q=>nL m (q.1.map mW) μ K
 | _=>False
theorem keyVs_is {φ:List Addr}{H:Hp}:∀(kvs:List (Key×V)),dN φ H ((kvs.map (·.1)).map mW) (kvs.map fun kv=>kV kv.1)
 | []=>rfl
 | p::kvs=>⟨_,_,rfl,zg _,keyVs_is kvs⟩
theorem qu {m:Bool}:lP rListD (fListD m):=fun φ H vs ds μ K Q M h k L=>by
 unfold fListD at k
 split at k
 ·obtain⟨v,r,rfl,h1,h2⟩:=h;cases(show r=[]from h2)
  obtain⟨q,em,k⟩:=gb k
  obtain⟨p,kvs,rfl,rd,e1,ha⟩:=zD M h1 em
  refine⟨kvs,rd,fun p' hp'=>?_⟩
  rw[<- e1]at k
  exact al_n L M (keyVs_is kvs) k hp'
 ·exact k.elim
def dItF (w:De):DI:=fun ρ μ K=>w ρ μ fun d dJ=>match d with
 | .kK ks ds=>K (ks.map mW) (fun _=>True) dJ
 | _=>False
theorem zh {tg:Expr}{w:De}(h:PD X a w):PDI X tg a (dItF w):=(pi_dict h).imp fun σ H Q hq=>by
 obtain⟨φ,ρ,μ,K,A,M,k,L⟩:=hq
 refine⟨φ,ρ,μ,_,A,M,k,fun d dJ ee v1 H1 k1 f1 M1 i1=>?_⟩
 cases d with
 | kK ks ds =>
  have i1':=i1
  obtain⟨p,o,kvs,vs,rfl,hn,h1,rfl,rfl,h3⟩:=i1
  refine⟨p,kvs,rfl,.inr ⟨o,h1,L _ _ _ ee _ _ k1 f1 M1 fun eB H' μ' f' M' c i=>?_⟩⟩
  have h1':=f'.keep _ _ hn h1
  refine⟨fun d hd=>⟨⟨?_,h1'⟩,fun x H'' hy=>?_⟩,fun hi=>⟨by rw[hi,fg,fg];exact aa _,h1'⟩⟩
  ·have:=(lE hd).1
   rw[fg,fg]at this
   exact this
  ·obtain⟨rfl,q,hq,rfl⟩:=hy
   rw[tK,tK,hq]at hd
   cases hd
   exact⟨.refl _ _,M',zg _⟩
 | _=>exact k1.elim
def Itvf (a:Addr)(o:Obj)(kvs:List (Key×V)):It:=⟨fun i H=>i<kvs.length/\H a=some (.kI o (.dK kvs)),fun i H x H'=>H'=H/\∃ p,kvs[i]?=some p/\x=p.2,fun i H=>kvs.length<=i/\H a=some (.kI o (.dK kvs))⟩
theorem vk {κ:Type}{kvs:List (κ×V)}{vs:List (κ×Value)}(h:KV kvs vs):∀ {i:Nat} {p:κ×V},kvs[i]?=some p->∃ v,vs[i]?=some (p.1,v)/\RelV p.2 v:=by
 unfold KV at h
 induction h with
 | nil=>intro i p e;simp at e
 | @cons a b as bs r _ ih =>
  intro i p e
  cases i with
  | zero =>
   simp at e
   subst e
   refine⟨b.2,?_,r.2⟩
   rw[r.1];rfl
  | succ i=>exact ih (by simpa using e)
theorem yd {P:Program}{w:World}{K:PySem.W.Frag}{tg:Expr}(a it:Addr){o:Obj}{kvs:List (Key×V)}{vs:List (Key×Value)}{ep:Nat}(kv:KV kvs vs)(hd:∀ h:Heap,h.get? a=some o->h.DictAt (eS P w) a vs ep) :
 Turn P w K tg (Itvf a o kvs) [it] it (fun i h=>h.IsValIter it a i vs.length ep) where
 mem:=by simp
 obj:=fun i h st b hb=>by
  have e:b=it:=by simpa using hb
  subst e
  obtain⟨o,e,c,d⟩:=st
  exact⟨o,e,fun v z=>by rw[d]at z;cases z⟩
 keep:=fun i h h' st k=>by
  obtain⟨o,e,c⟩:=st
  exact⟨o,k it (by simp) o e,c⟩
 item:=by
  intro X hP hw hK hc i pins s σ H E I hf st hg
  subst hP hw hK
  obtain⟨hi,hq⟩:=hg
  obtain⟨p,hp⟩:∃ p,kvs[i]?=some p:=⟨_,tL hi⟩
  obtain⟨v,hv,rv⟩:=vk kv hp
  have ho:s.heap.get? a=some o:=(show fo X.prog X.w H s.heap a (.kI o (.dK kvs))from I.dZ a _ hq).1
  obtain⟨f0,f1,f2,f3,f4,f5⟩:=hf it (by simp)
  refine wpAny_pyNext_values_item st (hd _ ho) hv fun h' st' sb=>?_
  have I1:Inv X pins σ H { s with heap:=h'}:=I.turned (t':=s.toks) (fun b o hb e=>(sb.2 b hb).trans e) f0 f1 f3 f4 f5
  obtain⟨oi,e,c,d⟩:=id st'
  exact⟨v,rfl,xN (s:={ s with heap:=h'}) e c d (by decide) ⟨p.2,H,I1,rv,⟨rfl,p,hp,rfl⟩,st',fun b hb=>(hf b hb).1⟩⟩
 done:=by
  intro X hP hw hK hc i pins s σ H E I hf st hg
  subst hP hw hK
  obtain⟨hi,hq⟩:=hg
  have ho:s.heap.get? a=some o:=(show fo X.prog X.w H s.heap a (.kI o (.dK kvs))from I.dZ a _ hq).1
  obtain⟨f0,f1,f2,f3,f4,f5⟩:=hf it (by simp)
  have hl:=KV.length kv
  exact wpAny_pyNext_values_end (I.ok.hd hc) st (hd _ ho) (List.getElem?_eq_none_iff.mpr (by omega)) fun h' eb=>⟨rfl,I.turned (t':=s.toks) (fun b o hb e=>eb b o hb e) f0 f1 f3 f4 f5⟩
 self:=fun _ _ _ _ _ st h=>wpAny_pyIter_valiter st h
end
section
variable {X:Cx}{a b e o:Expr}{es:List Expr}{pos apos fX:Pos}{tg:Expr}
theorem dict_at {pins:List (Addr×Obj)}{σ:St}{H:Hp}{s:Shared}{p:Addr}{kvs:List (Key×V)}(I:Inv X pins σ H s)(rd:Rd H p (.dK kvs)):s.TypeIs (.ref p) "dict"/\∀ a,Value.ref p=.ref a->∃ ob,s.heap.get? a=some ob/\ob.dict=none:=by
 obtain⟨_,_,_,_,ob,_,_,e,ex,_⟩:=lG I.dZ rd
 exact⟨⟨ob,e,ex.1⟩,fun a e2=>by cases e2;exact⟨ob,e,ex.2.1⟩⟩
theorem xB {t:TE}{pins:List (Addr×Obj)}{σ:St}{H:Hp}{s:Shared}{Q:Value->Shared->Prop}(ho:PE X o t)(I:Inv X pins σ H s)
 (h:t σ H fun x H1=>∃ d kvs,x=.ref d/\Rd H1 d (.dK kvs)/\∀ s1,Inv X pins σ H1 s1->∀ v,v<s1.heap.objs.size->(∀ b,H1 b≠none->b≠v)->H1 v=none->s1.heap.IsValuesView v d->Q (.ref v) s1)
 (l6:attributeBase o "values" X.env (eval o X.env)=eval o X.env:=by rfl) (l5:(apos.endLine==fX.line)=true:=by rfl):wpAny (model X.prog X.w) X.A (eval (.Call (.Attribute o "values" apos) [] [] fX) X.env) Q X.xe s:=by
 refine wpAny_Call_method0_late l6 l5 (fq (ho pins s σ H _ I h) fun v s1 hq=>?_)
 obtain⟨x,H1,I1,r1,d,kvs,ex,rd,q⟩:=hq
 subst ex
 cases r1
 obtain⟨z,hd,vs,rel,dd⟩:=lG I1.dZ rd
 obtain⟨h1,h2⟩:=dict_at I1 rd
 refine⟨"dict", "dict.values",F.plainAttrs_dict,F.slot_dict_values,F.type_dict_values,h1,h2,cx rfl (PySem.evalArgs_none ?_)⟩
 refine call_meetsIn F.slot_dict_values h1 F.entry_dict_values (F.args_dict_values_1 _) (meets_dict_values (eS X.prog X.w) d hd) ⟨⟨vs,dd⟩,?_⟩
 exact q _ (I1.kept (t':=s1.toks) fun b o e=>iV _ e) s1.heap.objs.size (by show _<(s1.heap.objs.push _).size;rw[Array.size_push];exact bP _) (fun b hb e=>hb (by rw[e];exact I1.dZ.fresh (aa _))) (I1.dZ.fresh (aa _)) ⟨_,av _ rfl,rfl,rfl⟩
def dItVF (w:De):DI:=fun ρ μ K=>w ρ μ fun d dJ=>match d with
 | .kK ks ds=>ks.length=ds.length->K ds (fun _=>True) dJ
 | _=>False
theorem sA {w:De}(h:PD X o w)(l6:attributeBase o "values" X.env (eval o X.env)=eval o X.env:=by rfl)(l5:(apos.endLine==fX.line)=true:=by rfl):PDI X tg (.Call (.Attribute o "values" apos) [] [] fX) (dItVF w):=by
 intro pins s σ H R I hq
 obtain⟨φ,ρ,μ,K,A,M,k,L⟩:=hq
 refine xB h I ⟨φ,ρ,μ,_,A,M,k,fun d dJ ee v1 H1 k1 f1 M1 i1=>?_⟩ l6 l5
 cases d with
 | kK ks ds =>
  obtain⟨p,oo,kvs,vs,rfl,hn,h1,rfl,rfl,h3⟩:=i1
  refine⟨p,kvs,rfl,.inr ⟨oo,h1⟩,fun s1 I1 v hv hne hvn view=>?_⟩
  obtain⟨o',vs',ep,kv,hd,da,hs,I2⟩:=freeze I1 (.inr ⟨oo,h1⟩)
  have ho:s1.heap.get? p=some oo:=(show fo X.prog X.w H1 s1.heap p (.kI oo (.dK kvs))from I1.dZ p _ h1).1
  have vH:s1.heap.get? p=some o':=(show fo X.prog X.w _ s1.heap p (.kI o' (.dK kvs))from I2.dZ p _ dH).1
  rw[ho]at vH
  cases vH
  refine wpAny_pyIter_values view da ?_
  have hl:ds.length=kvs.length:=by have:=h3.len;rw[fg]at this;exact this.symm
  refine⟨s1.heap.objs.size,[s1.heap.objs.size],_,_,H1,rfl,I1.kept (t':=s1.toks) fun b o e=>iV _ e,yd p _ kv hd,⟨_,av _ rfl,rfl,rfl⟩,fun b hb=>?_,?_⟩
  ·have e:b=s1.heap.objs.size:=by simpa using hb
   subst e
   exact I1.fpOk (aa _) (I1.dZ.fresh (aa _))
  ·refine L _ _ _ ee _ _ (k1 (by rw[fg,hl])) f1 M1 fun eB H' μ' f' M' c i=>?_
   have h1':=f'.keep _ _ hn h1
   refine⟨fun d hd=>⟨⟨?_,h1'⟩,fun x H'' hy=>?_⟩,fun hi=>⟨by omega,h1'⟩⟩
   ·have:=(lE hd).1
    omega
   ·obtain⟨rfl,q,hq,rfl⟩:=hy
    obtain⟨v',e1,e2⟩:=(h3.mono f').get hd
    rw[tK,hq]at e1
    cases e1
    exact⟨.refl _ _,M',e2⟩
 | _=>exact k1.elim
def dListV (m:Bool)(w:De):De:=fun ρ μ K=>w ρ μ fun d dJ=>opt (dcv dJ d) fun q=>nL m q.2 dJ K
theorem vals_rel {kvs:List (Key×V)}{vs:List (Key×Value)}{acc:Array Value}(kv:KV kvs vs)(h:ItemsOf (fun i v=>∃ k,vs[i]?=some (k,v)) acc vs.length):Vals (kvs.map (·.2)) acc.toList:=by
 refine Vals.vt (by rw[fg,kv.length,<- h.1];exact(bW (xs:=acc)).symm) fun i x u e1 e2=>?_
 rw[tK]at e1
 cases q:kvs[i]? with
 | none=>rw[q]at e1;cases e1
 | some p =>
  rw[q]at e1;cases e1
  obtain⟨v,hv,rv⟩:=vk kv q
  obtain⟨k,e3⟩:=h.2 i u (by rw[<- Array.getElem?_toList];exact e2)
  rw[hv]at e3;cases e3
  exact rv
theorem d_listVals (m:Bool){w:De}{p:Pos}(calm:X.calm=true)(hg:Gl X "list")(hm:X.mg "list"=none)(h:PD X o w)(l6:attributeBase o "values" X.env (eval o X.env)=eval o X.env:=by rfl)(l5:(apos.endLine==fX.line)=true:=by rfl)
 (hs3:starEach [.Call (.Attribute o "values" apos) [] [] fX] X.env=[(false,eval (.Call (.Attribute o "values" apos) [] [] fX) X.env)]:=by rfl) :
 PD X (.Call (.Name "list" p) [.Call (.Attribute o "values" apos) [] [] fX] [] pos) (dListV m w):=by
 intro pins s σ H Q I hq
 refine bO (oF I hg hm boot_list ?_)
 obtain⟨φ,ρ,μ,K,A,M,k,L⟩:=hq
 refine bw ?_ hs3 rfl
 rw[hs3]
 show wpAny _ _ (spliced ((false,eval (.Call (.Attribute o "values" apos) [] [] fX) X.env)::backTo pos [])) _ _ s
 refine Calls.spliced_cons ?_
 refine xB h I ⟨φ,ρ,μ,_,A,M,k,fun d dJ ee v1 H1 k1 f1 M1 i1=>?_⟩ l6 l5
 obtain⟨q,em,k1⟩:=gb k1
 obtain⟨p',kvs,rfl,rd,e1,ha⟩:=zD M1 i1 em
 refine⟨p',kvs,rfl,rd,fun s1 I1 v hv hne hvn view=>Calls.spliced_nil ?_⟩
 obtain⟨z,hd,vs,rel,dd⟩:=lG I1.dZ rd
 obtain⟨ep,da⟩:=dd.dictAt
 refine PySem.W.kdl_call (PySem.W.kdl_values (knd:=eS X.prog X.w) (kvs:=vs) (ep:=ep)) (I1.ok.hd calm) ⟨view,da⟩ (by rw[<- rel.length];exact z) fun h' tk acc' c' kp hl it=>?_
 have I2:Inv X pins σ (upd H1 s1.heap.objs.size (.lst (kvs.map (·.2)))) { s1 with heap:=h',toks:=tk}:=I1.laid (a:=s1.heap.objs.size) (o:=.lst _) (t':=tk) kp (aa _) ⟨by rw[fg];exact z,acc'.toList,c',vals_rel rel it,hl⟩
 exact⟨.ref s1.heap.objs.size,_,I2,rfl,al_n (L.mono f1) M1 ha k1 (I1.dZ.fresh (aa _))⟩
end
theorem ub:entryFor table "dict_itemiterator.__iter__"=some Builtin.«dict_keyiterator.__iter__»:=entryFor_alias (id (Eq.refl (fastTable "dict_itemiterator.__iter__"))) rfl (by decide +kernel) (id (Eq.refl (fastTable "dict_keyiterator.__iter__")))
theorem pyIter_item {prog:Program}{w:World}{A:Around}{E:Value->Shared->Prop}{s:Shared}{it d:Addr}{i n ep:Nat}{ok ov:Value}{Q:Value->Shared->Prop}(st:IsItemIter s.heap it d i n ep ok ov)(h:Q (.ref it) s):wpAny (model prog w) A (pyIter (.ref it)) Q E s:=by
 have hT:s.TypeIs (.ref it) "dict_itemiterator":=⟨_,st,rfl⟩
 refine wpAny_pyIter_slot hT F.slot_dict_itemiterator_iter ?_
 refine bN F.slot_dict_itemiterator_iter hT ub ?_ (F.args_dict_itemiterator_iter_1 _)
 unfold Builtin.«dict_keyiterator.__iter__»
 have hn:typeLookup (.type "dict_itemiterator") "__next__"=pure (some (.builtin "dict_itemiterator.__next__")):=F.slot_dict_itemiterator_next.lookup
 exact aj ⟨.ref it,rfl,_,_,hT,hn,h⟩
def Iti (a:Addr)(o:Obj)(kvs:List (Key×V)):It:=⟨fun i H=>i<kvs.length/\H a=some (.kI o (.dK kvs)),fun i H x H'=>∃ T p,x=.ref T/\H T=none/\kvs[i]?=some p/\H'=upd H T (.tup [kV p.1,p.2]),fun i H=>kvs.length<=i/\H a=some (.kI o (.dK kvs))⟩
theorem turn_items {P:Program}{w:World}{K:PySem.W.Frag}{elts:List Expr}{kk:Nat}{qm:Pos}(a it:Addr){o:Obj}{kvs:List (Key×V)}{vs:List (Key×Value)}{ep:Nat}(kv:KV kvs vs)(hd:∀ h:Heap,h.get? a=some o->h.DictAt (eS P w) a vs ep) :
 Turn P w K (.Tuple elts kk qm) (Iti a o kvs) [it] it (fun i h=>∃ ok ov,IsItemIter h it a i vs.length ep ok ov) where
 mem:=by simp
 obj:=fun i h st b hb=>by
  have e:b=it:=by simpa using hb
  subst e
  obtain⟨ok,ov,e⟩:=st
  exact⟨_,e,fun v z=>by cases z⟩
 keep:=fun i h h' st k=>by
  obtain⟨ok,ov,e⟩:=st
  exact⟨ok,ov,k it (by simp) _ e⟩
 item:=by
  intro X hP hw hK hc i pins s σ H E I hf st hg
  subst hP hw hK
  obtain⟨ok,ov,st⟩:=st
  obtain⟨hi,hq⟩:=hg
  obtain⟨p,hp⟩:∃ p,kvs[i]?=some p:=⟨_,tL hi⟩
  obtain⟨v,hv,rv⟩:=vk kv hp
  have ho:s.heap.get? a=some o:=(show fo X.prog X.w H s.heap a (.kI o (.dK kvs))from I.dZ a _ hq).1
  refine wpAny_pyNext_items_item st (hd _ ho) hv fun key h1 hkey out hT hsz kp1=>?_
  refine⟨_,rfl,wpAny_letOwnedTupleGo_items (s:={ s with heap:=h1}) out fun h2 st2 hs2=>?_⟩
  have lte:it<s.heap.objs.size:=jj st
  have ne1:s.heap.objs.size≠it:=bg lte
  have hT2:IsPair h2 s.heap.objs.size key v:=(hs2.2 _ ne1).trans hT
  have kp:∀ b o,b∉[it]->s.heap.get? b=some o->h2.get? b=some o:=fun b o hb q=>by
   have b1:b≠it:=fun z=>hb (by simp[z])
   exact(hs2.2 b b1).trans (kp1 b o b1 q)
  have hn:H s.heap.objs.size=none:=I.dZ.fresh (aa _)
  have I1:=I.turnT (ch:=[it]) (h'':=h2) (x:=kV p.1) (y:=p.2) hf kp hT2 (kV_of hkey) rv
  refine⟨.ref s.heap.objs.size,_,I1,rfl,⟨_,p,rfl,hn,hp,rfl⟩,⟨_,_,st2⟩,fun b hb=>?_⟩
  rw[dR]
  ·exact(hf b hb).1
  ·have e:b=it:=by simpa using hb
   rw[e];exact aB lte
 done:=by
  intro X hP hw hK hc i pins s σ H E I hf st hg
  subst hP hw hK
  obtain⟨ok,ov,st⟩:=st
  obtain⟨hi,hq⟩:=hg
  have ho:s.heap.get? a=some o:=(show fo X.prog X.w H s.heap a (.kI o (.dK kvs))from I.dZ a _ hq).1
  obtain⟨f0,f1,f2,f3,f4,f5⟩:=hf it (by simp)
  have hl:=KV.length kv
  exact wpAny_pyNext_items_end (I.ok.hd hc) st (hd _ ho) (List.getElem?_eq_none_iff.mpr (by omega)) fun h' eb=>⟨rfl,I.turned (t':=s.toks) (fun b o hb e=>eb b o hb e) f0 f1 f3 f4 f5⟩
 self:=fun _ _ _ _ _ st h=>let ⟨_,_,e⟩:=st;pyIter_item e h
section
variable {X:Cx}{a b e o:Expr}{es:List Expr}{pos apos fX:Pos}{tg:Expr}
theorem pe_items {t:TE}{pins:List (Addr×Obj)}{σ:St}{H:Hp}{s:Shared}{Q:Value->Shared->Prop}(ho:PE X o t)(I:Inv X pins σ H s)
 (h:t σ H fun x H1=>∃ d kvs,x=.ref d/\Rd H1 d (.dK kvs)/\∀ s1,Inv X pins σ H1 s1->∀ v,s1.heap.IsItemsView v d->Q (.ref v) s1)
 (l6:attributeBase o "items" X.env (eval o X.env)=eval o X.env:=by rfl) (l5:(apos.endLine==fX.line)=true:=by rfl):wpAny (model X.prog X.w) X.A (eval (.Call (.Attribute o "items" apos) [] [] fX) X.env) Q X.xe s:=by
 refine wpAny_Call_method0_late l6 l5 (fq (ho pins s σ H _ I h) fun v s1 hq=>?_)
 obtain⟨x,H1,I1,r1,d,kvs,ex,rd,q⟩:=hq
 subst ex
 cases r1
 obtain⟨z,hd,vs,rel,dd⟩:=lG I1.dZ rd
 obtain⟨h1,h2⟩:=dict_at I1 rd
 refine⟨"dict", "dict.items",F.plainAttrs_dict,F.slot_dict_items,F.type_dict_items,h1,h2,cx rfl (PySem.evalArgs_none ?_)⟩
 refine call_meetsIn F.slot_dict_items h1 F.entry_dict_items (F.args_dict_items_1 _) (meets_dict_items (eS X.prog X.w) d hd) ⟨⟨vs,dd⟩,?_⟩
 exact q _ (I1.kept (t':=s1.toks) fun b o e=>iV _ e) s1.heap.objs.size ⟨_,av _ rfl,rfl,rfl⟩
def dItI (w:De):DI:=fun ρ μ K=>w ρ μ fun d dJ=>match d with
 | .kK ks ds=>ks.length=ds.length->K (List.zipWith (fun k d=>D.tup [mW k,d]) ks ds) (fun _=>True) dJ
 | _=>False
theorem i_itemsF {elts:List Expr}{kk:Nat}{qm:Pos}{w:De}(h:PD X o w)(l6:attributeBase o "items" X.env (eval o X.env)=eval o X.env:=by rfl)(l5:(apos.endLine==fX.line)=true:=by rfl):PDI X (.Tuple elts kk qm) (.Call (.Attribute o "items" apos) [] [] fX) (dItI w):=by
 intro pins s σ H R I hq
 obtain⟨φ,ρ,μ,K,A,M,k,L⟩:=hq
 refine pe_items h I ⟨φ,ρ,μ,_,A,M,k,fun d dJ ee v1 H1 k1 f1 M1 i1=>?_⟩ l6 l5
 cases d with
 | kK ks ds =>
  obtain⟨p,oo,kvs,vs,rfl,hn,h1,rfl,rfl,h3⟩:=i1
  refine⟨p,kvs,rfl,.inr ⟨oo,h1⟩,fun s1 I1 v view=>?_⟩
  obtain⟨o',vs',ep,kv,hd,da,hs,I2⟩:=freeze I1 (.inr ⟨oo,h1⟩)
  have ho:s1.heap.get? p=some oo:=(show fo X.prog X.w H1 s1.heap p (.kI oo (.dK kvs))from I1.dZ p _ h1).1
  have vH:s1.heap.get? p=some o':=(show fo X.prog X.w _ s1.heap p (.kI o' (.dK kvs))from I2.dZ p _ dH).1
  rw[ho]at vH
  cases vH
  refine wpAny_pyIter_items view da ?_
  have hl:ds.length=kvs.length:=by have:=h3.len;rw[fg]at this;exact this.symm
  refine⟨s1.heap.objs.size,[s1.heap.objs.size],_,_,H1,rfl,I1.kept (t':=s1.toks) fun b o e=>iV _ e,turn_items p _ kv hd,⟨_,_,av _ rfl⟩,fun b hb=>?_,?_⟩
  ·have e:b=s1.heap.objs.size:=by simpa using hb
   subst e
   exact I1.fpOk (aa _) (I1.dZ.fresh (aa _))
  ·refine L _ _ _ ee _ _ (k1 (by rw[fg,hl])) f1 M1 fun eB H' μ' f' M' c i=>?_
   have h1':=f'.keep _ _ hn h1
   have lz:(List.zipWith (fun k d=>D.tup [mW k,d]) (kvs.map (·.1)) ds).length=kvs.length:=by rw[List.length_zipWith,fg,hl,Nat.min_self]
   refine⟨fun d hd=>⟨⟨?_,h1'⟩,fun x H'' hy=>?_⟩,fun hi=>⟨by omega,h1'⟩⟩
   ·have:=(lE hd).1
    omega
   ·obtain⟨T,q,rfl,hT,hq,rfl⟩:=hy
    rw[List.getElem?_zipWith,tK,hq]at hd
    cases e1:ds[i]? with
    | none=>rw[e1]at hd;cases hd
    | some dd =>
     rw[e1]at hd
     cases hd
     obtain⟨v',e2,e3⟩:=(h3.mono f').get e1
     rw[tK,hq]at e2
     cases e2
     have fn:=Fr.new (φ:=eB) (o:=.tup [kV q.1,q.2]) hT
     exact⟨fn,M'.same (gd.upd hT),T,_,rfl,M'.fresh hT,dH,_,_,rfl,zg _,_,_,rfl,e3.mono fn,rfl⟩
 | _=>exact k1.elim
end
section
variable {prog:Program}{w:World}{A:Around}{E:Value->Shared->Prop}{s:Shared}
theorem bounds_runE {a c n:Nat}(hac:a<=c)(hc:c=n):sliceBounds (some (a:Int)) none none n=((a:Int),(c:Int),1):=by
 simp only[sliceBounds,Option.getD_none]
 have h1:¬ ((a:Int)<0):=by omega
 simp only[h1,if_false,show(1:Int)>0 by decide,if_true]
 congr 1
 ·omega
 ·congr 1;omega
set_option maxRecDepth 100000 in
theorem u6 {l b sl:Addr}{items new:Array Value}{n n2:Nat}{vl vu:Value}{a c:Nat}{Q:Unit->Shared->Prop}
 (e:s.heap.get? l=some { cls:=.type "list",data:=.seq items n}) (e2:s.heap.get? b=some { cls:=.type "list",data:=.seq new n2}) (hne:l≠b)
 (hs:s.heap.IsSliceOf sl vl vu .none) (pl:IsPart vl (some (a:Int))) (pu:IsPart vu none) (hcc:c=items.size) (hac:a<=c) (hc:c<=items.size)
 (hsz:items.size+new.size<=sizeLine) (h:Q () { s with heap:=s.heap.update l (Obj.mapSeq fun xs=>xs.extract 0 a++new++xs.extract c xs.size)}) :
 wpAny (model prog w) A (setItem (.ref l) (.ref sl) (.ref b)) Q E s:=by
 have hl:s.heap.IsList l items:=PySem.IsL.isList e
 have hb:s.heap.IsList b new:=PySem.IsL.isList e2
 obtain⟨os,hos,hcs,hds⟩:=id hs
 have hTs:s.TypeIs (.ref sl) "slice":=⟨os,hos,hcs⟩
 have hstep:¬ ((rawPart none==rawInt 0)=true):=aA
 have hsame:Builtin.List.listSameRef (.ref l) (.ref b)=false:=by
  unfold Builtin.List.listSameRef
  exact beq_eq_false_iff_ne.mpr hne
 have hmax:(max (a:Int) (c:Int)).toNat=c:=by omega
 have hz':((fun xs:Array Value=>xs.extract 0 a++new++xs.extract c xs.size) items).size<=sizeLine+1:=by
  simp only[Array.size_append,Array.size_extract]
  omega
 unfold setItem
 try with_reducible refine bG ?_
 first | refine dY (aj ?_) | skip
 refine dY (wpAny_sequenceKey hl.typeIs (by decide) ?_)
 refine dY (bA (name:=Str.ofString "__setitem__") hl.typeIs slot_list_setitem
  (bN slot_list_setitem hl.typeIs entry_list_setitem ?_ (args_list_setitem _ _ _)))
 show wpAny _ _ (Builtin.List.listSubscript? (.ref sl) >>= _) _ _ s
 refine dY ?_
 unfold Builtin.List.listSubscript?
 refine dY (wpAny_specialOf hTs slice_no_index ?_)
 simp only[Option.isNone_none,if_true]
 refine aj ?_
 show wpAny _ _ (typeOf (.ref sl) >>= _) _ _ s
 refine dY (wpAny_typeOf hTs ?_)
 first
  | rw[ae (by decide)]
  | refine PySem.W.KFB.if_not (by decide) ?_
 rw[listSliceParts_eq]
 refine dY (dY (aS hos hds (x:=.none) rfl (dY (wpAny_listPart .none ?_))))
 rw[ae hstep]
 refine dY (aS hos hds (x:=vl) rfl (dY (wpAny_listPart pl ?_)))
 refine dY (aS hos hds (x:=vu) rfl (dY (wpAny_listPart pu (aj ?_))))
 first
  | simp only[hsame,c4,if_false]
  | refine PySem.W.KFB.if_not hsame ?_
  | (dsimp only
     rw[ae (by rw[hsame];exact aA)])
 refine dY (m:=Builtin.List.listAllItems (.ref b) "must assign iterable to extended slice") ?_
 unfold Builtin.List.listAllItems
 refine dY (wpAny_typeOf hb.typeIs ?_)
 first
  | refine PySem.W.KFB.if_so (by decide) ?_
  | rw[ag (by decide)]
  | simp only[cm,Bool.true_or,if_true]
 unfold Builtin.List.listItems
 refine dY (bR e2 rfl (aj ?_))
 refine dY (dY (bR e rfl (aj ?_)))
 refine dY (wpAny_of_eq ((sliceIndices_raw (some (a:Int)) none none items.size (by simp)).trans (bI (pure:Int×Int×Int->Sem (Int×Int×Int)) (bounds_runE (c:=c) hac hcc))) ?_)
 show wpAny _ _ (if((1:Int)==1)=true then _ else _) _ _ s
 rw[ag (by decide)]
 refine dY (wpAny_rule ?_)
 first
  | simp only[vw hsz,c4,if_false]
  | refine PySem.W.KFB.if_not (vw hsz) ?_
 first | refine dY (aj ?_) | skip
 show wpAny _ _ (updateSeq l (fun xs=>xs.extract 0 ((a:Int)).toNat++new++xs.extract (max (a:Int) (c:Int)).toNat xs.size) >>= _) _ _ s
 rw[hmax,gxK]
 refine dY (wpAny_updateSeq (hz:=ar (aZ _ _) hsz) (_hz':=hz') e rfl ?_)
 refine dY (wpAny_letGo ?_)
 first
  | exact dY (aj (aj ⟨.none,rfl,aj h⟩))
  | exact aj ⟨.none,rfl,aj h⟩
end
def sH (it:D->MS->(Option (Key×D)->MS->Prop)->Prop)(c:MS->Prop)(μ:MS):List D->List (Key×D)->(List (Key×D)->Prop)->Prop
 | [],kvs,K=>c (μ++[.hJ (kvs.map (·.1)) (kvs.map (·.2))])/\K kvs
 | d::ds,kvs,K=>c (μ++[.hJ (kvs.map (·.1)) (kvs.map (·.2))])/\it d (μ++[.hJ (kvs.map (·.1)) (kvs.map (·.2))]) fun o μ'=>μ'=μ++[.hJ (kvs.map (·.1)) (kvs.map (·.2))]/\(match o with
  | some (k,y)=>sH it c μ ds (dput kvs k y) K
  | none=>sH it c μ ds kvs K)
def dCompM (wi:DI)(js:List (Option Nat))(y:DG)(t:Dt)(wk wv:De):De:=fun ρ μ K=>wi ρ μ fun ds c dJ=>ds.length<=sizeLine/\sH (dItemD (mE js ρ) y t wk wv) c dJ ds [] fun kvs=>K (.mr dJ.length) (dJ++[.hJ (kvs.map (·.1)) (kvs.map (·.2))])
theorem tD_compM {wi:DI}{js:List (Option Nat)}{g:TG}{y:DG}{S:List Nat}{t:Dt}{wk wv:De}(so:SoG g y S)(mo:mw g)(ho:oA S js=true){σ:St}{H:Hp}{Q:VK}(h:tD (dCompM wi js y t wk wv) σ H Q):tCompD (tDI wi) js g (wO t) (tD wk) (tD wv) σ H Q:=by
 obtain⟨φ,ρ,μ,K,A,M,k,L⟩:=h
 refine⟨φ,ρ,μ,_,A,M,k,fun ds c dJ ee J H1 k1 f1 M1 wk' D hD=>?_⟩
 obtain⟨hz,k1⟩:=k1
 have hDf:D∉ee:=M1.fresh hD
 have fD:Fr ee H1 (ee++[D]) (upd H1 D (.dK [])):=⟨(Fr.snoc (φ:=ee) hD).ext,fun c u _ e=>gd.upd hD _ _ e,fun c e=>(gd.upd hD).free e⟩
 obtain⟨MD,_⟩:=M1.snoc (m:=.hJ [] []) (o:=.dK []) hD ⟨[],[],dH,rfl,rfl,rfl⟩
 have hp:(ee++[D])[dJ.length]?=some D:=by rw[p6 (by rw[M1.len];exact aa _),M1.len,aR];rfl
 refine⟨fun i n kv H'=>n=ds.length - i/\i<=ds.length/\∃ kvs:List (Key×L2.D),kvs.length<=i/\Fr ee H1 (ee++[D]) H'/\d8 (ee++[D]) H' (dJ++[.hJ (kvs.map (·.1)) (kvs.map (·.2))])/\sH (dItemD (mE js ρ) y t wk wv) c dJ (ds.drop i) kvs fun kvs=>K (.mr dJ.length) (dJ++[MO.hJ (kvs.map (·.1)) (kvs.map (·.2))]),
  ⟨ds.length,rfl,aW _,[],aW _,fD,MD,k1⟩,?_⟩
 rintro i n kv H' ⟨rfl,hi,kvs,hkl,f',M',w'⟩
 by_cases rW:i<ds.length
 ·rw[cK rW]at w'
  obtain⟨c',w'⟩:=w'
  obtain⟨go,yld⟩:=(wk' _ H' _ f' M' c' i).1 ds[i] (tL rW)
  refine .inr ⟨go,fun x H2 hy2=>?_⟩
  obtain⟨f2,M2,i2⟩:=yld x H2 hy2
  have E2:iF (ee++[D]) H2 (mE js ρ) (ft js σ):=((A.mono (f1.trans (f'.trans f2))).ft js)
  refine mo _ _ _ _ _ (fun σ3 H3 qY=>?_) (so _ H2 _ _ _ _ x _ E2 M2 i2 w')
  obtain⟨e3,l3,n3,ρ3,E3,k3⟩:=qY
  refine⟨ext_of ho l3 n3,?_⟩
  subst e3
  refine⟨_,ρ3,_,_,E3,M2,k3,fun b μ4 φ4 H4 k4 f4 M4=>?_⟩
  cases b with
  | true =>
   refine⟨φ4,ρ3,μ4,_,E3.mono f4,M4,k4,fun d5 μ5 φ5 v5 H5 k5 f5 M5 i5=>?_⟩
   obtain⟨kk,ekk,k5⟩:=gb k5
   refine⟨φ5,ρ3,μ5,_,E3.mono (f4.trans f5),M5,k5,fun d6 μ6 φ6 v6 H6 k6 f6 M6 i6=>?_⟩
   obtain⟨e6,w6⟩:=k6
   subst e6
   have ff:=f2.trans (f4.trans (f5.trans f6))
   have ef:φ6=ee++[D]:=ff.noext (by rw[M6.len,M'.len])
   subst ef
   obtain⟨p,e1,kv',vs,e2,e3',e4,e5⟩:=M6.at_ dJ.length _ (by rw[p6 (aa _),aR];rfl)
   rw[hp]at e1
   cases e1
   subst e4
   have hl':kv'.length=kvs.length:=by have:=bI List.length e3';rwa [fg,fg]at this
   have f7:Fr (ee++[D]) H6 (ee++[D]) (upd H6 D (.dK (putK kv' kk v6))):=.put (aD _ (List.mem_singleton.mpr rfl))
   obtain⟨g1,g2⟩:=dput_rel (k:=kk) (i6.mono f7) e3' (e5.mono f7)
   refine⟨kk,kv',mX ekk i5,e2,by omega,ds.length - (i+1),by omega,rfl,rW,dput kvs kk d6,by have:=dput_len kvs kk d6;omega,(f'.trans ff).trans f7,?_,w6⟩
   have q:=M6.put (k:=dJ.length) (p:=D) (o:=.dK (putK kv' kk v6)) (m:=.hJ ((dput kvs kk d6).map (·.1)) ((dput kvs kk d6).map (·.2))) hp ⟨putK kv' kk v6,_,dH,g1,rfl,g2⟩
   have e:(dJ++[MO.hJ (kvs.map (·.1)) (kvs.map (·.2))]).set dJ.length (.hJ ((dput kvs kk d6).map (·.1)) ((dput kvs kk d6).map (·.2)))=dJ++[.hJ ((dput kvs kk d6).map (·.1)) ((dput kvs kk d6).map (·.2))]:=fM
   rw[e]at q
   exact q
  | false =>
   obtain⟨e4,w4⟩:=k4
   subst e4
   have ff:=f2.trans f4
   have ef:φ4=ee++[D]:=ff.noext (by rw[M4.len,M'.len])
   subst ef
   exact⟨ds.length - (i+1),by omega,rfl,rW,kvs,by omega,f'.trans ff,M4,w4⟩
 ·have e:i=ds.length:=by omega
  subst e
  rw[List.drop_length]at w'
  exact .inl ⟨(wk' _ H' _ f' M' w'.1 _).2 rfl,L _ _ _ _ H' w'.2 (f1.trans f') M' ⟨D,hp,rfl⟩⟩
section
variable {X:Cx}{N:List Str}{sc:Scope}{js:List (Option Nat)}{tg iter kx vx:Expr}{ifs:List Expr}{g:TG}{y:DG}{S:List Nat}{t:Dt}{wk wv:De}
theorem d_compM {wi:DI}{pos:Pos}(hc:gT X N js sc)(calm:X.calm=true)(so:SoG g y S)(mo:mw g)(ho:oA S js=true)(hi:PDI X tg iter wi)(hg:∀ fp s H,PG (wK X N sc fp s H) tg g)
 (ht:∀ fp s H,xo (wK X N sc fp s H) ifs t) (hk:∀ fp s H,PD (wK X N sc fp s H) kx wk) (hv:∀ fp s H,PD (wK X N sc fp s H) vx wv)
 (hs:∀ x,foldedSetIterable iter X.env x=pure x:=by intro _;rfl):PD X (.DictComp kx vx [⟨tg,iter,ifs,0⟩] sc pos) (dCompM wi js y t wk wv):=(pe_compD hc calm hi hg ht hk hv hs).imp fun σ H Q h=>tD_compM so mo ho h
end
section
variable {X:Cx}{a b e o:Expr}{es:List Expr}{pos:Pos}
def sSlE (to tl tv:TE):TS:=fun D σ H=>tv σ H fun v H1=>to σ H1 fun x H2=>tl σ H2 fun i H3=>∃ l b xs ys k,x=.ref l/\v=.ref b/\i=.int k/\H3 l=some (.lst xs)/\H3 b=some (.lst ys)/\l≠b/\0<=k/\k<=xs.length/\xs.length+ys.length<=sizeLine/\D.nx σ (upd H3 l (.lst (xs.take k.toNat++ys)))
theorem ps_slE {to tl tv:TE}{lo value:Expr}{p pos':Pos}(ho:PE X o to)(hl:PE X lo tl)(hv:PE X value tv)(hs:swapsWith value (some (.Subscript o (.Slice (some lo) none none p) pos')) pos.line X.env=pure false:=by rfl) :
 PS X (.Assign [.Subscript o (.Slice (some lo) none none p) pos'] value pos) (sSlE to tl tv):=by
 intro pins s σ H D I h
 refine wpAny_Assign_Subscript (fq (hv pins s σ H _ I h) fun r s1 nP=>?_) hs
 obtain⟨v,H1,I1,rv,q1⟩:=nP
 refine fq (ho pins s1 σ H1 _ I1 q1) fun u s2 pI=>?_
 obtain⟨x,H2,I2,rx,q2⟩:=pI
 refine wpAny_Slice (fq (hl pins s2 σ H2 _ I2 q2) fun iv s3 p5=>?_)
 obtain⟨i,H3,I3,ri,l,b,xs,ys,k,ex,ev,ei,hH,hB,hne,h0,hk,hz,q⟩:=p5
 subst ex ev ei
 cases rx
 cases rv
 obtain⟨t,rfl⟩:=ri
 refine aj (aj ?_)
 have I4:Inv X pins σ H3 { s3 with heap:=s3.heap.push { cls:=.type "slice",data:=.fields #[.int k t,.none,.none]}}:=I3.kept (t':=s3.toks) fun b o e=>iV _ e
 obtain⟨z,d9,n,r,hl,e⟩:=I4.vB hH
 obtain⟨z2,pX,n2,r2,hl2,e2⟩:=I4.vB hB
 obtain⟨a',rfl⟩:=Int.eq_ofNat_of_zero_le h0
 refine u6 (a:=a') (c:=d9.length) (sl:=s3.heap.objs.size) (vl:=.int a' t) (vu:=.none) e e2 hne ⟨_,av _ rfl,rfl,rfl⟩ (.int _ _) .none (by rw[au]) (by omega) (by rw[au];exact aa _) (by rw[au,au];omega) ?_
 have I5:=I4.lset (its':=d9.take a'++pX) (ys:=xs.take a'++ys) (t':=s3.toks) hH e (f:=fun xs=>xs.extract 0 a'++pX.toArray++xs.extract d9.length xs.size) (by
  have:=splice_eq d9 pX a' d9.length
  rw[List.drop_length,aN]at this
  exact this) (Vals.append (r.take _) r2) (by rw[kH,aP];omega)
 exact⟨σ,_,I5,by simpa using q⟩
def dSlE (wo wl wv:De):Ds:=fun N ρ μ=>wv ρ μ fun v dJ=>wo ρ dJ fun x eW=>wl ρ eW fun i nO=>match x,v,i with
 | .mr j,.lst ys,.int k=>∃ xs,zf nO j=some xs/\0<=k/\k<=xs.length/\xs.length+ys.length<=sizeLine/\N.nx ρ (nO.set j (.lst (xs.take k.toNat++ys)))
 | _,_,_=>False
theorem s_slE {wo wl wv:De}{lo value:Expr}{p pos':Pos}(ho:PD X o wo)(hl:PD X lo wl)(hv:PD X value wv)(hs:swapsWith value (some (.Subscript o (.Slice (some lo) none none p) pos')) pos.line X.env=pure false:=by rfl) :
 wC X (.Assign [.Subscript o (.Slice (some lo) none none p) pos'] value pos) (dSlE wo wl wv):=(ps_slE ho hl hv hs).imp fun E σ H hq=>by
 obtain⟨φ,ρ,μ,N,A,M,w,L⟩:=hq
 refine⟨φ,ρ,μ,_,A,M,w,fun d1 dJ ee v1 H1 k1 f1 M1 i1=>?_⟩
 refine⟨ee,ρ,dJ,_,A.mono f1,M1,k1,fun d2 eW il v2 H2 k2 f2 M2 i2=>?_⟩
 refine⟨il,ρ,eW,_,A.mono (f1.trans f2),M2,k2,fun d3 nO yb v3 H3 k3 f3 M3 i3=>?_⟩
 split at k3
 ·rename_i j ys k
  obtain⟨xs,ex,h0,hk,hz,k3⟩:=k3
  cases(show v3=_ from i3)
  have i1':=i1.mono (f2.trans f3)
  obtain⟨pb,vb,rfl,nb,hb,ab⟩:=i1'
  obtain⟨p,hp,rfl⟩:=i2.mono f3
  obtain⟨p',e1,vs,hv,ha⟩:=M3.at_ j _ (pV ex)
  rw[hp]at e1;cases e1
  have ne:p≠pb:=fun z=>nb (by rw[<- z];exact zk hp)
  have f4:Fr yb H3 yb (upd H3 p (.lst (vs.take k.toNat++vb))):=.put (zk hp)
  have M4:=M3.put (k:=j) (p:=p) (o:=.lst (vs.take k.toNat++vb)) (m:=.lst (xs.take k.toNat++ys)) hp ⟨_,dH,((ha.take _).app ab).mono f4⟩
  exact⟨p,pb,vs,vb,k,rfl,rfl,rfl,hv,hb,ne,h0,by rw[ha.len];exact hk,by rw[ha.len,ab.len];exact hz,L.nx ρ _ yb σ _ k3 ((f1.trans (f2.trans f3)).trans f4) (A.mono ((f1.trans (f2.trans f3)).trans f4)) M4⟩
 ·exact k3.elim
def dAugF (C:Addr)(f:Str)(g:Int->Int->Int)(wo w:De):Ds:=fun N ρ μ=>wo ρ μ fun x dJ=>match x with
 | .mr k=>∃ i,(kQ C dJ k).bind (fun q=>lD f q.1 q.2)=some (.int i)/\w ρ dJ fun y eW=>match y with
  | .int j=>∃ q q':List Str×List D,kQ C eW k=some q/\putN f (.int (g i j)) q.1 q.2=q'/\q.1.length<1000/\N.nx ρ (eW.set k (.ins C q'.1 q'.2))
  | _=>False
 | _=>False
theorem tD_augF {C:Addr}{f:Str}{g:Int->Int->Int}{wo w:De}{rd:V->V->Hp->VK->Prop}(c:wL X.K C)(n:kN X.K C f)(hrd:∀ i j H Q,Q (.int (g i j)) H->rd (.int i) (.int j) H Q){E:Ends}{σ:St}{H:Hp}(hq:tDS (dAugF C f g wo w) E σ H):sFldAug X.K (tD wo) (tD w) rd f E σ H:=by
 obtain⟨φ,ρ,μ,N,A,M,k,L⟩:=hq
 refine⟨φ,ρ,μ,_,A,M,k,fun d1 dJ ee v1 H1 k1 f1 M1 i1=>?_⟩
 cases d1 with
 | mr k =>
  obtain⟨i,e1,k1⟩:=k1
  obtain⟨q,e2,e3⟩:=Option.bind_eq_some_iff.mp e1
  obtain⟨p,hp,rfl⟩:=i1
  obtain⟨p',e4,dx,fs,h1,h2,h3⟩:=M1.at_ k _ (qW e2)
  rw[hp]at e4;cases e4
  rw[<- h2]at e3
  obtain⟨v,l,iv⟩:=qO h3 e3
  cases(show v=_ from iv)
  refine⟨p,C,dx,fs,.int i,rfl,h1,c,n,l,?_⟩
  refine⟨ee,ρ,dJ,_,A.mono f1,M1,k1,fun d2 eW il v2 H2 k2 f2 M2 i2=>?_⟩
  cases d2 with
  | int j =>
   cases(show v2=_ from i2)
   obtain⟨q',_,e5,rfl,hl,k2⟩:=k2
   have hp2:=f2.get hp
   obtain⟨p',e4,dx',fs',g1,g2,g3⟩:=M2.at_ k _ (qW e5)
   rw[hp2]at e4;cases e4
   refine hrd _ _ _ _ ⟨dx',fs',g1,by rw[<- g2,fg]at hl;exact hl,?_⟩
   have f4:Fr il H2 il (upd H2 p (.ins C dx' (kF f (.int (g i j)) fs'))):=.put (zk hp2)
   obtain⟨y1,y2⟩:=yT (f:=f) (d:=.int (g i j)) (v:=.int (g i j)) (show ij il (upd H2 p (.ins C dx' (kF f (.int (g i j)) fs'))) (.int (g i j)) (.int (g i j))from rfl) (g3.mono f4)
   rw[g2]at y1 y2
   exact L.nx ρ _ il σ _ k2 ((f1.trans f2).trans f4) (A.mono ((f1.trans f2).trans f4)) (M2.put hp2 ⟨dx',_,dH,y1,y2⟩)
  | _=>exact k2.elim
 | _=>exact k1.elim
theorem s_augFA {C:Addr}{f:Str}{wo w:De}{qm:Pos}(c:wL X.K C)(n:kN X.K C f)(ho:PD X o wo)(hv:PD X e w):wC X (.AugAssign (.Attribute o f qm) .Add e pos) (dAugF C f (·+·) wo w):=(ps_fldaug ho hv in_add).imp fun E σ H hq=>tD_augF c n (fun i j H Q q=>⟨i,j,rfl,rfl,q⟩) hq
end
structure nN (P:Program)(w:World)(K:PySem.W.Frag)(mg:Str->Option Value)(base:Heap)(C:Addr)(m:Str)(k:Nat)(ps:List Str)(sp:Sp):Prop where
 ex:∃ f fd,d7 P w K mg base (mB P w) k f fd ps sp/\Meth K C m f/\Binds K fd ps []
structure CalIX (P:Program)(w:World)(K:PySem.W.Frag)(mg:Str->Option Value)(base:Heap)(x:Str)(C:Addr)(k:Nat)(ps:List Str)(sp:Sp):Prop where
 ex:∃ f fd,d7 P w K mg base (mB P w) k f fd ps sp/\Mk K C f/\mg x=some (.ref C)/\Binds K fd ps []
theorem pass1 {X:Cx}:Passes (mB X.prog X.w) X (fun _ _ _=>False):=fun pins σ H s e s' I c=>by
 obtain⟨_,_,_,_,_,_,_,_,_,_,_,z⟩:=c
 exact z.elim
section
variable {X:Cx}{a b e o:Expr}{es:List Expr}{pos:Pos}{C:Addr}{eI:List Addr}{H0:Hp}{Kx:DX}
theorem tD_methX {m:Str}{f:iM}{wo:De}{w:DA}{σ:St}{H:Hp}{Q:VK}{E:XK}{ok:MS->Prop}{Kx:DX}(hE:∀ φ μ H,d8 φ H μ->ok μ->rT φ H Kx E)(h:tD (fun ρ μ K=>wo ρ μ fun x dJ=>sZ C m dJ x/\w ρ dJ fun ds eW=>ok eW/\f (x::ds) eW K Kx) σ H Q):tMeth C m (jt f) [] E (tD wo) (tDA w) σ H Q:=by
 obtain⟨φ,ρ,μ,K,A,M,k,L⟩:=h
 refine⟨φ,ρ,μ,_,A,M,k,fun d1 dJ ee v1 H1 k1 f1 M1 i1=>?_⟩
 obtain⟨p,dx,fs,rfl,h1,h2⟩:=vg M1 i1 k1.1
 refine⟨p,dx,fs,rfl,h1,h2,ee,ρ,dJ,_,A.mono f1,M1,k1.2,fun ds eW il vs H2 k2 f2 M2 i2=>?_⟩
 show jt f (.ref p::(vs++[])) H2 Q E
 rw[aN]
 exact⟨il,d1::ds,eW,K,Kx,⟨_,vs,rfl,ij.mono f2 i1,i2⟩,M2,k2.2,L.mono (f1.trans f2),hE il eW H2 M2 k2.1⟩
def dMethX (eI:List Addr)(H0:Hp)(Kx:DX)(C:Addr)(m:Str)(f:iM)(wo:De)(w:DA):De:=fun ρ μ K=>wo ρ μ fun x dJ=>sZ C m dJ x/\w ρ dJ fun ds eW=>eW[0]?=some (.gx eI H0)/\f (x::ds) eW K Kx
theorem ic {m:Str}{f:iM}{wo:De}{w:DA}{apos:Pos}{pl:Sem Bool}{k:Nat}{ps:List Str}(Z:Rz X eI H0 Kx)(CM:nN X.prog X.w X.K X.mg X.base C m k ps (jt f))(c:wL X.K C)(hr:gD k X.A)(ho:PD X o wo)(ha:tY X (e::es) w)
 (hst:starEach (e::es) X.env=(false,eval e X.env)::starEach es X.env:=by rfl) (kh:(backTo pos (starEach es X.env)).any (·.1)=false:=by rfl)
 (ht:eval (.Call (.Attribute o m apos) (e::es) [] pos) X.env=(do
   let ov <- eval o X.env
   standAt apos.atName
   let (f,first) <- holding [ov] (getMethod ov m pl)
   callWith pos f first (backTo pos (starEach (e::es) X.env)) (backToKw pos (keywordEach [] X.env))):=by rfl) :
 PD X (.Call (.Attribute o m apos) (e::es) [] pos) (dMethX eI H0 Kx C m f wo w):=by
 obtain⟨E,LX,hp⟩:=Z.ex
 obtain⟨f',fd,F,hm,hb⟩:=CM.ex
 exact(yW ho c hm F hr hb .nil hp ha hst kh ht).imp fun σ H Q hq=>tD_methX (ok:=fun μ=>μ[0]?=some (MO.gx eI H0)) (fun φ μ H M e=>LX.mono (M.hist e)) hq
def dMethXc (C:Addr)(m:Str)(f:iM)(wo:De)(w:DA):De:=fun ρ μ K=>wo ρ μ fun x dJ=>sZ C m dJ x/\w ρ dJ fun ds eW=>True/\f (x::ds) eW K fun _ _=>False
theorem rE {m:Str}{f:iM}{wo:De}{w:DA}{apos:Pos}{pl:Sem Bool}{k:Nat}{ps:List Str}(CM:nN X.prog X.w X.K X.mg X.base C m k ps (jt f))(c:wL X.K C)(hr:gD k X.A)(ho:PD X o wo)(ha:tY X (e::es) w)
 (hst:starEach (e::es) X.env=(false,eval e X.env)::starEach es X.env:=by rfl) (kh:(backTo pos (starEach es X.env)).any (·.1)=false:=by rfl)
 (ht:eval (.Call (.Attribute o m apos) (e::es) [] pos) X.env=(do
   let ov <- eval o X.env
   standAt apos.atName
   let (f,first) <- holding [ov] (getMethod ov m pl)
   callWith pos f first (backTo pos (starEach (e::es) X.env)) (backToKw pos (keywordEach [] X.env))):=by rfl) :
 PD X (.Call (.Attribute o m apos) (e::es) [] pos) (dMethXc C m f wo w):=by
 obtain⟨f',fd,F,hm,hb⟩:=CM.ex
 exact(yW ho c hm F hr hb .nil pass1 ha hst kh ht).imp fun σ H Q hq=>tD_methX (ok:=fun _=>True) (Kx:=fun _ _=>False) (fun φ μ H M e=>fun _ _ _ _ z _ _=>z.elim) hq
theorem tD_makeX {f:iM}{w:DA}{σ:St}{H:Hp}{Q:VK}{E:XK}{ok:MS->Prop}{Kx:DX}(hE:∀ φ μ H,d8 φ H μ->ok μ->rT φ H Kx E)(h:tD (fun ρ μ K=>w ρ μ fun ds dJ=>ok dJ/\f (.mr dJ.length::ds) (dJ++[.ins C [] []]) (fun d eW=>d=.fH/\K (.mr dJ.length) eW) Kx) σ H Q):tMake C (jt f) [] E (tDA w) σ H Q:=by
 obtain⟨φ,ρ,μ,K,A,M,k,L⟩:=h
 refine⟨φ,ρ,μ,_,A,M,k,fun ds dJ ee vs H1 k1 f1 M1 i1 x dx hx hdx ne=>?_⟩
 have S1:gd H1 (upd H1 dx (.own x)):=gd.upd hdx
 have hx':upd H1 dx (.own x) x=none:=by rw[dR (bb ne)];exact hx
 have fa:Fr ee H1 ee (upd H1 dx (.own x)):=.same S1
 obtain⟨M2,f2⟩:=(M1.same S1).snoc (m:=.ins C [] []) (o:=.ins C dx []) hx' ⟨dx,[],dH,rfl,rfl⟩
 have f3:=fa.trans f2
 have hin:ij (ee++[x]) (upd (upd H1 dx (.own x)) x (.ins C dx [])) (.mr dJ.length) (.ref x):=⟨x,by rw[p6 (by rw[M1.len];exact aa _),M1.len,aR];rfl,rfl⟩
 show jt f (.ref x::(vs++[])) _ _ E
 rw[aN]
 refine⟨ee++[x],.mr dJ.length::ds,dJ++[.ins C [] []],_,Kx,⟨_,vs,rfl,hin,i1.mono f3⟩,M2,k1.2,fun d nO yb v H3 k3 f4 M3 i3=>?_,(hE ee dJ H1 M1 k1.1).mono f3⟩
 obtain⟨rfl,k3⟩:=k3
 exact⟨i3,L _ nO yb _ H3 k3 ((f1.trans f3).trans f4) M3 (hin.mono f4)⟩
def dMakeXc (C:Addr)(f:iM)(w:DA):De:=fun ρ μ K=>w ρ μ fun ds dJ=>True/\f (.mr dJ.length::ds) (dJ++[.ins C [] []]) (fun d eW=>d=.fH/\K (.mr dJ.length) eW) fun _ _=>False
theorem d_makeXc {x:Str}{f:iM}{w:DA}{p:Pos}{k:Nat}{ps:List Str}(CI:CalIX X.prog X.w X.K X.mg X.base x C k ps (jt f))(hr:gD (k+1) X.A)(hg:Gl X x)(ha:tY X (e::es) w)
 (sC:(x==("__debug__" : Str))=false:=by decide) (he:starEach (e::es) X.env=(false,eval e X.env)::starEach es X.env:=by rfl) (kh:(backTo pos (starEach es X.env)).any (·.1)=false:=by rfl) :
 PD X (.Call (.Name x p) (e::es) [] pos) (dMakeXc C f w):=by
 obtain⟨f',fd,F,M,hm,hb⟩:=CI.ex
 exact(pe_make M F hr hg hm hb .nil pass1 ha sC he kh).imp fun σ H Q hq=>tD_makeX (ok:=fun _=>True) (Kx:=fun _ _=>False) (fun φ μ H M e=>fun _ _ _ _ z _ _=>z.elim) hq
end
theorem jg {P:Program}{w:World}{K:PySem.W.Frag}{mg:Str->Option Value}{base:Heap}{C:Addr}{x q:Str}{st:Stmt}{f:Addr}{fd:FuncData}{k:Nat}{ps:List Str}{sp:Sp}(F:gG K x q st f fd)(ok:d7 P w K mg base (mB P w) k f fd ps sp)(hb:Binds K fd ps [])
 (a:PySem.W.findIn K (.ref C) x=some (some (.ref f)):=by kernel_rfl) (i:PySem.W.isFn K (.ref f)=true:=by kernel_rfl):nN P w K mg base C x k ps sp:=⟨f,fd,ok,⟨a,i,F.kp⟩,hb⟩
theorem calix_of {P:Program}{w:World}{K:PySem.W.Frag}{mg:Str->Option Value}{base h:Heap}{C:Addr}{y q:Str}{st:Stmt}{f:Addr}{fd:FuncData}{k:Nat}{ps:List Str}{sp:Sp}(G:K.In h)(N:h.Ns mainGlobals mg)(F:gG K "__init__" q st f fd)(ok:d7 P w K mg base (mB P w) k f fd ps sp)(hb:Binds K fd ps [])
 (n:PySem.W.nsIn K mainGlobals y=some (some (.ref C)):=by kernel_rfl) (a:PySem.W.findIn K (.ref C) "__init__"=some (some (.ref f)):=by kernel_rfl) (i:PySem.W.isFn K (.ref f)=true:=by kernel_rfl) (m:PySem.W.makesIn K C=true:=by kernel_rfl) (p:PySem.W.keepIn K (.ref C)=true:=by kernel_rfl):CalIX P w K mg base y C k ps sp:=⟨f,fd,ok,⟨m,a,i,p⟩,aT G N n,hb⟩
section
variable {X:Cx}{a b c e o:Expr}{es:List Expr}{pos:Pos}
theorem xD:iT X (compareOp .LtE) (fun x y H Q=>∃ i j,x=.str i/\y=.str j/\Q (.bl (!decide (j.cps.toList<i.cps.toList))) H):=by
 intro pins s σ H x y v u Q I rx ry h
 obtain⟨i,j,rfl,rfl,q⟩:=h
 obtain⟨t,rfl⟩:=rx
 obtain⟨t',rfl⟩:=ry
 exact compareOp_gives (typeIs_str s i t) (typeIs_str s j t') F.slot_str_le F.entry_str_le (F.args_str_le_2 _ _) (gives_str_le i j t t') (by first | rfl | simp[Made.takes] | decide) (fj I q rfl)
def dLeS:ue:=fun x y μ K=>match x,y with
 | .str a,.str b=>K (.bl (!decide (b.cps.toList<a.cps.toList))) μ
 | _,_=>False
theorem so_leS:nS (fun x y H Q=>∃ i j,x=.str i/\y=.str j/\Q (.bl (!decide (j.cps.toList<i.cps.toList))) H) dLeS:=fun φ H x y dx dy μ K Q M hx hy k L=>by
 unfold dLeS at k
 split at k
 ·cases(show x=_ from hx);cases(show y=_ from hy)
  exact⟨_,_,rfl,rfl,L.val M k rfl⟩
 ·exact k.elim
def dChain (ro ro':ue)(wa wb wc:De):De:=fun ρ μ K=>wa ρ μ fun x dJ=>wb ρ dJ fun y eW=>ro x y eW fun z nO=>match z with
 | .bl k=>if k=true then wc ρ nO fun w' μ4=>ro' y w' μ4 K else K (.bl false) nO
 | _=>False
theorem d_chain {op op':CmpOp}{r r':R2}{ro ro':ue}{wa wb wc:De}(ho:iT X (compareOp op) r)(vH:iT X (compareOp op') r')(so:nS r ro)(so':nS r' ro')(ha:PD X a wa)(hb:PD X b wb)(hc:PD X c wc)
 (hm:lastMarks [op,op'] [b,c]=false:=by with_unfolding_all rfl):PD X (.Compare a [op,op'] [b,c] pos) (dChain ro ro' wa wb wc):=(pe_chain ho vH ha hb hc hm).imp fun σ H Q hq=>by
 obtain⟨φ,ρ,μ,K,A,M,k,L⟩:=hq
 refine⟨φ,ρ,μ,_,A,M,k,fun d1 dJ ee v1 H1 k1 f1 M1 i1=>?_⟩
 refine⟨ee,ρ,dJ,_,A.mono f1,M1,k1,fun d2 eW il v2 H2 k2 f2 M2 i2=>?_⟩
 refine so il H2 v1 v2 d1 d2 eW _ _ M2 (i1.mono f2) i2 k2 fun d3 nO yb v3 H3 k3 f3 M3 i3=>?_
 cases d3 with
 | bl k =>
  cases(show v3=_ from i3)
  refine⟨k,rfl,?_⟩
  cases k with
  | false=>exact L _ nO yb _ H3 k3 (f1.trans (f2.trans f3)) M3 rfl
  | true=>exact⟨yb,ρ,nO,_,A.mono (f1.trans (f2.trans f3)),M3,k3,fun d4 μ4 φ4 v4 H4 k4 f4 M4 i4=>so' φ4 H4 v2 v4 d2 d4 μ4 K Q M4 (i2.mono (f3.trans f4)) i4 k4 (L.mono (f1.trans (f2.trans (f3.trans f4))))⟩
 | _=>exact k3.elim
def z6 (mg:Str->Option Value)(x:Str)(i:Int):Prop:=∃ t,mg x=some (.int i t)
theorem zF {x:Str}{i:Int}(hg:Gl X x)(hm:z6 X.mg x i)(hd:(x==("__debug__" : Str))=false:=by decide):PD X (.Name x pos) (dC (.int i)):=by
 obtain⟨t,hm⟩:=hm
 exact(pe_glob (v:=.int i) hg hm ⟨t,rfl⟩ hd).imp fun σ H Q hq=>by
  obtain⟨φ,ρ,μ,K,A,M,k,L⟩:=hq
  exact L _ _ φ _ H k (.refl _ _) M rfl
structure Tab (P:Program)(w:World)(K:PySem.W.Frag)(mg:Str->Option Value)(x:Str)(ts:List (Str×Addr)):Prop where
 ex:∃ d,mg x=some (.ref d)/\∀ h:Heap,K.In h->h.DictOf (eS P w) d (ts.map fun p=>(Sum.inr p.1,Value.ref p.2))
def dTab (ts:List (Str×Addr))(w:De):De:=fun ρ μ K=>w ρ μ fun d dJ=>match d with
 | .str z=>∃ a,(ts.find? fun p=>decide (p.1=z)).map (·.2)=some a/\K (.fn a) dJ
 | _=>False
theorem sU {z:Str}{a:Addr}:∀ {ts:List (Str×Addr)},(ts.find? fun p=>decide (p.1=z)).map (·.2)=some a->valueAt (ts.map fun p=>((Sum.inr p.1:Key),Value.ref p.2)) (Sum.inr z)=some (.ref a)
 | [],h=>by cases h
 | p::ts,h=>by
  unfold valueAt
  rw[ah,br]
  rw[br]at h
  by_cases q:p.1=z
  ·rw[af q]at h
   cases h
   rw[show decide ((Sum.inr p.1:Key)=Sum.inr z)=true from af (by rw[q])]
   rfl
  ·rw[ak q]at h
   rw[show decide ((Sum.inr p.1:Key)=Sum.inr z)=false from ak fun y=>q (Sum.inr.inj y)]
   exact sU (ts:=ts) h
theorem d_tab {ts:List (Str×Addr)}{x:Str}{w:De}{p:Pos}(T:Tab X.prog X.w X.K X.mg x ts)(hg:Gl X x)(hb:PD X b w)(hs:NoSl b)(hd:(x==("__debug__" : Str))=false:=by decide):PD X (.Subscript (.Name x p) b pos) (dTab ts w):=by
 intro pins s σ H Q I hq
 obtain⟨φ,ρ,μ,K,A,M,k,L⟩:=hq
 obtain⟨d,hm,T⟩:=T.ex
 refine subD_of PySem.F.slot_dict_getitem.lookup hs (mV I hg hm ?_ hd)
 refine fq (hb pins s σ H (fun v H1=>∃ z a,v=.str z/\(ts.find? fun p=>decide (p.1=z)).map (·.2)=some a/\Q (.ref a) H1) I ⟨φ,ρ,μ,_,A,M,k,fun d1 dJ ee v1 H1 k1 f1 M1 i1=>?_⟩) fun u s1 nP=>?_
 ·cases d1 with
  | str z =>
   cases(show v1=_ from i1)
   obtain⟨a,e,k1⟩:=k1
   exact⟨z,a,rfl,e,L _ dJ ee _ H1 k1 f1 M1 rfl⟩
  | _=>exact k1.elim
 ·obtain⟨x,H1,I1,rx,z,a,rfl,e,q⟩:=nP
  have dd:=T _ I1.pP
  obtain⟨ob,_,_,eb,ex,_⟩:=id dd
  exact⟨⟨ob,eb,ex.1⟩,wpAny_getItem_of (qR (k:=Sum.inr z) rx) dd.mapOf (sU e) ⟨.ref a,H1,I1.tok _,rfl,q⟩⟩
theorem tab_of {P:Program}{w:World}{K:PySem.W.Frag}{mg:Str->Option Value}{x:Str}{d:Addr}{n:Nat}{h:Heap}(es:List (Str×Nat×Addr))(X:K.In h)(G:h.Ns mainGlobals mg)(e:PySem.W.nsIn K mainGlobals x=some (some (.ref d)))
 (l:K.lookup d=some ⟨.type "dict",none,.dict ((es.map fun p=>hX w.params p.1 p.2.1 (.ref p.2.2)).toArray) n,#[]⟩) (nd:(es.map (·.1)).Nodup):Tab P w K mg x (es.map fun p=>(p.1,p.2.2)):=by
 refine⟨d,aT X G e,fun h' I=>⟨_,_,_,I _ _ l,⟨rfl,rfl,rfl⟩,rfl,?_,?_,?_⟩⟩
 ·intro y hy
  obtain⟨p,_,rfl⟩:=List.mem_map.mp (List.mem_toArray.mp hy)
  exact⟨Sum.inr p.1,sy p.1 p.2.1,rfl⟩
 ·clear l nd
  induction es with
  | nil=>exact .nil
  | cons p es ih=>exact .cons (sy p.1 p.2.1) rfl ih
 ·rw[aC,aC]
  show(List.map ((fun z:Str=>(Sum.inr z:Key)) ∘ fun p:Str×Nat×Addr=>p.1) es).Nodup
  rw[<- aC]
  exact nd.map (f:=fun z:Str=>(Sum.inr z:Key)) fun a b h z=>h (Sum.inr.inj z)
structure CalV (P:Program)(w:World)(K:PySem.W.Frag)(mg:Str->Option Value)(base:Heap)(T:List (Addr×iM))(k:Nat)(ps:List Str):Prop where
 ex:∀ p∈T,∃ fd,d7 P w K mg base (mB P w) k p.1 fd ps (jt p.2)/\PySem.W.keepIn K (.ref p.1)=true/\Binds K fd ps []
def dCallV (eI:List Addr)(H0:Hp)(Kx:DX)(T:List (Addr×iM))(i:Nat)(w:DA):De:=fun ρ μ K=>match ρ[i]? with
 | some (some (.fn a))=>∃ f,(a,f)∈T/\w ρ μ fun ds dJ=>dJ[0]?=some (.gx eI H0)/\f ds dJ K Kx
 | _=>False
theorem d_callV {eI:List Addr}{H0:Hp}{Kx:DX}{T:List (Addr×iM)}{i:Nat}{w:DA}{x:Str}{p:Pos}{k:Nat}{ps:List Str}(Z:Rz X eI H0 Kx)(CV:CalV X.prog X.w X.K X.mg X.base T k ps)(hr:gD k X.A)(hN:X.N[i]?=some x)(hv:Vis X.env.scope x)(ha:tY X (e::es) w)
 (sC:(x==("__debug__" : Str))=false:=by decide) (xh:(x==("__classdict__" : Str))=false:=by decide) (he:starEach (e::es) X.env=(false,eval e X.env)::starEach es X.env:=by rfl) (kh:(backTo pos (starEach es X.env)).any (·.1)=false:=by rfl) :
 PD X (.Call (.Name x p) (e::es) [] pos) (dCallV eI H0 Kx T i w):=by
 intro pins s σ H Q I hq
 obtain⟨φ,ρ,μ,K,A,M,k,L⟩:=hq
 obtain⟨E,LX,hp⟩:=Z.ex
 unfold dCallV at k
 split at k
 ·rename_i a ea
  obtain⟨f,hf,k⟩:=k
  obtain⟨v,ev,iv⟩:=A.2 i _ ea
  cases(show v=_ from iv)
  obtain⟨fd,F,hk,hb⟩:=CV.ex _ hf
  refine bO (fq (yV hN hv sC xh pins s σ H (fun u H1=>u=.ref a/\H1=H) I ⟨_,ev,rfl,rfl⟩) fun u s1 nP=>?_)
  obtain⟨x1,H1,I1,r1,rfl,rfl⟩:=nP
  cases r1
  refine cq (h₀:=X.base) I.ok.mod.kin hk (fq (ha pos pins s1 σ H1 (fun vs H2=>jt f vs H2 Q E) I1 ⟨φ,ρ,μ,_,A,M,k,fun ds dJ ee vs H2 k1 f1 M1 i1=>?_⟩) fun us s2 pI=>?_) he kh
  ·exact⟨ee,ds,dJ,K,Kx,i1,M1,k1.2,L.mono f1,LX.mono (M1.hist k1.1)⟩
  ·obtain⟨vs,H2,I2,r2,q2⟩:=pI
   exact⟨I2.pP,yO (dvs:=[]) F hr hb .nil hp I2 r2 (by rw[aN];exact q2)⟩
 ·exact k.elim
end
section
variable {X:Cx}{a b c e o:Expr}{es:List Expr}{pos apos fX:Pos}
def dSlT (w:De)(l h:DO):De:=fun ρ μ K=>w ρ μ fun x dJ=>l ρ dJ fun lo eW=>h ρ eW fun hi nO=>match x with
 | .tup ds=>¬ (HT.gN ds.length 0 lo=0/\HT.gN ds.length ds.length hi=ds.length)/\K (.tup (cutD ds lo hi)) nO
 | _=>False
theorem oO {lo hi:Option Expr}{w:De}{l h:DO}{p:Pos}(ha:PD X a w)(hl:PO X lo (tDO l))(hh:PO X hi (tDO h)):PD X (.Subscript a (.Slice lo hi none p) pos) (dSlT w l h):=(pe_slice sl_tup ha hl hh).imp fun σ H Q hq=>by
 obtain⟨φ,ρ,μ,K,A,M,k,L⟩:=hq
 refine⟨φ,ρ,μ,_,A,M,k,fun d dJ ee v1 H1 k1 f1 M1 i1=>?_⟩
 refine⟨ee,ρ,dJ,_,A.mono f1,M1,k1,fun lo eW il H2 k2 f2 M2=>?_⟩
 refine⟨il,ρ,eW,_,A.mono (f1.trans f2),M2,k2,fun hi nO yb H3 k3 f3 M3=>?_⟩
 have i3:=i1.mono (f2.trans f3)
 have L3:=L.mono (f1.trans (f2.trans f3))
 split at k3
 ·obtain⟨p,vs,rfl,_,hp,ha⟩:=i3
  exact⟨p,vs,rfl,zV.of hp,by rw[ha.len];exact k3.1,fun l hl=>al_tup L3 M3 (ha.cut lo hi) k3.2 hl⟩
 ·exact k3.elim
def dInT (neg:Bool):ue:=fun x y μ K=>match y with
 | .tup ds=>zo x=true/\ds.all zo=true/\K (.bl (neg != ds.any fun d=>deq d x)) μ
 | _=>False
theorem so_inT {neg:Bool}:nS (rInC neg) (dInT neg):=fun φ H x y dx dy μ K Q M hx hy k L=>by
 unfold dInT at k
 split at k
 ·obtain⟨f1,f2,k⟩:=k
  obtain⟨p,vs,rfl,_,hp,ha⟩:=hy
  obtain⟨a,b⟩:=zm hx f1 ha f2
  have fx:=flt_is hx f1
  have key:∃ xs,(H p=some (.lst xs)\/H p=some (.tup xs))/\j3 x=true/\xs.all j3=true/\Q (.bl (neg != inV x xs)) H:=⟨vs,.inr hp,fx,a,by rw[b];exact L.val M k rfl⟩
  unfold rInC
  cases x <;> exact key
 ·exact k.elim
def dPopK (wd wk:De):De:=fun ρ μ K=>wd ρ μ fun x dJ=>match x with
 | .mr j=>(∃ ks ds,dJ[j]?=some (.hJ ks ds))/\wk ρ dJ fun y eW=>∃(kd:List (Key×D)) (k:Key) (d:D),eW[j]?=some (.hJ (kd.map (·.1)) (kd.map (·.2)))/\mY y=some k/\oN kd k=some d/\K d (eW.set j (.hJ ((kd.filter fun p=>decide (p.1≠k)).map (·.1)) ((kd.filter fun p=>decide (p.1≠k)).map (·.2))))
 | _=>False
theorem drop_rel {φ:List Addr}{H:Hp}{k:Key}:∀ {kd:List (Key×D)} {kv:List (Key×V)},kv.map (·.1)=kd.map (·.1)->dN φ H (kd.map (·.2)) (kv.map (·.2))->(pQ kv k).map (·.1)=(kd.filter fun p=>decide (p.1≠k)).map (·.1)/\dN φ H ((kd.filter fun p=>decide (p.1≠k)).map (·.2)) ((pQ kv k).map (·.2))
 | [],kv,e,h=>by
  cases kv with
  | nil=>exact⟨rfl,rfl⟩
  | cons _ _=>cases e
 | p::kd,kv,e,h=>by
  cases kv with
  | nil=>cases e
  | cons q kv =>
   simp only[ah,bM]at e
   obtain⟨v,r,e2,h1,h2⟩:=h
   simp only[ah,bM]at e2
   obtain⟨rfl,rfl⟩:=e2
   obtain⟨g1,g2⟩:=drop_rel (k:=k) e.2 h2
   unfold pQ at g1 g2 ⊢
   rw[a9,a9]
   by_cases z:p.1=k
   ·have z2:q.1=k:=by rw[e.1,z]
    rw[ae (by simp[z2]),ae (by simp[z])]
    exact⟨g1,g2⟩
   ·have z2:¬ q.1=k:=by rw[e.1];exact z
    rw[ag (by simp[z2]),ag (by simp[z])]
    exact⟨by rw[ah,ah,g1,e.1],_,_,rfl,h1,g2⟩
theorem d_popK {wd wk:De}(ho:PD X o wd)(he:PD X e wk)(m:M1 X o "pop" apos e fX:=by exact⟨rfl,rfl,rfl,rfl⟩):PD X (.Call (.Attribute o "pop" apos) [e] [] fX) (dPopK wd wk):=(pe_dpop1 ho he m).imp fun σ H Q hq=>by
 obtain⟨φ,ρ,μ,K,A,M,k,L⟩:=hq
 refine⟨φ,ρ,μ,_,A,M,k,fun d1 dJ ee v1 H1 k1 f1 M1 i1=>?_⟩
 cases d1 with
 | mr j =>
  obtain⟨⟨ks,ds,em⟩,k1⟩:=k1
  obtain⟨p,hp,rfl⟩:=i1
  obtain⟨p',e1,kvs,vs,h1,h2,h3,h4⟩:=M1.at_ j _ em
  rw[hp]at e1;cases e1
  refine⟨p,rfl,.inl ⟨kvs,.inl h1⟩,?_⟩
  refine⟨ee,ρ,dJ,_,A.mono f1,M1,k1,fun d2 eW il v2 H2 k2 f2 M2 i2=>?_⟩
  obtain⟨kd,k,d,em2,ek,ed,k2⟩:=k2
  have hp2:=f2.get hp
  obtain⟨p',e1,kvs2,vs2,g1,g2,g3,g4⟩:=M2.at_ j _ em2
  rw[hp2]at e1;cases e1
  subst g3
  cases mX ek i2
  have ed':oN ((kd.map (·.1)).zip (kd.map (·.2))) k=some d:=by rw[zip_parts];exact ed
  obtain⟨v,ev,iv⟩:=vW g2 g4 ed'
  refine⟨kvs2,k,v,g1,rfl,ev,?_⟩
  have f3:Fr il H2 il (upd H2 p (.dK (pQ kvs2 k))):=.put (zk hp2)
  obtain⟨y1,y2⟩:=drop_rel (k:=k) g2 (g4.mono f3)
  exact L _ _ il _ _ k2 ((f1.trans f2).trans f3) (M2.put hp2 ⟨_,_,dH,y1,rfl,y2⟩) (iv.mono f3)
 | _=>exact k1.elim
end
inductive Pt where
 | fst (b:List Nat) (a:Int)
 | jn (l r:Str) (p:Int)
structure RS where
 n:Int
 kept:List (Str×Pt)
 eR:List (Int×Unit)
inductive Dd where
 | put (nm b:Str) (a:Int) | join (nm l r:Str) (p:Int) | found (nm:Str) (bar:Int) (sg:Str) | kS (nm:Str) (a:Int) | drop (nm:Str) | free (p:Int) | eR (p:Int)
section
variable {α β:Type}[DecidableEq α]
def dw (l:List (α×β))(k:α):Option β:=(l.find? fun p=>decide (p.1=k)).map (·.2)
def fN (l:List (α×β))(k:α)(v:β):List (α×β):=if(l.any fun p=>decide (p.1=k))=true then l.map (fun p=>if p.1=k then(p.1,v)else p)else l++[(k,v)]
def gL (l:List (α×β))(k:α):List (α×β):=l.filter fun p=>decide (p.1≠k)
theorem eZ {p:α×β}{l:List (α×β)}{k:α}:dw (p::l) k=if p.1=k then some p.2 else dw l k:=by
 unfold dw
 rw[br]
 by_cases h:p.1=k
 ·rw[af h,ag h];rfl
 ·rw[ak h,ae h]
theorem kM {l:List (α×β)}{k:α}:(l.any fun p=>decide (p.1=k))=(dw l k).isSome:=by
 induction l with
 | nil=>rfl
 | cons p l ih =>
  rw[bp,eZ,ih]
  by_cases h:p.1=k
  ·rw[af h,ag h];rfl
  ·rw[ak h,ae h];rfl
theorem mi {l:List (α×β)}{k:α}{v:β}(h:dw l k=some v):(k,v)∈l:=by
 induction l with
 | nil=>cases h
 | cons p l ih =>
  rw[eZ]at h
  by_cases q:p.1=k
  ·rw[ag q]at h;cases h
   rw[<- q];exact aw
  ·rw[ae q]at h;exact mZ _ (ih h)
theorem eY {l:List (α×β)}{k:α}:(dw l k).isSome=true↔k∈l.map (·.1):=by
 rw[<- kM,List.any_eq_true,List.mem_map]
 constructor
 ·rintro⟨p,hp,e⟩;exact⟨p,hp,cC e⟩
 ·rintro⟨p,hp,e⟩;exact⟨p,hp,af e⟩
theorem f9 {l:List (α×β)}{k:α}{v:β}(nd:(l.map (·.1)).Nodup)(h:(k,v)∈l):dw l k=some v:=by
 induction l with
 | nil=>cases h
 | cons p l ih =>
  rw[ah,List.nodup_cons]at nd
  rw[eZ]
  rcases List.mem_cons.mp h with q | q
  ·subst q;rw[ag rfl]
  ·rw[ae]
   ·exact ih nd.2 q
   ·intro e
    exact nd.1 (by rw[e];exact List.mem_map.mpr ⟨_,q,rfl⟩)
theorem aget_app {l m:List (α×β)}{k:α}:dw (l++m) k=(dw l k).or (dw m k):=by
 induction l with
 | nil=>rfl
 | cons p l ih =>
  rw[List.cons_append,eZ,eZ,ih]
  by_cases q:p.1=k
  ·rw[ag q,ag q];rfl
  ·rw[ae q,ae q]
theorem x6 {l:List (α×β)}{k:α}{v:β}:(fN l k v).map (·.1)=if k∈l.map (·.1)then l.map (·.1)else l.map (·.1)++[k]:=by
 unfold fN
 have e:((l.any fun p=>decide (p.1=k))=true)↔k∈l.map (·.1):=by rw[kM];exact eY
 by_cases h:k∈l.map (·.1)
 ·rw[ag (e.mpr h),ag h,aC]
  refine bV fun p _=>?_
  simp only[Function.comp]
  split <;> rfl
 ·rw[ae (fun z=>h (e.mp z)),ae h,aG];rfl
theorem mh {l:List (α×β)}{k j:α}{v:β}:dw (fN l k v) j=if j=k then some v else dw l j:=by
 unfold fN
 split
 ·rename_i h
  induction l with
  | nil=>cases h
  | cons p l ih =>
   rw[ah,eZ,eZ]
   by_cases q:p.1=k
   ·rw[ag q]
    by_cases z:j=k
    ·rw[ag z,ag (by show p.1=j;rw[q,z])]
    ·rw[ae z,ae (show ¬ p.1=j from fun y=>z (by rw[<- y,q])),ae (fun y=>z (by rw[<- y,q]))]
     clear ih h
     induction l with
     | nil=>rfl
     | cons r l ih =>
      rw[ah,eZ,eZ,ih]
      by_cases y:r.1=k
      ·rw[ag y,ae (show ¬ r.1=j from fun x=>z (by rw[<- x,y])),ae (fun x=>z (by rw[<- x,y]))]
      ·rw[ae y]
   ·rw[ae q]
    have h':(l.any fun p=>decide (p.1=k))=true:=by
     rw[bp,ak q]at h;exact h
    rw[ih h']
    by_cases z:j=k
    ·rw[ag z,ae (fun y=>q (by rw[y,z])),ag z]
    ·rw[ae z,ae z]
 ·rename_i h
  rw[aget_app]
  have hn:dw l k=none:=by
   cases e:dw l k with
   | none=>rfl
   | some x=>exact absurd (by rw[kM,e];rfl) h
  by_cases z:j=k
  ·subst z;rw[ag rfl,hn,eZ,ag rfl];rfl
  ·rw[ae z,eZ,ae (fun y=>z y.symm)]
   cases dw l j <;> rfl
theorem x8 {l:List (α×β)}{k j:α}(h:j≠k):dw (gL l k) j=dw l j:=by
 unfold gL
 induction l with
 | nil=>rfl
 | cons p l ih =>
  rw[a9,eZ]
  by_cases q:p.1=k
  ·rw[ae (by simp[q]),ih,ae (fun y=>h (by rw[<- y,q]))]
  ·rw[ag (by simp[q]),eZ,ih]
end
def dX (z:Str):Key:=Sum.inr z
def jR (i:Int):Key:=Sum.inl i
theorem dE:∀ a b,dX a=dX b->a=b:=fun _ _ h=>Sum.inr.inj h
theorem hG:∀ a b,jR a=jR b->a=b:=fun _ _ h=>Sum.inl.inj h
def pA {α β:Type}(κ:α->Key)(f:β->D)(l:List (α×β)):D:=.kK (l.map fun p=>κ p.1) (l.map fun p=>f p.2)
theorem uP {α β γ:Type}(f:α->β)(g:α->γ):∀ l:List α,(l.map f).zip (l.map g)=l.map fun a=>(f a,g a)
 | []=>rfl
 | a::l=>by rw[ah,ah,cY,uP f g l];rfl
section
variable {α β:Type}[DecidableEq α]{κ:α->Key}(hi:∀ a b,κ a=κ b->a=b)(f:β->D)
include hi
theorem zA (k:α):∀ l:List (α×β),oN (l.map fun p=>(κ p.1,f p.2)) (κ k)=(dw l k).map f
 | []=>rfl
 | p::l=>by
  have ih:=zA k l
  rw[eZ]
  unfold oN at ih ⊢
  rw[ah,br]
  by_cases h:p.1=k
  ·rw[show decide ((κ p.1,f p.2).1=κ k)=true from af (by rw[h]),ag h];rfl
  ·rw[show decide ((κ p.1,f p.2).1=κ k)=false from ak fun z=>h (hi _ _ z),ae h];exact ih
theorem dput_k (k:α)(v:β)(l:List (α×β)):dput (l.map fun p=>(κ p.1,f p.2)) (κ k) (f v)=(fN l k v).map fun p=>(κ p.1,f p.2):=by
 have e:((l.map fun p=>(κ p.1,f p.2)).any fun kv=>decide (kv.1=κ k))=l.any fun p=>decide (p.1=k):=by
  rw[List.any_map]
  congr 1
  funext p
  show decide (κ p.1=κ k)=_
  by_cases h:p.1=k
  ·rw[af h,af (by rw[h])]
  ·rw[ak h,ak (fun z=>h (hi _ _ z))]
 unfold dput fN
 rw[e]
 split
 ·rw[aC,aC]
  refine bV fun p _=>?_
  show(if κ p.1=κ k then(κ p.1,f v)else(κ p.1,f p.2))=_
  simp only[Function.comp]
  by_cases h:p.1=k
  ·rw[ag h,ag (by rw[h])]
  ·rw[ae h,ae (fun z=>h (hi _ _ z))]
 ·rw[aG];rfl
theorem dropF_k (k:α)(l:List (α×β)):((l.map fun p=>(κ p.1,f p.2)).filter fun p=>decide (p.1≠κ k))=(gL l k).map fun p=>(κ p.1,f p.2):=by
 unfold gL
 rw[List.filter_map]
 congr 1
 refine List.filter_congr fun p _=>?_
 show decide (κ p.1≠κ k)=_
 by_cases h:p.1=k
 ·rw[ak (by simp[h]),ak (by simp[h])]
 ·rw[af (show κ p.1≠κ k from fun z=>h (hi _ _ z)),af h]
theorem gr {d:D}(k:α)(l:List (α×β))(hd:mY d=some (κ k)):ixF (l.map fun p=>κ p.1) (l.map fun p=>f p.2) d=some ((dw l k).map f):=by
 unfold ixF
 rw[hd]
 show some (oN _ (κ k))=_
 rw[uP,zA hi]
theorem tE {d:D}(k:α)(l:List (α×β))(hd:mY d=some (κ k)){μ:MS}{j:Nat}(h:uc μ j=some (l.map (fun p=>κ p.1),l.map fun p=>f p.2)):ixM μ j d=some ((dw l k).map f):=by
 unfold ixM
 rw[h]
 show(mY d).map _=_
 rw[hd]
 show some (oN _ (κ k))=_
 rw[uP,zA hi]
end
def evF {γ:Type}(gf:Str->List Nat->Int->γ)(gj:γ->γ->Int->γ)(z:γ)(kept:List (Str×Pt)):Nat->Str->γ
 | 0,_=>z
 | f+1,nm=>match dw kept nm with
  | some (.fst b a)=>gf nm b a
  | some (.jn l r p)=>gj (evF gf gj z kept f l) (evF gf gj z kept f r) p
  | none=>z
def gS (kept:List (Str×Pt))(nm:Str):Nat:=(kept.map (·.1)).idxOf nm
structure ya (kept:List (Str×Pt)):Prop where
 nd:(kept.map (·.1)).Nodup
 low:∀ nm l r p,dw kept nm=some (.jn l r p)->gS kept l<gS kept nm/\gS kept r<gS kept nm
theorem pY {kept:List (Str×Pt)}{nm:Str}:gS kept nm<kept.length↔nm∈kept.map (·.1):=by
 unfold gS
 rw[show kept.length=(kept.map (·.1)).length from(fg _).symm]
 exact List.idxOf_lt_length_iff
theorem ya.there {kept:List (Str×Pt)}(h:ya kept){nm l r:Str}{p:Int}(e:dw kept nm=some (.jn l r p)):(∃ x,dw kept l=some x)/\∃ x,dw kept r=some x:=by
 have hn:gS kept nm<kept.length:=pY.mpr (eY.mp (by rw[e];rfl))
 obtain⟨h1,h2⟩:=h.low nm l r p e
 exact⟨Option.isSome_iff_exists.mp (eY.mpr (pY.mp (by omega))),Option.isSome_iff_exists.mp (eY.mpr (pY.mp (by omega)))⟩
section
variable {γ:Type}{gf:Str->List Nat->Int->γ}{gj:γ->γ->Int->γ}{z:γ}{kept:List (Str×Pt)}
theorem evF_more (h:ya kept):∀(f:Nat) (nm:Str),gS kept nm<f->f<=kept.length->evF gf gj z kept f nm=evF gf gj z kept kept.length nm:=by
 have key:∀(i f g:Nat) (nm:Str),gS kept nm=i->i<f->i<g->evF gf gj z kept f nm=evF gf gj z kept g nm:=by
  intro i
  induction i using Nat.strongRecOn with
  | ind i ih =>
   intro f g nm hi hf hg
   obtain⟨f,rfl⟩:∃ f',f=f'+1:=⟨f - 1,by omega⟩
   obtain⟨g,rfl⟩:∃ g',g=g'+1:=⟨g - 1,by omega⟩
   unfold evF
   cases e:dw kept nm with
   | none=>rfl
   | some x =>
    cases x with
    | fst b a=>rfl
    | jn l r p =>
     obtain⟨h1,h2⟩:=h.low nm l r p e
     dsimp only
     rw[ih _ (by omega) f g l rfl (by omega) (by omega),ih _ (by omega) f g r rfl (by omega) (by omega)]
 intro f nm h1 h2
 exact key _ f kept.length nm rfl h1 (by omega)
def ev (gf:Str->List Nat->Int->γ)(gj:γ->γ->Int->γ)(z:γ)(kept:List (Str×Pt))(nm:Str):γ:=evF gf gj z kept kept.length nm
theorem zy {nm:Str}{b:List Nat}{a:Int}(e:dw kept nm=some (.fst b a)):ev gf gj z kept nm=gf nm b a:=by
 have hn:gS kept nm<kept.length:=pY.mpr (eY.mp (by rw[e];rfl))
 unfold ev
 obtain⟨m,hm⟩:∃ m,kept.length=m+1:=⟨kept.length - 1,by omega⟩
 rw[hm]
 unfold evF
 rw[e]
theorem ev_jn (h:ya kept){nm l r:Str}{p:Int}(e:dw kept nm=some (.jn l r p)):ev gf gj z kept nm=gj (ev gf gj z kept l) (ev gf gj z kept r) p:=by
 have hn:gS kept nm<kept.length:=pY.mpr (eY.mp (by rw[e];rfl))
 obtain⟨h1,h2⟩:=h.low nm l r p e
 obtain⟨m,hm⟩:∃ m,kept.length=m+1:=⟨kept.length - 1,by omega⟩
 have e1:=evF_more (gf:=gf) (gj:=gj) (z:=z) h m l (by omega) (by omega)
 have e2:=evF_more (gf:=gf) (gj:=gj) (z:=z) h m r (by omega) (by omega)
 have e3:evF gf gj z kept (m+1) nm=gj (evF gf gj z kept m l) (evF gf gj z kept m r) p:=by
  conv=>lhs;unfold evF
  rw[e]
 unfold ev
 rw[<- e1,<- e2,<- e3,<- hm]
theorem ev_ind (h:ya kept)(P:Str->Prop)(hf:∀ nm b a,dw kept nm=some (.fst b a)->P nm)(hj:∀ nm l r p,dw kept nm=some (.jn l r p)->P l->P r->P nm):∀ nm x,dw kept nm=some x->P nm:=by
 have key:∀(i:Nat) (nm:Str) (x:Pt),gS kept nm=i->dw kept nm=some x->P nm:=by
  intro i
  induction i using Nat.strongRecOn with
  | ind i ih =>
   intro nm x hi e
   cases x with
   | fst b a=>exact hf nm b a e
   | jn l r p =>
    obtain⟨h1,h2⟩:=h.low nm l r p e
    obtain⟨⟨y,ey⟩,⟨w,ew⟩⟩:=h.there e
    exact hj nm l r p e (ih _ (by omega) l y rfl ey) (ih _ (by omega) r w rfl ew)
 exact fun nm x e=>key _ nm x rfl e
end
def fv (kept:List (Str×Pt))(nm:Str):List Nat×Int:=ev (fun _ b a=>(b,a)) (fun x y p=>(jnT x.1 y.1 p,max x.2 y.2+1)) ([],0) kept nm
def srcOf (kept:List (Str×Pt))(nm:Str):Int->Str×Nat:=ev (fun nm _ _ _=>(nm,0)) (fun x y p bar=>if bar<p then((x bar).1,(x bar).2+1)else((y bar).1,(y bar).2+1)) (fun _=>("",0)) kept nm
def fK (z:Str):Bool:=decide (1<=z.length)&&decide (z.length<=8)&&z.cps.toList.all fun c=>decide (97<=c)&&decide (c<=122)
def Ae (z:Str):Bool:=z.cps.toList.all fun c=>decide (c=111)||decide (c=120)
def fV (S:RS)(nm:Str):Bool:=(dw S.kept nm).isSome
def gc (nm:Str):Pt->Bool
 | .fst _ _=>false
 | .jn l r _=>decide (l=nm)||decide (r=nm)
def j0 (S:RS)(nm:Str):Bool:=S.kept.any fun p=>gc nm p.2
def iA (S:RS)(nm:Str):Option Nat:=if fK nm=false then some 4 else if fV S nm=true then some 9 else if 20<=S.kept.length then some 10 else none
def fE (S:RS)(p:Int):Option Nat:=if 1<=p/\p<S.n then none else some 7
def jl (a:Int):Option Nat:=if 0<=a/\a<=20 then none else some 5
def i9 (S:RS):Dd->Option Nat
 | .put nm b a=>(iA S nm).or (if((b.length:Nat):Int)=S.n/\Ae b=true then jl a else some 0)
 | .join nm l r p=>(iA S nm).or (if fV S l=false then some 11 else if fV S r=false then some 11 else(fE S p).or (if(dw S.eR p).isSome=true then some 12 else none))
 | .found nm bar sg=>if fV S nm=false then some 11 else if 0<=bar/\bar<S.n then(if sg = "o"\/sg = "x" then none else some 0)else some 6
 | .kS nm a=>match dw S.kept nm with
  | none=>some 11
  | some (.jn _ _ _)=>some 13
  | some (.fst _ _)=>jl a
 | .drop nm=>if fV S nm=false then some 11 else if j0 S nm=true then some 14 else none
 | .free p=>fE S p
 | .eR p=>fE S p
def tG (b:List Nat)(bar:Int)(sg:Str):List Nat:=b.take bar.toNat++(sg.cps.toList++b.drop (bar.toNat+1))
def hear (kept:List (Str×Pt))(nm:Str)(bar:Int)(sg:Str):List (Str×Pt):=match dw kept nm with
 | some (.fst b a)=>fN kept nm (.fst (tG b bar sg) a)
 | _=>kept
def pK (S:RS):Dd->RS
 | .put nm b a=>{ S with kept:=fN S.kept nm (.fst b.cps.toList a)}
 | .join nm l r p=>{ S with kept:=fN S.kept nm (.jn l r p)}
 | .found nm bar sg=>{ S with kept:=hear S.kept (srcOf S.kept nm bar).1 bar sg}
 | .kS nm a=>match dw S.kept nm with
  | some (.fst b _)=>{ S with kept:=fN S.kept nm (.fst b a)}
  | _=>S
 | .drop nm=>{ S with kept:=gL S.kept nm}
 | .free p=>{ S with eR:=gL S.eR p}
 | .eR p=>{ S with eR:=fN S.eR p ()}
structure nW (S:RS)(m:Nat):Prop where
 n1:1<=S.n
 n2:S.n<=40
 kp:ya S.kept
 ku:S.kept.length<=20
 fs:∀ nm b a,dw S.kept nm=some (.fst b a)->(b.length:Int)=S.n/\OX b/\0<=a/\a<=20
 js:∀ nm l r p,dw S.kept nm=some (.jn l r p)->1<=p/\p<S.n
 nms:∀ p∈S.kept,fK p.1=true
 shl:S.eR.length<=m
 shn:(S.eR.map (·.1)).Nodup
theorem qX {l:List (Str×Pt)}{x:Str×Pt}{nm:Str}(h:nm∈l.map (·.1)):gS (l++[x]) nm=gS l nm:=by
 unfold gS
 rw[aG,cb,ag h]
theorem idx_new {l:List (Str×Pt)}{x:Str×Pt}(h:x.1∉l.map (·.1)):gS (l++[x]) x.1=l.length:=by
 unfold gS
 rw[aG,cb,ae h,ah,bB,show(x.1==x.1)=true from cm _,fg]
 simp
theorem pZ {p:Str->Bool}{a b:Str}:∀ {l:List Str},p a=true->p b=true->l.idxOf a<l.idxOf b->(l.filter p).idxOf a<(l.filter p).idxOf b
 | [],_,_,h=>by simp at h
 | x::t,ha,hb,h=>by
  by_cases e1:x=a
  ·subst e1
   have e2:¬ x=b:=fun e2=>by subst e2;exact absurd h (bt _)
   rw[a9,ag ha,bB,bB,show(x==x)=true from cm _,show(x==b)=false from cQ e2]
   simp
  ·have e2:¬ x=b:=fun e2=>by
    subst e2
    rw[bB,bB,show(x==x)=true from cm _]at h
    simp at h
   rw[bB,bB,show(x==a)=false from cQ e1,show(x==b)=false from cQ e2]at h
   have h':t.idxOf a<t.idxOf b:=by simpa using h
   have ih:=pZ ha hb h'
   rw[a9]
   split
   ·rw[bB,bB,show(x==a)=false from cQ e1,show(x==b)=false from cQ e2]
    simpa using ih
   ·exact ih
theorem ya.push {l:List (Str×Pt)}(h:ya l){nm:Str}{x:Pt}(hn:nm∉l.map (·.1))(hx:∀ a b p,x=.jn a b p->a∈l.map (·.1)/\b∈l.map (·.1)):ya (l++[(nm,x)]):=by
 refine⟨?_,fun z a b p e=>?_⟩
 ·rw[aG,bD]
  exact⟨h.nd,by simp,fun a ha b hb e=>by rw[ah,List.map_nil,List.mem_singleton]at hb;have hb:b=nm:=hb;exact hn (by rw[<- hb,<- e];exact ha)⟩
 ·rw[aget_app]at e
  cases q:dw l z with
  | some y =>
   rw[q]at e
   cases e
   obtain⟨h1,h2⟩:=h.low z a b p q
   have hz:=eY.mp (show(dw l z).isSome=true by rw[q];rfl)
   obtain⟨⟨y1,e1⟩,⟨y2,e2⟩⟩:=h.there q
   rw[qX hz,qX (eY.mp (by rw[e1];rfl)),qX (eY.mp (by rw[e2];rfl))]
   exact⟨h1,h2⟩
  | none =>
   rw[q]at e
   have e':dw [(nm,x)] z=some (.jn a b p):=e
   rw[eZ]at e'
   split at e'
   ·rename_i y
    have y:nm=z:=y
    subst y
    have e3:x=.jn a b p:=aK e'
    obtain⟨h1,h2⟩:=hx a b p e3
    have en:=idx_new (x:=(nm,x)) hn
    rw[show gS (l++[(nm,x)]) nm=l.length from en,qX h1,qX h2]
    exact⟨pY.mpr h1,pY.mpr h2⟩
   ·cases e'
theorem ya.same {l l':List (Str×Pt)}(h:ya l)(hk:l'.map (·.1)=l.map (·.1))(hx:∀ z a b p,dw l' z=some (.jn a b p)->dw l z=some (.jn a b p)):ya l':=by
 refine⟨by rw[hk];exact h.nd,fun z a b p e=>?_⟩
 unfold gS
 rw[hk]
 exact h.low z a b p (hx z a b p e)
theorem ya.drop {l:List (Str×Pt)}(h:ya l){nm:Str}(hx:∀ z a b p,dw l z=some (.jn a b p)->a≠nm/\b≠nm):ya (gL l nm):=by
 have hk:(gL l nm).map (·.1)=(l.map (·.1)).filter fun z=>decide (z≠nm):=by
  unfold gL
  rw[List.filter_map]
  rfl
 refine⟨by rw[hk];exact h.nd.sublist (List.filter_sublist),fun z a b p e=>?_⟩
 have hz:z≠nm:=fun y=>by
  subst y
  have:=mi e
  unfold gL at this
  rw[List.mem_filter]at this
  simpa using this.2
 rw[x8 hz]at e
 obtain⟨h1,h2⟩:=h.low z a b p e
 obtain⟨n1,n2⟩:=hx z a b p e
 unfold gS at h1 h2 ⊢
 rw[hk]
 exact⟨pZ (af n1) (af hz) h1,pZ (af n2) (af hz) h2⟩
theorem ma {α β:Type}[DecidableEq α]{l:List (α×β)}{k:α}{v:β}(h:dw l k=none):fN l k v=l++[(k,v)]:=by
 unfold fN
 rw[ae]
 rw[kM,h]
 exact aA
theorem aput_len {α β:Type}[DecidableEq α]{l:List (α×β)}{k:α}{v:β}:(fN l k v).length<=l.length+1:=by
 unfold fN
 split
 ·rw[fg];omega
 ·rw[kH,aQ];exact aa _
theorem aput_old {α β:Type}[DecidableEq α]{l:List (α×β)}{k:α}{v x:β}(h:dw l k=some x):(fN l k v).map (·.1)=l.map (·.1)/\(fN l k v).length=l.length:=by
 have:k∈l.map (·.1):=eY.mp (by rw[h];rfl)
 have e:=x6 (l:=l) (k:=k) (v:=v)
 rw[ag this]at e
 exact⟨e,by have:=bI List.length e;rwa [fg,fg]at this⟩
theorem hasN_no {S:RS}{nm:Str}(h:fV S nm=false):dw S.kept nm=none:=by
 unfold fV at h
 cases e:dw S.kept nm with
 | none=>rfl
 | some x=>rw[e]at h;cases h
theorem l7 {S:RS}{nm:Str}(h:¬ fV S nm=false):∃ x,dw S.kept nm=some x:=by
 unfold fV at h
 cases e:dw S.kept nm with
 | none=>rw[e]at h;exact absurd rfl h
 | some x=>exact⟨x,rfl⟩
theorem ph {S:RS}{nm:Str}(h:iA S nm=none):fK nm=true/\dw S.kept nm=none/\S.kept.length<20:=by
 unfold iA at h
 split at h
 ·cases h
 ·rename_i h1
  split at h
  ·cases h
  ·rename_i h2
   split at h
   ·cases h
   ·rename_i h3
    exact⟨by cases e:fK nm with | true=>rfl | false=>exact absurd e h1,hasN_no (by cases e:fV S nm with | false=>rfl | true=>exact absurd e h2),by omega⟩
theorem or_none {α:Type}{a b:Option α}(h:a.or b=none):a=none/\b=none:=by
 cases a with
 | none=>exact⟨rfl,h⟩
 | some x=>cases h
theorem ly {S:RS}{p:Int}(h:fE S p=none):1<=p/\p<S.n:=by
 unfold fE at h
 split at h
 ·assumption
 ·cases h
theorem pF {a:Int}(h:jl a=none):0<=a/\a<=20:=by
 unfold jl at h
 split at h
 ·assumption
 ·cases h
theorem oxB_ox {z:Str}(h:Ae z=true):OX z.cps.toList:=fun c hc=>by
 have:=List.all_eq_true.mp h c hc
 rcases Bool.or_eq_true_iff.mp this with q | q
 ·exact .inl (cC q)
 ·exact .inr (cC q)
theorem yh {kept:List (Str×Pt)}(h:ya kept)(bar:Int):∀ nm x,dw kept nm=some x->∃ b a,dw kept (srcOf kept nm bar).1=some (.fst b a):=by
 refine ev_ind h (fun nm=>∃ b a,dw kept (srcOf kept nm bar).1=some (.fst b a)) (fun nm b a e=>?_) (fun nm l r p e h1 h2=>?_)
 ·unfold srcOf;rw[zy e];exact⟨b,a,e⟩
 ·unfold srcOf
  rw[ev_jn h e]
  show ∃ b a,dw kept (if bar<p then _ else _:Str×Nat).1=_
  split
  ·exact h1
  ·exact h2
theorem hearB_len {b:List Nat}{bar n:Int}{sg:Str}(hb:(b.length:Int)=n)(h0:0<=bar)(h1:bar<n)(hs:sg.cps.toList.length=1):((tG b bar sg).length:Int)=n:=by
 unfold tG
 rw[kH,kH,aP,bQ,hs]
 omega
theorem hearB_ox {b:List Nat}{bar:Int}{sg:Str}(hb:OX b)(hs:OX sg.cps.toList):OX (tG b bar sg):=fun c hc=>by
 unfold tG at hc
 rcases List.mem_append.mp hc with q | q
 ·exact hb c (aO q)
 ·rcases List.mem_append.mp q with q | q
  ·exact hs c q
  ·exact hb c (List.mem_of_mem_drop q)
theorem sgn_ox {sg:Str}(h:sg = "o"\/sg = "x"):OX sg.cps.toList/\sg.cps.toList.length=1:=by
 rcases h with rfl | rfl
 ·exact⟨OX.of (by decide +kernel),rfl⟩
 ·exact⟨OX.of (by decide +kernel),rfl⟩
theorem nW.again {S:RS}{m:Nat}(h:nW S m){nm:Str}{b b':List Nat}{a a':Int}(e:dw S.kept nm=some (.fst b a))(hb:(b'.length:Int)=S.n)(ho:OX b')(h0:0<=a')(h1:a'<=20):nW { S with kept:=fN S.kept nm (.fst b' a')} (m+1):=by
 obtain⟨k1,k2⟩:=aput_old (v:=Pt.fst b' a') e
 refine⟨h.n1,h.n2,h.kp.same k1 fun z a b p q=>?_,by show(fN _ _ _).length<=20;rw[k2];exact h.ku,fun z b a q=>?_,fun z l r p q=>?_,fun p hp=>?_,bz h.shl,h.shn⟩
 ·rw[mh]at q;split at q
  ·cases q
  ·exact q
 ·have q:dw (fN S.kept nm (.fst b' a')) z=some (.fst b a):=q
  rw[mh]at q;split at q
  ·cases q;exact⟨hb,ho,h0,h1⟩
  ·exact h.fs z b a q
 ·have q:dw (fN S.kept nm (.fst b' a')) z=some (.jn l r p):=q
  rw[mh]at q;split at q
  ·cases q
  ·exact h.js z l r p q
 ·have:p.1∈(fN S.kept nm (.fst b' a')).map (·.1):=List.mem_map.mpr ⟨p,hp,rfl⟩
  rw[k1]at this
  obtain⟨q,hq,e2⟩:=List.mem_map.mp this
  rw[<- e2];exact h.nms q hq
theorem nW.more {S:RS}{m:Nat}(h:nW S m){nm:Str}{x:Pt}(hn:iA S nm=none)(hx:∀ a b p,x=.jn a b p->(∃ y,dw S.kept a=some y)/\(∃ y,dw S.kept b=some y)/\1<=p/\p<S.n)(hf:∀ b a,x=.fst b a->(b.length:Int)=S.n/\OX b/\0<=a/\a<=20):nW { S with kept:=fN S.kept nm x} (m+1):=by
 obtain⟨n1,n2,n3⟩:=ph hn
 have e:=ma (v:=x) n2
 rw[e]
 have nin:nm∉S.kept.map (·.1):=fun z=>by have:=eY.mpr z;rw[n2]at this;cases this
 have get:∀ z y,dw (S.kept++[(nm,x)]) z=some y->dw S.kept z=some y\/(z=nm/\y=x):=fun z y q=>by
  rw[<- e,mh]at q
  split at q
  ·rename_i w;exact .inr ⟨w,(aK q).symm⟩
  ·exact .inl q
 refine⟨h.n1,h.n2,h.kp.push nin fun a b p q=>?_,by show(S.kept++[(nm,x)]).length<=20;rw[kH,aQ];omega,fun z b a q=>?_,fun z l r p q=>?_,fun p hp=>?_,bz h.shl,h.shn⟩
 ·obtain⟨⟨y,e1⟩,⟨w,e2⟩,_⟩:=hx a b p q
  exact⟨eY.mp (by rw[e1];rfl),eY.mp (by rw[e2];rfl)⟩
 ·rcases get z _ q with q | ⟨_,q⟩
  ·exact h.fs z b a q
  ·exact hf b a q.symm
 ·rcases get z _ q with q | ⟨_,q⟩
  ·exact h.js z l r p q
  ·exact(hx l r p q.symm).2.2
 ·rcases List.mem_append.mp hp with q | q
  ·exact h.nms p q
  ·rw[List.mem_singleton.mp q];exact n1
theorem nW.do {S:RS}{m:Nat}{d:Dd}(h:nW S m)(hr:i9 S d=none):nW (pK S d) (m+1):=by
 cases d with
 | put nm b a =>
  obtain⟨h1,h2⟩:=or_none hr
  split at h2
  ·rename_i q
   obtain⟨a0,a1⟩:=pF h2
   exact h.more h1 (fun _ _ _ e=>by cases e) fun b' a' e=>by cases e;exact⟨q.1,oxB_ox q.2,a0,a1⟩
  ·cases h2
 | join nm l r p =>
  obtain⟨h1,h2⟩:=or_none hr
  split at h2
  ·cases h2
  ·rename_i q1
   split at h2
   ·cases h2
   ·rename_i q2
    obtain⟨h3,_⟩:=or_none h2
    obtain⟨p1,p2⟩:=ly h3
    exact h.more h1 (fun a b p' e=>by cases e;exact⟨l7 q1,l7 q2,p1,p2⟩) fun _ _ e=>by cases e
 | found nm bar sg =>
  have hr:(if fV S nm=false then some 11 else if 0<=bar/\bar<S.n then(if sg = "o"\/sg = "x" then none else some 0)else some 6)=(none:Option Nat):=hr
  split at hr
  ·cases hr
  ·rename_i q1
   split at hr
   ·rename_i q2
    split at hr
    ·rename_i q3
     obtain⟨x,ex⟩:=l7 q1
     obtain⟨b,a,e⟩:=yh h.kp bar nm x ex
     obtain⟨f1,f2,f3,f4⟩:=h.fs _ b a e
     obtain⟨o1,o2⟩:=sgn_ox q3
     have:=h.again e (hearB_len f1 q2.1 q2.2 o2) (hearB_ox (bar:=bar) f2 o1) f3 f4
     unfold pK hear
     dsimp only
     rw[e]
     exact this
    ·cases hr
   ·cases hr
 | kS nm a =>
  have hr:(match dw S.kept nm with | none=>some 11 | some (.jn _ _ _)=>some 13 | some (.fst _ _)=>jl a)=(none:Option Nat):=hr
  show nW (match dw S.kept nm with | some (.fst b _)=>{ S with kept:=fN S.kept nm (.fst b a)} | _=>S) _
  cases e:dw S.kept nm with
  | none=>rw[e]at hr;cases hr
  | some x =>
   rw[e]at hr
   cases x with
   | jn l r p=>cases hr
   | fst b a0 =>
    obtain⟨a1,a2⟩:=pF hr
    obtain⟨f1,f2,_⟩:=h.fs nm b a0 e
    exact h.again e f1 f2 a1 a2
 | drop nm =>
  have hr:(if fV S nm=false then some 11 else if j0 S nm=true then some 14 else none)=(none:Option Nat):=hr
  split at hr
  ·cases hr
  ·split at hr
   ·cases hr
   ·rename_i q
    have hx:∀ z a b p,dw S.kept z=some (.jn a b p)->a≠nm/\b≠nm:=fun z a b p e=>by
     have nq:¬ gc nm (.jn a b p)=true:=fun y=>q (List.any_eq_true.mpr ⟨_,mi e,y⟩)
     exact⟨fun y=>nq (by show(decide (a=nm)||decide (b=nm))=true;rw[af y];rfl),fun y=>nq (by show(decide (a=nm)||decide (b=nm))=true;rw[af y,Bool.or_true])⟩
    have get:∀ z y,dw (gL S.kept nm) z=some y->dw S.kept z=some y:=fun z y e=>by
     by_cases hz:z=nm
     ·subst hz
      have:=mi e
      unfold gL at this
      rw[List.mem_filter]at this
      exact absurd this.2 (by simp)
     ·rw[x8 hz]at e;exact e
    refine⟨h.n1,h.n2,h.kp.drop hx,ar (bE _ _) h.ku,fun z b a e=>h.fs z b a (get z _ e),fun z l r p e=>h.js z l r p (get z _ e),fun p hp=>h.nms p (List.mem_filter.mp hp).1,bz h.shl,h.shn⟩
 | free p=>exact⟨h.n1,h.n2,h.kp,h.ku,h.fs,h.js,h.nms,bz (ar (bE _ _) h.shl),h.shn.sublist (List.Sublist.map _ List.filter_sublist)⟩
 | eR p=>exact⟨h.n1,h.n2,h.kp,h.ku,h.fs,h.js,h.nms,ar aput_len (Nat.succ_le_succ h.shl),by
  show((fN S.eR p ()).map (·.1)).Nodup
  rw[x6]
  split
  ·exact h.shn
  ·rename_i q
   rw[bD]
   exact⟨h.shn,by simp,fun a ha b hb e=>q (by rw[<- List.mem_singleton.mp hb,<- e];exact ha)⟩⟩
def lT:Pt->D
 | .fst _ _=>.fH
 | .jn l r p=>.tup [.str l,.str r,.int p]
def fstOf:Str×Pt->Option (Str×Tk)
 | (nm,.fst b a)=>some (nm,(b,a))
 | (_,.jn _ _ _)=>none
def dW (kept:List (Str×Pt)):List (Str×Tk):=kept.filterMap fstOf
def shD (sh:List (Int×Unit)):D:=pA jR (fun _=>.bl true) sh
def sdN:List Str:=["length", "made_of", "firsts", "closed"]
def kW (cS:Addr)(S:RS):D:=.obj cS sdN [.int S.n,pA dX lT S.kept,pA dX iU (dW S.kept),shD S.eR]
def pR:Dd->D
 | .put nm b a=>.tup [.str "put",.str nm,.str b,.int a]
 | .join nm l r p=>.tup [.str "join",.str nm,.str l,.str r,.int p]
 | .found nm bar sg=>.tup [.str "found",.str nm,.int bar,.str sg]
 | .kS nm a=>.tup [.str "aged",.str nm,.int a]
 | .drop nm=>.tup [.str "drop",.str nm]
 | .free p=>.tup [.str "free",.int p]
 | .eR p=>.tup [.str "shut",.int p]
def ddW:Dd->Nat
 | .put _ _ _=>0 | .join _ _ _ _=>1 | .found _ _ _=>2 | .kS _ _=>3 | .drop _=>4 | .free _=>5 | .eR _=>6
def ddOk:Dd->Prop
 | .put nm b _=>nm.length<=1000/\b.length<=1000
 | .join nm _ _ _=>nm.length<=1000
 | _=>True
def uy (cs:List Addr)(K:DK)(Kx:DX)(o:Option Nat)(d:D)(μ:MS):Prop:=match o with
 | some i=>Kx (.ref (cs.getD i 0)) μ
 | none=>K d μ
def fWith:iN:=fun ds μ K=>match ds with
 | [.kK ks es,y,v]=>∃(kd:List (Key×D)) (k:Key),ks=kd.map (·.1)/\es=kd.map (·.2)/\kd.length<=100000/\mY y=some k/\K (.kK ((dput kd k v).map (·.1)) ((dput kd k v).map (·.2))) μ
 | _=>False
def oH:iN:=fun ds μ K=>match ds with
 | [.kK ks es,y]=>∃(kd:List (Key×D)) (k:Key),ks=kd.map (·.1)/\es=kd.map (·.2)/\kd.length<=100000/\(kd.map (·.1)).Nodup/\mY y=some k/\(∀ p∈kd,(∃ i j,p.1=jR i/\k=jR j)\/∃ i j,p.1=dX i/\k=dX j)/\K (.kK ((kd.filter fun p=>decide (p.1≠k)).map (·.1)) ((kd.filter fun p=>decide (p.1≠k)).map (·.2))) μ
 | _=>False
def rA:iN:=fun ds μ K=>match ds with
 | [.int n,.str z]=>z.length<=1000/\K (.bl (decide (((z.length:Nat):Int)=n/\Ae z=true))) μ
 | _=>False
def vP (cS:Addr)(cs:List Addr):iM:=fun ds μ K Kx=>match ds with
 | [x,.str nm]=>(∃ m,μ[0]?=some m)/\∃ S,x=kW cS S/\(match dw S.kept nm with | some _=>K .fH μ | none=>Kx (.ref (cs.getD 11 0)) μ)
 | _=>False
theorem fThere_len {cS:Addr}{cs:List Addr}{ds:List D}{μ:MS}{K:DK}{Kx:DX}(h:vP cS cs ds μ K Kx):ds.length=2/\∃ m,μ[0]?=some m:=by
 unfold vP at h
 split at h
 ·exact⟨rfl,h.1⟩
 ·exact h.elim
def rl (cS:Addr)(cs:List Addr):iM:=fun ds μ K Kx=>match ds with
 | [x,.str nm]=>(∃ m,μ[0]?=some m)/\∃ S,x=kW cS S/\(match dw S.kept nm with | some y=>K (lT y) μ | none=>Kx (.ref (cs.getD 11 0)) μ)
 | _=>False
theorem fPartsS_len {cS:Addr}{cs:List Addr}{ds:List D}{μ:MS}{K:DK}{Kx:DX}(h:rl cS cs ds μ K Kx):ds.length=2/\∃ m,μ[0]?=some m:=by
 unfold rl at h
 split at h
 ·exact⟨rfl,h.1⟩
 ·exact h.elim
def srcD (p:Str×Nat):D:=.tup [.str p.1,.int p.2]
def oI (cS:Addr)(cs:List Addr):iM:=fun ds μ K Kx=>match ds with
 | [x,.str nm,.int bar]=>(∃ m,μ[0]?=some m)/\∃ S,x=kW cS S/\ya S.kept/\(match dw S.kept nm with | some _=>(if 0<=bar/\bar<S.n then K (srcD (srcOf S.kept nm bar)) μ else Kx (.ref (cs.getD 6 0)) μ) | none=>Kx (.ref (cs.getD 11 0)) μ)
 | _=>False
theorem zq {cS:Addr}{cs:List Addr}{ds:List D}{μ:MS}{K:DK}{Kx:DX}(h:oI cS cs ds μ K Kx):ds.length=3/\∃ m,μ[0]?=some m:=by
 unfold oI at h
 split at h
 ·exact⟨rfl,h.1⟩
 ·exact h.elim
def uS (kept:List (Str×Pt)):List (Str×Tk):=kept.map fun p=>(p.1,fv kept p.1)
def rB (cS:Addr):iN:=fun ds μ K=>match ds with
 | [x]=>∃ S m,x=kW cS S/\nW S m/\K (pA dX iU (uS S.kept)) μ
 | _=>False
def vQ (cS:Addr)(cs:List Addr):iM:=fun ds μ K Kx=>match ds with
 | [x,.str nm]=>(∃ m,μ[0]?=some m)/\∃ S m,x=kW cS S/\nW S m/\(match dw S.kept nm with | some _=>K (iU (fv S.kept nm)) μ | none=>Kx (.ref (cs.getD 11 0)) μ)
 | _=>False
theorem fTakeS_len {cS:Addr}{cs:List Addr}{ds:List D}{μ:MS}{K:DK}{Kx:DX}(h:vQ cS cs ds μ K Kx):ds.length=2/\∃ m,μ[0]?=some m:=by
 unfold vQ at h
 split at h
 ·exact⟨rfl,h.1⟩
 ·exact h.elim
def nI (S:RS):List Int:=((List.range (S.n - 1).toNat).map fun i=>1+((i:Nat):Int)).filter fun p=>!(dw S.eR p).isSome
def lJ (S:RS):List Tk:=S.kept.map fun p=>fv S.kept p.1
def uG (cS:Addr):iN:=fun ds μ K=>match ds with
 | [x]=>∃ S m,x=kW cS S/\nW S m/\K (.tup [.int S.n,.lst ((nI S).map D.int),.lst ((lJ S).map iU)]) μ
 | _=>False
def uF (cS:Addr):iN:=fun ds μ K=>match ds with
 | [.mr k,.int n,a,b,c]=>μ[k]?=some (.ins cS [] [])/\K .fH (μ.set k (.ins cS sdN [.int n,a,b,c]))
 | _=>False
def fW (cS:Addr)(cs:List Addr)(w:Nat):iM:=fun ds μ K Kx=>match ds with
 | [x,y]=>(∃ m,μ[0]?=some m)/\∃ S d m,x=kW cS S/\y=pR d/\ddW d=w/\nW S m/\m<=1000/\ddOk d/\uy cs K Kx (i9 S d) (kW cS (pK S d)) μ
 | _=>False
theorem iL {cS:Addr}{cs:List Addr}{w:Nat}{ds:List D}{μ:MS}{K:DK}{Kx:DX}(h:fW cS cs w ds μ K Kx):ds.length=2/\∃ m,μ[0]?=some m:=by
 unfold fW at h
 split at h
 ·exact⟨rfl,h.1⟩
 ·exact h.elim
def oM (cS:Addr)(cs:List Addr):iM:=fun ds μ K Kx=>match ds with
 | [x,y]=>(∃ m,μ[0]?=some m)/\∃ S d m,x=kW cS S/\y=pR d/\nW S m/\m<=1000/\ddOk d/\uy cs K Kx (i9 S d) (kW cS (pK S d)) μ
 | _=>False
theorem zw {cS:Addr}{cs:List Addr}{ds:List D}{μ:MS}{K:DK}{Kx:DX}(h:oM cS cs ds μ K Kx):ds.length=2/\∃ m,μ[0]?=some m:=by
 unfold oM at h
 split at h
 ·exact⟨rfl,h.1⟩
 ·exact h.elim
def fNew (cS:Addr)(cs:List Addr):iM:=fun ds μ K Kx=>match ds with
 | [x,.str nm]=>(∃ m,μ[0]?=some m)/\nm.length<=1000/\∃ S,x=kW cS S/\uy cs K Kx (iA S nm) .fH μ
 | _=>False
theorem fNew_len {cS:Addr}{cs:List Addr}{ds:List D}{μ:MS}{K:DK}{Kx:DX}(h:fNew cS cs ds μ K Kx):ds.length=2/\∃ m,μ[0]?=some m:=by
 unfold fNew at h
 split at h
 ·exact⟨rfl,h.1⟩
 ·exact h.elim
def fAgeC (cs:List Addr):iM:=fun ds μ K Kx=>match ds with
 | [.int a]=>(∃ m,μ[0]?=some m)/\uy cs K Kx (jl a) .fH μ
 | _=>False
theorem fAgeC_len {cs:List Addr}{ds:List D}{μ:MS}{K:DK}{Kx:DX}(h:fAgeC cs ds μ K Kx):ds.length=1/\∃ m,μ[0]?=some m:=by
 unfold fAgeC at h
 split at h
 ·exact⟨rfl,h.1⟩
 ·exact h.elim
def rk (cS:Addr)(cs:List Addr):iM:=fun ds μ K Kx=>match ds with
 | [x,.int p]=>(∃ m,μ[0]?=some m)/\∃ S,x=kW cS S/\uy cs K Kx (fE S p) .fH μ
 | _=>False
theorem fPlaceC_len {cS:Addr}{cs:List Addr}{ds:List D}{μ:MS}{K:DK}{Kx:DX}(h:rk cS cs ds μ K Kx):ds.length=2/\∃ m,μ[0]?=some m:=by
 unfold rk at h
 split at h
 ·exact⟨rfl,h.1⟩
 ·exact h.elim
theorem calv_nil {P:Program}{w:World}{K:PySem.W.Frag}{mg:Str->Option Value}{base:Heap}{k:Nat}{ps:List Str}:CalV P w K mg base [] k ps:=⟨fun _ h=>nomatch h⟩
theorem jz {P:Program}{w:World}{K:PySem.W.Frag}{mg:Str->Option Value}{base:Heap}{x:Str}{k:Nat}{ps:List Str}{f:iM}{a:Addr}{T:List (Addr×iM)}(C:rV P w K mg base x k ps (jt f))(hm:mg x=some (.ref a))(R:CalV P w K mg base T k ps):CalV P w K mg base ((a,f)::T) k ps:=⟨fun p hp=>by
 rcases List.mem_cons.mp hp with rfl | q
 ·obtain⟨f',fd,F,hm',hk,hb⟩:=C.ex
  rw[hm]at hm'
  cases hm'
  exact⟨fd,F,hk,hb⟩
 ·exact R.ex p q⟩
theorem fc {μ:MS}{x:MO}:(μ++[x])[μ.length]?=some x:=by rw[p6 (aa _),aR];rfl
theorem end_dic {μ:MS}{ks:List Key}{ds:List D}:uc (μ++[.hJ ks ds]) μ.length=some (ks,ds):=by unfold uc;rw[fc]
theorem uz {n:Nat}:∀ {ds:List D} {d:D},pj n ds->d∈ds->wJ n d
 | _::_,d,h,hd=>by
  rcases List.mem_cons.mp hd with rfl | q
  ·exact h.1
  ·exact uz h.2 q
theorem dput_mem {kd:List (Key×D)}{k:Key}{v d:D}(h:d∈(dput kd k v).map (·.2)):d∈kd.map (·.2)\/d=v:=by
 unfold dput at h
 split at h
 ·rw[aC]at h
  obtain⟨p,hp,rfl⟩:=List.mem_map.mp h
  simp only[Function.comp]
  split
  ·exact .inr rfl
  ·exact .inl (List.mem_map.mpr ⟨p,hp,rfl⟩)
 ·rw[aG]at h
  rcases List.mem_append.mp h with q | q
  ·exact .inl q
  ·exact .inr (List.mem_singleton.mp q)
theorem mU {n:Nat}{kd:List (Key×D)}{k:Key}{v:D}(h:pj n (kd.map (·.2)))(hv:wJ n v):pj n ((dput kd k v).map (·.2)):=jw fun d hd=>by
 rcases dput_mem hd with q | q
 ·exact uz h q
 ·rw[q];exact hv
theorem dput_new {kd:List (Key×D)}{k:Key}{v:D}(h:k∉kd.map (·.1)):dput kd k v=kd++[(k,v)]:=by
 unfold dput
 rw[ae]
 intro z
 obtain⟨p,hp,e⟩:=List.any_eq_true.mp z
 exact h (List.mem_map.mpr ⟨p,hp,cC e⟩)
theorem xG {kd:List (Key×D)}:List.zipWith (fun k d=>D.tup [mW k,d]) (kd.map (·.1)) (kd.map (·.2))=kd.map fun p=>D.tup [mW p.1,p.2]:=by
 induction kd with
 | nil=>rfl
 | cons p kd ih=>rw[ah,ah,List.zipWith_cons_cons,ih];rfl
theorem lM {it:D->MS->(Option (Key×D)->MS->Prop)->Prop}{μ:MS}(t:Key×D->Bool):∀(kd acc:List (Key×D)) (K:List (Key×D)->Prop),((acc++kd).map (·.1)).Nodup ->
 (∀ p∈kd,∀(μ':MS) (K':Option (Key×D)->MS->Prop),K' (if t p=true then some p else none) μ'->it (.tup [mW p.1,p.2]) μ' K')->K (acc++kd.filter t)->sH it (fun _=>True) μ (kd.map fun p=>D.tup [mW p.1,p.2]) acc K
 | [],acc,K,_,_,k=>by rw[List.filter_nil,aN]at k;exact⟨trivial,k⟩
 | p::kd,acc,K,nd,h,k=>by
  refine⟨trivial,h p aw _ _ ⟨rfl,?_⟩⟩
  rw[a9]at k
  have nd2:((acc++kd).map (·.1)).Nodup:=nd.sublist (List.Sublist.map _ (List.Sublist.append_left (List.sublist_cons_self _ _) _))
  by_cases q:t p=true
  ·rw[ag q]at k ⊢
   have hn:p.1∉acc.map (·.1):=fun z=>by
    rw[aG,bD]at nd
    exact nd.2.2 p.1 z p.1 (List.mem_map.mpr ⟨p,aw,rfl⟩) rfl
   show sH it _ μ _ (dput acc p.1 p.2) K
   rw[dput_new hn]
   exact lM t kd (acc++[p]) K (by rw[aI];exact nd) (fun p' hp'=>h p' (mZ _ hp')) (by rw[aI];exact k)
  ·rw[ae q]at k ⊢
   exact lM t kd acc K nd2 (fun p' hp'=>h p' (mZ _ hp')) k
theorem cnt_ox:∀ l:List Nat,l.count 111+l.count 120=l.length↔(l.all fun c=>decide (c=111)||decide (c=120))=true
 | []=>by simp
 | c::l=>by
  have ih:=cnt_ox l
  have le:l.count 111+l.count 120<=l.length:=by
   clear ih
   induction l with
   | nil=>simp
   | cons d l ih2 =>
    rw[cU,cU,aE]
    by_cases e1:d=111
    ·subst e1;simp;omega
    ·by_cases e2:d=120
     ·subst e2;simp;omega
     ·rw[ae (by simpa using e1),ae (by simpa using e2)];omega
  rw[cU,cU,aE,cN]
  by_cases e1:c=111
  ·subst e1
   rw[Bool.and_eq_true_iff,<- ih]
   simp
   omega
  ·by_cases e2:c=120
   ·subst e2
    rw[Bool.and_eq_true_iff,<- ih]
    simp
    omega
   ·rw[ae (by simpa using e1),ae (by simpa using e2),ak e1,ak e2]
    simp
    omega
theorem gJ (p:Str×Pt)(l:List (Str×Pt)):dW (p::l)=match fstOf p with | some q=>q::dW l | none=>dW l:=by
 unfold dW
 rw[bJ]
 cases fstOf p <;> rfl
theorem kJ {l:List (Str×Pt)}{nm:Str}(nd:(l.map (·.1)).Nodup):dw (dW l) nm=match dw l nm with | some (.fst b a)=>some (b,a) | _=>none:=by
 induction l with
 | nil=>rfl
 | cons p l ih =>
  obtain⟨z,x⟩:=p
  rw[ah,List.nodup_cons]at nd
  have ih:=ih nd.2
  rw[gJ,eZ]
  by_cases e:z=nm
  ·rw[ag e]
   have hn:dw l nm=none:=by
    cases q:dw l nm with
    | none=>rfl
    | some y=>exact absurd (eY.mp (show(dw l nm).isSome=true by rw[q];rfl)) (by rw[<- e];exact nd.1)
   cases x with
   | fst b a=>show dw ((z,(b,a))::dW l) nm=_;rw[eZ,ag e]
   | jn a b p=>show dw (dW l) nm=_;rw[ih,hn]
  ·rw[ae e]
   cases x with
   | fst b a=>show dw ((z,(b,a))::dW l) nm=_;rw[eZ,ae e,ih]
   | jn a b p=>show dw (dW l) nm=_;rw[ih]
theorem vM {l:List (Str×Pt)}:((dW l).map (·.1)).Sublist (l.map (·.1)):=by
 induction l with
 | nil=>exact .slnil
 | cons p l ih =>
  obtain⟨z,x⟩:=p
  rw[gJ]
  cases x with
  | fst b a=>exact ih.cons₂ _
  | jn a b q=>exact ih.cons _
theorem firsts_drop {l:List (Str×Pt)}{nm:Str}:dW (gL l nm)=gL (dW l) nm:=by
 unfold gL
 induction l with
 | nil=>rfl
 | cons p l ih =>
  obtain⟨z,x⟩:=p
  rw[a9,gJ]
  by_cases e:z=nm
  ·rw[ae (by simp[e]),ih]
   cases x with
   | fst b a=>show _=List.filter _ ((z,(b,a))::dW l);rw[a9,ae (by simp[e])]
   | jn a b q=>rfl
  ·rw[ag (by simp[e]),gJ,ih]
   cases x with
   | fst b a=>show _=List.filter _ ((z,(b,a))::dW l);rw[a9,ag (by simp[e])];rfl
   | jn a b q=>rfl
theorem vO {l m:List (Str×Pt)}:dW (l++m)=dW l++dW m:=List.filterMap_append
theorem firsts_jn {l:List (Str×Pt)}{nm a b:Str}{p:Int}(h:dw l nm=none):dW (fN l nm (.jn a b p))=dW l:=by
 rw[ma h,vO]
 exact aN _
theorem firsts_new {l:List (Str×Pt)}{nm:Str}{b:List Nat}{a:Int}(nd:(l.map (·.1)).Nodup)(h:dw l nm=none):dW (fN l nm (.fst b a))=fN (dW l) nm (b,a):=by
 rw[ma h,ma (by rw[kJ nd,h]),vO]
 rfl
theorem aput_nil {α β:Type}[DecidableEq α]{l:List (α×β)}{k:α}{v:β}(h:k∉l.map (·.1)):(l.map fun p=>if p.1=k then(p.1,v)else p)=l:=by
 conv=>rhs;rw[<- List.map_id l]
 refine bV fun p hp=>?_
 rw[ae]
 ·rfl
 ·exact fun e=>h (List.mem_map.mpr ⟨p,hp,e⟩)
theorem vN {l:List (Str×Pt)}{nm:Str}{b b0:List Nat}{a a0:Int}(nd:(l.map (·.1)).Nodup)(h:dw l nm=some (.fst b0 a0)):dW (fN l nm (.fst b a))=fN (dW l) nm (b,a):=by
 have h2:dw (dW l) nm=some (b0,a0):=by rw[kJ nd,h]
 unfold fN
 rw[ag (by rw[kM,h];rfl),ag (by rw[kM,h2];rfl)]
 clear h2
 induction l with
 | nil=>cases h
 | cons p l ih =>
  obtain⟨z,x⟩:=p
  rw[ah,List.nodup_cons]at nd
  rw[eZ]at h
  rw[ah]
  by_cases e:z=nm
  ·subst e
   rw[ag rfl]at h
   cases(show x=.fst b0 a0 from aK h)
   rw[ag rfl,aput_nil (k:=z) nd.1,gJ,gJ]
   show(z,(b,a))::dW l=List.map _ ((z,(b0,a0))::dW l)
   rw[ah,ag rfl,aput_nil (k:=z) (fun q=>nd.1 (vM.subset q))]
  ·rw[ae (show ¬ z=nm from e)]at h
   rw[ae (show ¬ (z,x).1=nm from e),gJ,gJ,ih nd.2 h]
   cases x with
   | fst b1 a1=>show _=List.map _ ((z,(b1,a1))::dW l);rw[ah,ae (show ¬ z=nm from e)];rfl
   | jn _ _ _=>rfl
theorem tk_ok {S:RS}{m:Nat}(h:nW S m):∀ nm x,dw S.kept nm=some x->((fv S.kept nm).1.length:Int)=S.n/\OX (fv S.kept nm).1/\0<=(fv S.kept nm).2:=by
 refine ev_ind h.kp (fun nm=>((fv S.kept nm).1.length:Int)=S.n/\OX (fv S.kept nm).1/\0<=(fv S.kept nm).2) (fun nm b a e=>?_) (fun nm l r p e h1 h2=>?_)
 ·unfold fv
  rw[zy e]
  obtain⟨f1,f2,f3,_⟩:=h.fs nm b a e
  exact⟨f1,f2,f3⟩
 ·obtain⟨p1,p2⟩:=h.js nm l r p e
  unfold fv at h1 h2 ⊢
  rw[ev_jn h.kp e]
  obtain⟨a1,a2,a3⟩:=h1
  obtain⟨b1,b2,b3⟩:=h2
  refine⟨?_,jnT_ox a2 b2,?_⟩
  ·have:=jnT_len (l1:=(ev (fun _ b a=>(b,a)) (fun x y p=>(jnT x.1 y.1 p,max x.2 y.2+1)) ([],0) S.kept l:List Nat×Int).1) (l2:=(ev (fun _ b a=>(b,a)) (fun x y p=>(jnT x.1 y.1 p,max x.2 y.2+1)) ([],0) S.kept r:List Nat×Int).1) (p:=p) (by omega) (by omega) (by omega)
   show((jnT _ _ p).length:Int)=_
   rw[this];exact a1
  ·show 0<=max _ _+1
   omega
theorem tk_jn {S:RS}(h:ya S.kept){nm l r:Str}{p:Int}(e:dw S.kept nm=some (.jn l r p)):fv S.kept nm=joinT (fv S.kept l) (fv S.kept r) p:=by
 unfold fv
 rw[ev_jn h e]
 rfl
theorem tk_fst {kept:List (Str×Pt)}{nm:Str}{b:List Nat}{a:Int}(e:dw kept nm=some (.fst b a)):fv kept nm=(b,a):=by
 unfold fv
 rw[zy e]
theorem fZ {α β:Type}(κ:α->Key)(f:β->D)(l:List (α×β)):(l.map fun p=>κ p.1)=(l.map fun p=>(κ p.1,f p.2)).map (·.1)/\(l.map fun p=>f p.2)=(l.map fun p=>(κ p.1,f p.2)).map (·.2):=by
 rw[aC,aC]
 exact⟨rfl,rfl⟩
theorem qt {kept:List (Str×Pt)}{nm:Str}{b:List Nat}{a bar:Int}(e:dw kept nm=some (.fst b a)):srcOf kept nm bar=(nm,0):=by
 unfold srcOf
 rw[zy e]
theorem yg {kept:List (Str×Pt)}(h:ya kept){nm l r:Str}{p:Int}(e:dw kept nm=some (.jn l r p))(bar:Int):srcOf kept nm bar=if bar<p then((srcOf kept l bar).1,(srcOf kept l bar).2+1)else((srcOf kept r bar).1,(srcOf kept r bar).2+1):=by
 unfold srcOf
 rw[ev_jn h e]
theorem mr_g {α β:Type}{n:Nat}{κ:α->Key}{f:β->D}(hf:∀ b,wJ n (f b))(l:List (α×β)):pj n ((l.map fun p=>(κ p.1,f p.2)).map (·.2)):=jw fun d hd=>by
 rw[aC]at hd
 obtain⟨p,_,rfl⟩:=List.mem_map.mp hd
 exact hf _
theorem tf {n:Nat}:∀ x,wJ n (lT x)
 | .fst _ _=>trivial
 | .jn _ _ _=>⟨trivial,trivial,trivial,trivial⟩
theorem qo {n:Nat}(t:Tk):wJ n (iU t):=⟨trivial,trivial,trivial⟩
theorem tm {α β:Type}{n:Nat}{κ:α->Key}{f:β->D}(hf:∀ b,wJ n (f b))(l:List (α×β)):wJ n (pA κ f l):=jw fun d hd=>by
 obtain⟨p,_,rfl⟩:=List.mem_map.mp hd
 exact hf _
theorem mr_sh {n:Nat}(l:List (Int×Unit)):wJ n (shD l):=tm (n:=n) (f:=fun _:Unit=>D.bl true) (fun _=>True.intro) l
section
variable {α β:Type}[DecidableEq α]{κ:α->Key}(hi:∀ a b,κ a=κ b->a=b)(f:β->D)
include hi
theorem wput (k:α)(v:β)(l:List (α×β)):D.kK ((dput (l.map fun p=>(κ p.1,f p.2)) (κ k) (f v)).map (·.1)) ((dput (l.map fun p=>(κ p.1,f p.2)) (κ k) (f v)).map (·.2))=pA κ f (fN l k v):=by
 rw[dput_k hi f k v l,<- (fZ κ f _).1,<- (fZ κ f _).2]
 rfl
theorem wdrop (k:α)(l:List (α×β)):D.kK (((l.map fun p=>(κ p.1,f p.2)).filter fun p=>decide (p.1≠κ k)).map (·.1)) (((l.map fun p=>(κ p.1,f p.2)).filter fun p=>decide (p.1≠κ k)).map (·.2))=pA κ f (gL l k):=by
 rw[dropF_k hi f k l,<- (fZ κ f _).1,<- (fZ κ f _).2]
 rfl
theorem kd_nd {l:List (α×β)}(nd:(l.map (·.1)).Nodup):((l.map fun p=>(κ p.1,f p.2)).map (·.1)).Nodup:=by
 rw[aC]
 show(l.map (κ ∘ fun p=>p.1)).Nodup
 rw[<- aC]
 exact nd.map (f:=κ) fun a b h z=>h (hi _ _ z)
end
theorem kd_len {α β:Type}{κ:α->Key}{f:β->D}{l:List (α×β)}:(l.map fun p=>(κ p.1,f p.2)).length=l.length:=fg _
theorem iteNot {c:Prop}[Decidable c]{A B:Prop}(h1:¬ c->A)(h2:c->B):if(!decide c)=true then A else B:=by
 by_cases q:c
 ·rw[af q];exact h2 q
 ·rw[ak q];exact h1 q
theorem cmp1 {a b:Nat}:decide (([a]:List Nat)<[b])=decide (a<b):=by
 by_cases h:a<b
 ·rw[af h,af (show([a]:List Nat)<[b]from List.Lex.rel h)]
 ·rw[ak h,ak]
  intro z
  cases z with
  | rel q=>exact h q
  | cons q=>cases q
theorem nameB_of {nm:Str}(h1:¬ ((nm.length:Nat):Int)<1)(h2:¬ (8:Int)<((nm.length:Nat):Int)):fK nm=(nm.cps.toList.all fun c=>decide (97<=c)&&decide (c<=122)):=by
 unfold fK
 rw[af (show 1<=nm.length by omega),af (show nm.length<=8 by omega)]
 rfl
theorem open_map (S:RS):(((List.range (S.n - 1).toNat).map fun i=>1+((i:Nat):Int)).filterMap fun p=>if(dw S.eR p).isSome=true then none else some (D.int p))=(nI S).map D.int:=by
 unfold nI
 generalize ((List.range (S.n - 1).toNat).map fun i=>1+((i:Nat):Int))=l
 induction l with
 | nil=>rfl
 | cons p l ih =>
  rw[bJ,a9]
  cases(dw S.eR p).isSome with
  | true=>exact ih
  | false=>show D.int p::_=D.int p::_;rw[ih]
theorem pt_again {l:List (Str×Pt)}{nm:Str}{b b0:List Nat}{a a0:Int}(h:dw l nm=some (.fst b0 a0))(nd:(l.map (·.1)).Nodup:=by assumption):pA dX lT (fN l nm (.fst b a))=pA dX lT l:=by
 unfold pA
 have k1:=(aput_old (v:=Pt.fst b a) h).1
 have e1:(fN l nm (.fst b a)).map (fun p=>dX p.1)=l.map fun p=>dX p.1:=by
  have:=bI (List.map dX) k1
  rw[aC,aC]at this
  exact this
 rw[e1]
 congr 1
 unfold fN
 rw[ag (by rw[kM,h];rfl),aC]
 refine bV fun p hp=>?_
 simp only[Function.comp]
 by_cases e:p.1=nm
 ·rw[ag e]
  have:dw l nm=some p.2:=f9 nd (by rw[<- e];exact hp)
  rw[h]at this
  rw[<- aK this]
  rfl
 ·rw[ae e]
theorem zT {l:List Nat}{sg:Str}:(⟨l.toArray⟩++sg:Str)=⟨(l++sg.cps.toList).toArray⟩:=nk l sg.cps.toList
theorem iteNn {c1 c2:Prop}[Decidable c1][Decidable c2]{A B:Prop}(hB:c1\/c2->B)(hA:¬ (c1\/c2)->A):if(true != decide c1)=true then(if(true != decide c2)=true then A else B)else B:=by
 by_cases q1:c1
 ·rw[af q1];exact hB (.inl q1)
 ·by_cases q2:c2
  ·rw[ak q1,af q2];exact hB (.inr q2)
  ·rw[ak q1,ak q2];exact hA fun z=>z.elim q1 q2
def roN:List Str:=["stands", "rows", "done"]
structure eU (cR cS:Addr)(μ:MS)(k j1 j2:Nat)(ss:List RS)(rs:List Dd)(d:Nat):Prop where
 k0:k≠0
 a0:j1≠0
 b0:j2≠0
 ka:k≠j1
 kb:k≠j2
 ab:j1≠j2
 ins:μ[k]?=some (.ins cR roN [.mr j1,.mr j2,.int (d:Int)])
 l1:μ[j1]?=some (.lst (ss.map (kW cS)))
 l2:μ[j2]?=some (.lst (rs.map pR))
 len:ss.length=rs.length+1
 le:d<=rs.length
 wf:∀ i S,ss[i]?=some S->nW S i
 ku:rs.length<=900
def mR (cR cS:Addr)(μ:MS)(k j1 j2:Nat)(ss:List RS)(rs:List Dd)(d:Nat):MS:=((μ.set j1 (.lst (ss.map (kW cS)))).set j2 (.lst (rs.map pR))).set k (.ins cR roN [.mr j1,.mr j2,.int (d:Int)])
section
variable {cR cS:Addr}{μ:MS}{k j1 j2:Nat}{ss:List RS}{rs:List Dd}{d:Nat}
theorem eU.lk (h:eU cR cS μ k j1 j2 ss rs d):k<μ.length/\j1<μ.length/\j2<μ.length:=⟨(lE h.ins).1,(lE h.l1).1,(lE h.l2).1⟩
theorem eU.now (h:eU cR cS μ k j1 j2 ss rs d):∃ S,ss[d]?=some S/\nW S d:=by
 have:d<ss.length:=by have:=h.len;have:=h.le;omega
 exact⟨_,tL this,h.wf d _ (tL this)⟩
theorem eU.other (h:eU cR cS μ k j1 j2 ss rs d){i:Nat}{m:MO}(hk:i≠k)(h1:i≠j1)(h2:i≠j2):eU cR cS (μ.set i m) k j1 j2 ss rs d :=
 ⟨h.k0,h.a0,h.b0,h.ka,h.kb,h.ab,by rw[ao hk];exact h.ins,by rw[ao h1];exact h.l1,by rw[ao h2];exact h.l2,h.len,h.le,h.wf,h.ku⟩
theorem eU.gx (h:eU cR cS μ k j1 j2 ss rs d){m:MO}:eU cR cS (μ.set 0 m) k j1 j2 ss rs d:=h.other (bb h.k0) (bb h.a0) (bb h.b0)
theorem eU.more (h:eU cR cS μ k j1 j2 ss rs d){g:MS}:eU cR cS (μ++g) k j1 j2 ss rs d:=by
 obtain⟨a,b,c⟩:=h.lk
 exact⟨h.k0,h.a0,h.b0,h.ka,h.kb,h.ab,by rw[uD a];exact h.ins,by rw[uD b];exact h.l1,by rw[uD c];exact h.l2,h.len,h.le,h.wf,h.ku⟩
theorem eU.put (h:eU cR cS μ k j1 j2 ss rs d){ss':List RS}{rs':List Dd}{d':Nat}(len:ss'.length=rs'.length+1)(le:d'<=rs'.length)(wf:∀ i S,ss'[i]?=some S->nW S i)(ku:rs'.length<=900):eU cR cS (mR cR cS μ k j1 j2 ss' rs' d') k j1 j2 ss' rs' d':=by
 obtain⟨a,b,c⟩:=h.lk
 refine⟨h.k0,h.a0,h.b0,h.ka,h.kb,h.ab,?_,?_,?_,len,le,wf,ku⟩
 ·unfold mR;rw[az (by rw[aH,aH];exact a)]
 ·unfold mR;rw[ao h.ka,ao (bb h.ab),az b]
 ·unfold mR;rw[ao h.kb,az (by rw[aH];exact c)]
theorem set_same {μ:MS}{i:Nat}{m:MO}(h:μ[i]?=some m):μ.set i m=μ:=by
 refine List.ext_getElem? fun j=>?_
 by_cases e:i=j
 ·subst e;rw[az (lE h).1,h]
 ·rw[ao e]
theorem putR_gx (h:eU cR cS μ k j1 j2 ss rs d){m m0:MO}{ss':List RS}{rs':List Dd}{d':Nat}(em:μ[0]?=some m0):(mR cR cS (μ.set 0 m) k j1 j2 ss' rs' d').set 0 m0=mR cR cS μ k j1 j2 ss' rs' d'/\(mR cR cS (μ.set 0 m) k j1 j2 ss' rs' d')[0]?=some m:=by
 have h0:0<μ.length:=(lE em).1
 unfold mR
 refine⟨?_,?_⟩
 ·rw[cA _ _ h.k0,cA _ _ h.b0,cA _ _ h.a0,c9,set_same em]
 ·rw[ao h.k0,ao h.b0,ao h.a0,az h0]
theorem putR_len {ss':List RS}{rs':List Dd}{d':Nat}:(mR cR cS μ k j1 j2 ss' rs' d').length=μ.length:=by unfold mR;rw[aH,aH,aH]
theorem putR_at {ss':List RS}{rs':List Dd}{d' i:Nat}(hk:i≠k)(h1:i≠j1)(h2:i≠j2):(mR cR cS μ k j1 j2 ss' rs' d')[i]?=μ[i]?:=by
 unfold mR;rw[ao (bb hk),ao (bb h2),ao (bb h1)]
end
section
variable (cR cS:Addr)(cs:List Addr)
def rj:iM:=fun ds μ K Kx=>match ds with
 | [.mr k,.int n]=>(∃ m,μ[0]?=some m)/\k≠0/\μ[k]?=some (.ins cR [] [])/\(if 1<=n/\n<=40 then K .fH (μ.set k (.ins cR roN [.mr μ.length,.mr (μ.length+1),.int 0])++[.lst [kW cS ⟨n,[],[]⟩],.lst []])else Kx (.ref (cs.getD 8 0)) μ)
 | _=>False
def fNow:iN:=fun ds μ K=>match ds with
 | [.mr k]=>∃ j1 j2 ss rs d S,eU cR cS μ k j1 j2 ss rs d/\ss[d]?=some S/\K (kW cS S) μ
 | _=>False
def vU:iM:=fun ds μ K Kx=>match ds with
 | [.mr k,y]=>(∃ m,μ[0]?=some m)/\∃ j1 j2 ss rs d S e,eU cR cS μ k j1 j2 ss rs d/\ss[d]?=some S/\y=pR e/\ddOk e/\rs.length<900/\(match i9 S e with | some i=>Kx (.ref (cs.getD i 0)) μ | none=>K .fH (mR cR cS μ k j1 j2 (ss.take (d+1)++[pK S e]) (rs.take d++[e]) (d+1)))
 | _=>False
def zt (b:Bool):iN:=fun ds μ K=>match ds with
 | [.mr k]=>∃ j1 j2 ss rs d,eU cR cS μ k j1 j2 ss rs d/\K (.lst ((if b=true then rs.take d else rs.drop d).map pR)) μ
 | _=>False
def iw (g:RS->D):iN:=fun ds μ K=>match ds with
 | [.mr k]=>∃ j1 j2 ss rs d S,eU cR cS μ k j1 j2 ss rs d/\ss[d]?=some S/\K (g S) μ
 | _=>False
def jd (g:RS->Str->D):iM:=fun ds μ K Kx=>match ds with
 | [.mr k,.str nm]=>(∃ m,μ[0]?=some m)/\∃ j1 j2 ss rs d S,eU cR cS μ k j1 j2 ss rs d/\ss[d]?=some S/\(match dw S.kept nm with | some _=>K (g S nm) μ | none=>Kx (.ref (cs.getD 11 0)) μ)
 | _=>False
def oJ:iM:=fun ds μ K Kx=>match ds with
 | [.mr k,.str nm,.int bar]=>(∃ m,μ[0]?=some m)/\∃ j1 j2 ss rs d S,eU cR cS μ k j1 j2 ss rs d/\ss[d]?=some S/\(match dw S.kept nm with | some _=>(if 0<=bar/\bar<S.n then K (srcD (srcOf S.kept nm bar)) μ else Kx (.ref (cs.getD 6 0)) μ) | none=>Kx (.ref (cs.getD 11 0)) μ)
 | _=>False
end
def gSize (S:RS):D:=.int S.n
def gNames (S:RS):D:=.lst (S.kept.map fun p=>.str p.1)
def gCuts (S:RS):D:=.lst ((nI S).map D.int)
def sE (S:RS):D:=.lst ((lJ S).map iU)
def gBars (S:RS)(nm:Str):D:=.str (txt (fv S.kept nm).1)
def gAge (S:RS)(nm:Str):D:=.int (fv S.kept nm).2
def vL (S:RS)(nm:Str):D:=match dw S.kept nm with | some y=>lT y | none=>.fH
section
variable {cR cS:Addr}{cs:List Addr}{ds:List D}{μ:MS}{K:DK}{Kx:DX}
theorem fRoInit_len (h:rj cR cS cs ds μ K Kx):ds.length=2/\∃ m,μ[0]?=some m:=by
 unfold rj at h
 split at h
 ·exact⟨rfl,h.1⟩
 ·exact h.elim
theorem fDeedR_len (h:vU cR cS cs ds μ K Kx):ds.length=2/\∃ m,μ[0]?=some m:=by
 unfold vU at h
 split at h
 ·exact⟨rfl,h.1⟩
 ·exact h.elim
theorem oK {g:RS->Str->D}(h:jd cR cS cs g ds μ K Kx):ds.length=2/\∃ m,μ[0]?=some m:=by
 unfold jd at h
 split at h
 ·exact⟨rfl,h.1⟩
 ·exact h.elim
theorem zr (h:oJ cR cS cs ds μ K Kx):ds.length=3/\∃ m,μ[0]?=some m:=by
 unfold oJ at h
 split at h
 ·exact⟨rfl,h.1⟩
 ·exact h.elim
end
def jU:Pt->D
 | .fst b a=>.tup [.str "first",.str (txt b),.int a]
 | .jn l r p=>.tup [.str "joined",.str l,.str r,.int p]
def qj (S:RS):D:=.tup [.int S.n,pA dX jU S.kept,shD S.eR]
theorem ptL_mr {n:Nat}:∀ x,wJ n (jU x)
 | .fst _ _=>⟨trivial,trivial,trivial,trivial⟩
 | .jn _ _ _=>⟨trivial,trivial,trivial,trivial,trivial⟩
def mS (eO:List Str):Prop:=1<=eO.length/\eO.length<=50/\∀ z∈eO,fK z=true
def oj (l:List Str):D:=.lst (l.map D.str)
def rp:iN:=fun ds μ K=>match ds with
 | [.mr k,.int many]=>μ[k]?=some .box/\1<=many/\many<=50/\∀ eO:List Str,(eO.length:Int)=many->mS eO->K (oj eO) μ
 | _=>False
def zx (cR cS:Addr):iN:=fun ds μ K=>match ds with
 | [.mr k,.int most]=>(∃ m,μ[0]?=some m)/\μ[k]?=some .box/\k<μ.length/\1<=most/\most<=40/\∀(n:Int) (eO:List Str),1<=n->n<=most->mS eO->K (.tup [.mr μ.length,qj ⟨n,[],[]⟩,oj eO]) (μ++[.ins cR roN [.mr (μ.length+1),.mr (μ.length+2),.int 0],.lst [kW cS ⟨n,[],[]⟩],.lst []])
 | _=>False
def rm:iN:=fun ds μ K=>match ds with
 | [x,.str nm,.int bar]=>∃ kept y,dcv μ x=some (kept.map (fun p=>dX p.1),kept.map fun p=>jU p.2)/\ya kept/\dw kept nm=some y/\K (srcD (srcOf kept nm bar)) μ
 | _=>False
def agesR (kept:List (Str×Pt)):List (Str×Int):=kept.map fun p=>(p.1,(fv kept p.1).2)
def vV:iN:=fun ds μ K=>match ds with
 | [x]=>∃ S m,x=pA dX jU S.kept/\nW S m/\K (pA dX D.int (agesR S.kept)) μ
 | _=>False
def vS:iN:=fun ds μ K=>match ds with
 | [x,.str nm]=>∃ S m y,x=qj S/\nW S m/\dw S.kept nm=some y/\K (.str (txt (fv S.kept nm).1)) μ
 | _=>False
def rh:iN:=fun ds μ K=>match ds with
 | [x]=>∃ S m,x=qj S/\nW S m/\K (sE S) μ
 | _=>False
def vR:iN:=fun ds μ K=>match ds with
 | [x]=>∃ S m,x=qj S/\nW S m/\K (gCuts S) μ
 | _=>False
def vT:iN:=fun ds μ K=>match ds with
 | [x,y]=>∃ S d m,x=qj S/\y=pR d/\nW S m/\m<=1000/\i9 S d=none/\K (qj (pK S d)) μ
 | _=>False
def pO (kept:List (Str×Pt)):List Str:=(kept.map (·.1)).filter fun z=>!kept.any fun p=>gc z p.2
def fLone:iN:=fun ds μ K=>match ds with
 | [x]=>∃ S m,x=pA dX jU S.kept/\nW S m/\K (oj (pO S.kept)) μ
 | _=>False
def fEasy:iN:=fun ds μ K=>match ds with
 | [.mr k,x,y]=>μ[k]?=some .box/\∃ S m eO,x=qj S/\y=oj eO/\nW S m/\mS eO/\∀ d,i9 S d=none->ddOk d->K (pR d) μ
 | _=>False
def uE (cR cS:Addr):iN:=fun ds μ K=>match ds with
 | [.mr k,x]=>(∃ m,μ[0]?=some m)/\∃ j1 j2 ss rs d S,eU cR cS μ k j1 j2 ss rs d/\ss[d]?=some S/\x=qj S/\K (.bl true) μ
 | _=>False
theorem nW.new {n:Int}(h1:1<=n)(h2:n<=40):nW ⟨n,[],[]⟩ 0 :=
 ⟨h1,h2,⟨.nil,fun _ _ _ _ e=>(by cases e)⟩,aW _,fun _ _ _ e=>(by cases e),fun _ _ _ _ e=>(by cases e),fun _ h=>(nomatch h),aa _,.nil⟩
theorem eU.made {cR cS:Addr}{μ:MS}{n:Int}(h0:μ≠[])(h1:1<=n)(h2:n<=40):eU cR cS (μ++[.ins cR roN [.mr (μ.length+1),.mr (μ.length+2),.int 0],.lst [kW cS ⟨n,[],[]⟩],.lst []]) μ.length (μ.length+1) (μ.length+2) [⟨n,[],[]⟩] [] 0:=by
 have hl:0<μ.length:=List.length_pos_iff.mpr h0
 refine⟨by omega,by omega,by omega,by omega,by omega,by omega,?_,?_,?_,rfl,aa _,fun i S e=>?_,aW _⟩
 ·rw[p6 (aa _),aR];rfl
 ·rw[p6 (by omega),bT];rfl
 ·rw[p6 (by omega),bT];rfl
 ·cases i with
  | zero=>cases e;exact .new h1 h2
  | succ i=>cases e
theorem heard_at {S:RS}{m:Nat}(h:nW S m)(bar:Nat)(hb:(bar:Int)<S.n):∀ nm x,dw S.kept nm=some x->∃ b a c,dw S.kept (srcOf S.kept nm bar).1=some (.fst b a)/\b[bar]?=some c/\(fv S.kept nm).1[bar]?=some c:=by
 refine ev_ind h.kp (fun nm=>∃ b a c,dw S.kept (srcOf S.kept nm bar).1=some (.fst b a)/\b[bar]?=some c/\(fv S.kept nm).1[bar]?=some c) (fun nm b a e=>?_) (fun nm l r p e h1 h2=>?_)
 ·obtain⟨f1,_⟩:=h.fs nm b a e
  rw[qt e,tk_fst e]
  exact⟨b,a,b[bar]'(by omega),e,tL _,tL _⟩
 ·obtain⟨p1,p2⟩:=h.js nm l r p e
  obtain⟨⟨yl,el⟩,⟨yr,er⟩⟩:=h.kp.there e
  obtain⟨t1,_⟩:=tk_ok h l yl el
  obtain⟨t2,_⟩:=tk_ok h r yr er
  rw[yg h.kp e,tk_jn h.kp e]
  obtain⟨b,a,c,g1,g2,g3⟩:=h1
  obtain⟨b',a',c',k1,k2,k3⟩:=h2
  by_cases q:(bar:Int)<p
  ·rw[ag q]
   exact⟨b,a,c,g1,g2,by show(jnT _ _ p)[bar]?=_;rw[jnT_low (by omega) q];exact g3⟩
  ·rw[ae q]
   exact⟨b',a',c',k1,k2,by show(jnT _ _ p)[bar]?=_;rw[jnT_high (by omega) (by omega) (by omega)];exact k3⟩
end L2
namespace L2
open PySem PySem.Spec PyProof.Rows PyProof
section
variable {X:Cx}{pos:Pos}
def tPar3 (i j k:Nat)(ta:TA):TS:=fun D σ H=>ta σ H fun vs H1=>∃ v w u,vs=[v,w,u]/\D.nx (((σ.set i (some v)).set j (some w)).set k (some u)) H1
theorem ps_par3 {i j k:Nat}{x y z:Str}{a b c:Expr}{ta:TA}{px py pz pt:Pos}{kt k2 pt2}(hc:X.calm=true)(hN:X.N.Nodup)(hi:X.N[i]?=some x)(hj:X.N[j]?=some y)(hk:X.N[k]?=some z)(hij:i≠j)(hik:i≠k)(hjk:j≠k)
 (hx:X.env.scope.names.lookup x=some .local) (hy:X.env.scope.names.lookup y=some .local) (hz:X.env.scope.names.lookup z=some .local) (ha:PA X [a,b,c] ta)
 (hw:swappedStores [.Tuple [.Name x px,.Name y py,.Name z pz] kt pt] (.Tuple [a,b,c] k2 pt2) X.env=pure (some [x,y,z]))
 (hs:swapsWithSole [.Tuple [.Name x px,.Name y py,.Name z pz] kt pt] (.Tuple [a,b,c] k2 pt2) pos.line X.env=pure false:=by rfl) :
 PS X (.Assign [.Tuple [.Name x px,.Name y py,.Name z pz] kt pt] (.Tuple [a,b,c] k2 pt2) pos) (tPar3 i j k ta):=by
 intro pins s σ H D I h
 rw[exec_Assign_arm]
 refine dY (cM ?_)
 rw[hs]
 refine dY (aj ?_)
 rw[ae (by decide)]
 refine dY (Tuple_ (fq (ha _ pins s σ H _ I h) fun us s1 p4=>?_))
 obtain⟨vs,H1,I1,r1,q1⟩:=p4
 obtain⟨v,w,u,e1,q1⟩:=q1
 subst e1
 obtain⟨u1,u2,u3,rfl,rv,rw',ru⟩:∃ u1 u2 u3,us=[u1,u2,u3]/\RelV v u1/\RelV w u2/\RelV u u3:=by
  cases r1 with
  | cons p q =>
   cases q with
   | cons p' q' =>
    cases q' with
    | cons p'' q'' =>
     cases q''
     exact⟨_,_,_,rfl,p,p',p''⟩
 refine aY ?_ (by show 3<=sizeLine;decide)
 have I2:Inv X pins σ H1 { s1 with heap:=s1.heap.push { cls:=.type "tuple",data:=.seq [u1,u2,u3].toArray}}:=I1.kept (t':=s1.toks) fun b o e=>iV _ e
 rw[hw]
 refine dY (aj ?_)
 show wpAny (model X.prog X.w) X.A (do rule "assign.swapped-stores";let items <- unpackItems (.ref s1.heap.objs.size) 3 none;assignInOrder [fun v=>bindName X.env z v,fun v=>bindName X.env y v,fun v=>bindName X.env x v] items.reverse;pure Flow.next) _ _ _
 refine dY (wpAny_rule (dY (unpackItems_tuple (items:=#[u1,u2,u3]) (I.ok.hd hc) (IsTup.new s1.heap _) fun h' hx'=>?_)))
 have I3:=I2.kept (h':=h') (t':=s1.toks) fun b o e=>hx' b o (aB (jj e)) e
 show wpAny _ _ (assignInOrder [fun v=>bindName X.env z v,fun v=>bindName X.env y v,fun v=>bindName X.env x v] [u3,u2,u1] >>= fun _=>pure Flow.next) _ _ _
 refine dY (cW (wpAny_bindName (kC I3 hN hk (.inl hz) ru (fun s2 I4=>?_) (.inr hz))))
 refine cW (wpAny_bindName (kC I4 hN hj (.inl hy) rw' (fun s3 I5=>?_) (.inr hy)))
 refine cW (wpAny_bindName (kC I5 hN hi (.inl hx) rv (fun s4 I6=>assignInOrder_nil (aj ?_)) (.inr hx)))
 rw[cA _ _ (bb hjk),cA _ _ (bb hik),cA _ _ (bb hij)]at I6
 exact⟨_,H1,I6,q1⟩
def dPar3 (i j k:Nat)(w:DA):Ds:=fun N ρ μ=>w ρ μ fun ds dJ=>match ds with
 | [a,b,c]=>N.nx (((ρ.set i (some a)).set j (some b)).set k (some c)) dJ
 | _=>False
theorem s_par3 {i j k:Nat}{x y z:Str}{a b c:Expr}{w:DA}{px py pz pt:Pos}{kt k2 pt2}(hN:X.N.Nodup)(hi:X.N[i]?=some x)(hj:X.N[j]?=some y)(hk:X.N[k]?=some z)(hij:i≠j)(hik:i≠k)(hjk:j≠k)
 (hx:X.env.scope.names.lookup x=some .local) (hy:X.env.scope.names.lookup y=some .local) (hz:X.env.scope.names.lookup z=some .local) (ha:tY X [a,b,c] w) (hc:X.calm=true:=by rfl)
 (hw:swappedStores [.Tuple [.Name x px,.Name y py,.Name z pz] kt pt] (.Tuple [a,b,c] k2 pt2) X.env=pure (some [x,y,z]):=by rfl)
 (hs:swapsWithSole [.Tuple [.Name x px,.Name y py,.Name z pz] kt pt] (.Tuple [a,b,c] k2 pt2) pos.line X.env=pure false:=by rfl) :
 wC X (.Assign [.Tuple [.Name x px,.Name y py,.Name z pz] kt pt] (.Tuple [a,b,c] k2 pt2) pos) (dPar3 i j k w):=(ps_par3 hc hN hi hj hk hij hik hjk hx hy hz ha hw hs).imp fun E σ H ⟨φ,ρ,μ,N,A,M,w,L⟩ =>
 ⟨φ,ρ,μ,_,A,M,w,fun ds dJ ee vs H1 k1 f1 M1 i1=>by
  split at k1
  ·obtain⟨v1,r1,rfl,g1,v2,r2,rfl,g2,v3,r3,rfl,g3,g4⟩:=i1
   cases(show r3=[]from g4)
   exact⟨_,_,_,rfl,L.nx _ dJ ee _ H1 k1 f1 ((((A.mono f1).set g1 i).set g2 j).set g3 k) M1⟩
  ·exact k1.elim⟩
end
theorem jh {μ g:MS}{x:MO}:(μ++x::g)[μ.length]?=some x:=by rw[p6 (aa _),aR];rfl
theorem mG {μ g:MS}{x y:MO}:(μ++x::g).set μ.length y=μ++y::g:=by rw[List.set_append_right _ _ (aa _),aR];rfl
theorem named_of {cs:List Nat}(h1:1<=cs.length)(h2:cs.length<=8)(h:∀ c∈cs,97<=c/\c<=122):fK (txt cs)=true:=by
 unfold fK
 rw[show(txt cs).length=cs.length from lenS cs,af h1,af h2]
 show(cs.all _)=true
 rw[cn]
 intro c hc
 obtain⟨a,b⟩:=h c hc
 rw[af a,af b];rfl
theorem abc_at {v:Int}(h0:0<=v)(h1:v<26):∃ c,qh (Str.ofString "abcdefghijklmnopqrstuvwxyz").cps.toList v=some c/\97<=c/\c<=122:=by
 obtain⟨c,e,hc⟩:=wu (l:=(Str.ofString "abcdefghijklmnopqrstuvwxyz").cps.toList) h0 h1
 have:((Str.ofString "abcdefghijklmnopqrstuvwxyz").cps.toList.all fun c=>decide (97<=c)&&decide (c<=122))=true:=by decide +kernel
 have:=List.all_eq_true.mp this c hc
 simp only[aL,ba]at this
 exact⟨c,e,this⟩
theorem atI_ex {α:Type}{xs:List α}{v:Int}(h0:0<=v)(h1:v<(xs.length:Int)):∃ x∈xs,qh xs v=some x:=by
 obtain⟨n,rfl⟩:∃ n:Nat,v=(n:Int):=⟨v.toNat,by omega⟩
 have hn:n<xs.length:=by omega
 exact⟨xs[n],cJ hn,kj (tL hn)⟩
theorem ji {α β:Type}{g:α->β}{xs:List α}{v:Int}(h0:0<=v)(h1:v<(xs.length:Int)):∃ x∈xs,qh (xs.map g) v=some (g x):=by
 obtain⟨n,rfl⟩:∃ n:Nat,v=(n:Int):=⟨v.toNat,by omega⟩
 have hn:n<xs.length:=by omega
 exact⟨xs[n],cJ hn,rP (tL hn)⟩
theorem pre_get {kept pre post:List (Str×Pt)}{γ:Type}{g:Str->γ}{z:Str}{y:Pt}(nd:(kept.map (·.1)).Nodup)(hs:kept=pre++(z,y)::post) :
 dw kept z=some y/\gS kept z=pre.length/\pre.length<kept.length/\dw (pre.map fun p=>(p.1,g p.1)) z=none/\∀ w,gS kept w<pre.length->dw (pre.map fun p=>(p.1,g p.1)) w=some (g w):=by
 have hz:z∉pre.map (·.1):=fun q=>by
  rw[hs,aG,bD]at nd
  exact nd.2.2 z q z (List.mem_map.mpr ⟨_,aw,rfl⟩) rfl
 refine⟨f9 nd (by rw[hs];exact aD _ aw),?_,by rw[hs,kH,aE];omega,?_,fun w hw=>?_⟩
 ·unfold gS
  rw[hs,aG,cb,ae hz,ah,bB,show((z,y).1==z)=true from cm _,fg]
  simp
 ·cases q:dw (pre.map fun p=>(p.1,g p.1)) z with
  | none=>rfl
  | some w =>
   have:=eY.mp (show(dw (pre.map fun p=>(p.1,g p.1)) z).isSome=true by rw[q];rfl)
   rw[aC]at this
   exact absurd this hz
 ·have hm2:w∈pre.map (·.1):=by
   unfold gS at hw
   rw[hs,aG,cb]at hw
   by_cases q:w∈pre.map (·.1)
   ·exact q
   ·rw[ae q,fg]at hw;omega
  obtain⟨p,hp,rfl⟩:=List.mem_map.mp hm2
  have nd2:((pre.map fun p=>(p.1,g p.1)).map (·.1)).Nodup:=by
   rw[aC]
   rw[hs,aG,bD]at nd
   exact nd.1
  exact f9 nd2 (List.mem_map.mpr ⟨p,hp,rfl⟩)
theorem ages_get {kept:List (Str×Pt)}(nd:(kept.map (·.1)).Nodup){p:Str×Pt}(hp:p∈kept):dw (agesR kept) p.1=some (fv kept p.1).2:=by
 refine f9 ?_ (List.mem_map.mpr ⟨p,hp,rfl⟩)
 unfold agesR
 rw[aC]
 exact nd
theorem range_str (l:List Nat):((List.range l.length).filterMap fun i=>some (D.str ⟨#[l.getD i 0]⟩))=l.map fun c=>D.str ⟨#[c]⟩:=by
 rw[show(fun i=>some (D.str ⟨#[l.getD i 0]⟩))=some ∘ (fun i:Nat=>D.str ⟨#[l.getD i 0]⟩)from rfl,List.filterMap_eq_map]
 refine List.ext_getElem? fun i=>?_
 rw[tK,tK]
 by_cases h:i<l.length
 ·rw[cL h,tL h]
  simp[aX,h]
 ·rw[List.getElem?_eq_none (by rw[gxJ];omega),List.getElem?_eq_none (by omega)];rfl
end L2
namespace L2
open PySem PySem.Spec PyProof.Rows PyProof
def TV (c:Dt)(ρ:DE)(μ:MS)(b:Bool):Prop:=∀ K:Bool->MS->Prop,K b μ->c ρ μ K
section
variable {a c:Dt}{t u:Ds}{N:DN}{ρ:DE}{μ:MS}{x y b:Bool}{e:De}
theorem TV.gV (h:∀ K:DK,K (.bl b) μ->e ρ μ K):TV (p8 e) ρ μ b:=fun K k=>h _ k
theorem TV.and (h1:TV a ρ μ x)(h2:x=true->TV c ρ μ y):TV (dtAnd a c) ρ μ (x&&y):=fun K k=>h1 _ (by
 cases x with
 | true=>rw[ag rfl];exact h2 rfl K k
 | false=>rw[ae (by decide)];exact k)
theorem TV.or (h1:TV a ρ μ x)(h2:x=false->TV c ρ μ y):TV (dtOr a c) ρ μ (x||y):=fun K k=>h1 _ (by
 cases x with
 | true=>rw[ag rfl];exact k
 | false=>rw[ae (by decide)];exact h2 rfl K k)
theorem TV.not (h1:TV a ρ μ x):TV (dtNot a) ρ μ (!x):=fun K k=>h1 _ k
theorem TV.to (h:TV a ρ μ x)(e:x=y):TV a ρ μ y:=e▸h
theorem eK (b:Bool)(h:TV c ρ μ b)(ht:b=true->t N ρ μ)(hu:b=false->u N ρ μ):dIfS c t u N ρ μ:=h _ (by
 cases b with
 | true=>rw[ag rfl];exact ht rfl
 | false=>rw[ae (by decide)];exact hu rfl)
end
theorem fL {N:DN}{ρ:DE}{μ:MS}(h:N.nx ρ μ):dNx N ρ μ:=h
theorem rG {i:Nat}{w:De}{N:DN}{ρ:DE}{μ μ':MS}{d:D}(h:∀ K:DK,K d μ'->w ρ μ K)(k:N.nx (ρ.set i (some d)) μ'):dSet i w N ρ μ:=h _ k
theorem xu {μ:MS}{a b:MO}:(μ++[a,b])[μ.length+1]?=some b:=by rw[p6 (by omega),bT];rfl
theorem yp {μ:MS}{a b y:MO}:(μ++[a,b]).set (μ.length+1) y=μ++[a,y]:=by rw[List.set_append_right _ _ (by omega),bT];rfl
def dM {α β:Type}(κ:α->Key)(f:β->D)(l:List (α×β)):MO:=.hJ (l.map fun p=>κ p.1) (l.map fun p=>f p.2)
section
variable {α β:Type}[DecidableEq α]{κ:α->Key}(hi:∀ a b,κ a=κ b->a=b){f:β->D}{μ:MS}{j:Nat}{l:List (α×β)}
include hi
theorem oy (hj:μ[j]?=some (dM κ f l))(hl:l.length<sizeLine){i:D}{k:α}(hk:mY i=some (κ k))(v:β){d:D}(hd:d=f v){P:MS->Prop}(h:P (μ.set j (dM κ f (fN l k v)))) :
 ∃ kd kd':List (Key×D),μ[j]?=some (.hJ (kd.map (·.1)) (kd.map (·.2)))/\kd.length<sizeLine/\(mY i).map (fun k=>dput kd k d)=some kd'/\P (μ.set j (.hJ (kd'.map (·.1)) (kd'.map (·.2)))):=by
 subst hd
 obtain⟨e1,e2⟩:=fZ κ f l
 refine⟨l.map fun p=>(κ p.1,f p.2),_,by rw[hj,<- e1,<- e2];rfl,by rw[kd_len];exact hl,by rw[hk];rfl,?_⟩
 show P (μ.set j (.hJ ((dput _ (κ k) (f v)).map (·.1)) ((dput _ (κ k) (f v)).map (·.2))))
 rw[dput_k hi f k v l,<- (fZ κ f _).1,<- (fZ κ f _).2]
 exact h
theorem pop_at (hj:μ[j]?=some (dM κ f l)){i:D}{k:α}(hk:mY i=some (κ k)){v:β}(he:dw l k=some v){P:D->MS->Prop}(h:P (f v) (μ.set j (dM κ f (gL l k)))) :
 ∃(kd:List (Key×D)) (k':Key) (d:D),μ[j]?=some (.hJ (kd.map (·.1)) (kd.map (·.2)))/\mY i=some k'/\oN kd k'=some d/\P d (μ.set j (.hJ ((kd.filter fun p=>decide (p.1≠k')).map (·.1)) ((kd.filter fun p=>decide (p.1≠k')).map (·.2)))):=by
 obtain⟨e1,e2⟩:=fZ κ f l
 refine⟨l.map fun p=>(κ p.1,f p.2),κ k,f v,by rw[hj,<- e1,<- e2];rfl,hk,by rw[zA hi f k l,he];rfl,?_⟩
 rw[dropF_k hi f k l,<- (fZ κ f _).1,<- (fZ κ f _).2]
 exact h
end
theorem pq {μ:MS}{j:Nat}{ks:List Key}{ds:List D}(h:μ[j]?=some (.hJ ks ds)):uc μ j=some (ks,ds):=by unfold uc;rw[h]
theorem adrop_none {α β:Type}[DecidableEq α]{l:List (α×β)}{k:α}(h:dw l k=none):gL l k=l:=by
 unfold gL
 refine List.filter_eq_self.mpr fun p hp=>af fun e=>?_
 have:=eY.mpr (List.mem_map.mpr ⟨p,hp,rfl⟩:p.1∈l.map (·.1))
 rw[e,h]at this
 cases this
theorem aput_le {α β:Type}[DecidableEq α]{l:List (α×β)}{k:α}{v:β}:(fN l k v).length<=l.length+1:=by
 unfold fN
 split
 ·rw[fg];omega
 ·rw[kH,aQ];exact aa _
theorem all_self {n:Nat}{ds:List D}{R:D->D->Prop}(hR:∀ d,wJ n d->R d d)(h:pj n ds):ug R ds ds:=⟨rfl,fun i a b e1 e2=>by
 rw[e1]at e2;cases e2
 exact hR a (uz h (zk e1))⟩
theorem frz_two {μ:MS}{n:Int}{o1 o2:Obj}{k1 k2:List (Key×V)}{d1 d2:List D}(h1:pj μ.length d1)(h2:pj μ.length d2):wG μ.length (μ++[.m4 o1 k1 d1,.m4 o2 k2 d2]) 2 (.tup [.int n,.mr μ.length,.mr (μ.length+1)]) (.tup [.int n,.kK (k1.map (·.1)) d1,.kK (k2.map (·.1)) d2]):=by
 have slf:∀ d,wJ μ.length d->wG μ.length (μ++[.m4 o1 k1 d1,.m4 o2 k2 d2]) 0 d d:=fun d h=>⟨rfl,h⟩
 refine .inr (.inr (.inr (.inl ⟨_,_,rfl,rfl,rfl,fun i a b e1 e2=>?_⟩)))
 match i with
 | 0=>cases e1;cases e2;exact .inl ⟨rfl,trivial⟩
 | 1=>cases e1;cases e2;exact .inr (.inr (.inr (.inr (.inl ⟨_,o1,k1,d1,d1,rfl,aa _,jh,rfl,all_self slf h1⟩))))
 | 2=>cases e1;cases e2;exact .inr (.inr (.inr (.inr (.inl ⟨_,o2,k2,d2,d2,rfl,Nat.le_succ _,xu,rfl,all_self slf h2⟩))))
 | i+3=>cases e1
theorem lone_map (kept:List (Str×Pt)):(kept.filterMap fun p=>if(kept.any fun q=>gc p.1 q.2)=true then none else some (D.str p.1))=(pO kept).map D.str:=by
 unfold pO
 have key:∀ l:List (Str×Pt),(l.filterMap fun p=>if(kept.any fun q=>gc p.1 q.2)=true then none else some (D.str p.1))=((l.map (·.1)).filter fun z=>!kept.any fun p=>gc z p.2).map D.str:=by
  intro l
  induction l with
  | nil=>rfl
  | cons p l ih =>
   rw[bJ,ah,a9]
   by_cases q:(kept.any fun q=>gc p.1 q.2)=true
   ·rw[ag q,ae (by rw[q];decide)];exact ih
   ·rw[ae q,ag (by rw[Bool.not_eq_true]at q;rw[q];rfl),ah,ih]
 exact key kept
def jy (S:RS)(eO:List Str):List Str:=eO.filter fun z=>!(dw S.kept z).isSome&&decide (S.kept.length<20)
theorem fresh_map (S:RS)(eO:List Str):(eO.filterMap fun z=>if(!(dw S.kept z).isSome&&decide (S.kept.length<20))=true then some (D.str z)else none)=(jy S eO).map D.str:=by
 unfold jy
 induction eO with
 | nil=>rfl
 | cons z eO ih =>
  rw[bJ,a9]
  by_cases q:(!(dw S.kept z).isSome&&decide (S.kept.length<20))=true
  ·rw[ag q,ag q,ah,ih]
  ·rw[ae q,ae q];exact ih
theorem xO {S:RS}{eO:List Str}(h:mS eO){z:Str}(hz:z∈jy S eO):iA S z=none/\z.length<=8:=by
 unfold jy at hz
 obtain⟨hz,q⟩:=List.mem_filter.mp hz
 simp only[aL,Bool.not_eq_true',ba]at q
 have hn:=h.2.2 z hz
 refine⟨?_,?_⟩
 ·unfold iA fV
  rw[hn,q.1,ae (by decide),ae (by decide),ae (by omega)]
 ·unfold fK at hn
  simp only[aL,ba]at hn
  exact hn.1.2
theorem fresh_any {S:RS}{eO:List Str}(h:mS eO)(h0:S.kept=[]):0<(jy S eO).length:=by
 unfold jy
 rw[h0]
 have:(eO.filter fun z=>!(dw ([]:List (Str×Pt)) z).isSome&&decide (([]:List (Str×Pt)).length<20))=eO:=List.filter_eq_self.mpr fun z _=>rfl
 rw[this]
 have:=h.1
 omega
theorem or_no {a b:Option Nat}(h1:a=none)(h2:b=none):a.or b=none:=by rw[h1,h2];rfl
theorem has_of {S:RS}{p:Str×Pt}(hp:p∈S.kept):fV S p.1=true:=eY.mpr (List.mem_map.mpr ⟨p,hp,rfl⟩)
theorem vh {S:RS}{p:Int}(h1:1<=p)(h2:p<S.n):fE S p=none:=by unfold fE;rw[ag ⟨h1,h2⟩]
theorem age_ok {a:Int}(h1:0<=a)(h2:a<=20):jl a=none:=by unfold jl;rw[ag ⟨h1,h2⟩]
theorem ref_put {S:RS}{z:Str}{l:List Nat}{a:Int}(h:iA S z=none)(hl:(l.length:Int)=S.n)(ho:OX l)(a0:0<=a)(a1:a<=20):i9 S (.put z (txt l) a)=none:=by
 refine or_no h ?_
 have:Ae (txt l)=true:=by
  unfold Ae
  refine List.all_eq_true.mpr fun c hc=>?_
  rcases ho c hc with q | q <;> rw[q]<;> rfl
 show(if(((txt l).length:Nat):Int)=S.n/\Ae (txt l)=true then jl a else some 0)=none
 rw[ag ⟨by rw[kT];exact hl,this⟩]
 exact age_ok a0 a1
theorem ref_join {S:RS}{z:Str}{p q:Str×Pt}{i:Int}(h:iA S z=none)(hp:p∈S.kept)(hq:q∈S.kept)(hi:i∈nI S):i9 S (.join z p.1 q.1 i)=none:=by
 refine or_no h ?_
 unfold nI at hi
 obtain⟨hi,e⟩:=List.mem_filter.mp hi
 obtain⟨j,hj,rfl⟩:=List.mem_map.mp hi
 have hj:=List.mem_range.mp hj
 have e:(dw S.eR (1+(j:Int))).isSome=false:=by simpa using e
 show(if fV S p.1=false then some 11 else if fV S q.1=false then some 11 else(fE S _).or (if(dw S.eR _).isSome=true then some 12 else none))=none
 rw[has_of hp,has_of hq,ae (by decide),ae (by decide),e,ae (by decide),vh (by omega) (by omega)]
 rfl
theorem ref_drop {S:RS}{z:Str}(h:z∈pO S.kept):i9 S (.drop z)=none:=by
 unfold pO at h
 obtain⟨h1,h2⟩:=List.mem_filter.mp h
 have hh:fV S z=true:=eY.mpr h1
 have hn:j0 S z=false:=by unfold j0;simpa using h2
 show(if fV S z=false then some 11 else if j0 S z=true then some 14 else none)=none
 rw[hh,hn,ae (by decide),ae (by decide)]
theorem xA {S:RS}{p:Str×Pt}{bar:Int}{sg:Str}(hp:p∈S.kept)(h1:0<=bar)(h2:bar<S.n)(hs:sg = "o"\/sg = "x"):i9 S (.found p.1 bar sg)=none:=by
 show(if fV S p.1=false then some 11 else if 0<=bar/\bar<S.n then(if sg = "o"\/sg = "x" then none else some 0)else some 6)=none
 rw[has_of hp,ae (by decide),ag ⟨h1,h2⟩,ag hs]
def isFst:Pt->Bool
 | .fst _ _=>true
 | .jn _ _ _=>false
theorem compW_ch {it:D->MS->(Option D->MS->Prop)->Prop}{c:MS->Prop}{μ:MS}:∀(l:List Int),c μ->∀ {K:List D->MS->Prop},(∀ x∈l,∀(K':Option D->MS->Prop),(∀ a:Nat,97<=a/\a<=122->K' (some (.str ⟨#[a]⟩)) μ)->it (.int x) μ K')->(∀ cs:List Nat,cs.length=l.length->(∀ a∈cs,97<=a/\a<=122)->K (cs.map fun a=>.str ⟨#[a]⟩) μ)->rH it c (l.map D.int) μ K
 | [],hc,K,_,k=>⟨hc,k [] rfl fun _ h=>nomatch h⟩
 | x::l,hc,K,h,k=>⟨hc,h x aw _ fun a ha=>compW_ch l hc (fun y hy=>h y (mZ _ hy)) fun cs cl cr=>k (a::cs) (by rw[aE,aE,cl]) fun b hb=>by
  rcases List.mem_cons.mp hb with q | q
  ·rw[q];exact ha
  ·exact cr b q⟩
end L2
namespace L2
open PySem PySem.W PyProof.Rows
noncomputable abbrev yc:=Fast.tw10156331382660048174
noncomputable abbrev twDen:=Fast.tw11892475500146522536
noncomputable def runT (p:Program)(w:World)(n₀:Nat)(ann:Option Value):Nat->SharedT->Thread->Option SharedT
 | 0,_,_=>none
 | n+1,s,t=>match through t with
  | true=>some s
  | false=>match stepOk n₀ ann t with
   | false=>none
   | true=>match yc (twDen uR) p w s t with
    | some (s',t')=>runT p w n₀ ann n s' t'
    | none=>none
theorem runT_of {p:Program}{w:World}{n₀:Nat}{ann:Option Value}:∀ {n:Nat} {s s':SharedT} {t:Thread},runT p w n₀ ann n s t=some s'->topRun treeTable p w n₀ ann n s.abs t=some s'.abs
 | 0,_,_,_,h=>by cases h
 | n+1,s,s',t,h=>by
  unfold runT at h
  unfold topRun
  cases he:through t with
  | true=>rw[he]at h;cases h;rfl
  | false =>
   rw[he]at h
   cases hk:stepOk n₀ ann t with
   | false=>rw[hk]at h;cases h
   | true =>
    rw[hk]at h
    cases hs:yc (twDen uR) p w s t with
    | none=>rw[hs]at h;cases h
    | some r =>
     obtain⟨s2,t2⟩:=r
     rw[hs]at h
     have hs':stepT (denote treeTable) p w s t=some (s2,t2):=by
      rw[show stepT=yc from Fast.te10156331382660048174,show denote=twDen from Fast.te11892475500146522536,show treeTable=uR from Fast.te14364793385576792824];exact hs
     rw[stepT_spec hs'];exact runT_of h
noncomputable def boT (P:Params):BT:=(.node (boot_o_0 P) (.node (boot_o_1 P) (.node (boot_o_3 P) (.node (boot_o_7 P) .nil .nil) .nil) (.node (boot_o_5 P) (.node (boot_o_9 P) .nil .nil) .nil)) (.node (boot_o_2 P) (.node (boot_o_4 P) (.node (boot_o_8 P) .nil .nil) .nil) (.node (boot_o_6 P) (.node (boot_o_10 P) .nil .nil) .nil)))
noncomputable abbrev ST0 (w:World)(os:OsState):SharedT:=⟨boT w.params,11,(boot_heap w.params).life,#[],boot_drawn,boot_toks,os⟩
theorem boT_abs (w:World)(os:OsState):(ST0 w os).abs=S00 w os:=by kernel_rfl
end L2
namespace L2
open PySem PySem.Spec PyProof.Rows PyProof PySem.W
def z5 (p q:Program)(loose:List Str)(Xt:Shared->Bool){α:Type}(Yf:Shared->α)(Ya:World->α)(M:Nat)(row:String)(b:Bool):Prop:=∀(w:World) (os:OsState),(twRun uR p (w.withFollow row b) 11 (some (.ref 6)) M (S00 w os) (topStub p)).map (fun s =>
 (W.staticsOk (importedModules p.main.body) (W.boot_heap w.params) s.heap&&W.namesBound p s.heap&&W.gensDone s&&W.laidKept (W.boot_heap w.params) s.heap,twSeen q loose (importedModules p.main.body) Xt true s,Yf s))=some (true,W.openGood q loose,Ya w)
theorem left_ofR {p q:Program}{loose:List Str}{Xt:Shared->Bool}{α:Type}{Yf:Shared->α}{Ya:World->α}{N M:Nat}{row:String}
 (e:W.opening p=W.plainProg p.main.scope.names) (hN:Nat.ble 600 N=true) (f:∀ s,fenceModules? p s=some s) (le:Nat.ble M N=true)
 (h0:z5 p q loose Xt Yf Ya M row false) (h1:z5 p q loose Xt Yf Ya M row true):W.LeftO p q loose Xt Yf Ya N:=left_of e hN f le fun w os=>by
 have h:∀ b,z5 p q loose Xt Yf Ya M row b:=fun b=>by cases b;exact h0;exact h1
 have:=h (w.params.followText row) w os
 rwa [World.withFollow_self]at this
def LeftT (p q:Program)(loose:List Str)(Xt:Shared->Bool){α:Type}(Yf:Shared->α)(Ya:World->α)(M:Nat)(row:String)(b:Bool):Prop:=∀(w:World) (os:OsState),(runT p (w.withFollow row b) 11 (some (.ref 6)) M (ST0 w os) (topStub p)).map (fun s =>
 (W.staticsOk (importedModules p.main.body) (W.boot_heap w.params) s.abs.heap&&W.namesBound p s.abs.heap&&W.gensDone s.abs&&W.laidKept (W.boot_heap w.params) s.abs.heap,twSeen q loose (importedModules p.main.body) Xt true s.abs,Yf s.abs))=some (true,W.openGood q loose,Ya w)
theorem LeftT.at {p q:Program}{loose:List Str}{Xt:Shared->Bool}{α:Type}{Yf:Shared->α}{Ya:World->α}{M:Nat}{row:String}{b:Bool}(h:LeftT p q loose Xt Yf Ya M row b):z5 p q loose Xt Yf Ya M row b:=fun w os=>by
 obtain⟨sT,r,e⟩:=Option.map_eq_some_iff.mp (h w os)
 have r2:=runT_of r
 rw[boT_abs,show topRun=twRun from Fast.te14082659384304107361,show treeTable=uR from Fast.te14364793385576792824]at r2
 rw[r2]
 exact bI some e
section
variable {cR cS:Addr}{μ:MS}{k j1 j2:Nat}{ss:List RS}{rs:List Dd}{S:RS}{e:Dd}
theorem eU.grow (ra:eU cR cS μ k j1 j2 ss rs rs.length)(es:ss[rs.length]?=some S)(hr:i9 S e=none)(ku:rs.length<900) :
 ss.take (rs.length+1)=ss/\rs.take rs.length=rs/\eU cR cS (mR cR cS μ k j1 j2 (ss++[pK S e]) (rs++[e]) (rs.length+1)) k j1 j2 (ss++[pK S e]) (rs++[e]) (rs.length+1)/\(ss++[pK S e])[rs.length+1]?=some (pK S e):=by
 have hl:=ra.len
 refine⟨aV (by omega),aV (aa _),ra.put ?_ ?_ (fun i T ei=>?_) ?_,?_⟩
 ·rw[kH,kH,hl];rfl
 ·rw[kH];exact aa _
 ·by_cases h:i<ss.length
  ·rw[uD h]at ei;exact ra.wf i T ei
  ·rw[p6 (by omega)]at ei
   have h2:=(lE ei).1
   rw[aQ]at h2
   have:i=rs.length+1:=by omega
   subst this
   rw[hl,aR]at ei
   cases ei
   exact(ra.wf _ S es).do hr
 ·rw[kH,aQ];omega
 ·rw[p6 (by omega),hl,aR];rfl
end
theorem sm_dd {n:Nat}(e:Dd):nF (n+1) (pR e):=by
 cases e <;> refine r8 (by simp only[aE,bU];omega) (fun d hd=>?_)<;> simp only[bF,bo,cE]at hd
 ·rcases hd with rfl | rfl | rfl | rfl <;> first | exact iK | exact jX
 ·rcases hd with rfl | rfl | rfl | rfl | rfl <;> first | exact iK | exact jX
 ·rcases hd with rfl | rfl | rfl | rfl <;> first | exact iK | exact jX
 ·rcases hd with rfl | rfl | rfl <;> first | exact iK | exact jX
 ·rcases hd with rfl | rfl <;> first | exact iK | exact jX
 ·rcases hd with rfl | rfl <;> first | exact iK | exact jX
 ·rcases hd with rfl | rfl <;> first | exact iK | exact jX
theorem sm_dds {n:Nat}{rs:List Dd}(h:rs.length<=100000):nF (n+2) (.lst (rs.map pR)):=u0 (by rw[fg];exact h) fun d hd=>by
 obtain⟨q,_,rfl⟩:=List.mem_map.mp hd;exact sm_dd q
theorem xx {cR cS:Addr}{μ:MS}{k j1 j2 d:Nat}{ss:List RS}{rs:List Dd}(ra:eU cR cS μ k j1 j2 ss rs d){nm:Str}(hn:lD nm roN [.mr j1,.mr j2,.int (d:Int)]=none):sZ cR nm μ (.mr k):=by
 show(kQ _ _ _).map _=_
 rw[fF ra.ins]
 exact bI some hn
end L2
namespace L2
open PySem PySem.Spec PyProof.Rows PyProof
end L2
namespace L2
open PySem PySem.Spec PyProof.Rows PyProof
end L2
namespace L2
open PySem PySem.Spec PyProof.Rows PyProof
end L2
namespace L2
open PySem PySem.Spec PyProof.Rows PyProof
end L2
namespace L2
open PySem PySem.Spec PyProof.Rows PyProof
section
variable {kept:List (Str×Pt)}{z:Str}{b b':List Nat}{a:Int}(h:dw kept z=some (.fst b a))
include h
end
end L2
namespace L2
open PySem PySem.Spec PyProof.Rows PyProof
theorem zs {n:Nat}(h:Nat.ble n 100=true:=by rfl):n<=sizeLine:=ar (Nat.le_of_ble_eq_true h) (sz (by decide))
section
variable {X:Cx}{a b e e1 e2 e3:Expr}{wa wb w w1 w2 w3:De}{pos p:Pos}
theorem a1 (h:PD X e w)(s:starEach [e] X.env=(false,eval e X.env)::starEach [] X.env:=by rfl):tY X [e] (tO w dNil):=dh h fB s
theorem a2 (h:PD X e w)(h1:PD X e1 w1)(s:starEach [e,e1] X.env=(false,eval e X.env)::starEach [e1] X.env:=by rfl)(s1:starEach [e1] X.env=(false,eval e1 X.env)::starEach [] X.env:=by rfl):tY X [e,e1] (tO w (tO w1 dNil)):=dh h (a1 h1 s1) s
theorem a3 (h:PD X e w)(h1:PD X e1 w1)(h2:PD X e2 w2)(s:starEach [e,e1,e2] X.env=(false,eval e X.env)::starEach [e1,e2] X.env:=by rfl)(s1:starEach [e1,e2] X.env=(false,eval e1 X.env)::starEach [e2] X.env:=by rfl)(s2:starEach [e2] X.env=(false,eval e2 X.env)::starEach [] X.env:=by rfl):tY X [e,e1,e2] (tO w (tO w1 (tO w2 dNil))):=dh h (a2 h1 h2 s1 s2) s
theorem eQ (ha:PD X a wa)(hb:PD X b wb)(hs:zW b:=by exact fun _ _=>rfl):PD X (.Subscript a b pos) (zJ dIx wa wb):=d_ix ixC so_ix ha hb hs
theorem nU (ha:PD X a wa)(hb:PD X b wb):PD X (.BinOp a .Add b pos) (zJ (dAdd false) wa wb):=rD addC so_add ha hb
theorem dMi (ha:PD X a wa)(hb:PD X b wb):PD X (.BinOp a .Sub b pos) (zJ (we fun i j=>.int (i - j)) wa wb):=rD subC so_i2' ha hb
theorem qLt (ha:PD X a wa)(hb:PD X b wb):PT X (.Compare a [.Lt] [b] pos) (wO (p8 (zJ (we fun i j=>.bl (decide (i<j))) wa wb))):=m6 ltC r6 ha hb (gz _)
theorem qLe (ha:PD X a wa)(hb:PD X b wb):PT X (.Compare a [.LtE] [b] pos) (wO (p8 (zJ (we fun i j=>.bl (decide (i<=j))) wa wb))):=m6 leC r6 ha hb (gz _)
theorem qGt (ha:PD X a wa)(hb:PD X b wb):PT X (.Compare a [.Gt] [b] pos) (wO (p8 (zJ (we fun i j=>.bl (decide (j<i))) wa wb))):=m6 gtC r6 ha hb (gz _)
theorem qGe (ha:PD X a wa)(hb:PD X b wb):PT X (.Compare a [.GtE] [b] pos) (wO (p8 (zJ (we fun i j=>.bl (decide (j<=i))) wa wb))):=m6 geC r6 ha hb (gz _)
theorem mQ (ha:PD X a wa)(hb:PD X b wb):PT X (.Compare a [.Eq] [b] pos) (wO (p8 (zJ (dEqS false) wa wb))):=m6 eqC uY ha hb (gz _)
theorem qNe (ha:PD X a wa)(hb:PD X b wb):PT X (.Compare a [.NotEq] [b] pos) (wO (p8 (zJ (dEqS true) wa wb))):=m6 Af uY ha hb (gz _)
theorem xm (T:iI X.mg)(h:PD X e w)(hg:Gl X "len":=by rfl)(he:starEach [e] X.env=(false,eval e X.env)::starEach [] X.env:=by rfl)(kh:(backTo pos (starEach [] X.env)).any (·.1)=false:=by rfl):PD X (.Call (.Name "len" p) [e] [] pos) (xR fLen (tO w dNil)):=pS lenC so_len hg T.len cF (a1 h he) (by decide) (by decide) he kh
section
variable {es:List Expr}{x:Str}{k k0:Nat}{ps:List Str}{f:iN}{fx:iM}{u:DA}
theorem qC (C:o3 X.prog X.w X.K X.mg X.base x k ps (gv f))(hr:gD k0 X.A)(ha:tY X (e::es) u)(hk:k<=k0:=by first | decide | exact aa _ | omega)(hg:Gl X x:=by rfl)(sC:(x==("__debug__" : Str))=false:=by decide)(he:starEach (e::es) X.env=(false,eval e X.env)::starEach es X.env:=by rfl)(kh:(backTo pos (starEach es X.env)).any (·.1)=false:=by rfl) :
 PD X (.Call (.Name x p) (e::es) [] pos) (xR f u):=d_call C (hr.mono hk) hg ha sC he kh
end
theorem qS (i:Nat){x:Str}{pos':Pos}(hN:X.N.Nodup)(he:PD X e w)(hi:X.N[i]?=some x:=by rfl)(hx:Loc X.env.scope x:=by first | exact Or.inl rfl | exact Or.inr rfl)(hf:X.fn x=true\/X.env.scope.names.lookup x=some .local:=by first | exact .inl rfl | exact .inr rfl | assumption)
 (hsw:swapsWith e (some (.Name x pos')) pos.line X.env=pure false:=by rfl):wC X (.Assign [.Name x pos'] e pos) (dSet i w):=s_set hN hi hx he hf hsw
theorem qN (i:Nat){x:Str}(hN:X.N.Nodup)(hi:X.N[i]?=some x:=by rfl)(hx:Loc X.env.scope x:=by first | exact Or.inl rfl | exact Or.inr rfl)(hf:X.fn x=true\/X.env.scope.names.lookup x=some .local:=by first | exact .inl rfl | exact .inr rfl | assumption):PG X (.Name x pos) (rf i):=uw hN hi hx hf
theorem qT (i:Nat){x:Str}(hN:X.N.Nodup)(hi:X.N[i]?=some x:=by rfl)(hx:Loc X.env.scope x:=by first | exact Or.inl rfl | exact Or.inr rfl)(hf:X.fn x=true\/X.env.scope.names.lookup x=some .local:=by first | exact .inl rfl | exact .inr rfl | assumption):Tg X (.Name x pos) (rf i) (zC i) [i]:=⟨uw hN hi hx hf,dD i,de i⟩
theorem Ah {N0 ps N:List Str}{js:List (Option Nat)}{sc sc0:Scope}(S:dz N0 ps sc0)(h:zN N0 sc0 N js sc=true)(hN:X.N=N0:=by rfl)(hs:X.env.scope=sc0:=by rfl):gT X N js sc:=compOk h hN hs
section
variable {tg iter elt:Expr}{ifs:List Expr}{sc:Scope}{N:List Str}{js:List (Option Nat)}{g:TG}{y:DG}{S:List Nat}{t:Dt}{wi:DI}
theorem sCp (i:Nat)(m:Bool){pos' uW:Pos}{x:Str}(hN:X.N.Nodup)(hc:gT X N js sc)(so:SoG g y S)(mo:mw g)(hi:PDI X tg iter wi)(hg:∀ fp s H,N.Nodup->PG (ky X N sc fp s H) tg g)
 (ht:∀ fp s H,xo (ky X N sc fp s H) ifs t) (he:∀ fp s H,PD (ky X N sc fp s H) elt w) (ho:oA S js=true:=by rfl) (calm:X.calm=true:=by rfl) (hx':X.N[i]?=some x:=by rfl) (hx:Loc X.env.scope x:=by first | exact Or.inl rfl | exact Or.inr rfl) (hsw:swapsWith (.ListComp elt [⟨tg,iter,ifs,0⟩] sc pos) (some (.Name x pos')) uW.line X.env=pure true:=by rfl)
 (hs:∀ x,foldedSetIterable iter X.env x=pure x:=by intro _;rfl) (hf:X.fn x=true\/X.env.scope.names.lookup x=some .local:=by first | exact .inl rfl | exact .inr rfl | assumption) :
 wC X (.Assign [.Name x pos'] (.ListComp elt [⟨tg,iter,ifs,0⟩] sc pos) uW) (dSet i (tP m wi js y t w)):=s_setComp m hc calm so mo ho hN hx' hx hi (fun fp s H=>hg fp s H hc.nd) ht he hsw hs hf
theorem dCp (m:Bool)(hc:gT X N js sc)(so:SoG g y S)(mo:mw g)(hi:PDI X tg iter wi)(hg:∀ fp s H,N.Nodup->PG (ky X N sc fp s H) tg g)(ht:∀ fp s H,xo (ky X N sc fp s H) ifs t)(he:∀ fp s H,PD (ky X N sc fp s H) elt w)(ho:oA S js=true:=by rfl)(calm:X.calm=true:=by rfl)
 (hs:∀ x,foldedSetIterable iter X.env x=pure x:=by intro _;rfl):PD X (.ListComp elt [⟨tg,iter,ifs,0⟩] sc pos) (tP m wi js y t w):=d_comp m hc calm so mo ho hi (fun fp s H=>hg fp s H hc.nd) ht he hs
theorem sC1 (i:Nat)(m:Bool){pos' uW:Pos}{x:Str}(hN:X.N.Nodup)(hc:gT X N js sc)(hi:PDI X tg iter wi)(hg:∀ fp s H,N.Nodup->PG (ky X N sc fp s H) tg (rf 0))
 (ht:∀ fp s H,xo (ky X N sc fp s H) ifs t) (he:∀ fp s H,PD (ky X N sc fp s H) elt w) (ho:oA [0] js=true:=by rfl) (calm:X.calm=true:=by rfl) (hx':X.N[i]?=some x:=by rfl) (hx:Loc X.env.scope x:=by first | exact Or.inl rfl | exact Or.inr rfl) (hsw:swapsWith (.ListComp elt [⟨tg,iter,ifs,0⟩] sc pos) (some (.Name x pos')) uW.line X.env=pure true:=by rfl)
 (hs:∀ x,foldedSetIterable iter X.env x=pure x:=by intro _;rfl) (hf:X.fn x=true\/X.env.scope.names.lookup x=some .local:=by first | exact .inl rfl | exact .inr rfl | assumption) :
 wC X (.Assign [.Name x pos'] (.ListComp elt [⟨tg,iter,ifs,0⟩] sc pos) uW) (dSet i (tP m wi js (zC 0) t w)):=sCp i m hN hc (dD 0) (de 0) hi hg ht he ho calm hx' hx hsw hs hf
theorem dC1 (m:Bool)(hc:gT X N js sc)(hi:PDI X tg iter wi)(hg:∀ fp s H,N.Nodup->PG (ky X N sc fp s H) tg (rf 0))(ht:∀ fp s H,xo (ky X N sc fp s H) ifs t)(he:∀ fp s H,PD (ky X N sc fp s H) elt w)(ho:oA [0] js=true:=by rfl)(calm:X.calm=true:=by rfl)
 (hs:∀ x,foldedSetIterable iter X.env x=pure x:=by intro _;rfl):PD X (.ListComp elt [⟨tg,iter,ifs,0⟩] sc pos) (tP m wi js (zC 0) t w):=dCp m hc (dD 0) (de 0) hi hg ht he ho calm hs
end
end
end L2
namespace L2
open PySem PySem.Spec PyProof.Rows PyProof PySem.W
theorem fA {N P:List Str}{sc:Scope}(h1:sc.kind=.function:=by rfl)(h2:sc.isCoroutine=false:=by rfl)(h3:sc.isGenerator=false:=by rfl)(h4:N.Nodup:=by decide +kernel)(h5:N.take P.length=P:=by rfl)
 (h6:∀ x∈P,sc.names.lookup x=some .local\/sc.names.lookup x=some .cell:=by decide +kernel) (h7:∀ y∈sc.names,y.2≠.free:=by decide +kernel):dz N P sc:=⟨h1,h2,h3,h4,h5,h6,h7⟩
def kf (f c:Addr)(x q:Str)(s:Stmt)(pm:Value)(t l a r1 r2:Nat)(v1 v2:Value)(r3 t2:Nat):List (Addr×Obj):=[ko f (fnQ x q s pm c),ko c (coQ x q t l a r1 r2 v1 v2 r3 t2)]
def kx (P:Params)(a n h:Addr)(x:Str)(sl:Option Value)(t u:Nat)(m:Value)(i l:Nat)(st:Addr)(sub:List Value:=[])(bs:List Value:=[.ref h])(mro:List Value:=[.ref a,.ref h,.type "ValueError",.type "Exception",.type "BaseException",.type "object"]):List (Addr×Obj) :=
 [ko a ⟨.type "type",none,.cls ⟨x,bs,mro,n,x,true,[],sub,false,none,false⟩,#[sl,none,some (.str x t),some (.str x u),some (.builtin "ValueError.__new__"),some (.bool true)]⟩,
  ko n ⟨.type "dict",none,.dict #[hX P "__module__" i m,hX P "__firstlineno__" (i+4) (.int l (i+3)),hX P "__static_attributes__" (i+5) (.ref st),hX P "__doc__" (i+6) .none] 2,#[]⟩]
theorem fQ {K:Frag}(x q:Str)(s:Stmt)(f:Addr)(pm:Value)(c:Addr)(l:K.lookup f=some (fnQ x q s pm c):=by kernel_rfl)(c':codeIn K (.ref c) q=true:=by kernel_rfl)(k:keepIn K (.ref f)=true:=by kernel_rfl):gG K x q s f (fnOf x q (gU s) (gg s) (dn s) .none .none .none pm none (.ref c) .none):=fun_of l c' k
section
variable {K:Frag}{x q:Str}{s:Stmt}{f:Addr}{fd:FuncData}{ps:List Str}(F:gG K x q s f fd)
include F
theorem bd1 (hl:ps.length=1:=by rfl)(h:∀(kV doc pm:Value) (an:Option Addr) (fI ct a:Value),bindArgs (fnOf x q (gU s) (gg s) (dn s) .none kV doc pm an fI ct) ⟨[a],[]⟩=pure (ps.zip [a]):=by intros;rfl):Binds K fd ps []:=F.binds fun k d p n c t=>by rw[hl];exact bn1 fun a=>h k d p n c t a
theorem nV (hl:ps.length=2:=by rfl)(h:∀(kV doc pm:Value) (an:Option Addr) (fI ct a b:Value),bindArgs (fnOf x q (gU s) (gg s) (dn s) .none kV doc pm an fI ct) ⟨[a,b],[]⟩=pure (ps.zip [a,b]):=by intros;rfl):Binds K fd ps []:=F.binds fun k d p n c t=>by rw[hl];exact bnS fun a=>bn1 fun b=>h k d p n c t a b
theorem bd3 (hl:ps.length=3:=by rfl)(h:∀(kV doc pm:Value) (an:Option Addr) (fI ct a b e:Value),bindArgs (fnOf x q (gU s) (gg s) (dn s) .none kV doc pm an fI ct) ⟨[a,b,e],[]⟩=pure (ps.zip [a,b,e]):=by intros;rfl):Binds K fd ps []:=F.binds fun k d p n c t=>by rw[hl];exact bnS fun a=>bnS fun b=>bn1 fun e=>h k d p n c t a b e
theorem bd4 (hl:ps.length=4:=by rfl)(h:∀(kV doc pm:Value) (an:Option Addr) (fI ct a b e g:Value),bindArgs (fnOf x q (gU s) (gg s) (dn s) .none kV doc pm an fI ct) ⟨[a,b,e,g],[]⟩=pure (ps.zip [a,b,e,g]):=by intros;rfl):Binds K fd ps []:=F.binds fun k d p n c t=>by rw[hl];exact bnS fun a=>bnS fun b=>bnS fun e=>bn1 fun g=>h k d p n c t a b e g
theorem bd5 (hl:ps.length=5:=by rfl)(h:∀(kV doc pm:Value) (an:Option Addr) (fI ct a b e g i:Value),bindArgs (fnOf x q (gU s) (gg s) (dn s) .none kV doc pm an fI ct) ⟨[a,b,e,g,i],[]⟩=pure (ps.zip [a,b,e,g,i]):=by intros;rfl):Binds K fd ps []:=F.binds fun k d p n c t=>by rw[hl];exact bnS fun a=>bnS fun b=>bnS fun e=>bnS fun g=>bn1 fun i=>h k d p n c t a b e g i
end
end L2
namespace L2
open PySem PySem.Spec PyProof.Rows PyProof
def intT (i:Int):Str:=toString i
def ddT:Dd->List Str
 | .put nm b a=>["put",nm,b,intT a]
 | .join nm l r p=>["join",nm,l,r,intT p]
 | .found nm bar sg=>["found",nm,intT bar,sg]
 | .kS nm a=>["aged",nm,intT a]
 | .drop nm=>["drop",nm]
 | .free p=>["free",intT p]
 | .eR p=>["shut",intT p]
def spc:Str := " "
def ddS:Dd->Prop
 | .put nm b a=>nm.length<=100/\b.length<=100/\a.natAbs<=1000
 | .join nm l r p=>nm.length<=100/\l.length<=100/\r.length<=100/\p.natAbs<=1000
 | .found nm bar sg=>nm.length<=100/\bar.natAbs<=1000/\sg.length<=100
 | .kS nm a=>nm.length<=100/\a.natAbs<=1000
 | .drop nm=>nm.length<=100
 | .free p=>p.natAbs<=1000
 | .eR p=>p.natAbs<=1000
def n9:Dd->List D
 | .put nm b a=>[.str "put",.str nm,.str b,.int a]
 | .join nm l r p=>[.str "join",.str nm,.str l,.str r,.int p]
 | .found nm bar sg=>[.str "found",.str nm,.int bar,.str sg]
 | .kS nm a=>[.str "aged",.str nm,.int a]
 | .drop nm=>[.str "drop",.str nm]
 | .free p=>[.str "free",.int p]
 | .eR p=>[.str "shut",.int p]
theorem dd_th (d:Dd):pR d=.tup (n9 d):=by cases d <;> rfl
theorem th_len (d:Dd):(n9 d).length<=5:=by cases d <;> (simp only[n9,aE,bU];omega)
theorem lY {z:Str}(h:fK z=true):z.length<=100:=by
 unfold fK at h
 rw[aL,aL,ba,ba]at h
 omega
theorem uC {S:RS}{m:Nat}{nm:Str}(h:nW S m)(q:¬ fV S nm=false):nm.length<=100:=by
 obtain⟨x,e⟩:=l7 q
 exact lY (h.nms _ (mi e))
theorem new_len {S:RS}{nm:Str}(h:iA S nm=none):nm.length<=100:=lY (ph h).1
theorem small_of {S:RS}{m:Nat}{d:Dd}(h:nW S m)(hr:i9 S d=none):ddS d:=by
 have n2:=h.n2
 cases d with
 | put nm b a =>
  obtain⟨h1,h2⟩:=or_none hr
  split at h2
  ·rename_i q
   obtain⟨a0,a1⟩:=pF h2
   exact⟨new_len h1,by omega,by omega⟩
  ·cases h2
 | join nm l r p =>
  obtain⟨h1,h2⟩:=or_none hr
  split at h2
  ·cases h2
  ·rename_i q1
   split at h2
   ·cases h2
   ·rename_i q2
    obtain⟨h3,_⟩:=or_none h2
    obtain⟨p1,p2⟩:=ly h3
    exact⟨new_len h1,uC h q1,uC h q2,by omega⟩
 | found nm bar sg =>
  have hr:(if fV S nm=false then some 11 else if 0<=bar/\bar<S.n then(if sg = "o"\/sg = "x" then none else some 0)else some 6)=(none:Option Nat):=hr
  split at hr
  ·cases hr
  ·rename_i q1
   split at hr
   ·rename_i q2
    split at hr
    ·rename_i q3
     refine⟨uC h q1,by omega,?_⟩
     rcases q3 with rfl | rfl <;> decide +kernel
    ·cases hr
   ·cases hr
 | kS nm a =>
  have hr:(match dw S.kept nm with | none=>some 11 | some (.jn _ _ _)=>some 13 | some (.fst _ _)=>jl a)=(none:Option Nat):=hr
  cases e:dw S.kept nm with
  | none=>rw[e]at hr;cases hr
  | some x =>
   rw[e]at hr
   cases x with
   | jn l r p=>cases hr
   | fst b a0 =>
    obtain⟨a1,a2⟩:=pF hr
    exact⟨lY (h.nms _ (mi e)),by omega⟩
 | drop nm =>
  have hr:(if fV S nm=false then some 11 else if j0 S nm=true then some 14 else none)=(none:Option Nat):=hr
  split at hr
  ·cases hr
  ·rename_i q;exact uC h q
 | free p=>obtain⟨a,b⟩:=ly (S:=S) hr;show p.natAbs<=1000;omega
 | eR p=>obtain⟨a,b⟩:=ly (S:=S) hr;show p.natAbs<=1000;omega
end L2
namespace L2
open PySem PySem.Spec PyProof.Rows PyProof
end L2
namespace L2
open PySem PySem.Spec PyProof.Rows PyProof
def rq (K:PySem.W.Frag)(cs:List Addr)(cH:Addr):iN:=fun ds μ Kd=>match ds with
 | [.mr k]=>(∃ m,μ[0]?=some m)/\k≠0/\∃ j,j<17/\μ[k]?=some (.exc (.ref (cs.getD j 0)))/\km K cs cH j/\Kd (.lst [.str (qQ j)]) μ
 | _=>False
theorem fKindsJ_len {K:PySem.W.Frag}{cs:List Addr}{cH:Addr}{ds:List D}{μ:MS}{Kd:DK}(h:rq K cs cH ds μ Kd):ds.length=1/\∃ m,μ[0]?=some m:=by
 unfold rq at h
 split at h
 ·exact⟨rfl,h.1⟩
 ·exact h.elim
def lL:List Str:=["BadBars", "BadMake", "BadNumber", "BadText", "BadName", "BadAge", "BadBar", "BadPlace", "BadSize", "Taken", "Full", "NoTake", "Shut", "Joined", "Needed", "NothingLeft", "NoWay", "no ValueError"]
def kBits (j:Nat):List D:=(List.range 17).map (fun i=>D.bl (decide (i=j)))++[.bl false]
theorem kBits_at {j i:Nat}(hj:j<17)(hi:i<18):(kBits j)[i]?=some (.bl (decide (i=j))):=by
 unfold kBits
 by_cases h:i<17
 ·rw[uD (by rw[fg,gxJ];exact h),tK,cL h];rfl
 ·rw[p6 (by rw[fg,gxJ];omega),fg,gxJ,show i - 17=0 by omega,ak (by omega)];rfl
theorem kOne:∀ j:Nat,j<17->((List.range 18).filterMap fun i=>if i=j then some (lL.getD i "")else none)=[qQ j]:=by
 decide +kernel
theorem kWords_at {i:Nat}(hi:i<18):lL[i]?=some (lL.getD i ""):=by
 rw[aX]
 cases e:lL[i]? with
 | none=>exact absurd (List.getElem?_eq_none_iff.mp e) (by show ¬ 18<=i;omega)
 | some x=>rfl
theorem compW_kinds {it:D->MS->(Option D->MS->Prop)->Prop}{c:MS->Prop}{μ:MS}{j:Nat}(hj:j<17)(hc:c μ){K:List D->MS->Prop}(h:∀(i:Nat) (K':Option D->MS->Prop),i<18->(kBits j)[i]?=some (.bl (decide (i=j)))->lL[i]?=some (lL.getD i "")->(i=j->K' (some (.str (lL.getD i ""))) μ)->(i≠j->K' none μ)->it (.int (0+(i:Int))) μ K')(k:K [.str (qQ j)] μ):rH it c (kg 0 18) μ K:=by
 refine ie hc (fun i:Nat=>D.int (0+(i:Int))) (fun i=>if i=j then some (D.str (lL.getD i ""))else none) (fun i hi K' k'=>?_) ?_
 ·have hi:=List.mem_range.mp hi
  refine h i K' hi (kBits_at hj hi) (kWords_at hi) (fun e=>?_) (fun e=>?_)
  ·rw[ag e]at k';exact k'
  ·rw[ae e]at k';exact k'
 ·have e:((List.range 18).filterMap fun i=>if i=j then some (D.str (lL.getD i ""))else none)=[.str (qQ j)]:=by
   have t:=bI (List.map D.str) (kOne j hj)
   rw[List.map_filterMap]at t
   refine Eq.trans ?_ t
   congr 1
   funext i
   split <;> rfl
  rw[e]
  exact k
def dAddT:ue:=fun x y μ K=>match x,y with
 | .tup xs,.tup ys=>xs≠[]/\xs.length+ys.length<=sizeLine/\K (.tup (xs++ys)) μ
 | _,_=>False
theorem so_addT {Kf:PySem.W.Frag}:nS (rCatT Kf) dAddT:=fun φ H x y dx dy μ K Q M hx hy k L=>by
 unfold dAddT at k
 split at k
 ·rename_i xs ys
  obtain⟨h1,h2,k⟩:=k
  have hx0:=hx
  obtain⟨p,vs,rfl,sp,hp,ha⟩:=hx
  obtain⟨q,us,rfl,_,hq,hb⟩:=hy
  refine⟨p,q,vs,us,rfl,rfl,zV.of hp,zV.of hq,fun z=>h1 ?_,by rw[ha.len,hb.len];exact h2,fun z=>?_,fun _ l hl=>al_tup L M (ha.app hb) k hl⟩
  ·have:=ha.len;rw[z]at this;exact List.length_eq_zero_iff.mp this.symm
  ·have e:=hb.len
   rw[z]at e
   have e:ys=[]:=List.length_eq_zero_iff.mp e.symm
   rw[e,aN]at k
   exact L.val M k hx0
 ·exact k.elim
def jP:Option Nat->Str
 | none => ""
 | some i=>qQ i
def uH:iN:=fun ds μ K=>match ds with
 | [.str z]=>z.length<=1000/\K (.bl (fK z)) μ
 | _=>False
def rn:iN:=fun ds μ K=>match ds with
 | [x,.str z]=>z.length<=1000/\∃ S m,x=qj S/\nW S m/\K (.str (jP (iA S z))) μ
 | _=>False
def m5:iN:=fun ds μ K=>match ds with
 | [x,.int p]=>∃ S,x=qj S/\K (.str (jP (fE S p))) μ
 | _=>False
def iu (ok:Nat->Bool):iN:=fun ds μ K=>match ds with
 | [x,y]=>∃ S m d,x=qj S/\y=pR d/\ok (ddW d)=true/\nW S m/\ddOk d/\K (.str (jP (i9 S d))) μ
 | _=>False
def w0 (n:Nat):Bool:=n==0
def w1 (n:Nat):Bool:=n==1
def w24 (n:Nat):Bool:=n==2||n==3||n==4
def wAll (_:Nat):Bool:=true
def rC:iN:=fun ds μ K=>match ds with
 | [.mr k,x,y]=>μ[k]?=some .box/\∃ S m eO,x=qj S/\y=oj eO/\nW S m/\mS eO/\∀ z:Str,z.length<=100->K (.str z) μ
 | _=>False
def ddL (n:Nat):Dd->Prop
 | .put nm b _=>nm.length<=100/\b.length<=n
 | .join nm _ _ _=>nm.length<=100
 | _=>True
def zu:iN:=fun ds μ K=>match ds with
 | [.mr k,x,y,z]=>μ[k]?=some .box/\∃ S m eO d n,x=qj S/\y=oj eO/\z=pR d/\nW S m/\mS eO/\ddL n d/\n<=500/\∀ d',ddL (n+1) d'->K (pR d') μ
 | _=>False
def fWild:iN:=fun ds μ K=>match ds with
 | [.mr k,x,y]=>μ[k]?=some .box/\∃ S m eO,x=qj S/\y=oj eO/\nW S m/\mS eO/\∀ d,ddOk d->K (pR d) μ
 | _=>False
theorem ddL_ok {n:Nat}{d:Dd}(h:ddL n d)(hn:n<=1000):ddOk d:=by
 cases d <;> first | trivial | exact⟨ar h.1 (by decide),ar h.2 hn⟩ | exact ar h (by decide)
theorem ddS_L {d:Dd}(h:ddS d):ddL 100 d:=by
 cases d <;> first | trivial | exact⟨h.1,h.2.1⟩ | exact h.1
def zp (K:PySem.W.Frag)(cs:List Addr)(cH cR cS:Addr):iN:=fun ds μ Kd=>match ds with
 | [.mr k,y]=>(∃ m,μ[0]?=some m)/\(∀ j,j<16->km K cs cH j)/\∃ j1 j2 ss rs d S e,eU cR cS μ k j1 j2 ss rs d/\ss[d]?=some S/\y=pR e/\ddOk e/\rs.length<900/\(match i9 S e with | some i=>Kd (.tup [.str "refused",.lst [.str (qQ i)]]) μ | none=>Kd (.tup [.str "done",.bl true]) (mR cR cS μ k j1 j2 (ss.take (d+1)++[pK S e]) (rs.take d++[e]) (d+1)))
 | _=>False
theorem yP {S:RS}{e:Dd}{i:Nat}(h:i9 S e=some i):i<16:=by
 have a1:∀ {nm:Str},iA S nm=some i->i<16:=fun {nm} h=>by
  unfold iA at h;split at h
  ·cases h;decide
  ·split at h
   ·cases h;decide
   ·split at h
    ·cases h;decide
    ·cases h
 have a2:∀ {p:Int},fE S p=some i->i<16:=fun {p} h=>by
  unfold fE at h;split at h
  ·cases h
  ·cases h;decide
 have a3:∀ {a:Int},jl a=some i->i<16:=fun {p} h=>by
  unfold jl at h;split at h
  ·cases h
  ·cases h;decide
 have orE:∀ {a b:Option Nat},a.or b=some i->(a=some i->i<16)->(b=some i->i<16)->i<16:=fun {a b} h h1 h2=>by
  cases a with
  | none=>exact h2 h
  | some x=>exact h1 h
 cases e with
 | put nm b a =>
  refine orE h a1 fun h=>?_
  split at h
  ·exact a3 h
  ·cases h;decide
 | join nm l r p =>
  refine orE h a1 fun h=>?_
  split at h
  ·cases h;decide
  ·split at h
   ·cases h;decide
   ·refine orE h a2 fun h=>?_
    split at h
    ·cases h;decide
    ·cases h
 | found nm bar sg =>
  have h:(if fV S nm=false then some 11 else if 0<=bar/\bar<S.n then(if sg = "o"\/sg = "x" then none else some 0)else some 6)=some i:=h
  split at h
  ·cases h;decide
  ·split at h
   ·split at h
    ·cases h
    ·cases h;decide
   ·cases h;decide
 | kS nm a =>
  have h:(match dw S.kept nm with | none=>some 11 | some (.jn _ _ _)=>some 13 | some (.fst _ _)=>jl a)=some i:=h
  split at h
  ·cases h;decide
  ·cases h;decide
  ·exact a3 h
 | drop nm =>
  have h:(if fV S nm=false then some 11 else if j0 S nm=true then some 14 else none)=some i:=h
  split at h
  ·cases h;decide
  ·split at h
   ·cases h;decide
   ·cases h
 | free p=>exact a2 h
 | eR p=>exact a2 h
def abcT:Str := "abcdefghijklmnopqrstuvwxyz"
theorem abc_mem (c:Nat):decide (c∈abcT.cps.toList)=(decide (97<=c)&&decide (c<=122)):=by
 have e:abcT.cps.toList=(List.range 26).map (97+·):=by decide +kernel
 rw[e]
 have:c∈(List.range 26).map (97+·)↔97<=c/\c<=122:=by
  rw[List.mem_map]
  constructor
  ·rintro⟨a,ha,rfl⟩;have:=List.mem_range.mp ha;omega
  ·intro h;exact⟨c - 97,List.mem_range.mpr (by omega),by omega⟩
 rw[<- Bool.decide_and]
 exact decide_eq_decide.mpr this
theorem ox_mem (c:Nat):decide (c∈(Str.ofString "ox").cps.toList)=(decide (c=111)||decide (c=120)):=by
 have e:(Str.ofString "ox").cps.toList=[111,120]:=by decide +kernel
 rw[e,<- Bool.decide_or]
 exact decide_eq_decide.mpr (by simp)
theorem ox_any (b:Str):((b.cps.toList.map fun c=>!(decide (c=111)||decide (c=120))).any id)=!Ae b:=by
 unfold Ae
 induction b.cps.toList with
 | nil=>rfl
 | cons c l ih=>rw[ah,bp,cN,ih,Bool.not_and];rfl
theorem m7 {c:Dt}{wa wb:De}{ρ:DE}{μ:MS}{K:DK}(b:Bool)(h:TV c ρ μ b)(ht:b=true->wa ρ μ K)(hu:b=false->wb ρ μ K):dIf c wa wb ρ μ K:=h _ (by
 cases b with
 | true=>rw[ag rfl];exact ht rfl
 | false=>rw[ae (by decide)];exact hu rfl)
theorem kWord_ne (i:Nat)(h:i<17):decide (qQ i=("" : Str))=false:=by
 have:∀ i:Nat,i<17->decide (qQ i=("" : Str))=false:=by decide +kernel
 exact this i h
theorem ql {o:Option Nat}(h:∀ i,o=some i->i<17):decide (jP o=("" : Str))=o.isNone:=by
 cases o with
 | none=>decide +kernel
 | some i=>exact kWord_ne i (h i rfl)
theorem newW_lt {S:RS}{nm:Str}{i:Nat}(h:iA S nm=some i):i<17:=by
 unfold iA at h;split at h
 ·cases h;decide
 ·split at h
  ·cases h;decide
  ·split at h
   ·cases h;decide
   ·cases h
theorem named_8 {z:Str}(h:fK z=true):z.length<=8:=by
 unfold fK at h
 rw[aL,aL,ba,ba]at h
 omega
theorem kU (a b:Str):(a++b).length=a.length+b.length:=by
 show(a.cps++b.cps).size=_
 rw[Array.size_append];rfl
theorem spc_len (a:Str):(a++spc).length=a.length+1:=by rw[kU];rfl
def gP:Dd->Str
 | .put _ _ _ => "put" | .join _ _ _ _ => "join" | .found _ _ _ => "found" | .kS _ _ => "aged" | .drop _ => "drop" | .free _ => "free" | .eR _ => "shut"
def dwL:List Str:=["put", "join", "found", "aged", "drop", "free", "shut"]
theorem l8 (d:Dd)(i:Nat)(hi:i<7):gP d=dwL.getD i ""↔ddW d=i:=by
 have e:gP d=dwL.getD (ddW d) "":=by cases d <;> rfl
 have l:ddW d<7:=by cases d <;> (simp only[ddW];omega)
 rw[e]
 have k:∀ i:Nat,i<7->∀ j:Nat,j<7->(dwL.getD j ""=dwL.getD i ""↔j=i):=by decide +kernel
 exact k i hi _ l
theorem ddL_mono {n m:Nat}{d:Dd}(h:ddL n d)(hn:n<=m):ddL m d:=by
 cases d <;> first | trivial | exact⟨h.1,ar h.2 hn⟩ | exact h
theorem dIf_gen {c:Dt}{t u:Ds}{N:DN}{ρ:DE}{μ:MS}(B:Bool->MS->Prop)(h:∀ K:Bool->MS->Prop,(∀ b μ',B b μ'->K b μ')->c ρ μ K)(ht:∀ μ',B true μ'->t N ρ μ')(hu:∀ μ',B false μ'->u N ρ μ'):dIfS c t u N ρ μ:=h _ fun b μ' hb=>by
 cases b with
 | true=>rw[ag rfl];exact ht μ' hb
 | false=>rw[ae (by decide)];exact hu μ' hb
def dueD (o:Option Nat):D:=match o with
 | some i=>.tup [.str "refused",.lst [.str (qQ i)]]
 | none=>.tup [.str "done",.bl true]
theorem sm_due (o:Option Nat):nF 5 (dueD o):=by
 cases o with
 | none=>exact r8 (by simp only[aE,bU];omega) (fun d hd=>by simp only[bF,bo,cE]at hd;rcases hd with rfl | rfl;exact iK;exact sm_bl)
 | some i=>exact r8 (by simp only[aE,bU];omega) (fun d hd=>by simp only[bF,bo,cE]at hd;rcases hd with rfl | rfl;exact iK;exact u0 (by simp only[aE,bU];omega) fun d hd=>by rw[List.mem_singleton.mp hd];exact iK)
theorem k16 {K:PySem.W.Frag}{cs:List Addr}{cH:Addr}(h0:km K cs cH 0)(h1:km K cs cH 1)(h2:km K cs cH 2)(h3:km K cs cH 3)(h4:km K cs cH 4)(h5:km K cs cH 5)(h6:km K cs cH 6)(h7:km K cs cH 7)(h8:km K cs cH 8)(h9:km K cs cH 9)(ha:km K cs cH 10)(hb:km K cs cH 11)(hc:km K cs cH 12)(hd:km K cs cH 13)(he:km K cs cH 14)(hf:km K cs cH 15):∀ j,j<16->km K cs cH j
 | 0,_=>h0 | 1,_=>h1 | 2,_=>h2 | 3,_=>h3 | 4,_=>h4 | 5,_=>h5 | 6,_=>h6 | 7,_=>h7 | 8,_=>h8 | 9,_=>h9 | 10,_=>ha | 11,_=>hb | 12,_=>hc | 13,_=>hd | 14,_=>he | 15,_=>hf
 | n+16,h=>absurd h (by omega)
theorem kB {K:PySem.W.Frag}{cs:List Addr}{cH:Addr}{j:Nat}(e1:(PySem.W.clsIn K (cs.getD j 0)).isSome=true:=by kernel_rfl)(e2:PySem.W.findIn K (.ref (cs.getD j 0)) "__getattribute__"=some (some (.builtin "BaseException.__getattribute__")):=by kernel_rfl)(e3:PySem.W.findIn K (.ref (cs.getD j 0)) "__getattr__"=some none:=by kernel_rfl)
 (e4:PySem.W.findIn K (.ref (cs.getD j 0)) "__class__"=some (some (.builtin "object.__class__")):=by kernel_rfl) (e5:PySem.W.specialIn K (.builtin "object.__class__") "__get__"=some (some (.builtin "getset_descriptor.__get__")):=by kernel_rfl) (e6:PySem.W.takesIn K (.builtin "object.__class__")=some true:=by kernel_rfl) (e7:PySem.W.mroIn K (cs.getD j 0) (.type "object")=some true:=by kernel_rfl) (e8:PySem.W.mroIn K (cs.getD j 0) (.type "BaseException")=some true:=by kernel_rfl)
 (k:kitB K cs j=true:=by kernel_rfl) (v:PySem.W.kitOne K (.ref (cs.getD j 0)) (.type "ValueError")=some true:=by kernel_rfl) (q1:PySem.W.excIn K cH mC "ValueError.__new__"=true:=by kernel_rfl) (q2:PySem.W.excIn K (cs.getD j 0) mC "ValueError.__new__"=true:=by kernel_rfl) (q3:subIn K (cs.getD j 0) cH=true:=by kernel_rfl):km K cs cH j:=⟨⟨e1,e2,e3,e4,e5,e6,e7,e8⟩,k,v,sub_of q1 q2 q3⟩
end L2
namespace Pf
open PySem L2 PyProof.Rows
def top (i:Nat):Stmt:=PySem.Challenge.pw_hissroom_k33_deeds_refused.main.body.getD i (.Pass ⟨0,0,0,0⟩)
def met (i j:Nat):Stmt:=(clsBody (top i)).getD j (.Pass ⟨0,0,0,0⟩)
abbrev s_box:Stmt:=top 46
abbrev yC:Stmt:=top 47
abbrev yL:Stmt:=top 50
abbrev s_same:Stmt:=top 71
abbrev pf:Stmt:=top 21
abbrev qH:Stmt:=top 22
abbrev mJ:Stmt:=top 40
abbrev jD:Stmt:=top 41
abbrev ib:Stmt:=met 27 0
abbrev gE:Stmt:=met 27 1
abbrev jG:Stmt:=met 27 2
abbrev i8:Stmt:=met 27 3
abbrev fU:Stmt:=met 27 4
abbrev j7:Stmt:=met 27 5
abbrev jF:Stmt:=met 27 6
abbrev k7:Stmt:=top 37
abbrev k8:Stmt:=top 38
abbrev jE:Stmt:=top 39
abbrev s_put:Stmt:=top 28
abbrev yG:Stmt:=top 29
abbrev uu:Stmt:=top 30
abbrev yN:Stmt:=top 31
abbrev yJ:Stmt:=top 32
abbrev yH:Stmt:=top 33
abbrev yD:Stmt:=top 34
abbrev iY:Stmt:=top 36
abbrev iJ:Stmt:=met 44 0
abbrev mO:Stmt:=met 44 1
abbrev lh:Stmt:=met 44 9
abbrev ke:Stmt:=met 44 12
abbrev lg:Stmt:=met 44 14
abbrev kc:Stmt:=met 44 15
abbrev lq:Stmt:=met 44 16
abbrev mP:Stmt:=met 44 17
abbrev j9:Stmt:=met 44 18
abbrev jH:Stmt:=met 44 19
abbrev lj:Stmt:=met 44 20
abbrev j8:Stmt:=met 44 21
abbrev um:Stmt:=top 48
abbrev uv:Stmt:=top 49
abbrev qG:Stmt:=top 51
abbrev yM:Stmt:=top 52
abbrev ur:Stmt:=top 53
abbrev uk:Stmt:=top 54
abbrev yE:Stmt:=top 55
abbrev yK:Stmt:=top 56
abbrev yF:Stmt:=top 57
abbrev yI:Stmt:=top 58
abbrev qF:Stmt:=top 72
abbrev uo:Stmt:=top 62
abbrev mL:Stmt:=top 63
abbrev j6:Stmt:=top 64
abbrev mK:Stmt:=top 65
abbrev kZ:Stmt:=top 66
abbrev kX:Stmt:=top 67
abbrev yz:Stmt:=top 68
abbrev mM:Stmt:=top 59
abbrev k9:Stmt:=top 60
abbrev yA:Stmt:=top 61
abbrev uq:Stmt:=top 69
abbrev yB:Stmt:=top 70
abbrev nH:Stmt:=top 73
structure fS (K:PySem.W.Frag)(C:Addr):Prop where
 cl:wL K C
 gq:PySem.W.findIn K (.ref C) "length"=some none
 fG:PySem.W.findIn K (.ref C) "made_of"=some none
 g9:PySem.W.findIn K (.ref C) "firsts"=some none
 iB:PySem.W.findIn K (.ref C) "closed"=some none
structure jS (K:PySem.W.Frag)(C:Addr):Prop where
 cl:wL K C
 vA:PySem.W.findIn K (.ref C) "stands"=some none
 n_rows:PySem.W.findIn K (.ref C) "rows"=some none
 sv:PySem.W.findIn K (.ref C) "done"=some none
theorem sc_box:dz ["_law_script"] ["_law_script"] (dn s_box):=fA
theorem qx:dz ["_law_box_here", "_law_many", "_law_rest", "_law_cell", "_law_one", "_law_two"] ["_law_box_here", "_law_many"] (dn yC):=fA
theorem mI:dz ["_law_box_here", "_law_size", "_law_kind", "_law_first", "_law_behind"] ["_law_box_here", "_law_size"] (dn yL):=fA
theorem sc_same:dz ["_law_found", "_law_due"] ["_law_found", "_law_due"] (dn s_same):=fA
theorem sc_is_bars:dz ["size", "text"] ["size", "text"] (dn pf):=fA
theorem kn:dz ["one", "other", "place", "bars", "age", "other_bars", "other_age", "cut"] ["one", "other", "place"] (dn qH):=fA
theorem sW:dz ["table", "key", "thing", "told"] ["table", "key", "thing"] (dn mJ):=fA
theorem ot:dz ["table", "key"] ["table", "key"] (dn jD):=fA
theorem qD:dz ["self", "length", "made_of", "firsts", "closed"] ["self", "length", "made_of", "firsts", "closed"] (dn ib):=fA
theorem ow:dz ["self", "name"] ["self", "name"] (dn gE):=fA
theorem vc:dz ["self", "name"] ["self", "name"] (dn jG):=fA
theorem fk:dz ["self", "name", "bar", "parts", "copies", "left", "right", "place"] ["self", "name", "bar"] (dn i8):=fA
theorem eF:dz ["self", "told", "name", "parts", "left", "right", "place"] ["self"] (dn fU):=fA
theorem wU:dz ["self", "name"] ["self", "name"] (dn j7):=fA
theorem kE:dz ["self", "cuts"] ["self"] (dn jF):=fA
theorem qA:dz ["stand", "name"] ["stand", "name"] (dn k7):=fA
theorem yw:dz ["age"] ["age"] (dn k8):=fA
theorem va:dz ["stand", "place"] ["stand", "place"] (dn jE):=fA
theorem sd:dz ["stand", "row", "word", "name", "bars", "age", "made_of"] ["stand", "row"] (dn s_put):=fA
theorem o9:dz ["stand", "row", "word", "name", "left", "right", "place"] ["stand", "row"] (dn yG):=fA
theorem iz:dz ["stand", "row", "word", "name", "bar", "sign", "first", "copies", "bars", "age", "heard"] ["stand", "row"] (dn uu):=fA
theorem pe:dz ["stand", "row", "word", "name", "age", "bars", "before"] ["stand", "row"] (dn yN):=fA
theorem qz:dz ["stand", "row", "word", "name", "made_of"] ["stand", "row"] (dn yJ):=fA
theorem yu:dz ["stand", "row", "word", "place"] ["stand", "row"] (dn yH):=fA
theorem yt:dz ["stand", "row", "word", "place"] ["stand", "row"] (dn yD):=fA
theorem nG:dz ["stand", "row", "deed"] ["stand", "row"] (dn iY):=fA
theorem se:dz ["self", "size"] ["self", "size"] (dn iJ):=fA
theorem sc_Room_now:dz ["self"] ["self"] (dn mO):=fA
theorem qE:dz ["self", "row", "stand"] ["self", "row"] (dn lh):=fA
theorem wX:dz ["self"] ["self"] (dn ke):=fA
theorem yx:dz ["self"] ["self"] (dn lg):=fA
theorem wW:dz ["self"] ["self"] (dn kc):=fA
theorem yy:dz ["self", "name"] ["self", "name"] (dn lq):=fA
theorem sc_Room_age:dz ["self", "name"] ["self", "name"] (dn mP):=fA
theorem wV:dz ["self", "name"] ["self", "name"] (dn j9):=fA
theorem vd:dz ["self", "name", "bar"] ["self", "name", "bar"] (dn jH):=fA
theorem j5:dz ["self", "size", "cuts", "takes"] ["self"] (dn lj):=fA
theorem jC:dz ["self", "size", "cuts", "takes"] ["self"] (dn j8):=fA
theorem gH:dz ["_law_box_here", "_law_many", "_law_letters", "_law_size", "_law_place", "_law_alike", "_law_first", "_law_rows", "_law_k", "_law_row"] ["_law_box_here", "_law_many"] (dn um):=fA
theorem sc_begun:dz ["_law_box_here", "_law_most", "_law_size"] ["_law_box_here", "_law_most"] (dn uv):=fA
theorem iP:dz ["_law_kept", "_law_name", "_law_bar", "_law_copies", "_law_word_here", "_law_left", "_law_right", "_law_place"] ["_law_kept", "_law_name", "_law_bar"] (dn qG):=fA
theorem uj:dz ["_law_kept", "_law_found", "_law_name", "_law_part"] ["_law_kept"] (dn yM):=fA
theorem u9:dz ["_law_state", "_law_name", "_law_kept"] ["_law_state", "_law_name"] (dn ur):=fA
theorem u7:dz ["_law_state", "_law_ages_here"] ["_law_state"] (dn uk):=fA
theorem sc_open:dz ["_law_state"] ["_law_state"] (dn yE):=fA
theorem pd:dz ["_law_state", "_law_deed", "_law_size", "_law_kept", "_law_shut", "_law_name", "_law_word_here", "_law_text", "_law_old"] ["_law_state", "_law_deed"] (dn yK):=fA
theorem ui:dz ["_law_kept", "_law_used", "_law_part"] ["_law_kept"] (dn yF):=fA
theorem iX:dz ["_law_box_here", "_law_state", "_law_pool", "_law_names_here", "_law_fresh", "_law_places", "_law_way", "_law_old", "_law_some", "_law_other", "_law_place", "_law_lone_here"] ["_law_box_here", "_law_state", "_law_pool"] (dn yI):=fA
theorem iO:dz ["_law_room", "_law_state", "_law_names_here", "_law_takes_here", "_law_k", "_law_part", "_law_due", "_law_told_here", "_law_bar"] ["_law_room", "_law_state"] (dn qF):=fA
theorem sc_named:dz ["_law_text"] ["_law_text"] (dn uo):=fA
theorem sc_new_word:dz ["_law_state", "_law_name"] ["_law_state", "_law_name"] (dn mL):=fA
theorem wR:dz ["_law_state", "_law_place"] ["_law_state", "_law_place"] (dn j6):=fA
theorem ou:dz ["_law_state", "_law_deed", "_law_word_here"] ["_law_state", "_law_deed"] (dn mK):=fA
theorem qy:dz ["_law_state", "_law_deed", "_law_word_here"] ["_law_state", "_law_deed"] (dn kZ):=fA
theorem mH:dz ["_law_state", "_law_deed", "_law_part", "_law_other"] ["_law_state", "_law_deed"] (dn kX):=fA
theorem sc_word:dz ["_law_state", "_law_deed"] ["_law_state", "_law_deed"] (dn yz):=fA
theorem sX:dz ["_law_box_here", "_law_state", "_law_pool", "_law_some"] ["_law_box_here", "_law_state", "_law_pool"] (dn mM):=fA
theorem hZ:dz ["_law_box_here", "_law_state", "_law_pool", "_law_deed", "_law_at", "_law_thing"] ["_law_box_here", "_law_state", "_law_pool", "_law_deed"] (dn k9):=fA
theorem qw:dz ["_law_box_here", "_law_state", "_law_pool", "_law_deed", "_law_way"] ["_law_box_here", "_law_state", "_law_pool"] (dn yA):=fA
theorem iW:dz ["_law_e", "_law_found", "_law_words"] ["_law_e"] (dn uq):=fA
theorem yq:dz ["_law_room", "_law_deed", "_law_found", "_law_e"] ["_law_room", "_law_deed"] (dn yB):=fA
theorem kD:dz ["_law_script", "_law_box_here", "_law_room", "_law_state", "_law_pool", "_law_deeds", "_law_k", "_law_deed", "_law_word_here", "_law_due"] ["_law_script"] (dn nH):=fA
def dq:Addr:=316
def cRoom:Addr:=612
def uK:Addr:=164
def uN:Addr:=116
def oU:Addr:=92
def zR:Addr:=140
def cFull:Addr:=152
def uO:Addr:=104
def pE:Addr:=128
def oV:Addr:=44
def cShut:Addr:=176
def uM:Addr:=188
def uL:Addr:=200
def rO:Addr:=224
def wt:Addr:=56
def qg:Addr:=68
def wq:Addr:=80
def nj:Addr:=212
def cNoWay:Addr:=243
def hV:Addr:=31
def a_put:Addr:=327
def wy:Addr:=334
def rR:Addr:=341
def wB:Addr:=348
def wA:Addr:=353
def wz:Addr:=360
def wx:Addr:=367
abbrev ju:List Addr:=[oV,wt,qg,wq,oU,uO,uN,pE,rO,zR,cFull,uK,cShut,uM,uL,nj,cNoWay]
section
variable (P:Program)(w:World)(K:PySem.W.Frag)(mg:Str->Option Value)(base:Heap)
abbrev c_box:Prop:=o3 P w K mg base "_law_box" 1 ["_law_script"] (yi K)
abbrev ng:Prop:=o3 P w K mg base "_law_take" 1 ["_law_box_here", "_law_many"] (gv fTake)
abbrev c_bars:Prop:=o3 P w K mg base "_law_bars" 2 ["_law_box_here", "_law_size"] (gv fBars)
abbrev c_same:Prop:=o3 P w K mg base "_law_same" 6 ["_law_found", "_law_due"] (gv fSame)
abbrev xU:Prop:=o3 P w K mg base "is_bars" 1 ["size", "text"] (gv rA)
abbrev c_joined:Prop:=o3 P w K mg base "joined" 1 ["one", "other", "place"] (gv uI)
abbrev jA:Prop:=o3 P w K mg base "with_key" 1 ["table", "key", "thing"] (gv fWith)
abbrev lN:Prop:=o3 P w K mg base "without_key" 1 ["table", "key"] (gv oH)
abbrev eX:Prop:=CalI P w K mg base "Stand" dq 1 ["self", "length", "made_of", "firsts", "closed"] (gv (uF dq))
abbrev fT:Prop:=nN P w K mg base dq "check_there" 1 ["self", "name"] (jt (vP dq ju))
abbrev jN:Prop:=nN P w K mg base dq "parts" 2 ["self", "name"] (jt (rl dq ju))
abbrev kL:Prop:=nN P w K mg base dq "source" 3 ["self", "name", "bar"] (jt (oI dq ju))
abbrev gQ:Prop:=wH P w K mg base dq "takes_by_names" 2 ["self"] (gv (rB dq))
abbrev ni:Prop:=nN P w K mg base dq "take" 3 ["self", "name"] (jt (vQ dq ju))
abbrev lO:Prop:=wH P w K mg base dq "shelf" 3 ["self"] (gv (uG dq))
abbrev oR:Prop:=rV P w K mg base "check_new" 1 ["stand", "name"] (jt (fNew dq ju))
abbrev oS:Prop:=rV P w K mg base "check_age" 1 ["age"] (jt (fAgeC ju))
abbrev jM:Prop:=rV P w K mg base "check_place" 1 ["stand", "place"] (jt (rk dq ju))
abbrev c_put:Prop:=rV P w K mg base "put" 6 ["stand", "row"] (jt (fW dq ju 0))
abbrev c_join:Prop:=rV P w K mg base "join" 6 ["stand", "row"] (jt (fW dq ju 1))
abbrev c_found:Prop:=rV P w K mg base "found" 6 ["stand", "row"] (jt (fW dq ju 2))
abbrev c_aged:Prop:=rV P w K mg base "aged" 6 ["stand", "row"] (jt (fW dq ju 3))
abbrev c_drop:Prop:=rV P w K mg base "drop" 6 ["stand", "row"] (jt (fW dq ju 4))
abbrev c_free:Prop:=rV P w K mg base "free" 6 ["stand", "row"] (jt (fW dq ju 5))
abbrev c_shut:Prop:=rV P w K mg base "shut" 6 ["stand", "row"] (jt (fW dq ju 6))
abbrev oQ:Prop:=rV P w K mg base "stand_behind" 7 ["stand", "row"] (jt (oM dq ju))
abbrev nK:Prop:=CalIX P w K mg base "Room" cRoom 3 ["self", "size"] (jt (rj cRoom dq ju))
abbrev gB:Prop:=wH P w K mg base cRoom "now" 1 ["self"] (gv (fNow cRoom dq))
abbrev tV:Prop:=nN P w K mg base cRoom "deed" 8 ["self", "row"] (jt (vU cRoom dq ju))
abbrev rN:Prop:=wH P w K mg base cRoom "deeds" 1 ["self"] (gv (zt cRoom dq true))
abbrev tU:Prop:=wH P w K mg base cRoom "size" 2 ["self"] (gv (iw cRoom dq gSize))
abbrev rM:Prop:=wH P w K mg base cRoom "names" 2 ["self"] (gv (iw cRoom dq gNames))
abbrev tX:Prop:=nN P w K mg base cRoom "bars" 5 ["self", "name"] (jt (jd cRoom dq ju gBars))
abbrev wm:Prop:=nN P w K mg base cRoom "age" 5 ["self", "name"] (jt (jd cRoom dq ju gAge))
abbrev rL:Prop:=nN P w K mg base cRoom "parts" 5 ["self", "name"] (jt (jd cRoom dq ju vL))
abbrev pT:Prop:=nN P w K mg base cRoom "source" 5 ["self", "name", "bar"] (jt (oJ cRoom dq ju))
abbrev tW:Prop:=wH P w K mg base cRoom "cuts" 5 ["self"] (gv (iw cRoom dq gCuts))
abbrev rK:Prop:=wH P w K mg base cRoom "takes" 5 ["self"] (gv (iw cRoom dq sE))
abbrev c_names:Prop:=o3 P w K mg base "_law_names" 2 ["_law_box_here", "_law_many"] (gv rp)
abbrev c_begun:Prop:=o3 P w K mg base "_law_begun" 5 ["_law_box_here", "_law_most"] (gv (zx cRoom dq))
abbrev rJ:Prop:=o3 P w K mg base "_law_origin" 1 ["_law_kept", "_law_name", "_law_bar"] (gv rm)
abbrev c_ages:Prop:=o3 P w K mg base "_law_ages" 1 ["_law_kept"] (gv vV)
abbrev c_heard:Prop:=o3 P w K mg base "_law_heard" 2 ["_law_state", "_law_name"] (gv vS)
abbrev c_takes:Prop:=o3 P w K mg base "_law_takes" 3 ["_law_state"] (gv rh)
abbrev c_open:Prop:=o3 P w K mg base "_law_open" 1 ["_law_state"] (gv vR)
abbrev c_done:Prop:=o3 P w K mg base "_law_done" 2 ["_law_state", "_law_deed"] (gv vT)
abbrev c_lone:Prop:=o3 P w K mg base "_law_lone" 1 ["_law_kept"] (gv fLone)
abbrev c_easy:Prop:=o3 P w K mg base "_law_easy" 3 ["_law_box_here", "_law_state", "_law_pool"] (gv fEasy)
abbrev c_stands:Prop:=o3 P w K mg base "_law_stands" 7 ["_law_room", "_law_state"] (gv (uE cRoom dq))
abbrev c_named:Prop:=o3 P w K mg base "_law_named" 1 ["_law_text"] (gv uH)
abbrev qe:Prop:=o3 P w K mg base "_law_new_word" 2 ["_law_state", "_law_name"] (gv rn)
abbrev nh:Prop:=o3 P w K mg base "_law_place_word" 1 ["_law_state", "_law_place"] (gv m5)
abbrev wg:Prop:=o3 P w K mg base "_law_put_word" 3 ["_law_state", "_law_deed"] (gv (iu w0))
abbrev tS:Prop:=o3 P w K mg base "_law_join_word" 3 ["_law_state", "_law_deed"] (gv (iu w1))
abbrev tR:Prop:=o3 P w K mg base "_law_take_word" 1 ["_law_state", "_law_deed"] (gv (iu w24))
abbrev c_word:Prop:=o3 P w K mg base "_law_word" 4 ["_law_state", "_law_deed"] (gv (iu wAll))
abbrev wj:Prop:=o3 P w K mg base "_law_any_name" 2 ["_law_box_here", "_law_state", "_law_pool"] (gv rC)
abbrev tT:Prop:=o3 P w K mg base "_law_bent_deed" 3 ["_law_box_here", "_law_state", "_law_pool", "_law_deed"] (gv zu)
abbrev c_wild:Prop:=o3 P w K mg base "_law_wild" 4 ["_law_box_here", "_law_state", "_law_pool"] (gv fWild)
abbrev c_kinds:Prop:=CalH P w K mg base "_law_kinds" 1 ["_law_e"] (rq K ju hV)
abbrev c_told:Prop:=o3 P w K mg base "_law_told" 9 ["_law_room", "_law_deed"] (gv (zp K ju hV cRoom dq))
end
section
variable {P:Program}{w:World}{K:PySem.W.Frag}{mg:Str->Option Value}{base:Heap}
theorem ok_box {f:Addr}{fd:FuncData}(F:gG K "_law_box" "_law_box" s_box f fd)(T:iI mg)  : d7 P w K mg base jr 1 f fd ["_law_script"] (yi K):=by
 refine F.ok sc_box (fun vs H Q E h=>?_) (fun fI A outer s H vs Q E hr h=>?_)
 ·unfold yi at h;split at h
  ·rfl
  ·exact h.elim
 ·unfold yi at h;split at h
  ·rename_i a
   obtain⟨ns,hs,k⟩:=h
   refine⟨_,(ja (lK (pe_lst (dQ (xC listC (by rfl) T.list bf (dQ (jo 0) fR)) (dQ fu (dQ fu (dQ fu fR))))))),?_⟩
   refine⟨_,hs,fun l hl=>?_⟩
   refine⟨(zs),fun b hb=>?_⟩
   have hlb:l≠b:=eJ (o:=.lst (ns.map V.int)) dH hb
   have hb0:H b=none:=by rw[dR hlb.symm]at hb;exact hb
   refine k b l _ ⟨ns,0,0,1,dH,by rw[dR hlb];exact dH,hlb,by decide,by decide,by decide⟩ hb0 hl fun c o e=>?_
   rw[dR (eJ e hb0),dR (eJ e hl)]
   exact e
  ·exact h.elim
theorem ok_take {f:Addr}{fd:FuncData}(F:gG K "_law_take" "_law_take" yC f fd)(T:iI mg)  : d7 P w K mg base jr 1 f fd ["_law_box_here", "_law_many"] (gv fTake):=by
 refine d7.imp (sp:=uh) ?_ fun vs H Q E h=>take_imp h
 refine F.ok qx (fun vs H Q E h=>?_) (fun fI A outer s H vs Q E hr h=>?_)
 ·obtain⟨b,n,q,rfl,_⟩:=sV h;rfl
 ·obtain⟨b,n,q,rfl,⟨ns,i,r,z,hb,hq,nqb,hi,hz,hz2⟩,hn,hn2,k⟩:=sV h
  refine⟨_,(fP (tj (lu gtC (oz ixC (jo 0) fu (fun _ _=>rfl)) fu (gz _))
   (fP (si (i:=2) qx.nd rfl (by first | exact Or.inl rfl | exact Or.inr rfl) (oz ixC (jo 0) fu (fun _ _=>rfl)))
   (fP (sj (iQ divC (jo 2) (jo 1)) (vi (jo 0) fu setC))
   (ja (lK (iQ zd (jo 2) (jo 1))))))
   lx)
   (fP (sj (iQ zd (iQ addC (iQ mulC (oz ixC (jo 0) fu (fun _ _=>rfl)) fu) fu) fu) (vi (jo 0) fu setC))
   (pss_cut (tj (lu ltC (oz ixC (jo 0) fu (fun _ _=>rfl)) (fh lenC (by rfl) T.len cF (dQ (oz ixC (jo 0) fu (fun _ _=>rfl)) fR)) (gz _))
   (fP (si (i:=3) qx.nd rfl (by first | exact Or.inl rfl | exact Or.inr rfl) (oz ixC (oz ixC (jo 0) fu (fun _ _=>rfl)) (oz ixC (jo 0) fu (fun _ _=>rfl)) (fun _ _=>rfl)))
   (fP (ps_augS (jo 0) fu getC fu ip_addC setC)
   (fP (tj (lu geC (jo 3) (iQ powC fu fu) (gz _))
   (fP (sj (iQ divC (jo 3) (jo 1)) (vi (jo 0) fu setC))
   (ja (lK (iQ zd (jo 3) (jo 1)))))
   lx)
   (ja (sj (iQ zd (iQ addC (oz ixC (jo 0) fu (fun _ _=>rfl)) (iQ mulC (jo 3) fu)) fu) (vi (jo 0) fu setC))))))
   lx)
   (fP (si (i:=4) qx.nd rfl (by first | exact Or.inl rfl | exact Or.inr rfl) (oz ixC (jo 0) fu (fun _ _=>rfl)))
   (fP (si (i:=5) qx.nd rfl (by first | exact Or.inl rfl | exact Or.inr rfl) (iQ zd (iQ addC (iQ mulC (jo 4) (jo 4)) (iQ divC (jo 4) fu)) fu))
   (ja (lK (iQ zd (iQ zd (iQ addC (iQ mulC (jo 5) fu) (jo 4)) fu) (jo 1))))))))),?_⟩
  have fin:∀(v:Int) (H':Hp) (i' r' z':Int),OB b H H'->H' b=some (.lst [.ref q,.int i',.int r',.int z'])->0<=i'->0<=z'->z'<2147483647->Q (.int (v%n)) H':=fun v H' i' r' z' ob hb' h1 h2 h3 =>
   k _ _ (Int.emod_nonneg _ (by omega)) (Int.emod_lt_of_pos _ hn) ⟨ns,i',r',z',hb',(ob q nqb).trans hq,nqb,h1,h2,h3⟩ ob
  have md:∀ x:Int,0<=x%2147483647/\x%2147483647<2147483647:=fun x=>⟨Int.emod_nonneg _ (by decide),Int.emod_lt_of_pos _ (by decide)⟩
  refine⟨_,.inl hb,?_⟩
  refine lZ (fun h1=>?_) (fun h1=>?_)
  ·refine⟨_,.inl hb,⟨hn,hn2⟩,_,hb,hn,?_⟩
   exact fin _ _ _ _ _ OB.refl.upd dH hi hz hz2
  ·refine⟨_,.inl hb,.inr ⟨by decide,by decide⟩,pM,_,hb,?_⟩
   have ob1:∀ o,OB b H (upd H b o):=fun o=>OB.refl.upd
   refine⟨fun fO H'=>∃(c:Option V) (i' r' z':Int),fO=[some (.ref b),some (.int n),none,c,none,none]/\OB b H H'/\H' b=some (.lst [.ref q,.int i',.int r',.int z'])/\0<=i'/\0<=z'/\z'<2147483647,?_,?_⟩
   ·refine⟨_,.inl dH,_,.inl dH,_,.inl ((ob1 _ q nqb).trans hq),?_⟩
    refine lZ (fun h2=>?_) (fun h2=>?_)
    ·have h2':i<(ns.length:Int):=by simpa using h2
     obtain⟨c,hc⟩:∃ c,ns[i.toNat]?=some c:=⟨ns[i.toNat]'(by omega),tL _⟩
     have e:qh (ns.map V.int) i=some (.int c):=by
      have q:=kj (xs:=ns.map V.int) (j:=i.toNat) (v:=.int c) (by rw[tK,hc];rfl)
      rwa [Int.toNat_of_nonneg hi]at q
     refine⟨_,.inl dH,_,.inl dH,_,.inl ((ob1 _ q nqb).trans hq),dj e ?_⟩
     refine⟨_,dH,by decide,_,dH,?_⟩
     refine⟨⟨by decide,by decide,by decide⟩,?_⟩
     refine lZ (fun h3=>?_) (fun h3=>?_)
     ·refine⟨⟨hn,hn2⟩,_,dH,hn,?_⟩
      exact fin _ _ (i+1) _ _ OB.refl.upd.upd.upd dH (by omega) (md _).1 (md _).2
     ·refine⟨_,.inl dH,.inr ⟨by decide,by decide⟩,pM,_,dH,?_⟩
      exact⟨_,i+1,_,_,rfl,OB.refl.upd.upd.upd,dH,by omega,(md _).1,(md _).2⟩
    ·exact⟨_,i,_,_,rfl,OB.refl.upd,dH,hi,(md _).1,(md _).2⟩
   ·rintro fO H' ⟨c,i',r',z',rfl,ob,hb',h1,h2,h3⟩
    refine⟨_,.inl hb',.inl ⟨by omega,by omega⟩,⟨by decide,by decide⟩,pN,.inr ⟨by decide,by decide⟩,pM,hn,?_⟩
    exact fin _ _ i' _ _ ob hb' h1 h2 h3
theorem sL {μ:MS}{n:Nat}{it:D->MS->(Option D->MS->Prop)->Prop}{K:DK}(hn:n<=1000)(hit:∀(d:D) (K':Option D->MS->Prop),(∀ c:Nat,(c=111\/c=120)->K' (some (.str ⟨#[c]⟩)) μ)->it d μ K')(k:∀ l:List Nat,l.length=n->OX l->K (.str (txt l)) μ) :
 rH it (fun _=>True) (kg 0 n) μ fun ys eW=>nL false ys eW fun x nO=>fJoin (.str (Str.ofString "")) [x] nO K:=by
 refine pC (fun c:Nat=>D.str ⟨#[c]⟩) (fun c=>c=111\/c=120) trivial (fun d hd K' k'=>hit d K' k') fun l hl ho=>?_
 rw[gY]at hl
 refine⟨rfl,l.map (fun c=>⟨#[c]⟩),by unfold lv;rw[aC];rfl,by rw[o7];omega,?_⟩
 rw[m3]
 exact k l hl fun c hc=>ho c hc
theorem inv_bars {ds:List D}{μ:MS}{Kd:DK}(h:fBars ds μ Kd):∃ v0 v1,ds=[.mr v0,.int v1]:=by
 unfold fBars at h
 rcases ds with _ | ⟨z0,ds⟩
 ·exact False.elim h
 cases z0 <;> first | exact False.elim h | skip
 rcases ds with _ | ⟨z1,ds⟩
 ·exact False.elim h
 cases z1 <;> first | exact False.elim h | skip
 rcases ds with _ | ⟨zz,zs⟩
 ·exact⟨_,_,rfl⟩
 ·exact False.elim h
theorem ok_bars {f:Addr}{fd:FuncData}(F:gG K "_law_bars" "_law_bars" yL f fd)(T:iI mg)(eA:ng P w K mg base):d7 P w K mg base jr 2 f fd ["_law_box_here", "_law_size"] (gv fBars):=by
 refine F.nT mI (fun ds μ Kd h=>by obtain⟨_,_,rfl⟩:=inv_bars h;rfl) (fun fI A outer s H E hr=>⟨_,(dk (qS 2 mI.nd (qC eA hr (a2 (dv 0) dg)))
  (dk (fw (mQ (dv 2) dg)
  (dr (dP (zE bC b7 bZ joinC qv du (a1 (dC1 false (Ah (N:=["_law_k", "_law_box_here"]) (js:=[none,some 0]) mI (by decide +kernel)) (iC rfl T.range (a1 (dv 1))) (fun _ _ _ nd=>(qN 0 nd)) (fun _ _ _=>jW) (fun _ _ _=>(eQ du (qC eA hr (a2 (dv 1) dg)))))))))
  eM)
  (dk (fw (mQ (dv 2) dg)
  (dr (dP (zE bC b7 bZ joinC qv du (a1 (dC1 false (Ah (N:=["_law_k", "_law_box_here"]) (js:=[none,some 0]) mI (by decide +kernel)) (iC rfl T.range (a1 (dv 1))) (fun _ _ _ nd=>(qN 0 nd)) (fun _ _ _=>jW) (fun _ _ _=>(eQ du (qC eA hr (a2 (dv 1) dg)))))))))
  eM)
  (dk (fw (mQ (dv 2) dg)
  (dk (qS 3 mI.nd (qC eA hr (a2 (dv 0) (dv 1))))
  (dk (qS 4 mI.nd (nU (nU (dv 3) dg) (qC eA hr (a2 (dv 0) (dMi (dv 1) (dv 3))))))
  (dr (dP (nU (nU (rD mulC uX du (dv 3)) (rD mulC uX du (dMi (dv 4) (dv 3)))) (rD mulC uX du (dMi (dv 1) (dv 4))))))))
  eM)
  (dk (fw (mQ (dv 2) dg)
  (dr (dP (zE bC b7 bZ joinC qv du (a1 (dC1 false (Ah (N:=["_law_k", "_law_box_here"]) (js:=[none,some 0]) mI (by decide +kernel)) (iC rfl T.range (a1 (dv 1))) (fun _ _ _ nd=>(qN 0 nd)) (fun _ _ _=>jW) (fun _ _ _=>(eQ du (qC eA hr (a2 (dv 1) dg)))))))))
  eM)
  (dr (dP (rD mulC uX (eQ du (qC eA hr (a2 (dv 0) dg))) (dv 1))))))))),fun ds μ Kd hm hl h=>?_⟩)
 obtain⟨k,n,rfl⟩:=inv_bars h
 unfold fBars at h
 ·skip
  obtain⟨hb,h1,h2,kk⟩:=h
  refine⟨hb,by decide,by decide,fun v v0 v1=>?_⟩
  refine vF (fun hv=>?_) (fun hv=>?_)
  ·refine⟨rfl,by omega,by omega,sz (by rw[gY];omega),?_⟩
   refine sL (n:=n.toNat) (by omega) (fun d K' k'=>?_) fun l hl ho=>.keep (kk l hl ho)
   refine⟨hb,by decide,by decide,fun v v0 v1=>⟨by decide,?_⟩⟩
   obtain⟨c,e,hc⟩:=wu (l:=(Str.ofString "ox").cps.toList) v0 v1
   exact dj e (k' c ((OX.of (l:=(Str.ofString "ox").cps.toList) (by decide +kernel)) c hc))
  refine vF (fun hv=>?_) (fun hv=>?_)
  ·refine⟨rfl,by omega,by omega,sz (by rw[gY];omega),?_⟩
   refine sL (n:=n.toNat) (by omega) (fun d K' k'=>?_) fun l hl ho=>.keep (kk l hl ho)
   refine⟨hb,by decide,by decide,fun v v0 v1=>⟨by decide,?_⟩⟩
   obtain⟨c,e,hc⟩:=wu (l:=(Str.ofString "ooooox").cps.toList) v0 v1
   exact dj e (k' c ((OX.of (l:=(Str.ofString "ooooox").cps.toList) (by decide +kernel)) c hc))
  refine vF (fun hv=>?_) (fun hv=>?_)
  ·refine⟨hb,by omega,by omega,fun p p0 p1=>⟨hb,by omega,by omega,fun g g0 g1=>?_⟩⟩
   refine⟨120,rfl,by omega,by omega,111,rfl,by omega,by omega,?_,120,rfl,by omega,by omega,?_,?_⟩
   ·rw[lenS,lenS,aM,aM];exact sz (by omega)
   ·rw[nk,lenS,lenS,kH,aM,aM,aM];exact sz (by omega)
   rw[nk,nk]
   refine .keep (kk _ ?_ (((OX.rep (.inr rfl)).app (OX.rep (.inl rfl))).app (OX.rep (.inr rfl))))
   rw[kH,kH,aM,aM,aM];omega
  refine vF (fun hv=>?_) (fun hv=>?_)
  ·refine⟨rfl,by omega,by omega,sz (by rw[gY];omega),?_⟩
   refine sL (n:=n.toNat) (by omega) (fun d K' k'=>?_) fun l hl ho=>.keep (kk l hl ho)
   refine⟨hb,by decide,by decide,fun v v0 v1=>⟨by decide,?_⟩⟩
   obtain⟨c,e,hc⟩:=wu (l:=(Str.ofString "xxxo").cps.toList) v0 v1
   exact dj e (k' c ((OX.of (l:=(Str.ofString "xxxo").cps.toList) (by decide +kernel)) c hc))
  refine⟨hb,by decide,by decide,fun p p0 p1=>⟨by decide,?_⟩⟩
  obtain⟨c,e,hc⟩:=wu (l:=(Str.ofString "ox").cps.toList) p0 p1
  exact dj e ⟨c,rfl,by omega,by omega,.keep (kk _ (aM ..) (OX.rep ((OX.of (l:=(Str.ofString "ox").cps.toList) (by decide +kernel)) c hc)))⟩
theorem ok_same1 (n:Nat){f:Addr}{fd:FuncData}(F:gG K "_law_same" "_law_same" s_same f fd)(T:iI mg)(jY:o3 P w K mg base "_law_same" n ["_law_found", "_law_due"] (spS n)):d7 P w K mg base jr (n+1) f fd ["_law_found", "_law_due"] (r0 n):=by
 refine F.ok sc_same (fun vs H Q E h=>?_) (fun fI A outer s H vs Q E hr h=>?_)
 ·unfold r0 at h;split at h
  ·rfl
  ·exact h.elim
 ·unfold r0 at h;split at h
  ·rename_i x y
   obtain⟨d,hd,hw,hx,hy,k⟩:=h
   refine⟨_,(fP (tj (PW.pt (pw_or (qJ (fh qU (by rfl) T.isinstance aF (dQ (jo 1) (dQ (gO (v:=.ty "bool") rfl T.bool cu rfl) fR)))) (pw_or1 (qJ (fh qU (by rfl) T.isinstance aF (dQ (jo 0) (dQ (gO (v:=.ty "bool") rfl T.bool cu rfl) fR)))))))
   (ja (lK (ux (fh qU (by rfl) T.isinstance aF (dQ (jo 1) (dQ (gO (v:=.ty "bool") rfl T.bool cu rfl) fR))) (ux (fh qU (by rfl) T.isinstance aF (dQ (jo 0) (dQ (gO (v:=.ty "bool") rfl T.bool cu rfl) fR))) (pe_one (qK eqN (jo 0) (jo 1) (gz _)))))))
   lx)
   (fP (tj (PW.pt (pw_or (qJ (fh qU (by rfl) T.isinstance aF (dQ (jo 1) (dQ (gO (v:=.ty "list") rfl T.list bf rfl) fR)))) (pw_or1 (qJ (fh qU (by rfl) T.isinstance aF (dQ (jo 1) (dQ (gO (v:=.ty "tuple") rfl T.tuple c6 rfl) fR)))))))
   (fP (tj (PW.pt (pw_or (lu Af (fh qU (by rfl) T.isinstance aF (dQ (jo 1) (dQ (gO (v:=.ty "list") rfl T.list bf rfl) fR))) (fh qU (by rfl) T.isinstance aF (dQ (jo 0) (dQ (gO (v:=.ty "list") rfl T.list bf rfl) fR))) (gz _)) (pw_or1 (lu Af (fh qU (by rfl) T.isinstance aF (dQ (jo 1) (dQ (gO (v:=.ty "tuple") rfl T.tuple c6 rfl) fR))) (fh qU (by rfl) T.isinstance aF (dQ (jo 0) (dQ (gO (v:=.ty "tuple") rfl T.tuple c6 rfl) fR))) (gz _)))))
   (ja (lK pe_bl))
   lx)
   (ja (lK (ux (qK eqC (fh lenC (by rfl) T.len cF (dQ (jo 0) fR)) (fh lenC (by rfl) T.len cF (dQ (jo 1) fR)) (gz _)) (pe_one (fh (allC rfl) (by rfl) T.all PyProof.Rows.boot_all (dQ (pe_comp (compOk (XN:=["_law_found", "_law_due"]) (xsc:=(dn s_same)) (N:=["_law_one", "_law_other"]) (js:=[none,none]) (by decide +kernel)) rfl (pi_zip rfl T.zip (dQ (jo 0) (dQ (jo 1) fR))) (fun _ _ _=>(fJ (n:=2) rfl (dt (uw (i:=0) (show List.Nodup (["_law_one", "_law_other"]:List Str) by decide +kernel) rfl (by first | exact Or.inl rfl | exact Or.inr rfl)) (dt (uw (i:=1) (show List.Nodup (["_law_one", "_law_other"]:List Str) by decide +kernel) rfl (by first | exact Or.inl rfl | exact Or.inr rfl)) fb)))) (fun _ _ _=>pts_nil) (fun _ _ _=>(vj jY (hr.mono (by first | decide | exact aa _ | omega)) rfl (dQ (jo 0) (dQ (jo 1) fR))))) fR)))))))
   lx)
   (fP (tj (PW.pt (pw_or (lu Af (fh qU (by rfl) T.isinstance aF (dQ (jo 1) (dQ (gO (v:=.ty "str") rfl T.str PyProof.Rows.boot_str rfl) fR))) (fh qU (by rfl) T.isinstance aF (dQ (jo 0) (dQ (gO (v:=.ty "str") rfl T.str PyProof.Rows.boot_str rfl) fR))) (gz _)) (pw_or1 (lu Af (fh qU (by rfl) T.isinstance aF (dQ (jo 1) (dQ (gO (v:=.ty "int") rfl T.int PyProof.Rows.boot_int rfl) fR))) (fh qU (by rfl) T.isinstance aF (dQ (jo 0) (dQ (gO (v:=.ty "int") rfl T.int PyProof.Rows.boot_int rfl) fR))) (gz _)))))
   (ja (lK pe_bl))
   lx)
   (ja (lK (qK eqN (jo 0) (jo 1) (gz _))))))),?_⟩
   cases d with
   | bl b =>
    obtain rfl:x=.bl b:=hx
    obtain rfl:y=.bl b:=hy
    refine⟨_,true,iE.bl b,gI K _,_,true,iE.bl b,gI K _,_,true,iE.bl b,gI K _,?_⟩
    show Q (.bl (decide (b=b))) H
    rw[af rfl]
    exact k H (gd.refl H)
   | int i =>
    obtain rfl:x=.int i:=hx
    obtain rfl:y=.int i:=hy
    refine⟨_,false,.int i,rfl,_,false,.int i,rfl,_,false,.int i,rfl,_,false,.int i,rfl,_,false,.int i,rfl,_,false,.int i,rfl,_,true,.int i,gI K _,_,true,.int i,gI K _,?_⟩
    show Q (.bl (decide (i=i))) H
    rw[af rfl]
    exact k H (gd.refl H)
   | str z =>
    obtain rfl:x=.str z:=hx
    obtain rfl:y=.str z:=hy
    refine⟨_,false,.str z,rfl,_,false,.str z,rfl,_,false,.str z,rfl,_,false,.str z,rfl,_,true,.str z,gI K _,_,true,.str z,gI K _,_,false,.str z,rfl,_,false,.str z,rfl,?_⟩
    show Q (.bl (decide (z=z))) H
    rw[af rfl]
    exact k H (gd.refl H)
   | fH =>
    obtain rfl:x=.fH:=hx
    obtain rfl:y=.fH:=hy
    refine⟨_,false,.fH,rfl,_,false,.fH,rfl,_,false,.fH,rfl,_,false,.fH,rfl,_,false,.fH,rfl,_,false,.fH,rfl,_,false,.fH,rfl,_,false,.fH,rfl,?_⟩
    exact k H (gd.refl H)
   | lst ds =>
    obtain⟨p,vs,rfl,hp,qp⟩:=hx
    obtain⟨q,ws,rfl,hq,qq⟩:=hy
    obtain⟨m,rfl⟩:∃ m,n=m+1:=⟨n - 1,by unfold dep at hd;omega⟩
    have hd':xl ds<=m:=by unfold dep at hd;omega
    have hw1:ds.length<sizeLine:=by unfold wid at hw;omega
    have hw2:wN ds<sizeLine:=by unfold wid at hw;omega
    have len:vs.length=ws.length:=by rw[qp.len,qq.len]
    refine⟨_,false,iE.lst hq,rfl,_,false,iE.lst hp,rfl,_,true,iE.lst hq,gI K _,_,true,iE.lst hq,gI K _,_,true,iE.lst hp,gI K _,_,false,iE.lst hq,rfl,_,false,iE.lst hp,rfl,?_⟩
    refine⟨_,.inl hp,_,.inl hq,?_⟩
    refine vF (fun _=>?_) (fun h=>(h (by rw[len])).elim)
    refine⟨false,_,_,hp,hq,?_⟩
    refine compZip len (fun i ys H'=>ys=List.replicate i (V.bl true)/\gd H H') ⟨rfl,gd.refl H⟩ (fun i ys H' h=>⟨h.2 _ _ hp,h.2 _ _ hq⟩) ?_ ?_
    ·rintro i x' y' ys H' T' hi ex ey ⟨rfl,S⟩ hT
     refine⟨_,dH,rfl,Ext.own2,?_⟩
     obtain⟨d1,e1,i1⟩:=qp.get ex
     obtain⟨d2,e2,i2⟩:=qq.get ey
     rw[e1]at e2;cases e2
     have S2:gd H (upd H' T' (.tup [x',y'])):=S.trans (gd.upd hT)
     refine⟨d1,ar (vX e1) hd',bX (uQ e1) hw2,i1.mono S2 _ _,i2.mono S2 _ _,fun H3 S3=>?_⟩
     exact cnx hi (by rw[aM];have:=qp.len;omega) ⟨by rw[List.replicate_succ'],S2.trans S3⟩
    ·rintro ys H' ⟨rfl,S⟩ D hD
     refine⟨List.replicate vs.length true,by rw[dH,List.map_replicate],?_⟩
     have e:(List.replicate vs.length true).all id=true:=by rw[cn];intro b hb;rw[(List.mem_replicate.mp hb).2];rfl
     show Q (.bl ((List.replicate vs.length true).all id)) (upd H' D (.lst (List.replicate vs.length (V.bl true))))
     rw[e]
     exact k _ (S.trans (gd.upd hD))
   | tup ds =>
    obtain⟨p,vs,rfl,hp,qp⟩:=hx
    obtain⟨q,ws,rfl,hq,qq⟩:=hy
    obtain⟨m,rfl⟩:∃ m,n=m+1:=⟨n - 1,by unfold dep at hd;omega⟩
    have hd':xl ds<=m:=by unfold dep at hd;omega
    have hw1:ds.length<sizeLine:=by unfold wid at hw;omega
    have hw2:wN ds<sizeLine:=by unfold wid at hw;omega
    have len:vs.length=ws.length:=by rw[qp.len,qq.len]
    refine⟨_,false,iE.tup hq,rfl,_,false,iE.tup hp,rfl,_,false,iE.tup hq,rfl,_,true,iE.tup hq,gI K _,_,false,iE.tup hq,rfl,_,false,iE.tup hp,rfl,_,true,iE.tup hq,gI K _,_,true,iE.tup hp,gI K _,?_⟩
    refine⟨_,.inr hp,_,.inr hq,?_⟩
    refine vF (fun _=>?_) (fun h=>(h (by rw[len])).elim)
    refine⟨true,_,_,hp,hq,?_⟩
    refine compZip len (fun i ys H'=>ys=List.replicate i (V.bl true)/\gd H H') ⟨rfl,gd.refl H⟩ (fun i ys H' h=>⟨h.2 _ _ hp,h.2 _ _ hq⟩) ?_ ?_
    ·rintro i x' y' ys H' T' hi ex ey ⟨rfl,S⟩ hT
     refine⟨_,dH,rfl,Ext.own2,?_⟩
     obtain⟨d1,e1,i1⟩:=qp.get ex
     obtain⟨d2,e2,i2⟩:=qq.get ey
     rw[e1]at e2;cases e2
     have S2:gd H (upd H' T' (.tup [x',y'])):=S.trans (gd.upd hT)
     refine⟨d1,ar (vX e1) hd',bX (uQ e1) hw2,i1.mono S2 _ _,i2.mono S2 _ _,fun H3 S3=>?_⟩
     exact cnx hi (by rw[aM];have:=qp.len;omega) ⟨by rw[List.replicate_succ'],S2.trans S3⟩
    ·rintro ys H' ⟨rfl,S⟩ D hD
     refine⟨List.replicate vs.length true,by rw[dH,List.map_replicate],?_⟩
     have e:(List.replicate vs.length true).all id=true:=by rw[cn];intro b hb;rw[(List.mem_replicate.mp hb).2];rfl
     show Q (.bl ((List.replicate vs.length true).all id)) (upd H' D (.lst (List.replicate vs.length (V.bl true))))
     rw[e]
     exact k _ (S.trans (gd.upd hD))
  ·exact h.elim
theorem ok_same {f:Addr}{fd:FuncData}(F:gG K "_law_same" "_law_same" s_same f fd)(T:iI mg)(hm:mg "_law_same"=some (.ref f))(hk:PySem.W.keepIn K (.ref f)=true)(hb:Binds K fd ["_law_found", "_law_due"] []):∀ n,d7 P w K mg base jr (n+1) f fd ["_law_found", "_law_due"] (r0 n)
 | 0=>ok_same1 0 F T ⟨f,fd,⟨fun _ _ _ _ h=>h.elim,fun _ _ _ _ _ _ _ _ _ _ _ _ _ h=>h.elim⟩,hm,hk,hb⟩
 | n+1=>ok_same1 (n+1) F T ⟨f,fd,ok_same F T hm hk hb n,hm,hk,hb⟩
theorem ok_joined {f:Addr}{fd:FuncData}(F:gG K "joined" "joined" qH f fd)(T:iI mg)  : d7 P w K mg base jr 1 f fd ["one", "other", "place"] (gv uI):=by
 refine F.nT kn (fun ds μ Kd h=>by unfold uI at h;split at h <;> first | rfl | exact h.elim) (fun fI A outer s H E hr=>⟨_,(dk (i7 (dv 0) ⟨(fJ (n:=2) rfl (dt (qN 3 kn.nd) (dt (qN 4 kn.nd) fb))),(gw (dG (dD 3) (de 3) (dG (dD 4) (de 4) gy dA) (dm (de 4) dA))),(gA (dm (de 3) (dm (de 4) dA)))⟩)
  (dk (i7 (dv 1) ⟨(fJ (n:=2) rfl (dt (qN 5 kn.nd) (dt (qN 6 kn.nd) fb))),(gw (dG (dD 5) (de 5) (dG (dD 6) (de 6) gy dA) (dm (de 6) dA))),(gA (dm (de 5) (dm (de 6) dA)))⟩)
  (dk (qS 7 kn.nd (pS (maxC rfl) so_max (by rfl) T.max PyProof.Rows.boot_max (a2 (dv 2) dg)))
  (dr (dP (gu (a2 (nU (jI false (dv 3) qM (ir (dv 7))) (jI false (dv 5) (ir (dv 7)) qM)) (nU (pS (maxC rfl) so_max (by rfl) T.max PyProof.Rows.boot_max (a2 (dv 4) (dv 6))) dg)))))))),fun ds μ Kd hm hl h=>?_⟩)
 unfold uI at h
 split at h
 ·rename_i z a y b p
  obtain⟨x,u,rfl,rfl,rfl,rfl,hp,hx,hu,kk⟩:=h
  have lz1:(txt x.1).length<=sizeLine:=by rw[kT];exact sz (by omega)
  have lz2:(txt u.1).length<=sizeLine:=by rw[kT];exact sz (by omega)
  have c1:=m8 x.1 none (some (max p 0))
  have c2:=m8 u.1 (some (max p 0)) none
  refine⟨rfl,rfl,lz1,lz2,?_,zs,.keep ?_⟩
  ·show(txt (gi x.1 none (some (max p 0)))).length+(txt (gi u.1 (some (max p 0)) none)).length<=sizeLine
   rw[kT,kT];exact sz (by omega)
  ·show Kd (.tup [.str (txt (gi x.1 none (some (max p 0)))++txt (gi u.1 (some (max p 0)) none)),.int (max x.2 u.2+1)]) μ
   rw[show max p 0=p by omega,nk,zL hp,sJ hp]
   exact kk
 ·exact h.elim
theorem tF {ds:List D}{μ:MS}{Kd:DK}(h:rA ds μ Kd):∃ v0 v1,ds=[.int v0,.str v1]:=by
 unfold rA at h
 rcases ds with _ | ⟨z0,ds⟩
 ·exact False.elim h
 cases z0 <;> first | exact False.elim h | skip
 rcases ds with _ | ⟨z1,ds⟩
 ·exact False.elim h
 cases z1 <;> first | exact False.elim h | skip
 rcases ds with _ | ⟨zz,zs⟩
 ·exact⟨_,_,rfl⟩
 ·exact False.elim h
theorem ok_is_bars {f:Addr}{fd:FuncData}(F:gG K "is_bars" "is_bars" pf f fd)(T:iI mg)  : d7 P w K mg base jr 1 f fd ["size", "text"] (gv rA):=by
 refine F.nT sc_is_bars (fun ds μ Kd h=>by obtain⟨_,_,rfl⟩:=tF h;rfl) (fun fI A outer s H E hr=>⟨_,(dr (dP (d_and (tN eqC uY (xm T (dv 1)) (dv 0) (gz _)) (d_one (tN eqC uY (nU (zE bC PySem.F.slot_str_count PySem.F.type_str_count countC so_count (dv 1) (a1 du)) (zE bC PySem.F.slot_str_count PySem.F.type_str_count countC so_count (dv 1) (a1 du))) (dv 0) (gz _)))))),fun ds μ Kd hm hl h=>?_⟩)
 obtain⟨n,z,rfl⟩:=tF h
 unfold rA at h
 ·skip
  obtain⟨hz,kk⟩:=h
  refine⟨sz (by omega),?_⟩
  have ox:(((z.cps.toList.count 111:Nat):Int)+((z.cps.toList.count 120:Nat):Int)=n/\((z.length:Nat):Int)=n)↔(((z.length:Nat):Int)=n/\Ae z=true):=by
   have:=cnt_ox z.cps.toList
   have lz:z.length=z.cps.toList.length:=(bW (xs:=z.cps)).symm
   constructor
   ·rintro⟨h1,h2⟩;exact⟨h2,this.mp (by omega)⟩
   ·rintro⟨h1,h2⟩;have:=this.mpr h2;exact⟨by omega,h1⟩
  refine vF (c:=((z.length:Nat):Int)=n) (fun e=>?_) (fun e=>?_)
  ·refine⟨rfl,111,rfl,rfl,120,rfl,?_⟩
   have:decide (((z.length:Nat):Int)=n/\Ae z=true)=decide (((z.cps.toList.count 111:Nat):Int)+((z.cps.toList.count 120:Nat):Int)=n):=by
    by_cases q:((z.cps.toList.count 111:Nat):Int)+((z.cps.toList.count 120:Nat):Int)=n
    ·rw[af q,af (ox.mp ⟨q,e⟩)]
    ·rw[ak q,ak fun y=>q (ox.mpr y).1]
   rw[this]at kk
   show Fz _ Kd (.bl (false != decide (((z.cps.toList.count 111:Nat):Int)+((z.cps.toList.count 120:Nat):Int)=n))) μ
   rw[fne]
   exact .keep kk
  ·rw[ak (fun y=>e y.1)]at kk
   exact .keep kk
theorem qV {ds:List D}{μ:MS}{Kd:DK}(h:fWith ds μ Kd):∃ v0 v1 v2 v3,ds=[.kK v0 v1,v2,v3]:=by
 unfold fWith at h
 rcases ds with _ | ⟨z0,ds⟩
 ·exact False.elim h
 cases z0 <;> first | exact False.elim h | skip
 rcases ds with _ | ⟨z1,ds⟩
 ·exact False.elim h
 rcases ds with _ | ⟨z2,ds⟩
 ·exact False.elim h
 rcases ds with _ | ⟨zz,zs⟩
 ·exact⟨_,_,_,_,rfl⟩
 ·exact False.elim h
theorem ok_with_key {f:Addr}{fd:FuncData}(F:gG K "with_key" "with_key" mJ f fd)(T:iI mg)  : d7 P w K mg base jr 1 f fd ["table", "key", "thing"] (gv fWith):=by
 refine F.nT sW (fun ds μ Kd h=>by obtain⟨_,_,_,_,rfl⟩:=qV h;rfl) (fun fI A outer s H E hr=>⟨_,(dk (qS 3 sW.nd (d_ty dictC uZ (by rfl) T.dict c8 (a1 (dv 0))))
  (dk (iZ (fe hr) (dv 2) (dv 3) (dv 1))
  (dr (dP (vZ (dv 3)))))),fun ds μ Kd hm hl h=>?_⟩)
 obtain⟨ks,es,y,v,rfl⟩:=qV h
 unfold fWith at h
 ·skip
  obtain⟨kd,k,rfl,rfl,hl2,hk,kk⟩:=h
  refine dj rfl ?_
  refine⟨kd,dput kd k v,fc,bX hl2 (by decide),by rw[hk];rfl,?_⟩
  rw[fM]
  refine⟨_,_,fc,fun o kvs hks=>?_⟩
  rw[fM]
  refine Fz.kK (aa _) fc (mU hl.1 hl.2.2.1) (gm hm) ?_
  rw[aU,hks]
  exact kk
theorem nJ {ds:List D}{μ:MS}{Kd:DK}(h:oH ds μ Kd):∃ v0 v1 v2,ds=[.kK v0 v1,v2]:=by
 unfold oH at h
 rcases ds with _ | ⟨z0,ds⟩
 ·exact False.elim h
 cases z0 <;> first | exact False.elim h | skip
 rcases ds with _ | ⟨z1,ds⟩
 ·exact False.elim h
 rcases ds with _ | ⟨zz,zs⟩
 ·exact⟨_,_,_,rfl⟩
 ·exact False.elim h
theorem vm {f:Addr}{fd:FuncData}(F:gG K "without_key" "without_key" jD f fd)(T:iI mg)  : d7 P w K mg base jr 1 f fd ["table", "key"] (gv oH):=by
 refine F.nT ot (fun ds μ Kd h=>by obtain⟨_,_,_,rfl⟩:=nJ h;rfl) (fun fI A outer s H E hr=>⟨_,(dr (dP (vZ (d_compM (Ah (N:=["other", "thing", "key"]) (js:=[none,none,some 1]) ot (by decide +kernel)) rfl (gw (dG (dD 0) (de 0) (dG (dD 1) (de 1) gy dA) (dm (de 1) dA))) (gA (dm (de 0) (dm (de 1) dA))) rfl (i_itemsF (dv 0)) (fun _ _ _=>(fJ (n:=2) rfl (dt (qN 0 (show List.Nodup (["other", "thing", "key"]:List Str) by decide +kernel)) (dt (qN 1 (show List.Nodup (["other", "thing", "key"]:List Str) by decide +kernel)) fb)))) (fun _ _ _=>(rX (qNe (dv 0) (dv 2)))) (fun _ _ _=>(dv 0)) (fun _ _ _=>(dv 1)))))),fun ds μ Kd hm hl h=>?_⟩)
 obtain⟨ks,es,y,rfl⟩:=nJ h
 unfold oH at h
 ·skip
  obtain⟨kd,k,rfl,rfl,hl2,nd,hk,hs,kk⟩:=h
  intro hlen
  rw[xG]
  refine⟨by rw[fg];exact sz (by omega),?_⟩
  refine lM (fun p=>decide (p.1≠k)) kd [] _ nd (fun p hp μ' K' k'=>?_) ?_
  ·refine⟨rfl,?_⟩
   rcases hs p hp with⟨i,j,e1,rfl⟩ | ⟨i,j,e1,rfl⟩
   ·obtain⟨pk,pv⟩:=p
    cases e1
    cases y with
    | int y =>
     cases hk
     refine iteDn (c:=i=j) (fun q=>?_) (fun q=>?_)
     ·have k':K' (if decide (jR i≠jR j)=true then some (jR i,pv)else none) μ':=k'
      rw[af (show jR i≠jR j from fun z=>q (hG _ _ z))]at k';exact k'
     ·have k':K' (if decide (jR i≠jR j)=true then some (jR i,pv)else none) μ':=k'
      rw[ak (show ¬ jR i≠jR j from fun z=>z (by rw[q]))]at k';exact k'
    | _=>cases hk
   ·obtain⟨pk,pv⟩:=p
    cases e1
    cases y with
    | str y =>
     cases hk
     refine iteDn (c:=i=j) (fun q=>?_) (fun q=>?_)
     ·have k':K' (if decide (dX i≠dX j)=true then some (dX i,pv)else none) μ':=k'
      rw[af (show dX i≠dX j from fun z=>q (dE _ _ z))]at k';exact k'
     ·have k':K' (if decide (dX i≠dX j)=true then some (dX i,pv)else none) μ':=k'
      rw[ak (show ¬ dX i≠dX j from fun z=>z (by rw[q]))]at k';exact k'
    | _=>cases hk
  ·refine⟨_,_,fc,fun o kvs hks=>?_⟩
   rw[fM]
   refine Fz.kK (aa _) fc (jw fun d hd=>?_) (gm hm) ?_
   ·obtain⟨p,hp,rfl⟩:=List.mem_map.mp hd
    exact uz hl.1 (List.mem_map.mpr ⟨p,(List.mem_filter.mp hp).1,rfl⟩)
   ·rw[aU,hks]
    exact kk
theorem qL {f:Addr}{fd:FuncData}(F:gG K "__init__" "Stand.__init__" ib f fd)(T:iI mg)(df:fS K dq):d7 P w K mg base jr 1 f fd ["self", "length", "made_of", "firsts", "closed"] (gv (uF dq)):=by
 refine F.nT qD (fun ds μ Kd h=>by unfold uF at h;split at h <;> first | rfl | exact h.elim) (fun fI A outer s H E hr=>⟨_,(dk (ve df.cl df.gq (dv 1) (dv 0))
  (dk (ve df.cl df.fG (dv 2) (dv 0))
  (dk (ve df.cl df.g9 (dv 3) (dv 0))
  (dr (ve df.cl df.iB (dv 4) (dv 0)))))),fun ds μ Kd hm hl h=>?_⟩)
 unfold uF at h
 split at h
 ·rename_i k n a b c
  obtain⟨em,kk⟩:=h
  have hk:k<μ.length:=(lE em).1
  have st:∀ ns ds,(μ.set k (.ins dq ns ds))[k]?=some (.ins dq ns ds):=fun ns ds=>az hk
  refine⟨_,_,fF em,rfl,by decide,?_⟩
  refine⟨_,_,fF (st _ _),rfl,by show 1<1000;decide,?_⟩
  rw[c9]
  refine⟨_,_,fF (st _ _),rfl,by show 2<1000;decide,?_⟩
  rw[c9]
  refine⟨_,_,fF (st _ _),rfl,by show 3<1000;decide,?_⟩
  rw[c9]
  exact .keep kk
 ·exact h.elim
theorem oB {f:Addr}{fd:FuncData}(F:gG K "check_there" "Stand.check_there" gE f fd)(T:iI mg)(df:fS K dq)(mj:OwnCls "NoTake" uK mC "ValueError.__new__" mg base):d7 P w K mg base (mB P w) 1 f fd ["self", "name"] (jt (vP dq ju)):=by
 refine F.xg ow (fun ds μ Kd Kx h=>fThere_len h) (fun fI A outer s H E hr eI Kb Z=>⟨_,(dr (fw (jQ (fe hr) (dv 1) (eG df.cl df.fG (dv 0)) (by with_unfolding_all rfl))
  (dr (ia Z rfl mj ai (by decide) ai rfl (a1 du)))
  eM)),fun ds μ m Kd Kx hm hl em h hK=>?_⟩)
 unfold vP at h
 split at h
 ·rename_i x nm
  obtain⟨_,S,rfl,kk⟩:=h
  refine⟨rfl,_,rfl,_,gr dE lT nm S.kept rfl,?_⟩
  cases e:dw S.kept nm with
  | none=>rw[e]at kk;exact⟨zs,fm hK em kk⟩
  | some x=>rw[e]at kk;exact .keep (iR em kk)
 ·exact h.elim
theorem vp {f:Addr}{fd:FuncData}(F:gG K "parts" "Stand.parts" jG f fd)(T:iI mg)(df:fS K dq)(eP:fT P w K mg base):d7 P w K mg base (mB P w) 2 f fd ["self", "name"] (jt (rl dq ju)):=by
 refine F.xg vc (fun ds μ Kd Kx h=>fPartsS_len h) (fun fI A outer s H E hr eI Kb Z=>⟨_,(dk (iq (ic Z.z eP df.cl hr.le (dv 0) (a1 (dv 1))))
  (dr (dP (iS (fe hr) (eG df.cl df.fG (dv 0)) (dv 1) (fun _ _=>rfl))))),fun ds μ m Kd Kx hm hl em h hK=>?_⟩)
 unfold rl at h
 split at h
 ·rename_i x nm
  obtain⟨_,S,rfl,kk⟩:=h
  refine⟨⟨rfl,rfl⟩,eE em,⟨_,eE em⟩,S,rfl,?_⟩
  cases e:dw S.kept nm with
  | none=>rw[e]at kk;exact(fm hK em kk).2
  | some x =>
   rw[e]at kk
   exact⟨rfl,_,rfl,lT x,by rw[gr dE lT nm S.kept rfl,e];rfl,.keep (iR em kk)⟩
 ·exact h.elim
theorem t9 {f:Addr}{fd:FuncData}(F:gG K "source" "Stand.source" i8 f fd)(T:iI mg)(df:fS K dq)(mq:OwnCls "BadBar" uN mC "ValueError.__new__" mg base)(iH:jN P w K mg base):d7 P w K mg base (mB P w) 3 f fd ["self", "name", "bar"] (jt (oI dq ju)):=by
 refine F.xg fk (fun ds μ Kd Kx h=>zq h) (fun fI A outer s H E hr eI Kb Z=>⟨_,(dk (qS 3 fk.nd (ic Z.z iH df.cl hr.le (dv 0) (a1 (dv 1))))
  (dk (fw (PW.pt (og (qLt (dv 2) dg) (jZ (qGe (dv 2) (eG df.cl df.gq (dv 0))))))
  (dr (ia Z rfl mq ai (by decide) ai rfl (a1 du)))
  eM)
  (dk (qS 4 fk.nd dg)
  (dk (s_while PassesOwn.leaving (ye (dv 3))
  (dk (i7 (dv 3) ⟨(fJ (n:=3) rfl (dt (qN 5 fk.nd) (dt (qN 6 fk.nd) (dt (qN 7 fk.nd) fb)))),(gw (dG (dD 5) (de 5) (dG (dD 6) (de 6) (dG (dD 7) (de 7) gy dA) (dm (de 7) dA)) (dm (de 6) (dm (de 7) dA)))),(gA (dm (de 5) (dm (de 6) (dm (de 7) dA))))⟩)
  (dk (qS 1 fk.nd (vY (qLt (dv 2) (dv 7)) (dv 5) (dv 6)))
  (dk (qS 3 fk.nd (iS (fe hr) (eG df.cl df.fG (dv 0)) (dv 1) (fun _ _=>rfl)))
  (dr (s_aug (i:=4) fk.nd rfl lo dg ip_addC so_ipI))))))
  (dr (dP (gu (a2 (dv 1) (dv 4))))))))),fun ds μ m Kd Kx hm hl em h hK=>?_⟩)
 unfold oI at h
 split at h
 ·rename_i x nm bar
  obtain⟨_,S,rfl,kp,kk⟩:=h
  refine⟨⟨rfl,rfl⟩,eE em,⟨_,eE em⟩,S,rfl,?_⟩
  cases e:dw S.kept nm with
  | none=>rw[e]at kk;exact(fm hK em kk).2
  | some x =>
   rw[e]at kk
   refine lZ (c:=bar<0) (fun q=>⟨zs,fm hK em ?_⟩) (fun q1=>⟨rfl,_,rfl,lZ (c:=S.n<=bar) (fun q=>⟨zs,fm hK em ?_⟩) (fun q2=>?_)⟩)
   ·have kk:(if 0<=bar/\bar<S.n then Kd (srcD (srcOf S.kept nm bar)) μ else _):=kk
    rw[ae (by omega)]at kk;exact kk
   ·have kk:(if 0<=bar/\bar<S.n then Kd (srcD (srcOf S.kept nm bar)) μ else _):=kk
    rw[ae (by omega)]at kk;exact kk
   ·have kk:(if 0<=bar/\bar<S.n then Kd (srcD (srcOf S.kept nm bar)) μ else _):=kk
    rw[ag (by omega)]at kk
    refine⟨fun i ρ μ'=>∃(z:Str) (y:Pt) (c:Nat) (v1 v2 v3:Option D),i=gS S.kept z/\dw S.kept z=some y/\srcOf S.kept nm bar=((srcOf S.kept z bar).1,(srcOf S.kept z bar).2+c)/\ρ=[some (kW dq S),some (.str z),some (.int bar),some (lT y),some (.int (c:Int)),v1,v2,v3]/\μ'=μ.set 0 (.gx eI H),⟨_,nm,x,0,none,none,none,rfl,e,rfl,rfl,rfl⟩,?_⟩
    rintro i ρ μ' ⟨z,y,c,v1,v2,v3,rfl,ez,es,rfl,rfl⟩
    cases y with
    | fst b a =>
     refine⟨zs,.keep (iR em ?_)⟩
     rw[es,qt ez,Nat.zero_add]at kk
     exact kk
    | jn l r p =>
     obtain⟨⟨yl,el⟩,⟨yr,er⟩⟩:=kp.there ez
     obtain⟨i1,i2⟩:=kp.low z l r p ez
     refine⟨rfl,?_⟩
     have ej:=yg kp ez bar
     refine lZ (c:=bar<p) (fun q=>?_) (fun q=>?_)
     ·rw[ag q]at ej
      exact⟨rfl,_,rfl,lT yl,by rw[gr dE lT l S.kept rfl,el];rfl,gS S.kept l,i1,l,yl,c+1,_,_,_,rfl,el,by rw[es,ej];congr 1;show _+1+c=_;omega,rfl,rfl⟩
     ·rw[ae q]at ej
      exact⟨rfl,_,rfl,lT yr,by rw[gr dE lT r S.kept rfl,er];rfl,gS S.kept r,i2,r,yr,c+1,_,_,_,rfl,er,by rw[es,ej];congr 1;show _+1+c=_;omega,rfl,rfl⟩
 ·exact h.elim
theorem lX {f:Addr}{fd:FuncData}(F:gG K "takes_by_names" "Stand.takes_by_names" fU f fd)(T:iI mg)(df:fS K dq)(C_joined:c_joined P w K mg base):d7 P w K mg base jr 2 f fd ["self"] (gv (rB dq)):=by
 refine F.nT eF (fun ds μ Kd h=>by unfold rB at h;split at h <;> first | rfl | exact h.elim) (fun fI A outer s H E hr=>⟨_,(dk (qS 1 eF.nd zI)
  (dk (sY bL rfl (i_itemsF (eG df.cl df.fG (dv 0))) ⟨(fJ (n:=2) rfl (dt (qN 2 eF.nd) (dt (qN 3 eF.nd) fb))),(gw (dG (dD 2) (de 2) (dG (dD 3) (de 3) gy dA) (dm (de 3) dA))),(gA (dm (de 2) (dm (de 3) dA)))⟩
  (dr (fw (t_isN (dv 3))
  (dr (iZ (fe hr) (iS (fe hr) (eG df.cl df.g9 (dv 0)) (dv 2) (fun _ _=>rfl)) (dv 1) (dv 2)))
  (dk (i7 (dv 3) ⟨(fJ (n:=3) rfl (dt (qN 4 eF.nd) (dt (qN 5 eF.nd) (dt (qN 6 eF.nd) fb)))),(gw (dG (dD 4) (de 4) (dG (dD 5) (de 5) (dG (dD 6) (de 6) gy dA) (dm (de 6) dA)) (dm (de 5) (dm (de 6) dA)))),(gA (dm (de 4) (dm (de 5) (dm (de 6) dA))))⟩)
  (dr (iZ (fe hr) (qC C_joined hr (a3 (iS (fe hr) (dv 1) (dv 4) (fun _ _=>rfl)) (iS (fe hr) (dv 1) (dv 5) (fun _ _=>rfl)) (dv 6))) (dv 1) (dv 2)))))))
  (dr (dP (vZ (dv 1)))))),fun ds μ Kd hm hl h=>?_⟩)
 unfold rB at h
 split at h
 ·rename_i x
  obtain⟨S,m,rfl,wf,kk⟩:=h
  refine⟨rfl,_,rfl,fun _=>?_⟩
  have nd:=wf.kp.nd
  have ku:=wf.ku
  have ei:List.zipWith (fun k d=>D.tup [mW k,d]) (S.kept.map fun p=>dX p.1) (S.kept.map fun p=>lT p.2)=S.kept.map fun p=>D.tup [.str p.1,lT p.2]:=by
   obtain⟨e1,e2⟩:=fZ dX lT S.kept
   rw[e1,e2,xG,aC]
   rfl
  show xj _ _ _ _ (List.zipWith (fun k d=>D.tup [mW k,d]) (S.kept.map fun p=>dX p.1) (S.kept.map fun p=>lT p.2)) _ _
  rw[ei]
  refine jc (fun ds ρ μ'=>∃(pre post:List (Str×Pt)) (v1 v2 v3 v4 v5:Option D),S.kept=pre++post/\ds=post.map (fun p=>D.tup [.str p.1,lT p.2])/\ρ=[some (kW dq S),some (.mr μ.length),v1,v2,v3,v4,v5]/\μ'=μ++[.hJ ((pre.map fun p=>(p.1,fv S.kept p.1)).map fun p=>dX p.1) ((pre.map fun p=>(p.1,fv S.kept p.1)).map fun p=>iU p.2)]) ⟨[],S.kept,none,none,none,none,none,rfl,rfl,rfl,rfl⟩ ?_ ?_
  ·rintro d ds' ρ μ' ⟨pre,post,v1,v2,v3,v4,v5,hs,e1,rfl,rfl⟩
   refine⟨trivial,fun nx hnx=>?_⟩
   cases post with
   | nil=>cases e1
   | cons p post =>
    obtain⟨z,y⟩:=p
    cases e1
    have hz:z∉pre.map (·.1):=fun q=>by
     rw[hs,aG,bD]at nd
     exact nd.2.2 z q z (List.mem_map.mpr ⟨_,aw,rfl⟩) rfl
    have ez:dw S.kept z=some y:=f9 nd (by rw[hs];exact aD _ aw)
    have ix:gS S.kept z=pre.length:=by
     unfold gS
     rw[hs,aG,cb,ae hz,ah,bB,show((z,y).1==z)=true from cm _,fg]
     simp
    have lp:pre.length<S.kept.length:=by rw[hs,kH,aE];omega
    have inpre:∀ w:Str,gS S.kept w<pre.length->dw (pre.map fun p=>(p.1,fv S.kept p.1)) w=some (fv S.kept w):=fun w hw=>by
     have hm2:w∈pre.map (·.1):=by
      unfold gS at hw
      rw[hs,aG,cb]at hw
      by_cases q:w∈pre.map (·.1)
      ·exact q
      ·rw[ae q,fg]at hw;omega
     obtain⟨p,hp,rfl⟩:=List.mem_map.mp hm2
     have nd2:((pre.map fun p=>(p.1,fv S.kept p.1)).map (·.1)).Nodup:=by
      rw[aC]
      rw[hs,aG,bD]at nd
      exact nd.1
     exact f9 nd2 (List.mem_map.mpr ⟨p,hp,rfl⟩)
    have hn:dw (pre.map fun p=>(p.1,fv S.kept p.1)) z=none:=by
     cases q:dw (pre.map fun p=>(p.1,fv S.kept p.1)) z with
     | none=>rfl
     | some w =>
      have:=eY.mp (show(dw (pre.map fun p=>(p.1,fv S.kept p.1)) z).isSome=true by rw[q];rfl)
      rw[aC]at this
      exact absurd this hz
    have fin:∀(v:Tk) (w1 w2 w3 w4 w5:Option D),v=fv S.kept z->∃ kd kd':List (Key×D),(μ++[MO.hJ ((pre.map fun p=>(p.1,fv S.kept p.1)).map fun p=>dX p.1) ((pre.map fun p=>(p.1,fv S.kept p.1)).map fun p=>iU p.2)])[μ.length]?=some (.hJ (kd.map (·.1)) (kd.map (·.2)))/\kd.length<sizeLine/\(mY (.str z)).map (fun k=>dput kd k (iU v))=some kd'/\nx [some (kW dq S),some (.mr μ.length),w1,w2,w3,w4,w5] ((μ++[MO.hJ ((pre.map fun p=>(p.1,fv S.kept p.1)).map fun p=>dX p.1) ((pre.map fun p=>(p.1,fv S.kept p.1)).map fun p=>iU p.2)]).set μ.length (.hJ (kd'.map (·.1)) (kd'.map (·.2)))):=fun v w1 w2 w3 w4 w5 hv=>by
     obtain⟨e1,e2⟩:=fZ dX iU (pre.map fun p=>(p.1,fv S.kept p.1))
     refine⟨_,_,by rw[fc,e1,e2],?_,rfl,?_⟩
     ·rw[fg,fg];exact aq lp (sz (by omega))
     ·show nx _ ((_++[_]).set _ (.hJ ((dput _ (dX z) (iU v)).map (·.1)) ((dput _ (dX z) (iU v)).map (·.2))))
      rw[dput_k dE iU z v,ma hn,fM]
      refine hnx _ _ ⟨pre++[(z,y)],post,_,_,_,_,_,by rw[hs,aI];rfl,rfl,rfl,?_⟩
      have e3:(pre++[(z,y)]).map (fun p=>(p.1,fv S.kept p.1))=pre.map (fun p=>(p.1,fv S.kept p.1))++[(z,v)]:=by rw[aG,hv];rfl
      rw[e3,<- (fZ dX iU _).1,<- (fZ dX iU _).2]
    refine⟨rfl,?_⟩
    cases y with
    | fst b a =>
     refine⟨rfl,_,rfl,iU (b,a),by rw[gr dE iU z (dW S.kept) rfl,kJ nd,ez];rfl,fin (b,a) _ _ _ _ _ (tk_fst ez).symm⟩
    | jn l r p =>
     obtain⟨i1,i2⟩:=wf.kp.low z l r p ez
     obtain⟨⟨yl,el⟩,⟨yr,er⟩⟩:=wf.kp.there ez
     obtain⟨p1,p2⟩:=wf.js z l r p ez
     obtain⟨t1,_⟩:=tk_ok wf l yl el
     obtain⟨t2,_⟩:=tk_ok wf r yr er
     have n2:=wf.n2
     refine⟨rfl,iU (fv S.kept l),by rw[tE dE iU l _ rfl end_dic,inpre l (by omega)];rfl,iU (fv S.kept r),by rw[tE dE iU r _ rfl end_dic,inpre r (by omega)];rfl,?_⟩
     exact⟨fv S.kept l,fv S.kept r,rfl,rfl,rfl,rfl,by omega,by omega,by omega,fin _ _ _ _ _ _ (tk_jn wf.kp ez).symm⟩
  ·rintro ρ μ' ⟨pre,post,v1,v2,v3,v4,v5,hs,e1,rfl,rfl⟩
   cases post with
   | cons p post=>cases e1
   | nil =>
    rw[aN]at hs
    refine⟨trivial,_,_,fc,fun o kvs hks=>?_⟩
    rw[fM]
    refine Fz.kK (aa _) fc (jw fun d hd=>by obtain⟨q,_,rfl⟩:=List.mem_map.mp hd;exact⟨trivial,trivial,trivial⟩) (gm hm) ?_
    rw[aU,hks,<- hs]
    exact kk
 ·exact h.elim
theorem wZ {f:Addr}{fd:FuncData}(F:gG K "take" "Stand.take" j7 f fd)(T:iI mg)(df:fS K dq)(eP:fT P w K mg base)(gR:gQ P w K mg base):d7 P w K mg base (mB P w) 3 f fd ["self", "name"] (jt (vQ dq ju)):=by
 refine F.xg wU (fun ds μ Kd Kx h=>fTakeS_len h) (fun fI A outer s H E hr eI Kb Z=>⟨_,(dk (iq (ic Z.z eP df.cl hr.le (dv 0) (a1 (dv 1))))
  (dr (dP (iS (fe hr) (gh gR df.cl hr.le (dv 0)) (dv 1) (fun _ _=>rfl))))),fun ds μ m Kd Kx hm hl em h hK=>?_⟩)
 unfold vQ at h
 split at h
 ·rename_i x nm
  obtain⟨_,S,m',rfl,wf,kk⟩:=h
  refine⟨⟨rfl,rfl⟩,eE em,⟨_,eE em⟩,S,rfl,?_⟩
  cases e:dw S.kept nm with
  | none=>rw[e]at kk;exact(fm hK em kk).2
  | some x =>
   rw[e]at kk
   have nd2:((uS S.kept).map (·.1)).Nodup:=by unfold uS;rw[aC];exact wf.kp.nd
   have ea:dw (uS S.kept) nm=some (fv S.kept nm):=f9 nd2 (List.mem_map.mpr ⟨_,mi e,rfl⟩)
   exact⟨⟨rfl,rfl⟩,S,m',rfl,wf,iU (fv S.kept nm),by rw[gr dE iU nm (uS S.kept) rfl,ea];rfl,.keep (iR em kk)⟩
 ·exact h.elim
theorem vo {f:Addr}{fd:FuncData}(F:gG K "shelf" "Stand.shelf" jF f fd)(T:iI mg)(df:fS K dq)(gR:gQ P w K mg base):d7 P w K mg base jr 3 f fd ["self"] (gv (uG dq)):=by
 refine F.nT kE (fun ds μ Kd h=>by unfold uG at h;split at h <;> first | rfl | exact h.elim) (fun fI A outer s H E hr=>⟨_,(dk (sC1 1 false kE.nd (Ah (N:=["place", "self"]) (js:=[none,some 0]) kE (by decide +kernel)) (i_range2 rfl T.range (a2 dg (eG df.cl df.gq (dv 0)))) (fun _ _ _ nd=>(qN 0 nd)) (fun _ _ _=>(rX (jQ (fe hr) (dv 0) (eG df.cl df.iB (dv 1)) (by with_unfolding_all rfl)))) (fun _ _ _=>(dv 0)))
  (dr (dP (gu (a3 (eG df.cl df.gq (dv 0)) (dv 1) (d_listVals false rfl (by rfl) T.list (gh gR df.cl hr.le (dv 0)))))))),fun ds μ Kd hm hl h=>?_⟩)
 unfold uG at h
 split at h
 ·rename_i x
  obtain⟨S,m,rfl,wf,kk⟩:=h
  have n1:=wf.n1
  have n2:=wf.n2
  refine⟨rfl,_,rfl,⟨by decide,by decide,by omega,by omega⟩,sz (by rw[gY];omega),?_⟩
  rw[rngD_eq]
  refine ie trivial D.int (fun p=>if(dw S.eR p).isSome=true then none else some (D.int p)) (fun p _ K' k'=>?_) ?_
  ·refine⟨rfl,_,rfl,_,gr hG (fun _=>.bl true) p S.eR rfl,?_⟩
   cases e:dw S.eR p with
   | none=>rw[e]at k';exact k'
   | some x=>rw[e]at k';exact k'
  ·rw[open_map]
   refine⟨rfl,_,rfl,⟨rfl,rfl⟩,S,m,rfl,wf,dj rfl ⟨zs,.keep ?_⟩⟩
   have e:(uS S.kept).map (fun p=>iU p.2)=(lJ S).map iU:=by unfold uS lJ;rw[aC,aC];rfl
   rw[e]
   exact kk
 ·exact h.elim
theorem y4 {f:Addr}{fd:FuncData}(F:gG K "check_age" "check_age" k8 f fd)(T:iI mg)(mv:OwnCls "BadAge" uO mC "ValueError.__new__" mg base)(wF:z6 mg "OLDEST" 20):d7 P w K mg base (mB P w) 1 f fd ["age"] (jt (fAgeC ju)):=by
 refine F.xg yw (fun ds μ Kd Kx h=>fAgeC_len h) (fun fI A outer s H E hr eI Kb Z=>⟨_,(dr (fw (PW.pt (og (qLt (dv 0) dg) (jZ (qGt (dv 0) (zF rfl wF)))))
  (dr (ia Z rfl mv ai (by decide) ai rfl (a1 du)))
  eM)),fun ds μ m Kd Kx hm hl em h hK=>?_⟩)
 unfold fAgeC at h
 split at h
 ·rename_i a
  obtain⟨_,kk⟩:=h
  unfold jl at kk
  refine lZ (c:=a<0) (fun q=>⟨zs,fm hK em (by rw[ae (by omega)]at kk;exact kk)⟩) (fun q1=>lZ (c:=20<a) (fun q=>⟨zs,fm hK em (by rw[ae (by omega)]at kk;exact kk)⟩) (fun q2=>.keep (iR em (by rw[ag (by omega)]at kk;exact kk))))
 ·exact h.elim
theorem vn {f:Addr}{fd:FuncData}(F:gG K "check_place" "check_place" jE f fd)(T:iI mg)(df:fS K dq)(jB:OwnCls "BadPlace" pE mC "ValueError.__new__" mg base):d7 P w K mg base (mB P w) 1 f fd ["stand", "place"] (jt (rk dq ju)):=by
 refine F.xg va (fun ds μ Kd Kx h=>fPlaceC_len h) (fun fI A outer s H E hr eI Kb Z=>⟨_,(dr (fw (PW.pt (og (qLt (dv 1) dg) (jZ (qGe (dv 1) (eG df.cl df.gq (dv 0))))))
  (dr (ia Z rfl jB ai (by decide) ai rfl (a1 du)))
  eM)),fun ds μ m Kd Kx hm hl em h hK=>?_⟩)
 unfold rk at h
 split at h
 ·rename_i x p
  obtain⟨_,S,rfl,kk⟩:=h
  unfold fE at kk
  refine lZ (c:=p<1) (fun q=>⟨zs,fm hK em (by rw[ae (by omega)]at kk;exact kk)⟩) (fun q1=>⟨rfl,_,rfl,lZ (c:=S.n<=p) (fun q=>⟨zs,fm hK em (by rw[ae (by omega)]at kk;exact kk)⟩) (fun q2=>.keep (iR em (by rw[ag (by omega)]at kk;exact kk)))⟩)
 ·exact h.elim
theorem y3 {f:Addr}{fd:FuncData}(F:gG K "check_new" "check_new" k7 f fd)(T:iI mg)(df:fS K dq)(kA:OwnCls "BadName" oU mC "ValueError.__new__" mg base)(pG:OwnCls "Taken" zR mC "ValueError.__new__" mg base)(sN:OwnCls "Full" cFull mC "ValueError.__new__" mg base)(nv:z6 mg "MOST_TAKES" 20)(kO:z6 mg "MOST_LETTERS" 8):d7 P w K mg base (mB P w) 1 f fd ["stand", "name"] (jt (fNew dq ju)):=by
 refine F.xg qA (fun ds μ Kd Kx h=>fNew_len h) (fun fI A outer s H E hr eI Kb Z=>⟨_,(dk (fw (PW.pt (og (qLt (xm T (dv 1)) dg) (og (qGt (xm T (dv 1)) (zF rfl kO)) (jZ (lW (gF (pS (allC rfl) yj (by rfl) T.all PyProof.Rows.boot_all (a1 (dC1 false (Ah (N:=["sign"]) (js:=[none]) qA (by decide +kernel)) (i_str (dv 1)) (fun _ _ _ nd=>(qN 0 nd)) (fun _ _ _=>jW) (fun _ _ _=>(d_chain xD xD so_leS so_leS du (dv 0) du)))))))))))
  (dr (ia Z rfl kA ai (by decide) ai rfl (a1 du)))
  eM)
  (dk (fw (t_inF (fe hr) (dv 1) (eG df.cl df.fG (dv 0)) (by with_unfolding_all rfl))
  (dr (ia Z rfl pG ai (by decide) ai rfl (a1 du)))
  eM)
  (dr (fw (qGe (pS lenD so_lenD (by rfl) T.len cF (a1 (eG df.cl df.fG (dv 0)))) (zF rfl nv))
  (dr (ia Z rfl sN ai (by decide) ai rfl (a1 du)))
  eM)))),fun ds μ m Kd Kx hm hl em h hK=>?_⟩)
 unfold fNew at h
 split at h
 ·rename_i x nm
  obtain⟨_,hz,S,rfl,kk⟩:=h
  have sl:nm.length<=sizeLine:=sz (by omega)
  unfold iA at kk
  have bad:fK nm=false->Kx (.ref oU) μ:=fun q=>by rw[ag q]at kk;exact kk
  refine⟨sl,lZ (c:=((nm.length:Nat):Int)<1) (fun q=>⟨zs,fm hK em (bad ?_)⟩) (fun q1=>⟨sl,lZ (c:=(8:Int)<((nm.length:Nat):Int)) (fun q=>⟨zs,fm hK em (bad ?_)⟩) (fun q2=>?_)⟩)⟩
  ·unfold fK;rw[ak (show ¬ 1<=nm.length by omega)];rfl
  ·unfold fK;rw[ak (show ¬ nm.length<=8 by omega),dc];rfl
  refine⟨by rw[fg];exact sl,?_⟩
  refine pD trivial (fun c:Nat=>D.str ⟨#[c]⟩) (fun c=>D.bl (decide (97<=c)&&decide (c<=122))) (fun c _ K' k'=>?_) ?_
  ·have e1:(!decide (([c]:List Nat)<[97]))=decide (97<=c):=by rw[cmp1];by_cases q:97<=c <;> simp[q]<;> omega
   have e2:(!decide (([122]:List Nat)<[c]))=decide (c<=122):=by rw[cmp1];by_cases q:c<=122 <;> simp[q]<;> omega
   show if(!decide (([c]:List Nat)<[97]))=true then K' (some (.bl (!decide (([122]:List Nat)<[c])))) _ else K' (some (.bl false)) _
   rw[e1,e2]
   cases q:decide (97<=c)with
   | true=>rw[q]at k';exact k'
   | false=>rw[q]at k';exact k'
  ·refine⟨nm.cps.toList.map fun c=>decide (97<=c)&&decide (c<=122),by rw[aC];rfl,?_⟩
   have eb:((nm.cps.toList.map fun c=>decide (97<=c)&&decide (c<=122)).all id)=fK nm:=by rw[nameB_of q1 q2,List.all_map];rfl
   show if(!((nm.cps.toList.map fun c=>decide (97<=c)&&decide (c<=122)).all id))=true then _ else _
   rw[eb]
   cases q3:fK nm with
   | false=>exact⟨zs,fm hK em (bad q3)⟩
   | true =>
    rw[ae (by rw[q3];exact fun z=>nomatch z)]at kk
    refine⟨rfl,_,rfl,_,gr dE lT nm S.kept rfl,?_⟩
    unfold fV at kk
    cases e:dw S.kept nm with
    | some x=>rw[e]at kk;exact⟨zs,fm hK em kk⟩
    | none =>
     rw[e]at kk
     refine⟨rfl,_,rfl,dj rfl ?_⟩
     have kk:uy _ Kd Kx (if 20<=S.kept.length then some 10 else none) .fH μ:=kk
     refine lZ (c:=(20:Int)<=((S.kept.map fun p=>dX p.1).length:Nat)) (fun q=>⟨zs,fm hK em ?_⟩) (fun q=>.keep (iR em ?_))
     ·rw[fg]at q;rw[ag (by omega)]at kk;exact kk
     ·rw[fg]at q;rw[ae (by omega)]at kk;exact kk
 ·exact h.elim
theorem ok_put {f:Addr}{fd:FuncData}(F:gG K "put" "put" s_put f fd)(T:iI mg)(df:fS K dq)(ig:OwnCls "BadBars" oV mC "ValueError.__new__" mg base)(o5:oR P w K mg base)(C_is_bars:xU P w K mg base)(o6:oS P w K mg base)(gC:jA P w K mg base)(dU:eX P w K mg base):d7 P w K mg base (mB P w) 6 f fd ["stand", "row"] (jt (fW dq ju 0)):=by
 refine F.xg sd (fun ds μ Kd Kx h=>iL h) (fun fI A outer s H E hr eI Kb Z=>⟨_,(dk (i7 (dv 1) ⟨(fJ (n:=4) rfl (dt (qN 2 sd.nd) (dt (qN 3 sd.nd) (dt (qN 4 sd.nd) (dt (qN 5 sd.nd) fb))))),(gw (dG (dD 2) (de 2) (dG (dD 3) (de 3) (dG (dD 4) (de 4) (dG (dD 5) (de 5) gy dA) (dm (de 5) dA)) (dm (de 4) (dm (de 5) dA))) (dm (de 3) (dm (de 4) (dm (de 5) dA))))),(gA (dm (de 2) (dm (de 3) (dm (de 4) (dm (de 5) dA)))))⟩)
  (dk (iq (lH Z.z o5 hr.le rfl (a2 (dv 0) (dv 3))))
  (dk (fw (lW (gF (qC C_is_bars hr (a2 (eG df.cl df.gq (dv 0)) (dv 4)))))
  (dr (ia Z rfl ig ai (by decide) ai rfl (a1 du)))
  eM)
  (dk (iq (lH Z.z o6 hr.le rfl (a1 (dv 5))))
  (dk (qS 6 sd.nd (qC gC hr (a3 (eG df.cl df.fG (dv 0)) (dv 3) d_non)))
  (dr (dP (zG (oP dU hr.le rfl (dh (eG df.cl df.gq (dv 0)) (dh (dv 6) (dh (qC gC hr (a3 (eG df.cl df.g9 (dv 0)) (dv 3) (gu (a2 (dv 4) (dv 5))))) (dh (eG df.cl df.iB (dv 0)) fB))))))))))))),fun ds μ m Kd Kx hm hl em h hK=>?_⟩)
 unfold fW at h
 split at h
 ·rename_i x y
  obtain⟨_,S,d,m',rfl,rfl,hw,wf,hm',dZ,kk⟩:=h
  obtain⟨nm,b,a,rfl⟩:∃ nm b a,d=.put nm b a:=by cases d <;> first | exact⟨_,_,_,rfl⟩ | cases hw
  have ku:=wf.ku
  refine⟨rfl,eE em,⟨_,eE em⟩,dZ.1,S,rfl,?_⟩
  have kk:uy _ Kd Kx ((iA S nm).or (if((b.length:Nat):Int)=S.n/\Ae b=true then jl a else some 0)) (kW dq (pK S (.put nm b a))) μ:=kk
  cases e:iA S nm with
  | some i=>rw[e]at kk;exact(fm hK em kk).2
  | none =>
   rw[e]at kk
   refine⟨rfl,_,rfl,dZ.2,iteNot (c:=((b.length:Nat):Int)=S.n/\Ae b=true) (fun q=>⟨zs,fm hK em ?_⟩) (fun q=>?_)⟩
   ·have kk:uy _ Kd Kx (if((b.length:Nat):Int)=S.n/\Ae b=true then jl a else some 0) (kW dq (pK S (.put nm b a))) μ:=kk
    rw[ae q]at kk;exact kk
   ·have kk:uy _ Kd Kx (if((b.length:Nat):Int)=S.n/\Ae b=true then jl a else some 0) (kW dq (pK S (.put nm b a))) μ:=kk
    rw[ag q]at kk
    refine⟨eE em,⟨_,eE em⟩,?_⟩
    cases e2:jl a with
    | some i=>rw[e2]at kk;exact(fm hK em kk).2
    | none =>
     rw[e2]at kk
     obtain⟨n1,n2,n3⟩:=ph e
     refine⟨rfl,_,rfl,_,_,(fZ dX lT S.kept).1,(fZ dX lT S.kept).2,by rw[kd_len];omega,rfl,?_⟩
     have lf:(dW S.kept).length<=20:=ar (cf _ _) ku
     refine⟨rfl,_,rfl,rfl,_,rfl,zs,_,_,(fZ dX iU (dW S.kept)).1,(fZ dX iU (dW S.kept)).2,by rw[kd_len];omega,rfl,rfl,_,rfl,fc,rfl,?_⟩
     rw[fM]
     refine Fz.obj (aa _) fc ⟨trivial,mU (mr_g tf _) trivial,mU (mr_g qo _) (qo (b.cps.toList,a)),mr_sh _,trivial⟩ (gm hm) ?_
     rw[aU]
     have kk:Kd (.obj dq sdN [.int S.n,pA dX lT (fN S.kept nm (.fst b.cps.toList a)),pA dX iU (dW (fN S.kept nm (.fst b.cps.toList a))),shD S.eR]) μ:=kk
     rw[firsts_new wf.kp.nd n2,<- wput dE lT,<- wput dE iU]at kk
     exact .keep (iR em kk)
 ·exact h.elim
theorem ok_join {f:Addr}{fd:FuncData}(F:gG K "join" "join" yG f fd)(T:iI mg)(df:fS K dq)(sM:OwnCls "Shut" cShut mC "ValueError.__new__" mg base)(o5:oR P w K mg base)(eP:fT P w K mg base)(iG:jM P w K mg base)(gC:jA P w K mg base)(dU:eX P w K mg base):d7 P w K mg base (mB P w) 6 f fd ["stand", "row"] (jt (fW dq ju 1)):=by
 refine F.xg o9 (fun ds μ Kd Kx h=>iL h) (fun fI A outer s H E hr eI Kb Z=>⟨_,(dk (i7 (dv 1) ⟨(fJ (n:=5) rfl (dt (qN 2 o9.nd) (dt (qN 3 o9.nd) (dt (qN 4 o9.nd) (dt (qN 5 o9.nd) (dt (qN 6 o9.nd) fb)))))),(gw (dG (dD 2) (de 2) (dG (dD 3) (de 3) (dG (dD 4) (de 4) (dG (dD 5) (de 5) (dG (dD 6) (de 6) gy dA) (dm (de 6) dA)) (dm (de 5) (dm (de 6) dA))) (dm (de 4) (dm (de 5) (dm (de 6) dA)))) (dm (de 3) (dm (de 4) (dm (de 5) (dm (de 6) dA)))))),(gA (dm (de 2) (dm (de 3) (dm (de 4) (dm (de 5) (dm (de 6) dA))))))⟩)
  (dk (iq (lH Z.z o5 hr.le rfl (a2 (dv 0) (dv 3))))
  (dk (iq (ic Z.z eP df.cl hr.le (dv 0) (a1 (dv 4))))
  (dk (iq (ic Z.z eP df.cl hr.le (dv 0) (a1 (dv 5))))
  (dk (iq (lH Z.z iG hr.le rfl (a2 (dv 0) (dv 6))))
  (dk (fw (t_inF (fe hr) (dv 6) (eG df.cl df.iB (dv 0)) (by with_unfolding_all rfl))
  (dr (ia Z rfl sM ai (by decide) ai rfl (a1 du)))
  eM)
  (dr (dP (zG (oP dU hr.le rfl (dh (eG df.cl df.gq (dv 0)) (dh (qC gC hr (a3 (eG df.cl df.fG (dv 0)) (dv 3) (gu (a3 (dv 4) (dv 5) (dv 6))))) (dh (eG df.cl df.g9 (dv 0)) (dh (eG df.cl df.iB (dv 0)) fB)))))))))))))),fun ds μ m Kd Kx hm hl em h hK=>?_⟩)
 unfold fW at h
 split at h
 ·rename_i x y
  obtain⟨_,S,d,m',rfl,rfl,hw,wf,hm',dZ,kk⟩:=h
  obtain⟨nm,l,r,p,rfl⟩:∃ nm l r p,d=.join nm l r p:=by cases d <;> first | exact⟨_,_,_,_,rfl⟩ | cases hw
  have ku:=wf.ku
  refine⟨rfl,eE em,⟨_,eE em⟩,dZ,S,rfl,?_⟩
  have kk:uy _ Kd Kx ((iA S nm).or (if fV S l=false then some 11 else if fV S r=false then some 11 else(fE S p).or (if(dw S.eR p).isSome=true then some 12 else none))) (kW dq (pK S (.join nm l r p))) μ:=kk
  cases e:iA S nm with
  | some i=>rw[e]at kk;exact(fm hK em kk).2
  | none =>
   rw[e]at kk
   have kk:uy _ Kd Kx (if fV S l=false then some 11 else if fV S r=false then some 11 else(fE S p).or (if(dw S.eR p).isSome=true then some 12 else none)) (kW dq (pK S (.join nm l r p))) μ:=kk
   refine⟨⟨rfl,rfl⟩,eE em,⟨_,eE em⟩,S,rfl,?_⟩
   unfold fV at kk
   cases el:dw S.kept l with
   | none=>rw[el]at kk;exact(fm hK em kk).2
   | some yl =>
    rw[el]at kk
    refine⟨⟨rfl,rfl⟩,eE em,⟨_,eE em⟩,S,rfl,?_⟩
    cases er:dw S.kept r with
    | none=>rw[er]at kk;exact(fm hK em kk).2
    | some yr =>
     rw[er]at kk
     have kk:uy _ Kd Kx ((fE S p).or (if(dw S.eR p).isSome=true then some 12 else none)) (kW dq (pK S (.join nm l r p))) μ:=kk
     refine⟨eE em,⟨_,eE em⟩,S,rfl,?_⟩
     cases e2:fE S p with
     | some i=>rw[e2]at kk;exact(fm hK em kk).2
     | none =>
      rw[e2]at kk
      refine⟨rfl,_,rfl,_,gr hG (fun _=>.bl true) p S.eR rfl,?_⟩
      cases e3:dw S.eR p with
      | some u=>rw[e3]at kk;exact⟨zs,fm hK em kk⟩
      | none =>
       rw[e3]at kk
       obtain⟨n1,n2,n3⟩:=ph e
       refine⟨rfl,_,rfl,rfl,_,rfl,zs,_,_,(fZ dX lT S.kept).1,(fZ dX lT S.kept).2,by rw[kd_len];omega,rfl,rfl,_,rfl,rfl,_,rfl,fc,rfl,?_⟩
       rw[fM]
       refine Fz.obj (aa _) fc ⟨trivial,mU (mr_g tf _) (tf (.jn l r p)),tm qo _,mr_sh _,trivial⟩ (gm hm) ?_
       rw[aU]
       have kk:Kd (.obj dq sdN [.int S.n,pA dX lT (fN S.kept nm (.jn l r p)),pA dX iU (dW (fN S.kept nm (.jn l r p))),shD S.eR]) μ:=kk
       rw[firsts_jn n2,<- wput dE lT]at kk
       exact .keep (iR em kk)
 ·exact h.elim
theorem ok_found {f:Addr}{fd:FuncData}(F:gG K "found" "found" uu f fd)(T:iI mg)(df:fS K dq)(ig:OwnCls "BadBars" oV mC "ValueError.__new__" mg base)(kP:kL P w K mg base)(gC:jA P w K mg base)(dU:eX P w K mg base):d7 P w K mg base (mB P w) 6 f fd ["stand", "row"] (jt (fW dq ju 2)):=by
 refine F.xg iz (fun ds μ Kd Kx h=>iL h) (fun fI A outer s H E hr eI Kb Z=>⟨_,(dk (i7 (dv 1) ⟨(fJ (n:=4) rfl (dt (qN 2 iz.nd) (dt (qN 3 iz.nd) (dt (qN 4 iz.nd) (dt (qN 5 iz.nd) fb))))),(gw (dG (dD 2) (de 2) (dG (dD 3) (de 3) (dG (dD 4) (de 4) (dG (dD 5) (de 5) gy dA) (dm (de 5) dA)) (dm (de 4) (dm (de 5) dA))) (dm (de 3) (dm (de 4) (dm (de 5) dA))))),(gA (dm (de 2) (dm (de 3) (dm (de 4) (dm (de 5) dA)))))⟩)
  (dk (i7 (ic Z.z kP df.cl hr.le (dv 0) (a2 (dv 3) (dv 4))) ⟨(fJ (n:=2) rfl (dt (qN 6 iz.nd) (dt (qN 7 iz.nd) fb))),(gw (dG (dD 6) (de 6) (dG (dD 7) (de 7) gy dA) (dm (de 7) dA))),(gA (dm (de 6) (dm (de 7) dA)))⟩)
  (dk (fw (PW.pt (jm (qNe (dv 5) du) (gW (qNe (dv 5) du))))
  (dr (ia Z rfl ig ai (by decide) ai rfl (a1 du)))
  eM)
  (dk (i7 (iS (fe hr) (eG df.cl df.g9 (dv 0)) (dv 6) (fun _ _=>rfl)) ⟨(fJ (n:=2) rfl (dt (qN 8 iz.nd) (dt (qN 9 iz.nd) fb))),(gw (dG (dD 8) (de 8) (dG (dD 9) (de 9) gy dA) (dm (de 9) dA))),(gA (dm (de 8) (dm (de 9) dA)))⟩)
  (dk (qS 10 iz.nd (gu (a2 (nU (nU (jI false (dv 8) qM (ir (dv 4))) (dv 5)) (jI false (dv 8) (ir (nU (dv 4) dg)) qM)) (dv 9))))
  (dr (dP (zG (oP dU hr.le rfl (dh (eG df.cl df.gq (dv 0)) (dh (eG df.cl df.fG (dv 0)) (dh (qC gC hr (a3 (eG df.cl df.g9 (dv 0)) (dv 6) (dv 10))) (dh (eG df.cl df.iB (dv 0)) fB))))))))))))),fun ds μ m Kd Kx hm hl em h hK=>?_⟩)
 unfold fW at h
 split at h
 ·rename_i x y
  obtain⟨_,S,d,m',rfl,rfl,hw,wf,hm',dZ,kk⟩:=h
  obtain⟨nm,bar,sg,rfl⟩:∃ nm bar sg,d=.found nm bar sg:=by cases d <;> first | exact⟨_,_,_,rfl⟩ | cases hw
  have ku:=wf.ku
  have n2:=wf.n2
  refine⟨rfl,⟨rfl,rfl⟩,eE em,⟨_,eE em⟩,S,rfl,wf.kp,?_⟩
  have kk:uy _ Kd Kx (if fV S nm=false then some 11 else if 0<=bar/\bar<S.n then(if sg = "o"\/sg = "x" then none else some 0)else some 6) (kW dq (pK S (.found nm bar sg))) μ:=kk
  unfold fV at kk
  cases e:dw S.kept nm with
  | none=>rw[e]at kk;exact(fm hK em kk).2
  | some x =>
   rw[e]at kk
   have kk:uy _ Kd Kx (if 0<=bar/\bar<S.n then(if sg = "o"\/sg = "x" then none else some 0)else some 6) (kW dq (pK S (.found nm bar sg))) μ:=kk
   by_cases hb:0<=bar/\bar<S.n
   ·rw[ag hb]at kk
    show(if 0<=bar/\bar<S.n then _ else _)
    rw[ag hb]
    refine⟨rfl,?_⟩
    by_cases hs:sg = "o"\/sg = "x"
    ·rw[ag hs]at kk
     obtain⟨b,a,ef⟩:=yh wf.kp bar nm x e
     obtain⟨f1,f2,f3,f4⟩:=wf.fs _ b a ef
     obtain⟨o1,o2⟩:=sgn_ox hs
     have lf:(dW S.kept).length<=20:=ar (cf _ _) ku
     have kk:Kd (.obj dq sdN [.int S.n,pA dX lT (hear S.kept (srcOf S.kept nm bar).1 bar sg),pA dX iU (dW (hear S.kept (srcOf S.kept nm bar).1 bar sg)),shD S.eR]) μ:=kk
     unfold hear at kk
     rw[ef]at kk
     dsimp only at kk
     rw[vN wf.kp.nd ef,<- wput dE iU,pt_again ef wf.kp.nd]at kk
     have sl:sg.length=1:=o2
     have lb:(txt b).length<=sizeLine:=by rw[kT];exact sz (by omega)
     have c1:=m8 b none (some bar)
     have c2:=m8 b (some (bar+1)) none
     have eh:(⟨(gi b none (some bar)).toArray⟩++sg++⟨(gi b (some (bar+1)) none).toArray⟩:Str)=txt (tG b bar sg):=by
      rw[zL hb.1,sJ (show 0<=bar+1 by omega),show(bar+1).toNat=bar.toNat+1 by omega]
      rw[zT,nk,aI]
      rfl
     have l1:(⟨(gi b none (some bar)).toArray⟩:Str).length+sg.length<=sizeLine:=by rw[sl];show(gi b none (some bar)).length+1<=_;exact sz (by omega)
     have l2:(⟨(gi b none (some bar)).toArray⟩++sg:Str).length+(⟨(gi b (some (bar+1)) none).toArray⟩:Str).length<=sizeLine:=by
      rw[zT]
      show(gi b none (some bar)++sg.cps.toList).length+(gi b (some (bar+1)) none).length<=_
      rw[kH,o2]
      exact sz (by omega)
     have eg:ixF ((dW S.kept).map fun p=>dX p.1) ((dW S.kept).map fun p=>iU p.2) (.str (srcOf S.kept nm bar).1)=some (some (iU (b,a))):=by rw[gr dE iU _ (dW S.kept) rfl,kJ wf.kp.nd,ef];rfl
     refine iteNn (c1:=sg = "o") (c2:=sg = "x") (fun _=>?_) (fun z=>absurd hs z)
     refine⟨rfl,_,rfl,iU (b,a),eg,rfl,lb,l1,lb,l2,zs,?_⟩
     refine⟨rfl,_,rfl,rfl,_,rfl,rfl,_,rfl,_,_,(fZ dX iU (dW S.kept)).1,(fZ dX iU (dW S.kept)).2,by rw[kd_len];omega,rfl,rfl,_,rfl,fc,rfl,?_⟩
     rw[fM]
     refine Fz.obj (aa _) fc ⟨trivial,tm tf _,mU (mr_g qo _) ⟨trivial,trivial,trivial⟩,mr_sh _,trivial⟩ (gm hm) ?_
     rw[aU]
     refine .keep (iR em ?_)
     show Kd (.obj dq sdN [.int S.n,pA dX lT S.kept,.kK ((dput _ _ (.tup [.str (⟨(gi b none (some bar)).toArray⟩++sg++⟨(gi b (some (bar+1)) none).toArray⟩),.int a])).map (·.1)) ((dput _ _ (.tup [.str (⟨(gi b none (some bar)).toArray⟩++sg++⟨(gi b (some (bar+1)) none).toArray⟩),.int a])).map (·.2)),shD S.eR]) μ
     rw[eh]
     exact kk
    ·rw[ae hs]at kk
     exact iteDn (c:=sg = "o") (fun q1=>iteDn (c:=sg = "x") (fun q2=>⟨zs,fm hK em kk⟩) (fun q2=>absurd (.inr q2) hs)) (fun q1=>absurd (.inl q1) hs)
   ·rw[ae hb]at kk
    show(if 0<=bar/\bar<S.n then _ else _)
    rw[ae hb]
    exact(fm hK em kk).2
 ·exact h.elim
theorem ok_aged {f:Addr}{fd:FuncData}(F:gG K "aged" "aged" yN f fd)(T:iI mg)(df:fS K dq)(mn:OwnCls "Joined" uM mC "ValueError.__new__" mg base)(iH:jN P w K mg base)(o6:oS P w K mg base)(gC:jA P w K mg base)(dU:eX P w K mg base):d7 P w K mg base (mB P w) 6 f fd ["stand", "row"] (jt (fW dq ju 3)):=by
 refine F.xg pe (fun ds μ Kd Kx h=>iL h) (fun fI A outer s H E hr eI Kb Z=>⟨_,(dk (i7 (dv 1) ⟨(fJ (n:=3) rfl (dt (qN 2 pe.nd) (dt (qN 3 pe.nd) (dt (qN 4 pe.nd) fb)))),(gw (dG (dD 2) (de 2) (dG (dD 3) (de 3) (dG (dD 4) (de 4) gy dA) (dm (de 4) dA)) (dm (de 3) (dm (de 4) dA)))),(gA (dm (de 2) (dm (de 3) (dm (de 4) dA))))⟩)
  (dk (fw (ye (ic Z.z iH df.cl hr.le (dv 0) (a1 (dv 3))))
  (dr (ia Z rfl mn ai (by decide) ai rfl (a1 du)))
  eM)
  (dk (iq (lH Z.z o6 hr.le rfl (a1 (dv 4))))
  (dk (i7 (iS (fe hr) (eG df.cl df.g9 (dv 0)) (dv 3) (fun _ _=>rfl)) ⟨(fJ (n:=2) rfl (dt (qN 5 pe.nd) (dt (qN 6 pe.nd) fb))),(gw (dG (dD 5) (de 5) (dG (dD 6) (de 6) gy dA) (dm (de 6) dA))),(gA (dm (de 5) (dm (de 6) dA)))⟩)
  (dr (dP (zG (oP dU hr.le rfl (dh (eG df.cl df.gq (dv 0)) (dh (eG df.cl df.fG (dv 0)) (dh (qC gC hr (a3 (eG df.cl df.g9 (dv 0)) (dv 3) (gu (a2 (dv 5) (dv 4))))) (dh (eG df.cl df.iB (dv 0)) fB)))))))))))),fun ds μ m Kd Kx hm hl em h hK=>?_⟩)
 unfold fW at h
 split at h
 ·rename_i x y
  obtain⟨_,S,d,m',rfl,rfl,hw,wf,hm',dZ,kk⟩:=h
  obtain⟨nm,a,rfl⟩:∃ nm a,d=.kS nm a:=by cases d <;> first | exact⟨_,_,rfl⟩ | cases hw
  have ku:=wf.ku
  have lf:(dW S.kept).length<=20:=ar (cf _ _) ku
  refine⟨rfl,⟨rfl,rfl⟩,eE em,⟨_,eE em⟩,S,rfl,?_⟩
  have kk:uy _ Kd Kx (match dw S.kept nm with | none=>some 11 | some (.jn _ _ _)=>some 13 | some (.fst _ _)=>jl a) (kW dq (match dw S.kept nm with | some (.fst b _)=>{ S with kept:=fN S.kept nm (.fst b a)} | _=>S)) μ:=kk
  cases e:dw S.kept nm with
  | none=>rw[e]at kk;exact(fm hK em kk).2
  | some x =>
   rw[e]at kk
   cases x with
   | jn l r p=>exact⟨zs,fm hK em kk⟩
   | fst b a0 =>
    refine⟨eE em,⟨_,eE em⟩,?_⟩
    have kk:uy _ Kd Kx (jl a) (kW dq { S with kept:=fN S.kept nm (.fst b a)}) μ:=kk
    cases e2:jl a with
    | some i=>rw[e2]at kk;exact(fm hK em kk).2
    | none =>
     rw[e2]at kk
     refine⟨rfl,_,rfl,iU (b,a0),by rw[gr dE iU nm (dW S.kept) rfl,kJ wf.kp.nd,e];rfl,rfl,?_⟩
     refine⟨rfl,_,rfl,rfl,_,rfl,rfl,_,rfl,zs,_,_,(fZ dX iU (dW S.kept)).1,(fZ dX iU (dW S.kept)).2,by rw[kd_len];omega,rfl,rfl,_,rfl,fc,rfl,?_⟩
     rw[fM]
     refine Fz.obj (aa _) fc ⟨trivial,tm tf _,mU (mr_g qo _) (qo (b,a)),mr_sh _,trivial⟩ (gm hm) ?_
     rw[aU]
     have kk:Kd (.obj dq sdN [.int S.n,pA dX lT (fN S.kept nm (.fst b a)),pA dX iU (dW (fN S.kept nm (.fst b a))),shD S.eR]) μ:=kk
     rw[vN wf.kp.nd e,<- wput dE iU,pt_again e wf.kp.nd]at kk
     exact .keep (iR em kk)
 ·exact h.elim
theorem ok_drop {f:Addr}{fd:FuncData}(F:gG K "drop" "drop" yJ f fd)(T:iI mg)(df:fS K dq)(ml:OwnCls "Needed" uL mC "ValueError.__new__" mg base)(eP:fT P w K mg base)(jO:lN P w K mg base)(dU:eX P w K mg base):d7 P w K mg base (mB P w) 6 f fd ["stand", "row"] (jt (fW dq ju 4)):=by
 refine F.xg qz (fun ds μ Kd Kx h=>iL h) (fun fI A outer s H E hr eI Kb Z=>⟨_,(dk (i7 (dv 1) ⟨(fJ (n:=2) rfl (dt (qN 2 qz.nd) (dt (qN 3 qz.nd) fb))),(gw (dG (dD 2) (de 2) (dG (dD 3) (de 3) gy dA) (dm (de 3) dA))),(gA (dm (de 2) (dm (de 3) dA)))⟩)
  (dk (iq (ic Z.z eP df.cl hr.le (dv 0) (a1 (dv 3))))
  (dk (fw (gF (pS (anyC rfl) yj (by rfl) T.any PyProof.Rows.boot_any (a1 (dC1 false (Ah (N:=["parts", "name"]) (js:=[none,some 3]) qz (by decide +kernel)) (sA (eG df.cl df.fG (dv 0))) (fun _ _ _ nd=>(qN 0 nd)) (fun _ _ _=>jW) (fun _ _ _=>(d_and (d_notN (dv 0)) (d_one (tN inC so_inT (dv 1) (oO (dv 0) qM (ir dg)) (by with_unfolding_all rfl)))))))))
  (dr (ia Z rfl ml ai (by decide) ai rfl (a1 du)))
  eM)
  (dk (qS 4 qz.nd (qC jO hr (a2 (eG df.cl df.fG (dv 0)) (dv 3))))
  (dr (dP (zG (oP dU hr.le rfl (dh (eG df.cl df.gq (dv 0)) (dh (dv 4) (dh (qC jO hr (a2 (eG df.cl df.g9 (dv 0)) (dv 3))) (dh (eG df.cl df.iB (dv 0)) fB)))))))))))),fun ds μ m Kd Kx hm hl em h hK=>?_⟩)
 unfold fW at h
 split at h
 ·rename_i x y
  obtain⟨_,S,d,m',rfl,rfl,hw,wf,hm',dZ,kk⟩:=h
  obtain⟨nm,rfl⟩:∃ nm,d=.drop nm:=by cases d <;> first | exact⟨_,rfl⟩ | cases hw
  have ku:=wf.ku
  have lf:(dW S.kept).length<=20:=ar (cf _ _) ku
  refine⟨rfl,⟨rfl,rfl⟩,eE em,⟨_,eE em⟩,S,rfl,?_⟩
  have kk:uy _ Kd Kx (if fV S nm=false then some 11 else if j0 S nm=true then some 14 else none) (kW dq { S with kept:=gL S.kept nm}) μ:=kk
  unfold fV at kk
  cases e:dw S.kept nm with
  | none=>rw[e]at kk;exact(fm hK em kk).2
  | some x =>
   rw[e]at kk
   have kk:uy _ Kd Kx (if j0 S nm=true then some 14 else none) (kW dq { S with kept:=gL S.kept nm}) μ:=kk
   refine⟨rfl,_,rfl,fun _=>⟨by rw[fg];exact sz (by omega),?_⟩⟩
   refine pD trivial (fun p:Str×Pt=>lT p.2) (fun p=>D.bl (gc nm p.2)) (fun p _ K' k'=>?_) ?_
   ·obtain⟨z,y⟩:=p
    cases y with
    | fst b a=>exact k'
    | jn l r q =>
     refine⟨fun y=>absurd y.2 (show ¬ (2:Nat)=3 by decide),rfl,rfl,?_⟩
     have eb:(false != ([D.str l,D.str r].any fun d=>deq d (.str nm)))=gc nm (.jn l r q):=by
      rw[fne]
      simp only[bp,List.any_nil,deq,Bool.or_false]
      rfl
     show K' (some (.bl (false != ([D.str l,D.str r].any fun d=>deq d (.str nm))))) _
     rw[eb]
     exact k'
   ·refine⟨S.kept.map fun p=>gc nm p.2,by rw[aC];rfl,?_⟩
    have eb:((S.kept.map fun p=>gc nm p.2).any id)=j0 S nm:=by rw[List.any_map];rfl
    show if((S.kept.map fun p=>gc nm p.2).any id)=true then _ else _
    rw[eb]
    by_cases q:j0 S nm=true
    ·rw[ag q]at kk ⊢
     exact⟨zs,fm hK em kk⟩
    ·rw[ae q]at kk ⊢
     have sk:∀ {β:Type} {f:β->D} {l:List (Str×β)},∀ p∈(l.map fun p=>(dX p.1,f p.2)),(∃ i j,p.1=jR i/\dX nm=jR j)\/∃ i j,p.1=dX i/\dX nm=dX j:=fun p hp=>by
      obtain⟨z,_,rfl⟩:=List.mem_map.mp hp;exact .inr ⟨_,_,rfl,rfl⟩
     have nf:((dW S.kept).map (·.1)).Nodup:=wf.kp.nd.sublist vM
     refine⟨rfl,_,rfl,_,_,(fZ dX lT S.kept).1,(fZ dX lT S.kept).2,by rw[kd_len];omega,kd_nd dE lT wf.kp.nd,rfl,sk,?_⟩
     refine⟨rfl,_,rfl,rfl,_,rfl,_,_,(fZ dX iU (dW S.kept)).1,(fZ dX iU (dW S.kept)).2,by rw[kd_len];omega,kd_nd dE iU nf,rfl,sk,rfl,_,rfl,fc,rfl,?_⟩
     rw[fM]
     have mf:∀ {β:Type} {n:Nat} {f:β->D} (hf:∀ b,wJ n (f b)) (l:List (Str×β)),pj n (((l.map fun p=>(dX p.1,f p.2)).filter fun p=>decide (p.1≠dX nm)).map (·.2)):=fun hf l=>jw fun d hd=>by
      obtain⟨z,hz,rfl⟩:=List.mem_map.mp hd
      obtain⟨z2,_,rfl⟩:=List.mem_map.mp (List.mem_filter.mp hz).1
      exact hf _
     refine Fz.obj (aa _) fc ⟨trivial,mf tf _,mf qo _,mr_sh _,trivial⟩ (gm hm) ?_
     rw[aU]
     have kk:Kd (.obj dq sdN [.int S.n,pA dX lT (gL S.kept nm),pA dX iU (dW (gL S.kept nm)),shD S.eR]) μ:=kk
     rw[firsts_drop,<- wdrop dE,<- wdrop dE]at kk
     exact .keep (iR em kk)
 ·exact h.elim
theorem ok_free {f:Addr}{fd:FuncData}(F:gG K "free" "free" yH f fd)(T:iI mg)(df:fS K dq)(iG:jM P w K mg base)(jO:lN P w K mg base)(dU:eX P w K mg base):d7 P w K mg base (mB P w) 6 f fd ["stand", "row"] (jt (fW dq ju 5)):=by
 refine F.xg yu (fun ds μ Kd Kx h=>iL h) (fun fI A outer s H E hr eI Kb Z=>⟨_,(dk (i7 (dv 1) ⟨(fJ (n:=2) rfl (dt (qN 2 yu.nd) (dt (qN 3 yu.nd) fb))),(gw (dG (dD 2) (de 2) (dG (dD 3) (de 3) gy dA) (dm (de 3) dA))),(gA (dm (de 2) (dm (de 3) dA)))⟩)
  (dk (iq (lH Z.z iG hr.le rfl (a2 (dv 0) (dv 3))))
  (dr (dP (zG (oP dU hr.le rfl (dh (eG df.cl df.gq (dv 0)) (dh (eG df.cl df.fG (dv 0)) (dh (eG df.cl df.g9 (dv 0)) (dh (qC jO hr (a2 (eG df.cl df.iB (dv 0)) (dv 3))) fB)))))))))),fun ds μ m Kd Kx hm hl em h hK=>?_⟩)
 unfold fW at h
 split at h
 ·rename_i x y
  obtain⟨_,S,d,m',rfl,rfl,hw,wf,hm',dZ,kk⟩:=h
  obtain⟨p,rfl⟩:∃ p,d=.free p:=by cases d <;> first | exact⟨_,rfl⟩ | cases hw
  have shl:=wf.shl
  refine⟨rfl,eE em,⟨_,eE em⟩,S,rfl,?_⟩
  have kk:uy _ Kd Kx (fE S p) (kW dq { S with eR:=gL S.eR p}) μ:=kk
  cases e:fE S p with
  | some i=>rw[e]at kk;exact(fm hK em kk).2
  | none =>
   rw[e]at kk
   refine⟨rfl,_,rfl,rfl,_,rfl,rfl,_,rfl,rfl,_,rfl,_,_,(fZ jR (fun _=>.bl true) S.eR).1,(fZ jR (fun _=>.bl true) S.eR).2,by rw[fg];omega,kd_nd hG (fun _:Unit=>D.bl true) wf.shn,rfl,fun q hq=>?_,fc,rfl,?_⟩
   ·obtain⟨z,_,rfl⟩:=List.mem_map.mp hq;exact .inl ⟨_,_,rfl,rfl⟩
   rw[fM]
   refine Fz.obj (aa _) fc ⟨trivial,tm tf _,tm qo _,jw fun d hd=>?_,trivial⟩ (gm hm) ?_
   ·obtain⟨z,hz,rfl⟩:=List.mem_map.mp hd
    obtain⟨z2,_,rfl⟩:=List.mem_map.mp (List.mem_filter.mp hz).1
    exact True.intro
   rw[aU]
   have kk:Kd (.obj dq sdN [.int S.n,pA dX lT S.kept,pA dX iU (dW S.kept),pA jR (fun _=>.bl true) (gL S.eR p)]) μ:=kk
   rw[<- wdrop hG]at kk
   exact .keep (iR em kk)
 ·exact h.elim
theorem ok_shut {f:Addr}{fd:FuncData}(F:gG K "shut" "shut" yD f fd)(T:iI mg)(df:fS K dq)(iG:jM P w K mg base)(gC:jA P w K mg base)(dU:eX P w K mg base):d7 P w K mg base (mB P w) 6 f fd ["stand", "row"] (jt (fW dq ju 6)):=by
 refine F.xg yt (fun ds μ Kd Kx h=>iL h) (fun fI A outer s H E hr eI Kb Z=>⟨_,(dk (i7 (dv 1) ⟨(fJ (n:=2) rfl (dt (qN 2 yt.nd) (dt (qN 3 yt.nd) fb))),(gw (dG (dD 2) (de 2) (dG (dD 3) (de 3) gy dA) (dm (de 3) dA))),(gA (dm (de 2) (dm (de 3) dA)))⟩)
  (dk (iq (lH Z.z iG hr.le rfl (a2 (dv 0) (dv 3))))
  (dr (dP (zG (oP dU hr.le rfl (dh (eG df.cl df.gq (dv 0)) (dh (eG df.cl df.fG (dv 0)) (dh (eG df.cl df.g9 (dv 0)) (dh (qC gC hr (a3 (eG df.cl df.iB (dv 0)) (dv 3) sI)) fB)))))))))),fun ds μ m Kd Kx hm hl em h hK=>?_⟩)
 unfold fW at h
 split at h
 ·rename_i x y
  obtain⟨_,S,d,m',rfl,rfl,hw,wf,hm',dZ,kk⟩:=h
  obtain⟨p,rfl⟩:∃ p,d=.eR p:=by cases d <;> first | exact⟨_,rfl⟩ | cases hw
  have shl:=wf.shl
  refine⟨rfl,eE em,⟨_,eE em⟩,S,rfl,?_⟩
  have kk:uy _ Kd Kx (fE S p) (kW dq { S with eR:=fN S.eR p ()}) μ:=kk
  cases e:fE S p with
  | some i=>rw[e]at kk;exact(fm hK em kk).2
  | none =>
   rw[e]at kk
   refine⟨rfl,_,rfl,rfl,_,rfl,rfl,_,rfl,rfl,_,rfl,_,_,(fZ jR (fun _=>.bl true) S.eR).1,(fZ jR (fun _=>.bl true) S.eR).2,by rw[fg];omega,rfl,fc,rfl,?_⟩
   rw[fM]
   refine Fz.obj (aa _) fc ⟨trivial,tm tf _,tm qo _,mU (mr_g (f:=fun _:Unit=>D.bl true) (fun _=>True.intro) _) True.intro,trivial⟩ (gm hm) ?_
   rw[aU]
   have kk:Kd (.obj dq sdN [.int S.n,pA dX lT S.kept,pA dX iU (dW S.kept),pA jR (fun _=>.bl true) (fN S.eR p ())]) μ:=kk
   rw[<- wput hG (fun _:Unit=>D.bl true)]at kk
   exact .keep (iR em kk)
 ·exact h.elim
theorem t6 {f:Addr}{fd:FuncData}(F:gG K "stand_behind" "stand_behind" iY f fd)(T:iI mg)(zU:Tab P w K mg "DEEDS" [("put",a_put),("join",wy),("found",rR),("aged",wB),("drop",wA),("free",wz),("shut",wx)])(M_put:mg "put"=some (.ref a_put))(M_join:mg "join"=some (.ref wy))(zZ:mg "found"=some (.ref rR))(M_aged:mg "aged"=some (.ref wB))(M_drop:mg "drop"=some (.ref wA))(M_free:mg "free"=some (.ref wz))(M_shut:mg "shut"=some (.ref wx))(C_put:c_put P w K mg base)(C_join:c_join P w K mg base)(C_found:c_found P w K mg base)(C_aged:c_aged P w K mg base)(C_drop:c_drop P w K mg base)(C_free:c_free P w K mg base)(C_shut:c_shut P w K mg base):d7 P w K mg base (mB P w) 7 f fd ["stand", "row"] (jt (oM dq ju)):=by
 have CV:=jz C_put M_put (jz C_join M_join (jz C_found zZ (jz C_aged M_aged (jz C_drop M_drop (jz C_free M_free (jz C_shut M_shut calv_nil))))))
 refine F.xg nG (fun ds μ Kd Kx h=>zw h) (fun fI A outer s H E hr eI Kb Z=>⟨_,(dk (qS 2 nG.nd (d_tab zU rfl (eQ (dv 1) dg) (fun _ _=>rfl)))
  (dr (dP (d_callV (i:=2) Z.z CV hr.le rfl (by first | exact Or.inl rfl | exact Or.inr (Or.inl rfl) | exact Or.inr (Or.inr rfl)) (a2 (dv 0) (dv 1)))))),fun ds μ m Kd Kx hm hl em h hK=>?_⟩)
 unfold oM at h
 split at h
 ·rename_i x y
  obtain⟨_,S,d,m',rfl,rfl,wf,hm',dZ,kk⟩:=h
  have kk:uy ju (gK eI H m Kd) Kb (i9 S d) (kW dq (pK S d)) (μ.set 0 (.gx eI H)):=by
   unfold uy at kk ⊢
   cases e:i9 S d with
   | some i=>rw[e]at kk;exact(fm hK em kk).2
   | none=>rw[e]at kk;exact iR em kk
  have fin:∀ w,ddW d=w->fW dq ju w [kW dq S,pR d] (μ.set 0 (.gx eI H)) (retN (μ.set 0 (.gx eI H)).length (gK eI H m Kd)).rt Kb:=fun w hw=>⟨⟨_,eE em⟩,S,d,m',rfl,rfl,hw,wf,hm',dZ,by
   unfold uy at kk ⊢
   cases e:i9 S d with
   | some i=>rw[e]at kk;exact kk
   | none=>rw[e]at kk;exact .keep kk⟩
  cases d with
  | put nm b a=>exact dj rfl ⟨a_put,rfl,_,aw,eE em,fin 0 rfl⟩
  | join nm l r p=>exact dj rfl ⟨wy,rfl,_,mZ _ aw,eE em,fin 1 rfl⟩
  | found nm b a=>exact dj rfl ⟨rR,rfl,_,mZ _ (mZ _ aw),eE em,fin 2 rfl⟩
  | kS nm b=>exact dj rfl ⟨wB,rfl,_,mZ _ (mZ _ (mZ _ aw)),eE em,fin 3 rfl⟩
  | drop nm=>exact dj rfl ⟨wA,rfl,_,mZ _ (mZ _ (mZ _ (mZ _ aw))),eE em,fin 4 rfl⟩
  | free nm=>exact dj rfl ⟨wz,rfl,_,mZ _ (mZ _ (mZ _ (mZ _ (mZ _ aw)))),eE em,fin 5 rfl⟩
  | eR nm=>exact dj rfl ⟨wx,rfl,_,mZ _ (mZ _ (mZ _ (mZ _ (mZ _ (mZ _ aw))))),eE em,fin 6 rfl⟩
 ·exact h.elim
theorem su {f:Addr}{fd:FuncData}(F:gG K "__init__" "Room.__init__" iJ f fd)(T:iI mg)(dF:jS K cRoom)(df:fS K dq)(kz:OwnCls "BadSize" rO mC "ValueError.__new__" mg base)(sR:z6 mg "LONGEST" 40)(dU:eX P w K mg base):d7 P w K mg base (mB P w) 3 f fd ["self", "size"] (jt (rj cRoom dq ju)):=by
 refine F.xg se (fun ds μ Kd Kx h=>fRoInit_len h) (fun fI A outer s H E hr eI Kb Z=>⟨_,(dk (fw (PW.pt (og (qLt (dv 1) dg) (jZ (qGt (dv 1) (zF rfl sR)))))
  (dr (ia Z rfl kz ai (by decide) ai rfl (a1 du)))
  eM)
  (dk (ve dF.cl dF.vA (ik true (a1 (zG (oP dU hr.le rfl (dh (dv 1) (dh rF (dh rF (dh rF fB)))))))) (dv 0))
  (dk (ve dF.cl dF.n_rows (ik true fB) (dv 0))
  (dr (ve dF.cl dF.sv dg (dv 0)))))),fun ds μ m Kd Kx hm hl em h hK=>?_⟩)
 unfold rj at h
 split at h
 ·rename_i k n
  obtain⟨_,k0,ek,kk⟩:=h
  refine lZ (c:=n<1) (fun q=>⟨zs,fm hK em (by rw[ae (by omega)]at kk;exact kk)⟩) (fun q1=>lZ (c:=(40:Int)<n) (fun q=>⟨zs,fm hK em (by rw[ae (by omega)]at kk;exact kk)⟩) (fun q2=>?_))
  rw[ag (by omega)]at kk
  have hk:k<μ.length:=(lE ek).1
  have hkg:k<(μ.set 0 (.gx eI H)).length:=by rw[aH];exact hk
  have eg:(μ.set 0 (.gx eI H))[k]?=some (.ins cRoom [] []):=by rw[ao (bb k0)];exact ek
  refine⟨fc,rfl,?_⟩
  rw[fM]
  refine Fz.obj (aa _) fc ⟨trivial,trivial,trivial,trivial,trivial⟩ (gm hm) ?_
  rw[aU]
  refine⟨zs,?_⟩
  refine⟨_,_,fF (by rw[uD hkg];exact eg),rfl,by decide,?_⟩
  rw[cG _ _ hkg]
  refine⟨zs,?_⟩
  have hk2:∀ X:MO,k<((μ.set 0 (.gx eI H)).set k X).length:=fun X=>by rw[aH];exact hkg
  refine⟨_,_,fF (by rw[aI,uD (hk2 _),az hkg]),rfl,by show 1<1000;decide,?_⟩
  rw[aI,cG _ _ (hk2 _),c9]
  refine⟨_,_,fF (by rw[uD (hk2 _),az hkg]),rfl,by show 2<1000;decide,.keep ?_⟩
  rw[cG _ _ (hk2 _),c9]
  have h0:0<μ.length:=(lE em).1
  refine⟨by rw[uD (by rw[aH,aH];exact h0),ao k0,az h0],?_⟩
  rw[cG _ _ (by rw[aH,aH];exact h0),cA _ _ k0,q9 em]
  have l0:(μ.set 0 (.gx eI H)).length=μ.length:=aH
  show Kd .fH (μ.set k (.ins cRoom roN [.mr (μ.set 0 (.gx eI H)).length,.mr ((μ.set 0 (.gx eI H)).set k _++[_]).length,.int 0])++[.lst [kW dq ⟨n,[],[]⟩],.lst []])
  simp only[kH,aH,aQ]
  exact kk
 ·exact h.elim
theorem ok_Room_now {f:Addr}{fd:FuncData}(F:gG K "now" "Room.now" mO f fd)(T:iI mg)(dF:jS K cRoom):d7 P w K mg base jr 1 f fd ["self"] (gv (fNow cRoom dq)):=by
 refine F.nT sc_Room_now (fun ds μ Kd h=>by unfold fNow at h;split at h <;> first | rfl | exact h.elim) (fun fI A outer s H E hr=>⟨_,(dr (dP (eQ (eG dF.cl dF.vA (dv 0)) (eG dF.cl dF.sv (dv 0))))),fun ds μ Kd hm hl h=>?_⟩)
 unfold fNow at h
 split at h
 ·rename_i k
  obtain⟨j1,j2,ss,rs,d,S,ra,es,kk⟩:=h
  exact⟨.mr j1,by rw[fF ra.ins];rfl,.int d,by rw[fF ra.ins];rfl,dj (kG ra.l1) (dj (atI_maps es) (Fz.keep kk))⟩
 ·exact h.elim
theorem y9 {f:Addr}{fd:FuncData}(F:gG K "deed" "Room.deed" lh f fd)(T:iI mg)(dF:jS K cRoom)(eV:gB P w K mg base)(wI:oQ P w K mg base):d7 P w K mg base (mB P w) 8 f fd ["self", "row"] (jt (vU cRoom dq ju)):=by
 refine F.xg qE (fun ds μ Kd Kx h=>fDeedR_len h) (fun fI A outer s H E hr eI Kb Z=>⟨_,(dk (qS 2 qE.nd (lH Z.z wI hr.le rfl (a2 (gh eV dF.cl hr.le (dv 0)) (dv 1))))
  (dk (s_slE (eG dF.cl dF.vA (dv 0)) (nU (eG dF.cl dF.sv (dv 0)) dg) (ik false (a1 (dv 2))))
  (dk (s_slE (eG dF.cl dF.n_rows (dv 0)) (eG dF.cl dF.sv (dv 0)) (ik false (a1 (dv 1))))
  (dr (s_augFA dF.cl dF.sv (dv 0) dg))))),fun ds μ m Kd Kx hm hl em h hK=>?_⟩)
 unfold vU at h
 split at h
 ·rename_i k y
  obtain⟨_,j1,j2,ss,rs,d,S,e,ra,es,rfl,dZ,ku,kk⟩:=h
  have rg:=ra.gx (m:=.gx eI H)
  obtain⟨S',uJ,wf⟩:=ra.now
  rw[es]at uJ
  cases uJ
  have:=ra.le
  have:=ra.len
  have rc:sZ cRoom "now" (μ.set 0 (.gx eI H)) (.mr k):=by show(kQ _ _ _).map _=_;rw[fF rg.ins];rfl
  refine⟨rc,j1,j2,ss,rs,d,S,rg,es,eE em,⟨_,eE em⟩,S,e,d,rfl,rfl,wf,by omega,dZ,?_⟩
  unfold uy
  cases er:i9 S e with
  | some i=>rw[er]at kk;exact(fm hK em kk).2
  | none =>
   rw[er]at kk
   obtain⟨lk,la,lb⟩:=rg.lk
   have few2:=ra.ku
   have f1:∀ {ν:MS},ν[k]?=some (.ins cRoom roN [.mr j1,.mr j2,.int (d:Int)])->kQ cRoom ν k=some (roN,[.mr j1,.mr j2,.int (d:Int)]):=fun h=>fF h
   refine⟨zs,.mr j1,by rw[f1 rg.ins];rfl,.int d,by rw[f1 rg.ins];rfl,_,kG rg.l1,by omega,by rw[fg];omega,by rw[fg];exact sz (by show _+1<=_;omega),?_⟩
   have i1:∀ X,((μ.set 0 (.gx eI H)).set j1 X)[k]?=some (.ins cRoom roN [.mr j1,.mr j2,.int (d:Int)]):=fun X=>by rw[ao (bb ra.ka)];exact rg.ins
   refine⟨zs,.mr j2,by rw[f1 (i1 _)];rfl,.int d,by rw[f1 (i1 _)];rfl,_,kG (by rw[ao ra.ab];exact rg.l2),by omega,by rw[fg];omega,by rw[fg];exact sz (by show _+1<=_;omega),?_⟩
   have i2:∀ X Y,(((μ.set 0 (.gx eI H)).set j1 X).set j2 Y)[k]?=some (.ins cRoom roN [.mr j1,.mr j2,.int (d:Int)]):=fun X Y=>by rw[ao (bb ra.kb)];exact i1 X
   refine⟨d,by rw[f1 (i2 _ _)];rfl,_,_,f1 (i2 _ _),rfl,by show 3<1000;decide,.keep ?_⟩
   obtain⟨g1,g2⟩:=putR_gx ra (m:=.gx eI H) (ss':=ss.take (d+1)++[pK S e]) (rs':=rs.take d++[e]) (d':=d+1) em
   have eq:((((μ.set 0 (.gx eI H)).set j1 (.lst ((ss.map (kW dq)).take ((d:Int)+1).toNat++[kW dq (pK S e)]))).set j2 (.lst ((rs.map pR).take (d:Int).toNat++[pR e]))).set k (.ins cRoom roN [.mr j1,.mr j2,.int ((d:Int)+1)]))=mR cRoom dq (μ.set 0 (.gx eI H)) k j1 j2 (ss.take (d+1)++[pK S e]) (rs.take d++[e]) (d+1):=by
    unfold mR
    rw[aG,aG,List.map_take,List.map_take,show((d:Int)+1).toNat=d+1 by omega,gxK]
    rfl
   show gK eI H m Kd .fH ((((μ.set 0 (.gx eI H)).set j1 (.lst ((ss.map (kW dq)).take ((d:Int)+1).toNat++[kW dq (pK S e)]))).set j2 (.lst ((rs.map pR).take (d:Int).toNat++[pR e]))).set k (.ins cRoom roN [.mr j1,.mr j2,.int ((d:Int)+1)]))
   rw[eq]
   exact⟨g2,by rw[g1];exact kk⟩
 ·exact h.elim
theorem xf {f:Addr}{fd:FuncData}(F:gG K "deeds" "Room.deeds" ke f fd)(T:iI mg)(dF:jS K cRoom):d7 P w K mg base jr 1 f fd ["self"] (gv (zt cRoom dq true)):=by
 refine F.nT wX (fun ds μ Kd h=>by unfold zt at h;split at h <;> first | rfl | exact h.elim) (fun fI A outer s H E hr=>⟨_,(dr (dP (jI false (eG dF.cl dF.n_rows (dv 0)) qM (ir (eG dF.cl dF.sv (dv 0)))))),fun ds μ Kd hm hl h=>?_⟩)
 unfold zt at h
 split at h
 ·rename_i k
  obtain⟨j1,j2,ss,rs,d,ra,kk⟩:=h
  refine⟨_,by rw[fF ra.ins];rfl,_,by rw[fF ra.ins];rfl,dj (kG ra.l2) ?_⟩
  rw[cutD_to]
  rw[ag rfl]at kk
  exact .keep kk
 ·exact h.elim
theorem y7 {f:Addr}{fd:FuncData}(F:gG K "size" "Room.size" lg f fd)(T:iI mg)(dF:jS K cRoom)(df:fS K dq)(eV:gB P w K mg base):d7 P w K mg base jr 2 f fd ["self"] (gv (iw cRoom dq gSize)):=by
 refine F.nT yx (fun ds μ Kd h=>by unfold iw at h;split at h <;> first | rfl | exact h.elim) (fun fI A outer s H E hr=>⟨_,(dr (dP (eG df.cl df.gq (gh eV dF.cl hr.le (dv 0))))),fun ds μ Kd hm hl h=>?_⟩)
 unfold iw at h
 split at h
 ·rename_i k
  obtain⟨j1,j2,ss,rs,d,S,ra,es,kk⟩:=h
  exact⟨by show(kQ _ _ _).map _=_;rw[fF ra.ins];rfl,j1,j2,ss,rs,d,S,ra,es,rfl,_,rfl,.keep kk⟩
 ·exact h.elim
theorem xc {f:Addr}{fd:FuncData}(F:gG K "names" "Room.names" kc f fd)(T:iI mg)(dF:jS K cRoom)(df:fS K dq)(eV:gB P w K mg base):d7 P w K mg base jr 2 f fd ["self"] (gv (iw cRoom dq gNames)):=by
 refine F.nT wW (fun ds μ Kd h=>by unfold iw at h;split at h <;> first | rfl | exact h.elim) (fun fI A outer s H E hr=>⟨_,(dr (dP (d_ty (listD rfl) (qu (m:=false)) (by rfl) T.list bf (a1 (eG df.cl df.fG (gh eV dF.cl hr.le (dv 0))))))),fun ds μ Kd hm hl h=>?_⟩)
 unfold iw at h
 split at h
 ·rename_i k
  obtain⟨j1,j2,ss,rs,d,S,ra,es,kk⟩:=h
  refine⟨by show(kQ _ _ _).map _=_;rw[fF ra.ins];rfl,j1,j2,ss,rs,d,S,ra,es,rfl,_,rfl,dj rfl ?_⟩
  unfold gNames at kk
  show Fz _ Kd (.lst ((S.kept.map fun p=>dX p.1).map mW)) μ
  rw[aC]
  exact .keep kk
 ·exact h.elim
theorem zb {f:Addr}{fd:FuncData}(F:gG K "bars" "Room.bars" lq f fd)(T:iI mg)(dF:jS K cRoom)(df:fS K dq)(eV:gB P w K mg base)(nA:ni P w K mg base):d7 P w K mg base (mB P w) 5 f fd ["self", "name"] (jt (jd cRoom dq ju gBars)):=by
 refine F.xg yy (fun ds μ Kd Kx h=>oK h) (fun fI A outer s H E hr eI Kb Z=>⟨_,(dr (dP (eQ (ic Z.z nA df.cl hr.le (gh eV dF.cl hr.le (dv 0)) (a1 (dv 1))) dg))),fun ds μ m Kd Kx hm hl em h hK=>?_⟩)
 unfold jd at h
 split at h
 ·rename_i k nm
  obtain⟨_,j1,j2,ss,rs,d,S,ra,es,kk⟩:=h
  have rg:=ra.gx (m:=.gx eI H)
  obtain⟨S',uJ,wf⟩:=ra.now
  rw[es]at uJ
  cases uJ
  refine⟨by show(kQ _ _ _).map _=_;rw[fF rg.ins];rfl,j1,j2,ss,rs,d,S,rg,es,⟨rfl,rfl⟩,eE em,⟨_,eE em⟩,S,d,rfl,wf,?_⟩
  cases e:dw S.kept nm with
  | none=>rw[e]at kk;exact(fm hK em kk).2
  | some x=>rw[e]at kk;exact dj rfl (.keep (iR em kk))
 ·exact h.elim
theorem ok_Room_age {f:Addr}{fd:FuncData}(F:gG K "age" "Room.age" mP f fd)(T:iI mg)(dF:jS K cRoom)(df:fS K dq)(eV:gB P w K mg base)(nA:ni P w K mg base):d7 P w K mg base (mB P w) 5 f fd ["self", "name"] (jt (jd cRoom dq ju gAge)):=by
 refine F.xg sc_Room_age (fun ds μ Kd Kx h=>oK h) (fun fI A outer s H E hr eI Kb Z=>⟨_,(dr (dP (eQ (ic Z.z nA df.cl hr.le (gh eV dF.cl hr.le (dv 0)) (a1 (dv 1))) dg))),fun ds μ m Kd Kx hm hl em h hK=>?_⟩)
 unfold jd at h
 split at h
 ·rename_i k nm
  obtain⟨_,j1,j2,ss,rs,d,S,ra,es,kk⟩:=h
  have rg:=ra.gx (m:=.gx eI H)
  obtain⟨S',uJ,wf⟩:=ra.now
  rw[es]at uJ
  cases uJ
  refine⟨by show(kQ _ _ _).map _=_;rw[fF rg.ins];rfl,j1,j2,ss,rs,d,S,rg,es,⟨rfl,rfl⟩,eE em,⟨_,eE em⟩,S,d,rfl,wf,?_⟩
  cases e:dw S.kept nm with
  | none=>rw[e]at kk;exact(fm hK em kk).2
  | some x=>rw[e]at kk;exact dj rfl (.keep (iR em kk))
 ·exact h.elim
theorem xb {f:Addr}{fd:FuncData}(F:gG K "parts" "Room.parts" j9 f fd)(T:iI mg)(dF:jS K cRoom)(df:fS K dq)(eV:gB P w K mg base)(iH:jN P w K mg base):d7 P w K mg base (mB P w) 5 f fd ["self", "name"] (jt (jd cRoom dq ju vL)):=by
 refine F.xg wV (fun ds μ Kd Kx h=>oK h) (fun fI A outer s H E hr eI Kb Z=>⟨_,(dr (dP (ic Z.z iH df.cl hr.le (gh eV dF.cl hr.le (dv 0)) (a1 (dv 1))))),fun ds μ m Kd Kx hm hl em h hK=>?_⟩)
 unfold jd at h
 split at h
 ·rename_i k nm
  obtain⟨_,j1,j2,ss,rs,d,S,ra,es,kk⟩:=h
  have rg:=ra.gx (m:=.gx eI H)
  refine⟨by show(kQ _ _ _).map _=_;rw[fF rg.ins];rfl,j1,j2,ss,rs,d,S,rg,es,⟨rfl,rfl⟩,eE em,⟨_,eE em⟩,S,rfl,?_⟩
  unfold vL at kk
  cases e:dw S.kept nm with
  | none=>rw[e]at kk;exact(fm hK em kk).2
  | some x=>rw[e]at kk;exact .keep (iR em kk)
 ·exact h.elim
theorem vq {f:Addr}{fd:FuncData}(F:gG K "source" "Room.source" jH f fd)(T:iI mg)(dF:jS K cRoom)(df:fS K dq)(eV:gB P w K mg base)(kP:kL P w K mg base):d7 P w K mg base (mB P w) 5 f fd ["self", "name", "bar"] (jt (oJ cRoom dq ju)):=by
 refine F.xg vd (fun ds μ Kd Kx h=>zr h) (fun fI A outer s H E hr eI Kb Z=>⟨_,(dr (dP (ic Z.z kP df.cl hr.le (gh eV dF.cl hr.le (dv 0)) (a2 (dv 1) (dv 2))))),fun ds μ m Kd Kx hm hl em h hK=>?_⟩)
 unfold oJ at h
 split at h
 ·rename_i k nm bar
  obtain⟨_,j1,j2,ss,rs,d,S,ra,es,kk⟩:=h
  have rg:=ra.gx (m:=.gx eI H)
  obtain⟨S',uJ,wf⟩:=ra.now
  rw[es]at uJ
  cases uJ
  refine⟨by show(kQ _ _ _).map _=_;rw[fF rg.ins];rfl,j1,j2,ss,rs,d,S,rg,es,⟨rfl,rfl⟩,eE em,⟨_,eE em⟩,S,rfl,wf.kp,?_⟩
  cases e:dw S.kept nm with
  | none=>rw[e]at kk;exact(fm hK em kk).2
  | some x =>
   rw[e]at kk
   have kk:(if 0<=bar/\bar<S.n then Kd (srcD (srcOf S.kept nm bar)) μ else _):=kk
   show(if 0<=bar/\bar<S.n then _ else _)
   by_cases q:0<=bar/\bar<S.n
   ·rw[ag q]at kk ⊢;exact .keep (iR em kk)
   ·rw[ae q]at kk ⊢;exact(fm hK em kk).2
 ·exact h.elim
theorem za {f:Addr}{fd:FuncData}(F:gG K "cuts" "Room.cuts" lj f fd)(T:iI mg)(dF:jS K cRoom)(df:fS K dq)(eV:gB P w K mg base)(lS:lO P w K mg base):d7 P w K mg base jr 5 f fd ["self"] (gv (iw cRoom dq gCuts)):=by
 refine F.nT j5 (fun ds μ Kd h=>by unfold iw at h;split at h <;> first | rfl | exact h.elim) (fun fI A outer s H E hr=>⟨_,(dk (i7 (gh lS df.cl hr.le (gh eV dF.cl hr.le (dv 0))) ⟨(fJ (n:=3) rfl (dt (qN 1 j5.nd) (dt (qN 2 j5.nd) (dt (qN 3 j5.nd) fb)))),(gw (dG (dD 1) (de 1) (dG (dD 2) (de 2) (dG (dD 3) (de 3) gy dA) (dm (de 3) dA)) (dm (de 2) (dm (de 3) dA)))),(gA (dm (de 1) (dm (de 2) (dm (de 3) dA))))⟩)
  (dr (dP (dv 2)))),fun ds μ Kd hm hl h=>?_⟩)
 unfold iw at h
 split at h
 ·rename_i k
  obtain⟨j1,j2,ss,rs,d,S,ra,es,kk⟩:=h
  obtain⟨S',uJ,wf⟩:=ra.now
  rw[es]at uJ
  cases uJ
  exact⟨by show(kQ _ _ _).map _=_;rw[fF ra.ins];rfl,j1,j2,ss,rs,d,S,ra,es,⟨rfl,rfl⟩,S,d,rfl,wf,rfl,.keep kk⟩
 ·exact h.elim
theorem xa {f:Addr}{fd:FuncData}(F:gG K "takes" "Room.takes" j8 f fd)(T:iI mg)(dF:jS K cRoom)(df:fS K dq)(eV:gB P w K mg base)(lS:lO P w K mg base):d7 P w K mg base jr 5 f fd ["self"] (gv (iw cRoom dq sE)):=by
 refine F.nT jC (fun ds μ Kd h=>by unfold iw at h;split at h <;> first | rfl | exact h.elim) (fun fI A outer s H E hr=>⟨_,(dk (i7 (gh lS df.cl hr.le (gh eV dF.cl hr.le (dv 0))) ⟨(fJ (n:=3) rfl (dt (qN 1 jC.nd) (dt (qN 2 jC.nd) (dt (qN 3 jC.nd) fb)))),(gw (dG (dD 1) (de 1) (dG (dD 2) (de 2) (dG (dD 3) (de 3) gy dA) (dm (de 3) dA)) (dm (de 2) (dm (de 3) dA)))),(gA (dm (de 1) (dm (de 2) (dm (de 3) dA))))⟩)
  (dr (dP (dv 3)))),fun ds μ Kd hm hl h=>?_⟩)
 unfold iw at h
 split at h
 ·rename_i k
  obtain⟨j1,j2,ss,rs,d,S,ra,es,kk⟩:=h
  obtain⟨S',uJ,wf⟩:=ra.now
  rw[es]at uJ
  cases uJ
  exact⟨by show(kQ _ _ _).map _=_;rw[fF ra.ins];rfl,j1,j2,ss,rs,d,S,ra,es,⟨rfl,rfl⟩,S,d,rfl,wf,rfl,.keep kk⟩
 ·exact h.elim
theorem xK {ds:List D}{μ:MS}{Kd:DK}(h:rp ds μ Kd):∃ v0 v1,ds=[.mr v0,.int v1]:=by
 unfold rp at h
 rcases ds with _ | ⟨z0,ds⟩
 ·exact False.elim h
 cases z0 <;> first | exact False.elim h | skip
 rcases ds with _ | ⟨z1,ds⟩
 ·exact False.elim h
 cases z1 <;> first | exact False.elim h | skip
 rcases ds with _ | ⟨zz,zs⟩
 ·exact⟨_,_,rfl⟩
 ·exact False.elim h
theorem ok_names {f:Addr}{fd:FuncData}(F:gG K "_law_names" "_law_names" um f fd)(T:iI mg)(eA:ng P w K mg base):d7 P w K mg base jr 2 f fd ["_law_box_here", "_law_many"] (gv rp):=by
 refine F.nT gH (fun ds μ Kd h=>by obtain⟨_,_,rfl⟩:=xK h;rfl) (fun fI A outer s H E hr=>⟨_,(dk (qS 2 gH.nd du)
  (dk (qS 3 gH.nd (nU dg (qC eA hr (a2 (dv 0) dg))))
  (dk (qS 4 gH.nd (qC eA hr (a2 (dv 0) (dv 3))))
  (dk (qS 5 gH.nd (tN eqC uY (qC eA hr (a2 (dv 0) dg)) dg (gz _)))
  (dk (sC1 6 false gH.nd (Ah (N:=["_law_k", "_law_box_here"]) (js:=[none,some 0]) gH (by decide +kernel)) (iC rfl T.range (a1 (dv 3))) (fun _ _ _ nd=>(qN 0 nd)) (fun _ _ _=>jW) (fun _ _ _=>(qC eA hr (a2 (dv 1) dg))))
  (dk (qS 7 gH.nd (ik true fB))
  (dk (sY bL rfl (iC rfl T.range (a1 (dv 1))) (qT 8 gH.nd)
  (dk (qS 9 gH.nd (d_ty listC (so_list (m:=true)) (by rfl) T.list bf (a1 (dv 6))))
  (xZ (fw (lW (gF (dv 5)))
  (dr (sC1 9 true gH.nd (Ah (N:=["_law_step", "_law_box_here"]) (js:=[none,some 0]) gH (by decide +kernel)) (iC rfl T.range (a1 (nU (nU (dv 4) dg) (qC eA hr (a2 (dv 0) (dMi (dv 3) (dv 4))))))) (fun _ _ _ nd=>(qN 0 nd)) (fun _ _ _=>jW) (fun _ _ _=>(qC eA hr (a2 (dv 1) dg)))))
  eM)
  (dk (s_asgS (rD zd so_i2 (nU (eQ (dv 6) (dv 4)) (rD mulC uX dg (dv 8))) dg) (dv 9) (dv 4))
  (dr (iq (zE PySem.F.plainAttrs_list PySem.F.slot_list_append PySem.F.type_list_append appendC xw (dv 7) (a1 (zE bC b7 bZ joinC qv du (a1 (dC1 false (Ah (N:=["_law_one", "_law_letters"]) (js:=[none,some 2]) gH (by decide +kernel)) (i_list (dv 9)) (fun _ _ _ nd=>(qN 0 nd)) (fun _ _ _=>jW) (fun _ _ _=>(eQ (dv 1) (dv 0))))))))))))))
  (dr (dP (dv 7)))))))))),fun ds μ Kd hm hl h=>?_⟩)
 obtain⟨k,many,rfl⟩:=xK h
 unfold rp at h
 ·skip
  obtain⟨hb,h1,h2,kk⟩:=h
  have hk:k<μ.length:=(lE hb).1
  have hb2:∀ g:MS,(μ++g)[k]?=some .box:=fun g=>by rw[uD hk];exact hb
  refine⟨hb,by decide,by decide,fun v v0 v1=>⟨hb,by omega,by omega,fun p p0 p1=>⟨hb,by decide,by decide,fun w w0 w1=>?_⟩⟩⟩
  refine⟨by omega,by omega,sz (by rw[gY];omega),?_⟩
  refine pC D.int (fun i=>0<=i/\i<26) trivial (fun d hd K' k'=>⟨hb,by decide,by decide,fun x x0 x1=>k' x ⟨x0,x1⟩⟩) fun fi hfl hf=>?_
  rw[gY]at hfl
  refine⟨zs,by omega,by omega,?_⟩
  refine jc (fun ds ρ μ'=>∃(i j:Nat) (rows:List Str) (g:MS) (u v':Option D),ds=kg i j/\i+j=many.toNat/\rows.length=i/\(∀ z∈rows,fK z=true)/\ρ=[some (.mr k),some (.int many),some (.str (Str.ofString "abcdefghijklmnopqrstuvwxyz")),some (.int (1+v)),some (.int p),some (.bl (false != decide (w=0))),some (.lst (fi.map D.int)),some (.mr μ.length),u,v']/\μ'=μ++.lst (rows.map D.str)::g) ⟨0,many.toNat,[],[],none,none,rfl,by omega,rfl,fun _ h=>(nomatch h),rfl,rfl⟩ ?_ ?_
  ·rintro d ds' ρ μ' ⟨i,j,rows,g,u,v',e,hij,hrl,hr0,rfl,rfl⟩
   refine⟨trivial,fun nx hnx=>?_⟩
   cases j with
   | zero=>cases e
   | succ j =>
    rw[kq]at e
    cases e
    refine⟨fun jV eW=>∃(g2:MS) (l:List Int),jV=[some (.mr k),some (.int many),some (.str (Str.ofString "abcdefghijklmnopqrstuvwxyz")),some (.int (1+v)),some (.int p),some (.bl (false != decide (w=0))),some (.lst (fi.map D.int)),some (.mr μ.length),some (.int i),some (.mr (μ++.lst (rows.map D.str)::g2).length)]/\eW=(μ++.lst (rows.map D.str)::g2)++[.lst (l.map D.int)]/\p<l.length/\l.length<=8/\∀ x∈l,0<=x/\x<26,?_,?_⟩
    ·refine eK (!(false != decide (w=0))) (fun K k=>k) (fun _=>?_) (fun _=>⟨g,fi,rfl,rfl,by omega,by omega,hf⟩)
     refine⟨by rw[aI];exact hb2 _,by omega,by omega,fun q q0 q1=>⟨by omega,by omega,sz (by rw[gY];omega),?_⟩⟩
     refine pC D.int (fun i=>0<=i/\i<26) trivial (fun d hd K' k'=>⟨by rw[aI];exact hb2 _,by decide,by decide,fun x x0 x1=>k' x ⟨x0,x1⟩⟩) fun l hl' hl2=>?_
     rw[gY]at hl'
     exact⟨g++[.lst (fi.map D.int)],l,by rw[aI];rfl,by simp only[aI,List.cons_append,List.nil_append],by omega,by omega,hl2⟩
    ·rintro jV eW ⟨g2,l,rfl,rfl,l1,l2,l3⟩
     obtain⟨n,rfl⟩:∃ n:Nat,p=(n:Int):=⟨p.toNat,by omega⟩
     obtain⟨a,ha⟩:∃ a,fi[n]?=some a:=⟨_,tL (by omega)⟩
     have m26:0<=(a+7*(i:Int))%26/\(a+7*(i:Int))%26<26:=⟨Int.emod_nonneg _ (by decide),Int.emod_lt_of_pos _ (by decide)⟩
     have ixj:ixN (l.map D.int).length (n:Int)=some n:=by
      unfold ixN;rw[fg,ag (by omega),ag (by omega),gxK]
     obtain⟨l',hl'⟩:∃ l',l'=l.set n ((a+7*(i:Int))%26):=⟨_,rfl⟩
     have ll:l'.length=l.length:=by rw[hl',aH]
     have l4:∀ x∈l',0<=x/\x<26:=fun x hx=>by
      rw[hl']at hx
      rcases List.mem_or_eq_of_mem_set hx with q | q
      ·exact l3 x q
      ·rw[q];exact m26
     refine dj (rP ha) ⟨.inl (by omega),show(0:Int)<26 by decide,?_⟩
     refine dj ze (dj ixj ?_)
     have es:(μ++MO.lst (rows.map D.str)::g2++[MO.lst (l.map D.int)]).set (μ++MO.lst (rows.map D.str)::g2).length (MO.lst ((l.map D.int).set n (.int ((a+7*(i:Int))%26))))=μ++MO.lst (rows.map D.str)::g2++[MO.lst (l'.map D.int)]:=by
      rw[fM,hl',List.map_set]
     rw[es]
     refine⟨lvM_ty (ds:=rows.map D.str) (kG (by rw[aI];exact jh)),rfl,?_⟩
     refine dj ze ⟨sz (by rw[fg];omega),?_⟩
     refine compW_ch l' (c:=fun x=>zf x (μ++.lst (rows.map D.str)::g2).length=some (l'.map D.int)) ze (fun x hx K' k'=>?_) fun cs cl cr=>?_
     ·obtain⟨c,e,c1,c2⟩:=abc_at (l4 x hx).1 (l4 x hx).2
      exact⟨zs,dj e (k' c ⟨c1,c2⟩)⟩
     ·refine⟨rfl,cs.map (fun c=>⟨#[c]⟩),by unfold lv;rw[aC];rfl,by rw[o7];omega,?_⟩
      rw[m3]
      refine dj (kG (ds:=rows.map D.str) (by rw[aI];exact jh)) ⟨by rw[fg];exact aq (m:=51) (by omega) (sz (by omega)),?_⟩
      rw[aI,List.cons_append,mG]
      refine hnx _ _ ⟨i+1,j,rows++[txt cs],g2++[.lst (l'.map D.int)],_,_,by rw[Int.natCast_add];rfl,by omega,by rw[kH,hrl];rfl,fun z hz=>?_,rfl,by rw[aG];rfl⟩
      rcases List.mem_append.mp hz with q | q
      ·exact hr0 z q
      ·rw[List.mem_singleton.mp q]
       exact named_of (by omega) (by omega) cr
  ·rintro ρ μ' ⟨i,j,rows,g,u,v',e,hij,hrl,hr0,rfl,rfl⟩
   cases j with
   | succ j=>rw[kq]at e;cases e
   | zero =>
    refine⟨trivial,?_⟩
    refine Fz.lst (aa _) jh (jw fun d hd=>by obtain⟨q,_,rfl⟩:=List.mem_map.mp hd;exact trivial) (gm hm) ?_
    rw[aU]
    exact kk rows (by omega) ⟨by omega,by omega,hr0⟩
theorem ok_begun {f:Addr}{fd:FuncData}(F:gG K "_law_begun" "_law_begun" uv f fd)(T:iI mg)(dF:jS K cRoom)(eA:ng P w K mg base)(uf:nK P w K mg base)(C_names:c_names P w K mg base):d7 P w K mg base jr 5 f fd ["_law_box_here", "_law_most"] (gv (zx cRoom dq)):=by
 refine F.nT sc_begun (fun ds μ Kd h=>by unfold zx at h;split at h <;> first | rfl | exact h.elim) (fun fI A outer s H E hr=>⟨_,(dk (qS 2 sc_begun.nd (nU dg (qC eA hr (a2 (dv 0) (dv 1)))))
  (dr (dP (gu (a3 (d_makeXc uf hr.le rfl (a1 (dv 2))) (gu (a3 (dv 2) rF rF)) (qC C_names hr (a2 (dv 0) (eQ (ik false (a3 dg dg dg)) (qC eA hr (a2 (dv 0) dg)))))))))),fun ds μ Kd hm hl h=>?_⟩)
 unfold zx at h
 split at h
 ·rename_i k most
  obtain⟨⟨m0,em⟩,hb,hk,h1,h2,kk⟩:=h
  refine⟨hb,by omega,by omega,fun n n0 n1=>?_⟩
  have hne:μ≠[]:=fun e=>by rw[e]at hk;exact absurd hk (Nat.not_lt_zero _)
  have hl0:0<μ.length:=List.length_pos_iff.mpr hne
  refine⟨trivial,⟨m0,by rw[uD hl0];exact em⟩,by omega,fc,?_⟩
  rw[ag (by omega),fM,aI]
  have hb2:∀ g:MS,(μ++g)[k]?=some .box:=fun g=>by rw[uD hk];exact hb
  refine⟨rfl,zs,zs,hb2 _,by decide,by decide,fun v v0 v1=>?_⟩
  have fin:∀ eO,mS eO->Fz μ.length Kd (.tup [.mr μ.length,qj ⟨1+n,[],[]⟩,oj eO]) (μ++([MO.ins cRoom roN [.mr (μ++[MO.ins cRoom [] []]).length,.mr ((μ++[MO.ins cRoom [] []]).length+1),.int 0]]++[MO.lst [kW dq ⟨1+n,[],[]⟩],MO.lst []])):=fun eO hp=>by
   rw[kH]
   exact .keep (kk (1+n) eO (by omega) (by omega) hp)
  obtain rfl | rfl | rfl:v=0\/v=1\/v=2:=by omega
  ·exact⟨hb2 _,by decide,by decide,fun eO _ hp=>⟨zs,fin eO hp⟩⟩
  ·exact⟨hb2 _,by decide,by decide,fun eO _ hp=>⟨zs,fin eO hp⟩⟩
  ·exact⟨hb2 _,by decide,by decide,fun eO _ hp=>⟨zs,fin eO hp⟩⟩
 ·exact h.elim
theorem vG {ds:List D}{μ:MS}{Kd:DK}(h:rm ds μ Kd):∃ v0 v1 v2,ds=[v0,.str v1,.int v2]:=by
 unfold rm at h
 rcases ds with _ | ⟨z0,ds⟩
 ·exact False.elim h
 rcases ds with _ | ⟨z1,ds⟩
 ·exact False.elim h
 cases z1 <;> first | exact False.elim h | skip
 rcases ds with _ | ⟨z2,ds⟩
 ·exact False.elim h
 cases z2 <;> first | exact False.elim h | skip
 rcases ds with _ | ⟨zz,zs⟩
 ·exact⟨_,_,_,rfl⟩
 ·exact False.elim h
theorem ok_origin {f:Addr}{fd:FuncData}(F:gG K "_law_origin" "_law_origin" qG f fd)(T:iI mg)  : d7 P w K mg base jr 1 f fd ["_law_kept", "_law_name", "_law_bar"] (gv rm):=by
 refine F.nT iP (fun ds μ Kd h=>by obtain⟨_,_,_,rfl⟩:=vG h;rfl) (fun fI A outer s H E hr=>⟨_,(dk (qS 3 iP.nd dg)
  (dk (s_while bL (mQ (eQ (iS (fe hr) (dv 0) (dv 1) (fun _ _=>rfl)) dg) du)
  (dk (i7 (iS (fe hr) (dv 0) (dv 1) (fun _ _=>rfl)) ⟨(fJ (n:=4) rfl (dt (qN 4 iP.nd) (dt (qN 5 iP.nd) (dt (qN 6 iP.nd) (dt (qN 7 iP.nd) fb))))),(gw (dG (dD 4) (de 4) (dG (dD 5) (de 5) (dG (dD 6) (de 6) (dG (dD 7) (de 7) gy dA) (dm (de 7) dA)) (dm (de 6) (dm (de 7) dA))) (dm (de 5) (dm (de 6) (dm (de 7) dA))))),(gA (dm (de 4) (dm (de 5) (dm (de 6) (dm (de 7) dA)))))⟩)
  (dk (qS 1 iP.nd (vY (qLt (dv 2) (dv 7)) (dv 5) (dv 6)))
  (dr (qS 3 iP.nd (nU (dv 3) dg))))))
  (dr (dP (gu (a2 (dv 1) (dv 3))))))),fun ds μ Kd hm hl h=>?_⟩)
 obtain⟨x,nm,bar,rfl⟩:=vG h
 unfold rm at h
 ·skip
  obtain⟨kept,y,hx,kp,ey,kk⟩:=h
  cases x with
  | kK ks ds =>
   cases hx
   refine⟨fun i ρ μ'=>∃(z:Str) (y:Pt) (c:Nat) (v1 v2 v3 v4:Option D),i=gS kept z/\dw kept z=some y/\srcOf kept nm bar=((srcOf kept z bar).1,(srcOf kept z bar).2+c)/\ρ=[some (.kK (kept.map fun p=>dX p.1) (kept.map fun p=>jU p.2)),some (.str z),some (.int bar),some (.int (c:Int)),v1,v2,v3,v4]/\μ'=μ,⟨_,nm,y,0,none,none,none,none,rfl,ey,rfl,rfl,rfl⟩,?_⟩
   rintro i ρ μ' ⟨z,y,c,v1,v2,v3,v4,rfl,ez,es,rfl,rfl⟩
   have eg:ixF (kept.map fun p=>dX p.1) (kept.map fun p=>jU p.2) (.str z)=some (some (jU y)):=by rw[gr dE jU z kept rfl,ez];rfl
   cases y with
   | fst b a =>
    refine⟨_,eg,?_⟩
    refine⟨zs,.keep ?_⟩
    rw[es,qt ez,Nat.zero_add]at kk
    exact kk
   | jn l r p =>
    obtain⟨⟨yl,el⟩,⟨yr,er⟩⟩:=kp.there ez
    obtain⟨i1,i2⟩:=kp.low z l r p ez
    have ej:=yg kp ez bar
    refine⟨_,eg,⟨_,eg,?_⟩⟩
    refine⟨rfl,?_⟩
    refine lZ (c:=bar<p) (fun q=>?_) (fun q=>?_)
    ·rw[ag q]at ej
     exact⟨gS kept l,i1,l,yl,c+1,_,_,_,_,rfl,el,by rw[es,ej];congr 1;show _+1+c=_;omega,rfl,rfl⟩
    ·rw[ae q]at ej
     exact⟨gS kept r,i2,r,yr,c+1,_,_,_,_,rfl,er,by rw[es,ej];congr 1;show _+1+c=_;omega,rfl,rfl⟩
  | mr j =>
   have hx:uc μ j=some (kept.map (fun p=>dX p.1),kept.map fun p=>jU p.2):=hx
   refine⟨fun i ρ μ'=>∃(z:Str) (y:Pt) (c:Nat) (v1 v2 v3 v4:Option D),i=gS kept z/\dw kept z=some y/\srcOf kept nm bar=((srcOf kept z bar).1,(srcOf kept z bar).2+c)/\ρ=[some (.mr j),some (.str z),some (.int bar),some (.int (c:Int)),v1,v2,v3,v4]/\μ'=μ,⟨_,nm,y,0,none,none,none,none,rfl,ey,rfl,rfl,rfl⟩,?_⟩
   rintro i ρ μ' ⟨z,y,c,v1,v2,v3,v4,rfl,ez,es,rfl,rfl⟩
   have eg:=(tE (d:=.str z) dE jU z kept rfl hx).trans (by rw[ez];rfl:_=some (some (jU y)))
   cases y with
   | fst b a =>
    refine⟨_,eg,?_⟩
    refine⟨zs,.keep ?_⟩
    rw[es,qt ez,Nat.zero_add]at kk
    exact kk
   | jn l r p =>
    obtain⟨⟨yl,el⟩,⟨yr,er⟩⟩:=kp.there ez
    obtain⟨i1,i2⟩:=kp.low z l r p ez
    have ej:=yg kp ez bar
    refine⟨_,eg,⟨_,eg,?_⟩⟩
    refine⟨rfl,?_⟩
    refine lZ (c:=bar<p) (fun q=>?_) (fun q=>?_)
    ·rw[ag q]at ej
     exact⟨gS kept l,i1,l,yl,c+1,_,_,_,_,rfl,el,by rw[es,ej];congr 1;show _+1+c=_;omega,rfl,rfl⟩
    ·rw[ae q]at ej
     exact⟨gS kept r,i2,r,yr,c+1,_,_,_,_,rfl,er,by rw[es,ej];congr 1;show _+1+c=_;omega,rfl,rfl⟩
  | _=>cases hx
theorem inv_ages {ds:List D}{μ:MS}{Kd:DK}(h:vV ds μ Kd):∃ v0,ds=[v0]:=by
 unfold vV at h
 rcases ds with _ | ⟨z0,ds⟩
 ·exact False.elim h
 rcases ds with _ | ⟨zz,zs⟩
 ·exact⟨_,rfl⟩
 ·exact False.elim h
theorem ok_ages {f:Addr}{fd:FuncData}(F:gG K "_law_ages" "_law_ages" yM f fd)(T:iI mg)  : d7 P w K mg base jr 1 f fd ["_law_kept"] (gv vV):=by
 refine F.nT uj (fun ds μ Kd h=>by obtain⟨_,rfl⟩:=inv_ages h;rfl) (fun fI A outer s H E hr=>⟨_,(dk (qS 1 uj.nd zI)
  (dk (sY bL rfl (zh (dv 0)) (qT 2 uj.nd)
  (dk (qS 3 uj.nd (iS (fe hr) (dv 0) (dv 2) (fun _ _=>rfl)))
  (dr (iZ (fe hr) (vY (mQ (eQ (dv 3) dg) du) (eQ (dv 3) dg) (nU (pS (maxC rfl) so_max (by rfl) T.max PyProof.Rows.boot_max (a2 (iS (fe hr) (dv 1) (eQ (dv 3) dg) (fun _ _=>rfl)) (iS (fe hr) (dv 1) (eQ (dv 3) dg) (fun _ _=>rfl)))) dg)) (dv 1) (dv 2)))))
  (dr (dP (vZ (dv 1)))))),fun ds μ Kd hm hl h=>?_⟩)
 obtain⟨x,rfl⟩:=inv_ages h
 unfold vV at h
 ·skip
  obtain⟨S,m,rfl,wf,kk⟩:=h
  have nd:=wf.kp.nd
  have ku:=wf.ku
  show xj _ _ _ _ ((S.kept.map fun p=>dX p.1).map mW) _ _
  rw[aC]
  refine jc (fun ds ρ μ'=>∃(pre post:List (Str×Pt)) (v1 v2:Option D),S.kept=pre++post/\ds=post.map (fun p=>D.str p.1)/\ρ=[some (pA dX jU S.kept),some (.mr μ.length),v1,v2]/\μ'=μ++[dM dX D.int (pre.map fun p=>(p.1,(fv S.kept p.1).2))]) ⟨[],S.kept,none,none,rfl,rfl,rfl,rfl⟩ ?_ ?_
  ·rintro d ds' ρ μ' ⟨pre,post,v1,v2,hs,e1,rfl,rfl⟩
   refine⟨trivial,fun nx hnx=>?_⟩
   cases post with
   | nil=>cases e1
   | cons p post =>
    obtain⟨z,y⟩:=p
    cases e1
    obtain⟨ez,ix,lp,hn,inpre⟩:=pre_get (g:=fun w=>(fv S.kept w).2) nd hs
    have eg:ixF (S.kept.map fun p=>dX p.1) (S.kept.map fun p=>jU p.2) (.str z)=some (some (jU y)):=by rw[gr dE jU z S.kept rfl,ez];rfl
    refine⟨_,eg,?_⟩
    have fin:∀(a:Int) (ip:DE),a=(fv S.kept z).2->ip=[some (pA dX jU S.kept),some (.mr μ.length),some (.str z),some (jU y)]->∃ kd kd':List (Key×D),(μ++[dM dX D.int (pre.map fun p=>(p.1,(fv S.kept p.1).2))])[μ.length]?=some (.hJ (kd.map (·.1)) (kd.map (·.2)))/\kd.length<sizeLine/\(mY (.str z)).map (fun k=>dput kd k (.int a))=some kd'/\nx ip ((μ++[dM dX D.int (pre.map fun p=>(p.1,(fv S.kept p.1).2))]).set μ.length (.hJ (kd'.map (·.1)) (kd'.map (·.2)))):=fun a ip ha hρ=>by
     refine oy dE (P:=nx ip) fc (by rw[fg];exact aq lp (sz (by omega))) rfl a rfl ?_
     rw[fM,ma hn,hρ]
     refine hnx _ _ ⟨pre++[(z,y)],post,_,_,by rw[hs,aI];rfl,rfl,rfl,?_⟩
     rw[aG,ha];rfl
    cases y with
    | fst b a=>exact fin a _ (by rw[tk_fst ez]) rfl
    | jn l r p =>
     obtain⟨i1,i2⟩:=wf.kp.low z l r p ez
     have g1:∀ w,gS S.kept w<pre.length->ixM (μ++[dM dX D.int (pre.map fun p=>(p.1,(fv S.kept p.1).2))]) μ.length (.str w)=some (some (.int (fv S.kept w).2)):=fun w hw=>(tE dE D.int w (pre.map fun p=>(p.1,(fv S.kept p.1).2)) rfl (pq fc)).trans (by rw[inpre w hw];rfl)
     exact⟨_,g1 l (by omega),_,g1 r (by omega),fin _ _ (by rw[tk_jn wf.kp ez];rfl) rfl⟩
  ·rintro ρ μ' ⟨pre,post,v1,v2,hs,e1,rfl,rfl⟩
   cases post with
   | cons p post=>cases e1
   | nil =>
    rw[aN]at hs
    refine⟨trivial,_,_,fc,fun o kvs hks=>?_⟩
    rw[fM]
    refine Fz.kK (aa _) fc (jw fun d hd=>by obtain⟨q,_,rfl⟩:=List.mem_map.mp hd;exact trivial) (gm hm) ?_
    rw[aU,hks,<- hs]
    exact kk
theorem xM {ds:List D}{μ:MS}{Kd:DK}(h:vS ds μ Kd):∃ v0 v1,ds=[v0,.str v1]:=by
 unfold vS at h
 rcases ds with _ | ⟨z0,ds⟩
 ·exact False.elim h
 rcases ds with _ | ⟨z1,ds⟩
 ·exact False.elim h
 cases z1 <;> first | exact False.elim h | skip
 rcases ds with _ | ⟨zz,zs⟩
 ·exact⟨_,_,rfl⟩
 ·exact False.elim h
theorem ok_heard {f:Addr}{fd:FuncData}(F:gG K "_law_heard" "_law_heard" ur f fd)(T:iI mg)(o4:rJ P w K mg base):d7 P w K mg base jr 2 f fd ["_law_state", "_law_name"] (gv vS):=by
 refine F.nT u9 (fun ds μ Kd h=>by obtain⟨_,_,rfl⟩:=xM h;rfl) (fun fI A outer s H E hr=>⟨_,(dk (qS 2 u9.nd (eQ (dv 0) dg))
  (dr (dP (zE bC b7 bZ joinC qv du (a1 (dC1 false (Ah (N:=["_law_bar", "_law_kept", "_law_name"]) (js:=[none,some 2,some 1]) u9 (by decide +kernel)) (iC rfl T.range (a1 (eQ (dv 0) dg))) (fun _ _ _ nd=>(qN 0 nd)) (fun _ _ _=>jW) (fun _ _ _=>(eQ (eQ (iS (fe hr) (dv 1) (eQ (qC o4 hr (a3 (dv 1) (dv 2) (dv 0))) dg) (fun _ _=>rfl)) dg) (dv 0))))))))),fun ds μ Kd hm hl h=>?_⟩)
 obtain⟨x,nm,rfl⟩:=xM h
 unfold vS at h
 ·skip
  obtain⟨S,m,y,rfl,wf,ey,kk⟩:=h
  have n1:=wf.n1
  have n2:=wf.n2
  obtain⟨t1,_⟩:=tk_ok wf nm y ey
  have tl:(fv S.kept nm).1.length=S.n.toNat:=by omega
  refine⟨rfl,by omega,by omega,sz (by rw[gY];omega),?_⟩
  refine ie trivial (fun i:Nat=>D.int (0+(i:Int))) (fun i=>some (D.str ⟨#[(fv S.kept nm).1.getD i 0]⟩)) (fun i hi K' k'=>?_) ?_
  ·have hi:=List.mem_range.mp hi
   obtain⟨b,a,c,g1,g2,g3⟩:=heard_at wf i (by omega) nm y ey
   refine⟨S.kept,y,rfl,wf.kp,ey,?_⟩
   rw[Int.zero_add]
   refine⟨_,by rw[gr dE jU _ S.kept rfl,g1];rfl,?_⟩
   have lb:=(wf.fs _ b a g1).1
   refine⟨by rw[lenS];exact sz (by omega),dj (kj g2) ?_⟩
   have e:(fv S.kept nm).1.getD i 0=c:=by rw[aX,g3];rfl
   rw[e]at k'
   exact k'
  ·rw[<- tl,range_str]
   refine⟨rfl,(fv S.kept nm).1.map fun c=>⟨#[c]⟩,by unfold lv;rw[aC];rfl,by rw[o7];omega,?_⟩
   rw[m3]
   exact .keep kk
theorem xI {ds:List D}{μ:MS}{Kd:DK}(h:rh ds μ Kd):∃ v0,ds=[v0]:=by
 unfold rh at h
 rcases ds with _ | ⟨z0,ds⟩
 ·exact False.elim h
 rcases ds with _ | ⟨zz,zs⟩
 ·exact⟨_,rfl⟩
 ·exact False.elim h
theorem ok_takes {f:Addr}{fd:FuncData}(F:gG K "_law_takes" "_law_takes" uk f fd)(T:iI mg)(C_ages:c_ages P w K mg base)(C_heard:c_heard P w K mg base):d7 P w K mg base jr 3 f fd ["_law_state"] (gv rh):=by
 refine F.nT u7 (fun ds μ Kd h=>by obtain⟨_,rfl⟩:=xI h;rfl) (fun fI A outer s H E hr=>⟨_,(dk (qS 1 u7.nd (qC C_ages hr (a1 (eQ (dv 0) dg))))
  (dr (dP (dC1 false (Ah (N:=["_law_name", "_law_state", "_law_ages_here"]) (js:=[none,some 0,some 1]) u7 (by decide +kernel)) (zh (eQ (dv 0) dg)) (fun _ _ _ nd=>(qN 0 nd)) (fun _ _ _=>jW) (fun _ _ _=>(gu (a2 (qC C_heard hr (a2 (dv 1) (dv 0))) (iS (fe hr) (dv 2) (dv 0) (fun _ _=>rfl))))))))),fun ds μ Kd hm hl h=>?_⟩)
 obtain⟨x,rfl⟩:=xI h
 unfold rh at h
 ·skip
  obtain⟨S,m,rfl,wf,kk⟩:=h
  have ku:=wf.ku
  refine⟨S,m,rfl,wf,?_⟩
  refine⟨sz (by rw[fg,fg];omega),?_⟩
  rw[aC]
  refine ie trivial (mW ∘ fun p:Str×Pt=>dX p.1) (fun p=>some (iU (fv S.kept p.1))) (fun p hp K' k'=>?_) ?_
  ·refine⟨S,m,p.2,rfl,wf,f9 wf.kp.nd hp,?_⟩
   refine⟨_,by rw[gr dE D.int p.1 _ rfl,ages_get wf.kp.nd hp];rfl,zs,k'⟩
  ·rw[show(fun p:Str×Pt=>some (iU (fv S.kept p.1)))=some ∘ (fun p=>iU (fv S.kept p.1))from rfl,List.filterMap_eq_map]
   have kk:Kd (.lst ((lJ S).map iU)) μ:=kk
   unfold lJ at kk
   rw[aC]at kk
   exact .keep kk
theorem inv_open {ds:List D}{μ:MS}{Kd:DK}(h:vR ds μ Kd):∃ v0,ds=[v0]:=by
 unfold vR at h
 rcases ds with _ | ⟨z0,ds⟩
 ·exact False.elim h
 rcases ds with _ | ⟨zz,zs⟩
 ·exact⟨_,rfl⟩
 ·exact False.elim h
theorem ok_open {f:Addr}{fd:FuncData}(F:gG K "_law_open" "_law_open" yE f fd)(T:iI mg)  : d7 P w K mg base jr 1 f fd ["_law_state"] (gv vR):=by
 refine F.nT sc_open (fun ds μ Kd h=>by obtain⟨_,rfl⟩:=inv_open h;rfl) (fun fI A outer s H E hr=>⟨_,(dr (dP (dC1 false (Ah (N:=["_law_place", "_law_state"]) (js:=[none,some 0]) sc_open (by decide +kernel)) (i_range2 rfl T.range (a2 dg (eQ (dv 0) dg))) (fun _ _ _ nd=>(qN 0 nd)) (fun _ _ _=>(rX (jQ (fe hr) (dv 0) (eQ (dv 1) dg) (by with_unfolding_all rfl)))) (fun _ _ _=>(dv 0))))),fun ds μ Kd hm hl h=>?_⟩)
 obtain⟨x,rfl⟩:=inv_open h
 unfold vR at h
 ·skip
  obtain⟨S,m,rfl,wf,kk⟩:=h
  have n1:=wf.n1
  have n2:=wf.n2
  refine dj rfl ⟨⟨by decide,by decide,by omega,by omega⟩,sz (by rw[gY];omega),?_⟩
  rw[rngD_eq]
  refine ie trivial D.int (fun p=>if(dw S.eR p).isSome=true then none else some (D.int p)) (fun p _ K' k'=>?_) ?_
  ·refine dj rfl ⟨_,gr hG (fun _=>.bl true) p S.eR rfl,?_⟩
   cases e:dw S.eR p with
   | none=>rw[e]at k';exact k'
   | some x=>rw[e]at k';exact k'
  ·rw[open_map]
   exact .keep kk
theorem inv_done {ds:List D}{μ:MS}{Kd:DK}(h:vT ds μ Kd):∃ v0 v1,ds=[v0,v1]:=by
 unfold vT at h
 rcases ds with _ | ⟨z0,ds⟩
 ·exact False.elim h
 rcases ds with _ | ⟨z1,ds⟩
 ·exact False.elim h
 rcases ds with _ | ⟨zz,zs⟩
 ·exact⟨_,_,rfl⟩
 ·exact False.elim h
theorem ok_done {f:Addr}{fd:FuncData}(F:gG K "_law_done" "_law_done" yK f fd)(T:iI mg)(o4:rJ P w K mg base):d7 P w K mg base jr 2 f fd ["_law_state", "_law_deed"] (gv vT):=by
 refine F.nT pd (fun ds μ Kd h=>by obtain⟨_,_,rfl⟩:=inv_done h;rfl) (fun fI A outer s H E hr=>⟨_,(dk (s_par3 (i:=2) (j:=3) (k:=4) pd.nd rfl rfl rfl (by decide) (by decide) (by decide) rfl rfl rfl (a3 (eQ (dv 0) dg) (d_ty dictC uZ (by rfl) T.dict c8 (a1 (eQ (dv 0) dg))) (d_ty dictC uZ (by rfl) T.dict c8 (a1 (eQ (dv 0) dg)))))
  (xZ (fw (mQ (eQ (dv 1) dg) du)
  (dr (iZ (fe hr) (gu (a3 du (eQ (dv 1) dg) (eQ (dv 1) dg))) (dv 3) (eQ (dv 1) dg)))
  (dr (fw (mQ (eQ (dv 1) dg) du)
  (dr (iZ (fe hr) (gu (dh du (dh (eQ (dv 1) dg) (dh (eQ (dv 1) dg) (dh (eQ (dv 1) dg) fB))))) (dv 3) (eQ (dv 1) dg)))
  (dr (fw (mQ (eQ (dv 1) dg) du)
  (dk (qS 5 pd.nd (eQ (qC o4 hr (a3 (dv 3) (eQ (dv 1) dg) (eQ (dv 1) dg))) dg))
  (dk (i7 (iS (fe hr) (dv 3) (dv 5) (fun _ _=>rfl)) ⟨(fJ (n:=3) rfl (dt (qN 6 pd.nd) (dt (qN 7 pd.nd) (dt (qN 8 pd.nd) fb)))),(gw (dG (dD 6) (de 6) (dG (dD 7) (de 7) (dG (dD 8) (de 8) gy dA) (dm (de 8) dA)) (dm (de 7) (dm (de 8) dA)))),(gA (dm (de 6) (dm (de 7) (dm (de 8) dA))))⟩)
  (dr (iZ (fe hr) (gu (a3 (dv 6) (nU (nU (jI false (dv 7) qM (ir (eQ (dv 1) dg))) (eQ (dv 1) dg)) (jI false (dv 7) (ir (nU (eQ (dv 1) dg) dg)) qM)) (dv 8))) (dv 3) (dv 5)))))
  (dr (fw (mQ (eQ (dv 1) dg) du)
  (dr (iZ (fe hr) (gu (a3 du (eQ (iS (fe hr) (dv 3) (eQ (dv 1) dg) (fun _ _=>rfl)) dg) (eQ (dv 1) dg))) (dv 3) (eQ (dv 1) dg)))
  (dr (fw (mQ (eQ (dv 1) dg) du)
  (dr (iq (d_popK (dv 3) (eQ (dv 1) dg))))
  (dr (fw (mQ (eQ (dv 1) dg) du)
  (dr (iZ (fe hr) sI (dv 4) (eQ (dv 1) dg)))
  (dr (fw (t_inF (fe hr) (eQ (dv 1) dg) (dv 4) (by with_unfolding_all rfl))
  (dr (iq (d_popK (dv 4) (eQ (dv 1) dg))))
  eM)))))))))))))
  (dr (dP (gu (dh (dv 2) (dh (vZ (dv 3)) (dh (vZ (dv 4)) fB)))))))),fun ds μ Kd hm hl h=>?_⟩)
 obtain⟨x,y,rfl⟩:=inv_done h
 unfold vT at h
 ·skip
  obtain⟨S,d,m,rfl,rfl,wf,hm',hr,kk⟩:=h
  have ku:=wf.ku
  have shl:=wf.shl
  have n2:=wf.n2
  have e2:(μ++[dM dX jU S.kept]).length=μ.length+1:=by rw[kH];rfl
  show dCut _ _ _ [some (qj S),some (pR d),some (.int S.n),some (.mr μ.length),some (.mr (μ++[dM dX jU S.kept]).length),none,none,none,none] (μ++[dM dX jU S.kept]++[dM jR (fun _=>.bl true) S.eR])
  rw[e2,aI]
  have kl:S.kept.length<sizeLine:=aq (m:=21) (by omega) (sz (by omega))
  have sl:S.eR.length<sizeLine:=aq (m:=1001) (by omega) (sz (by omega))
  refine⟨fun ip μ'=>∃ v5 v6 v7 v8,ip=[some (qj S),some (pR d),some (.int S.n),some (.mr μ.length),some (.mr (μ.length+1)),v5,v6,v7,v8]/\(pK S d).n=S.n/\μ'=μ++[dM dX jU (pK S d).kept,dM jR (fun _=>.bl true) (pK S d).eR],?_,?_⟩
  ·cases d with
   | put nm b a =>
    refine⟨zs,oy dE jh kl rfl (.fst b.cps.toList a) rfl ⟨none,none,none,none,rfl,rfl,?_⟩⟩
    exact mG
   | join nm l r p =>
    refine⟨zs,oy dE jh kl rfl (.jn l r p) rfl ⟨none,none,none,none,rfl,rfl,?_⟩⟩
    exact mG
   | found nm bar sg =>
    have hr:(if fV S nm=false then some 11 else if 0<=bar/\bar<S.n then(if sg = "o"\/sg = "x" then none else some 0)else some 6)=(none:Option Nat):=hr
    by_cases q1:fV S nm=false
    ·rw[ag q1]at hr;cases hr
    rw[ae q1]at hr
    by_cases hb:0<=bar/\bar<S.n
    ·rw[ag hb]at hr
     by_cases hs:sg = "o"\/sg = "x"
     ·obtain⟨y,ey⟩:=l7 q1
      obtain⟨b,a,ef⟩:=yh wf.kp bar nm y ey
      obtain⟨f1,f2,f3,f4⟩:=wf.fs _ b a ef
      obtain⟨o1,o2⟩:=sgn_ox hs
      refine⟨S.kept,y,pq jh,wf.kp,ey,?_⟩
      refine⟨_,(tE dE jU (srcOf S.kept nm bar).1 S.kept rfl (pq jh)).trans (by rw[ef];rfl:_=some (some (jU (.fst b a)))),rfl,?_⟩
      have sl:sg.length=1:=o2
      have lb:(txt b).length<=sizeLine:=by rw[kT];exact sz (by omega)
      have c1:=m8 b none (some bar)
      have c2:=m8 b (some (bar+1)) none
      have eh:(⟨(gi b none (some bar)).toArray⟩++sg++⟨(gi b (some (bar+1)) none).toArray⟩:Str)=txt (tG b bar sg):=by
       rw[zL hb.1,sJ (show 0<=bar+1 by omega),show(bar+1).toNat=bar.toNat+1 by omega]
       rw[zT,nk,aI]
       rfl
      have l1:(⟨(gi b none (some bar)).toArray⟩:Str).length+sg.length<=sizeLine:=by rw[sl];show(gi b none (some bar)).length+1<=_;exact sz (by omega)
      have l2:(⟨(gi b none (some bar)).toArray⟩++sg:Str).length+(⟨(gi b (some (bar+1)) none).toArray⟩:Str).length<=sizeLine:=by
       rw[zT]
       show(gi b none (some bar)++sg.cps.toList).length+(gi b (some (bar+1)) none).length<=_
       rw[kH,o2]
       exact sz (by omega)
      refine⟨lb,l1,lb,l2,zs,?_⟩
      refine oy dE jh kl rfl (.fst (tG b bar sg) a) (by show D.tup _=D.tup _;rw[<- eh]) ⟨_,_,_,_,rfl,rfl,?_⟩
      rw[mG]
      show _=μ++[dM dX jU (hear S.kept (srcOf S.kept nm bar).1 bar sg),_]
      unfold hear
      rw[ef]
      rfl
     ·rw[ae hs]at hr;cases hr
    ·rw[ae hb]at hr;cases hr
   | kS nm a =>
    have hr:(match dw S.kept nm with | none=>some 11 | some (.jn _ _ _)=>some 13 | some (.fst _ _)=>jl a)=(none:Option Nat):=hr
    cases ey:dw S.kept nm with
    | none=>rw[ey]at hr;cases hr
    | some y =>
     rw[ey]at hr
     cases y with
     | jn _ _ _=>cases hr
     | fst b a0 =>
      refine⟨_,(tE dE jU nm S.kept rfl (pq jh)).trans (by rw[ey];rfl:_=some (some (jU (.fst b a0)))),zs,?_⟩
      have ed:pK S (.kS nm a)={ S with kept:=fN S.kept nm (.fst b a)}:=by
       show(match dw S.kept nm with | some (.fst b _)=>{ S with kept:=fN S.kept nm (.fst b a)} | _=>S)=_
       rw[ey]
      refine oy dE jh kl rfl (.fst b a) rfl ⟨none,none,none,none,rfl,by rw[ed],?_⟩
      rw[ed]
      exact mG
   | drop nm =>
    have hr:(if fV S nm=false then some 11 else if j0 S nm=true then some 14 else none)=(none:Option Nat):=hr
    by_cases q1:fV S nm=false
    ·rw[ag q1]at hr;cases hr
    obtain⟨y,ey⟩:=l7 q1
    refine⟨⟨_,_,jh⟩,pop_at dE jh rfl ey ⟨none,none,none,none,rfl,rfl,?_⟩⟩
    exact mG
   | eR p =>
    refine oy hG (f:=fun _:Unit=>D.bl true) xu sl rfl () rfl ⟨none,none,none,none,rfl,rfl,?_⟩
    exact yp
   | free p =>
    refine⟨_,tE hG (fun _:Unit=>D.bl true) p S.eR rfl (pq xu),?_⟩
    cases ep:dw S.eR p with
    | none =>
     refine⟨none,none,none,none,rfl,rfl,?_⟩
     show _=μ++[dM dX jU S.kept,dM jR (fun _=>.bl true) (gL S.eR p)]
     rw[adrop_none ep];rfl
    | some u =>
     refine⟨⟨_,_,xu⟩,pop_at hG (f:=fun _:Unit=>D.bl true) xu rfl ep ⟨none,none,none,none,rfl,rfl,?_⟩⟩
     exact yp
  ·rintro ip μ' ⟨v5,v6,v7,v8,rfl,en,rfl⟩
   refine⟨_,_,jh,fun o1 k1 hk1=>?_⟩
   rw[mG]
   refine⟨_,_,xu,fun o2 k2 hk2=>?_⟩
   rw[yp]
   refine⟨zs,Fz.deepQ (frz_two (jw fun d hd=>by obtain⟨q,_,rfl⟩:=List.mem_map.mp hd;exact ptL_mr _) (jw fun d hd=>by obtain⟨q,_,rfl⟩:=List.mem_map.mp hd;exact trivial)) (gm hm) ?_⟩
   rw[aU,hk1,hk2,<- en]
   exact kk
theorem inv_lone {ds:List D}{μ:MS}{Kd:DK}(h:fLone ds μ Kd):∃ v0,ds=[v0]:=by
 unfold fLone at h
 rcases ds with _ | ⟨z0,ds⟩
 ·exact False.elim h
 rcases ds with _ | ⟨zz,zs⟩
 ·exact⟨_,rfl⟩
 ·exact False.elim h
theorem ok_lone {f:Addr}{fd:FuncData}(F:gG K "_law_lone" "_law_lone" yF f fd)(T:iI mg)  : d7 P w K mg base jr 1 f fd ["_law_kept"] (gv fLone):=by
 refine F.nT ui (fun ds μ Kd h=>by obtain⟨_,rfl⟩:=inv_lone h;rfl) (fun fI A outer s H E hr=>⟨_,(dk (qS 1 ui.nd zI)
  (dk (sY bL rfl (sA (dv 0)) (qT 2 ui.nd)
  (dr (fw (mQ (eQ (dv 2) dg) du)
  (dk (iZ (fe hr) sI (dv 1) (eQ (dv 2) dg))
  (dr (iZ (fe hr) sI (dv 1) (eQ (dv 2) dg))))
  eM)))
  (dr (dP (dC1 false (Ah (N:=["_law_name", "_law_used"]) (js:=[none,some 1]) ui (by decide +kernel)) (zh (dv 0)) (fun _ _ _ nd=>(qN 0 nd)) (fun _ _ _=>(rX (jQ (fe hr) (dv 0) (dv 1) (by with_unfolding_all rfl)))) (fun _ _ _=>(dv 0))))))),fun ds μ Kd hm hl h=>?_⟩)
 obtain⟨x,rfl⟩:=inv_lone h
 unfold fLone at h
 ·skip
  obtain⟨S,m,rfl,wf,kk⟩:=h
  have ku:=wf.ku
  intro _
  refine jc (fun ds ρ μ'=>∃(pre post:List (Str×Pt)) (us:List (Str×Unit)) (v1:Option D),S.kept=pre++post/\ds=post.map (fun p=>jU p.2)/\us.length<=2*pre.length/\(∀ z,(dw us z).isSome=pre.any fun p=>gc z p.2)/\ρ=[some (pA dX jU S.kept),some (.mr μ.length),v1]/\μ'=μ++[dM dX (fun _=>.bl true) us]) ⟨[],S.kept,[],none,rfl,rfl,aa _,fun _=>rfl,rfl,rfl⟩ ?_ ?_
  ·rintro d ds' ρ μ' ⟨pre,post,us,v1,hs,e1,hu,ha,rfl,rfl⟩
   refine⟨trivial,fun nx hnx=>?_⟩
   cases post with
   | nil=>cases e1
   | cons p post =>
    obtain⟨z,y⟩:=p
    cases e1
    have lp:pre.length<S.kept.length:=by rw[hs,kH,aE];omega
    have anyE:∀ w,((pre++[(z,y)]).any fun p=>gc w p.2)=((pre.any fun p=>gc w p.2)||gc w y):=fun w=>by rw[List.any_append,bp,List.any_nil,Bool.or_false]
    cases y with
    | fst b a =>
     refine hnx _ _ ⟨pre++[(z,.fst b a)],post,us,_,by rw[hs,aI];rfl,rfl,by rw[kH];omega,fun w=>by rw[anyE,ha w];exact(Bool.or_false _).symm,rfl,rfl⟩
    | jn l r p =>
     have ul:us.length<sizeLine:=aq (m:=50) (by omega) (sz (by omega))
     have la:=aput_le (l:=us) (k:=l) (v:=())
     have lb:=aput_le (l:=fN us l ()) (k:=r) (v:=())
     have ul2:(fN us l ()).length<sizeLine:=aq (m:=50) (by omega) (sz (by omega))
     refine oy dE (f:=fun _:Unit=>D.bl true) fc ul rfl () rfl ?_
     rw[fM]
     refine oy dE (f:=fun _:Unit=>D.bl true) fc ul2 rfl () rfl ?_
     rw[fM]
     refine hnx _ _ ⟨pre++[(z,.jn l r p)],post,fN (fN us l ()) r (),_,by rw[hs,aI];rfl,rfl,by rw[kH,aQ];omega,fun w=>?_,rfl,rfl⟩
     rw[anyE,mh,mh,<- ha w]
     show _=(_||(decide (l=w)||decide (r=w)))
     by_cases q1:w=r
     ·subst q1;rw[ag rfl];simp
     ·rw[ae q1,ak (bb q1)]
      by_cases q2:w=l
      ·subst q2;rw[ag rfl];simp
      ·rw[ae q2,ak (bb q2)];simp
  ·rintro ρ μ' ⟨pre,post,us,v1,hs,e1,hu,ha,rfl,rfl⟩
   cases post with
   | cons p post=>cases e1
   | nil =>
    rw[aN]at hs
    refine⟨trivial,sz (by rw[fg,fg];omega),?_⟩
    rw[aC]
    refine ie trivial (mW ∘ fun p:Str×Pt=>dX p.1) (fun p=>if(S.kept.any fun q=>gc p.1 q.2)=true then none else some (D.str p.1)) (fun p hp K' k'=>?_) ?_
    ·refine⟨_,tE dE (fun _:Unit=>D.bl true) p.1 us rfl (pq fc),?_⟩
     rw[<- hs]at ha
     have hw:=ha p.1
     cases eu:dw us p.1 with
     | none=>rw[eu]at hw;rw[<- hw]at k';exact k'
     | some u=>rw[eu]at hw;rw[<- hw]at k';exact k'
    ·rw[lone_map]
     refine Fz.drop (jw fun d hd=>by obtain⟨q,_,rfl⟩:=List.mem_map.mp hd;exact trivial) (gm hm) ?_
     rw[aU]
     exact kk
set_option maxHeartbeats 8000000 in
theorem inv_easy {ds:List D}{μ:MS}{Kd:DK}(h:fEasy ds μ Kd):∃ v0 v1 v2,ds=[.mr v0,v1,v2]:=by
 unfold fEasy at h
 rcases ds with _ | ⟨z0,ds⟩
 ·exact False.elim h
 cases z0 <;> first | exact False.elim h | skip
 rcases ds with _ | ⟨z1,ds⟩
 ·exact False.elim h
 rcases ds with _ | ⟨z2,ds⟩
 ·exact False.elim h
 rcases ds with _ | ⟨zz,zs⟩
 ·exact⟨_,_,_,rfl⟩
 ·exact False.elim h
theorem ok_easy {f:Addr}{fd:FuncData}(F:gG K "_law_easy" "_law_easy" yI f fd)(T:iI mg)(eA:ng P w K mg base)(C_open:c_open P w K mg base)(C_bars:c_bars P w K mg base)(C_lone:c_lone P w K mg base):d7 P w K mg base jr 3 f fd ["_law_box_here", "_law_state", "_law_pool"] (gv fEasy):=by
 refine F.nT iX (fun ds μ Kd h=>by obtain⟨_,_,_,rfl⟩:=inv_easy h;rfl) (fun fI A outer s H E hr=>⟨_,(dk (qS 3 iX.nd (d_ty (listD rfl) (qu (m:=false)) (by rfl) T.list bf (a1 (eQ (dv 1) dg))))
  (dk (sC1 4 false iX.nd (Ah (N:=["_law_name", "_law_state", "_law_names_here"]) (js:=[none,some 1,some 3]) iX (by decide +kernel)) (i_list (dv 2)) (fun _ _ _ nd=>(qN 0 nd)) (fun _ _ _=>(rX (PW.pt (jm (jQ (fe hr) (dv 0) (eQ (dv 1) dg) (by with_unfolding_all rfl)) (gW (qLt (xm T (dv 2)) dg)))))) (fun _ _ _=>(dv 0)))
  (dk (qS 5 iX.nd (qC C_open hr (a1 (dv 1))))
  (dk (qS 6 iX.nd (qC eA hr (a2 (dv 0) dg)))
  (dk (fw (PW.pt (jm (qGt (xm T (dv 4)) dg) (gW (PW.pt (og (mQ (xm T (dv 3)) dg) (jZ (qLt (dv 6) dg)))))))
  (dk (qS 7 iX.nd (qC eA hr (a2 (dv 0) (eQ (ik false (a2 dg dg)) (qC eA hr (a2 (dv 0) dg))))))
  (dr (dP (gu (dh du (dh (eQ (dv 4) (qC eA hr (a2 (dv 0) (xm T (dv 4))))) (dh (qC C_bars hr (a2 (dv 0) (eQ (dv 1) dg))) (dh (dv 7) fB))))))))
  eM)
  (dk (qS 8 iX.nd (eQ (dv 3) (qC eA hr (a2 (dv 0) (xm T (dv 3))))))
  (dk (fw (PW.pt (jm (qLt (dv 6) dg) (jm (qGt (xm T (dv 4)) dg) (gW (qGt (xm T (dv 5)) dg)))))
  (dk (qS 9 iX.nd (eQ (dv 3) (qC eA hr (a2 (dv 0) (xm T (dv 3))))))
  (dk (qS 10 iX.nd (eQ (dv 5) (qC eA hr (a2 (dv 0) (xm T (dv 5))))))
  (dr (dP (gu (dh du (dh (eQ (dv 4) (qC eA hr (a2 (dv 0) (xm T (dv 4))))) (dh (dv 8) (dh (dv 9) (dh (dv 10) fB))))))))))
  eM)
  (dk (fw (PW.pt (jm (mQ (dv 6) dg) (gW (mQ (eQ (iS (fe hr) (eQ (dv 1) dg) (dv 8) (fun _ _=>rfl)) dg) du))))
  (dr (dP (gu (a3 du (dv 8) (qC eA hr (a2 (dv 0) dg))))))
  eM)
  (dk (qS 11 iX.nd (qC C_lone hr (a1 (eQ (dv 1) dg))))
  (dk (fw (PW.pt (jm (mQ (dv 6) dg) (gW (qGt (xm T (dv 11)) dg))))
  (dr (dP (gu (a2 du (eQ (dv 11) (qC eA hr (a2 (dv 0) (xm T (dv 11)))))))))
  eM)
  (dk (fw (PW.pt (jm (qGt (dv 6) dg) (gW (qGt (eQ (dv 1) dg) dg))))
  (dr (dP (gu (a2 (eQ (ik false (a2 du du)) (qC eA hr (a2 (dv 0) dg))) (nU dg (qC eA hr (a2 (dv 0) (dMi (eQ (dv 1) dg) dg))))))))
  eM)
  (dr (dP (gu (dh du (dh (dv 8) (dh (qC eA hr (a2 (dv 0) (eQ (dv 1) dg))) (dh (eQ du (qC eA hr (a2 (dv 0) dg))) fB)))))))))))))))))),fun ds μ Kd hm hl h=>?_⟩)
 obtain⟨k,x,y,rfl⟩:=inv_easy h
 unfold fEasy at h
 ·skip
  obtain⟨hb,S,m,eO,rfl,rfl,wf,hp,kk⟩:=h
  have ku:=wf.ku
  have n1:=wf.n1
  have n2:=wf.n2
  have pl:=hp.2.1
  have eN:(S.kept.map fun p=>dX p.1).map mW=S.kept.map fun p=>D.str p.1:=aC
  have fl:(jy S eO).length<=50:=ar (bE _ _) pl
  have ol:(nI S).length<=40:=by
   unfold nI
   refine ar (bE _ _) ?_
   rw[fg,gxJ];omega
  have ll:(pO S.kept).length<=20:=by
   unfold pO
   refine ar (bE _ _) ?_
   rw[fg];exact ku
  refine rG (d:=.lst (S.kept.map fun p=>D.str p.1)) (μ':=μ) (fun K k=>by rw[<- eN]at k;exact k) ?_
  refine⟨sz (by rw[fg];omega),?_⟩
  refine ie trivial D.str (fun z=>if(!(dw S.kept z).isSome&&decide (S.kept.length<20))=true then some (D.str z)else none) (fun z hz K' k'=>?_) ?_
  ·refine⟨_,gr dE jU z S.kept rfl,?_⟩
   cases e:dw S.kept z with
   | some y=>rw[e]at k';exact k'
   | none =>
    rw[e]at k'
    refine lZ (c:=(((S.kept.map fun p=>D.str p.1).length:Nat):Int)<20) (fun q=>?_) (fun q=>?_)
    ·rw[fg]at q
     rw[af (show S.kept.length<20 by omega)]at k';exact k'
    ·rw[fg]at q
     rw[ak (show ¬ S.kept.length<20 by omega)]at k';exact k'
  rw[fresh_map]
  refine⟨S,m,rfl,wf,hb,by decide,by decide,fun way w0 w1=>?_⟩
  dsimp only
  refine eK (decide ((0:Int)<(((jy S eO).map D.str).length:Nat))&&((false != decide ((((S.kept.map fun p=>D.str p.1).length:Nat):Int)=0))||decide (way<3))) ?_ (fun q=>?_) (fun q=>?_)
  ·exact(.and (.gV fun K k=>k) fun _=>.or (.gV fun K k=>k) fun _=>.gV fun K k=>k)
  ·have f0:0<(jy S eO).length:=by
    simp only[aL,ba,fg]at q
    omega
   refine⟨zs,hb,by decide,by decide,fun t t0 t1=>?_⟩
   obtain rfl | rfl:t=0\/t=1:=by omega
   all_goals
    refine⟨hb,by decide,by decide,fun a a0 a1=>⟨hb,by rw[fg];omega,by rw[fg];omega,fun i i0 i1=>?_⟩⟩
    obtain⟨z,hz,e⟩:=ji (g:=D.str) (xs:=jy S eO) i0 (by rw[fg]at i1;exact i1)
    obtain⟨z1,z2⟩:=xO hp hz
    refine dj e ⟨hb,n1,by omega,fun l hl ho=>⟨zs,.keep (kk (.put z (txt l) a) (ref_put z1 (by omega) ho a0 (by omega)) ⟨by omega,by rw[kT];omega⟩)⟩⟩
  have kne:0<S.kept.length:=by
   rcases Nat.eq_zero_or_pos S.kept.length with z | z
   ·have:=fresh_any hp (List.length_eq_zero_iff.mp z)
    rw[af (show(0:Int)<(((jy S eO).map D.str).length:Nat) by rw[fg];omega),af (show(((S.kept.map fun p=>D.str p.1).length:Nat):Int)=0 by rw[fg];omega)]at q
    cases q
   ·exact z
  refine⟨hb,by rw[fg];omega,by rw[fg];omega,fun i i0 i1=>?_⟩
  obtain⟨⟨z8,y8⟩,hp8,e8⟩:=ji (g:=fun p:Str×Pt=>D.str p.1) (xs:=S.kept) i0 (by rw[fg]at i1;exact i1)
  refine dj e8 ?_
  dsimp only
  refine eK (decide (way<7)&&(decide ((0:Int)<(((jy S eO).map D.str).length:Nat))&&decide ((0:Int)<(((nI S).map D.int).length:Nat)))) ?_ (fun q=>?_) (fun q=>?_)
  ·exact(.and (.gV fun K k=>k) fun _=>.and (.gV fun K k=>k) fun _=>.gV fun K k=>k)
  ·simp only[aL,ba,fg]at q
   refine⟨hb,by rw[fg];omega,by rw[fg];omega,fun i i0 i1=>?_⟩
   obtain⟨p9,hp9,e9⟩:=ji (g:=fun p:Str×Pt=>D.str p.1) (xs:=S.kept) i0 (by rw[fg]at i1;exact i1)
   refine dj e9 ⟨hb,by rw[fg];omega,by rw[fg];omega,fun i i0 i1=>?_⟩
   obtain⟨pl,kh,e10⟩:=ji (g:=D.int) (xs:=nI S) i0 (by rw[fg]at i1;exact i1)
   refine dj e10 ⟨hb,by rw[fg];omega,by rw[fg];omega,fun i i0 i1=>?_⟩
   obtain⟨z,hz,e⟩:=ji (g:=D.str) (xs:=jy S eO) i0 (by rw[fg]at i1;exact i1)
   obtain⟨z1,z2⟩:=xO hp hz
   exact dj e ⟨zs,.keep (kk (.join z z8 p9.1 pl) (ref_join z1 hp8 hp9 kh) (show z.length<=1000 by omega))⟩
  have a8:dw S.kept z8=some y8:=f9 wf.kp.nd hp8
  have eg:ixF (S.kept.map fun p=>dX p.1) (S.kept.map fun p=>jU p.2) (.str z8)=some (some (jU y8)):=by rw[gr dE jU z8 S.kept rfl,a8];rfl
  refine fL ?_
  dsimp only
  refine eK ((false != decide (way=9))&&isFst y8) ?_ (fun q=>?_) (fun q=>?_)
  ·exact(.and (.gV fun K k=>k) fun _=>.gV fun K k=>by cases y8 <;> exact⟨_,eg,k⟩)
  ·cases y8 with
   | jn _ _ _=>rw[show isFst (.jn _ _ _)=false from rfl,dc]at q;cases q
   | fst b a0 =>
    refine⟨hb,by decide,by decide,fun a a0' a1=>⟨zs,.keep (kk (.kS z8 a) ?_ trivial)⟩⟩
    show(match dw S.kept z8 with | none=>some 11 | some (.jn _ _ _)=>some 13 | some (.fst _ _)=>jl a)=none
    rw[a8]
    exact age_ok a0' (by omega)
  refine⟨S,m,rfl,wf,?_⟩
  dsimp only
  refine eK ((false != decide (way=10))&&decide ((0:Int)<(((pO S.kept).map D.str).length:Nat))) ?_ (fun q=>?_) (fun q=>?_)
  ·exact(.and (.gV fun K k=>k) fun _=>.gV fun K k=>k)
  ·have l0:0<(pO S.kept).length:=by
    have:=(Bool.and_eq_true_iff.mp q).2
    simp only[ba,fg]at this
    omega
   refine⟨hb,by rw[fg];omega,by rw[fg];omega,fun i i0 i1=>?_⟩
   obtain⟨z,hz,e⟩:=ji (g:=D.str) (xs:=pO S.kept) i0 (by rw[fg]at i1;exact i1)
   exact dj e ⟨zs,.keep (kk (.drop z) (ref_drop hz) trivial)⟩
  refine fL ?_
  dsimp only
  refine eK (decide (10<way)&&decide (1<S.n)) ?_ (fun q=>?_) (fun q=>?_)
  ·exact(.and (.gV fun K k=>k) fun _=>.gV fun K k=>k)
  ·simp only[aL,ba]at q
   refine⟨zs,hb,by decide,by decide,fun t t0 t1=>?_⟩
   obtain rfl | rfl:t=0\/t=1:=by omega
   ·exact⟨hb,by omega,by omega,fun p p0 p1=>⟨zs,.keep (kk (.free (1+p)) (vh (by omega) (by omega)) trivial)⟩⟩
   ·exact⟨hb,by omega,by omega,fun p p0 p1=>⟨zs,.keep (kk (.eR (1+p)) (vh (by omega) (by omega)) trivial)⟩⟩
  refine⟨hb,by omega,by omega,fun bar b0 b1=>⟨hb,by decide,by decide,fun t t0 t1=>⟨by decide,?_⟩⟩⟩
  obtain rfl | rfl:t=0\/t=1:=by omega
  ·exact⟨zs,.keep (kk (.found z8 bar ⟨#[111]⟩) (xA hp8 b0 b1 (.inl rfl)) trivial)⟩
  ·exact⟨zs,.keep (kk (.found z8 bar ⟨#[120]⟩) (xA hp8 b0 b1 (.inr rfl)) trivial)⟩
set_option maxHeartbeats 8000000 in
theorem ok_stands {f:Addr}{fd:FuncData}(F:gG K "_law_stands" "_law_stands" qF f fd)(T:iI mg)(dF:jS K cRoom)(jY:c_same P w K mg base)(C_Room_size:tU P w K mg base)(Ac:rM P w K mg base)(C_takes:c_takes P w K mg base)(Aa:rK P w K mg base)(C_Room_cuts:tW P w K mg base)(C_open:c_open P w K mg base)(Ab:rL P w K mg base)(C_Room_bars:tX P w K mg base)(C_Room_age:wm P w K mg base)(xq:pT P w K mg base)(o4:rJ P w K mg base):d7 P w K mg base jr 7 f fd ["_law_room", "_law_state"] (gv (uE cRoom dq)):=by
 refine F.nT iO (fun ds μ Kd h=>by unfold uE at h;split at h <;> first | rfl | exact h.elim) (fun fI A outer s H E hr=>⟨_,(dk (qS 2 iO.nd (d_ty (listD rfl) (qu (m:=false)) (by rfl) T.list bf (a1 (eQ (dv 1) dg))))
  (dk (fw (PW.pt (og (lW (gF (qC jY hr (a2 (gh C_Room_size dF.cl hr.le (dv 0)) (eQ (dv 1) dg))))) (jZ (lW (gF (qC jY hr (a2 (gh Ac dF.cl hr.le (dv 0)) (dv 2))))))))
  (dr (dP sI))
  eM)
  (dk (qS 3 iO.nd (qC C_takes hr (a1 (dv 1))))
  (dk (fw (PW.pt (og (lW (gF (qC jY hr (a2 (gh Aa dF.cl hr.le (dv 0)) (dv 3))))) (jZ (lW (gF (qC jY hr (a2 (gh C_Room_cuts dF.cl hr.le (dv 0)) (qC C_open hr (a1 (dv 1))))))))))
  (dr (dP sI))
  eM)
  (dk (sY bL rfl (iC rfl T.range (a1 (xm T (dv 2)))) (qT 4 iO.nd)
  (dk (qS 5 iO.nd (iS (fe hr) (eQ (dv 1) dg) (eQ (dv 2) (dv 4)) (fun _ _=>rfl)))
  (dk (qS 6 iO.nd (vY (mQ (eQ (dv 5) dg) du) (oO (dv 5) (ir dg) qM) d_non))
  (dk (qS 7 iO.nd (rE Ab dF.cl hr.le (dv 0) (a1 (eQ (dv 2) (dv 4)))))
  (dk (fw (PW.pt (og (PW.pt (jm (t_isN (dv 6)) (gW (ye (dv 7))))) (jZ (PW.pt (jm (ye (dv 6)) (gW (lW (gF (qC jY hr (a2 (dv 7) (dv 6)))))))))))
  (dr (dP sI))
  eM)
  (dk (fw (lW (gF (qC jY hr (a2 (gu (a2 (rE C_Room_bars dF.cl hr.le (dv 0) (a1 (eQ (dv 2) (dv 4)))) (rE C_Room_age dF.cl hr.le (dv 0) (a1 (eQ (dv 2) (dv 4)))))) (eQ (dv 3) (dv 4))))))
  (dr (dP sI))
  eM)
  (dr (sY bL rfl (iC rfl T.range (a1 (eQ (dv 1) dg))) (qT 8 iO.nd)
  (dr (fw (lW (gF (qC jY hr (a2 (rE xq dF.cl hr.le (dv 0) (a2 (eQ (dv 2) (dv 4)) (dv 8))) (qC o4 hr (a3 (eQ (dv 1) dg) (eQ (dv 2) (dv 4)) (dv 8)))))))
  (dr (dP sI))
  eM))))))))))
  (dr (dP sI))))))),fun ds μ Kd hm hl h=>?_⟩)
 unfold uE at h
 split at h
 ·rename_i k x
  obtain⟨⟨m0,em⟩,j1,j2,ss,rs,d,S,ra,es,rfl,kk⟩:=h
  obtain⟨S',uJ,wf⟩:=ra.now
  rw[es]at uJ
  cases uJ
  have ku:=wf.ku
  have n1:=wf.n1
  have n2:=wf.n2
  have eN:(S.kept.map fun p=>dX p.1).map mW=S.kept.map fun p=>D.str p.1:=aC
  have ol:(nI S).length<=40:=by
   unfold nI
   refine ar (bE _ _) ?_
   rw[fg,gxJ];omega
  have tl:(lJ S).length=S.kept.length:=by unfold lJ;rw[fg]
  have rc:∀ nm:Str,lD nm roN [.mr j1,.mr j2,.int (d:Int)]=none->sZ cRoom nm μ (.mr k):=fun nm hn=>by show(kQ _ _ _).map _=_;rw[fF ra.ins];exact bI some hn
  have smN:nF 5 (.lst (S.kept.map fun p=>D.str p.1)):=u0 (by rw[fg];omega) fun d hd=>by obtain⟨q,_,rfl⟩:=List.mem_map.mp hd;exact iK
  have smT:nF 5 (sE S):=sm_tks (by omega)
  have smC:nF 5 (gCuts S):=sm_ints (by omega)
  refine rG (d:=.lst (S.kept.map fun p=>D.str p.1)) (μ':=μ) (fun K k=>by rw[<- eN]at k;exact k) ?_
  dsimp only
  refine eK false ?_ (fun q=>by cases q) (fun _=>?_)
  ·exact .to (.or (x:=!true) (y:=!true) (.not (x:=true) (.gV fun K k=>⟨rc _ rfl,j1,j2,ss,rs,d,S,ra,es,_,rfl,rfl,jX,k⟩)) fun _=>.not (x:=true) (.gV fun K k=>⟨rc _ rfl,j1,j2,ss,rs,d,S,ra,es,_,rfl,rfl,smN,k⟩)) rfl
  refine fL ?_
  refine⟨S,d,rfl,wf,?_⟩
  dsimp only
  refine eK false ?_ (fun q=>by cases q) (fun _=>?_)
  ·exact .to (.or (x:=!true) (y:=!true) (.not (x:=true) (.gV fun K k=>⟨rc _ rfl,j1,j2,ss,rs,d,S,ra,es,_,rfl,rfl,smT,k⟩)) fun _=>.not (x:=true) (.gV fun K k=>⟨rc _ rfl,j1,j2,ss,rs,d,S,ra,es,S,d,rfl,wf,_,rfl,rfl,smC,k⟩)) rfl
  refine fL ?_
  refine⟨by rw[fg];omega,by rw[fg];omega,?_⟩
  rw[fg,gxK]
  refine jc (fun ds ρ μ'=>∃(a b:Nat) (v4 v5 v6 v7 v8:Option D),ds=kg a b/\a+b=S.kept.length/\ρ=[some (.mr k),some (qj S),some (.lst (S.kept.map fun p=>D.str p.1)),some (sE S),v4,v5,v6,v7,v8]/\μ'=μ) ⟨0,S.kept.length,none,none,none,none,none,rfl,by omega,rfl,rfl⟩ ?_ ?_
  ·rintro d' ds' ρ μ' ⟨i,b,v4,v5,v6,v7,v8,e1,hib,rfl,hμ⟩
   subst hμ
   refine⟨trivial,fun nx hnx=>?_⟩
   cases b with
   | zero=>cases e1
   | succ b =>
    rw[kq]at e1
    cases e1
    have hi:i<S.kept.length:=by omega
    obtain⟨⟨z,y⟩,hz⟩:∃ p,S.kept[i]?=some p:=⟨_,tL hi⟩
    have e:qh (S.kept.map fun p=>D.str p.1) (i:Int)=some (.str z):=rP hz
    have ez:dw S.kept z=some y:=f9 wf.kp.nd (zk hz)
    have eg:ixF (S.kept.map fun p=>dX p.1) (S.kept.map fun p=>jU p.2) (.str z)=some (some (jU y)):=by rw[gr dE jU z S.kept rfl,ez];rfl
    have gp:vL S z=lT y:=by unfold vL;rw[ez]
    have et:qh ((lJ S).map iU) (i:Int)=some (iU (fv S.kept z)):=rP (by unfold lJ;rw[tK,hz];rfl)
    refine dj e ⟨_,eg,?_⟩
    dsimp only
    refine rG (d:=lT y) (μ':=μ') (fun K k=>?_) ?_
    ·cases y with
     | fst b a=>exact k
     | jn l r p=>exact⟨(show ¬ (HT.gN 4 0 (some 1)=0/\HT.gN 4 4 none=4) by decide),k⟩
    refine⟨rc _ rfl,dj e ⟨trivial,⟨m0,em⟩,j1,j2,ss,rs,d,S,ra,es,?_⟩⟩
    rw[ez]
    dsimp only
    rw[gp]
    refine eK false ?_ (fun q=>by cases q) (fun _=>?_)
    ·cases y with
     | fst b a=>exact .to (.or (x:=true&&false) (y:=false&&false) (.and (x:=true) (y:=false) (.gV fun K k=>k) fun _=>.gV fun K k=>k) fun _=>.and (x:=false) (y:=false) (.gV fun K k=>k) (fun q=>nomatch q)) rfl
     | jn l r p=>exact .to (.or (x:=false&&false) (y:=true&&!true) (.and (x:=false) (y:=false) (.gV fun K k=>k) (fun q=>nomatch q)) fun _=>.and (x:=true) (y:=!true) (.gV fun K k=>k) fun _=>.not (x:=true) (.gV fun K k=>⟨_,rfl,rfl,r8 (by show 3<=100000;decide) (fun d hd=>by simp only[bF,bo,cE]at hd;rcases hd with rfl | rfl | rfl;exact iK;exact iK;exact jX),k⟩)) rfl
    refine fL ?_
    dsimp only
    refine eK false ?_ (fun q=>by cases q) (fun _=>?_)
    ·refine .to (.not (x:=true) (.gV fun K k=>?_)) rfl
     refine⟨rc _ rfl,dj e ⟨trivial,⟨m0,em⟩,j1,j2,ss,rs,d,S,ra,es,?_⟩⟩
     rw[ez]
     refine⟨rc _ rfl,dj e ⟨trivial,⟨m0,em⟩,j1,j2,ss,rs,d,S,ra,es,?_⟩⟩
     rw[ez]
     exact⟨zs,dj et ⟨_,rfl,rfl,sm_tk _,k⟩⟩
    refine fL ?_
    refine⟨by omega,by omega,?_⟩
    refine jc (fun ds ρ eW=>∃(a b:Nat) (v8:Option D),ds=kg a b/\a+b=S.n.toNat/\ρ=[some (.mr k),some (qj S),some (.lst (S.kept.map fun p=>D.str p.1)),some (sE S),some (.int i),some (jU y),some (lT y),some (lT y),v8]/\eW=μ') ⟨0,S.n.toNat,_,rfl,by omega,rfl,rfl⟩ ?_ ?_
    ·rintro d' ds' ρ eW ⟨a,b',v8',e1,hab,rfl,hμ⟩
     subst hμ
     refine⟨trivial,fun nx2 hnx2=>?_⟩
     cases b' with
     | zero=>cases e1
     | succ b' =>
      rw[kq]at e1
      cases e1
      refine eK false ?_ (fun q=>by cases q) (fun _=>?_)
      ·refine .to (.not (x:=true) (.gV fun K k=>?_)) rfl
       refine⟨rc _ rfl,dj e ⟨trivial,⟨m0,em⟩,j1,j2,ss,rs,d,S,ra,es,?_⟩⟩
       rw[ez]
       dsimp only
       rw[ag (show(0:Int)<=(a:Int)/\(a:Int)<S.n from⟨by omega,by omega⟩)]
       exact dj e ⟨S.kept,y,rfl,wf.kp,ez,_,rfl,rfl,r8 (by show 2<=100000;decide) (fun d hd=>by simp only[bF,bo,cE]at hd;rcases hd with rfl | rfl;exact iK;exact jX),k⟩
      exact hnx2 _ _ ⟨a+1,b',_,by rw[Int.natCast_add];rfl,by omega,rfl,rfl⟩
    ·rintro ρ eW ⟨a,b',v8',e1,hab,rfl,hμ⟩
     subst hμ
     exact⟨trivial,hnx _ _ ⟨i+1,b,_,_,_,_,_,by rw[Int.natCast_add];rfl,by omega,rfl,rfl⟩⟩
  ·rintro ρ μ' ⟨i,b,v4,v5,v6,v7,v8,e1,hib,rfl,hμ⟩
   subst hμ
   exact⟨trivial,.keep kk⟩
 ·exact h.elim
theorem ok_kinds {f:Addr}{fd:FuncData}(F:gG K "_law_kinds" "_law_kinds" uq f fd)(T:iI mg)(TV:mg "ValueError"=none)(ig:OwnCls "BadBars" oV mC "ValueError.__new__" mg base)(sP:OwnCls "BadMake" wt mC "ValueError.__new__" mg base)(oZ:OwnCls "BadNumber" qg mC "ValueError.__new__" mg base)(sO:OwnCls "BadText" wq mC "ValueError.__new__" mg base)(kA:OwnCls "BadName" oU mC "ValueError.__new__" mg base)(mv:OwnCls "BadAge" uO mC "ValueError.__new__" mg base)(mq:OwnCls "BadBar" uN mC "ValueError.__new__" mg base)(jB:OwnCls "BadPlace" pE mC "ValueError.__new__" mg base)(kz:OwnCls "BadSize" rO mC "ValueError.__new__" mg base)(pG:OwnCls "Taken" zR mC "ValueError.__new__" mg base)(sN:OwnCls "Full" cFull mC "ValueError.__new__" mg base)(mj:OwnCls "NoTake" uK mC "ValueError.__new__" mg base)(sM:OwnCls "Shut" cShut mC "ValueError.__new__" mg base)(mn:OwnCls "Joined" uM mC "ValueError.__new__" mg base)(ml:OwnCls "Needed" uL mC "ValueError.__new__" mg base)(lQ:OwnCls "NothingLeft" nj mC "ValueError.__new__" mg base)(zY:OwnB "NoWay" cNoWay mg):FnOkH P w K mg base 1 f fd ["_law_e"] (rq K ju hV):=by
 refine F.okH iW (fun ds μ Kd h=>fKindsJ_len h) (fun fI A outer s H hr eI kx e hk hh=>⟨_,(dk (qS 1 iW.nd (ik false (dh (hU (by rfl) T.isinstance (by rfl) ig.bound (dv 0)) (dh (hU (by rfl) T.isinstance (by rfl) sP.bound (dv 0)) (dh (hU (by rfl) T.isinstance (by rfl) oZ.bound (dv 0)) (dh (hU (by rfl) T.isinstance (by rfl) sO.bound (dv 0)) fB))))))
  (dk (qS 1 iW.nd (nU (dv 1) (ik false (dh (hU (by rfl) T.isinstance (by rfl) kA.bound (dv 0)) (dh (hU (by rfl) T.isinstance (by rfl) mv.bound (dv 0)) (dh (hU (by rfl) T.isinstance (by rfl) mq.bound (dv 0)) (dh (hU (by rfl) T.isinstance (by rfl) jB.bound (dv 0)) fB)))))))
  (dk (qS 1 iW.nd (nU (dv 1) (ik false (dh (hU (by rfl) T.isinstance (by rfl) kz.bound (dv 0)) (dh (hU (by rfl) T.isinstance (by rfl) pG.bound (dv 0)) (dh (hU (by rfl) T.isinstance (by rfl) sN.bound (dv 0)) (dh (hU (by rfl) T.isinstance (by rfl) mj.bound (dv 0)) fB)))))))
  (dk (qS 1 iW.nd (nU (dv 1) (ik false (dh (hU (by rfl) T.isinstance (by rfl) sM.bound (dv 0)) (dh (hU (by rfl) T.isinstance (by rfl) mn.bound (dv 0)) (dh (hU (by rfl) T.isinstance (by rfl) ml.bound (dv 0)) (dh (hU (by rfl) T.isinstance (by rfl) lQ.bound (dv 0)) fB)))))))
  (dk (qS 1 iW.nd (nU (dv 1) (ik false (a2 (hU (by rfl) T.isinstance (by rfl) zY.bound (dv 0)) (d_not (d_isiV (by rfl) T.isinstance (by rfl) TV PyProof.Rows.Boot.«ValueError» (dv 0)))))))
  (dk (qS 2 iW.nd (ik false (dh du (dh du (dh du (dh du (dh du (dh du (dh du (dh du (dh du fB)))))))))))
  (dk (qS 2 iW.nd (nU (dv 2) (ik false (dh du (dh du (dh du (dh du (dh du (dh du (dh du (dh du (dh du fB))))))))))))
  (dr (dP (d_compH false (Ah (N:=["_law_k", "_law_words", "_law_found"]) (js:=[none,some 2,some 1]) iW (by decide +kernel)) hh (dD 0) (de 0) rfl (i_rangeH (H0:=H) hk rfl T.range (a1 dg)) (fun _ _ _=>(qN 0 (show List.Nodup (["_law_k", "_law_words", "_law_found"]:List Str) by decide +kernel))) (fun _ _ _=>(rX (gF (eQ (dv 2) (dv 0))))) (fun _ _ _=>(eQ (dv 1) (dv 0))))))))))))),fun ds μ m Kd hm hl em hc h=>?_⟩)
 unfold rq at h
 split at h
 ·rename_i k
  obtain⟨_,hk1,j,hj,hx,KB,kk⟩:=h
  have Ag:(μ.set 0 (MO.gx eI H))[k]?=some (.exc (.ref (ju.getD j 0))):=by rw[ao (bb hk1)];exact hx
  refine⟨_,_,Ag,KB.ef,KB.at_ 0 (by decide),_,_,Ag,KB.ef,KB.at_ 1 (by decide),_,_,Ag,KB.ef,KB.at_ 2 (by decide),_,_,Ag,KB.ef,KB.at_ 3 (by decide),zs,?_⟩
  refine⟨_,_,Ag,KB.ef,KB.at_ 4 (by decide),_,_,Ag,KB.ef,KB.at_ 5 (by decide),_,_,Ag,KB.ef,KB.at_ 6 (by decide),_,_,Ag,KB.ef,KB.at_ 7 (by decide),zs,dj rfl (dj rfl ⟨zs,?_⟩)⟩
  refine⟨_,_,Ag,KB.ef,KB.at_ 8 (by decide),_,_,Ag,KB.ef,KB.at_ 9 (by decide),_,_,Ag,KB.ef,KB.at_ 10 (by decide),_,_,Ag,KB.ef,KB.at_ 11 (by decide),zs,dj rfl (dj rfl ⟨zs,?_⟩)⟩
  refine⟨_,_,Ag,KB.ef,KB.at_ 12 (by decide),_,_,Ag,KB.ef,KB.at_ 13 (by decide),_,_,Ag,KB.ef,KB.at_ 14 (by decide),_,_,Ag,KB.ef,KB.at_ 15 (by decide),zs,dj rfl (dj rfl ⟨zs,?_⟩)⟩
  refine⟨_,_,Ag,KB.ef,KB.at_ 16 (by decide),_,_,Ag,KB.ef,KB.kv,zs,dj rfl (dj rfl ⟨zs,?_⟩)⟩
  refine⟨zs,zs,dj rfl (dj rfl ⟨zs,?_⟩)⟩
  refine⟨by decide,by decide,zs,?_⟩
  refine compW_kinds hj hc (fun i K' hi h1 h2 k1 k2=>?_) (.keep (iR em kk))
  rw[Int.zero_add]
  refine dj (v:=D.bl (decide (i=j))) (kj h1) ?_
  show(if decide (i=j)=true then _ else _)
  by_cases q:i=j
  ·rw[ag (af q)]
   refine dj (v:=D.str (lL.getD i "")) (kj ?_) (k1 q)
   have:=bI (Option.map D.str) h2
   rw[<- tK]at this
   exact this
  ·rw[ae (by simpa using q)]
   exact k2 q
 ·exact h.elim
theorem ok_told {f:Addr}{fd:FuncData}(F:gG K "_law_told" "_law_told" yB f fd)(T:iI mg)(dF:jS K cRoom)(oY:OwnCls "HissError" hV mC "ValueError.__new__" mg base)(C_Room_deed:tV P w K mg base)(C_kinds:c_kinds P w K mg base):d7 P w K mg base jr 9 f fd ["_law_room", "_law_deed"] (gv (zp K ju hV cRoom dq)):=by
 refine F.nT yq (fun ds μ Kd h=>by unfold zp at h;split at h <;> first | rfl | exact h.elim) (fun fI A outer s H E hr=>⟨_,(dk (s_try rfl rfl rfl yq.nd (i:=3) rfl rfl rfl oY.bound (fun pn xe eI H0 Kx Zt=>(dr (qS 2 yq.nd (ic Zt C_Room_deed dF.cl hr.le (dv 0) (a1 (dv 1))))))
  (fun pn e ee H1 kx hk hk0=>(dr (dP (gu (a2 du (d_callH (H0:=H1) hk hk0 rfl C_kinds (roomM hr.le) rfl (a1 (dv 3)))))))))
  (dr (dP (gu (a2 du (d_isN (dv 2))))))),fun ds μ Kd hm hl h=>?_⟩)
 unfold zp at h
 split at h
 ·rename_i k y
  obtain⟨⟨m,em⟩,KA,j1,j2,ss,rs,d,S,e,ra,es,rfl,dZ,ku,kk⟩:=h
  have h0:0<μ.length:=(lE em).1
  refine⟨m,em,fun eI H0=>?_⟩
  have rg:=ra.gx (m:=.gx eI H0)
  refine⟨xx rg rfl,eE em,⟨_,eE em⟩,j1,j2,ss,rs,d,S,e,rg,es,rfl,dZ,ku,?_⟩
  cases er:i9 S e with
  | none =>
   rw[er]at kk
   obtain⟨g1,g2⟩:=putR_gx ra (m:=.gx eI H0) (ss':=ss.take (d+1)++[pK S e]) (rs':=rs.take d++[e]) (d':=d+1) em
   refine⟨g2,?_⟩
   rw[g1]
   exact⟨zs,.keep kk⟩
  | some i =>
   rw[er]at kk
   have KB:=KA i (yP er)
   refine⟨eE em,?_⟩
   rw[q9 em]
   refine⟨ju.getD i 0,rfl,KB.sub,fun ee H1=>?_⟩
   have em2:(μ++[MO.exc (.ref (ju.getD i 0))])[0]?=some m:=by rw[uD h0];exact em
   have ex2:((μ++[MO.exc (.ref (ju.getD i 0))]).set 0 (.gx ee H1))[μ.length]?=some (.exc (.ref (ju.getD i 0))):=by
    rw[ao (by omega),p6 (aa _),aR];rfl
   refine⟨⟨eE em2,_,ex2⟩,⟨_,eE em2⟩,by omega,i,by have:=yP er;omega,ex2,KB,zs,eE em2,?_⟩
   rw[q9 em2]
   refine .drop ?_ (gm hm) ?_
   ·exact⟨trivial,⟨trivial,trivial⟩,trivial⟩
   ·rw[aU];exact kk
 ·exact h.elim
theorem ok_named {f:Addr}{fd:FuncData}(F:gG K "_law_named" "_law_named" uo f fd)(T:iI mg)  : d7 P w K mg base jr 1 f fd ["_law_text"] (gv uH):=by
 refine F.nT sc_named (fun ds μ Kd h=>by unfold uH at h;split at h <;> first | rfl | exact h.elim) (fun fI A outer s H E hr=>⟨_,(dr (dP (d_and (tN leC r6 dg (xm T (dv 0)) (gz _)) (d_and (tN leC r6 (xm T (dv 0)) dg (gz _)) (d_one (pS (allC rfl) yj (by rfl) T.all PyProof.Rows.boot_all (a1 (dC1 false (Ah (N:=["_law_sign"]) (js:=[none]) sc_named (by decide +kernel)) (i_str (dv 0)) (fun _ _ _ nd=>(qN 0 nd)) (fun _ _ _=>jW) (fun _ _ _=>(tN inC so_in (dv 0) du (by with_unfolding_all rfl))))))))))),fun ds μ Kd hm hl h=>?_⟩)
 unfold uH at h
 split at h
 ·rename_i z
  obtain⟨hz,kk⟩:=h
  have sl:z.length<=sizeLine:=sz (by omega)
  refine⟨sl,lZ (c:=(1:Int)<=((z.length:Nat):Int)) (fun q1=>⟨sl,lZ (c:=((z.length:Nat):Int)<=8) (fun q2=>?_) (fun q2=>?_)⟩) (fun q1=>?_)⟩
  ·refine⟨by rw[fg];exact sl,?_⟩
   refine pD trivial (fun c:Nat=>D.str ⟨#[c]⟩) (fun c=>D.bl (decide (97<=c)&&decide (c<=122))) (fun c _ K' k'=>⟨c,rfl,?_⟩) ?_
   ·show K' (some (D.bl (false != decide (c∈abcT.cps.toList)))) μ
    rw[abc_mem,Bool.false_bne];exact k'
   ·refine⟨z.cps.toList.map fun c=>decide (97<=c)&&decide (c<=122),by rw[aC];rfl,?_⟩
    have eb:((z.cps.toList.map fun c=>decide (97<=c)&&decide (c<=122)).all id)=fK z:=by rw[nameB_of (by omega) (by omega),List.all_map];rfl
    show Fz _ Kd (.bl (List.all _ id)) μ
    rw[eb]
    exact .keep kk
  ·have:fK z=false:=by unfold fK;rw[ak (show ¬ z.length<=8 by omega),dc];rfl
   rw[this]at kk
   exact .keep kk
  ·have:fK z=false:=by unfold fK;rw[ak (show ¬ 1<=z.length by omega)];rfl
   rw[this]at kk
   exact .keep kk
 ·exact h.elim
theorem ok_new_word {f:Addr}{fd:FuncData}(F:gG K "_law_new_word" "_law_new_word" mL f fd)(T:iI mg)(C_named:c_named P w K mg base):d7 P w K mg base jr 2 f fd ["_law_state", "_law_name"] (gv rn):=by
 refine F.nT sc_new_word (fun ds μ Kd h=>by unfold rn at h;split at h <;> first | rfl | exact h.elim) (fun fI A outer s H E hr=>⟨_,(dk (fw (lW (gF (qC C_named hr (a1 (dv 1)))))
  (dr (dP du))
  eM)
  (dk (fw (t_inF (fe hr) (dv 1) (eQ (dv 0) dg) (by with_unfolding_all rfl))
  (dr (dP du))
  eM)
  (dr (dP (vY (qGe (pS lenD so_lenD (by rfl) T.len cF (a1 (eQ (dv 0) dg))) dg) du du))))),fun ds μ Kd hm hl h=>?_⟩)
 unfold rn at h
 split at h
 ·rename_i x z
  obtain⟨hz,S,m,rfl,wf,kk⟩:=h
  unfold iA at kk
  refine eK (!fK z) (.not (.gV fun K k=>⟨hz,k⟩)) (fun q=>?_) (fun q=>?_)
  ·rw[ag (by simpa using q)]at kk;exact .keep kk
  rw[ae (by simpa using q)]at kk
  refine fL ?_
  dsimp only
  refine eK (false != (dw S.kept z).isSome) (.gV fun K k=>dj rfl ⟨_,gr dE jU z S.kept rfl,by rw[bx];exact k⟩) (fun q=>?_) (fun q=>?_)
  ·rw[ag (by unfold fV;simpa using q)]at kk;exact .keep kk
  rw[ae (by unfold fV;simpa using q)]at kk
  refine fL ?_
  dsimp only
  refine m7 (decide ((20:Int)<=((S.kept.map fun p=>dX p.1).length:Nat))) (.gV fun K k=>dj rfl (dj rfl k)) (fun q=>?_) (fun q=>?_)
  ·have q:=cC q;rw[fg]at q;rw[ag (by omega)]at kk;exact .keep kk
  ·have q:=of_decide_eq_false q;rw[fg]at q;rw[ae (by omega)]at kk;exact .keep kk
 ·exact h.elim
theorem wY {f:Addr}{fd:FuncData}(F:gG K "_law_place_word" "_law_place_word" j6 f fd)(T:iI mg)  : d7 P w K mg base jr 1 f fd ["_law_state", "_law_place"] (gv m5):=by
 refine F.nT wR (fun ds μ Kd h=>by unfold m5 at h;split at h <;> first | rfl | exact h.elim) (fun fI A outer s H E hr=>⟨_,(dr (dP (vY (PW.pt (jm (qLe dg (dv 1)) (gW (qLt (dv 1) (eQ (dv 0) dg))))) du du))),fun ds μ Kd hm hl h=>?_⟩)
 unfold m5 at h
 split at h
 ·rename_i x p
  obtain⟨S,rfl,kk⟩:=h
  unfold fE at kk
  refine m7 (decide (1<=p)&&decide (p<S.n)) (.and (.gV fun K k=>k) fun _=>.gV fun K k=>dj rfl k) (fun q=>?_) (fun q=>?_)
  ·rw[ag (by simpa using q)]at kk;exact .keep kk
  ·rw[ae (by simpa using q)]at kk;exact .keep kk
 ·exact h.elim
theorem ok_put_word {f:Addr}{fd:FuncData}(F:gG K "_law_put_word" "_law_put_word" mK f fd)(T:iI mg)(qi:qe P w K mg base):d7 P w K mg base jr 3 f fd ["_law_state", "_law_deed"] (gv (iu w0)):=by
 refine F.nT ou (fun ds μ Kd h=>by unfold iu at h;split at h <;> first | rfl | exact h.elim) (fun fI A outer s H E hr=>⟨_,(dk (qS 2 ou.nd (qC qi hr (a2 (dv 0) (eQ (dv 1) dg))))
  (dk (fw (qNe (dv 2) du)
  (dr (dP (dv 2)))
  eM)
  (dk (fw (PW.pt (og (qNe (xm T (eQ (dv 1) dg)) (eQ (dv 0) dg)) (jZ (gF (pS (anyC rfl) yj (by rfl) T.any PyProof.Rows.boot_any (a1 (dC1 false (Ah (N:=["_law_sign"]) (js:=[none]) ou (by decide +kernel)) (i_str (eQ (dv 1) dg)) (fun _ _ _ nd=>(qN 0 nd)) (fun _ _ _=>jW) (fun _ _ _=>(tN notInC so_in (dv 0) du (by with_unfolding_all rfl))))))))))
  (dr (dP du))
  eM)
  (dr (dP (vY (PW.pt (jm (qLe dg (eQ (dv 1) dg)) (gW (qLe (eQ (dv 1) dg) dg)))) du du)))))),fun ds μ Kd hm hl h=>?_⟩)
 unfold iu at h
 split at h
 ·rename_i x y
  obtain⟨S,m,d,rfl,rfl,hw,wf,dZ,kk⟩:=h
  cases d <;> try cases hw
  rename_i nm b a
  obtain⟨k1,k2⟩:nm.length<=1000/\b.length<=1000:=dZ
  have kk:Kd (.str (jP ((iA S nm).or (if((b.length:Nat):Int)=S.n/\Ae b=true then jl a else some 0)))) μ:=kk
  refine dj rfl ⟨k1,S,m,rfl,wf,?_⟩
  have wn:=ql (o:=iA S nm) fun i e=>newW_lt e
  dsimp only
  refine eK (true != decide (jP (iA S nm)=("" : Str))) (.gV fun K k=>k) (fun q=>?_) (fun q=>?_)
  ·rw[wn]at q
   cases e:iA S nm with
   | none=>rw[e]at q;cases q
   | some i=>rw[e]at kk;exact .keep kk
  rw[wn]at q
  cases e:iA S nm with
  | some i=>rw[e]at q;cases q
  | none =>
  rw[e]at kk
  have kk:Kd (.str (jP (if((b.length:Nat):Int)=S.n/\Ae b=true then jl a else some 0))) μ:=kk
  refine fL ?_
  dsimp only
  refine eK ((true != decide (((b.length:Nat):Int)=S.n))||((b.cps.toList.map fun c=>!(decide (c=111)||decide (c=120))).any id)) (.or (.gV fun K k=>dj rfl ⟨sz (by omega),dj rfl k⟩) fun _=>.gV fun K k=>dj rfl ⟨by rw[fg];exact sz (by show b.length<=_;omega),pD trivial (fun c:Nat=>D.str ⟨#[c]⟩) (fun c=>D.bl (!(decide (c=111)||decide (c=120)))) (fun c _ K' k'=>⟨c,rfl,?_⟩) ⟨_,by rw[aC];rfl,k⟩⟩) (fun q=>?_) (fun q=>?_)
  ·rw[ox_mem];exact(Bool.true_bne _)▸k'
  ·have:¬ (((b.length:Nat):Int)=S.n/\Ae b=true):=by
    rintro⟨z1,z2⟩
    rw[af z1,ox_any,z2]at q
    cases q
   rw[ae this]at kk
   exact .keep kk
  ·rw[ox_any]at q
   have:((b.length:Nat):Int)=S.n/\Ae b=true:=by simpa using q
   rw[ag this]at kk
   unfold jl at kk
   refine fL ?_
   dsimp only
   refine m7 (decide (0<=a)&&decide (a<=20)) (.and (.gV fun K k=>dj rfl k) fun _=>.gV fun K k=>dj rfl k) (fun q=>?_) (fun q=>?_)
   ·rw[ag (by simpa using q)]at kk;exact .keep kk
   ·rw[ae (by simpa using q)]at kk;exact .keep kk
 ·exact h.elim
theorem y0 {f:Addr}{fd:FuncData}(F:gG K "_law_join_word" "_law_join_word" kZ f fd)(T:iI mg)(qi:qe P w K mg base)(nz:nh P w K mg base):d7 P w K mg base jr 3 f fd ["_law_state", "_law_deed"] (gv (iu w1)):=by
 refine F.nT qy (fun ds μ Kd h=>by unfold iu at h;split at h <;> first | rfl | exact h.elim) (fun fI A outer s H E hr=>⟨_,(dk (qS 2 qy.nd (qC qi hr (a2 (dv 0) (eQ (dv 1) dg))))
  (dk (fw (qNe (dv 2) du)
  (dr (dP (dv 2)))
  eM)
  (dk (fw (PW.pt (og (jQ (fe hr) (eQ (dv 1) dg) (eQ (dv 0) dg) (by with_unfolding_all rfl)) (jZ (jQ (fe hr) (eQ (dv 1) dg) (eQ (dv 0) dg) (by with_unfolding_all rfl)))))
  (dr (dP du))
  eM)
  (dk (fw (qNe (qC nz hr (a2 (dv 0) (eQ (dv 1) dg))) du)
  (dr (dP du))
  eM)
  (dr (dP (vY (t_inF (fe hr) (eQ (dv 1) dg) (eQ (dv 0) dg) (by with_unfolding_all rfl)) du du))))))),fun ds μ Kd hm hl h=>?_⟩)
 unfold iu at h
 split at h
 ·rename_i x y
  obtain⟨S,m,d,rfl,rfl,hw,wf,dZ,kk⟩:=h
  cases d <;> try cases hw
  rename_i nm l r p
  have k1:nm.length<=1000:=dZ
  have kk:Kd (.str (jP ((iA S nm).or (if fV S l=false then some 11 else if fV S r=false then some 11 else(fE S p).or (if(dw S.eR p).isSome=true then some 12 else none))))) μ:=kk
  refine dj rfl ⟨k1,S,m,rfl,wf,?_⟩
  have wn:=ql (o:=iA S nm) fun i e=>newW_lt e
  dsimp only
  refine eK (true != decide (jP (iA S nm)=("" : Str))) (.gV fun K k=>k) (fun q=>?_) (fun q=>?_)
  ·rw[wn]at q
   cases e:iA S nm with
   | none=>rw[e]at q;cases q
   | some i=>rw[e]at kk;exact .keep kk
  rw[wn]at q
  cases e:iA S nm with
  | some i=>rw[e]at q;cases q
  | none =>
  rw[e]at kk
  have kk:Kd (.str (jP (if fV S l=false then some 11 else if fV S r=false then some 11 else(fE S p).or (if(dw S.eR p).isSome=true then some 12 else none)))) μ:=kk
  unfold fV at kk
  refine fL ?_
  dsimp only
  refine eK ((true != (dw S.kept l).isSome)||(true != (dw S.kept r).isSome)) (.or (.gV fun K k=>dj rfl (dj rfl ⟨_,gr dE jU l S.kept rfl,by rw[bx];exact k⟩)) fun _=>.gV fun K k=>dj rfl (dj rfl ⟨_,gr dE jU r S.kept rfl,by rw[bx];exact k⟩)) (fun q=>?_) (fun q=>?_)
  ·cases el:(dw S.kept l).isSome with
   | false=>rw[el,ag rfl]at kk;exact .keep kk
   | true =>
    rw[el,ae (by decide)]at kk
    cases er:(dw S.kept r).isSome with
    | false=>rw[er,ag rfl]at kk;exact .keep kk
    | true=>rw[el,er]at q;cases q
  ·obtain⟨el,er⟩:(dw S.kept l).isSome=true/\(dw S.kept r).isSome=true:=by simpa using q
   rw[el,ae (by decide),er,ae (by decide)]at kk
   refine fL ?_
   dsimp only
   have pn:=ql (o:=fE S p) fun i e=>by unfold fE at e;split at e <;> cases e;decide
   refine eK (true != decide (jP (fE S p)=("" : Str))) (.gV fun K k=>dj rfl ⟨S,rfl,k⟩) (fun q=>?_) (fun q=>?_)
   ·rw[pn]at q
    unfold fE at q kk
    split at q
    ·cases q
    ·rename_i q2;rw[ae q2]at kk;exact .keep kk
   ·rw[pn]at q
    unfold fE at q kk
    split at q
    ·rename_i q2
     rw[ag q2]at kk
     have kk:Kd (.str (jP (if(dw S.eR p).isSome=true then some 12 else none))) μ:=kk
     refine fL ?_
     dsimp only
     refine m7 (false != (dw S.eR p).isSome) (.gV fun K k=>dj rfl (dj rfl ⟨_,gr hG (fun _=>D.bl true) p S.eR rfl,by rw[bx];exact k⟩)) (fun q=>?_) (fun q=>?_)
     ·rw[ag (by simpa using q)]at kk;exact .keep kk
     ·rw[ae (by simpa using q)]at kk;exact .keep kk
    ·cases q
 ·exact h.elim
theorem yZ {f:Addr}{fd:FuncData}(F:gG K "_law_take_word" "_law_take_word" kX f fd)(T:iI mg)  : d7 P w K mg base jr 1 f fd ["_law_state", "_law_deed"] (gv (iu w24)):=by
 refine F.nT mH (fun ds μ Kd h=>by unfold iu at h;split at h <;> first | rfl | exact h.elim) (fun fI A outer s H E hr=>⟨_,(dk (fw (jQ (fe hr) (eQ (dv 1) dg) (eQ (dv 0) dg) (by with_unfolding_all rfl))
  (dr (dP du))
  eM)
  (dk (qS 2 mH.nd (iS (fe hr) (eQ (dv 0) dg) (eQ (dv 1) dg) (fun _ _=>rfl)))
  (dk (fw (mQ (eQ (dv 1) dg) du)
  (dk (fw (PW.pt (og (qLt (eQ (dv 1) dg) dg) (jZ (qGe (eQ (dv 1) dg) (eQ (dv 0) dg)))))
  (dr (dP du))
  eM)
  (dr (dP (vY (PW.pt (og (mQ (eQ (dv 1) dg) du) (jZ (mQ (eQ (dv 1) dg) du)))) du du))))
  eM)
  (dk (fw (mQ (eQ (dv 1) dg) du)
  (dk (fw (mQ (eQ (dv 2) dg) du)
  (dr (dP du))
  eM)
  (dr (dP (vY (PW.pt (jm (qLe dg (eQ (dv 1) dg)) (gW (qLe (eQ (dv 1) dg) dg)))) du du))))
  eM)
  (dk (sY bL rfl (sA (eQ (dv 0) dg)) (qT 3 mH.nd)
  (dr (fw (PW.pt (jm (mQ (eQ (dv 3) dg) du) (gW (m6 inC so_inT (eQ (dv 1) dg) (oO (dv 3) (ir dg) (ir dg)) (by with_unfolding_all rfl)))))
  (dr (dP du))
  eM)))
  (dr (dP du))))))),fun ds μ Kd hm hl h=>?_⟩)
 unfold iu at h
 split at h
 ·rename_i x y
  obtain⟨S,m,d,rfl,rfl,hw,wf,dZ,kk⟩:=h
  have eT:∀ c:Str,(false != decide (c=c))=true:=fun c=>by rw[af rfl];rfl
  cases d <;> try cases hw
  ·rename_i nm bar sg
   have kk:Kd (.str (jP (if fV S nm=false then some 11 else if 0<=bar/\bar<S.n then(if sg = "o"\/sg = "x" then none else some 0)else some 6))) μ:=kk
   unfold fV at kk
   refine eK (true != (dw S.kept nm).isSome) (.gV fun K k=>dj rfl (dj rfl ⟨_,gr dE jU nm S.kept rfl,by rw[bx];exact k⟩)) (fun q=>?_) (fun q=>?_)
   ·rw[ag (by simpa using q)]at kk;exact .keep kk
   obtain⟨y,ey⟩:=Option.isSome_iff_exists.mp (show(dw S.kept nm).isSome=true by simpa using q)
   refine fL ?_
   dsimp only
   refine dj rfl (dj rfl ⟨_,by rw[gr dE jU nm S.kept rfl,ey];rfl,?_⟩)
   dsimp only
   rw[ey,ae (by exact fun z=>nomatch z)]at kk
   refine eK true (.gV fun K k=>dj rfl k) (fun _=>?_) (fun q=>by cases q)
   refine eK (decide (bar<0)||decide (S.n<=bar)) (.or (.gV fun K k=>dj rfl k) fun _=>.gV fun K k=>dj rfl (dj rfl k)) (fun q=>?_) (fun q=>?_)
   ·rw[ae (by have w:bar<0\/S.n<=bar:=(by simpa using q);omega)]at kk
    exact .keep kk
   ·rw[ag (by have w:¬ bar<0/\¬ S.n<=bar:=(by simpa using q);omega)]at kk
    refine fL ?_
    dsimp only
    refine m7 ((false != decide (sg = "o"))||(false != decide (sg = "x"))) (.or (.gV fun K k=>dj rfl k) fun _=>.gV fun K k=>dj rfl k) (fun q=>?_) (fun q=>?_)
    ·rw[ag (by simpa using q)]at kk;exact .keep kk
    ·rw[ae (by simpa using q)]at kk;exact .keep kk
  ·rename_i nm a
   have kk:Kd (.str (jP (match dw S.kept nm with | none=>some 11 | some (.jn _ _ _)=>some 13 | some (.fst _ _)=>jl a))) μ:=kk
   refine eK (true != (dw S.kept nm).isSome) (.gV fun K k=>dj rfl (dj rfl ⟨_,gr dE jU nm S.kept rfl,by rw[bx];exact k⟩)) (fun q=>?_) (fun q=>?_)
   ·rw[show dw S.kept nm=none by simpa using q]at kk;exact .keep kk
   obtain⟨y,ey⟩:=Option.isSome_iff_exists.mp (show(dw S.kept nm).isSome=true by simpa using q)
   refine fL ?_
   dsimp only
   refine dj rfl (dj rfl ⟨_,by rw[gr dE jU nm S.kept rfl,ey];rfl,?_⟩)
   dsimp only
   rw[ey]at kk
   refine eK false (.gV fun K k=>dj rfl k) (fun q=>by cases q) (fun _=>?_)
   refine fL ?_
   dsimp only
   refine eK true (.gV fun K k=>dj rfl k) (fun _=>?_) (fun q=>by cases q)
   cases y with
   | jn l r p =>
    refine eK true (.gV fun K k=>dj rfl k) (fun _=>?_) (fun q=>by cases q)
    exact .keep kk
   | fst b a0 =>
    refine eK false (.gV fun K k=>dj rfl k) (fun q=>by cases q) (fun _=>?_)
    refine fL ?_
    dsimp only at kk ⊢
    unfold jl at kk
    refine m7 (decide (0<=a)&&decide (a<=20)) (.and (.gV fun K k=>dj rfl k) fun _=>.gV fun K k=>dj rfl k) (fun q=>?_) (fun q=>?_)
    ·rw[ag (by simpa using q)]at kk;exact .keep kk
    ·rw[ae (by simpa using q)]at kk;exact .keep kk
  ·rename_i nm
   have kk:Kd (.str (jP (if fV S nm=false then some 11 else if j0 S nm=true then some 14 else none))) μ:=kk
   unfold fV at kk
   refine eK (true != (dw S.kept nm).isSome) (.gV fun K k=>dj rfl (dj rfl ⟨_,gr dE jU nm S.kept rfl,by rw[bx];exact k⟩)) (fun q=>?_) (fun q=>?_)
   ·rw[ag (by simpa using q)]at kk;exact .keep kk
   obtain⟨y,ey⟩:=Option.isSome_iff_exists.mp (show(dw S.kept nm).isSome=true by simpa using q)
   refine fL ?_
   dsimp only
   refine dj rfl (dj rfl ⟨_,by rw[gr dE jU nm S.kept rfl,ey];rfl,?_⟩)
   dsimp only
   rw[ey,ae (by exact fun z=>nomatch z)]at kk
   refine eK false (.gV fun K k=>dj rfl k) (fun q=>by cases q) (fun _=>?_)
   refine fL ?_
   dsimp only
   refine eK false (.gV fun K k=>dj rfl k) (fun q=>by cases q) (fun _=>?_)
   refine fL ?_
   dsimp only
   refine dj rfl fun _=>?_
   refine jc (fun ds ρ μ'=>∃(pre post:List (Str×Pt)) (v3:Option D),S.kept=pre++post/\ds=post.map (fun p=>jU p.2)/\(pre.any fun p=>gc nm p.2)=false/\ρ=[some (qj S),some (pR (.drop nm)),some (jU y),v3]/\μ'=μ) ⟨[],S.kept,none,rfl,rfl,rfl,rfl,rfl⟩ ?_ ?_
   ·rintro d ds' ρ μ' ⟨pre,post,v3,hs,e1,ha,rfl,rfl⟩
    refine⟨trivial,fun nx hnx=>?_⟩
    cases post with
    | nil=>cases e1
    | cons p post =>
     obtain⟨z,u⟩:=p
     cases e1
     have nE:j0 S nm=(gc nm u||post.any fun p=>gc nm p.2):=by unfold j0;rw[hs,List.any_append,bp,ha,Bool.false_or]
     have next:gc nm u=false->nx [some (qj S),some (pR (.drop nm)),some (jU y),some (jU u)] μ':=fun q=>hnx _ _ ⟨pre++[(z,u)],post,_,by rw[hs,aI];rfl,rfl,by rw[List.any_append,ha,bp,q];rfl,rfl,rfl⟩
     dsimp only
     cases u with
     | fst b a =>
      refine eK false (fun K k=>dj rfl k) (fun q=>by cases q) (fun _=>?_)
      exact next rfl
     | jn l r p =>
      have eb:(false != ([D.str l,D.str r].any fun d=>deq d (.str nm)))=gc nm (.jn l r p):=by
       rw[fne]
       simp only[bp,List.any_nil,deq,Bool.or_false]
       rfl
      refine eK (true&&gc nm (.jn l r p)) (.and (.gV fun K k=>dj rfl k) fun _=>.gV fun K k=>dj rfl ⟨fun y=>absurd y.1 (show ¬ (1:Nat)=0 by decide),rfl,rfl,?_⟩) (fun q=>?_) (fun q=>?_)
      ·show K (.bl (false != ([D.str l,D.str r].any fun d=>deq d (.str nm)))) _
       rw[eb];exact k
      ·rw[Bool.true_and]at q
       rw[nE,q,Bool.true_or,ag rfl]at kk
       exact .keep kk
      ·rw[Bool.true_and]at q
       exact next q
   ·rintro ρ μ' ⟨pre,post,v3,hs,e1,ha,rfl,rfl⟩
    cases post with
    | cons p post=>cases e1
    | nil =>
     rw[aN]at hs
     rw[<- hs]at ha
     have:j0 S nm=false:=ha
     rw[this,ae (by decide)]at kk
     exact⟨trivial,.keep kk⟩
 ·exact h.elim
theorem ok_word {f:Addr}{fd:FuncData}(F:gG K "_law_word" "_law_word" yz f fd)(T:iI mg)(C_put_word:wg P w K mg base)(C_join_word:tS P w K mg base)(nz:nh P w K mg base)(C_take_word:tR P w K mg base):d7 P w K mg base jr 4 f fd ["_law_state", "_law_deed"] (gv (iu wAll)):=by
 refine F.nT sc_word (fun ds μ Kd h=>by unfold iu at h;split at h <;> first | rfl | exact h.elim) (fun fI A outer s H E hr=>⟨_,(dk (fw (mQ (eQ (dv 1) dg) du)
  (dr (dP (qC C_put_word hr (a2 (dv 0) (dv 1)))))
  eM)
  (dk (fw (mQ (eQ (dv 1) dg) du)
  (dr (dP (qC C_join_word hr (a2 (dv 0) (dv 1)))))
  eM)
  (dk (fw (PW.pt (og (mQ (eQ (dv 1) dg) du) (jZ (mQ (eQ (dv 1) dg) du))))
  (dr (dP (qC nz hr (a2 (dv 0) (eQ (dv 1) dg)))))
  eM)
  (dr (dP (qC C_take_word hr (a2 (dv 0) (dv 1)))))))),fun ds μ Kd hm hl h=>?_⟩)
 unfold iu at h
 split at h
 ·rename_i x y
  obtain⟨S,m,d,rfl,rfl,hw,wf,dZ,kk⟩:=h
  cases d with
  | put nm b a=>exact dj rfl ⟨S,m,.put nm b a,rfl,rfl,rfl,wf,dZ,.keep kk⟩
  | join nm l r p=>exact dj rfl (dj rfl ⟨S,m,.join nm l r p,rfl,rfl,rfl,wf,dZ,.keep kk⟩)
  | found nm bar sg=>exact dj rfl (dj rfl (dj rfl (dj rfl ⟨S,m,.found nm bar sg,rfl,rfl,rfl,wf,dZ,.keep kk⟩)))
  | kS nm a=>exact dj rfl (dj rfl (dj rfl (dj rfl ⟨S,m,.kS nm a,rfl,rfl,rfl,wf,dZ,.keep kk⟩)))
  | drop nm=>exact dj rfl (dj rfl (dj rfl (dj rfl ⟨S,m,.drop nm,rfl,rfl,rfl,wf,dZ,.keep kk⟩)))
  | free p=>exact dj rfl (dj rfl (dj rfl (dj rfl ⟨S,rfl,.keep kk⟩)))
  | eR p=>exact dj rfl (dj rfl (dj rfl (dj rfl (dj rfl ⟨S,rfl,.keep kk⟩))))
 ·exact h.elim
theorem ok_any_name {f:Addr}{fd:FuncData}(F:gG K "_law_any_name" "_law_any_name" mM f fd)(T:iI mg)(eA:ng P w K mg base):d7 P w K mg base jr 2 f fd ["_law_box_here", "_law_state", "_law_pool"] (gv rC):=by
 refine F.nT sX (fun ds μ Kd h=>by unfold rC at h;split at h <;> first | rfl | exact h.elim) (fun fI A outer s H E hr=>⟨_,(dk (qS 3 sX.nd (nU (nU (dv 2) (d_ty (listD rfl) (qu (m:=false)) (by rfl) T.list bf (a1 (eQ (dv 1) dg)))) (ik false (dh du (dh du (dh du (dh du (dh du (dh (nU (eQ (dv 2) dg) du) fB)))))))))
  (dr (dP (eQ (dv 3) (qC eA hr (a2 (dv 0) (xm T (dv 3)))))))),fun ds μ Kd hm hl h=>?_⟩)
 unfold rC at h
 split at h
 ·rename_i k x y
  obtain⟨hb,S,m,eO,rfl,rfl,wf,⟨p1,p2,p3⟩,kk⟩:=h
  have ku:=wf.ku
  obtain⟨z0,r,rfl⟩:∃ z0 r,eO=z0::r:=by
   cases eO with
   | nil=>exact absurd p1 (by decide)
   | cons a b=>exact⟨a,b,rfl⟩
  have z0l:z0.length<=8:=named_8 (p3 z0 aw)
  obtain⟨L,hL⟩:∃ L:List Str,L=((z0::r)++S.kept.map (·.1))++([("" : Str),("Zoe" : Str),("a b" : Str),("abcdefghi" : Str),("q1" : Str),z0++spc]:List Str):=⟨_,rfl⟩
  have ll:L.length<=76/\6<=L.length:=by
   rw[hL,kH,kH,fg]
   show(z0::r).length+S.kept.length+6<=76/\6<=(z0::r).length+S.kept.length+6
   omega
  have six:∀ z∈(["", "Zoe", "a b", "abcdefghi", "q1"]:List Str),z.length<=100:=by decide +kernel
  have lok:∀ z∈L,z.length<=100:=fun z hz=>by
   rw[hL]at hz
   rcases List.mem_append.mp hz with hz | hz
   ·rcases List.mem_append.mp hz with hz | hz
    ·exact lY (p3 z hz)
    ·obtain⟨p,hp,rfl⟩:=List.mem_map.mp hz
     exact lY (wf.nms p hp)
   ·rcases List.mem_append.mp (show z∈(["", "Zoe", "a b", "abcdefghi", "q1"]:List Str)++[z0++spc]from hz)with hz | hz
    ·exact six z hz
    ·rw[List.mem_singleton.mp hz,spc_len];omega
  have eL:(((z0::r).map D.str)++((S.kept.map fun p=>dX p.1).map mW))++[D.str "",D.str "Zoe",D.str "a b",D.str "abcdefghi",D.str "q1",D.str (z0++spc)]=L.map D.str:=by
   rw[hL,aG,aG,aC,aC];rfl
  refine rG (d:=.lst (L.map D.str)) (μ':=μ) (fun K k=>?_) ?_
  ·rw[<- eL]at k
   refine dj rfl (dj rfl (dj rfl (dj rfl ⟨sz (by rw[fg,fg,fg];show(z0::r).length+_<=_;omega),?_⟩)))
   refine dj (v:=D.str z0) (show qh (D.str z0::r.map D.str) 0=_ from kj (j:=0) rfl) ⟨ar (show z0.length+1<=9 by omega) (sz (by decide)),zs,dj rfl (dj rfl ⟨sz (by rw[kH,fg,fg,fg];show(z0::r).length+S.kept.length+6<=_;omega),k⟩)⟩
  ·refine⟨hb,by rw[fg];omega,by rw[fg];omega,fun i i0 i1=>?_⟩
   obtain⟨z,hz,e⟩:=ji (g:=D.str) (xs:=L) i0 (by rw[fg]at i1;exact i1)
   exact dj e (.keep (kk z (lok z hz)))
 ·exact h.elim
theorem y6 {f:Addr}{fd:FuncData}(F:gG K "_law_bent_deed" "_law_bent_deed" k9 f fd)(T:iI mg)(eA:ng P w K mg base)(C_any_name:wj P w K mg base):d7 P w K mg base jr 3 f fd ["_law_box_here", "_law_state", "_law_pool", "_law_deed"] (gv zu):=by
 refine F.nT hZ (fun ds μ Kd h=>by unfold zu at h;split at h <;> first | rfl | exact h.elim) (fun fI A outer s H E hr=>⟨_,(dk (fw (PW.pt (og (mQ (eQ (dv 3) dg) du) (jZ (mQ (eQ (dv 3) dg) du))))
  (dr (dP (gu (a2 (eQ (dv 3) dg) (eQ (ik false (dh dg (dh (d_neg dg) (dh (eQ (dv 1) dg) (dh (nU (eQ (dv 1) dg) dg) (dh (rD powC so_i2 dg dg) (dh dg fB))))))) (qC eA hr (a2 (dv 0) dg)))))))
  eM)
  (dk (qS 4 hZ.nd (nU dg (qC eA hr (a2 (dv 0) (dMi (xm T (dv 3)) dg)))))
  (xZ (fw (PW.pt (jm (mQ (eQ (dv 3) dg) du) (gW (mQ (dv 4) dg))))
  (dr (qS 5 hZ.nd (eQ (ik false (dh (nU (eQ (dv 3) dg) du) (dh (jI false (eQ (dv 3) dg) (ir dg) qM) (dh (nU (jI false (eQ (dv 3) dg) (ir dg) qM) du) (dh du (dh (nU (jI false (eQ (dv 3) dg) qM (ir (d_neg dg))) du) fB)))))) (qC eA hr (a2 (dv 0) dg)))))
  (dr (fw (PW.pt (jm (mQ (eQ (dv 3) dg) du) (gW (mQ (dv 4) dg))))
  (dr (qS 5 hZ.nd (eQ (ik false (dh du (dh du (dh du (dh du (dh du fB)))))) (qC eA hr (a2 (dv 0) dg)))))
  (dr (fw (PW.pt (og (mQ (dv 4) dg) (jZ (PW.pt (jm (mQ (eQ (dv 3) dg) du) (gW (qLt (dv 4) dg)))))))
  (dr (qS 5 hZ.nd (qC C_any_name hr (a3 (dv 0) (dv 1) (dv 2)))))
  (dr (qS 5 hZ.nd (eQ (ik false (dh (d_neg dg) (dh dg (dh (eQ (dv 1) dg) (dh (rD powC so_i2 dg dg) (dh dg (dh dg (dh (dMi (eQ (dv 1) dg) dg) (dh (d_neg (rD powC so_i2 dg dg)) fB))))))))) (qC eA hr (a2 (dv 0) dg))))))))))
  (dr (dP (rD op_catT so_addT (rD op_catT so_addT (oO (dv 3) qM (ir (dv 4))) (gu (a1 (dv 5)))) (oO (dv 3) (ir (nU (dv 4) dg)) qM))))))),fun ds μ Kd hm hl h=>?_⟩)
 unfold zu at h
 split at h
 ·rename_i k x y z
  obtain⟨hb,S,m,eO,d,n,rfl,rfl,rfl,wf,hp,hd,hn,kk⟩:=h
  rw[dd_th d]
  obtain⟨rest,hrest⟩:∃ rest,n9 d=D.str (gP d)::rest:=by cases d <;> exact⟨_,rfl⟩
  have at0:qh (n9 d) 0=some (D.str (gP d)):=by rw[hrest];exact kj (j:=0) rfl
  have tl:=th_len d
  have ki:∀(xs:List Int) (v:Int) (_:0<=v) (_:v<((xs.map D.int).length:Int)),∃ u:Int,qh (xs.map D.int) v=some (D.int u):=fun xs v h0 h1=>by
   obtain⟨u,_,e⟩:=ji (g:=D.int) (xs:=xs) h0 (by rw[fg]at h1;exact h1)
   exact⟨u,e⟩
  have ks:∀(xs:List Str) (v:Int) (_:0<=v) (_:v<((xs.map D.str).length:Int)),∃ u∈xs,qh (xs.map D.str) v=some (D.str u):=fun xs v h0 h1=>ji (g:=D.str) (xs:=xs) h0 (by rw[fg]at h1;exact h1)
  have pw:CPow 10 20:=⟨by decide,by decide,by decide⟩
  refine eK ((false != decide (gP d = "free"))||(false != decide (gP d = "shut"))) (.or (.gV fun K k=>dj at0 k) fun _=>.gV fun K k=>dj at0 k) (fun q=>?_) (fun q=>?_)
  ·have hw:gP d = "free"\/gP d = "shut":=by simpa using q
   refine dj at0 (dj rfl (dj rfl ⟨pw,zs,hb,by decide,by decide,fun i i0 i1=>?_⟩))
   obtain⟨u,eu⟩:=ki [0,-1,S.n,S.n+5,10 ^ 20,1] i i0 i1
   refine dj eu ⟨zs,.keep ?_⟩
   rcases hw with hw | hw
   ·have:=(l8 d 5 (by decide)).mp hw
    cases d <;> cases this
    exact kk (.free u) trivial
   ·have:=(l8 d 6 (by decide)).mp hw
    cases d <;> cases this
    exact kk (.eR u) trivial
  ·have hw:¬ gP d = "free"/\¬ gP d = "shut":=by simpa using q
   have l2:2<=(n9 d).length:=by cases d <;> (simp only[n9,aE,bU];omega)
   refine fL ?_
   dsimp only
   refine⟨hb,by omega,by omega,fun v v0 v1=>?_⟩
   obtain⟨a,ha⟩:∃ a:Nat,1+v=(a:Int):=⟨(1+v).toNat,by omega⟩
   dsimp only [dAdd]
   rw[ha]
   have a1:1<=a:=by omega
   have a2:a<(n9 d).length:=by omega
   refine⟨fun jV eW=>∃(t:D) (d':Dd),ddL (n+1) d'/\(n9 d).take a++[t]++(n9 d).drop (a+1)=n9 d'/\jV=[some (.mr k),some (qj S),some (oj eO),some (.tup (n9 d)),some (.int a),some t]/\eW=μ,?_,?_⟩
   ·refine eK ((false != decide (gP d = "put"))&&(false != decide ((a:Int)=2))) (.and (.gV fun K k=>dj at0 k) fun _=>.gV fun K k=>k) (fun q=>?_) (fun q1=>?_)
    ·obtain⟨w1,w2⟩:gP d = "put"/\(a:Int)=2:=by simpa using q
     have w1:=(l8 d 0 (by decide)).mp w1
     obtain⟨nm,b,c,rfl⟩:∃ nm b c,d=.put nm b c:=by cases d <;> first | exact⟨_,_,_,rfl⟩ | cases w1
     obtain rfl:a=2:=by omega
     have bl:b.length<=n:=hd.2
     have sb:b.length<=sizeLine:=sz (by omega)
     have cl:∀ lo hi,(Str.mk (gi b.cps.toList lo hi).toArray).length<=n:=fun lo hi=>ar (m8 _ lo hi) bl
     have o1:∀(z:Str) (y:String),z.length<=n->(Str.ofString y).length=1->z.length+(Str.ofString y).length<=sizeLine:=fun z y hz hy=>by rw[hy];exact sz (by omega)
     refine dj rfl ⟨o1 _ _ bl rfl,dj rfl ⟨sb,dj rfl ⟨sb,o1 _ _ (cl _ _) rfl,dj rfl ⟨sb,o1 _ _ (cl _ _) rfl,zs,hb,by decide,by decide,fun i i0 i1=>?_⟩⟩⟩⟩
     obtain⟨u,hu,eu⟩:=ks [b++Str.ofString "o",⟨(gi b.cps.toList (some 1) none).toArray⟩,⟨(gi b.cps.toList (some 1) none).toArray⟩++Str.ofString "O",Str.ofString "",⟨(gi b.cps.toList none (some (-1))).toArray⟩++Str.ofString " "] i i0 i1
     refine dj eu ⟨.str u,.put nm u c,⟨hd.1,?_⟩,rfl,rfl,rfl⟩
     simp only[bF,bo,cE]at hu
     rcases hu with rfl | rfl | rfl | rfl | rfl
     ·rw[kU];exact Nat.add_le_add bl (by decide +kernel)
     ·exact bz (cl _ _)
     ·rw[kU];exact Nat.add_le_add (cl _ _) (by decide +kernel)
     ·exact ar (show Str.length (Str.ofString "")<=0 by decide +kernel) (aW _)
     ·rw[kU];exact Nat.add_le_add (cl _ _) (by decide +kernel)
    have q1:¬ (gP d = "put"/\(a:Int)=2):=fun z=>by rw[af z.1,af z.2]at q1;cases q1
    refine eK ((false != decide (gP d = "found"))&&(false != decide ((a:Int)=3))) (.and (.gV fun K k=>dj at0 k) fun _=>.gV fun K k=>k) (fun q=>?_) (fun q2=>?_)
    ·obtain⟨w1,w2⟩:gP d = "found"/\(a:Int)=3:=by simpa using q
     have w1:=(l8 d 2 (by decide)).mp w1
     obtain⟨nm,b,c,rfl⟩:∃ nm b c,d=.found nm b c:=by cases d <;> first | exact⟨_,_,_,rfl⟩ | cases w1
     obtain rfl:a=3:=by omega
     refine⟨zs,hb,by decide,by decide,fun i i0 i1=>?_⟩
     obtain⟨u,hu,eu⟩:=ks [Str.ofString "",Str.ofString "O",Str.ofString "ox",Str.ofString " ",Str.ofString "0"] i i0 i1
     exact dj eu ⟨.str u,.found nm b u,trivial,rfl,rfl,rfl⟩
    have q2:¬ (gP d = "found"/\(a:Int)=3):=fun z=>by rw[af z.1,af z.2]at q2;cases q2
    refine eK ((false != decide ((a:Int)=1))||((false != decide (gP d = "join"))&&decide ((a:Int)<4))) (.or (.gV fun K k=>k) fun _=>.and (.gV fun K k=>dj at0 k) fun _=>.gV fun K k=>k) (fun q=>?_) (fun q3=>?_)
    ·have w:(a:Int)=1\/(gP d = "join"/\(a:Int)<4):=by simpa using q
     refine⟨hb,S,m,eO,rfl,rfl,wf,hp,fun u hu=>?_⟩
     have go:∀ d',ddL (n+1) d'->(n9 d).take a++[.str u]++(n9 d).drop (a+1)=n9 d'->_:=fun d' h1 h2=>(⟨.str u,d',h1,h2,rfl,rfl⟩:∃(t:D) (d':Dd),ddL (n+1) d'/\(n9 d).take a++[t]++(n9 d).drop (a+1)=n9 d'/\[some (.mr k),some (qj S),some (oj eO),some (.tup (n9 d)),some (.int a),some (.str u)]=[some (.mr k),some (qj S),some (oj eO),some (.tup (n9 d)),some (.int a),some t]/\μ=μ)
     by_cases w1:a=1
     ·subst w1
      cases d with
      | put nm b c=>exact go (.put u b c) ⟨hu,bz hd.2⟩ rfl
      | join nm l r p=>exact go (.join u l r p) hu rfl
      | found nm b c=>exact go (.found u b c) trivial rfl
      | kS nm c=>exact go (.kS u c) trivial rfl
      | drop nm=>exact go (.drop u) trivial rfl
      | free p=>exact absurd rfl hw.1
      | eR p=>exact absurd rfl hw.2
     ·rcases w with w | ⟨w2,w3⟩
      ·exact absurd (by omega) w1
      have w2:=(l8 d 1 (by decide)).mp w2
      obtain⟨nm,l,r,p,rfl⟩:∃ nm l r p,d=.join nm l r p:=by cases d <;> first | exact⟨_,_,_,_,rfl⟩ | cases w2
      by_cases w4:a=2
      ·subst w4;exact go (.join nm u r p) hd rfl
      ·obtain rfl:a=3:=by omega
       exact go (.join nm l u p) hd rfl
    ·have q3:¬ ((a:Int)=1\/(gP d = "join"/\(a:Int)<4)):=fun z=>by
      rcases z with z | ⟨z1,z2⟩
      ·rw[af z]at q3;cases q3
      ·rw[af z1,af z2,show(false != true&&true)=true from rfl,Bool.or_true]at q3;cases q3
     refine dj rfl ⟨pw,dj rfl ⟨pw,zs,hb,by decide,by decide,fun i i0 i1=>?_⟩⟩
     obtain⟨u,eu⟩:=ki [-1,21,S.n,10 ^ 20,0,20,S.n - 1,-10 ^ 20] i i0 i1
     have go:∀ d',ddL (n+1) d'->(n9 d).take a++[.int u]++(n9 d).drop (a+1)=n9 d'->_:=fun d' h1 h2=>(⟨.int u,d',h1,h2,rfl,rfl⟩:∃(t:D) (d':Dd),ddL (n+1) d'/\(n9 d).take a++[t]++(n9 d).drop (a+1)=n9 d'/\[some (.mr k),some (qj S),some (oj eO),some (.tup (n9 d)),some (.int a),some (.int u)]=[some (.mr k),some (qj S),some (oj eO),some (.tup (n9 d)),some (.int a),some t]/\μ=μ)
     refine dj eu ?_
     cases d with
     | put nm b c =>
      obtain rfl:a=3:=by
       have a2:a<4:=a2
       have:¬ (a:Int)=2:=fun z=>q1 ⟨rfl,z⟩
       omega
      exact go (.put nm b u) ⟨hd.1,bz hd.2⟩ rfl
     | join nm l r p =>
      obtain rfl:a=4:=by
       have a2:a<5:=a2
       have:¬ (a:Int)<4:=fun z=>q3 (.inr ⟨rfl,z⟩)
       omega
      exact go (.join nm l r u) hd rfl
     | found nm b c =>
      obtain rfl:a=2:=by
       have a2:a<4:=a2
       have:¬ (a:Int)=3:=fun z=>q2 ⟨rfl,z⟩
       omega
      exact go (.found nm u c) trivial rfl
     | kS nm c =>
      obtain rfl:a=2:=by have a2:a<3:=a2;omega
      exact go (.kS nm u) trivial rfl
     | drop nm=>exact absurd (show a<2 from a2) (by omega)
     | free p=>exact absurd rfl hw.1
     | eR p=>exact absurd rfl hw.2
   ·rintro jV eW ⟨t,d',hd',et,rfl,rfl⟩
    have c1:cutD (n9 d) none (some (a:Int))=(n9 d).take a:=by have:=cutD_to (fun x:D=>x) (n9 d) a;rwa [List.map_id',List.map_id']at this
    have c2:cutD (n9 d) (some ((a:Int)+1)) none=(n9 d).drop (a+1):=by have:=cutD_from (fun x:D=>x) (n9 d) (a+1);rwa [List.map_id',List.map_id']at this
    refine⟨?_,?_⟩
    ·rintro⟨_,y⟩
     rw[HT.lr]at y
     omega
    rw[c1]
    have tk:(n9 d).take a≠[]:=fun z=>by have:=bI List.length z;rw[aP]at this;simp only[bU]at this;omega
    refine⟨zs,tk,sz (by rw[aP];show _+1<=_;omega),?_⟩
    refine⟨?_,?_⟩
    ·rintro⟨y,_⟩
     rw[show(a:Int)+1=((a+1:Nat):Int)from rfl,HT.lr]at y
     omega
    rw[c2]
    refine⟨by simp,sz (by rw[kH,aP,bQ];show _+1+_<=_;omega),?_⟩
    rw[et,<- dd_th]
    exact .keep (kk d' hd')
 ·exact h.elim
theorem ok_wild {f:Addr}{fd:FuncData}(F:gG K "_law_wild" "_law_wild" yA f fd)(T:iI mg)(C_easy:c_easy P w K mg base)(eA:ng P w K mg base)(tZ:tT P w K mg base):d7 P w K mg base jr 4 f fd ["_law_box_here", "_law_state", "_law_pool"] (gv fWild):=by
 refine F.nT qw (fun ds μ Kd h=>by unfold fWild at h;split at h <;> first | rfl | exact h.elim) (fun fI A outer s H E hr=>⟨_,(dk (qS 3 qw.nd (qC C_easy hr (a3 (dv 0) (dv 1) (dv 2))))
  (dk (qS 4 qw.nd (qC eA hr (a2 (dv 0) dg)))
  (xZ (fw (qGt (dv 4) dg)
  (dr (qS 3 qw.nd (qC tZ hr (dh (dv 0) (dh (dv 1) (dh (dv 2) (dh (dv 3) fB)))))))
  eM)
  (xZ (fw (mQ (dv 4) dg)
  (dr (qS 3 qw.nd (qC tZ hr (dh (dv 0) (dh (dv 1) (dh (dv 2) (dh (dv 3) fB)))))))
  eM)
  (dr (dP (dv 3))))))),fun ds μ Kd hm hl h=>?_⟩)
 unfold fWild at h
 split at h
 ·rename_i k x y
  obtain⟨hb,S,m,eO,rfl,rfl,wf,hp,kk⟩:=h
  refine⟨hb,S,m,eO,rfl,rfl,wf,hp,fun e href dZ=>⟨hb,by decide,by decide,fun w w0 w1=>?_⟩⟩
  have sm:=ddS_L (small_of wf href)
  refine⟨fun jV eW=>∃ e1,ddL 101 e1/\jV=[some (.mr k),some (qj S),some (oj eO),some (pR e1),some (.int w)]/\eW=μ,?_,?_⟩
  ·refine eK (decide (1<w)) (.gV fun K k=>k) (fun _=>?_) (fun _=>fL ⟨e,ddL_mono sm (by decide),rfl,rfl⟩)
   exact⟨hb,S,m,eO,e,100,rfl,rfl,rfl,wf,hp,sm,by decide,fun d' h'=>⟨d',h',rfl,rfl⟩⟩
  ·rintro jV eW ⟨e1,s1,rfl,hμ⟩
   rw[hμ]
   refine⟨fun jV eW=>∃ e1 v4,ddL 102 e1/\jV=[some (.mr k),some (qj S),some (oj eO),some (pR e1),v4]/\eW=μ,?_,?_⟩
   ·refine eK (false != decide (w=3)) (.gV fun K k=>k) (fun _=>?_) (fun _=>fL ⟨e1,_,ddL_mono s1 (by decide),rfl,rfl⟩)
    exact⟨hb,S,m,eO,e1,101,rfl,rfl,rfl,wf,hp,s1,by decide,fun d' h'=>⟨d',_,h',rfl,rfl⟩⟩
   ·rintro jV eW ⟨e1,v4,s1,rfl,hμ⟩
    rw[hμ]
    exact .keep (kk e1 (ddL_ok s1 (by decide)))
 ·exact h.elim
set_option maxHeartbeats 8000000 in
theorem ok_law {f:Addr}{fd:FuncData}(F:gG K "law" "law" nH f fd)(T:iI mg)(dF:jS K cRoom)(KA:∀ j,j<16->km K ju hV j)(C_box:c_box P w K mg base)(eA:ng P w K mg base)(C_begun:c_begun P w K mg base)(C_wild:c_wild P w K mg base)(C_word:c_word P w K mg base)(jY:c_same P w K mg base)(C_told:c_told P w K mg base)(C_done:c_done P w K mg base)(C_stands:c_stands P w K mg base)(Ad:rN P w K mg base):d7 P w K mg base jr 12 f fd ["_law_script"] (spLaw K):=by
 refine F.ok kD (fun vs H Q E h=>?_) (fun fI A outer s H vs Q E hr h=>?_)
 ·obtain⟨a,ns,rfl,_⟩:=h;rfl
 ·obtain⟨a,ns,rfl,hs,hl,k⟩:=h
  refine⟨_,fP (si (i:=1) kD.nd rfl (by first | exact Or.inl rfl | exact Or.inr rfl) (vj C_box (hr.mono (by first | decide | exact aa _ | omega)) rfl (dQ (jo 0) fR))) (dk (i7 (qC C_begun hr (a2 (dv 1) dg)) ⟨(fJ (n:=3) rfl (dt (qN 2 kD.nd) (dt (qN 3 kD.nd) (dt (qN 4 kD.nd) fb)))),(gw (dG (dD 2) (de 2) (dG (dD 3) (de 3) (dG (dD 4) (de 4) gy dA) (dm (de 4) dA)) (dm (de 3) (dm (de 4) dA)))),(gA (dm (de 2) (dm (de 3) (dm (de 4) dA))))⟩)
   (dk (qS 5 kD.nd (ik true fB))
   (dk (sY bL rfl (iC rfl T.range (a1 (qC eA hr (a2 (dv 1) dg)))) (qT 6 kD.nd)
   (dk (qS 7 kD.nd (qC C_wild hr (a3 (dv 1) (dv 3) (dv 4))))
   (dk (qS 8 kD.nd (qC C_word hr (a2 (dv 3) (dv 7))))
   (dk (qS 9 kD.nd (vY (qNe (dv 8) du) (gu (a2 du (ik false (a1 (dv 8))))) (gu (a2 du sI))))
   (dk (fw (lW (gF (qC jY hr (a2 (qC C_told hr (a2 (dv 2) (dv 7))) (dv 9)))))
   (dr (dP sI))
   eM)
   (xZ (fw (mQ (dv 8) du)
   (dk (qS 3 kD.nd (qC C_done hr (a2 (dv 3) (dv 7))))
   (dr (iq (zE PySem.F.plainAttrs_list PySem.F.slot_list_append PySem.F.type_list_append appendC xw (dv 5) (a1 (dv 7))))))
   eM)
   (dr (fw (PW.pt (jm (mQ (rD zd so_i2 (dv 6) dg) dg) (gW (lW (gF (qC C_stands hr (a2 (dv 2) (dv 3))))))))
   (dr (dP sI))
   eM))))))))
   (dr (dP (d_and (qC C_stands hr (a2 (dv 2) (dv 3))) (d_one (qC jY hr (a2 (gh Ad dF.cl hr.le (dv 2)) (dv 5)))))))))),?_⟩
  refine⟨ns,hs,fun b q H0 B0 hb0 qk S0=>?_⟩
  refine law_go (m:=8) B0 ?_ k
  refine⟨⟨_,rfl⟩,rfl,by decide,by decide,by decide,fun n eO h1 h2 hp=>?_⟩
  have ra0:eU cRoom dq ([MO.box]++[.ins cRoom roN [.mr 2,.mr 3,.int 0],.lst [kW dq ⟨n,[],[]⟩],.lst []]) 1 2 3 [⟨n,[],[]⟩] [] 0:=eU.made (by decide) h1 (by omega)
  refine⟨rfl,zs,rfl,by decide,by decide,fun t t0 t1=>⟨by omega,by omega,?_⟩⟩
  refine jc (fun ds ρ μ'=>∃(i j:Nat) (ss:List RS) (rs:List Dd) (S:RS) (v6 v7 v8 v9:Option D),ds=kg i j/\i+j=t.toNat/\rs.length<=i/\eU cRoom dq μ' 1 2 3 ss rs rs.length/\ss[rs.length]?=some S/\μ'[0]?=some .box/\μ'[4]?=some (.lst (rs.map pR))/\ρ=[none,some (.mr 0),some (.mr 1),some (qj S),some (oj eO),some (.mr 4),v6,v7,v8,v9]) ⟨0,t.toNat,[⟨n,[],[]⟩],[],⟨n,[],[]⟩,none,none,none,none,rfl,by omega,aa _,ra0.more (g:=[.lst []]),rfl,rfl,rfl,rfl⟩ ?_ ?_
  ·rintro d' ds' ρ μ' ⟨i,j,ss,rs,S,v6,v7,v8,v9,e1,hij,hrl,ra,es,zj,hl4,rfl⟩
   refine⟨trivial,fun nx hnx=>?_⟩
   cases j with
   | zero=>cases e1
   | succ j =>
    rw[kq]at e1
    cases e1
    have wf:=ra.wf _ S es
    have l4:4<μ'.length:=(lE hl4).1
    refine⟨zj,S,_,eO,rfl,rfl,wf,hp,fun e dZ=>⟨S,_,e,rfl,rfl,rfl,wf,dZ,?_⟩⟩
    have wn:=ql (o:=i9 S e) fun i h=>by have:=yP h;omega
    dsimp only
    refine rG (d:=dueD (i9 S e)) (μ':=μ') (fun K k=>?_) ?_
    ·refine m7 (true != decide (jP (i9 S e)=("" : Str))) (.gV fun K k=>k) (fun q=>?_) (fun q=>?_)
     ·rw[wn]at q
      cases er:i9 S e with
      | none=>rw[er]at q;cases q
      | some i=>rw[er]at k;exact⟨zs,zs,k⟩
     ·rw[wn]at q
      cases er:i9 S e with
      | some i=>rw[er]at q;cases q
      | none=>rw[er]at k;exact⟨zs,k⟩
    dsimp only
    refine dIf_gen (fun b eW=>b=false/\((∃ i,i9 S e=some i)/\eW=μ'\/i9 S e=none/\eW=mR cRoom dq μ' 1 2 3 (ss.take (rs.length+1)++[pK S e]) (rs.take rs.length++[e]) (rs.length+1))) (fun K k=>?_) (fun eW h=>by cases h.1) (fun eW h=>?_)
    ·refine⟨⟨_,zj⟩,KA,2,3,ss,rs,rs.length,S,e,ra,es,rfl,dZ,by omega,?_⟩
     cases er:i9 S e with
     | some i=>exact⟨dueD (some i),rfl,rfl,sm_due _,k _ _ ⟨rfl,.inl ⟨⟨i,er⟩,rfl⟩⟩⟩
     | none=>exact⟨dueD none,rfl,rfl,sm_due _,k _ _ ⟨rfl,.inr ⟨er,rfl⟩⟩⟩
    ·obtain⟨_,h⟩:=h
     refine fL ?_
     refine⟨fun jV eW=>∃(ss:List RS) (rs:List Dd) (S:RS) (v7 v8 v9:Option D),rs.length<=i+1/\eU cRoom dq eW 1 2 3 ss rs rs.length/\ss[rs.length]?=some S/\eW[0]?=some .box/\eW[4]?=some (.lst (rs.map pR))/\jV=[none,some (.mr 0),some (.mr 1),some (qj S),some (oj eO),some (.mr 4),some (.int i),v7,v8,v9],?_,?_⟩
     ·refine eK (false != decide (jP (i9 S e)=("" : Str))) (.gV fun K k=>k) (fun q=>?_) (fun q=>?_)
      ·rw[wn]at q
       rcases h with⟨⟨i,er⟩,_⟩ | ⟨er,rfl⟩
       ·rw[er]at q;cases q
       obtain⟨g1,g2,g3,g4⟩:=ra.grow es er (by omega)
       rw[g1,g2]
       obtain⟨ν,hν⟩:∃ ν,ν=mR cRoom dq μ' 1 2 3 (ss++[pK S e]) (rs++[e]) (rs.length+1):=⟨_,rfl⟩
       have n4:ν[4]?=some (.lst (rs.map pR)):=by rw[hν,putR_at (by decide) (by decide) (by decide)];exact hl4
       have n0:ν[0]?=some .box:=by rw[hν,putR_at (by decide) (by decide) (by decide)];exact zj
       have nl:4<ν.length:=by rw[hν,putR_len];exact l4
       rw[<- hν]at g3 ⊢
       have el:(rs++[e]).length=rs.length+1:=by rw[kH];rfl
       refine⟨S,e,_,rfl,rfl,wf,by omega,er,lvM_ty (kG n4),dj (kG n4) ⟨by rw[fg];exact aq (m:=1000) (by omega) (sz (by omega)),?_⟩⟩
       refine⟨ss++[pK S e],rs++[e],pK S e,some (pR e),_,_,by omega,by rw[el];exact g3.other (by decide) (by decide) (by decide),by rw[el];exact g4,by rw[ao (by decide)];exact n0,by rw[az nl,aG];rfl,rfl⟩
      ·rw[wn]at q
       rcases h with⟨_,rfl⟩ | ⟨er,_⟩
       ·exact fL ⟨ss,rs,S,_,_,_,by omega,ra,es,zj,hl4,rfl⟩
       ·rw[er]at q;cases q
     ·rintro jV eW ⟨ss,rs,S,v7,v8,v9,hrl,ra,es,zj,hl4,rfl⟩
      refine eK ((false != decide ((i:Int)%2=1))&&!true) ?_ (fun q=>?_) (fun _=>?_)
      ·exact .and (.gV fun K k=>⟨show(0:Int)<2 by decide,k⟩) fun _=>.not (x:=true) (.gV fun K k=>⟨⟨_,zj⟩,2,3,_,_,_,_,ra,es,rfl,k⟩)
      ·rw[Bool.not_true,dc]at q;cases q
      ·exact fL (hnx _ _ ⟨i+1,j,ss,rs,S,_,_,_,_,by rw[Int.natCast_add];rfl,by omega,hrl,ra,es,zj,hl4,rfl⟩)
  ·rintro ρ μ' ⟨i,j,ss,rs,S,v6,v7,v8,v9,e1,hij,hrl,ra,es,zj,hl4,rfl⟩
   cases j with
   | succ j=>rw[kq]at e1;cases e1
   | zero =>
    refine⟨trivial,⟨_,zj⟩,2,3,ss,rs,rs.length,S,ra,es,rfl,?_⟩
    refine⟨xx ra rfl,2,3,ss,rs,rs.length,ra,.lst (rs.map pR),?_,?_,sm_dds (by omega),rfl⟩
    ·show some (D.lst _)=_
     rw[ag rfl,aV (aa _)]
    ·show(zf _ _).map D.lst=_
     rw[kG hl4];rfl
end
def kM0:Value:=(.str "hissroom.errors" 194)
def jk:Value:=(.str "law_hissroom_k33_deeds_refused" 1017)
def kM2:Value:=(.str "hissroom.bars" 497)
def my:Value:=(.str "hissroom.stand" 521)
def uA:Value:=(.str "hissroom.room" 764)
def kk (P:Params):PySem.W.Frag:=List.flatten [[ko 3 (mainO P "law_hissroom_k33_deeds_refused" 1017 [me "_wall" 193 (.ref 21),me "HissError" 213 (.ref 31),me "BadBars" 229 (.ref 44),me "BadMake" 245 (.ref 56),me "BadNumber" 261 (.ref 68),me "BadText" 277 (.ref 80),me "BadName" 293 (.ref 92),me "BadAge" 309 (.ref 104),me "BadBar" 325 (.ref 116),me "BadPlace" 341 (.ref 128),me "Taken" 357 (.ref 140),me "Full" 373 (.ref 152),me "NoTake" 389 (.ref 164),me "Shut" 405 (.ref 176),me "Joined" 421 (.ref 188),me "Needed" 437 (.ref 200),me "NothingLeft" 453 (.ref 212),me "BadSize" 469 (.ref 224),me "NoWay" 496 (.ref 243),me "is_bars" 506 (.ref 252),me "joined" 520 (.ref 259),me "MOST_LETTERS" 524 (.int 8 523),me "MOST_TAKES" 526 (.int 20 525),me "OLDEST" 528 (.int 20 527),me "Stand" 620 (.ref 316),me "put" 633 (.ref 327),me "join" 646 (.ref 334),me "found" 663 (.ref 341),me "aged" 676 (.ref 348),me "drop" 682 (.ref 353),me "free" 692 (.ref 360),me "shut" 702 (.ref 367),me "DEEDS" 717 (.ref 368),me "stand_behind" 726 (.ref 375),me "check_new" 732 (.ref 380),me "check_age" 739 (.ref 387),me "check_place" 747 (.ref 394),me "with_key" 757 (.ref 401),me "without_key" 763 (.ref 406),me "LONGEST" 767 (.int 40 766),me "Room" 1016 (.ref 612),me "_law_box" 1025 (.ref 623),me "_law_take" 1037 (.ref 630),me "_law_names" 1043 (.ref 635),me "_law_begun" 1052 (.ref 642),me "_law_bars" 1058 (.ref 647),me "_law_origin" 1072 (.ref 654),me "_law_ages" 1082 (.ref 661),me "_law_heard" 1088 (.ref 666),me "_law_takes" 1094 (.ref 671),me "_law_open" 1100 (.ref 676),me "_law_done" 1115 (.ref 683),me "_law_lone" 1121 (.ref 688),me "_law_easy" 1127 (.ref 693),me "_law_any_name" 1137 (.ref 700),me "_law_bent_deed" 1149 (.ref 707),me "_law_wild" 1160 (.ref 714),me "_law_named" 1166 (.ref 719),me "_law_new_word" 1174 (.ref 726),me "_law_place_word" 1182 (.ref 733),me "_law_put_word" 1188 (.ref 738),me "_law_join_word" 1197 (.ref 745),me "_law_take_word" 1207 (.ref 752),me "_law_word" 1215 (.ref 759),me "_law_kinds" 1221 (.ref 764),me "_law_told" 1231 (.ref 771),me "_law_same" 1237 (.ref 776),me "_law_stands" 1252 (.ref 783),me "law" 1268 (.ref 790)])],[ko 316 ⟨.type "type",none,(.cls ⟨"Stand",[.type "object"],[.ref 316,.type "object"],315, "Stand",true,[],[],false,none,false⟩),#[none,none,(some (.str "Stand" 529)),(some (.str "Stand" 537)),(some (.builtin "object.__new__")),(some (.bool true))]⟩,ko 315 ⟨.type "dict",none,(.dict #[hX P "__module__" 536 (.str "hissroom.stand" 521),hX P "__firstlineno__" 540 (.int 56 539),hX P "__init__" 551 (.ref 273),hX P "check_there" 559 (.ref 280),hX P "parts" 567 (.ref 287),hX P "source" 581 (.ref 294),hX P "takes_by_names" 594 (.ref 301),hX P "take" 602 (.ref 308),hX P "shelf" 608 (.ref 313),hX P "__static_attributes__" 613 (.ref 314),hX P "__dict__" 615 (.ref 317),hX P "__weakref__" 617 (.ref 318),hX P "__doc__" 618 (.none)] 4),#[]⟩],[ko 612 ⟨.type "type",none,(.cls ⟨"Room",[.type "object"],[.ref 612,.type "object"],611, "Room",true,[],[],false,none,false⟩),#[none,none,(some (.str "Room" 768)),(some (.str "Room" 776)),(some (.builtin "object.__new__")),(some (.bool true))]⟩,ko 611 ⟨.type "dict",none,(.dict #[hX P "__module__" 775 (.str "hissroom.room" 764),hX P "__firstlineno__" 779 (.int 173 778),hX P "__init__" 787 (.ref 420),hX P "now" 794 (.ref 427),hX P "put" 804 (.ref 434),hX P "join" 815 (.ref 441),hX P "found" 825 (.ref 448),hX P "aged" 834 (.ref 455),hX P "drop" 842 (.ref 462),hX P "free" 850 (.ref 469),hX P "shut" 858 (.ref 476),hX P "deed" 867 (.ref 483),hX P "undo" 874 (.ref 490),hX P "redo" 881 (.ref 497),hX P "deeds" 888 (.ref 504),hX P "ahead" 895 (.ref 511),hX P "size" 902 (.ref 518),hX P "names" 909 (.ref 525),hX P "bars" 917 (.ref 532),hX P "age" 925 (.ref 539),hX P "parts" 933 (.ref 546),hX P "source" 942 (.ref 553),hX P "cuts" 952 (.ref 560),hX P "takes" 962 (.ref 567),hX P "answer" 969 (.ref 574),hX P "least" 976 (.ref 581),hX P "few" 983 (.ref 588),hX P "after" 991 (.ref 595),hX P "coming" 998 (.ref 602),hX P "twin" 1005 (.ref 609),hX P "__static_attributes__" 1009 (.ref 610),hX P "__dict__" 1011 (.ref 613),hX P "__weakref__" 1013 (.ref 614),hX P "__doc__" 1014 (.none)] 4),#[]⟩],kx P 164 163 31 "NoTake" (some (.ref 155)) 374 382 kM0 381 27 162,kx P 116 115 31 "BadBar" (some (.ref 107)) 310 318 kM0 317 19 114,kx P 92 91 31 "BadName" (some (.ref 83)) 278 286 kM0 285 15 90,kx P 140 139 31 "Taken" (some (.ref 131)) 342 350 kM0 349 23 138,kx P 152 151 31 "Full" (some (.ref 143)) 358 366 kM0 365 25 150,kx P 104 103 31 "BadAge" (some (.ref 95)) 294 302 kM0 301 17 102,kx P 128 127 31 "BadPlace" (some (.ref 119)) 326 334 kM0 333 21 126,kx P 44 43 31 "BadBars" (some (.ref 35)) 214 222 kM0 221 7 42,kx P 176 175 31 "Shut" (some (.ref 167)) 390 398 kM0 397 29 174,kx P 188 187 31 "Joined" (some (.ref 179)) 406 414 kM0 413 31 186,kx P 200 199 31 "Needed" (some (.ref 191)) 422 430 kM0 429 33 198,kx P 224 223 31 "BadSize" (some (.ref 215)) 454 462 kM0 461 37 222,kx P 56 55 31 "BadMake" (some (.ref 47)) 230 238 kM0 237 9 54,kx P 68 67 31 "BadNumber" (some (.ref 59)) 246 254 kM0 253 11 66,kx P 80 79 31 "BadText" (some (.ref 71)) 262 270 kM0 269 13 78,kx P 212 211 31 "NothingLeft" (some (.ref 203)) 438 446 kM0 445 35 210,[ko 243 ⟨.type "type",none,(.cls ⟨"NoWay",[.ref 31],[.ref 243,.ref 31,.type "ValueError",.type "Exception",.type "BaseException",.type "object"],242, "NoWay",true,[],[],false,none,false⟩),#[(some (.ref 227)),none,(some (.str "NoWay" 470)),(some (.str "NoWay" 478)),(some (.builtin "ValueError.__new__")),(some (.bool true))]⟩,ko 242 ⟨.type "dict",none,(.dict #[hX P "__module__" 477 (.str "hissroom.errors" 194),hX P "__firstlineno__" 481 (.int 39 480),hX P "__init__" 490 (.ref 240),hX P "__static_attributes__" 493 (.ref 241),hX P "__doc__" 494 (.none)] 2),#[]⟩],[ko 31 ⟨.type "type",none,(.cls ⟨"HissError",[.type "ValueError"],[.ref 31,.type "ValueError",.type "Exception",.type "BaseException",.type "object"],30, "HissError",true,[],[.ref 44,.ref 56,.ref 68,.ref 80,.ref 92,.ref 104,.ref 116,.ref 128,.ref 140,.ref 152,.ref 164,.ref 176,.ref 188,.ref 200,.ref 212,.ref 224,.ref 243],false,none,false⟩),#[(some (.ref 22)),none,(some (.str "HissError" 196)),(some (.str "HissError" 204)),(some (.builtin "ValueError.__new__")),(some (.bool true))]⟩,ko 30 ⟨.type "dict",none,(.dict #[hX P "__module__" 203 (.str "hissroom.errors" 194),hX P "__firstlineno__" 207 (.int 5 206),hX P "__static_attributes__" 208 (.ref 29),hX P "__weakref__" 210 (.ref 32),hX P "__doc__" 211 (.none)] 3),#[]⟩],kf 623 622 "_law_box" "_law_box" s_box jk 1019 271 1 617 618 (.ref 619) (.ref 620) 621 1023,kf 630 629 "_law_take" "_law_take" yC jk 1026 273 2 624 625 (.ref 626) (.ref 627) 628 1035,kf 647 646 "_law_bars" "_law_bars" yL jk 1053 306 2 643 644 .none .none 645 1056,kf 776 775 "_law_same" "_law_same" s_same jk 1232 476 2 772 773 .none .none 774 1235,kf 252 251 "is_bars" "is_bars" pf kM2 499 45 2 246 247 (.ref 248) (.ref 249) 250 504,kf 259 258 "joined" "joined" qH kM2 507 47 3 253 254 (.ref 255) (.ref 256) 257 518,kf 401 400 "with_key" "with_key" mJ my 748 165 3 395 396 (.ref 397) (.ref 398) 399 755,kf 406 405 "without_key" "without_key" jD my 758 169 2 402 403 .none .none 404 761,kf 273 272 "__init__" "Stand.__init__" ib my 541 58 5 267 268 (.ref 269) (.ref 270) 271 549,kf 280 279 "check_there" "Stand.check_there" gE my 552 64 2 274 275 (.ref 276) (.ref 277) 278 557,kf 287 286 "parts" "Stand.parts" jG my 560 68 2 281 282 (.ref 283) (.ref 284) 285 565,kf 294 293 "source" "Stand.source" i8 my 568 72 3 288 289 (.ref 290) (.ref 291) 292 579,kf 301 300 "takes_by_names" "Stand.takes_by_names" fU my 582 84 1 295 296 (.ref 297) (.ref 298) 299 592,kf 308 307 "take" "Stand.take" j7 my 595 94 2 302 303 (.ref 304) (.ref 305) 306 600,kf 313 312 "shelf" "Stand.shelf" jF my 603 98 1 309 310 .none .none 311 606,kf 380 379 "check_new" "check_new" k7 my 727 152 2 376 377 .none .none 378 730,kf 387 386 "check_age" "check_age" k8 my 733 159 1 381 382 (.ref 383) (.ref 384) 385 737,kf 394 393 "check_place" "check_place" jE my 740 162 2 388 389 (.ref 390) (.ref 391) 392 745,kf 327 326 "put" "put" s_put my 621 101 2 321 322 (.ref 323) (.ref 324) 325 631,kf 334 333 "join" "join" yG my 634 109 2 328 329 (.ref 330) (.ref 331) 332 644,kf 341 340 "found" "found" uu my 647 118 2 335 336 (.ref 337) (.ref 338) 339 661,kf 348 347 "aged" "aged" yN my 664 126 2 342 343 (.ref 344) (.ref 345) 346 674,kf 353 352 "drop" "drop" yJ my 677 133 2 349 350 .none .none 351 680,kf 360 359 "free" "free" yH my 683 140 2 354 355 (.ref 356) (.ref 357) 358 690,kf 367 366 "shut" "shut" yD my 693 144 2 361 362 (.ref 363) (.ref 364) 365 700,kf 375 374 "stand_behind" "stand_behind" iY my 718 149 2 369 370 (.ref 371) (.ref 372) 373 724,kf 420 419 "__init__" "Room.__init__" iJ uA 780 175 2 414 415 (.ref 416) (.ref 417) 418 785,kf 427 426 "now" "Room.now" mO uA 788 182 1 421 422 (.ref 423) (.ref 424) 425 792,kf 483 482 "deed" "Room.deed" lh uA 859 206 2 477 478 (.ref 479) (.ref 480) 481 865,kf 504 503 "deeds" "Room.deeds" ke uA 882 221 1 498 499 (.ref 500) (.ref 501) 502 886,kf 518 517 "size" "Room.size" lg uA 896 227 1 512 513 (.ref 514) (.ref 515) 516 900,kf 525 524 "names" "Room.names" kc uA 903 230 1 519 520 (.ref 521) (.ref 522) 523 907,kf 532 531 "bars" "Room.bars" lq uA 910 233 2 526 527 (.ref 528) (.ref 529) 530 915,kf 539 538 "age" "Room.age" mP uA 918 236 2 533 534 (.ref 535) (.ref 536) 537 923,kf 546 545 "parts" "Room.parts" j9 uA 926 239 2 540 541 (.ref 542) (.ref 543) 544 931,kf 553 552 "source" "Room.source" jH uA 934 242 3 547 548 (.ref 549) (.ref 550) 551 940,kf 560 559 "cuts" "Room.cuts" lj uA 943 245 1 554 555 (.ref 556) (.ref 557) 558 950,kf 567 566 "takes" "Room.takes" j8 uA 953 249 1 561 562 (.ref 563) (.ref 564) 565 960,kf 635 634 "_law_names" "_law_names" um jk 1038 289 2 631 632 .none .none 633 1041,kf 642 641 "_law_begun" "_law_begun" uv jk 1044 303 2 636 637 (.ref 638) (.ref 639) 640 1050,kf 654 653 "_law_origin" "_law_origin" qG jk 1059 319 3 648 649 (.ref 650) (.ref 651) 652 1070,kf 661 660 "_law_ages" "_law_ages" yM jk 1073 326 1 655 656 (.ref 657) (.ref 658) 659 1080,kf 666 665 "_law_heard" "_law_heard" ur jk 1083 332 2 662 663 .none .none 664 1086,kf 671 670 "_law_takes" "_law_takes" uk jk 1089 335 1 667 668 .none .none 669 1092,kf 676 675 "_law_open" "_law_open" yE jk 1095 338 1 672 673 .none .none 674 1098,kf 683 682 "_law_done" "_law_done" yK jk 1101 340 2 677 678 (.ref 679) (.ref 680) 681 1113,kf 688 687 "_law_lone" "_law_lone" yF jk 1116 359 1 684 685 .none .none 686 1119,kf 693 692 "_law_easy" "_law_easy" yI jk 1122 366 3 689 690 .none .none 691 1125,kf 783 782 "_law_stands" "_law_stands" qF jk 1238 486 2 777 778 (.ref 779) (.ref 780) 781 1250,kf 719 718 "_law_named" "_law_named" uo jk 1161 411 1 715 716 .none .none 717 1164,kf 726 725 "_law_new_word" "_law_new_word" mL jk 1167 413 2 720 721 (.ref 722) (.ref 723) 724 1172,kf 733 732 "_law_place_word" "_law_place_word" j6 jk 1175 419 2 727 728 (.ref 729) (.ref 730) 731 1180,kf 738 737 "_law_put_word" "_law_put_word" mK jk 1183 421 2 734 735 .none .none 736 1186,kf 745 744 "_law_join_word" "_law_join_word" kZ jk 1189 428 2 739 740 (.ref 741) (.ref 742) 743 1195,kf 752 751 "_law_take_word" "_law_take_word" kX jk 1198 437 2 746 747 (.ref 748) (.ref 749) 750 1205,kf 759 758 "_law_word" "_law_word" yz jk 1208 453 2 753 754 (.ref 755) (.ref 756) 757 1213,kf 700 699 "_law_any_name" "_law_any_name" mM jk 1128 387 3 694 695 (.ref 696) (.ref 697) 698 1135,kf 707 706 "_law_bent_deed" "_law_bent_deed" k9 jk 1138 390 4 701 702 (.ref 703) (.ref 704) 705 1147,kf 714 713 "_law_wild" "_law_wild" yA jk 1150 403 3 708 709 (.ref 710) (.ref 711) 712 1158,kf 764 763 "_law_kinds" "_law_kinds" uq jk 1216 461 1 760 761 .none .none 762 1219,kf 771 770 "_law_told" "_law_told" yB jk 1222 470 2 765 766 (.ref 767) (.ref 768) 769 1229,kf 790 789 "law" "law" nH jk 1253 505 1 784 785 (.ref 786) (.ref 787) 788 1266,[ko 368 ⟨.type "dict",none,(.dict #[hX P "put" 703 (.ref 327),hX P "join" 704 (.ref 334),hX P "found" 705 (.ref 341),hX P "aged" 706 (.ref 348),hX P "drop" 707 (.ref 353),hX P "free" 708 (.ref 360),hX P "shut" 709 (.ref 367)] 7),#[]⟩]]
def hk:PySem.W.Hook:=PySem.W.kHook kk [3,316,315,612,611,164,163,116,115,92,91,140,139,152,151,104,103,128,127,44,43,176,175,188,187,200,199,224,223,56,55,68,67,80,79,212,211,243,242,31,30,623,622,630,629,647,646,776,775,252,251,259,258,401,400,406,405,273,272,280,279,287,286,294,293,301,300,308,307,313,312,380,379,387,386,394,393,327,326,334,333,341,340,348,347,353,352,360,359,367,366,375,374,420,419,427,426,483,482,504,503,518,517,525,524,532,531,539,538,546,545,553,552,560,559,567,566,635,634,642,641,654,653,661,660,666,665,671,670,676,675,683,682,688,687,693,692,783,782,719,718,726,725,733,732,738,737,745,744,752,751,759,758,700,699,707,706,714,713,764,763,771,770,790,789,368] (fun _=>by kernel_rfl)
def lw:PySem.W.OpenLaw:=PySem.Challenge.rw_hissroom_k33_deeds_refused
def qq:Program:={ lw.prog with main:={ lw.prog.main with body:=[nH]}}
def ll:List Str:=[sS "_wall",sS "HissError",sS "BadBars",sS "BadMake",sS "BadNumber",sS "BadText",sS "BadName",sS "BadAge",sS "BadBar",sS "BadPlace",sS "Taken",sS "Full",sS "NoTake",sS "Shut",sS "Joined",sS "Needed",sS "NothingLeft",sS "BadSize",sS "NoWay",sS "is_bars",sS "joined",sS "MOST_LETTERS",sS "MOST_TAKES",sS "OLDEST",sS "Stand",sS "put",sS "join",sS "found",sS "aged",sS "drop",sS "free",sS "shut",sS "DEEDS",sS "stand_behind",sS "check_new",sS "check_age",sS "check_place",sS "with_key",sS "without_key",sS "LONGEST",sS "Room",sS "_law_box",sS "_law_take",sS "_law_names",sS "_law_begun",sS "_law_bars",sS "_law_origin",sS "_law_ages",sS "_law_heard",sS "_law_takes",sS "_law_open",sS "_law_done",sS "_law_lone",sS "_law_easy",sS "_law_any_name",sS "_law_bent_deed",sS "_law_wild",sS "_law_named",sS "_law_new_word",sS "_law_place_word",sS "_law_put_word",sS "_law_join_word",sS "_law_take_word",sS "_law_word",sS "_law_kinds",sS "_law_told",sS "_law_same",sS "_law_stands"]
def xt (s:Shared):Bool:=PySem.W.xlAt qq [] s&&PySem.W.recOk (PySem.W.RowW.records lw.row.toRowW) s
theorem left0:LeftT lw.prog qq ll xt hk.obs hk.val 6923 "special-get-raises" false:=fun w os=>by kernel_rfl
theorem left1:LeftT lw.prog qq ll xt hk.obs hk.val 6923 "special-get-raises" true:=fun w os=>by kernel_rfl
theorem left:PySem.W.LeftO lw.prog qq ll xt hk.obs hk.val 6923:=left_ofR (by kernel_rfl) rfl (fun s=>by kernel_rfl) rfl left0.at left1.at
theorem said:lw.wellSaid=true:=(congrFun PySem.W.Fast.te9446332074065402090 lw).trans (by kernel_rfl)
def dd:DefRec:=⟨"law",gU nH,gg nH,dn nH,defPos nH⟩
theorem holds (F:PySem.W.WalkO qq ll (PySem.W.XL qq []) hk.says lw.row.toRowW dd [] (fun f vs=>PySem.call f vs)):lw.Holds:=PySem.W.holds_law said fun k1=>PySem.W.holds_open (q:=qq) (loose:=ll) (Xt:=xt) (XP:=PySem.W.XL qq []) (d:=dd) (kwd:=[]) left hk.of hk.keeps (fun s e=>PySem.W.xl_of s (Bool.and_eq_true_iff.mp e).1) PySem.W.XL.keeps (by kernel_rfl) (by kernel_rfl) rfl (fun s e=>PySem.W.recFacts_of (Bool.and_eq_true_iff.mp e).2) rfl k1 (by kernel_rfl) ⟨rfl,rfl,rfl,rfl,rfl,by kernel_rfl⟩ ⟨[.list []],by kernel_rfl,by kernel_rfl⟩ F
set_option maxHeartbeats 40000000 in
theorem fin:PySem.W.WalkO qq ll (PySem.W.XL qq []) hk.says lw.row.toRowW dd [] (fun f vs=>PySem.call f vs):=by
 refine L2.walk_of (l:=lw) (d:=dd) (n:=63) (k:=12) (x := "_law_script") (K:=kk) (CX:=fun _=>jr) (sp:=fun w=>spLaw (kk w.params)) rfl (by decide) rfl ⟨rfl,by decide,by decide⟩ (fun w h Y=>PySem.W.kIn_of Y) (fun w mg fa h X G hfa=>?_) (fun _ _ a ns hl _ hS=>⟨a,ns,rfl,hS,hl,fun _=>rfl⟩) fun _ _ _ _ _ z=>z
 have e:=hfa.symm.trans (aT X G (show PySem.W.nsIn (kk w.params) mainGlobals "law"=sr 790 by kernel_rfl))
 cases e
 have T:iI mg:=⟨aJ X G (by kernel_rfl),aJ X G (by kernel_rfl),aJ X G (by kernel_rfl),aJ X G (by kernel_rfl),aJ X G (by kernel_rfl),aJ X G (by kernel_rfl),aJ X G (by kernel_rfl),aJ X G (by kernel_rfl),aJ X G (by kernel_rfl),aJ X G (by kernel_rfl),aJ X G (by kernel_rfl),aJ X G (by kernel_rfl),aJ X G (by kernel_rfl),aJ X G (by kernel_rfl),aJ X G (by kernel_rfl),aJ X G (by kernel_rfl),aJ X G (by kernel_rfl)⟩
 have TV:mg "ValueError"=none:=aJ X G (by kernel_rfl)
 have df:fS (kk w.params) dq:=⟨⟨by kernel_rfl,by kernel_rfl,by kernel_rfl,by kernel_rfl⟩,by kernel_rfl,by kernel_rfl,by kernel_rfl,by kernel_rfl⟩
 have dF:jS (kk w.params) cRoom:=⟨⟨by kernel_rfl,by kernel_rfl,by kernel_rfl,by kernel_rfl⟩,by kernel_rfl,by kernel_rfl,by kernel_rfl⟩
 have F0:=fQ (K:=kk w.params) "_law_box" "_law_box" s_box 623 jk 622
 have F1:=fQ (K:=kk w.params) "_law_take" "_law_take" yC 630 jk 629
 have F2:=fQ (K:=kk w.params) "_law_bars" "_law_bars" yL 647 jk 646
 have F3:=fQ (K:=kk w.params) "_law_same" "_law_same" s_same 776 jk 775
 have F4:=fQ (K:=kk w.params) "is_bars" "is_bars" pf 252 kM2 251
 have F5:=fQ (K:=kk w.params) "joined" "joined" qH 259 kM2 258
 have F6:=fQ (K:=kk w.params) "with_key" "with_key" mJ 401 my 400
 have F7:=fQ (K:=kk w.params) "without_key" "without_key" jD 406 my 405
 have F8:=fQ (K:=kk w.params) "__init__" "Stand.__init__" ib 273 my 272
 have F9:=fQ (K:=kk w.params) "check_there" "Stand.check_there" gE 280 my 279
 have F10:=fQ (K:=kk w.params) "parts" "Stand.parts" jG 287 my 286
 have F11:=fQ (K:=kk w.params) "source" "Stand.source" i8 294 my 293
 have F12:=fQ (K:=kk w.params) "takes_by_names" "Stand.takes_by_names" fU 301 my 300
 have F13:=fQ (K:=kk w.params) "take" "Stand.take" j7 308 my 307
 have F14:=fQ (K:=kk w.params) "shelf" "Stand.shelf" jF 313 my 312
 have F15:=fQ (K:=kk w.params) "check_new" "check_new" k7 380 my 379
 have F16:=fQ (K:=kk w.params) "check_age" "check_age" k8 387 my 386
 have F17:=fQ (K:=kk w.params) "check_place" "check_place" jE 394 my 393
 have F18:=fQ (K:=kk w.params) "put" "put" s_put 327 my 326
 have F19:=fQ (K:=kk w.params) "join" "join" yG 334 my 333
 have F20:=fQ (K:=kk w.params) "found" "found" uu 341 my 340
 have F21:=fQ (K:=kk w.params) "aged" "aged" yN 348 my 347
 have F22:=fQ (K:=kk w.params) "drop" "drop" yJ 353 my 352
 have F23:=fQ (K:=kk w.params) "free" "free" yH 360 my 359
 have F24:=fQ (K:=kk w.params) "shut" "shut" yD 367 my 366
 have F25:=fQ (K:=kk w.params) "stand_behind" "stand_behind" iY 375 my 374
 have F26:=fQ (K:=kk w.params) "__init__" "Room.__init__" iJ 420 uA 419
 have F27:=fQ (K:=kk w.params) "now" "Room.now" mO 427 uA 426
 have F28:=fQ (K:=kk w.params) "deed" "Room.deed" lh 483 uA 482
 have F29:=fQ (K:=kk w.params) "deeds" "Room.deeds" ke 504 uA 503
 have F30:=fQ (K:=kk w.params) "size" "Room.size" lg 518 uA 517
 have F31:=fQ (K:=kk w.params) "names" "Room.names" kc 525 uA 524
 have F32:=fQ (K:=kk w.params) "bars" "Room.bars" lq 532 uA 531
 have F33:=fQ (K:=kk w.params) "age" "Room.age" mP 539 uA 538
 have F34:=fQ (K:=kk w.params) "parts" "Room.parts" j9 546 uA 545
 have F35:=fQ (K:=kk w.params) "source" "Room.source" jH 553 uA 552
 have F36:=fQ (K:=kk w.params) "cuts" "Room.cuts" lj 560 uA 559
 have F37:=fQ (K:=kk w.params) "takes" "Room.takes" j8 567 uA 566
 have F38:=fQ (K:=kk w.params) "_law_names" "_law_names" um 635 jk 634
 have F39:=fQ (K:=kk w.params) "_law_begun" "_law_begun" uv 642 jk 641
 have F40:=fQ (K:=kk w.params) "_law_origin" "_law_origin" qG 654 jk 653
 have F41:=fQ (K:=kk w.params) "_law_ages" "_law_ages" yM 661 jk 660
 have F42:=fQ (K:=kk w.params) "_law_heard" "_law_heard" ur 666 jk 665
 have F43:=fQ (K:=kk w.params) "_law_takes" "_law_takes" uk 671 jk 670
 have F44:=fQ (K:=kk w.params) "_law_open" "_law_open" yE 676 jk 675
 have F45:=fQ (K:=kk w.params) "_law_done" "_law_done" yK 683 jk 682
 have F46:=fQ (K:=kk w.params) "_law_lone" "_law_lone" yF 688 jk 687
 have F47:=fQ (K:=kk w.params) "_law_easy" "_law_easy" yI 693 jk 692
 have F48:=fQ (K:=kk w.params) "_law_stands" "_law_stands" qF 783 jk 782
 have F49:=fQ (K:=kk w.params) "_law_named" "_law_named" uo 719 jk 718
 have F50:=fQ (K:=kk w.params) "_law_new_word" "_law_new_word" mL 726 jk 725
 have F51:=fQ (K:=kk w.params) "_law_place_word" "_law_place_word" j6 733 jk 732
 have F52:=fQ (K:=kk w.params) "_law_put_word" "_law_put_word" mK 738 jk 737
 have F53:=fQ (K:=kk w.params) "_law_join_word" "_law_join_word" kZ 745 jk 744
 have F54:=fQ (K:=kk w.params) "_law_take_word" "_law_take_word" kX 752 jk 751
 have F55:=fQ (K:=kk w.params) "_law_word" "_law_word" yz 759 jk 758
 have F56:=fQ (K:=kk w.params) "_law_any_name" "_law_any_name" mM 700 jk 699
 have F57:=fQ (K:=kk w.params) "_law_bent_deed" "_law_bent_deed" k9 707 jk 706
 have F58:=fQ (K:=kk w.params) "_law_wild" "_law_wild" yA 714 jk 713
 have F59:=fQ (K:=kk w.params) "_law_kinds" "_law_kinds" uq 764 jk 763
 have F60:=fQ (K:=kk w.params) "_law_told" "_law_told" yB 771 jk 770
 have F61:=fQ (K:=kk w.params) "law" "law" nH 790 jk 789
 refine⟨PySem.W.fnOf "law" "law" (gU nH) (gg nH) (dn nH) .none .none .none jk none (.ref 789) .none,fun s v=>.of_eq rfl,fun base X0 G0=>?_⟩
 have mj:=gZ (x := "NoTake") (C:=uK) (h:=base) X0 G0 (by kernel_rfl) (by kernel_rfl)
 have mq:=gZ (x := "BadBar") (C:=uN) (h:=base) X0 G0 (by kernel_rfl) (by kernel_rfl)
 have kA:=gZ (x := "BadName") (C:=oU) (h:=base) X0 G0 (by kernel_rfl) (by kernel_rfl)
 have pG:=gZ (x := "Taken") (C:=zR) (h:=base) X0 G0 (by kernel_rfl) (by kernel_rfl)
 have sN:=gZ (x := "Full") (C:=cFull) (h:=base) X0 G0 (by kernel_rfl) (by kernel_rfl)
 have mv:=gZ (x := "BadAge") (C:=uO) (h:=base) X0 G0 (by kernel_rfl) (by kernel_rfl)
 have jB:=gZ (x := "BadPlace") (C:=pE) (h:=base) X0 G0 (by kernel_rfl) (by kernel_rfl)
 have ig:=gZ (x := "BadBars") (C:=oV) (h:=base) X0 G0 (by kernel_rfl) (by kernel_rfl)
 have sM:=gZ (x := "Shut") (C:=cShut) (h:=base) X0 G0 (by kernel_rfl) (by kernel_rfl)
 have mn:=gZ (x := "Joined") (C:=uM) (h:=base) X0 G0 (by kernel_rfl) (by kernel_rfl)
 have ml:=gZ (x := "Needed") (C:=uL) (h:=base) X0 G0 (by kernel_rfl) (by kernel_rfl)
 have kz:=gZ (x := "BadSize") (C:=rO) (h:=base) X0 G0 (by kernel_rfl) (by kernel_rfl)
 have sP:=gZ (x := "BadMake") (C:=wt) (h:=base) X0 G0 (by kernel_rfl) (by kernel_rfl)
 have oZ:=gZ (x := "BadNumber") (C:=qg) (h:=base) X0 G0 (by kernel_rfl) (by kernel_rfl)
 have sO:=gZ (x := "BadText") (C:=wq) (h:=base) X0 G0 (by kernel_rfl) (by kernel_rfl)
 have lQ:=gZ (x := "NothingLeft") (C:=nj) (h:=base) X0 G0 (by kernel_rfl) (by kernel_rfl)
 have zY:OwnB "NoWay" cNoWay mg:=⟨aT X G (by kernel_rfl)⟩
 have oY:=gZ (x := "HissError") (C:=hV) (h:=base) X0 G0 (by kernel_rfl) (by kernel_rfl)
 have sR:z6 mg "LONGEST" 40:=⟨766,aT X G (by kernel_rfl)⟩
 have kO:z6 mg "MOST_LETTERS" 8:=⟨523,aT X G (by kernel_rfl)⟩
 have nv:z6 mg "MOST_TAKES" 20:=⟨525,aT X G (by kernel_rfl)⟩
 have wF:z6 mg "OLDEST" 20:=⟨527,aT X G (by kernel_rfl)⟩
 have zU:Tab lw.prog w (kk w.params) mg "DEEDS" [("put",a_put),("join",wy),("found",rR),("aged",wB),("drop",wA),("free",wz),("shut",wx)]:=tab_of (x := "DEEDS") (d:=368) (n:=7) [("put",703,327),("join",704,334),("found",705,341),("aged",706,348),("drop",707,353),("free",708,360),("shut",709,367)] X G (by kernel_rfl) (by kernel_rfl) (by decide)
 have M_put:mg "put"=some (.ref a_put):=aT X G (by kernel_rfl)
 have M_join:mg "join"=some (.ref wy):=aT X G (by kernel_rfl)
 have zZ:mg "found"=some (.ref rR):=aT X G (by kernel_rfl)
 have M_aged:mg "aged"=some (.ref wB):=aT X G (by kernel_rfl)
 have M_drop:mg "drop"=some (.ref wA):=aT X G (by kernel_rfl)
 have M_free:mg "free"=some (.ref wz):=aT X G (by kernel_rfl)
 have M_shut:mg "shut"=some (.ref wx):=aT X G (by kernel_rfl)
 have KA:∀ j,j<16->km (kk w.params) ju hV j:=k16 kB kB kB kB kB kB kB kB kB kB kB kB kB kB kB kB
 have C0:c_box lw.prog w (kk w.params) mg base:=fC X G F0 (ok_box F0 T ) (bd1 F0)
 have C1:ng lw.prog w (kk w.params) mg base:=fC X G F1 (ok_take F1 T ) (nV F1)
 have C2:c_bars lw.prog w (kk w.params) mg base:=fC X G F2 (ok_bars F2 T  C1) (nV F2)
 have C3:c_same lw.prog w (kk w.params) mg base:=fC X G F3 ((ok_same F3 T  (aT X G (by kernel_rfl)) F3.kp (nV F3)  5).imp fun vs H Q E h=>same_imp h) (nV F3)
 have C4:xU lw.prog w (kk w.params) mg base:=fC X G F4 (ok_is_bars F4 T ) (nV F4)
 have C5:c_joined lw.prog w (kk w.params) mg base:=fC X G F5 (ok_joined F5 T ) (bd3 F5)
 have C6:jA lw.prog w (kk w.params) mg base:=fC X G F6 (ok_with_key F6 T ) (bd3 F6)
 have C7:lN lw.prog w (kk w.params) mg base:=fC X G F7 (vm F7 T ) (nV F7)
 have C8:eX lw.prog w (kk w.params) mg base:=cali_of X G F8 (qL F8 T df) (bd5 F8)
 have C9:fT lw.prog w (kk w.params) mg base:=jg F9 (oB F9 T df mj) (nV F9)
 have C10:jN lw.prog w (kk w.params) mg base:=jg F10 (vp F10 T df C9) (nV F10)
 have C11:kL lw.prog w (kk w.params) mg base:=jg F11 (t9 F11 T df mq C10) (bd3 F11)
 have C12:gQ lw.prog w (kk w.params) mg base:=lI F12 (lX F12 T df C5) (bd1 F12)
 have C13:ni lw.prog w (kk w.params) mg base:=jg F13 (wZ F13 T df C9 C12) (nV F13)
 have C14:lO lw.prog w (kk w.params) mg base:=lI F14 (vo F14 T df C12) (bd1 F14)
 have C15:oR lw.prog w (kk w.params) mg base:=jf X G F15 (y3 F15 T df kA pG sN nv kO) (nV F15)
 have C16:oS lw.prog w (kk w.params) mg base:=jf X G F16 (y4 F16 T mv wF) (bd1 F16)
 have C17:jM lw.prog w (kk w.params) mg base:=jf X G F17 (vn F17 T df jB) (nV F17)
 have C18:c_put lw.prog w (kk w.params) mg base:=jf X G F18 (ok_put F18 T df ig C15 C4 C16 C6 C8) (nV F18)
 have C19:c_join lw.prog w (kk w.params) mg base:=jf X G F19 (ok_join F19 T df sM C15 C9 C17 C6 C8) (nV F19)
 have C20:c_found lw.prog w (kk w.params) mg base:=jf X G F20 (ok_found F20 T df ig C11 C6 C8) (nV F20)
 have C21:c_aged lw.prog w (kk w.params) mg base:=jf X G F21 (ok_aged F21 T df mn C10 C16 C6 C8) (nV F21)
 have C22:c_drop lw.prog w (kk w.params) mg base:=jf X G F22 (ok_drop F22 T df ml C9 C7 C8) (nV F22)
 have C23:c_free lw.prog w (kk w.params) mg base:=jf X G F23 (ok_free F23 T df C17 C7 C8) (nV F23)
 have C24:c_shut lw.prog w (kk w.params) mg base:=jf X G F24 (ok_shut F24 T df C17 C6 C8) (nV F24)
 have C25:oQ lw.prog w (kk w.params) mg base:=jf X G F25 (t6 F25 T zU M_put M_join zZ M_aged M_drop M_free M_shut C18 C19 C20 C21 C22 C23 C24) (nV F25)
 have C26:nK lw.prog w (kk w.params) mg base:=calix_of X G F26 (su F26 T dF df kz sR C8) (nV F26)
 have C27:gB lw.prog w (kk w.params) mg base:=lI F27 (ok_Room_now F27 T dF) (bd1 F27)
 have C28:tV lw.prog w (kk w.params) mg base:=jg F28 (y9 F28 T dF C27 C25) (nV F28)
 have C29:rN lw.prog w (kk w.params) mg base:=lI F29 (xf F29 T dF) (bd1 F29)
 have C30:tU lw.prog w (kk w.params) mg base:=lI F30 (y7 F30 T dF df C27) (bd1 F30)
 have C31:rM lw.prog w (kk w.params) mg base:=lI F31 (xc F31 T dF df C27) (bd1 F31)
 have C32:tX lw.prog w (kk w.params) mg base:=jg F32 (zb F32 T dF df C27 C13) (nV F32)
 have C33:wm lw.prog w (kk w.params) mg base:=jg F33 (ok_Room_age F33 T dF df C27 C13) (nV F33)
 have C34:rL lw.prog w (kk w.params) mg base:=jg F34 (xb F34 T dF df C27 C10) (nV F34)
 have C35:pT lw.prog w (kk w.params) mg base:=jg F35 (vq F35 T dF df C27 C11) (bd3 F35)
 have C36:tW lw.prog w (kk w.params) mg base:=lI F36 (za F36 T dF df C27 C14) (bd1 F36)
 have C37:rK lw.prog w (kk w.params) mg base:=lI F37 (xa F37 T dF df C27 C14) (bd1 F37)
 have C38:c_names lw.prog w (kk w.params) mg base:=fC X G F38 (ok_names F38 T  C1) (nV F38)
 have C39:c_begun lw.prog w (kk w.params) mg base:=fC X G F39 (ok_begun F39 T dF C1 C26 C38) (nV F39)
 have C40:rJ lw.prog w (kk w.params) mg base:=fC X G F40 (ok_origin F40 T ) (bd3 F40)
 have C41:c_ages lw.prog w (kk w.params) mg base:=fC X G F41 (ok_ages F41 T ) (bd1 F41)
 have C42:c_heard lw.prog w (kk w.params) mg base:=fC X G F42 (ok_heard F42 T  C40) (nV F42)
 have C43:c_takes lw.prog w (kk w.params) mg base:=fC X G F43 (ok_takes F43 T  C41 C42) (bd1 F43)
 have C44:c_open lw.prog w (kk w.params) mg base:=fC X G F44 (ok_open F44 T ) (bd1 F44)
 have C45:c_done lw.prog w (kk w.params) mg base:=fC X G F45 (ok_done F45 T  C40) (nV F45)
 have C46:c_lone lw.prog w (kk w.params) mg base:=fC X G F46 (ok_lone F46 T ) (bd1 F46)
 have C47:c_easy lw.prog w (kk w.params) mg base:=fC X G F47 (ok_easy F47 T  C1 C44 C2 C46) (bd3 F47)
 have C48:c_stands lw.prog w (kk w.params) mg base:=fC X G F48 (ok_stands F48 T dF C3 C30 C31 C43 C37 C36 C44 C34 C32 C33 C35 C40) (nV F48)
 have C49:c_named lw.prog w (kk w.params) mg base:=fC X G F49 (ok_named F49 T ) (bd1 F49)
 have C50:qe lw.prog w (kk w.params) mg base:=fC X G F50 (ok_new_word F50 T  C49) (nV F50)
 have C51:nh lw.prog w (kk w.params) mg base:=fC X G F51 (wY F51 T ) (nV F51)
 have C52:wg lw.prog w (kk w.params) mg base:=fC X G F52 (ok_put_word F52 T  C50) (nV F52)
 have C53:tS lw.prog w (kk w.params) mg base:=fC X G F53 (y0 F53 T  C50 C51) (nV F53)
 have C54:tR lw.prog w (kk w.params) mg base:=fC X G F54 (yZ F54 T ) (nV F54)
 have C55:c_word lw.prog w (kk w.params) mg base:=fC X G F55 (ok_word F55 T  C52 C53 C51 C54) (nV F55)
 have C56:wj lw.prog w (kk w.params) mg base:=fC X G F56 (ok_any_name F56 T  C1) (bd3 F56)
 have C57:tT lw.prog w (kk w.params) mg base:=fC X G F57 (y6 F57 T  C1 C56) (bd4 F57)
 have C58:c_wild lw.prog w (kk w.params) mg base:=fC X G F58 (ok_wild F58 T  C47 C1 C57) (bd3 F58)
 have C59:c_kinds lw.prog w (kk w.params) mg base:=calh_of X G F59 (ok_kinds F59 T TV ig sP oZ sO kA mv mq jB kz pG sN mj sM mn ml lQ zY) (bd1 F59)
 have C60:c_told lw.prog w (kk w.params) mg base:=fC X G F60 (ok_told F60 T dF oY C28 C59) (nV F60)
 exact ok_law F61 T dF KA C0 C1 C39 C58 C55 C3 C60 C45 C48 C29
end Pf
theorem PySem.Challenge.cw_hissroom_k33_deeds_refused_holds : PySem.Challenge.rw_hissroom_k33_deeds_refused.Holds :=
 Pf.holds Pf.fin